import PyProof.Rows.All
import Wide.All
import OpenK.AllK
import Wide.FinOn
import Lean
import PyProof.EqAt
import PyProof.EqKinds
import PyProof.TupleCall
import PyProof.NeKinds
import PyProof.CompFree
import PyProof.CompMap
import PyProof.ListRange
import PyProof.Rows.SortWalk
import PyProof.ExcArgsOwn
import PyProof.ExcAttrAll.ValueError
import KE.KTryMore
import PyProof.GenCompD
import PyProof.StrWalks
import PyProof.ConsumeS
import PyProof.StrOps2
import KE.KRevIter
import PyProof.ZipIter
import PyProof.DictWalks
import PyProof.DictCompW
import PyProof.DictRoads
import PyProof.MeetsDictList
import KE.KDictList
import PyProof.EnumFor
import PyProof.EnumMake
import PyProof.WalksEnum
import KE.KDictOf
import PySem.Challenge.RW_overhaul_k31_what_a_lane_told
noncomputable section
set_option compiler.extract_closed false
set_option Elab.async false
set_option linter.all false
set_option maxRecDepth 100000
open List renaming length_map→Th,mem_map→Ti,getElem?_eq_some_iff→Tj,getElem?_eq_getElem→Tn,mem_of_getElem?→To,getElem?_map→Tq,map_append→Ts,map_cons→Tt,size_toArray→Tu,mem_append→Tv,map_map→Tw,mem_singleton→Tx,mem_append_right→Tz,mem_filter→TB,mem_cons→TC,map_congr_left→TL,mem_iff_getElem?→TM,length_append→TN,mem_cons_of_mem→TQ,take_add_one→TR,length_cons→TU,length_take→TX,getElem_mem→TY,not_mem_nil→TZ,take_length→T1,getLast?_concat→T2,filter_cons→T5,mem_cons_self→T6,lookup_cons→T7,mem_of_mem_take→T8,dropLast_concat_getLast→T9,getElem_of_mem→T_,getElem?_cons_succ→T',getElem?_zip_eq_some→Ua,pairwise_iff_getElem→Ub,map_nil→Uc,getElem?_set_self→Ud,take_of_length_le→Ue,filterMap_cons→Ug,filter_eq_self→Ui,append_nil→Uj,filter_map→Uk,getElem_inj→Um,getElem_map→Uo,take_sublist→Up,nodup_append→Uq,getElem?_append_right→Ur,getElem?_eq_none→Ut,length_filter_le→Uu,map_take→Uv,replicate→Uw,getElem?_append_left→Ux,getElem?_set_ne→Uy,dropLast_concat→Uz,nodup_cons→UB,length_drop→UD,range→UG,cons_lt_cons_iff→UI,reverse_cons→UJ,exists_cons_of_ne_nil→UK,mem_append_left→UL,drop_eq_getElem_cons→UM,mem_flatMap→UO,length→UP,mem_filterMap→UQ,length_set→UR,any_cons→US,getElem?_cons_zero→UT,map→UU,filter_append→UW,length_nil→UX,length_zip→UY,pairwise_cons→UZ,getElem?_tail→U1,map_drop→U2,lookup→U3,eraseIdxIfInBounds_toArray→U4,mem_range→U5,take_append_drop→U7,all_eq_true→U8,head?_cons→U',mem_map_of_mem→Va,filter_sublist→Vb,getElem?_drop→Vd,map_id'→Ve,drop_zero→Vf,getElem?_eq_none_iff→Vg,length_range→Vi,foldl_append→Vj,append_assoc→Vl,eraseIdx_cons_succ→Vm,lookup_eq_some_iff→Vn,any_eq_true→Vp,filter_eq_nil_iff→Vr,of_mem_zip→Vt,dropLast_eq_take→Vu,filter_nil→Vv,eq_nil_or_concat→Vx,concat_eq_append→Vy,pairwise_append→VA,nodup_nil→VB,length_reverse→VC,getElem?_range→VD,all_cons→VE,zip_cons_cons→VF,getElem?_take→VG,nil_lt_cons→VN,forIn_cons→VQ,getD→Wf
open Nat renaming le_refl→Tr,lt_of_lt_of_le→TF,le_trans→TK,ne_of_lt→TV,zero_le→T3,lt_of_le_of_lt→Ul,lt_irrefl→Us,le_add_right→UE,lt_succ_self→UN,lt_or_eq_of_le→U0,not_lt_zero→U_,le_of_lt→Vc,mul_div_cancel_left→Vo,ne_of_gt→Vs,lt_trichotomy→VI,min_self→VL,min_eq_left→VR
open Bool renaming false_ne_true→TH,false_eq_true→TJ,and_eq_true→T4,eq_iff_iff→UA,and_true→UC,decide_and→UH,and_false→U6,eq_false_iff→Vk,beq_eq_decide_eq→Vw,and_eq_true_iff→Vz,not_eq_true'→VH
open Option renaming some→Uh,map_some→U9,isSome_iff_exists→Vh,map_eq_some_iff→Vq,getD_none→VM
namespace L2
open PySem PySem.Spec PyProof.Rows
abbrev Key:=Sum Int Str
def J_:Key→Value→Bool
 | .inl k,v=>Value.isInt k v
 | .inr x,v=>Value.isStrOf x v
def Q5 (w:World):Key→Int
 | .inl k=>hashInt k
 | .inr x=>hashStr w x
theorem cQ:∀{k:Key} {v:Value},J_ k v=true→(∃i t,k=Sum.inl i∧v=Value.int i t)∨(∃x t,k=Sum.inr x∧v=Value.str x t)
 | .inl i,v,h=>by
  obtain ⟨t,e⟩:=Value.isInt_shape (k:=i) (v:=v) h
  exact .inl ⟨i,t,rfl,e⟩
 | .inr x,v,h=>by
  obtain ⟨t,e⟩:=Value.isStrOf_shape (x:=x) (v:=v) h
  exact .inr ⟨x,t,rfl,e⟩
theorem LL (a b:Int):decide ((Sum.inl a:Key)=Sum.inl b)=(a == b):=by
 by_cases e:a=b
 ·subst e;simp
 ·have h:¬ (Sum.inl a:Key)=Sum.inl b:=λq=>e (Sum.inl.inj q)
  rw [decide_eq_false h]
  exact (beq_eq_false_iff_ne.mpr e).symm
theorem LP (a b:Str):decide ((Sum.inr a:Key)=Sum.inr b)=decide (a=b):=by
 by_cases e:a=b
 ·subst e;simp
 ·have h:¬ (Sum.inr a:Key)=Sum.inr b:=λq=>e (Sum.inr.inj q)
  rw [decide_eq_false h,decide_eq_false e]
theorem LM (a:Int) (b:Str):decide ((Sum.inl a:Key)=Sum.inr b)=false:=decide_eq_false (λq=>nomatch q)
theorem LN (a:Str) (b:Int):decide ((Sum.inr a:Key)=Sum.inl b)=false:=decide_eq_false (λq=>nomatch q)
def Ia (prog:Program) (w:World):PySem.KeyKind prog w Key where
 is:=J_
 hash:=Q5 w
 inj:=λv a b ha hb=>by
  rcases cQ ha with ⟨i,t,rfl,rfl⟩ | ⟨x,t,rfl,rfl⟩
  ·rcases cQ hb with ⟨j,u,rfl,e⟩ | ⟨y,u,rfl,e⟩
   ·injection e with e1 _;rw [e1]
   ·exact nomatch e
  ·rcases cQ hb with ⟨j,u,rfl,e⟩ | ⟨y,u,rfl,e⟩
   ·exact nomatch e
   ·injection e with e1 _;rw [e1]
 byValue:=λk v h=>by
  rcases cQ h with ⟨i,t,rfl,rfl⟩ | ⟨x,t,rfl,rfl⟩ <;> rfl
 pyHash:=λhv h=>by
  rcases cQ hv with ⟨i,t,rfl,rfl⟩ | ⟨x,t,rfl,rfl⟩
  ·exact wpAny_pyHash_int h
  ·exact wpAny_pyHash_str h
 eqBool:=λhu hv h=>by
  rcases cQ hu with ⟨i,t,rfl,rfl⟩ | ⟨x,t,rfl,rfl⟩
  ·rcases cQ hv with ⟨j,u,rfl,rfl⟩ | ⟨y,u,rfl,rfl⟩
   ·rw [LL] at h;exact wpAny_eqBool_int h
   ·rw [LM] at h;exact SeqAt.EqAt.int_str i t y u _ _ _ _ h
  ·rcases cQ hv with ⟨j,u,rfl,rfl⟩ | ⟨y,u,rfl,rfl⟩
   ·rw [LN] at h;exact SeqAt.EqAt.str_int x t j u _ _ _ _ h
   ·rw [LP] at h;exact wpAny_eqBool_str h
 «strs»:=λk x t v h=>by
  rcases cQ h with ⟨i,u,rfl,e⟩ | ⟨y,u,rfl,e⟩
  ·exact nomatch e
  ·injection e with e1 _
   subst e1
   cases v <;> rfl
end L2
namespace L2
open PySem PySem.Spec PyProof.Rows
inductive V where
 | non | bl (b:Bool) | int (i:Int) | str (x:Str) | byt (b:Array UInt8) | flt (b:UInt64) | ref (a:Addr) | ty (n:String)
 deriving DecidableEq
def RelV:V→Value→Prop
 | .non,u=>u=Value.none
 | .bl b,u=>u=Value.bool b
 | .int i,u=>∃t,u=Value.int i t
 | .str x,u=>∃t,u=Value.str x t
 | .byt b,u=>∃t,u=Value.bytes b t
 | .flt b,u=>∃t,u=Value.float b t
 | .ref a,u=>u=Value.ref a
 | .ty n,u=>u=Value.type n
abbrev Vals:List V→List Value→Prop:=Paired RelV
theorem Vals.length {xs:List V} {us:List Value} (r:Vals xs us):xs.length=us.length:=Paired.length r
theorem Vals.get:∀{xs:List V} {us:List Value} {i:Nat} {x:V},Vals xs us→xs[i]?=some x→∃u,us[i]?=some u∧RelV x u
 | _,_,_,_,.nil,e=>by simp at e
 | _,_,0,_,.cons r _,e=>by simp at e;subst e;exact ⟨_,rfl,r⟩
 | _,_,i + 1,x,.cons _ t,e=>by
  obtain ⟨u,h1,h2⟩:=Vals.get (i:=i) (x:=x) t (by simpa using e)
  exact ⟨u,by simpa using h1,h2⟩
theorem Vals.set {x:V} {u:Value} (r:RelV x u):∀{xs:List V} {us:List Value} (i:Nat),Vals xs us→Vals (xs.set i x) (us.set i u)
 | _,_,_,.nil=>.nil
 | _,_,0,.cons _ t=>.cons r t
 | _,_,i + 1,.cons q t=>.cons q (Vals.set r i t)
theorem Vals.append:∀{xs ys:List V} {us ws:List Value},Vals xs us→Vals ys ws→Vals (xs ++ ys) (us ++ ws)
 | _,_,_,_,.nil,s=>s
 | _,_,_,_,.cons r t,s=>.cons r (Vals.append t s)
theorem Vals.take:∀{xs:List V} {us:List Value} (n:Nat),Vals xs us→Vals (xs.take n) (us.take n)
 | _,_,0,_=>.nil
 | _,_,_ + 1,.nil=>.nil
 | _,_,n + 1,.cons r t=>.cons r (Vals.take n t)
theorem Vals.drop:∀{xs:List V} {us:List Value} (n:Nat),Vals xs us→Vals (xs.drop n) (us.drop n)
 | _,_,0,r=>r
 | _,_,_ + 1,.nil=>.nil
 | _,_,n + 1,.cons _ t=>Vals.drop n t
def uc:Option V→Option Value→Prop
 | some v,some u=>RelV v u
 | none,none=>True
 | _,_=>False
def KV {κ:Type}:List (κ × V)→List (κ × Value)→Prop:=Paired λ(p:κ × V) (q:κ × Value)=>p.1=q.1∧RelV p.2 q.2
def kV:Key→V
 | .inl i=>.int i
 | .inr x=>.str x
inductive HO where
 | lst (xs:List V)
 | tup (xs:List V)
 | dK (kvs:List (Key × V)) | dE (kvs:List (Str × V)) (ep:Nat)
 | set (S:Int→Bool) (n:Nat)
 | ins (C dx:Addr) (fs:List (Str × V))
 | own (x:Addr)
 | xd (fs:List (Str × V))
 | met (f x:Addr)
 | Ny (lo hi:Int)
 | oN (o:Obj) (u:HO)
 | tbl (ps:Array Value)
 | ext (φ:Heap→Prop)
abbrev Hp:=Addr→Option HO
def upd (H:Hp) (a:Addr) (o:HO):Hp:=λb=>if b=a then some o else H b
theorem aK {H:Hp} {a:Addr} {o:HO}:upd H a o a=some o:=by unfold upd;rw [if_pos rfl]
theorem aW {H:Hp} {a b:Addr} {o:HO} (h:b≠a):upd H a o b=H b:=by unfold upd;rw [if_neg h]
theorem cA {H:Hp} {a b:Addr} {o:HO} (h:H a=some o) (h':H b=none):a≠b:=by
 intro e;subst e;rw [h] at h';cases h'
section
variable (P:Program) (w:World)
def dF (H:Hp) (h:Heap) (a:Addr):HO→Prop
 | .lst xs=>xs.length≤sizeLine∧∃(its:List Value) (n:Nat),Vals xs its∧h.get? a=some { cls:=.type "list",data:=.seq its.toArray n }
 | .tup xs=>xs.length≤sizeLine∧∃its:List Value,Vals xs its∧IsTup h a its.toArray
 | .dK kvs=>kvs.length≤sizeLine∧(a == sysModules)=false∧∃vs,KV kvs vs∧h.DictOf (Ia P w) a vs
 | .dE kvs ep=>kvs.length≤sizeLine∧(a == sysModules)=false∧∃vs,KV kvs vs∧h.DictAt (strKind P w) a vs ep
 | .set S n=>h.SetOf (intKind P w) a S n
 | .ins C dx fs=>H dx=some (.own a)∧fs.length≤1000∧dx≠a∧h.get? a=some (PySem.W.instObj C dx) ∧
   ∃mA,h.Ns1 dx mA∧(∀f,uc (fs.lookup f) (mA f))∧PySem.Within mA (fs.map (·.1))
 | .own _=>∃o,h.get? a=some o
 | .xd fs=>∃mA,h.Ns1 a mA∧∀f,uc (fs.lookup f) (mA f)
 | .Ny lo hi=>∃t u v,h.get? a=some { cls:=.type "range",data:=.fields #[.int lo t,.int hi u,.int 1 v] }
 | .oN o u=>h.get? a=some o∧dF H h a u
 | .tbl ps=>h.get? a=some { cls:=.none,data:=.fields ps }
 | .met f x=>h.get? a=some (PySem.W.methodObj (.ref f) (.ref x))
 | .ext φ=>φ h∧(∃o,h.get? a=some o)∧∀h1 h2:Heap,φ h1→(∀o,h1.get? a=some o→h2.get? a=some o)→φ h2
def mT (H:Hp) (h:Heap):Prop:=∀a o,H a=some o→dF P w H h a o
end
section
variable {P:Program} {w:World} {H H':Hp} {h h':Heap} {a:Addr} {o:HO}
theorem dF.lt (x:dF P w H h a o):a < h.objs.size:=by
 cases o with
 | lst xs=>obtain ⟨_,_,_,_,e⟩:=x;exact Heap.lt_size e
 | tup xs=>obtain ⟨_,_,_,p⟩:=x;exact p.lt
 | dK kvs=>obtain ⟨_,_,_,_,o,_,_,e,_⟩:=x;exact Heap.lt_size e
 | dE kvs ep=>obtain ⟨_,_,_,_,o,_,e,_⟩:=x;exact Heap.lt_size e
 | set S n=>obtain ⟨o,_,_,_,e,_⟩:=x;exact Heap.lt_size e
 | ins C dx fs=>obtain ⟨_,_,_,e,_⟩:=x;exact Heap.lt_size e
 | own y=>obtain ⟨_,e⟩:=x;exact Heap.lt_size e
 | xd fs=>obtain ⟨_,⟨_,_,_,e,_⟩,_⟩:=x;exact Heap.lt_size e
 | Ny lo hi=>obtain ⟨_,_,_,e⟩:=x;exact Heap.lt_size e
 | oN ob u=>obtain ⟨e,_⟩:=x;exact Heap.lt_size e
 | tbl ps=>exact Heap.lt_size (show h.get? a=some _ from x)
 | met f y=>exact Heap.lt_size (show h.get? a=some _ from x)
 | ext φ=>obtain ⟨_,⟨_,e⟩,_⟩:=x;exact Heap.lt_size e
theorem dF.mQ (x:dF P w H h a o) (k:∀b u,(b=a∨H b=some (.own a))→h.get? b=some u→h'.get? b=some u)
  (ho:∀b,H b=some (.own a)→H' b=some (.own a)) (ht:∀b xs,H b=some (.tup xs)→H' b=some (.tup xs)):dF P w H' h' a o:=by
 induction o with
 | lst xs=>obtain ⟨z,its,n,r,e⟩:=x;exact ⟨z,its,n,r,k _ _ (.inl rfl) e⟩
 | tup xs=>obtain ⟨z,its,r,ob,e,c⟩:=x;exact ⟨z,its,r,ob,k _ _ (.inl rfl) e,c⟩
 | dK kvs=>obtain ⟨z,y,vs,r,ob,es,ep,e,c⟩:=x;exact ⟨z,y,vs,r,ob,es,ep,k _ _ (.inl rfl) e,c⟩
 | dE kvs ep=>obtain ⟨z,y,vs,r,ob,es,e,c⟩:=x;exact ⟨z,y,vs,r,ob,es,k _ _ (.inl rfl) e,c⟩
 | set S n=>obtain ⟨ob,es,ep,t,e,c⟩:=x;exact ⟨ob,es,ep,t,k _ _ (.inl rfl) e,c⟩
 | ins C dx fs =>
  obtain ⟨d,z,ne,e,mA,⟨od,es,ep,e2,c⟩,r⟩:=x
  exact ⟨ho _ d,z,ne,k _ _ (.inl rfl) e,mA,⟨od,es,ep,k _ _ (.inr d) e2,c⟩,r⟩
 | own y=>obtain ⟨ob,e⟩:=x;exact ⟨ob,k _ _ (.inl rfl) e⟩
 | xd fs=>obtain ⟨mA,⟨od,es,ep,e,c⟩,r⟩:=x;exact ⟨mA,⟨od,es,ep,k _ _ (.inl rfl) e,c⟩,r⟩
 | Ny lo hi=>obtain ⟨t,u,v,e⟩:=x;exact ⟨t,u,v,k _ _ (.inl rfl) e⟩
 | oN ob u ih=>obtain ⟨e,q⟩:=x;exact ⟨k _ _ (.inl rfl) e,ih q⟩
 | tbl ps =>
  have e:h.get? a=some { cls:=.none,data:=.fields ps }:=x
  show h'.get? a=some { cls:=.none,data:=.fields ps }
  exact k a _ (.inl rfl) e
 | met f y =>
  have e:h.get? a=some (PySem.W.methodObj (.ref f) (.ref y)):=x
  show h'.get? a=some (PySem.W.methodObj (.ref f) (.ref y))
  exact k a _ (.inl rfl) e
 | ext φ=>obtain ⟨p,⟨o,e⟩,st⟩:=x;exact ⟨st _ _ p λo q=>k _ _ (.inl rfl) q,⟨o,k _ _ (.inl rfl) e⟩,st⟩
theorem mT.lt (x:mT P w H h) (e:H a=some o):a < h.objs.size:=(x a o e).lt
theorem mT.fresh (x:mT P w H h) (e:h.objs.size≤a):H a=none:=by
 cases q:H a with
 | none=>rfl
 | some u=>exact absurd (TF (x.lt q) e) (Us _)
theorem mT.kept (x:mT P w H h) (k:∀b u,h.get? b=some u→h'.get? b=some u):mT P w H h':=λa o e =>
 (x a o e).mQ (λb u _ q=>k b u q) (λ_ q=>q) λ_ _ q=>q
theorem mT.laid (x:mT P w H h) (k:∀b u,h.get? b=some u→h'.get? b=some u) (hp:h.objs.size≤a) (new:dF P w (upd H a o) h' a o):mT P w (upd H a o) h':=λb u e=>by
 have hn:=x.fresh hp
 by_cases hb:b=a
 ·subst hb;rw [aK] at e;cases e;exact new
 ·rw [aW hb] at e
  exact (x b u e).mQ (λc v _ q=>k c v q) (λc q=>by rw [aW (cA q hn)];exact q) λc xs q=>by rw [aW (cA q hn)];exact q
end
def Rd (H:Hp) (a:Addr) (u:HO):Prop:=H a=some u∨∃o,H a=some (.oN o u)
theorem Rd.ok {P:Program} {w:World} {H:Hp} {h:Heap} {a:Addr} {u:HO} (r:Rd H a u) (x:mT P w H h):dF P w H h a u:=by
 rcases r with r | ⟨o,r⟩
 ·exact x a u r
 ·obtain ⟨_,q⟩:=x a _ r
  exact q
def P8:Option HO→Prop
 | some (.lst _)=>True
 | some (.dK _)=>True
 | some (.dE _ _)=>True
 | some (.set _ _)=>True
 | some (.ins _ _ _)=>True
 | some (.ext _)=>True
 | _=>False
section
variable {P:Program} {w:World} {H:Hp} {h h':Heap} {x e:Addr} {o':HO}
theorem mT.write (ok:mT P w H h) (mu:P8 (H x)) (he:e=x∨H e=some (.own x)) (k:∀b u,b≠e→h.get? b=some u→h'.get? b=some u) (heo:∃u,h'.get? e=some u)
  (new:dF P w (upd H x o') h' x o'):mT P w (upd H x o') h':=λb u q=>by
 have nown:∀c y,H c=some (.own y)→c≠x:=λc y r z=>by subst z;rw [r] at mu;exact mu
 have ntup:∀c xs,H c=some (.tup xs)→c≠x:=λc xs r z=>by subst z;rw [r] at mu;exact mu
 by_cases hb:b=x
 ·subst hb;rw [aK] at q;cases q;exact new
 ·rw [aW hb] at q
  by_cases hbe:b=e
  ·have q':H b=some (.own x):=by
    rcases he with z | z
    ·exact absurd (hbe.trans z) hb
    ·rw [hbe];exact z
   rw [q] at q';cases q'
   obtain ⟨v,hv⟩:=heo
   exact ⟨v,by rw [hbe];exact hv⟩
  ·refine (ok b u q).mQ (λc v hc r=>k c v ?_ r) (λc r=>by rw [aW (nown c b r)];exact r) λc xs r=>by rw [aW (ntup c xs r)];exact r
   rcases hc with rfl | hc
   ·exact hbe
   ·rintro rfl
    rcases he with z | z
    ·exact nown c b hc z
    ·rw [hc] at z;cases z;exact hb rfl
end
structure Un (fs ex:List Addr) (H H':Hp) (h h':Heap):Prop where
 keep:∀b o,h.get? b=some o→H b=none→b ∉ fs→b ∉ ex→h'.get? b=some o
 slot:∀b o,h.get? b=some o→H b=none→b∈fs→b ∉ ex→∃sl,h'.get? b=some { o with slots:=sl }
 free:∀b o,h.get? b=some o→H b=none→b ∉ ex→H' b=none
 there:∀b o,h.get? b=some o→b ∉ ex→∃o',h'.get? b=some o'
 tups:∀b xs,H b=some (.tup xs)→H' b=some (.tup xs)
 frzs:∀b o u,H b=some (.oN o u)→H' b=some (.oN o u)
 tbls:∀b ps,H b=some (.tbl ps)→∃more,H' b=some (.tbl (ps ++ more))
section
variable {fs fs' ex ex':List Addr} {H H1 H2:Hp} {h h1 h2 h':Heap} {a x e:Addr} {o:HO}
theorem Un.any (u:Un fs ex H H1 h h1) {b:Addr} {ob:Obj} (q:h.get? b=some ob) (n:H b=none) (hx:b ∉ ex):∃sl,h1.get? b=some { ob with slots:=sl }:=by
 by_cases hb:b∈fs
 ·exact u.slot b ob q n hb hx
 ·exact ⟨ob.slots,u.keep b ob q n hb hx⟩
theorem Un.kept (k:∀b u,h.get? b=some u→h'.get? b=some u):Un fs ex H H h h' :=
 ⟨λb ob q _ _ _=>k b ob q,λb ob q _ _ _=>⟨ob.slots,k b ob q⟩,λ_ _ _ n _=>n,λb ob q _=>⟨ob,k b ob q⟩,λ_ _ q=>q,λ_ _ _ q=>q,λ_ ps q=>⟨#[],by rw [q];simp⟩⟩
theorem Un.refl:Un fs ex H H h h:=Un.kept λ_ _ q=>q
theorem Un.laid (k:∀b u,h.get? b=some u→h'.get? b=some u) (hp:h.objs.size≤a) (hn:H a=none):Un fs ex H (upd H a o) h h' where
 keep:=λb u q _ _ _=>k b u q
 slot:=λb u q _ _ _=>⟨u.slots,k b u q⟩
 free:=λb u q n _=>by rw [aW (TV (TF (Heap.lt_size q) hp))];exact n
 there:=λb u q _=>⟨u,k b u q⟩
 tups:=λb xs q=>by rw [aW (cA q hn)];exact q
 frzs:=λb u xs q=>by rw [aW (cA q hn)];exact q
 tbls:=λb ps q=>⟨#[],by rw [aW (cA q hn),q];simp⟩
theorem Un.write (mu:P8 (H x)) (he:e=x∨H e=some (.own x)) (k:∀b u,b≠e→h.get? b=some u→h'.get? b=some u) (heo:∃u,h'.get? e=some u):Un fs ex H (upd H x o) h h':=by
 have hx:∀b,H b=none→b≠x:=λb n z=>by subst z;rw [n] at mu;exact mu
 have hb:∀b,H b=none→b≠e:=λb n z=>by
  subst z
  rcases he with r | r
  ·exact hx b n r
  ·rw [n] at r;cases r
 have hm:∀b u,H b=some u→¬ P8 (some u)→b≠x:=λb u q nm z=>by subst z;rw [q] at mu;exact nm mu
 refine ⟨λb u q n _ _=>k b u (hb b n) q,λb u q n _ _=>⟨u.slots,k b u (hb b n) q⟩,λb u q n _=>by rw [aW (hx b n)];exact n,λb u q _=>?_,
  λb xs q=>by rw [aW (hm b _ q λz=>z)];exact q,λb u xs q=>by rw [aW (hm b _ q λz=>z)];exact q,λb ps q=>⟨#[],by rw [aW (hm b _ q λz=>z),q];simp⟩⟩
 by_cases hbe:b=e
 ·subst hbe;exact heo
 ·exact ⟨u,k b u hbe q⟩
end
def Qn (h:Heap) (H:Hp):List Addr:=(UG h.objs.size).filter λa=>(H a).isSome
def ud (h:Heap) (H:Hp):Heap:=PySem.W.hideAll h (Qn h H)
theorem C9 (h:Heap) (H:Hp):(ud h H).objs.size=h.objs.size:=PySem.W.hideAll_size _ _
theorem EY {h:Heap} {H:Hp} {b:Addr} {o:Obj} (e:h.get? b=some o) (n:H b=none):(ud h H).get? b=some o :=
 PySem.W.hideAll_get _ e λhm=>by
  have q:(H b).isSome=true:=(TB.mp hm).2
  rw [n] at q;simp at q
theorem Ik {h:Heap} {H:Hp} {b:Addr} {o:Obj} (e:(ud h H).get? b=some o):h.get? b=some o∧H b=none:=by
 have e':h.get? b=some o:=PySem.W.of_hideAll (Qn h H) e
 refine ⟨e',?_⟩
 cases q:H b with
 | none=>rfl
 | some x =>
  have hm:b∈Qn h H:=TB.mpr ⟨U5.mpr (Heap.lt_size e'),by simp [q]⟩
  have z:(ud h H).get? b=none:=PySem.W.hideAll_none (Qn h H) hm
  rw [z] at e;cases e
def Hz (g h:Heap) (L:Addr):List (Addr × Obj):=(UG h.objs.size).filterMap λa=>if a=L∨(g.get? a).isSome=true then none else (h.get? a).map λo=>(a,o)
def rest (g h:Heap) (L d:Addr):List (Addr × Obj):=(Hz g h L).filter λp=>decide (p.1≠d)
end L2
namespace L2
open PySem PySem.Spec PyProof.Rows
structure Mod (K:PySem.W.Frag) (mg:Str→Option Value) (base:Heap):Prop where
 kin:K.In base
 glob:base.Ns mainGlobals mg
 blt:∃mb,base.Ns builtinsNs mb∧∀x:Str,x≠"__name__"→mb x=bootBuiltins x
 nolimit:base.NoLimit
structure Cx where
 prog:Program
 w:World
 K:PySem.W.Frag
 mg:Str→Option Value
 base:Heap
 A:Around
 N:List Str
 s₀:Shared
 H₀:Hp
 env:Env
 outer:List Env
 stack:List Env
 ex:List Addr
 fn:Str→Bool
 calm:Bool
 pn:List (Addr × Obj)
 xe:Value→Shared→Prop
def j7 (l:List Env):List Addr:=l.filterMap (·.frame)
abbrev Cx.fs (X:Cx):List Addr:=j7 X.outer
def vM (sc:Scope) (x:Str):Prop:=sc.names.lookup x=some .local∨sc.names.lookup x=some .cell∨sc.names.lookup x=some .free
def Loc (sc:Scope) (x:Str):Prop:=sc.names.lookup x=some .local∨sc.names.lookup x=some .cell
def Look (env:Env) (h:Heap) (m:Str→Option Value) (x:Str) (u:Value):Prop :=
 (env.kindOf x=some .local∧m x=some u)∨((env.kindOf x=some .cell∨env.kindOf x=some .free)∧∃c,env.cells.lookup x=some c∧h.IsCell c (some u))
structure Cx.Ok (X:Cx):Prop where
 mod:Mod X.K X.mg X.base
 kind:X.env.scope.kind=.function
 glob:X.env.globals=mainGlobals
 blt:X.env.builtins=builtinsNs
 above:X.s₀.heap.objs.size≤X.env.locals
 inj:∀x y c,X.env.cells.lookup x=some c→X.env.cells.lookup y=some c→x=y
 has:∀x,(X.env.kindOf x=some .cell∨X.env.kindOf x=some .free)→∃c,X.env.cells.lookup x=some c
 cab:∀x c,X.fn x=true→X.env.cells.lookup x=some c→X.s₀.heap.objs.size≤c
 hd:X.calm=true→X.A.handled=none
 frames:X.A.frames=some X.stack
 stk:X.stack=X.outer∨(X.stack=X.env :: X.outer∧X.env.frame=some X.env.locals)
 exf:∀b∈X.ex,b≠X.env.locals∧∀x c,X.env.cells.lookup x=some c→c≠b
 bs:∀b o,X.base.get? b=some o→X.s₀.heap.get? b=some o∧X.H₀ b=none
 bsz:X.base.objs.size≤X.s₀.heap.objs.size
 noex:∀b o,X.base.get? b=some o→b ∉ X.ex
 exfs:∀b∈X.ex,b ∉ X.fs
 oO:X.s₀.heap.FunFrames X.base X.outer
 frf:∀b∈X.fs,X.H₀ b=none
structure Inv (X:Cx) (pins:List (Addr × Obj)) (σ:List (Option V)) (H:Hp) (s:Shared):Prop where
 ok:X.Ok
 os:s.os=X.s₀.os
 bare:AllBare s.gens
 base:Un X.fs X.ex X.H₀ H X.s₀.heap s.heap
 loc:∃m,s.heap.Ns X.env.locals m∧∀(i:Nat) (x:Str) (v:V),X.N[i]?=some x→σ[i]?=some (some v)→vM X.env.scope x→∃u,RelV v u∧Look X.env s.heap m x u
 cell:∀x c,X.env.cells.lookup x=some c→∃v,s.heap.IsCell c v
 free:H X.env.locals=none
 freeC:∀x c,X.env.cells.lookup x=some c→H c=none
 pin:∀p∈X.pn ++ pins,s.heap.get? p.1=some p.2∧H p.1=none∧p.1≠X.env.locals∧p.1 ∉ X.fs∧∀v,p.2.data≠.cell v
 hok:mT X.prog X.w H s.heap
 len:σ.length=X.N.length
section
variable {X:Cx} {pins:List (Addr × Obj)} {σ:List (Option V)} {H H':Hp} {s:Shared} {h':Heap}
theorem Cx.Ok.Rh (ok:X.Ok) {b:Addr} {o:Obj} (e:X.base.get? b=some o):b ∉ X.fs:=λhb=>by
 have:=(ok.oO.mem hb).1
 rw [e] at this;cases this
theorem Inv.bs (I:Inv X pins σ H s):∀b o,X.base.get? b=some o→s.heap.get? b=some o∧H b=none:=λb o e =>
 ⟨I.base.keep b o (I.ok.bs b o e).1 (I.ok.bs b o e).2 (I.ok.Rh e) (I.ok.noex b o e),I.base.free b o (I.ok.bs b o e).1 (I.ok.bs b o e).2 (I.ok.noex b o e)⟩
theorem Inv.bk (I:Inv X pins σ H s):∀b o,X.base.get? b=some o→s.heap.get? b=some o:=λb o e=>(I.bs b o e).1
theorem Inv.mod (I:Inv X pins σ H s):Mod X.K X.mg X.base:=I.ok.mod
theorem Inv.nu (I:Inv X pins σ H s):X.K.In s.heap:=I.ok.mod.kin.keeps I.bk
theorem Inv.nolimit (I:Inv X pins σ H s):s.heap.NoLimit:=I.ok.mod.nolimit.keeps I.bk
theorem Inv.fr (I:Inv X pins σ H s):∃m,Fr X.base X.env.locals s.heap m :=
 let ⟨m,hn,_⟩:=I.loc
 ⟨m,hn,I.bk,TK I.ok.bsz I.ok.above⟩
theorem Inv.lt (I:Inv X pins σ H s):X.env.locals < s.heap.objs.size:=let ⟨_,hn,_⟩:=I.loc;hn.lt
theorem Inv.sz (I:Inv X pins σ H s):X.s₀.heap.objs.size≤s.heap.objs.size:=TK I.ok.above (Vc I.lt)
theorem Inv.Ri (I:Inv X pins σ H s) {a:Addr} (h:s.heap.objs.size≤a):a ∉ X.fs:=λhb=>by
 obtain ⟨_,o,ho,_⟩:=I.ok.oO.mem hb
 exact absurd (TF (Heap.lt_size ho) (TK I.sz h)) (Us _)
theorem Inv.Lo (I:Inv X pins σ H s):∀x c,X.env.cells.lookup x=some c→c≠X.env.locals:=λx c e z=>by
 obtain ⟨v,o,ho,hd⟩:=I.cell x c e
 obtain ⟨m,⟨o',es,ep,ho',hd',_⟩,_⟩:=I.loc
 rw [z,ho'] at ho;cases ho;rw [hd'] at hd;cases hd
theorem Inv.oO (I:Inv X pins σ H s):s.heap.FunFrames X.base X.outer:=by
 have all:∀(l:List Env),(∀b∈j7 l,b∈X.fs)→X.s₀.heap.FunFrames X.base l→s.heap.FunFrames X.base l:=by
  intro l
  induction l with
  | nil=>intro _ _;trivial
  | cons env r ih =>
   intro hs hl
   obtain ⟨hk,⟨L,o,hf,hn,ho,hd⟩,hr⟩:=hl
   have hL:L∈X.fs:=hs L (by unfold j7;rw [Ug,hf];exact T6)
   obtain ⟨sl,e⟩:=I.base.slot L o ho (I.ok.frf L hL) hL λz=>I.ok.exfs L z hL
   exact ⟨hk,⟨L,_,hf,hn,e,hd⟩,ih (λb hb=>hs b (by unfold j7;rw [Ug,hf];exact TQ _ hb)) hr⟩
 exact all X.outer (λ_ hb=>hb) I.ok.oO
theorem Inv.stack (I:Inv X pins σ H s):s.heap.FunFrames X.base X.stack:=by
 rcases I.ok.stk with e | ⟨e,hf⟩
 ·rw [e];exact I.oO
 ·rw [e]
  obtain ⟨m,hn,_⟩:=I.loc
  refine .cons (by rw [I.ok.kind];decide) hf hn ?_ I.oO
  exact Heap.get?_none_of_le (TK I.ok.bsz I.ok.above)
theorem Inv.pK (I:Inv X pins σ H s):∀b∈j7 X.stack,b∈X.env.locals :: X.fs:=λb hb=>by
 rcases I.ok.stk with e | ⟨e,hf⟩
 ·rw [e] at hb;exact TQ _ hb
 ·rw [e] at hb
  unfold j7 at hb
  rw [Ug,hf] at hb
  exact hb
theorem Inv.xB (I:Inv X pins σ H s):∀b∈j7 X.stack,H b=none:=λb hb=>by
 rcases TC.mp (I.pK b hb) with e | hb
 ·rw [e];exact I.free
 ·obtain ⟨_,o,ho,_⟩:=I.ok.oO.mem hb
  exact I.base.free b o ho (I.ok.frf b hb) λz=>I.ok.exfs b z hb
theorem Inv.step {g':Array GenState} {t':Nat} {d':Drawn} {ch:List Addr} (I:Inv X pins σ H s)
  (hch:∀b∈ch,(b∈X.ex∨X.s₀.heap.objs.size≤b)∧b≠X.env.locals∧(∀x c,X.env.cells.lookup x=some c→c≠b)∧∀p∈X.pn ++ pins,p.1≠b)
  (keep:∀b o,b≠X.env.locals→b ∉ X.fs→b ∉ ch→s.heap.get? b=some o→H b=none→h'.get? b=some o)
  (slot:∀b o,b≠X.env.locals→b∈X.fs→b ∉ ch→s.heap.get? b=some o→H b=none→∃sl,h'.get? b=some { o with slots:=sl }) (free:∀b o,b ∉ ch→s.heap.get? b=some o→H b=none→H' b=none)
  (there:∀b o,b ∉ ch→s.heap.get? b=some o→∃o',h'.get? b=some o')
  (tups:∀b xs,H b=some (.tup xs)→H' b=some (.tup xs)) (frzs:∀b o u,H b=some (.oN o u)→H' b=some (.oN o u)) (tbls:∀b ps,H b=some (.tbl ps)→∃more,H' b=some (.tbl (ps ++ more)))
  (ns:∀m,s.heap.Ns X.env.locals m→h'.Ns X.env.locals m) (hok:mT X.prog X.w H' h') (hg:AllBare g') :
  Inv X pins σ H' { s with heap:=h',gens:=g',drawn:=d',toks:=t' }:=by
 have neL:∀b o,X.s₀.heap.get? b=some o→b≠X.env.locals:=λb o e=>TV (TF (Heap.lt_size e) I.ok.above)
 have neC:∀b o,X.s₀.heap.get? b=some o→b ∉ X.ex→b ∉ ch:=λb o e hx hb=>by
  rcases (hch b hb).1 with z | z
  ·exact hx z
  ·exact absurd (TF (Heap.lt_size e) z) (Us _)
 have cellK:∀x c,X.env.cells.lookup x=some c→∀v,s.heap.IsCell c v→h'.IsCell c v:=λx c e v ⟨o,ho,hd⟩=>by
  have nch:c ∉ ch:=λz=>(hch c z).2.2.1 x c e rfl
  by_cases hc:c∈X.fs
  ·obtain ⟨sl,q⟩:=slot c o (I.Lo x c e) hc nch ho (I.freeC x c e)
   exact ⟨_,q,hd⟩
  ·exact ⟨o,keep c o (I.Lo x c e) hc nch ho (I.freeC x c e),hd⟩
 refine ⟨I.ok,I.os,hg,⟨λb o e n hb hx=>?_,λb o e n hb hx=>?_,λb o e n hx=>?_,λb o e hx=>?_,λb xs e=>tups b xs (I.base.tups b xs e),λb o xs e=>frzs b o xs (I.base.frzs b o xs e),λb ps e=>?_⟩,?_,λx c e=>?_,?_,λx c e=>?_,λp hp=>?_,hok,I.len⟩
 ·exact keep b o (neL b o e) hb (neC b o e hx) (I.base.keep b o e n hb hx) (I.base.free b o e n hx)
 ·obtain ⟨sl,e1⟩:=I.base.slot b o e n hb hx
  obtain ⟨sl',e2⟩:=slot b _ (neL b o e) hb (neC b o e hx) e1 (I.base.free b o e n hx)
  exact ⟨sl',e2⟩
 ·obtain ⟨o',e1⟩:=I.base.there b o e hx
  exact free b o' (neC b o e hx) e1 (I.base.free b o e n hx)
 ·obtain ⟨o',e1⟩:=I.base.there b o e hx
  exact there b o' (neC b o e hx) e1
 ·obtain ⟨m1,e1⟩:=I.base.tbls b ps e
  obtain ⟨m2,e2⟩:=tbls b _ e1
  exact ⟨m1 ++ m2,by rw [e2,Array.append_assoc]⟩
 ·obtain ⟨m,hn,hl⟩:=I.loc
  refine ⟨m,ns m hn,λi x v e1 e2 e3=>?_⟩
  obtain ⟨u,r,l⟩:=hl i x v e1 e2 e3
  refine ⟨u,r,?_⟩
  rcases l with l | ⟨k,c,e,z⟩
  ·exact .inl l
  ·exact .inr ⟨k,c,e,cellK x c e _ z⟩
 ·obtain ⟨v,z⟩:=I.cell x c e
  exact ⟨v,cellK x c e v z⟩
 ·obtain ⟨m,⟨o,_,_,ho,_⟩,_⟩:=I.loc
  exact free _ o (λz=>(hch _ z).2.1 rfl) ho I.free
 ·obtain ⟨v,o,ho,hd⟩:=I.cell x c e
  exact free c o (λz=>(hch c z).2.2.1 x c e rfl) ho (I.freeC x c e)
 ·obtain ⟨e,n,ne,nf,d⟩:=I.pin p hp
  have nch:p.1 ∉ ch:=λz=>(hch p.1 z).2.2.2 p hp rfl
  exact ⟨keep p.1 p.2 ne nf nch e n,free p.1 p.2 nch e n,ne,nf,d⟩
theorem Inv.un {t':Nat} (I:Inv X pins σ H s) (u:Un X.fs [] H H' s.heap h') (hok:mT X.prog X.w H' h'):Inv X pins σ H' { s with heap:=h',toks:=t' }:=by
 obtain ⟨m,⟨o,es,ep,ho,r⟩,_⟩:=id I.loc
 obtain ⟨sl,hL⟩:=u.any ho I.free (by simp)
 exact I.step (g':=s.gens) (d':=s.drawn) (ch:=[]) (λ_ z=>nomatch z) (λb o _ hb _ e n=>u.keep b o e n hb (by simp)) (λb o _ hb _ e n=>u.slot b o e n hb (by simp)) (λb o _ e n=>u.free b o e n (by simp)) (λb o _ e=>u.there b o e (by simp)) u.tups u.frzs u.tbls (λm' hm=>by
  obtain ⟨o',es',ep',ho',r'⟩:=hm
  rw [ho] at ho';cases ho'
  exact ⟨_,es',ep',hL,r'⟩) hok I.bare
theorem Inv.call {g':Array GenState} {t':Nat} {d':Drawn} {ch:List Addr} (I:Inv X pins σ H s) (u:Un (j7 X.stack) ch H H' s.heap h') (hok:mT X.prog X.w H' h') (hg:AllBare g')
  (hch:∀b∈ch,(b∈X.ex∨X.s₀.heap.objs.size≤b)∧b≠X.env.locals∧(∀x c,X.env.cells.lookup x=some c→c≠b)∧∀p∈X.pn ++ pins,p.1≠b) :
  Inv X pins σ H' { s with heap:=h',gens:=g',drawn:=d',toks:=t' }:=by
 obtain ⟨m,⟨o,es,ep,ho,r⟩,_⟩:=id I.loc
 obtain ⟨sl,hL⟩:=u.any ho I.free λz=>(hch _ z).2.1 rfl
 exact I.step (ch:=ch) hch (λb o hL hb hc e n=>u.keep b o e n (λz=>(TC.mp (I.pK b z)).elim hL hb) hc) (λb o _ _ hc e n=>u.any e n hc) (λb o hc e n=>u.free b o e n hc) (λb o hc e=>u.there b o e hc) u.tups u.frzs u.tbls (λm' hm=>by
  obtain ⟨o',es',ep',ho',r'⟩:=hm
  rw [ho] at ho';cases ho'
  exact ⟨_,es',ep',hL,r'⟩) hok hg
theorem Inv.turned {t':Nat} {it:Addr} (I:Inv X pins σ H s) (k:∀b o,b≠it→s.heap.get? b=some o→h'.get? b=some o) (hn:H it=none) (hL:it≠X.env.locals)
  (h1:it∈X.ex∨X.s₀.heap.objs.size≤it) (h2:∀x c,X.env.cells.lookup x=some c→c≠it) (h3:∀p∈X.pn ++ pins,p.1≠it):Inv X pins σ H { s with heap:=h',toks:=t' }:=by
 have nit:∀b u,H b=some u→b≠it:=λb u e z=>by rw [z,hn] at e;cases e
 refine I.step (g':=s.gens) (d':=s.drawn) (ch:=[it]) (λb hb=>?_) (λb o _ _ hc e _=>k b o (λz=>hc (by simp [z])) e) (λb o _ _ hc e _=>⟨o.slots,k b o (λz=>hc (by simp [z])) e⟩) (λ_ _ _ _ n=>n)
  (λb o hc e=>⟨o,k b o (λz=>hc (by simp [z])) e⟩) (λ_ _ e=>e) (λ_ _ _ e=>e) (λb ps e=>⟨#[],by rw [e];simp⟩) (λm hm=>?_) (λb u e=>?_) I.bare
 ·have e:b=it:=by simpa using hb
  subst e
  exact ⟨h1,hL,h2,h3⟩
 ·obtain ⟨o,es,ep,ho,r⟩:=hm
  exact ⟨o,es,ep,k _ o (Ne.symm hL) ho,r⟩
 ·refine (I.hok b u e).mQ (λc v hc q=>k c v ?_ q) (λ_ q=>q) λ_ _ q=>q
  rcases hc with z | z
  ·rw [z];exact nit b u e
  ·exact nit c _ z
theorem Inv.tok (I:Inv X pins σ H s) (t:Nat):Inv X pins σ H { s with toks:=t }:=I.un (h':=s.heap) (t':=t) Un.refl I.hok
theorem Inv.kept {t':Nat} (I:Inv X pins σ H s) (k:∀b u,s.heap.get? b=some u→h'.get? b=some u):Inv X pins σ H { s with heap:=h',toks:=t' }:=I.un (Un.kept k) (I.hok.kept k)
theorem Inv.laid {a:Addr} {o:HO} {t':Nat} (I:Inv X pins σ H s) (k:∀b u,s.heap.get? b=some u→h'.get? b=some u) (hp:s.heap.objs.size≤a) (new:dF X.prog X.w (upd H a o) h' a o) :
  Inv X pins σ (upd H a o) { s with heap:=h',toks:=t' }:=I.un (Un.laid k hp (I.hok.fresh hp)) (I.hok.laid k hp new)
theorem Inv.write {x e:Addr} {o:HO} {t':Nat} (I:Inv X pins σ H s) (mu:P8 (H x)) (he:e=x∨H e=some (.own x)) (k:∀b u,b≠e→s.heap.get? b=some u→h'.get? b=some u) (heo:∃u,h'.get? e=some u)
  (new:dF X.prog X.w (upd H x o) h' x o):Inv X pins σ (upd H x o) { s with heap:=h',toks:=t' }:=I.un (Un.write mu he k heo) (I.hok.write mu he k heo new)
theorem Inv.BX {pins':List (Addr × Obj)} (I:Inv X pins σ H s) (h:∀p∈pins',s.heap.get? p.1=some p.2∧H p.1=none∧p.1≠X.env.locals∧p.1 ∉ X.fs∧∀v,p.2.data≠.cell v):Inv X pins' σ H s :=
 ⟨I.ok,I.os,I.bare,I.base,I.loc,I.cell,I.free,I.freeC,λp hp=>(Tv.mp hp).elim (λz=>I.pin p (UL _ z)) (h p),I.hok,I.len⟩
theorem yt {N:List Str} (hN:N.Nodup) {i j:Nat} {x:Str} (a:N[i]?=some x) (b:N[j]?=some x):i=j:=by
 obtain ⟨h1,e1⟩:=Tj.mp a
 obtain ⟨h2,e2⟩:=Tj.mp b
 exact (Um hN).mp (e1.trans e2.symm)
theorem pL {M:Model} {A:Around} {E:Value→Shared→Prop} {i:Nat} {x:Str} {v:V} {u:Value} {Q:Unit→Shared→Prop} (I:Inv X pins σ H s) (hN:X.N.Nodup) (hi:X.N[i]?=some x) (hx:Loc X.env.scope x) (r:RelV v u)
  (h:∀s',Inv X pins (σ.set i (some v)) H s'→(∃a,Heap.SameBut a s.heap s'.heap∧(a=X.env.locals∨X.env.cells.lookup x=some a))→Q () s') (hf:X.fn x=true∨X.env.scope.names.lookup x=some .local:=by first | exact .inl rfl | exact .inr rfl | assumption):wpAny M A (storeName X.env x u) Q E s:=by
 obtain ⟨m,hn,hl⟩:=id I.loc
 have hcls:(X.env.scope.kind == .class || (X.env.scope.kind == .module && X.env.locals != X.env.globals))=false:=by rw [I.ok.kind];rfl
 have hiσ:i < σ.length:=by rw [I.len];exact (Tj.mp hi).1
 have Lo:=I.Lo
 have tracked:∀{a:Addr} {h':Heap},(∃o,s.heap.get? a=some o∧H a=none)→Heap.SameBut a s.heap h'→mT X.prog X.w H h':=λ{a h'} ha hs b ob e=>by
  obtain ⟨_,_,hfree⟩:=ha
  refine (I.hok b ob e).mQ (λc w' hc q=>(hs.2 c ?_).trans q) (λ_ q=>q) λ_ _ q=>q
  rintro rfl
  rcases hc with rfl | hc
  ·rw [hfree] at e;cases e
  ·rw [hfree] at hc;cases hc
 rcases hx with hk | hk
 ·refine wpAny_storeName_local hk hn (λh' hn' hs=>?_) hcls
  obtain ⟨oL,_,_,hoL,_⟩:=id hn
  refine h _ ⟨I.ok,I.os,I.bare,⟨λb o e n hb hx=>?_,λb o e n hb hx=>?_,I.base.free,λb o e hx=>?_,I.base.tups,I.base.frzs,I.base.tbls⟩,⟨_,hn',λj y v' e1 e2 e3=>?_⟩,λy c e=>?_,I.free,I.freeC,λp hp=>?_,tracked ⟨oL,hoL,I.free⟩ hs,by simpa using I.len⟩ ⟨_,hs,.inl rfl⟩
  ·exact (hs.2 b (TV (TF (Heap.lt_size e) I.ok.above))).trans (I.base.keep b o e n hb hx)
  ·obtain ⟨sl,e1⟩:=I.base.slot b o e n hb hx
   exact ⟨sl,(hs.2 b (TV (TF (Heap.lt_size e) I.ok.above))).trans e1⟩
  ·obtain ⟨o',e1⟩:=I.base.there b o e hx
   exact ⟨o',(hs.2 b (TV (TF (Heap.lt_size e) I.ok.above))).trans e1⟩
  ·by_cases hj:j=i
   ·subst hj
    rw [hi] at e1;cases e1
    rw [Ud hiσ] at e2
    cases e2
    exact ⟨u,r,.inl ⟨hk,by simp⟩⟩
   ·rw [Uy (Ne.symm hj)] at e2
    obtain ⟨u',r',q⟩:=hl j y v' e1 e2 e3
    refine ⟨u',r',?_⟩
    rcases q with ⟨k,e⟩ | ⟨k,c,e,z⟩
    ·refine .inl ⟨k,?_⟩
     have:y≠x:=λe=>hj (yt hN e1 (e ▸ hi))
     simp [this,e]
    ·exact .inr ⟨k,c,e,z.sameBut hs (Lo y c e)⟩
  ·obtain ⟨w',z⟩:=I.cell y c e
   exact ⟨w',z.sameBut hs (Lo y c e)⟩
  ·obtain ⟨e,n,ne,nf,d⟩:=I.pin p hp
   exact ⟨(hs.2 p.1 ne).trans e,n,ne,nf,d⟩
 ·have hfn:X.fn x=true:=by
   rcases hf with z | z
   ·exact z
   ·rw [z] at hk;cases hk
  obtain ⟨c,hc⟩:=I.ok.has x (.inl hk)
  obtain ⟨w',z⟩:=I.cell x c hc
  refine wpAny_storeName_cell I.ok.kind hk hc z (λh' hc' hs=>?_)
  obtain ⟨oc,hoc,hocd⟩:=id z
  refine h { s with heap:=h' } ⟨I.ok,I.os,I.bare,⟨λb o e n hb hx=>?_,λb o e n hb hx=>?_,I.base.free,λb o e hx=>?_,I.base.tups,I.base.frzs,I.base.tbls⟩,⟨m,hn.sameBut hs (Ne.symm (Lo x c hc)),λj y v' e1 e2 e3=>?_⟩,λy c' e=>?_,I.free,I.freeC,λp hp=>?_,tracked ⟨oc,hoc,I.freeC x c hc⟩ hs,by simpa using I.len⟩ ⟨c,hs,.inr hc⟩
  ·exact (hs.2 b (TV (TF (Heap.lt_size e) (I.ok.cab x c hfn hc)))).trans (I.base.keep b o e n hb hx)
  ·obtain ⟨sl,e1⟩:=I.base.slot b o e n hb hx
   exact ⟨sl,(hs.2 b (TV (TF (Heap.lt_size e) (I.ok.cab x c hfn hc)))).trans e1⟩
  ·obtain ⟨o',e1⟩:=I.base.there b o e hx
   exact ⟨o',(hs.2 b (TV (TF (Heap.lt_size e) (I.ok.cab x c hfn hc)))).trans e1⟩
  ·by_cases hj:j=i
   ·subst hj
    rw [hi] at e1;cases e1
    rw [Ud hiσ] at e2
    cases e2
    exact ⟨u,r,.inr ⟨.inl hk,c,hc,hc'⟩⟩
   ·rw [Uy (Ne.symm hj)] at e2
    obtain ⟨u',r',q⟩:=hl j y v' e1 e2 e3
    refine ⟨u',r',?_⟩
    rcases q with q | ⟨k,c',e,z'⟩
    ·exact .inl q
    ·refine .inr ⟨k,c',e,z'.sameBut hs ?_⟩
     rintro rfl
     exact hj (yt hN e1 (I.ok.inj _ _ _ e hc ▸ hi))
  ·by_cases hcc:c'=c
   ·subst hcc;exact ⟨_,hc'⟩
   ·obtain ⟨w2,z2⟩:=I.cell y c' e
    exact ⟨w2,z2.sameBut hs hcc⟩
  ·obtain ⟨e,n,ne,nf,d⟩:=I.pin p hp
   refine ⟨(hs.2 p.1 ?_).trans e,n,ne,nf,d⟩
   intro q
   rw [q,hoc] at e
   have q':oc=p.2:=Option.some.inj e
   exact d w' (by rw [← q'];exact hocd)
theorem gX {M:Model} {A:Around} {E:Value→Shared→Prop} {i:Nat} {x:Str} {v:V} {u:Value} {Q:Unit→Shared→Prop} (I:Inv X pins σ H s) (hN:X.N.Nodup) (hi:X.N[i]?=some x) (hx:Loc X.env.scope x) (r:RelV v u)
  (h:∀s',Inv X pins (σ.set i (some v)) H s'→Q () s') (hf:X.fn x=true∨X.env.scope.names.lookup x=some .local:=by first | exact .inl rfl | exact .inr rfl | assumption):wpAny M A (storeName X.env x u) Q E s :=
 pL I hN hi hx r (λs' I' _=>h s' I') hf
theorem Inv.NV {s':Shared} {ch:List Addr} (I:Inv X pins σ H s) (ho:s'.os=s.os) (u:Un (j7 X.stack) ch H H' s.heap s'.heap) (hok:mT X.prog X.w H' s'.heap) (hg:AllBare s'.gens)
  (hch:∀b∈ch,(b∈X.ex∨X.s₀.heap.objs.size≤b)∧b≠X.env.locals∧(∀x c,X.env.cells.lookup x=some c→c≠b)∧∀p∈X.pn ++ pins,p.1≠b):Inv X pins σ H' s':=by
 obtain ⟨h',g',d',t',o'⟩:=s'
 have e:o'=s.os:=ho
 subst e
 exact I.call (g':=g') (t':=t') (d':=d') u hok hg hch
end
abbrev XK:=Value→Option Addr→Hp→Prop
abbrev St:=List (Option V)
abbrev VK:=V→Hp→Prop
abbrev TE:=St→Hp→VK→Prop
abbrev TT:=St→Hp→(Bool→Hp→Prop)→Prop
abbrev TA:=St→Hp→(List V→Hp→Prop)→Prop
structure Ends where
 nx:St→Hp→Prop
 rt:VK
 bk:St→Hp→Prop:=λ_ _=>False
 ct:St→Hp→Prop:=λ_ _=>False
abbrev TS:=Ends→St→Hp→Prop
def EP (X:Cx) (pins:List (Addr × Obj)) (σ:St) (Q:VK) (u:Value) (s':Shared):Prop:=∃v H',Inv X pins σ H' s'∧RelV v u∧Q v H'
def TP (X:Cx) (pins:List (Addr × Obj)) (σ:St) (Q:Bool→Hp→Prop) (b:Bool) (s':Shared):Prop:=∃H',Inv X pins σ H' s'∧Q b H'
def AP (X:Cx) (pins:List (Addr × Obj)) (σ:St) (Q:List V→Hp→Prop) (us:List Value) (s':Shared):Prop:=∃vs H',Inv X pins σ H' s'∧Vals vs us∧Q vs H'
def SP (X:Cx) (pins:List (Addr × Obj)) (D:Ends) (f:Flow) (s':Shared):Prop :=
 match f with
 | .next=>∃σ' H',Inv X pins σ' H' s'∧D.nx σ' H'
 | .brk=>∃σ' H',Inv X pins σ' H' s'∧D.bk σ' H'
 | .cont=>∃σ' H',Inv X pins σ' H' s'∧D.ct σ' H'
 | .ret u=>∃v σ' H',Inv X pins σ' H' s'∧RelV v u∧D.rt v H'
def PE (X:Cx) (e:Expr) (t:TE):Prop :=
 ∀(pins:List (Addr × Obj)) (s:Shared) (σ:St) (H:Hp) (Q:VK),Inv X pins σ H s→t σ H Q→wpAny (model X.prog X.w) X.A (eval e X.env) (EP X pins σ Q) X.xe s
def PT (X:Cx) (e:Expr) (t:TT):Prop :=
 ∀(pins:List (Addr × Obj)) (s:Shared) (σ:St) (H:Hp) (Q:Bool→Hp→Prop),Inv X pins σ H s→t σ H Q→wpAny (model X.prog X.w) X.A (isTrue e X.env (eval e X.env)) (TP X pins σ Q) X.xe s
def PW (X:Cx) (e:Expr) (t:TT):Prop :=
 ∀(whole:Sem Value) (pins:List (Addr × Obj)) (s:Shared) (σ:St) (H:Hp) (Q:Bool→Hp→Prop),Inv X pins σ H s→t σ H Q→wpAny (model X.prog X.w) X.A (isTrue e X.env whole) (TP X pins σ Q) X.xe s
theorem PW.pt {X:Cx} {e:Expr} {t:TT} (h:PW X e t):PT X e t:=h _
def PA (X:Cx) (es:List Expr) (t:TA):Prop :=
 ∀(pos:Pos) (pins:List (Addr × Obj)) (s:Shared) (σ:St) (H:Hp) (Q:List V→Hp→Prop),Inv X pins σ H s→t σ H Q→wpAny (model X.prog X.w) X.A (spliced (backTo pos (starEach es X.env))) (AP X pins σ Q) X.xe s
def PS (X:Cx) (st:Stmt) (t:TS):Prop :=
 ∀(pins:List (Addr × Obj)) (s:Shared) (σ:St) (H:Hp) (D:Ends),Inv X pins σ H s→t D σ H→wpAny (model X.prog X.w) X.A (exec st X.env) (SP X pins D) X.xe s
def uK (X:Cx) (st:List Stmt) (t:TS):Prop :=
 ∀(pins:List (Addr × Obj)) (s:Shared) (σ:St) (H:Hp) (D:Ends),Inv X pins σ H s→t D σ H→wpAny (model X.prog X.w) X.A (execs st X.env) (SP X pins D) X.xe s
theorem cE {α:Type} {t:Sem α} {Q Q':α→Shared→Prop} {M:Model} {A:Around} {E:Value→Shared→Prop} {s:Shared} (h:wpAny M A t Q E s) (hQ:∀a s,Q a s→Q' a s):wpAny M A t Q' E s:=wpAny_mono h hQ λ_ _ x=>x
end L2
namespace L2
open PySem PySem.Spec PyProof.Rows
section
variable {X:Cx}
def DY (i:Nat):TE:=λσ H Q=>∃v,σ[i]?=some (some v)∧Q v H
def tC (v:V):TE:=λ_ H Q=>Q v H
theorem Ay {i:Nat} {x:Str} {pos:Pos} (hN:X.N[i]?=some x) (hv:vM X.env.scope x) (hd:(x == ("__debug__":Str))=false:=by decide) (hcd:(x == ("__classdict__":Str))=false:=by decide):PE X (.Name x pos) (DY i):=by
 intro pins s σ H Q I h
 obtain ⟨v,e,h⟩:=h
 obtain ⟨m,hn,hl⟩:=I.loc
 obtain ⟨u,r,l⟩:=hl i x v hN e hv
 have fin:EP X pins σ Q u s:=⟨v,H,I,r,h⟩
 rcases l with ⟨hk,hm⟩ | ⟨hk,c,hc,hcell⟩
 ·exact wpAny_Name (wpAny_loadName_local I.ok.kind hk hn hm fin) hd
 ·rcases hk with hk | hk
  ·exact wpAny_Name (wpAny_loadName_cell I.ok.kind hk hc hcell fin) hd
  ·exact wpAny_Name (wpAny_loadName_free I.ok.kind hk hc hcell fin hcd) hd
theorem aV {i j pos}:PE X (.Constant (.int i) j pos) (tC (.int i)):=λ_ _ _ H _ I h=>wpAny_Constant_int ⟨.int i,H,I.tok _,⟨_,rfl⟩,h⟩
theorem yK {b j pos}:PE X (.Constant (.bool b) j pos) (tC (.bl b)):=λ_ _ _ H _ I h=>Constant_bool ⟨.bl b,H,I,rfl,h⟩
theorem Av {j pos}:PE X (.Constant .none j pos) (tC .non):=λ_ _ _ H _ I h=>Constant_none ⟨.non,H,I,rfl,h⟩
theorem o6 {x j pos}:PE X (.Constant (.str x) j pos) (tC (.str x)):=λ_ _ _ H _ I h=>Calls.Constant_str ⟨.str x,H,I.tok _,⟨_,rfl⟩,h⟩
def Gl (X:Cx) (x:Str):Prop:=X.env.kindOf x=some .globalImplicit
theorem nA {E:Value→Shared→Prop} {pins:List (Addr × Obj)} {s:Shared} {σ:St} {H:Hp} {x:Str} {u:Value} {pos:Pos} {Q:Value→Shared→Prop} (I:Inv X pins σ H s) (hg:Gl X x) (hm:X.mg x=some u) (h:Q u s)
  (hd:(x == ("__debug__":Str))=false:=by decide):wpAny (model X.prog X.w) X.A (eval (.Name x pos) X.env) Q E s :=
 Calls.Name_function_global I.ok.kind hg (Calls.loadGlobal_global (by rw [I.ok.glob];exact I.mod.glob.keeps I.bk) hm h) hd
theorem mr {E:Value→Shared→Prop} {pins:List (Addr × Obj)} {s:Shared} {σ:St} {H:Hp} {x:Str} {u:Value} {pos:Pos} {Q:Value→Shared→Prop} (I:Inv X pins σ H s) (hg:Gl X x) (hm:X.mg x=none) (hv:bootBuiltins x=some u) (h:Q u s)
  (hn:x≠"__name__":=by decide) (hd:(x == ("__debug__":Str))=false:=by decide):wpAny (model X.prog X.w) X.A (eval (.Name x pos) X.env) Q E s:=by
 obtain ⟨mb,h1,h2⟩:=I.mod.blt
 exact Calls.Name_function_global I.ok.kind hg (Calls.loadGlobal_builtin (by rw [I.ok.glob];exact I.mod.glob.keeps I.bk) hm (by rw [I.ok.blt];exact h1.keeps I.bk) ((h2 x hn).trans hv) h) hd
theorem qG {x:Str} {v:V} {u:Value} {pos:Pos} (hg:Gl X x) (hm:X.mg x=some u) (r:RelV v u) (hd:(x == ("__debug__":Str))=false:=by decide):PE X (.Name x pos) (tC v) :=
 λ_ _ _ H _ I h=>nA I hg hm ⟨v,H,I,r,h⟩ hd
theorem wC {x:Str} {v:V} {u:Value} {pos:Pos} (hg:Gl X x) (hm:X.mg x=none) (hv:bootBuiltins x=some u) (r:RelV v u) (hn:x≠"__name__":=by decide) (hd:(x == ("__debug__":Str))=false:=by decide):PE X (.Name x pos) (tC v) :=
 λ_ _ _ H _ I h=>mr I hg hm hv ⟨v,H,I,r,h⟩ hn hd
variable {a b:Expr} {ta tb:TE} {pos:Pos}
def tB (t:TE):TT:=λσ H Q=>t σ H λx H1=>∃c,x=.bl c∧Q c H1
theorem AF {e:Expr} {t:TE} (h:PE X e t) (he:∀whole,isTrue e X.env whole=(do let v ← whole;standAt e.pos;holding [v] (truthy v)):=by intro _;rfl):PT X e (tB t):=by
 intro pins s σ H Q I hw
 refine isTrue_plain (cE (h pins s σ H _ I hw) λv s1 ⟨x,H1,I1,r1,q1⟩=>?_) (he _)
 obtain ⟨d,rfl,q⟩:=q1
 cases r1
 exact wpAny_truthy_bool ⟨H1,I1,q⟩
variable {tA tB':TT} {rest:List Expr}
def GO (t u:TT):TT:=λσ H Q=>t σ H λc H1=>if c=true then u σ H1 Q else Q false H1
def PJ (t u:TT):TT:=λσ H Q=>t σ H λc H1=>if c=true then Q true H1 else u σ H1 Q
def Jz (t:TT):TT:=λσ H Q=>t σ H λc H1=>Q (!c) H1
theorem qK (ha:PT X a tA):PW X (.BoolOp .And [a] pos) tA:=by
 intro wh pins s σ H Q I h
 refine isTrue_and (cE (ha pins s σ H Q I h) λc s1 e=>?_)
 cases c with
 | true=>exact isTrue_and_nil e
 | false=>exact e
theorem wR (ha:PT X a tA):PW X (.BoolOp .Or [a] pos) tA:=by
 intro wh pins s σ H Q I h
 refine isTrue_or (cE (ha pins s σ H Q I h) λc s1 e=>?_)
 cases c with
 | false=>exact isTrue_or_nil e
 | true=>exact e
theorem wQ (ha:PT X a tA) (hb:PW X (.BoolOp .And (b :: rest) pos) tB'):PW X (.BoolOp .And (a :: b :: rest) pos) (GO tA tB'):=by
 intro wh pins s σ H Q I h
 refine isTrue_and (cE (ha pins s σ H _ I h) λc s1 ⟨H1,I1,q1⟩=>?_)
 cases c with
 | true=>exact hb wh pins s1 σ H1 Q I1 q1
 | false=>exact ⟨H1,I1,q1⟩
theorem B0 (ha:PT X a tA) (hb:PW X (.BoolOp .Or (b :: rest) pos) tB'):PW X (.BoolOp .Or (a :: b :: rest) pos) (PJ tA tB'):=by
 intro wh pins s σ H Q I h
 refine isTrue_or (cE (ha pins s σ H _ I h) λc s1 ⟨H1,I1,q1⟩=>?_)
 cases c with
 | true=>exact ⟨H1,I1,q1⟩
 | false=>exact hb wh pins s1 σ H1 Q I1 q1
theorem AE (ha:PT X a tA):PT X (.UnaryOp .Not a pos) (Jz tA):=by
 intro pins s σ H Q I h
 exact isTrue_not (ha pins s σ H (λc H1=>Q (!c) H1) I h)
def Cs (ta tb:TE):TE:=λσ H Q=>ta σ H λx H1=>∃c,x=.bl c∧if c=true then tb σ H1 Q else Q (.bl false) H1
def JA (ta tb:TE):TE:=λσ H Q=>ta σ H λx H1=>∃c,x=.bl c∧if c=true then Q (.bl true) H1 else tb σ H1 Q
def Cv (ta:TE):TE:=λσ H Q=>ta σ H λx H1=>∃c,x=.bl c∧Q (.bl (!c)) H1
theorem Ax {op} {t:TE} (h:PE X a t):PE X (.BoolOp op [a] pos) t:=λpins s σ H Q I hw=>BoolOp_one (h pins s σ H Q I hw)
theorem Au (ha:PE X a ta) (hb:PE X (.BoolOp .And (b :: rest) pos) tb):PE X (.BoolOp .And (a :: b :: rest) pos) (Cs ta tb):=by
 intro pins s σ H Q I h
 refine BoolOp_and (cE (ha pins s σ H _ I h) λv s1 ⟨x,H1,I1,r1,q1⟩=>?_)
 obtain ⟨c,rfl,q1⟩:=q1
 cases r1
 refine wpAny_truthy_bool ?_
 cases c with
 | true=>exact hb pins s1 σ H1 Q I1 q1
 | false=>exact ⟨.bl false,H1,I1,rfl,q1⟩
theorem FX (ha:PE X a ta) (hb:PE X (.BoolOp .Or (b :: rest) pos) tb):PE X (.BoolOp .Or (a :: b :: rest) pos) (JA ta tb):=by
 intro pins s σ H Q I h
 refine BoolOp_or (cE (ha pins s σ H _ I h) λv s1 ⟨x,H1,I1,r1,q1⟩=>?_)
 obtain ⟨c,rfl,q1⟩:=q1
 cases r1
 refine wpAny_truthy_bool ?_
 cases c with
 | false=>exact hb pins s1 σ H1 Q I1 q1
 | true=>exact ⟨.bl true,H1,I1,rfl,q1⟩
theorem Aw (ha:PE X a ta):PE X (.UnaryOp .Not a pos) (Cv ta):=by
 intro pins s σ H Q I h
 refine UnaryOp_ (cE (ha pins s σ H _ I h) λv s1 ⟨x,H1,I1,r1,q1⟩=>?_)
 obtain ⟨c,rfl,q1⟩:=q1
 cases r1
 exact not_of (wpAny_truthy_bool ⟨.bl (!c),H1,I1,rfl,q1⟩)
def Qj (t:TT) (ta tb:TE):TE:=λσ H Q=>t σ H λc H1=>if c=true then ta σ H1 Q else tb σ H1 Q
theorem sk {c:Expr} (hc:PT X c tA) (ha:PE X a ta) (hb:PE X b tb):PE X (.IfExp c a b pos) (Qj tA ta tb):=by
 intro pins s σ H Q I h
 refine wpAny_IfExp (cE (hc pins s σ H _ I h) λd s1 ⟨H1,I1,q1⟩=>?_)
 cases d with
 | true=>exact ha pins s1 σ H1 Q I1 q1
 | false=>exact hb pins s1 σ H1 Q I1 q1
end
end L2
namespace L2
open PySem PySem.Spec PyProof.Rows
def dk (K:PySem.W.Frag) (H:Hp) (a:Addr) (xs:List V):Prop :=
 Rd H a (.lst xs) ∨
  ∃(o:Obj) (its:Array Value) (n:Nat),K.lookup a=some o∧o.cls=.type "list"∧o.dict=none∧o.data=.seq its n∧its.size≤sizeLine∧Vals xs its.toList
def g7 (K:PySem.W.Frag) (H:Hp) (a:Addr) (xs:List V):Prop :=
 Rd H a (.tup xs) ∨
  ∃(o:Obj) (its:Array Value) (n:Nat),K.lookup a=some o∧o.cls=.type "tuple"∧o.data=.seq its n∧its.size≤sizeLine∧Vals xs its.toList
def Qy:Value→Option V
 | .none=>some .non
 | .bool b=>some (.bl b)
 | .int i _=>some (.int i)
 | .str x _=>some (.str x)
 | .bytes b _=>some (.byt b)
 | .float b _=>some (.flt b)
 | .ref a=>some (.ref a)
 | .type n=>some (.ty n)
 | _=>none
theorem RelV.abs {x:V} {u:Value} (r:RelV x u):Qy u=some x:=by
 cases x with
 | non=>cases r;rfl
 | bl _=>cases r;rfl
 | int _=>obtain ⟨t,rfl⟩:=r;rfl
 | str _=>obtain ⟨t,rfl⟩:=r;rfl
 | byt _=>obtain ⟨t,rfl⟩:=r;rfl
 | flt _=>obtain ⟨t,rfl⟩:=r;rfl
 | ref _=>cases r;rfl
 | ty _=>cases r;rfl
theorem RelV.inj {x y:V} {u:Value} (r:RelV x u) (q:RelV y u):x=y:=Option.some.inj (r.abs.symm.trans q.abs)
theorem Vals.inj:∀{xs ys:List V} {us:List Value},Vals xs us→Vals ys us→xs=ys
 | _,_,_,.nil,.nil=>rfl
 | _,_,_,.cons r t,.cons r' t'=>by rw [r.inj r',Vals.inj t t']
section
variable {X:Cx} {pins:List (Addr × Obj)} {σ:St} {H:Hp} {s:Shared} {a:Addr} {xs ys:List V}
theorem dk.of {K:PySem.W.Frag} (h:H a=some (.lst xs)):dk K H a xs:=.inl (.inl h)
theorem g7.of {K:PySem.W.Frag} (h:H a=some (.tup xs)):g7 K H a xs:=.inl (.inl h)
theorem Inv.list (I:Inv X pins σ H s) (h:dk X.K H a xs):∃its:List Value,Vals xs its∧PlainL s.heap a its.toArray∧xs.length≤sizeLine:=by
 rcases h with h | ⟨o,its,n,hk,hc,hd,hs,hz,r⟩
 ·obtain ⟨z,its,n,r,e⟩:=h.ok I.hok
  exact ⟨its,r,⟨_,n,e,rfl,rfl,rfl⟩,z⟩
 ·refine ⟨its.toList,r,⟨o,n,I.nu a o hk,hc,hd,by simpa using hs⟩,?_⟩
  have e:=r.length
  simp only [Array.length_toList] at e
  omega
theorem Inv.tuple (I:Inv X pins σ H s) (h:g7 X.K H a xs):∃its:List Value,Vals xs its∧IsTup s.heap a its.toArray∧xs.length≤sizeLine:=by
 rcases h with h | ⟨o,its,n,hk,hc,hs,hz,r⟩
 ·obtain ⟨z,its,r,p⟩:=h.ok I.hok
  exact ⟨its,r,p,z⟩
 ·refine ⟨its.toList,r,⟨o,I.nu a o hk,hc,n,by simpa using hs⟩,?_⟩
  have e:=r.length
  simp only [Array.length_toList] at e
  omega
theorem Inv.kr (I:Inv X pins σ H s) (h:dk X.K H a xs) (h':dk X.K H a ys):xs=ys:=by
 obtain ⟨its,r,⟨o,n,e,_,_,d⟩,_⟩:=I.list h
 obtain ⟨its',r',⟨o',n',e',_,_,d'⟩,_⟩:=I.list h'
 rw [e] at e';cases e'
 rw [d] at d'
 injection d' with d1 _
 have:its=its':=by simpa using congrArg Array.toList d1
 subst this
 exact r.inj r'
theorem Inv.vp (I:Inv X pins σ H s) (h:g7 X.K H a xs) (h':g7 X.K H a ys):xs=ys:=by
 obtain ⟨its,r,⟨o,e,_,n,d⟩,_⟩:=I.tuple h
 obtain ⟨its',r',⟨o',e',_,n',d'⟩,_⟩:=I.tuple h'
 rw [e] at e';cases e'
 rw [d] at d'
 injection d' with d1 _
 have:its=its':=by simpa using congrArg Array.toList d1
 subst this
 exact r.inj r'
end
abbrev Cx.tG (X:Cx) (E:Value→Shared→Prop):Cx:={ X with xe:=E }
abbrev Cx.L7 (X:Cx):Cx:=X.tG λ_ _=>False
theorem Cx.Ok.tG {X:Cx} (ok:X.Ok) (E:Value→Shared→Prop):(X.tG E).Ok :=
 ⟨ok.mod,ok.kind,ok.glob,ok.blt,ok.above,ok.inj,ok.has,ok.cab,ok.hd,ok.frames,ok.stk,ok.exf,ok.bs,ok.bsz,ok.noex,ok.exfs,ok.oO,ok.frf⟩
theorem Cx.Ok.lq {X:Cx} {E:Value→Shared→Prop} (ok:(X.tG E).Ok):X.Ok :=
 ⟨ok.mod,ok.kind,ok.glob,ok.blt,ok.above,ok.inj,ok.has,ok.cab,ok.hd,ok.frames,ok.stk,ok.exf,ok.bs,ok.bsz,ok.noex,ok.exfs,ok.oO,ok.frf⟩
section
variable {X:Cx} {pins:List (Addr × Obj)} {σ:St} {H:Hp} {s:Shared} {E:Value→Shared→Prop}
theorem Inv.tG (I:Inv X pins σ H s) (E:Value→Shared→Prop):Inv (X.tG E) pins σ H s:=⟨I.ok.tG E,I.os,I.bare,I.base,I.loc,I.cell,I.free,I.freeC,I.pin,I.hok,I.len⟩
theorem Inv.lq (I:Inv (X.tG E) pins σ H s):Inv X pins σ H s:=⟨I.ok.lq,I.os,I.bare,I.base,I.loc,I.cell,I.free,I.freeC,I.pin,I.hok,I.len⟩
theorem SP.lq {D:Ends} {f:Flow} {s':Shared} (h:SP (X.tG E) pins D f s'):SP X pins D f s':=by
 cases f with
 | next=>obtain ⟨σ',H',I,q⟩:=h;exact ⟨σ',H',I.lq,q⟩
 | brk=>obtain ⟨σ',H',I,q⟩:=h;exact ⟨σ',H',I.lq,q⟩
 | cont=>obtain ⟨σ',H',I,q⟩:=h;exact ⟨σ',H',I.lq,q⟩
 | ret u=>obtain ⟨v,σ',H',I,r,q⟩:=h;exact ⟨v,σ',H',I.lq,r,q⟩
theorem uK.L7 {st:List Stmt} {t:TS} (h:uK X.L7 st t):uK X st t:=λpins s σ H D I hw =>
 wpAny_mono (h pins s σ H D (I.tG _) hw) (λ_ _ q=>q.lq) λ_ _ z=>False.elim z
end
section
variable {X:Cx} {st:Stmt} {rest:List Stmt} {t u:TS} {e:Expr} {te:TE} {pos:Pos}
def Cu:TS:=λD σ H=>D.nx σ H
def JD (t u:TS):TS:=λD σ H=>t { D with nx:=u D } σ H
theorem gu:uK X [] Cu:=λ_ _ σ H _ I h=>wpAny_execs_nil ⟨σ,H,I,h⟩
theorem a_ (h1:PS X st t) (h2:uK X rest u):uK X (st :: rest) (JD t u):=by
 intro pins s σ H D I h
 refine wpAny_execs_cons (cE (h1 pins s σ H { D with nx:=u D } I h) λf s1 q=>?_)
 cases f with
 | next =>
  obtain ⟨σ',H',I',q⟩:=q
  exact h2 pins s1 σ' H' D I' q
 | ret v=>exact q
 | brk=>exact q
 | cont=>exact q
theorem bT (h1:PS X st t):uK X [st] t:=by
 intro pins s σ H D I h
 refine wpAny_execs_cons (cE (h1 pins s σ H D I h) λf s1 q=>?_)
 cases f with
 | next=>exact wpAny_execs_nil q
 | ret v=>exact q
 | brk=>exact q
 | cont=>exact q
def M0:TS:=λD σ H=>D.bk σ H
def PC:TS:=λD σ H=>D.ct σ H
theorem Inv.quiet {pins:List (Addr × Obj)} {σ:St} {H:Hp} {s:Shared} (I:Inv X pins σ H s):interactive X.env=false:=by simp [interactive,I.ok.kind]
def Ct (te:TE):TS:=λD σ H=>te σ H λ_ H1=>D.nx σ H1
theorem lN (he:PE X e te) (hs:swapsWith e none pos.line X.env=pure false:=by rfl):PS X (.Expr e pos) (Ct te):=by
 intro pins s σ H D I h
 exact wpAny_Expr_any (cE (he pins s σ H _ I h) λv s1 ⟨x,H1,I1,r1,q1⟩=>⟨σ,H1,I1,q1⟩) I.quiet hs
def JC (te:TE):TS:=λD σ H=>te σ H D.rt
theorem d9 (he:PE X e te):PS X (.Return (some e) pos) (JC te):=by
 intro pins s σ H D I h
 exact wpAny_Return_some (cE (he pins s σ H _ I h) λv s1 ⟨x,H1,I1,r1,q1⟩=>⟨x,σ,H1,I1,r1,q1⟩)
def Cy:TS:=λD _ H=>D.rt .non H
theorem wJ:PS X (.Return none pos) Cy:=λ_ _ σ H _ I h=>wpAny_Return_none ⟨.non,σ,H,I,rfl,h⟩
def Jw (c:TT) (t u:TS):TS:=λD σ H=>c σ H λb H1=>if b=true then t D σ H1 else u D σ H1
theorem nV {c:Expr} {a b:List Stmt} {tc:TT} (hc:PT X c tc) (ha:uK X a t) (hb:uK X b u):PS X (.If c a b pos) (Jw tc t u):=by
 intro pins s σ H D I h
 refine wpAny_If (cE (hc pins s σ H _ I h) λd s1 ⟨H1,I1,q1⟩=>?_)
 cases d with
 | true=>exact ha pins s1 σ H1 D I1 q1
 | false=>exact hb pins s1 σ H1 D I1 q1
def A3:TS:=λ_ _ _=>False
theorem o9 {sts:List Stmt}:uK X sts A3:=λ_ _ _ _ _ _ h=>h.elim
end
abbrev TG:=V→St→Hp→(St→Hp→Prop)→Prop
abbrev qh:=List V→St→Hp→(St→Hp→Prop)→Prop
def PG (X:Cx) (target:Expr) (t:TG):Prop :=
 ∀(pins:List (Addr × Obj)) (s:Shared) (σ:St) (H:Hp) (v:V) (u:Value) (Q:St→Hp→Prop),Inv X pins σ H s→RelV v u→t v σ H Q →
  wpAny (model X.prog X.w) X.A (assign target X.env u) (λ_ s'=>∃σ' H',Inv X pins σ' H' s'∧Q σ' H') X.xe s
def JR (X:Cx) (ts:List Expr) (t:qh):Prop :=
 ∀(pins:List (Addr × Obj)) (s:Shared) (σ:St) (H:Hp) (vs:List V) (us:List Value) (Q:St→Hp→Prop),Inv X pins σ H s→Vals vs us→t vs σ H Q →
  wpAny (model X.prog X.w) X.A (assignInOrder ((assignEach ts X.env).map (·.2)) us) (λ_ s'=>∃σ' H',Inv X pins σ' H' s'∧Q σ' H') X.xe s
abbrev j6:=V→V→V→Hp→(Hp→Prop)→Prop
def j5 (X:Cx) (t:j6):Prop :=
 ∀(pins:List (Addr × Obj)) (s:Shared) (σ:St) (H:Hp) (o i v:V) (ov iv u:Value) (Q:Hp→Prop),Inv X pins σ H s→RelV o ov→RelV i iv→RelV v u→t o i v H Q →
  wpAny (model X.prog X.w) X.A (setItem ov iv u) (λ_ s'=>∃H',Inv X pins σ H' s'∧Q H') X.xe s
abbrev Qa:=V→V→Hp→VK→Prop
def Qu (X:Cx) (op:Operator) (t:Qa):Prop :=
 ∀(pins:List (Addr × Obj)) (s:Shared) (σ:St) (H:Hp) (x y:V) (v u:Value) (Q:VK),Inv X pins σ H s→RelV x v→RelV y u→t x y H Q →
  wpAny (model X.prog X.w) X.A (inplaceOp op v u) (EP X pins σ Q) X.xe s
section
variable {X:Cx} {pos:Pos}
def rH (i:Nat):TG:=λv σ H Q=>Q (σ.set i (some v)) H
theorem lL {i:Nat} {x:Str} (hN:X.N.Nodup) (hi:X.N[i]?=some x) (hx:Loc X.env.scope x) (hf:X.fn x=true∨X.env.scope.names.lookup x=some .local:=by first | exact .inl rfl | exact .inr rfl | assumption):PG X (.Name x pos) (rH i):=by
 intro pins s σ H v u Q I r h
 exact wpAny_assign_Name (gX I hN hi hx r (λs' I'=>⟨_,H,I',h⟩) hf)
def HI:qh:=λvs σ H Q=>vs=[]∧Q σ H
def BB (t:TG) (u:qh):qh:=λvs σ H Q=>∃v r,vs=v :: r∧t v σ H λσ' H'=>u r σ' H' Q
theorem wF:JR X [] HI:=by
 intro pins s σ H vs us Q I r h
 obtain ⟨e,h⟩:=h
 subst e
 cases r
 exact assignInOrder_nil ⟨σ,H,I,h⟩
theorem su {e:Expr} {es:List Expr} {t:TG} {u:qh} (h1:PG X e t) (h2:JR X es u)
  (hs:(assignEach (e :: es) X.env).map (·.2)=assign e X.env :: (assignEach es X.env).map (·.2):=by rfl):JR X (e :: es) (BB t u):=by
 intro pins s σ H vs us Q I r h
 obtain ⟨v,vr,e1,h⟩:=h
 subst e1
 cases r with
 | cons r rr =>
  rw [hs]
  refine assignInOrder_cons (cE (h1 pins s σ H _ _ _ I r h) λ_ s1 ⟨σ1,H1,I1,q1⟩=>?_)
  exact h2 pins s1 σ1 H1 _ _ Q I1 rr q1
def HL (K:PySem.W.Frag) (n:Nat) (t:qh):TG:=λv σ H Q=>∃a xs,v=.ref a∧g7 K H a xs∧xs.length=n∧t xs σ H Q
theorem Az {es:List Expr} {k:Nat} {t:qh} {n:Nat} (hc:X.calm=true) (h:JR X es t)
  (hn:(assignEach es X.env).length=n:=by rfl) (hst:(assignEach es X.env).findIdx? (·.1)=none:=by rfl):PG X (.Tuple es k pos) (HL X.K n t):=by
 intro pins s σ H v u Q I r hw
 obtain ⟨a,xs,e1,hq,hl,hw⟩:=hw
 subst e1
 cases r
 obtain ⟨its,rv,ht,hz⟩:=I.tuple hq
 refine assign_Tuple_tuple (I.ok.hd hc) ht (by simp [hn,← hl,rv.length]) hst λh' hx=>?_
 have I1:Inv X pins σ H { s with heap:=h' }:=I.kept (t':=s.toks) λb o e=>hx b o (TV (Heap.lt_size e)) e
 exact h pins _ σ H xs _ Q I1 (by simpa using rv) hw
def HK (to ti:TE) (t:j6):TG:=λv σ H Q=>to σ H λo H1=>ti σ H1 λi H2=>t o i v H2 λH3=>Q σ H3
theorem wD {o i:Expr} {to ti:TE} {t:j6} (ho:PE X o to) (hi:PE X i ti) (hs:j5 X t)
  (ha:∀v,assign (.Subscript o i pos) X.env v=(do
   let ov ← holding [v] (eval o X.env)
   let iv ← holding [v,ov] (eval i X.env)
   standAt pos
   holding [v,ov,iv] (setItem ov iv v)
   release [v,ov,iv] []):=by intro _;rfl):PG X (.Subscript o i pos) (HK to ti t):=by
 intro pins s σ H v u Q I r h
 rw [ha]
 refine wpAny_bind (wpAny_holding (cE (ho pins s σ H _ I h) λov s1 ⟨x,H1,I1,r1,q1⟩=>?_))
 refine wpAny_bind (wpAny_holding (cE (hi pins s1 σ H1 _ I1 q1) λiv s2 ⟨y,H2,I2,r2,q2⟩=>?_))
 refine wpAny_bind (wpAny_standAt (wpAny_bind (wpAny_holding (cE (hs pins s2 σ H2 x y v ov iv u _ I2 r1 r2 r q2) λ_ s3 ⟨H3,I3,q3⟩=>?_))))
 exact wpAny_release ⟨σ,H3,I3,q3⟩
def A2 (te:TE) (g:TG):TS:=λD σ H=>te σ H λx H1=>g x σ H1 D.nx
theorem wI {tg e:Expr} {te:TE} {g:TG} (he:PE X e te) (hg:PG X tg g) (hs:swapsWithSole [tg] e pos.line X.env=pure false:=by rfl) (hw:swappedStores [tg] e X.env=pure none:=by rfl)
  (h1:(assignEach [tg] X.env).map (·.2)=[assign tg X.env]:=by rfl):PS X (.Assign [tg] e pos) (A2 te g):=by
 intro pins s σ H D I h
 refine wpAny_Assign_stores (cE (he pins s σ H _ I h) λv s1 ⟨x,H1,I1,r1,q1⟩=>?_) hs hw
 rw [h1]
 exact cE (hg pins s1 σ H1 x v _ I1 r1 q1) λ_ s2 q=>q
theorem dh {i:Nat} {x:Str} {e:Expr} {te:TE} {pos':Pos} (hN:X.N.Nodup) (hi:X.N[i]?=some x) (hx:Loc X.env.scope x) (he:PE X e te) (hs:swapsWith e (some (.Name x pos')) pos.line X.env=pure false:=by rfl) (hf:X.fn x=true∨X.env.scope.names.lookup x=some .local:=by first | exact .inl rfl | exact .inr rfl | assumption) :
  PS X (.Assign [.Name x pos'] e pos) (A2 te (rH i)):=by
 intro pins s σ H D I h
 refine wpAny_Assign_Name (cE (he pins s σ H _ I h) λv s1 ⟨y,H1,I1,r1,q1⟩=>?_) hs
 exact gX I1 hN hi hx r1 (λs2 I2=>⟨_,H1,I2,q1⟩) hf
def JB (i j:Nat) (ta:TA):TS:=λD σ H=>ta σ H λvs H1=>∃v w,vs=[v,w]∧D.nx ((σ.set i (some v)).set j (some w)) H1
theorem o8 {i j:Nat} {x y:Str} {a b:Expr} {ta:TA} {px py pt:Pos} {kt k2 pt2} (hc:X.calm=true) (hN:X.N.Nodup) (hi:X.N[i]?=some x) (hj:X.N[j]?=some y) (hij:i≠j)
  (hx:X.env.scope.names.lookup x=some .local) (hy:X.env.scope.names.lookup y=some .local) (ha:PA X [a,b] ta)
  (hw:swappedStores [.Tuple [.Name x px,.Name y py] kt pt] (.Tuple [a,b] k2 pt2) X.env=pure (some [x,y]))
  (hs:swapsWithSole [.Tuple [.Name x px,.Name y py] kt pt] (.Tuple [a,b] k2 pt2) pos.line X.env=pure false:=by rfl) :
  PS X (.Assign [.Tuple [.Name x px,.Name y py] kt pt] (.Tuple [a,b] k2 pt2) pos) (JB i j ta):=by
 intro pins s σ H D I h
 rw [exec_Assign_arm]
 refine wpAny_bind (wpAny_standAt ?_)
 rw [hs]
 refine wpAny_bind (wpAny_pure ?_)
 rw [if_neg (by decide)]
 refine wpAny_bind (Tuple_ (cE (ha _ pins s σ H _ I h) λus s1 ⟨vs,H1,I1,r1,q1⟩=>?_))
 obtain ⟨v,w,e1,q1⟩:=q1
 subst e1
 obtain ⟨u1,u2,rfl,rv,rw'⟩:∃u1 u2,us=[u1,u2]∧RelV v u1∧RelV w u2:=by
  cases r1 with
  | cons p q =>
   cases q with
   | cons p' q' =>
    cases q'
    exact ⟨_,_,rfl,p,p'⟩
 refine wpAny_newObj_type ?_ (by show 2≤sizeLine;decide)
 have I2:Inv X pins σ H1 { s1 with heap:=s1.heap.push { cls:=.type "tuple",data:=.seq [u1,u2].toArray } }:=I1.kept (t':=s1.toks) λb o e=>Heap.get?_push_of_some _ e
 rw [hw]
 refine wpAny_bind (wpAny_pure ?_)
 show wpAny (model X.prog X.w) X.A (do rule "assign.swapped-stores";let items ← unpackItems (.ref s1.heap.objs.size) 2 none;assignInOrder [λv=>bindName X.env y v,λv=>bindName X.env x v] items.reverse;pure Flow.next) _ _ _
 refine wpAny_bind (wpAny_rule (wpAny_bind (unpackItems_tuple (items:=#[u1,u2]) (I.ok.hd hc) (IsTup.new s1.heap _) λh' hx'=>?_)))
 have I3:=I2.kept (h':=h') (t':=s1.toks) λb o e=>hx' b o (TV (Heap.lt_size e)) e
 show wpAny _ _ (assignInOrder [λv=>bindName X.env y v,λv=>bindName X.env x v] [u2,u1] >>= λ_=>pure Flow.next) _ _ _
 refine wpAny_bind (assignInOrder_cons (wpAny_bindName (gX I3 hN hj (.inl hy) rw' (λs2 I4=>?_) (.inr hy))))
 refine assignInOrder_cons (wpAny_bindName (gX I4 hN hi (.inl hx) rv (λs3 I5=>assignInOrder_nil (wpAny_pure ?_)) (.inr hx)))
 rw [List.set_comm _ _ (Ne.symm hij)] at I5
 exact ⟨_,H1,I5,q1⟩
def RL (i:Nat) (te:TE) (ti:Qa):TS:=λD σ H=>∃x,σ[i]?=some (some x)∧te σ H λy H1=>ti x y H1 λz H2=>D.nx (σ.set i (some z)) H2
theorem Mx {i:Nat} {x:Str} {e:Expr} {te:TE} {op:Operator} {ti:Qa} {pos':Pos} (hN:X.N.Nodup) (hi:X.N[i]?=some x) (hx:Loc X.env.scope x) (he:PE X e te) (ho:Qu X op ti) (hf:X.fn x=true∨X.env.scope.names.lookup x=some .local:=by first | exact .inl rfl | exact .inr rfl | assumption) :
  PS X (.AugAssign (.Name x pos') op e pos) (RL i te ti):=by
 intro pins s σ H D I h
 obtain ⟨v,e1,h⟩:=h
 obtain ⟨m,hn,hl⟩:=I.loc
 have vis:vM X.env.scope x:=by rcases hx with k | k;exact .inl k;exact .inr (.inl k)
 obtain ⟨u,r,l⟩:=hl i x v hi e1 vis
 refine wpAny_AugAssign_Name ?_
 have go:wpAny (model X.prog X.w) X.A (eval e X.env) (λw s₂=>wpAny (model X.prog X.w) X.A (inplaceOp op u w) (λr s₃=>wpAny (model X.prog X.w) X.A (storeName X.env x r) (λ_=>SP X pins D .next) X.xe s₃) X.xe s₂) X.xe s:=by
  refine cE (he pins s σ H _ I h) λw s1 ⟨y,H1,I1,r1,q1⟩=>?_
  refine cE (ho pins s1 σ H1 v y u w _ I1 r r1 q1) λz s2 ⟨zv,H2,I2,r2,q2⟩=>?_
  exact gX I2 hN hi hx r2 (λs3 I3=>⟨_,H2,I3,q2⟩) hf
 rcases l with ⟨hk,hm⟩ | ⟨hk,c,hc,hcell⟩
 ·exact wpAny_loadName_local I.ok.kind hk hn hm go
 ·rcases hk with hk | hk
  ·exact wpAny_loadName_cell I.ok.kind hk hc hcell go
  ·rcases hx with k | k
   ·have:X.env.scope.names.lookup x=some .free:=hk
    rw [k] at this;cases this
   ·have:X.env.scope.names.lookup x=some .free:=hk
    rw [k] at this;cases this
def S7 (f:Int→Int→Int):Qa:=λx y H Q=>∃i j,x=.int i∧y=.int j∧Q (.int (f i j)) H
theorem LF:Qu X .Sub (S7 λi j=>i - j):=by
 intro pins s σ H x y v u Q I r1 r2 h
 obtain ⟨i,j,e1,e2,q⟩:=h
 subst e1;subst e2
 obtain ⟨t,rfl⟩:=r1
 obtain ⟨t',rfl⟩:=r2
 exact isub_int ⟨.int _,H,I.tok _,⟨_,rfl⟩,q⟩
end
section
variable {X:Cx} {pos:Pos}
def xD (c:TT) (tb:TS):TS:=λD σ H=>∃W:Nat→St→Hp→Prop,(∃m,W m σ H)∧∀m σ H,W m σ H →
 c σ H λb H1=>if b=true then ∃N:St→Hp→Prop,(∀σ' H',N σ' H'→∃m',m' < m∧W m' σ' H')∧tb { D with nx:=N,ct:=N,bk:=D.nx } σ H1 else D.nx σ H1
theorem kW {c:Expr} {body:List Stmt} {tc:TT} {tb:TS} (hp:PassesOwn (model X.prog X.w) X.A X.env X.xe) (hc:PT X c tc) (hb:uK X body tb):PS X (.While c body [] pos) (xD tc tb):=by
 intro pins s σ H D I h
 obtain ⟨W,⟨m0,w0⟩,turn⟩:=h
 refine wpAny_While (codeAny_whileLoop (λn s'=>∃σ' H',Inv X pins σ' H' s'∧W n σ' H') ?_ m0 ⟨σ,H,I,w0⟩)
 rintro n s1 ⟨σ1,H1,I1,w1⟩
 refine wpAny_passesOwn hp (cE (hc pins s1 σ1 H1 _ I1 (turn n σ1 H1 w1)) λb s2 ⟨H2,I2,q2⟩=>?_)
 cases b with
 | true =>
  obtain ⟨N,hN,q2⟩:=q2
  rw [if_pos rfl]
  refine wpAny_passesOwn hp (cE (hb pins s2 σ1 H2 _ I2 q2) λf s3 q3=>?_)
  cases f with
  | next =>
   obtain ⟨σ3,H3,I3,n3⟩:=q3
   obtain ⟨m',hm,w3⟩:=hN σ3 H3 n3
   exact ⟨m',hm,σ3,H3,I3,w3⟩
  | cont =>
   obtain ⟨σ3,H3,I3,n3⟩:=q3
   obtain ⟨m',hm,w3⟩:=hN σ3 H3 n3
   exact ⟨m',hm,σ3,H3,I3,w3⟩
  | brk=>exact q3
  | ret v=>exact q3
 | false =>
  rw [if_neg TH]
  exact wpAny_execs_nil ⟨σ1,H2,I2,q2⟩
end
structure It where
 go:Nat→Hp→Prop
 yld:Nat→Hp→V→Hp→Prop
 stop:Nat→Hp→Prop
def lU (X:Cx) (pins:List (Addr × Obj)) (H:Hp) (b:Addr):Prop :=
 H b=none∧b≠X.env.locals∧b ∉ X.fs∧(b∈X.ex∨X.s₀.heap.objs.size≤b)∧(∀x c,X.env.cells.lookup x=some c→c≠b)∧∀p∈X.pn ++ pins,p.1≠b
theorem Inv.C7 {X:Cx} {pins:List (Addr × Obj)} {σ:St} {H H':Hp} {s:Shared} {b:Addr} (I:Inv X pins σ H s) (hb:s.heap.objs.size≤b) (hn:H' b=none):lU X pins H' b:=by
 refine ⟨hn,Vs (TF I.lt hb),I.Ri hb,.inr (TK I.sz hb),λx c e z=>?_,λp hp z=>?_⟩
 ·obtain ⟨v,q⟩:=I.cell x c e
  exact absurd (TF q.lt (by rw [z];exact hb)) (Us _)
 ·exact absurd (TF (Heap.lt_size (I.pin p hp).1) (by rw [z];exact hb)) (Us _)
structure Turn (P:Program) (w:World) (K:PySem.W.Frag) (tg:Expr) (J:It) (fp:List Addr) (it:Addr) (tn:Nat→Heap→Prop):Prop where
 mem:it∈fp
 obj:∀i h,tn i h→∀b∈fp,∃o,h.get? b=some o∧∀v,o.data≠.cell v
 keep:∀i h h',tn i h→(∀b∈fp,∀o,h.get? b=some o→h'.get? b=some o)→tn i h'
 item:∀(X:Cx),X.prog=P→X.w=w→X.K=K→X.calm=true→∀(i:Nat) (pins:List (Addr × Obj)) (s:Shared) (σ:St) (H:Hp) (E:Value→Shared→Prop),Inv X pins σ H s→(∀b∈fp,lU X pins H b)→tn i s.heap→J.go i H →
  wpAny (model P w) X.A (pyNext (.ref it)) (λr s1=>∃u,r=some u ∧
   wpAny (model P w) X.A (letOwnedTupleGo tg (.ref it) u) (λ_ s2=>∃x H',Inv X pins σ H' s2∧RelV x u∧J.yld i H x H'∧tn (i + 1) s2.heap∧∀b∈fp,H' b=none) E s1) E s
 done:∀(X:Cx),X.prog=P→X.w=w→X.K=K→X.calm=true→∀(i:Nat) (pins:List (Addr × Obj)) (s:Shared) (σ:St) (H:Hp) (E:Value→Shared→Prop),Inv X pins σ H s→(∀b∈fp,lU X pins H b)→tn i s.heap→J.stop i H →
  wpAny (model P w) X.A (pyNext (.ref it)) (λr s1=>r=none∧Inv X pins σ H s1) E s
 self:∀(A:Around) (i:Nat) (s:Shared) (Q:Value→Shared→Prop) (E:Value→Shared→Prop),tn i s.heap→Q (.ref it) s→wpAny (model P w) A (pyIter (.ref it)) Q E s
abbrev TI:=St→Hp→(It→Hp→Prop)→Prop
def Sl (X:Cx) (pins:List (Addr × Obj)) (σ:St) (tg:Expr) (R:It→Hp→Prop) (itv:Value) (s2:Shared):Prop :=
 ∃(it:Addr) (fp:List Addr) (tn:Nat→Heap→Prop) (J:It) (H':Hp),itv=.ref it∧Inv X pins σ H' s2∧Turn X.prog X.w X.K tg J fp it tn∧tn 0 s2.heap∧(∀b∈fp,lU X pins H' b)∧R J H'
def PI (X:Cx) (tg iter:Expr) (wi:TI):Prop :=
 ∀(pins:List (Addr × Obj)) (s:Shared) (σ:St) (H:Hp) (R:It→Hp→Prop),Inv X pins σ H s→wi σ H R →
  wpAny (model X.prog X.w) X.A (eval iter X.env) (λv s1=>wpAny (model X.prog X.w) X.A (pyIter v) (Sl X pins σ tg R) X.xe s1) X.xe s
theorem BE {M:Model} {A:Around} {E:Value→Shared→Prop} {s:Shared} {tg:Expr} {it:Addr} {u:Value} {o:Obj} {n:String} {vs:Array Value} {Q:Unit→Shared→Prop} (ho:s.heap.get? it=some o) (hc:o.cls=.type n) (hd:o.data=.fields vs)
  (hn:["enumerate","zip","dict_itemiterator","dict_reverseitemiterator","odict_iterator","itertools.zip_longest","itertools.pairwise"].contains n=false) (hQ:Q () s):wpAny M A (letOwnedTupleGo tg (.ref it) u) Q E s:=by
 unfold letOwnedTupleGo
 cases tg <;> first
  | exact wpAny_pure hQ
  | (cases u <;> first
    | exact wpAny_pure hQ
    | (refine wpAny_bind (wpAny_load ho ?_)
       rw [hc,hd]
       show wpAny M A (if (["enumerate","zip","dict_itemiterator","dict_reverseitemiterator","odict_iterator","itertools.zip_longest","itertools.pairwise"].contains n && vs[0]? == some (rawInt _))=true then _ else _) Q E s
       rw [if_neg (by intro h;rw [hn,Bool.false_and] at h;cases h)]
       exact wpAny_pure hQ))
def Hr (K:PySem.W.Frag) (a:Addr):It :=
 ⟨λi H=>∃xs x,dk K H a xs∧xs[i]?=some x,λi H x H'=>H'=H∧∀xs,dk K H a xs→xs[i]?=some x,λi H=>∃xs,dk K H a xs∧xs.length≤i⟩
def Si (K:PySem.W.Frag) (a:Addr):It :=
 ⟨λi H=>∃xs x,g7 K H a xs∧xs[i]?=some x,λi H x H'=>H'=H∧∀xs,g7 K H a xs→xs[i]?=some x,λi H=>∃xs,g7 K H a xs∧xs.length≤i⟩
def Ei (lo:Int) (n:Nat):It:=⟨λi _=>i < n,λi H x H'=>H'=H∧x=.int (lo + i),λi _=>n≤i⟩
theorem D1 {P:Program} {w:World} {K:PySem.W.Frag} {tg:Expr} (a it:Addr):Turn P w K tg (Hr K a) [it] it (λi h=>h.IsListIter it a i) where
 mem:=by simp
 obj:=λi h st b hb=>by
  have e:b=it:=by simpa using hb
  subst e
  obtain ⟨o,e,c,d⟩:=st
  exact ⟨o,e,λv z=>by rw [d] at z;cases z⟩
 keep:=λi h h' st k=>st.at λo e=>k it (by simp) o e
 item:=by
  intro X hP hw hK hc i pins s σ H E I hf st hg
  subst hP hw hK
  obtain ⟨xs,x,hq,hx⟩:=hg
  obtain ⟨its,rv,p,hz⟩:=I.list hq
  obtain ⟨u,hu,ru⟩:=rv.get hx
  obtain ⟨f0,f1,f2,f3,f4,f5⟩:=hf it (by simp)
  refine wpAny_pyNext_list_item st p.isList (x:=u) (by simpa using hu) λh' st' sb=>?_
  have I1:Inv X pins σ H { s with heap:=h' }:=I.turned (t':=s.toks) (λb o hb e=>(sb.2 b hb).trans e) f0 f1 f3 f4 f5
  obtain ⟨o,e,c,d⟩:=id st'
  exact ⟨u,rfl,BE (s:={ s with heap:=h' }) e c d (by decide) ⟨x,H,I1,ru,⟨rfl,λys hy=>by rw [I.kr hy hq];exact hx⟩,st',λb hb=>(hf b hb).1⟩⟩
 done:=by
  intro X hP hw hK hc i pins s σ H E I hf st hg
  subst hP hw hK
  obtain ⟨xs,hq,hx⟩:=hg
  obtain ⟨its,rv,p,hz⟩:=I.list hq
  obtain ⟨f0,f1,f2,f3,f4,f5⟩:=hf it (by simp)
  have hl:=rv.length
  exact wpAny_pyNext_list_end (I.ok.hd hc) st p.isList (by simp;omega) λh' eb=>⟨rfl,I.turned (t':=s.toks) (λb o hb e=>eb b o hb e) f0 f1 f3 f4 f5⟩
 self:=λ_ _ _ _ _ st h=>wpAny_pyIter_listiter st h
theorem A6 {P:Program} {w:World} {K:PySem.W.Frag} {tg:Expr} (a it:Addr):Turn P w K tg (Si K a) [it] it (λi h=>h.IsTupleIter it a i) where
 mem:=by simp
 obj:=λi h st b hb=>by
  have e:b=it:=by simpa using hb
  subst e
  obtain ⟨o,e,c,d⟩:=st
  exact ⟨o,e,λv z=>by rw [d] at z;cases z⟩
 keep:=λi h h' st k=>st.at λo e=>k it (by simp) o e
 item:=by
  intro X hP hw hK hc i pins s σ H E I hf st hg
  subst hP hw hK
  obtain ⟨xs,x,hq,hx⟩:=hg
  obtain ⟨its,rv,p,hz⟩:=I.tuple hq
  obtain ⟨u,hu,ru⟩:=rv.get hx
  obtain ⟨f0,f1,f2,f3,f4,f5⟩:=hf it (by simp)
  refine wpAny_pyNext_tuple_item st (show s.heap.IsTuple a its.toArray from p) (x:=u) (by simpa using hu) λh' st' sb=>?_
  have I1:Inv X pins σ H { s with heap:=h' }:=I.turned (t':=s.toks) (λb o hb e=>(sb.2 b hb).trans e) f0 f1 f3 f4 f5
  obtain ⟨o,e,c,d⟩:=id st'
  exact ⟨u,rfl,BE (s:={ s with heap:=h' }) e c d (by decide) ⟨x,H,I1,ru,⟨rfl,λys hy=>by rw [I.vp hy hq];exact hx⟩,st',λb hb=>(hf b hb).1⟩⟩
 done:=by
  intro X hP hw hK hc i pins s σ H E I hf st hg
  subst hP hw hK
  obtain ⟨xs,hq,hx⟩:=hg
  obtain ⟨its,rv,p,hz⟩:=I.tuple hq
  obtain ⟨f0,f1,f2,f3,f4,f5⟩:=hf it (by simp)
  have hl:=rv.length
  exact wpAny_pyNext_tuple_end (I.ok.hd hc) st (show s.heap.IsTuple a its.toArray from p) (by simp;omega) λh' eb=>⟨rfl,I.turned (t':=s.toks) (λb o hb e=>eb b o hb e) f0 f1 f3 f4 f5⟩
 self:=λ_ _ _ _ _ st h=>wpAny_pyIter_tupleiter st h
theorem A5 {P:Program} {w:World} {K:PySem.W.Frag} {tg:Expr} (it:Addr) (lo:Int) (n:Nat):Turn P w K tg (Ei lo n) [it] it (λi h=>IsRangeIter h it (lo + (i:Nat) * 1) ((n:Int) - (i:Nat)) 1) where
 mem:=by simp
 obj:=λi h st b hb=>by
  have e:b=it:=by simpa using hb
  subst e
  exact ⟨_,st,λv z=>by
   have z':Data.fields _=Data.cell v:=z
   cases z'⟩
 keep:=λi h h' st k=>k it (by simp) _ st
 item:=by
  intro X hP hw hK hc i pins s σ H E I hf st hg
  subst hP hw hK
  obtain ⟨f0,f1,f2,f3,f4,f5⟩:=hf it (by simp)
  have W:=Walks.range (prog:=X.prog) (w:=X.w) (I.ok.hd hc) it lo 1 n
  refine W.item i s _ _ hg st λv h' tk hv st' kk=>?_
  obtain ⟨t,rfl⟩:=hv
  have I1:Inv X pins σ H { s with heap:=h',toks:=tk }:=I.turned (λb o hb e=>kk b o (by simpa using hb) e) f0 f1 f3 f4 f5
  refine ⟨_,rfl,BE (s:={ s with heap:=h',toks:=tk }) (n:="range_iterator") st' rfl rfl (by decide) ⟨.int (lo + i),H,I1,⟨t,?_⟩,⟨rfl,rfl⟩,st',λb hb=>(hf b hb).1⟩⟩
  rw [Int.mul_one]
 done:=by
  intro X hP hw hK hc i pins s σ H E I hf st hg
  subst hP hw hK
  obtain ⟨f0,f1,f2,f3,f4,f5⟩:=hf it (by simp)
  exact wpAny_pyNext_range_end (I.ok.hd hc) st (by have:n≤i:=hg;omega) λh' eb=>⟨rfl,I.turned (t':=s.toks) (λb o hb e=>eb b o hb e) f0 f1 f3 f4 f5⟩
 self:=λ_ _ _ _ _ st h=>wpAny_pyIter_rangeiter st h
end L2
namespace L2
open PySem PySem.Spec PyProof.Rows
section
variable {X:Cx} {tg:Expr}
def BH (K:PySem.W.Frag) (tl:TE):TI:=λσ H R=>tl σ H λx H1=>∃a,x=.ref a∧(∃xs,dk K H1 a xs)∧R (Hr K a) H1
def LC (K:PySem.W.Frag) (tl:TE):TI:=λσ H R=>tl σ H λx H1=>∃a,x=.ref a∧(∃xs,g7 K H1 a xs)∧R (Si K a) H1
theorem nJ {l:Expr} {tl:TE} (hl:PE X l tl):PI X tg l (BH X.K tl):=by
 intro pins s σ H R I h
 refine cE (hl pins s σ H _ I h) λv s1 ⟨x,H1,I1,r1,q1⟩=>?_
 obtain ⟨a,e,⟨xs,hq⟩,q⟩:=q1
 subst e
 cases r1
 obtain ⟨its,rv,p,hz⟩:=I1.list hq
 refine wpAny_pyIter_list p.isList ?_
 refine ⟨s1.heap.objs.size,[s1.heap.objs.size],_,_,H1,rfl,I1.kept (t':=s1.toks) λb o e=>Heap.get?_push_of_some _ e,D1 a _,⟨_,Heap.get?_push_size _ rfl,rfl,rfl⟩,λb hb=>?_,q⟩
 have e:b=s1.heap.objs.size:=by simpa using hb
 subst e
 exact I1.C7 (Tr _) (I1.hok.fresh (Tr _))
theorem AA {l:Expr} {tl:TE} (hl:PE X l tl):PI X tg l (LC X.K tl):=by
 intro pins s σ H R I h
 refine cE (hl pins s σ H _ I h) λv s1 ⟨x,H1,I1,r1,q1⟩=>?_
 obtain ⟨a,e,⟨xs,hq⟩,q⟩:=q1
 subst e
 cases r1
 obtain ⟨its,rv,p,hz⟩:=I1.tuple hq
 refine wpAny_pyIter_tuple (show s1.heap.IsTuple a its.toArray from p) ?_
 refine ⟨s1.heap.objs.size,[s1.heap.objs.size],_,_,H1,rfl,I1.kept (t':=s1.toks) λb o e=>Heap.get?_push_of_some _ e,A6 a _,⟨_,Heap.get?_push_size _ rfl,rfl,rfl⟩,λb hb=>?_,q⟩
 have e:b=s1.heap.objs.size:=by simpa using hb
 subst e
 exact I1.C7 (Tr _) (I1.hok.fresh (Tr _))
theorem Gh {pins:List (Addr × Obj)} {σ:St} {H:Hp} {s:Shared} {R:It→Hp→Prop} {E:Value→Shared→Prop} {lo hi:Int} {t u v:Tok} {tk:Nat} (I:Inv X pins σ H s) (h1:-(2 ^ 62)≤lo) (h2:lo < 2 ^ 62) (h3:-(2 ^ 62)≤hi) (h4:hi < 2 ^ 62)
  (q:R (Ei lo (hi - lo).toNat) H):wpAny (model X.prog X.w) X.A (pyIter (.ref s.heap.objs.size)) (Sl X pins σ tg R) E { s with heap:=s.heap.push { cls:=.type "range",data:=.fields #[.int lo t,.int hi u,.int 1 v] },toks:=tk }:=by
 refine wpAny_pyIter_range (IsRange.new ..) (small_one h1 h2 h3 h4) ?_
 have I1:Inv X pins σ H { s with heap:=s.heap.push { cls:=.type "range",data:=.fields #[.int lo t,.int hi u,.int 1 v] },toks:=tk }:=I.kept λb o e=>Heap.get?_push_of_some _ e
 refine ⟨(s.heap.push { cls:=.type "range",data:=.fields #[.int lo t,.int hi u,.int 1 v] }).objs.size,[(s.heap.push { cls:=.type "range",data:=.fields #[.int lo t,.int hi u,.int 1 v] }).objs.size],_,_,H,rfl,
  I1.kept (t':=tk) λb o e=>Heap.get?_push_of_some _ e,A5 _ lo (hi - lo).toNat,?_,λb hb=>?_,q⟩
 ·have e1:lo + ((0:Nat):Int) * 1=lo:=by simp
  have e2:(((hi - lo).toNat:Nat):Int) - ((0:Nat):Int)=Builtin.Range.rangeSize lo hi 1:=by rw [rangeSize_one];split <;> omega
  show IsRangeIter _ _ (lo + ((0:Nat):Int) * 1) ((((hi - lo).toNat:Nat):Int) - ((0:Nat):Int)) 1
  rw [e1,e2]
  exact Heap.get?_push_size _ rfl
 ·have e:b=(s.heap.push { cls:=.type "range",data:=.fields #[.int lo t,.int hi u,.int 1 v] }).objs.size:=by simpa using hb
  subst e
  exact I1.C7 (Tr _) (I1.hok.fresh (Tr _))
def BI (ta:TA):TI:=λσ H R=>ta σ H λvs H1=>∃j:Int,vs=[.int j]∧-(2 ^ 62)≤j∧j < 2 ^ 62∧R (Ei 0 j.toNat) H1
def JX (ta:TA):TI:=λσ H R=>ta σ H λvs H1=>∃i j:Int,vs=[.int i,.int j]∧(-(2 ^ 62)≤i∧i < 2 ^ 62∧-(2 ^ 62)≤j∧j < 2 ^ 62)∧R (Ei i (j - i).toNat) H1
theorem gC {a:Expr} {ta:TA} {p pos:Pos} (hg:Gl X "range") (hm:X.mg "range"=none) (ha:PA X [a] ta) (hs:starEach [a] X.env=[(false,eval a X.env)]:=by rfl):PI X tg (.Call (.Name "range" p) [a] [] pos) (BI ta):=by
 intro pins s σ H R I h
 refine Call_ (mr I hg hm boot_range (PyProof.Rows.callWith_type1 (cE (ha pos pins s σ H _ I h) λus s1 ⟨vs,H1,I1,r1,q1⟩=>?_) hs rfl))
 obtain ⟨j,e,q1,q2,q⟩:=q1
 subst e
 cases r1 with
 | cons r rr =>
  cases rr
  obtain ⟨t,rfl⟩:=r
  exact call_range_1 (Gh I1 (by omega) (by omega) q1 q2 (by simpa using q))
def M1 (wi:TI) (g:TG) (tb:TS):TS:=λD σ H=>wi σ H λJ H1=>∃W:Nat→Nat→St→Hp→Prop,(∃m,W 0 m σ H1)∧∀i m σ H,W i m σ H →
 (J.stop i H∧D.nx σ H)∨(J.go i H∧∃N:St→Hp→Prop,(∀σ' H',N σ' H'→∃m',m' < m∧W (i + 1) m' σ' H')∧∀x H',J.yld i H x H'→g x σ H' λσ2 H2=>tb { D with nx:=N,ct:=N,bk:=D.nx } σ2 H2)
def wH (fp:List Addr) (h:Heap):List (Addr × Obj):=fp.filterMap λb=>(h.get? b).map λo=>(b,o)
theorem cT {fp:List Addr} {h:Heap} {b:Addr} {o:Obj} (hb:b∈fp) (e:h.get? b=some o):(b,o)∈wH fp h:=UQ.mpr ⟨b,hb,by rw [e];rfl⟩
theorem Dw {fp:List Addr} {h:Heap} {p:Addr × Obj} (hp:p∈wH fp h):p.1∈fp∧h.get? p.1=some p.2:=by
 obtain ⟨b,hb,e⟩:=UQ.mp hp
 cases q:h.get? b with
 | none=>rw [q] at e;cases e
 | some o =>
  rw [q] at e
  have e':(b,o)=p:=Option.some.inj e
  subst e'
  exact ⟨hb,q⟩
theorem Inv.pinned {pins:List (Addr × Obj)} {σ:St} {H:Hp} {s:Shared} {fp:List Addr} (I:Inv X pins σ H s) (hf:∀b∈fp,lU X pins H b) (ho:∀b∈fp,∃o,s.heap.get? b=some o∧∀v,o.data≠.cell v):Inv X (pins ++ wH fp s.heap) σ H s :=
 I.BX λp hp=>(Tv.mp hp).elim (λz=>I.pin p (Tz _ z)) λz=>by
  obtain ⟨hb,e⟩:=Dw z
  obtain ⟨f0,f1,f2,_⟩:=hf p.1 hb
  obtain ⟨o,e',d⟩:=ho p.1 hb
  rw [e] at e';cases e'
  exact ⟨e,f0,f1,f2,d⟩
theorem Inv.gZ {pins pl:List (Addr × Obj)} {σ:St} {H:Hp} {s:Shared} (I:Inv X (pins ++ pl) σ H s):Inv X pins σ H s:=I.BX λp hp=>I.pin p (Tz _ (UL _ hp))
theorem o7 {iter:Expr} {body:List Stmt} {wi:TI} {g:TG} {tb:TS} {pos:Pos} (hp:PassesOwn (model X.prog X.w) X.A X.env X.xe) (hc:X.calm=true) (hi:PI X tg iter wi) (hg:PG X tg g) (hb:uK X body tb)
  (hs:∀x,foldedSetIterable iter X.env x=pure x:=by intro _;rfl):PS X (.For tg iter body [] pos) (M1 wi g tb):=by
 intro pins s σ H D I h
 refine wpAny_For (cE (hi pins s σ H _ I h) λv s1 h1=>cE h1 λitv s2 h2=>?_) hs
 obtain ⟨it,fp,tn,J,H2,e,I2,T,st2,f2,W,⟨m0,w0⟩,turn⟩:=h2
 subst e
 have stat:∀{H':Hp},(∀b∈fp,H' b=none)→∀b∈fp,lU X pins H' b:=λhn b hb=>⟨hn b hb,(f2 b hb).2⟩
 refine codeAny_forLoop_any (λn s'=>∃i σ' H',Inv X pins σ' H' s'∧tn i s'.heap∧(∀b∈fp,H' b=none)∧W i n σ' H') ?_ m0 ⟨0,σ,H2,I2,st2,λb hb=>(f2 b hb).1,w0⟩
 rintro n s3 ⟨i,σ3,H3,I3,st3,fr3,w3⟩
 rcases turn i n σ3 H3 w3 with ⟨stop,qn⟩ | ⟨go,N,hN,step⟩
 ·refine wpAny_passesOwn hp (cE (T.done X rfl rfl rfl hc i pins s3 σ3 H3 X.xe I3 (stat fr3) st3 stop) λr s4 ⟨hr,I4⟩=>?_)
  subst hr
  exact wpAny_execs_nil ⟨σ3,H3,I4,qn⟩
 ·refine wpAny_passesOwn hp (cE (T.item X rfl rfl rfl hc i pins s3 σ3 H3 X.xe I3 (stat fr3) st3 go) λr s4 ⟨u,hr,h4⟩=>?_)
  subst hr
  refine wpAny_passesOwn hp (cE h4 λ_ s5 ⟨x,H5,I5,r5,y5,st5,fr5⟩=>?_)
  have I5':=I5.pinned (stat fr5) (T.obj _ _ st5)
  refine wpAny_passesOwn hp (cE (hg _ s5 σ3 H5 x u _ I5' r5 (step x H5 y5)) λ_ s6 ⟨σ6,H6,I6,q6⟩=>?_)
  refine wpAny_passesOwn hp (cE (hb _ s6 σ6 H6 _ I6 q6) λf s7 q7=>?_)
  have again:∀{σ7:St} {H7:Hp},Inv X (pins ++ wH fp s5.heap) σ7 H7 s7→N σ7 H7→∃m,m < n∧∃i σ' H',Inv X pins σ' H' s7∧tn i s7.heap∧(∀b∈fp,H' b=none)∧W i m σ' H':=λ{σ7 H7} I7 n7=>by
   obtain ⟨m',hm,w7⟩:=hN σ7 H7 n7
   refine ⟨m',hm,i + 1,σ7,H7,I7.gZ,T.keep _ _ _ st5 λb hb o e=>(I7.pin (b,o) (Tz _ (Tz _ (cT hb e)))).1,λb hb=>?_,w7⟩
   obtain ⟨o,e,d⟩:=T.obj _ _ st5 b hb
   exact (I7.pin (b,o) (Tz _ (Tz _ (cT hb e)))).2.1
  cases f with
  | next=>obtain ⟨σ7,H7,I7,n7⟩:=q7;exact again I7 n7
  | cont=>obtain ⟨σ7,H7,I7,n7⟩:=q7;exact again I7 n7
  | brk=>obtain ⟨σ7,H7,I7,q7⟩:=q7;exact ⟨σ7,H7,I7.gZ,q7⟩
  | ret v=>obtain ⟨x7,σ7,H7,I7,r7,q7⟩:=q7;exact ⟨x7,σ7,H7,I7.gZ,r7,q7⟩
end
theorem EO {K:PySem.W.Frag} {a:Addr} {xs:List V} {g:TG} {tb:TS} {D:Ends} {σ:St} {H:Hp} (Pv:Nat→St→Hp→Prop) (h0:Pv 0 σ H) (hl:∀i σ H,i≤xs.length→Pv i σ H→dk K H a xs)
  (hs:∀i x σ H,xs[i]?=some x→Pv i σ H→g x σ H λσ2 H2=>tb { D with nx:=Pv (i + 1),ct:=Pv (i + 1),bk:=D.nx } σ2 H2) (hd:∀σ H,Pv xs.length σ H→D.nx σ H) :
  ∃W:Nat→Nat→St→Hp→Prop,(∃m,W 0 m σ H)∧∀i m σ H,W i m σ H →
   ((Hr K a).stop i H∧D.nx σ H)∨((Hr K a).go i H∧∃N:St→Hp→Prop,(∀σ' H',N σ' H'→∃m',m' < m∧W (i + 1) m' σ' H')∧∀x H',(Hr K a).yld i H x H'→g x σ H' λσ2 H2=>tb { D with nx:=N,ct:=N,bk:=D.nx } σ2 H2):=by
 refine ⟨λi m σ H=>m=xs.length - i∧i≤xs.length∧Pv i σ H,⟨xs.length,by simp,T3 _,h0⟩,?_⟩
 rintro i m σ H ⟨rfl,hi,p⟩
 have q:=hl i σ H hi p
 by_cases hlt:i < xs.length
 ·refine .inr ⟨⟨xs,xs[i],q,by simp [hlt]⟩,Pv (i + 1),λσ' H' p'=>⟨xs.length - (i + 1),by omega,rfl,hlt,p'⟩,λx H' y=>?_⟩
  obtain ⟨e,y⟩:=y
  subst e
  exact hs i x σ _ (y xs q) p
 ·have e:i=xs.length:=by omega
  subst e
  exact .inl ⟨⟨xs,q,Tr _⟩,hd σ H p⟩
theorem uW {lo:Int} {n:Nat} {g:TG} {tb:TS} {D:Ends} {σ:St} {H:Hp} (Pv:Nat→St→Hp→Prop) (h0:Pv 0 σ H)
  (hs:∀i σ H,i < n→Pv i σ H→g (.int (lo + i)) σ H λσ2 H2=>tb { D with nx:=Pv (i + 1),ct:=Pv (i + 1),bk:=D.nx } σ2 H2) (hd:∀σ H,Pv n σ H→D.nx σ H) :
  ∃W:Nat→Nat→St→Hp→Prop,(∃m,W 0 m σ H)∧∀i m σ H,W i m σ H →
   ((Ei lo n).stop i H∧D.nx σ H)∨((Ei lo n).go i H∧∃N:St→Hp→Prop,(∀σ' H',N σ' H'→∃m',m' < m∧W (i + 1) m' σ' H')∧∀x H',(Ei lo n).yld i H x H'→g x σ H' λσ2 H2=>tb { D with nx:=N,ct:=N,bk:=D.nx } σ2 H2):=by
 refine ⟨λi m σ H=>m=n - i∧i≤n∧Pv i σ H,⟨n,by simp,T3 _,h0⟩,?_⟩
 rintro i m σ H ⟨rfl,hi,p⟩
 by_cases hlt:i < n
 ·refine .inr ⟨hlt,Pv (i + 1),λσ' H' p'=>⟨n - (i + 1),by omega,rfl,hlt,p'⟩,λx H' y=>?_⟩
  obtain ⟨e,y⟩:=y
  subst e y
  exact hs i σ _ hlt p
 ·have e:i=n:=by omega
  subst e
  exact .inl ⟨Tr _,hd σ H p⟩
theorem zk {c:TT} {tb:TS} {D:Ends} {σ:St} {H:Hp} (Pv:St→Hp→Prop) (μ:St→Hp→Nat) (h0:Pv σ H)
  (hs:∀σ H,Pv σ H→c σ H λb H1=>if b=true then tb { D with nx:=λσ' H'=>Pv σ' H'∧μ σ' H' < μ σ H,ct:=λσ' H'=>Pv σ' H'∧μ σ' H' < μ σ H,bk:=D.nx } σ H1 else D.nx σ H1)
  (mono:∀σ H Q Q',(∀b H1,Q b H1→Q' b H1)→c σ H Q→c σ H Q'):xD c tb D σ H:=by
 refine ⟨λm σ H=>m=μ σ H∧Pv σ H,⟨_,rfl,h0⟩,?_⟩
 rintro m σ H ⟨rfl,p⟩
 refine mono σ H _ _ (λb H1 q=>?_) (hs σ H p)
 cases b with
 | true=>exact ⟨_,λσ' H' ⟨p',l⟩=>⟨_,l,rfl,p'⟩,q⟩
 | false=>exact q
end L2
namespace L2
open PySem PySem.Spec PyProof.Rows
abbrev R2:=V→V→Hp→VK→Prop
def fT (X:Cx) (f:Value→Value→Sem Value) (r:R2):Prop :=
 ∀(pins:List (Addr × Obj)) (s:Shared) (σ:St) (H:Hp) (x y:V) (v u:Value) (Q:VK),Inv X pins σ H s→RelV x v→RelV y u→r x y H Q →
  wpAny (model X.prog X.w) X.A (f v u) (EP X pins σ Q) X.xe s
def xJ (X:Cx) (f:Value→Sem Value) (r:V→Hp→VK→Prop):Prop :=
 ∀(pins:List (Addr × Obj)) (s:Shared) (σ:St) (H:Hp) (x:V) (v:Value) (Q:VK),Inv X pins σ H s→RelV x v→r x H Q →
  wpAny (model X.prog X.w) X.A (f v) (EP X pins σ Q) X.xe s
def cx (X:Cx) (f:Value) (r:List V→Hp→VK→Prop):Prop :=
 ∀(pins:List (Addr × Obj)) (s:Shared) (σ:St) (H:Hp) (xs:List V) (us:List Value) (Q:VK),Inv X pins σ H s→Vals xs us→r xs H Q →
  wpAny (model X.prog X.w) X.A (call f us) (EP X pins σ Q) X.xe s
def Qx (X:Cx) (r:V→Hp→(Bool→Hp→Prop)→Prop):Prop :=
 ∀(pins:List (Addr × Obj)) (s:Shared) (σ:St) (H:Hp) (x:V) (v:Value) (Q:Bool→Hp→Prop),Inv X pins σ H s→RelV x v→r x H Q →
  wpAny (model X.prog X.w) X.A (truthy v) (TP X pins σ Q) X.xe s
def GU (r:R2) (ta tb:TE):TE:=λσ H Q=>ta σ H λx H1=>tb σ H1 λy H2=>r x y H2 Q
def Qm (r:V→Hp→VK→Prop) (ta:TE):TE:=λσ H Q=>ta σ H λx H1=>r x H1 Q
def rI (C:Int→Int→Prop) (g:Int→Int→V):R2:=λx y H Q=>∃i j,x=.int i∧y=.int j∧C i j∧Q (g i j) H
def Ha (g:Int→Int→V):R2:=λx y H Q=>∃i j,x=.int i∧y=.int j∧Q (g i j) H
def rU (g:Int→V):V→Hp→VK→Prop:=λx H Q=>∃i,x=.int i∧Q (g i) H
section
variable {X:Cx} {a b c:Expr} {ta tb tc:TE} {pos:Pos}
theorem Lj (ha:PE X a ta) (hb:PE X b tb) {pins:List (Addr × Obj)} {s:Shared} {σ:St} {H:Hp} {R:V→V→Hp→Prop} (I:Inv X pins σ H s)
  (h:ta σ H λx H1=>tb σ H1 λy H2=>R x y H2) {Q:Value→Shared→Prop} {f:Value→Value→Sem Value}
  (hf:∀v u s2 x y H2,Inv X pins σ H2 s2→RelV x v→RelV y u→R x y H2→wpAny (model X.prog X.w) X.A (f v u) Q X.xe s2) :
  wpAny (model X.prog X.w) X.A (eval a X.env) (λv s₁=>wpAny (model X.prog X.w) X.A (eval b X.env) (λu s₂=>wpAny (model X.prog X.w) X.A (f v u) Q X.xe s₂) X.xe s₁) X.xe s:=by
 refine cE (ha pins s σ H _ I h) λv s1 ⟨x,H1,I1,r1,q1⟩=>?_
 refine cE (hb pins s1 σ H1 _ I1 q1) λu s2 ⟨y,H2,I2,r2,q2⟩=>?_
 exact hf v u s2 x y H2 I2 r1 r2 q2
theorem bD {op:Operator} {r:R2} (ho:fT X (binaryOp op) r) (ha:PE X a ta) (hb:PE X b tb):PE X (.BinOp a op b pos) (GU r ta tb):=by
 intro pins s σ H Q I h
 exact wpAny_BinOp (Lj ha hb I h λv u s2 x y H2 I2 rx ry q=>ho pins s2 σ H2 x y v u Q I2 rx ry q)
theorem BW {op:UnaryOp} {r:V→Hp→VK→Prop} (ho:xJ X (unaryOp op) r) (ha:PE X a ta):PE X (.UnaryOp op a pos) (Qm r ta):=by
 intro pins s σ H Q I h
 exact UnaryOp_ (cE (ha pins s σ H _ I h) λv s1 ⟨x,H1,I1,r1,q1⟩=>ho pins s1 σ H1 x v Q I1 r1 q1)
theorem Qg {f:Value→Value→Sem Value} {C:Int→Int→Prop} {g:Int→Int→Int}
  (rule:∀(i j:Int) (t u:Tok) (s:Shared) (Q:Value→Shared→Prop) (E:Value→Shared→Prop),C i j→Q (.int (g i j) s.toks) { s with toks:=s.toks + 1 }→wpAny (model X.prog X.w) X.A (f (.int i t) (.int j u)) Q E s) :
  fT X f (rI C λi j=>.int (g i j)):=by
 intro pins s σ H x y v u Q I rx ry h
 obtain ⟨i,j,rfl,rfl,hc,q⟩:=h
 obtain ⟨t,rfl⟩:=rx
 obtain ⟨t',rfl⟩:=ry
 exact rule i j t t' s _ _ hc ⟨.int (g i j),H,I.tok _,⟨_,rfl⟩,q⟩
theorem OO {f:Value→Value→Sem Value} {g:Int→Int→Int}
  (rule:∀(i j:Int) (t u:Tok) (s:Shared) (Q:Value→Shared→Prop) (E:Value→Shared→Prop),Q (.int (g i j) s.toks) { s with toks:=s.toks + 1 }→wpAny (model X.prog X.w) X.A (f (.int i t) (.int j u)) Q E s) :
  fT X f (Ha λi j=>.int (g i j)):=by
 intro pins s σ H x y v u Q I rx ry h
 obtain ⟨i,j,rfl,rfl,q⟩:=h
 obtain ⟨t,rfl⟩:=rx
 obtain ⟨t',rfl⟩:=ry
 exact rule i j t t' s _ _ ⟨.int (g i j),H,I.tok _,⟨_,rfl⟩,q⟩
theorem Ir {f:Value→Value→Sem Value} {g:Int→Int→Bool}
  (rule:∀(i j:Int) (t u:Tok) (s:Shared) (Q:Value→Shared→Prop) (E:Value→Shared→Prop),Q (.bool (g i j)) s→wpAny (model X.prog X.w) X.A (f (.int i t) (.int j u)) Q E s) :
  fT X f (Ha λi j=>.bl (g i j)):=by
 intro pins s σ H x y v u Q I rx ry h
 obtain ⟨i,j,rfl,rfl,q⟩:=h
 obtain ⟨t,rfl⟩:=rx
 obtain ⟨t',rfl⟩:=ry
 exact rule i j t t' s _ _ ⟨.bl (g i j),H,I,rfl,q⟩
def Qp (i j:Int):Prop:=0≤j∧j≤1000000∧i.natAbs < 2 ^ 64
theorem jE:fT X (binaryOp .Add) (Ha λi j=>.int (i + j)):=OO λ_ _ _ _ _ _ _ q=>add_int q
theorem Ar:fT X (binaryOp .Sub) (Ha λi j=>.int (i - j)):=OO λ_ _ _ _ _ _ _ q=>sub_int q
theorem gL:fT X (binaryOp .Mod) (rI (λ_ j=>0 < j) λi j=>.int (i % j)):=Qg λi j _ _ _ _ _ hc q=>by
 have h1:(0:Int) < j:=hc
 exact mod_int' (by omega) (by rw [Int.fmod_eq_emod_of_nonneg i (by omega)];exact q)
theorem FL:fT X (binaryOp .Pow) (rI Qp λi j=>.int (i ^ j.toNat)):=Qg λ_ _ _ _ _ _ _ hc q=>pow_int_small hc.1 hc.2.1 hc.2.2 q
theorem Tg {f:Value→Sem Value} {g:Int→Int}
  (rule:∀(i:Int) (t:Tok) (s:Shared) (Q:Value→Shared→Prop) (E:Value→Shared→Prop),Q (.int (g i) s.toks) { s with toks:=s.toks + 1 }→wpAny (model X.prog X.w) X.A (f (.int i t)) Q E s) :
  xJ X f (rU λi=>.int (g i)):=by
 intro pins s σ H x v Q I rx h
 obtain ⟨i,rfl,q⟩:=h
 obtain ⟨t,rfl⟩:=rx
 exact rule i t s _ _ ⟨.int (g i),H,I.tok _,⟨_,rfl⟩,q⟩
theorem GZ:xJ X (unaryOp .USub) (rU λi=>.int (-i)):=Tg λ_ _ _ _ _ q=>neg_int q
end
def Gx:V→V→Bool
 | .non,.non=>true | .non,.int _=>true | .int _,.non=>true | .non,.bl _=>true | .bl _,.non=>true | .non,.str _=>true | .str _,.non=>true
 | .int _,.int _=>true | .bl _,.bl _=>true | .str _,.str _=>true | .byt _,.byt _=>true
 | .int _,.str _=>true | .str _,.int _=>true | .bl _,.str _=>true | .str _,.bl _=>true
 | _,_=>false
def SO:R2:=λx y H Q=>Gx x y=true∧Q (.bl (decide (x=y))) H
def SU:R2:=λx y H Q=>Gx x y=true∧Q (.bl (!decide (x=y))) H
theorem Bu {i j:Int}:decide (V.int i=V.int j)=(i == j):=by
 rw [UA]
 simp
theorem EG {i j:Bool}:decide (V.bl i=V.bl j)=(i == j):=by
 rw [UA]
 simp
theorem Bv {i j:Str}:decide (V.str i=V.str j)=(i == j):=by
 rw [UA]
 simp
theorem Bt {i j:Array UInt8}:decide (V.byt i=V.byt j)=(i.toList == j.toList):=by
 rw [UA]
 cases i
 cases j
 simp
section
variable {X:Cx} {a b c:Expr} {ta tb tc:TE} {pos:Pos}
theorem bH {pins:List (Addr × Obj)} {σ:St} {H:Hp} {s:Shared} {Q:VK} {k k':Bool} (I:Inv X pins σ H s) (q:Q (.bl k) H) (e:k=k'):EP X pins σ Q (.bool k') s:=by
 subst e
 exact ⟨.bl k,H,I,rfl,q⟩
theorem FK:fT X (compareOp .Eq) SO:=by
 intro pins s σ H x y v u Q I rx ry h
 obtain ⟨hs,q⟩:=h
 cases x with
 | non =>
  cases rx
  cases y with
  | non=>cases ry;exact PySem.EqNone.eq_none_none (bH I q (by simp))
  | bl j=>cases ry;exact PySem.EqNone.eq_none_bool (bH I q (by simp))
  | int j=>obtain ⟨t',rfl⟩:=ry;exact PySem.EqNone.eq_none_int (bH I q (by simp))
  | str j=>obtain ⟨t',rfl⟩:=ry;exact PySem.EqNone.eq_none_str (bH I q (by simp))
  | _=>exact absurd (show false=true from hs) TH
 | bl i =>
  cases rx
  cases y with
  | non=>cases ry;exact PySem.EqNone.eq_bool_none (bH I q (by simp))
  | bl j=>cases ry;exact eq_bool (bH I q EG)
  | str j=>obtain ⟨t',rfl⟩:=ry;exact PySem.EqMixed.eq_bool_str (bH I q (by simp))
  | _=>exact absurd (show false=true from hs) TH
 | int i =>
  obtain ⟨t,rfl⟩:=rx
  cases y with
  | non=>cases ry;exact PySem.EqNone.eq_int_none (bH I q (by simp))
  | int j=>obtain ⟨t',rfl⟩:=ry;exact eq_int (bH I q Bu)
  | str j=>obtain ⟨t',rfl⟩:=ry;exact PySem.EqMixed.eq_int_str (bH I q (by simp))
  | _=>exact absurd (show false=true from hs) TH
 | str i =>
  obtain ⟨t,rfl⟩:=rx
  cases y with
  | non=>cases ry;exact PySem.EqNone.eq_str_none (bH I q (by simp))
  | bl j=>cases ry;exact PySem.EqMixed.eq_str_bool (bH I q (by simp))
  | int j=>obtain ⟨t',rfl⟩:=ry;exact PySem.EqMixed.eq_str_int (bH I q (by simp))
  | str j=>obtain ⟨t',rfl⟩:=ry;exact eq_str (bH I q Bv)
  | _=>exact absurd (show false=true from hs) TH
 | byt i =>
  obtain ⟨t,rfl⟩:=rx
  cases y with
  | byt j=>obtain ⟨t',rfl⟩:=ry;exact PySem.W.eq_bytes (bH I q Bt)
  | _=>exact absurd (show false=true from hs) TH
 | _=>cases y <;> exact absurd (show false=true from hs) TH
theorem Ks:fT X (compareOp .NotEq) SU:=by
 intro pins s σ H x y v u Q I rx ry h
 obtain ⟨hs,q⟩:=h
 cases x with
 | non =>
  cases rx
  cases y with
  | non=>cases ry;exact PySem.EqNone.ne_none_none (bH I q (by simp))
  | bl j=>cases ry;exact PySem.EqNone.ne_none_bool (bH I q (by simp))
  | int j=>obtain ⟨t',rfl⟩:=ry;exact PySem.EqNone.ne_none_int (bH I q (by simp))
  | str j=>obtain ⟨t',rfl⟩:=ry;exact PySem.EqNone.ne_none_str (bH I q (by simp))
  | _=>exact absurd (show false=true from hs) TH
 | bl i =>
  cases rx
  cases y with
  | non=>cases ry;exact PySem.EqNone.ne_bool_none (bH I q (by simp))
  | bl j=>cases ry;exact ne_bool (bH I q (congrArg not EG))
  | str j=>obtain ⟨t',rfl⟩:=ry;exact PySem.EqMixed.ne_bool_str (bH I q (by simp))
  | _=>exact absurd (show false=true from hs) TH
 | int i =>
  obtain ⟨t,rfl⟩:=rx
  cases y with
  | non=>cases ry;exact PySem.EqNone.ne_int_none (bH I q (by simp))
  | int j=>obtain ⟨t',rfl⟩:=ry;exact ne_int (bH I q (congrArg not Bu))
  | str j=>obtain ⟨t',rfl⟩:=ry;exact PySem.EqMixed.ne_int_str (bH I q (by simp))
  | _=>exact absurd (show false=true from hs) TH
 | str i =>
  obtain ⟨t,rfl⟩:=rx
  cases y with
  | non=>cases ry;exact PySem.EqNone.ne_str_none (bH I q (by simp))
  | bl j=>cases ry;exact PySem.EqMixed.ne_str_bool (bH I q (by simp))
  | int j=>obtain ⟨t',rfl⟩:=ry;exact PySem.EqMixed.ne_str_int (bH I q (by simp))
  | str j=>obtain ⟨t',rfl⟩:=ry;exact ne_str (bH I q (congrArg not Bv))
  | _=>exact absurd (show false=true from hs) TH
 | byt i =>
  obtain ⟨t,rfl⟩:=rx
  cases y with
  | byt j=>obtain ⟨t',rfl⟩:=ry;exact PySem.W.ne_bytes (bH I q (congrArg not Bt))
  | _=>exact absurd (show false=true from hs) TH
 | _=>cases y <;> exact absurd (show false=true from hs) TH
theorem BS:fT X (compareOp .Lt) (Ha λi j=>.bl (decide (i < j))):=Ir λ_ _ _ _ _ _ _ q=>lt_int q
theorem Kr:fT X (compareOp .LtE) (Ha λi j=>.bl (decide (i≤j))):=Ir λ_ _ _ _ _ _ _ q=>le_int q
theorem Kq:fT X (compareOp .Gt) (Ha λi j=>.bl (decide (j < i))):=Ir λ_ _ _ _ _ _ _ q=>gt_int q
theorem Kp:fT X (compareOp .GtE) (Ha λi j=>.bl (decide (j≤i))):=Ir λ_ _ _ _ _ _ _ q=>ge_int q
theorem DJ:fT X (compareOp .Lt) (λx y H Q=>∃i j,x=.str i∧y=.str j∧Q (.bl (decide (i.cps.toList < j.cps.toList))) H):=by
 intro pins s σ H x y v u Q I rx ry h
 obtain ⟨i,j,rfl,rfl,q⟩:=h
 obtain ⟨t,rfl⟩:=rx
 obtain ⟨t',rfl⟩:=ry
 exact lt_str (bH I q rfl)
theorem Mn:fT X (compareOp .Is) (λx y H Q=>y=.non∧Q (.bl (decide (x=.non))) H):=by
 intro pins s σ H x y v u Q I rx ry h
 obtain ⟨rfl,q⟩:=h
 cases ry
 refine is_none_gen (bH I q ?_)
 cases x <;> first
  | (cases rx;rfl)
  | (obtain ⟨t,rfl⟩:=rx;rfl)
theorem Iv:fT X (compareOp .IsNot) (λx y H Q=>y=.non∧Q (.bl (!decide (x=.non))) H):=by
 intro pins s σ H x y v u Q I rx ry h
 obtain ⟨rfl,q⟩:=h
 cases ry
 refine isnot_none_gen (bH I q ?_)
 cases x <;> first
  | (cases rx;rfl)
  | (obtain ⟨t,rfl⟩:=rx;rfl)
theorem fT.or {f:Value→Value→Sem Value} {r r':R2} (h:fT X f r) (h':fT X f r'):fT X f (λx y H Q=>r x y H Q∨r' x y H Q):=by
 intro pins s σ H x y v u Q I rx ry q
 rcases q with q | q
 ·exact h pins s σ H x y v u Q I rx ry q
 ·exact h' pins s σ H x y v u Q I rx ry q
theorem fJ (b:Expr) {op:CmpOp} (h:op≠.In:=by decide) (h2:op≠.NotIn:=by decide):behindInMarks op b=false:=by
 have e1:(op == CmpOp.In)=false:=by cases op <;> first | rfl | exact absurd rfl h
 have e2:(op == CmpOp.NotIn)=false:=by cases op <;> first | rfl | exact absurd rfl h2
 cases b <;> simp [behindInMarks,e1,e2]
theorem qF {op:CmpOp} {r:R2} (ho:fT X (compareOp op) r) (ha:PE X a ta) (hb:PE X b tb) (hm:behindInMarks op b=false):PE X (.Compare a [op] [b] pos) (GU r ta tb):=by
 intro pins s σ H Q I h
 exact wpAny_Compare1 (Lj ha hb I h λv u s2 x y H2 I2 rx ry q=>ho pins s2 σ H2 x y v u Q I2 rx ry q) hm
def Cz (t:TE):TT:=λσ H Q=>t σ H λx H'=>∃k,x=.bl k∧Q k H'
theorem dX {op:CmpOp} {r:R2} (ho:fT X (compareOp op) r) (ha:PE X a ta) (hb:PE X b tb) (hm:behindInMarks op b=false):PT X (.Compare a [op] [b] pos) (Cz (GU r ta tb)):=by
 intro pins s σ H Q I h
 refine wpAny_isTrue_Compare1 (cE (ha pins s σ H _ I h) λv s1 ⟨x,H1,I1,r1,q1⟩=>cE (hb pins s1 σ H1 _ I1 q1) λu s2 ⟨y,H2,I2,r2,q2⟩ =>
  cE (ho pins s2 σ H2 x y v u _ I2 r1 r2 q2) λc s3 ⟨z,H3,I3,r3,k,e,q3⟩=>?_) hm
 subst e
 cases r3
 exact wpAny_truthy_bool ⟨H3,I3,q3⟩
def GP (r r':R2) (ta tb tc:TE):TE:=λσ H Q=>ta σ H λx H1=>tb σ H1 λy H2=>r x y H2 λz H3=>∃k,z=.bl k ∧
 (if k=true then tc σ H3 λw' H4=>r' y w' H4 Q else Q (.bl false) H3)
theorem FU {op op':CmpOp} {r r':R2} (ho:fT X (compareOp op) r) (ho':fT X (compareOp op') r') (ha:PE X a ta) (hb:PE X b tb) (hc:PE X c tc)
  (hm:lastMarks [op,op'] [b,c]=false:=by with_unfolding_all rfl):PE X (.Compare a [op,op'] [b,c] pos) (GP r r' ta tb tc):=by
 intro pins s σ H Q I h
 refine Compare_chain (cE (ha pins s σ H _ I h) λv s1 ⟨x,H1,I1,r1,q1⟩=>chain_link (cE (hb pins s1 σ H1 _ I1 q1) λu s2 ⟨y,H2,I2,r2,q2⟩ =>
  cE (ho pins s2 σ H2 x y v u _ I2 r1 r2 q2) λd s3 ⟨z,H3,I3,r3,k,e,q3⟩=>?_)) hm
 subst e
 cases r3
 refine wpAny_truthy_bool ?_
 cases k with
 | false=>exact ite_ff ⟨.bl false,H3,I3,rfl,q3⟩
 | true=>exact ite_tt (chain_last (cE (hc pins s3 σ H3 _ I3 q3) λw' s4 ⟨z',H4,I4,r4,q4⟩=>ho' pins s4 σ H4 y z' u w' Q I4 r2 r4 q4))
def Le (K:PySem.W.Frag) (x:V) (H:Hp) (k:Bool):Prop :=
 match x with
 | .non=>k=false
 | .bl b=>k=b
 | .int i=>k=(i != 0)
 | .str y=>y.length≤sizeLine∧k=((y.length:Int) != 0)
 | .byt y=>y.size≤sizeLine∧k=((y.size:Int) != 0)
 | .ref p=>(∃xs,dk K H p xs∧k=!xs.isEmpty)∨(∃xs,g7 K H p xs∧k=!xs.isEmpty)∨∃kvs ep,H p=some (.dE kvs ep)∧k=!kvs.isEmpty
 | _=>False
theorem zW {κ:Type} {kvs:List (κ × V)} {vs:List (κ × Value)} (r:KV kvs vs):(!vs.isEmpty)=!kvs.isEmpty:=by
 cases r <;> rfl
theorem rS {xs:List V} {its:List Value} (r:Vals xs its):(!its.toArray.isEmpty)=!xs.isEmpty:=by
 cases r <;> simp
theorem mx:(sizeLine:Nat) < 2 ^ 63:=by rw [sizeLine_eq];decide
theorem M6:Qx X (λx H Q=>∃k,Le X.K x H k∧Q k H):=by
 intro pins s σ H x v Q I rx h
 obtain ⟨k,e,q⟩:=h
 have hl:=mx
 have hs:sizeLine=16777216:=sizeLine_eq
 cases x with
 | non =>
  cases rx
  have e':k=false:=e
  subst e'
  exact truthy_none ⟨H,I,q⟩
 | bl b =>
  cases rx
  have e':k=b:=e
  subst e'
  exact wpAny_truthy_bool ⟨H,I,q⟩
 | int i =>
  obtain ⟨t,rfl⟩:=rx
  have e':k=(i != 0):=e
  subst e'
  exact PySem.P.truthy_int ⟨H,I,q⟩
 | str y =>
  obtain ⟨t,rfl⟩:=rx
  obtain ⟨hy,e'⟩:y.length≤sizeLine∧k=((y.length:Int) != 0):=e
  subst e'
  exact PySem.P.truthy_str (by omega) ⟨H,I.tok _,q⟩
 | byt y =>
  obtain ⟨t,rfl⟩:=rx
  obtain ⟨hy,e'⟩:y.size≤sizeLine∧k=((y.size:Int) != 0):=e
  subst e'
  exact PySem.W.truthy_bytes (by omega) ⟨H,I.tok _,q⟩
 | ref p =>
  cases rx
  have e':(∃xs,dk X.K H p xs∧k=!xs.isEmpty)∨(∃xs,g7 X.K H p xs∧k=!xs.isEmpty)∨∃kvs ep,H p=some (.dE kvs ep)∧k=!kvs.isEmpty:=e
  rcases e' with ⟨xs,hx,e'⟩ | ⟨xs,hx,e'⟩ | ⟨kvs,ep,hx,e'⟩
  ·subst e'
   obtain ⟨its,r,pl,hz⟩:=I.list hx
   have hlen:=r.length
   exact wpAny_truthy_list pl.isList (by simp only [Tu];omega) ⟨H,I.tok _,by rw [rS r];exact q⟩
  ·subst e'
   obtain ⟨its,r,pl,hz⟩:=I.tuple hx
   have hlen:=r.length
   exact truthy_tuple pl (by simp only [Tu];omega) ⟨H,I.tok _,by rw [rS r];exact q⟩
  ·subst e'
   obtain ⟨hz,hS,vs,r,m⟩:kvs.length≤sizeLine∧(p == sysModules)=false∧∃vs,KV kvs vs∧s.heap.DictAt (strKind X.prog X.w) p vs ep:=I.hok p _ hx
   have hlen:kvs.length=vs.length:=Paired.length r
   exact wpAny_truthy_dict hS m.dictOf (by omega) ⟨H,I.tok _,by rw [zW r];exact q⟩
 | _=>exact (show False from e).elim
theorem F0 (ha:PE X a ta) (he:∀whole,isTrue a X.env whole=(do let v ← whole;standAt a.pos;holding [v] (truthy v))) :
  PT X a (λσ H Q=>ta σ H λx H'=>∃k,Le X.K x H' k∧Q k H'):=by
 intro pins s σ H Q I h
 exact isTrue_plain (cE (ha pins s σ H _ I h) λv s1 ⟨x,H1,I1,r1,q1⟩=>M6 pins s1 σ H1 x v Q I1 r1 q1) (he _)
theorem vals1 {x:V} {us:List Value} (r:Vals [x] us):∃u,us=[u]∧RelV x u:=by
 cases r with
 | cons r1 r2=>cases r2;exact ⟨_,rfl,r1⟩
theorem vals2 {x y:V} {us:List Value} (r:Vals [x,y] us):∃u w',us=[u,w']∧RelV x u∧RelV y w':=by
 cases r with
 | cons r1 r2 =>
  cases r2 with
  | cons r3 r4=>cases r4;exact ⟨_,_,rfl,r1,r3⟩
theorem m9:cx X (.builtin "abs") (λxs H Q=>∃i,xs=[.int i]∧Q (.int (if i < 0 then -i else i)) H):=by
 intro pins s σ H xs us Q I r h
 obtain ⟨i,rfl,q⟩:=h
 obtain ⟨u,rfl,t,rfl⟩:=vals1 r
 exact call_abs_int λu tk=>⟨.int (if i < 0 then -i else i),H,I.tok _,⟨_,rfl⟩,q⟩
end
end L2
namespace L2
open PySem PySem.Spec PyProof.Rows
structure zF (h:Heap) (x dx C:Addr) (mA:Str→Option Value):Prop where
 obj:h.get? x=some (PySem.W.instObj C dx)
 ns:h.Ns1 dx mA
 ne:dx≠x
theorem Dk {h:Heap} {dx:Addr} {mA:Str→Option Value} (n:h.Ns1 dx mA):∃od,h.get? dx=some od∧∀name,PySem.W.lookIn name od=some (mA name):=by
 obtain ⟨o,es,ep,ho,hd,hk,_,hm⟩:=n
 refine ⟨o,ho,λname=>?_⟩
 have e:=hm name
 unfold nsFind findBy at e
 rw [← Array.find?_toList] at e
 unfold PySem.W.lookIn
 rw [hd]
 dsimp only
 split
 ·rename_i y q
  rw [q] at e
  exact congrArg some e
 ·rename_i q
  rw [q] at e
  have a:es.toList.any (·.refKey)=false:=by
   rw [List.any_eq_false]
   intro y hy
   obtain ⟨z,t,hkey⟩:=hk y (Array.mem_toList_iff.mp hy)
   simp [DictEntry.refKey,hkey]
  have a':¬ es.toList.any (·.refKey)=true:=by rw [a];exact TH
  rw [if_neg a']
  exact congrArg some e
theorem zF.look {h:Heap} {x dx C:Addr} {mA:Str→Option Value} (I:zF h x dx C mA):∃od,PySem.W.InstAt h x (PySem.W.instObj C dx) C (some od)∧∀name,PySem.W.lookIn name od=some (mA name) :=
 let ⟨od,ho,hl⟩:=Dk I.ns
 ⟨od,⟨I.obj,rfl,rfl,ho⟩,hl⟩
section
variable {prog:Program} {w:World} {A:Around} {E:Value→Shared→Prop} {s:Shared} {K:PySem.W.Frag} {x dx C f:Addr} {mA:Str→Option Value} {name:Str} {v:Value}
theorem get_map {expr:Bool} {Q:Value→Shared→Prop} (X:K.In s.heap) (I:zF s.heap x dx C mA) (hg:PySem.W.plainGet K C name=true) (hh:PySem.W.hasDictIn K C=true)
  (ha:PySem.W.findIn K (.ref C) name=some none) (hv:mA name=some v) (hv':PySem.W.handedIn v=true) (h:Q v { s with toks:=s.toks + 1 }) :
  wpAny (model prog w) A (getAttr (.ref x) name expr) Q E s:=by
 obtain ⟨od,J,hl⟩:=I.look
 exact PySem.W.get_value X J (PySem.W.plainGet_of hg).1 (PySem.W.findObj_own hh ha rfl (by rw [hl,hv])) hv' h
theorem EV {pl:Sem Bool} {Q:Value × List Value→Shared→Prop} (X:K.In s.heap) (I:zF s.heap x dx C mA) (hg:PySem.W.plainGet K C name=true)
  (hf:PySem.W.findIn K (.ref C) name=some (some (.ref f))) (ht:PySem.W.isFn K (.ref f)=true) (hv:mA name=none) (h:Q (.ref f,[.ref x]) s) :
  wpAny (model prog w) A (getMethod (.ref x) name pl) Q E s:=by
 obtain ⟨od,J,hl⟩:=I.look
 exact PySem.W.method_fn X J (PySem.W.plainGet_of hg).1 (PySem.W.plainGet_of hg).2 hf (beq_iff_eq.mp ht) (by show (PySem.W.lookIn name od).map (·.isSome)=some false;rw [hl,hv];rfl) h
theorem Jt {ns:List Str} {Q:Unit→Shared→Prop} (X:K.In s.heap) (I:zF s.heap x dx C mA)
  (hs:PySem.W.findIn K (.ref C) "__setattr__"=some (some (.builtin "object.__setattr__"))) (hp:PySem.W.plainOver K C=true) (ht:PySem.W.takerIn K C name=some none) (hh:PySem.W.hasDictIn K C=true)
  (hw:PySem.Within mA ns) (hsz:ns.length≤sizeLine)
  (h:∀h',zF h' x dx C (λy=>if y=name then some v else mA y)→Heap.SameBut dx s.heap h'→Q () { s with heap:=h',toks:=s.toks + 2 }) :
  wpAny (model prog w) A (setAttr (.ref x) name v) Q E s:=by
 obtain ⟨od,J,hl⟩:=I.look
 refine PySem.W.set_plain X J hs (PySem.W.osa_open (s:={ s with toks:=s.toks + 1 }) (r:=none) X J hp ht λb=>?_)
 obtain ⟨cd,hc,hd'⟩:=PySem.W.any_some hh
 have hx:s.heap.get? x=some ⟨.ref C,some dx,.plain,#[]⟩:=I.obj
 refine wpAny_bind (wpAny_pure (wpAny_bind (wpAny_bind (wpAny_loadPart hx (wpAny_bind (PySem.W.Looks.here (s:={ s with toks:=s.toks + 1 }) (PySem.W.looks_clsIn X hc) ?_))))))
 rw [hd']
 refine wpAny_pure (a:=some dx) (wpAny_bind (wpAny_pure (wpAny_bind ?_)))
 refine wpAny_nsSet1 (s:={ s with toks:=s.toks + 1 }) I.ns λh' hn2 hs2=>?_
 obtain ⟨oD,esD,epD,hoD,hdD,hcD⟩:=hn2.count (PySem.Within.cons name v hw)
 refine wpAny_bind (wpAny_lookBehind hoD (by rw [hdD];exact pastItsLine_dict (TK hcD (by rw [TU];omega))) ?_)
 exact wpAny_pure (h _ ⟨(hs2.2 _ (Ne.symm I.ne)).trans I.obj,hn2,I.ne⟩ hs2)
theorem Fu {R:Result→Shared→Prop} {vs:List Value} {kw:List (Str × Value)} (X:K.In s.heap) (hm:PySem.W.makesIn K C=true)
  (hi:PySem.W.findIn K (.ref C) "__init__"=some (some (.ref f))) (hf:PySem.W.typeIn K (.ref f)=some (.type "function"))
  (h:codeAny (model prog w) (A.under (.builtin "type.__call__" ⟨.ref C :: vs,kw⟩)) (.call (.ref f) ⟨.ref (s.heap.objs.size + 1) :: vs,kw⟩) (PySem.W.InitBack (s.heap.objs.size + 1) R)
   { s with heap:=(s.heap.push PySem.W.emptyDict).push (PySem.W.instObj C s.heap.objs.size) }) :
  codeAny (model prog w) A (.call (.ref C) ⟨vs,kw⟩) R s:=by
 obtain ⟨hh,g,d,t,os⟩:=s
 exact PySem.W.make_core (PySem.W.makes_of X hm) (PySem.W.looks_findIn X hi) (λself=>PySem.W.bind_fn X self hf) (.inl rfl) h
end
def fm (f:Str) (v:V):List (Str × V)→List (Str × V)
 | []=>[(f,v)]
 | (g,x) :: r=>if g=f then (g,v) :: r else (g,x) :: fm f v r
theorem pV (f g:Str) (v:V):∀fs:List (Str × V),(fm f v fs).lookup g=if g=f then some v else fs.lookup g
 | []=>by
  show U3 g [(f,v)]=_
  by_cases h:g=f
  ·have hb:(g == f)=true:=beq_iff_eq.mpr h
   simp only [U3,hb,if_pos h]
  ·have hb:(g == f)=false:=beq_eq_false_iff_ne.mpr h
   simp only [U3,hb,if_neg h]
 | (k,x) :: r=>by
  have ih:=pV f g v r
  rw [show fm f v ((k,x) :: r)=(if k=f then (k,v) :: r else (k,x) :: fm f v r) from rfl]
  by_cases hk:k=f
  ·rw [if_pos hk]
   by_cases h:g=k
   ·have hb:(g == k)=true:=beq_iff_eq.mpr h
    simp only [U3,hb,if_pos (h.trans hk)]
   ·have hb:(g == k)=false:=beq_eq_false_iff_ne.mpr h
    simp only [U3,hb,if_neg (λe:g=f=>h (e.trans hk.symm))]
  ·rw [if_neg hk]
   by_cases h:g=k
   ·have hb:(g == k)=true:=beq_iff_eq.mpr h
    simp only [U3,hb,if_neg (λe:g=f=>hk (h.symm.trans e))]
   ·have hb:(g == k)=false:=beq_eq_false_iff_ne.mpr h
    simp only [U3,hb]
    exact ih
theorem oQ (f:Str) (v:V):∀fs:List (Str × V),f∈(fm f v fs).map (·.1)∧∀g,g∈fs.map (·.1)→g∈(fm f v fs).map (·.1)
 | []=>⟨by simp [fm],λg h=>by simp at h⟩
 | (k,x) :: r=>by
  obtain ⟨i1,i2⟩:=oQ f v r
  rw [show fm f v ((k,x) :: r)=(if k=f then (k,v) :: r else (k,x) :: fm f v r) from rfl]
  by_cases hk:k=f
  ·rw [if_pos hk]
   subst hk
   exact ⟨by simp,λg h=>by simpa using h⟩
  ·rw [if_neg hk]
   refine ⟨?_,λg h=>?_⟩
   ·rw [Tt]
    exact TQ _ i1
   ·rw [Tt] at h ⊢
    rcases TC.mp h with e | e
    ·exact TC.mpr (.inl e)
    ·exact TQ _ (i2 g e)
theorem pU (f:Str) (v:V):∀fs:List (Str × V),(fm f v fs).length≤fs.length + 1
 | []=>by simp [fm]
 | (k,x) :: r=>by
  have ih:=pU f v r
  rw [show fm f v ((k,x) :: r)=(if k=f then (k,v) :: r else (k,x) :: fm f v r) from rfl]
  by_cases hk:k=f
  ·rw [if_pos hk,TU,TU];omega
  ·rw [if_neg hk,TU,TU];omega
theorem uc.some_of {v:V} {o:Option Value} (r:uc (some v) o):∃u,o=some u∧RelV v u:=by
 cases o with
 | none=>exact (show False from r).elim
 | some u=>exact ⟨u,rfl,r⟩
theorem uc.none_of {o:Option Value} (r:uc none o):o=none:=by
 cases o with
 | none=>rfl
 | some u=>exact (show False from r).elim
theorem C8 {v:V} {u:Value} (r:RelV v u):PySem.W.handedIn u=true:=by
 cases v with
 | non=>cases (show u=Value.none from r);rfl
 | bl b=>cases (show u=Value.bool b from r);rfl
 | int i=>obtain ⟨t,e⟩:=(show ∃t,u=Value.int i t from r);cases e;rfl
 | str x=>obtain ⟨t,e⟩:=(show ∃t,u=Value.str x t from r);cases e;rfl
 | byt b=>obtain ⟨t,e⟩:=(show ∃t,u=Value.bytes b t from r);cases e;rfl
 | flt b=>obtain ⟨t,e⟩:=(show ∃t,u=Value.float b t from r);cases e;rfl
 | ref a=>cases (show u=Value.ref a from r);rfl
 | ty n=>cases (show u=Value.type n from r);rfl
section
variable {P:Program} {w:World} {H H':Hp} {h h':Heap} {a C dx:Addr} {fs fs':List (Str × V)}
theorem qA (hok:mT P w H h) (e:H a=some (.ins C dx fs)):∃mA,zF h a dx C mA∧(∀f,uc (fs.lookup f) (mA f))∧PySem.Within mA (fs.map (·.1))∧fs.length≤1000∧H dx=some (.own a):=by
 obtain ⟨d,z,ne,ob,mA,n,r,q⟩:=(show dF P w H h a (.ins C dx fs) from hok a _ e)
 exact ⟨mA,⟨ob,n,ne⟩,r,q,z,d⟩
end
structure pM (K:PySem.W.Frag) (C:Addr):Prop where
 pg:PySem.W.plainGet K C Str.empty=true
 hd:PySem.W.hasDictIn K C=true
 po:PySem.W.plainOver K C=true
 sa:PySem.W.findIn K (.ref C) "__setattr__"=some (some (.builtin "object.__setattr__"))
theorem pM.get {K:PySem.W.Frag} {C:Addr} (c:pM K C) (f:Str):PySem.W.plainGet K C f=true:=c.pg
def aL (K:PySem.W.Frag) (C:Addr) (f:Str):Prop:=PySem.W.findIn K (.ref C) f=some none
theorem aL.PK {K:PySem.W.Frag} {C:Addr} {f:Str} (n:aL K C f):PySem.W.takerIn K C f=some none:=by
 unfold PySem.W.takerIn
 rw [show PySem.W.findIn K (.ref C) f=some none from n]
 rfl
structure Meth (K:PySem.W.Frag) (C:Addr) (m:Str) (f:Addr):Prop where
 at_:PySem.W.findIn K (.ref C) m=some (some (.ref f))
 fn:PySem.W.isFn K (.ref f)=true
 kp:PySem.W.keepIn K (.ref f)=true
section
variable {X:Cx} {pins:List (Addr × Obj)} {σ:St} {H:Hp} {s:Shared} {a C dx:Addr} {fs:List (Str × V)} {f:Str} {v:V} {A:Around} {E:Value→Shared→Prop}
theorem zU {b:Bool} {Q:Value→Shared→Prop} (I:Inv X pins σ H s) (e:H a=some (.ins C dx fs)) (c:pM X.K C) (n:aL X.K C f) (l:fs.lookup f=some v)
  (h:∀u s',Inv X pins σ H s'→RelV v u→Q u s'):wpAny (model X.prog X.w) A (getAttr (.ref a) f b) Q E s:=by
 obtain ⟨mA,O,r,_,_,_⟩:=qA I.hok e
 obtain ⟨u,hu,ru⟩:=uc.some_of (v:=v) (o:=mA f) (by rw [← l];exact r f)
 exact get_map I.nu O (c.get f) c.hd n hu (C8 ru) (h u _ (I.tok _) ru)
theorem rK {m:Str} {g:Addr} {pl:Sem Bool} {Q:Value × List Value→Shared→Prop} (I:Inv X pins σ H s) (e:H a=some (.ins C dx fs)) (c:pM X.K C) (k:Meth X.K C m g) (l:fs.lookup m=none)
  (h:Q (.ref g,[.ref a]) s):wpAny (model X.prog X.w) A (getMethod (.ref a) m pl) Q E s:=by
 obtain ⟨mA,O,r,_,_,_⟩:=qA I.hok e
 have hn:mA m=none:=uc.none_of (by rw [← l];exact r m)
 exact EV I.nu O (c.get m) k.at_ k.fn hn h
theorem AU {y:V} {u:Value} {Q:Unit→Shared→Prop} (I:Inv X pins σ H s) (e:H a=some (.ins C dx fs)) (c:pM X.K C) (n:aL X.K C f) (hl:fs.length < 1000) (ry:RelV y u)
  (h:∀s',Inv X pins σ (upd H a (.ins C dx (fm f y fs))) s'→Q () s'):wpAny (model X.prog X.w) A (setAttr (.ref a) f u) Q E s:=by
 obtain ⟨mA,O,r,wi,_,ho⟩:=qA I.hok e
 have hz:(fs.map (·.1)).length≤sizeLine:=by rw [Th,sizeLine_eq];omega
 refine Jt I.nu O c.sa c.po n.PK c.hd wi hz λh' O' sb=>h _ ?_
 have hd:∃o,h'.get? dx=some o:=let ⟨o,_,_,e',_⟩:=O'.ns;⟨o,e'⟩
 refine I.write (x:=a) (e:=dx) (by rw [e];exact True.intro) (.inr ho) (λb q hb z=>(sb.2 b hb).trans z) hd ?_
 refine ⟨by rw [aW O.ne];exact ho,?_,O.ne,O'.obj,_,O'.ns,λg=>?_,λg hg=>?_⟩
 ·have:=pU f y fs;omega
 ·show uc ((fm f y fs).lookup g) (if g=f then some u else mA g)
  rw [pV]
  by_cases q:g=f
  ·rw [if_pos q,if_pos q];exact ry
  ·rw [if_neg q,if_neg q];exact r g
 ·by_cases q:g=f
  ·rw [q];exact (oQ f y fs).1
  ·refine (oQ f y fs).2 g (wi g λz=>hg ?_)
   show (if g=f then some u else mA g)=none
   rw [if_neg q];exact z
theorem Inv.made (I:Inv X pins σ H s):Inv X pins σ (upd (upd H s.heap.objs.size (.own (s.heap.objs.size + 1))) (s.heap.objs.size + 1) (.ins C s.heap.objs.size []))
  { s with heap:=(s.heap.push PySem.W.emptyDict).push (PySem.W.instObj C s.heap.objs.size) }:=by
 have e1:(s.heap.push PySem.W.emptyDict).get? s.heap.objs.size=some PySem.W.emptyDict:=Heap.get?_push_size s.heap rfl
 have e2:((s.heap.push PySem.W.emptyDict).push (PySem.W.instObj C s.heap.objs.size)).get? (s.heap.objs.size + 1)=some (PySem.W.instObj C s.heap.objs.size):=by
  have:=Heap.get?_push_size (s.heap.push PySem.W.emptyDict) (o:=PySem.W.instObj C s.heap.objs.size) rfl
  rwa [Heap.size_push] at this
 have e3:(s.heap.push PySem.W.emptyDict).Ns s.heap.objs.size (λ_=>none):=⟨PySem.W.emptyDict,#[],_,e1,rfl,(λe he=>absurd he (by simp)),λ_=>rfl⟩
 have I1:=I.laid (a:=s.heap.objs.size) (o:=.own (s.heap.objs.size + 1)) (h':=s.heap.push PySem.W.emptyDict) (t':=s.toks) (λb u q=>Heap.get?_push_of_some _ q) (Tr _) ⟨_,e1⟩
 refine I1.laid (a:=s.heap.objs.size + 1) (o:=.ins C s.heap.objs.size []) (t':=s.toks) (λb u q=>Heap.get?_push_of_some _ q) (Nat.le_of_eq (Heap.size_push _ _)) ?_
 have ne:s.heap.objs.size≠s.heap.objs.size + 1:=TV (UN _)
 refine ⟨by rw [aW ne,aK],T3 _,ne,e2,λ_=>none,(Heap.Ns1.of_empty e3).at λo q=>Heap.get?_push_of_some _ q,λ_=>True.intro,λy hy=>absurd rfl hy⟩
theorem HC {prog:Program} {w:World} {env:Env} {e:Expr} {f:Str} {pos:Pos} {s:Shared} {Q:Value→Shared→Prop} (hb:attributeBase e f env (eval e env)=eval e env)
  (h:wpAny (model prog w) A (eval e env) (λo s₁=>wpAny (model prog w) A (getAttr o f true) Q E s₁) E s):wpAny (model prog w) A (eval (.Attribute e f pos) env) Q E s :=
 Attribute_any_ h (by rw [arm_eval_Attribute,hb])
end
def RP (K:PySem.W.Frag) (ta:TE) (f:Str):TE:=λσ H Q=>ta σ H λx H1=>∃a C dx fs v,x=.ref a∧H1 a=some (.ins C dx fs)∧pM K C∧aL K C f∧fs.lookup f=some v∧Q v H1
def RK (K:PySem.W.Frag) (ta tv:TE) (f:Str):TS:=λD σ H=>tv σ H λy H1=>ta σ H1 λx H2=>∃a C dx fs,x=.ref a∧H2 a=some (.ins C dx fs)∧pM K C∧aL K C f∧fs.length < 1000 ∧
 D.nx σ (upd H2 a (.ins C dx (fm f y fs)))
section
variable {X:Cx} {o e value:Expr} {f:Str} {pos pos' tpos:Pos} {ta tv:TE}
theorem Mt (he:PE X e ta) (hb:attributeBase e f X.env (eval e X.env)=eval e X.env):PE X (.Attribute e f pos) (RP X.K ta f):=by
 intro pins s σ H Q I h
 refine HC hb (cE (he pins s σ H _ I h) λu s1 ⟨x,H1,I1,rx,a,C,dx,fs,v,ex,ea,c,n,l,q⟩=>?_)
 subst ex
 obtain rfl:u=Value.ref a:=rx
 exact zU I1 ea c n l λu' s2 I2 ru=>⟨v,H1,I2,ru,q⟩
theorem My (ha:PE X o ta) (hv:PE X value tv) (hs:swapsWith value (some (.Attribute o f pos')) pos.line X.env=pure false):PS X (.Assign [.Attribute o f pos'] value pos) (RK X.K ta tv f):=by
 intro pins s σ H D I h
 refine plainObj_wpAny_Assign_Attribute (cE (hv pins s σ H _ I h) λu s1 ⟨y,H1,I1,ry,q⟩=>cE (ha pins s1 σ H1 _ I1 q) λov s2 ⟨x,H2,I2,rx,a,C,dx,fs,ex,ea,c,n,l,q2⟩=>?_) hs
 subst ex
 obtain rfl:ov=Value.ref a:=rx
 exact AU I2 ea c n l ry λs3 I3=>⟨σ,_,I3,q2⟩
end
section
variable {X:Cx} {pins:List (Addr × Obj)} {σ:St} {H:Hp} {s:Shared} {A:Around} {E:Value→Shared→Prop} {Q:Value→Shared→Prop} {c:Value} {b:Bool}
inductive gm (K:PySem.W.Frag) (H:Hp):V→Value→Prop where
 | non:gm K H .non (.type "NoneType")
 | bl (x:Bool):gm K H (.bl x) (.type "bool")
 | int (i:Int):gm K H (.int i) (.type "int")
 | str (x:Str):gm K H (.str x) (.type "str")
 | flt (x:UInt64):gm K H (.flt x) (.type "float")
 | lst {a:Addr} {xs:List V} (e:H a=some (.lst xs)):gm K H (.ref a) (.type "list")
 | oN {a:Addr} {o:Obj} {xs:List V} (e:H a=some (.oN o (.lst xs))):gm K H (.ref a) (.type "list")
 | tup {a:Addr} {xs:List V} (e:H a=some (.tup xs)):gm K H (.ref a) (.type "tuple")
 | dK {a:Addr} {kvs:List (Key × V)} (e:H a=some (.dK kvs)):gm K H (.ref a) (.type "dict")
 | dE {a:Addr} {kvs:List (Str × V)} {ep:Nat} (e:H a=some (.dE kvs ep)):gm K H (.ref a) (.type "dict")
 | ins {a C dx:Addr} {fs:List (Str × V)} (e:H a=some (.ins C dx fs)) (cl:pM K C) (ha:PySem.W.findIn K (.ref C) "__class__"=some (some (.builtin "object.__class__")))
   (hn:PySem.W.specialIn K (.builtin "object.__class__") "__get__"=some (some (.builtin "getset_descriptor.__get__"))) (htk:PySem.W.takesIn K (.builtin "object.__class__")=some true)
   (hm:PySem.W.mroIn K C (.type "object")=some true):gm K H (.ref a) (.ref C)
theorem Dc {x:V} {u t:Value} (I:Inv X pins σ H s) (rx:RelV x u) (ty:gm X.K H x t) (e:PySem.W.kitOne X.K t c=some b) (h:∀tk,Q (.bool b) { s with toks:=tk }) :
  wpAny (model X.prog X.w) A (call (.builtin "isinstance") [u,c]) Q E s:=by
 cases ty with
 | non=>cases (show u=Value.none from rx);exact PySem.W.kia_one PySem.W.kitx_none I.nu True.intro e (λz=>nomatch z) h
 | bl y=>cases (show u=Value.bool y from rx);exact PySem.W.kia_one PySem.W.kitx_bool I.nu True.intro e (λz=>nomatch z) h
 | int i=>obtain ⟨t,q⟩:=(show ∃t,u=Value.int i t from rx);cases q;exact PySem.W.kia_one PySem.W.kitx_int I.nu True.intro e (λz=>nomatch z) h
 | str y=>obtain ⟨t,q⟩:=(show ∃t,u=Value.str y t from rx);cases q;exact PySem.W.kia_one PySem.W.kitx_str I.nu True.intro e (λz=>nomatch z) h
 | flt y=>obtain ⟨t,q⟩:=(show ∃t,u=Value.float y t from rx);cases q;exact PySem.W.kia_one PySem.W.kitx_float I.nu True.intro e (λz=>nomatch z) h
 | @lst a xs ea =>
  cases (show u=Value.ref a from rx)
  obtain ⟨_,_,n,_,h1⟩:=(show dF X.prog X.w H s.heap a (.lst xs) from I.hok a _ ea)
  exact PySem.W.kia_one PySem.W.kitx_list I.nu ⟨_,h1,rfl⟩ e (λz=>nomatch z) h
 | @oN a ob xs ea =>
  cases (show u=Value.ref a from rx)
  obtain ⟨_,_,_,n,_,h1⟩:=(show dF X.prog X.w H s.heap a (.oN ob (.lst xs)) from I.hok a _ ea)
  exact PySem.W.kia_one PySem.W.kitx_list I.nu ⟨_,h1,rfl⟩ e (λz=>nomatch z) h
 | @tup a xs ea =>
  cases (show u=Value.ref a from rx)
  obtain ⟨_,_,_,p⟩:=(show dF X.prog X.w H s.heap a (.tup xs) from I.hok a _ ea)
  obtain ⟨o,h1,h2,_⟩:=p
  exact PySem.W.kia_one PySem.W.kitx_tuple I.nu ⟨o,h1,h2⟩ e (λz=>nomatch z) h
 | @dK a kvs ea =>
  cases (show u=Value.ref a from rx)
  obtain ⟨_,_,vs,_,p⟩:=(show dF X.prog X.w H s.heap a (.dK kvs) from I.hok a _ ea)
  obtain ⟨o,es,ep,h1,h2,_⟩:=p
  exact PySem.W.kia_one PySem.W.kitx_dict I.nu ⟨o,h1,h2.1⟩ e (λz=>nomatch z) h
 | @dE a kvs ep ea =>
  cases (show u=Value.ref a from rx)
  obtain ⟨_,_,vs,_,o,es,h1,h2,_⟩:=(show dF X.prog X.w H s.heap a (.dE kvs ep) from I.hok a _ ea)
  exact PySem.W.kia_one PySem.W.kitx_dict I.nu ⟨o,h1,h2.1⟩ e (λz=>nomatch z) h
 | @ins a C dx fs ea cl ha hn htk hm =>
  cases (show u=Value.ref a from rx)
  obtain ⟨mA,O,_⟩:=qA I.hok ea
  obtain ⟨od,J,_⟩:=O.look
  exact PySem.W.kia_one (PySem.W.kitx_own (cl.get _) cl.hd ha hn htk hm) I.nu J e (λz=>nomatch z) h
end
end L2
namespace L2
open PySem PySem.Spec PyProof.Rows
structure bW (k:Nat) (A:Around):Prop where
 hd:A.handled=none
 dp:A.depth + 3 * k + 5 < recursionLimit
 un:A.units + 16 * k + 200 < cLine
theorem bW.mono {j k:Nat} {A:Around} (r:bW k A) (h:j≤k):bW j A:=⟨r.hd,by have:=r.dp;omega,by have:=r.un;omega⟩
theorem bW.deeper {k:Nat} {A:Around} (r:bW (k + 1) A) (env:Env):bW k (A.deeper env) :=
 ⟨r.hd,by have:=r.dp;show A.depth + 1 + 3 * k + 5 < _;omega,by have:=r.un;show A.units + 3 + 16 * k + 200 < _;omega⟩
theorem Ac {A:Around} {C:Addr} {us:List Value} {kw:List (Str × Value)}:(A.under (.builtin "type.__call__" ⟨.ref C :: us,kw⟩)).depth=A.depth + 1:=by
 first | rfl | simp [Around.under,Code.weight,Code.isCreation,Code.isGuard,Code.isCaller,Code.frames,Code.isFrame,guardIds]
theorem Ad {A:Around} {C:Addr} {us:List Value} {kw:List (Str × Value)}:(A.under (.builtin "type.__call__" ⟨.ref C :: us,kw⟩)).units=A.units + 1:=by
 first | rfl | simp [Around.under,Code.cUnits,Code.frames,Code.isFrame]
theorem bW.make {k:Nat} {A:Around} (r:bW (k + 1) A) (C:Addr) (us:List Value) (kw:List (Str × Value)):bW k (A.under (.builtin "type.__call__" ⟨.ref C :: us,kw⟩)) :=
 ⟨r.hd,by have:=r.dp;rw [Ac];omega,by have:=r.un;rw [Ad];omega⟩
theorem bW.depth {k:Nat} {A:Around} (r:bW k A):A.depth < recursionLimit:=by have:=r.dp;omega
theorem bW.M_ {k:Nat} {A:Around} (r:bW k A):A.units < cLine:=by have:=r.un;omega
def A4:TA:=λ_ H Q=>Q [] H
def zh (ta:TE) (tr:TA):TA:=λσ H Q=>ta σ H λx H1=>tr σ H1 λxs H2=>Q (x :: xs) H2
section
variable {X:Cx} {e:Expr} {es:List Expr} {te:TE} {t:TA} {pos:Pos}
theorem bS:PA X [] A4:=λ_ _ _ _ H Q I h=>Calls.spliced_nil ⟨[],H,I,.nil,h⟩
theorem a7 (ha:PE X e te) (hr:PA X es t) (hs:starEach (e :: es) X.env=(false,eval e X.env) :: starEach es X.env:=by rfl):PA X (e :: es) (zh te t):=by
 intro pos pins s σ H Q I h
 rw [hs]
 show wpAny _ _ (spliced ((false,eval e X.env) :: backTo pos (starEach es X.env))) _ _ s
 refine Calls.spliced_cons (cE (ha pins s σ H _ I h) λu s1 ⟨x,H1,I1,r1,q1⟩=>?_)
 exact cE (hr pos pins s1 σ H1 _ I1 q1) λus s2 ⟨xs,H2,I2,r2,q2⟩=>⟨x :: xs,H2,I2,.cons r1 r2,q2⟩
def JE (t:TA):TE:=λσ H Q=>t σ H λxs H1=>xs.length≤sizeLine∧∀p,H1 p=none→Q (.ref p) (upd H1 p (.tup xs))
def GQ (t:TA):TE:=λσ H Q=>t σ H λxs H1=>xs.length≤sizeLine∧∀p,H1 p=none→Q (.ref p) (upd H1 p (.lst xs))
theorem so {x1} (h:PA X es t):PE X (.Tuple es x1 pos) (JE t):=by
 intro pins s σ H Q I hq
 refine wpAny_Tuple_spliced (cE (h pos pins s σ H _ I hq) λus s1 ⟨xs,H1,I1,r,z,q⟩=>⟨by rw [← r.length];exact z,?_⟩)
 have hf:H1 s1.heap.objs.size=none:=I1.hok.fresh (Tr _)
 refine ⟨.ref s1.heap.objs.size,upd H1 s1.heap.objs.size (.tup xs),I1.laid (t':=s1.toks) (λb u e=>Heap.get?_push_of_some _ e) (Tr _) ?_,rfl,q _ hf⟩
 exact ⟨z,us,r,⟨_,Heap.get?_push_size _ rfl,rfl,_,rfl⟩⟩
theorem kI (h:PA X es t):PE X (.List es pos) (GQ t):=by
 intro pins s σ H Q I hq
 refine wpAny_List_spliced (cE (h pos pins s σ H _ I hq) λus s1 ⟨xs,H1,I1,r,z,q⟩=>⟨by rw [← r.length];exact z,?_⟩)
 have hf:H1 s1.heap.objs.size=none:=I1.hok.fresh (Tr _)
 refine ⟨.ref s1.heap.objs.size,upd H1 s1.heap.objs.size (.lst xs),I1.laid (t':=s1.toks) (λb u e=>Heap.get?_push_of_some _ e) (Tr _) ?_,rfl,q _ hf⟩
 exact ⟨z,us,0,r,Heap.get?_push_size _ rfl⟩
end
abbrev Sp:=List V→Hp→VK→XK→Prop
abbrev qW:=List Env→Hp→Shared→XK→Value→Shared→Prop
structure zx (P:Program) (w:World) (K:PySem.W.Frag) (mg:Str→Option Value) (base:Heap) (A:Around) (outer:List Env) (s:Shared) (H:Hp):Prop where
 frames:A.frames=some outer
 mod:Mod K mg base
 bs:∀b o,base.get? b=some o→s.heap.get? b=some o∧H b=none
 bsz:base.objs.size≤s.heap.objs.size
 oO:s.heap.FunFrames base outer
 frf:∀b∈j7 outer,H b=none
 hok:mT P w H s.heap
 bare:AllBare s.gens
def CE (outer:List Env) (P:Program) (w:World) (H:Hp) (s:Shared) (Q:VK) (u:Value) (s':Shared):Prop :=
 ∃v H',s'.os=s.os∧AllBare s'.gens∧Un (j7 outer) [] H H' s.heap s'.heap∧mT P w H' s'.heap∧RelV v u∧Q v H'
def CR (CX:qW) (outer:List Env) (P:Program) (w:World) (H:Hp) (s:Shared) (Q:VK) (E:XK) (r:Result) (s':Shared):Prop :=
 match r with
 | .ok (.ret u)=>CE outer P w H s Q u s'
 | .ok _=>False
 | .error e=>CX outer H s E e s'
structure aP (P:Program) (w:World) (K:PySem.W.Frag) (mg:Str→Option Value) (base:Heap) (CX:qW) (k:Nat) (f:Addr) (fd:FuncData) (ps:List Str) (sp:Sp):Prop where
 len:∀vs H Q E,sp vs H Q E→vs.length=ps.length
 run:∀(A:Around) (outer:List Env) (s:Shared) (H:Hp) (args:Args) (us:List Value) (vs:List V) (Q:VK) (E:XK),bW k A→zx P w K mg base A outer s H→BindsTo s fd args (ps.zip us)→Vals vs us→sp vs H Q E →
  codeAny (model P w) A (.call (.ref f) args) (CR CX outer P w H s Q E) s
theorem aP.imp {P:Program} {w:World} {K:PySem.W.Frag} {mg:Str→Option Value} {base:Heap} {CX:qW} {k:Nat} {f:Addr} {fd:FuncData} {ps:List Str} {sp sp':Sp} (F:aP P w K mg base CX k f fd ps sp)
  (h:∀vs H Q E,sp' vs H Q E→sp vs H Q E):aP P w K mg base CX k f fd ps sp' :=
 ⟨λvs H Q E q=>F.len vs H Q E (h _ _ _ _ q),λA outer s H args us vs Q E hr he hb hv hs=>F.run A outer s H args us vs Q E hr he hb hv (h _ _ _ _ hs)⟩
theorem zx.make {P:Program} {w:World} {K:PySem.W.Frag} {mg:Str→Option Value} {base:Heap} {A:Around} {outer:List Env} {s:Shared} {H:Hp} (e:zx P w K mg base A outer s H) (C:Addr) (us:List Value) (kw:List (Str × Value)) :
  zx P w K mg base (A.under (.builtin "type.__call__" ⟨.ref C :: us,kw⟩)) outer s H:=⟨by first | exact e.frames | (simpa [Around.under,Code.envs,Code.isFrame,pushEnvs] using e.frames),e.mod,e.bs,e.bsz,e.oO,e.frf,e.hok,e.bare⟩
section
variable {X:Cx} {pins:List (Addr × Obj)} {σ:St} {H:Hp} {s s':Shared}
theorem Inv.NZ (I:Inv X pins σ H s):zx X.prog X.w X.K X.mg X.base X.A X.stack s H :=
 ⟨I.ok.frames,I.ok.mod,I.bs,TK I.ok.bsz I.sz,I.stack,I.xB,I.hok,I.bare⟩
theorem Inv.after {Q:VK} {u:Value} (I:Inv X pins σ H s) (h:CE X.stack X.prog X.w H s Q u s'):EP X pins σ Q u s':=by
 obtain ⟨v,H',os,bare,un,hok,r,q⟩:=h
 obtain ⟨hh,g,d,t,os'⟩:=s'
 obtain rfl:os'=s.os:=os
 exact ⟨v,H',I.call (h':=hh) (g':=g) (d':=d) (t':=t) (ch:=[]) un hok bare (λb z=>absurd z (by simp)),r,q⟩
end
def tD (sp:Sp) (dvs:List V) (E:XK) (t:TA):TE:=λσ H Q=>t σ H λvs H1=>sp (vs ++ dvs) H1 Q E
def GS (C:Addr) (m:Str) (sp:Sp) (dvs:List V) (E:XK) (ta:TE) (t:TA):TE:=λσ H Q=>ta σ H λx H1=>∃a dx fs,x=.ref a∧H1 a=some (.ins C dx fs)∧fs.lookup m=none ∧
 t σ H1 λvs H2=>sp (x :: (vs ++ dvs)) H2 Q E
def GR (C:Addr) (sp:Sp) (dvs:List V) (E:XK) (t:TA):TE:=λσ H Q=>t σ H λvs H1=>∀x dx,H1 x=none→H1 dx=none→dx≠x →
 sp (.ref x :: (vs ++ dvs)) (upd (upd H1 dx (.own x)) x (.ins C dx [])) (λv H2=>v=.non∧Q (.ref x) H2) E
def Binds (K:PySem.W.Frag) (fd:FuncData) (ps:List Str) (ds:List Value):Prop :=
 ∀(s:Shared) (us:List Value),K.In s.heap→(us ++ ds).length=ps.length→BindsTo s fd ⟨us,[]⟩ (ps.zip (us ++ ds))
theorem Binds.all {K:PySem.W.Frag} {fd:FuncData} {ps:List Str} (h:∀us:List Value,us.length=ps.length→bindArgs fd ⟨us,[]⟩=pure (ps.zip us)):Binds K fd ps []:=λs us _ hl=>by
 rw [Uj] at hl ⊢
 exact .of_eq (h us hl)
def Passes (CX:qW) (X:Cx) (E:XK):Prop:=∀(pins:List (Addr × Obj)) (σ:St) (H:Hp) (s:Shared) (e:Value) (s':Shared),Inv X pins σ H s→CX X.stack H s E e s'→X.xe e s'
section
variable {X:Cx} {CX:qW} {k:Nat} {f C:Addr} {fd:FuncData} {ps:List Str} {sp:Sp} {dvs:List V} {ds:List Value} {E:XK} {x m:Str} {p pos apos:Pos} {e o:Expr} {es:List Expr} {ta:TE} {t:TA}
theorem AL {pins:List (Addr × Obj)} {σ:St} {H:Hp} {s:Shared} {Q:VK} {us:List Value} {vs:List V} (F:aP X.prog X.w X.K X.mg X.base CX k f fd ps sp) (hr:bW k X.A) (hb:Binds X.K fd ps ds) (hd:Vals dvs ds) (hx:Passes CX X E)
  (I:Inv X pins σ H s) (r:Vals vs us) (h:sp (vs ++ dvs) H Q E):wpAny (model X.prog X.w) X.A (call (.ref f) us) (EP X pins σ Q) X.xe s:=by
 have r2:Vals (vs ++ dvs) (us ++ ds):=r.append hd
 have hl:(us ++ ds).length=ps.length:=by rw [← r2.length];exact F.len _ _ _ _ h
 refine wpAny_call (codeAny_mono (F.run X.A X.stack s H ⟨us,[]⟩ (us ++ ds) (vs ++ dvs) Q E hr I.NZ (hb s us I.nu hl) r2 h) λr s' hq=>?_)
 cases r with
 | error e=>exact hx pins σ H s e s' I hq
 | ok fl =>
  cases fl with
  | ret u=>exact I.after hq
  | next=>exact False.elim hq
  | brk=>exact False.elim hq
  | cont=>exact False.elim hq
theorem BV (F:aP X.prog X.w X.K X.mg X.base CX k f fd ps sp) (hr:bW k X.A) (hg:Gl X x) (hm:X.mg x=some (.ref f)) (hk:PySem.W.keepIn X.K (.ref f)=true) (hb:Binds X.K fd ps ds) (hd:Vals dvs ds) (hx:Passes CX X E)
  (ha:PA X (e :: es) t) (hdb:(x == ("__debug__":Str))=false:=by decide) (he:starEach (e :: es) X.env=(false,eval e X.env) :: starEach es X.env:=by rfl) (hpl:(backTo pos (starEach es X.env)).any (·.1)=false:=by rfl) :
  PE X (.Call (.Name x p) (e :: es) [] pos) (tD sp dvs E t):=by
 intro pins s σ H Q I h
 refine wpAny_Call_Name_kw (nA I hg hm ?_ hdb)
 refine PySem.W.callWith_K (h₀:=X.base) I.ok.mod.kin hk (cE (ha pos pins s σ H _ I h) λus s1 ⟨vs,H1,I1,r,q⟩=>⟨I1.nu,?_⟩) he hpl
 exact AL F hr hb hd hx I1 r q
theorem IE {pl:Sem Bool} (he:PE X o ta) (c:pM X.K C) (hm:Meth X.K C m f) (F:aP X.prog X.w X.K X.mg X.base CX k f fd ps sp) (hr:bW k X.A) (hb:Binds X.K fd ps ds) (hd:Vals dvs ds) (hx:Passes CX X E) (ha:PA X (e :: es) t)
  (hst:starEach (e :: es) X.env=(false,eval e X.env) :: starEach es X.env:=by rfl) (hpl:(backTo pos (starEach es X.env)).any (·.1)=false:=by rfl)
  (ht:eval (.Call (.Attribute o m apos) (e :: es) [] pos) X.env=(do
   let ov ← eval o X.env
   standAt apos.atName
   let (f,first) ← holding [ov] (getMethod ov m pl)
   callWith pos f first (backTo pos (starEach (e :: es) X.env)) (backToKw pos (keywordEach [] X.env))):=by rfl) :
  PE X (.Call (.Attribute o m apos) (e :: es) [] pos) (GS C m sp dvs E ta t):=by
 intro pins s σ H Q I h
 refine PySem.W.methodCall_KW (pl:=pl) (cE (he pins s σ H _ I h) λu s1 ⟨x,H1,I1,rx,a,dx,fs,ex,ea,l,q⟩=>?_) ht
 subst ex
 obtain rfl:u=Value.ref a:=rx
 refine rK I1 ea c hm l ?_
 refine PySem.W.callWith_K (first:=[.ref a]) (h₀:=X.base) I.ok.mod.kin hm.kp (cE (ha pos pins s1 σ H1 _ I1 q) λus s2 ⟨vs,H2,I2,r,q2⟩=>⟨I2.nu,?_⟩) hst hpl
 exact AL (us:=.ref a :: us) (vs:=.ref a :: vs) F hr hb hd hx I2 (.cons rfl r) q2
theorem FW {pl:Sem Bool} (he:PE X o ta) (c:pM X.K C) (hm:Meth X.K C m f) (F:aP X.prog X.w X.K X.mg X.base CX k f fd ps sp) (hr:bW k X.A) (hb:Binds X.K fd ps ds) (hd:Vals dvs ds) (hx:Passes CX X E)
  (ht:eval (.Call (.Attribute o m apos) [] [] pos) X.env=(do
   let ov ← eval o X.env
   standAt apos.atName
   let (f,first) ← holding [ov] (getMethod ov m pl)
   callWith pos f first (backTo pos (starEach [] X.env)) (backToKw pos (keywordEach [] X.env))):=by rfl) :
  PE X (.Call (.Attribute o m apos) [] [] pos) (GS C m sp dvs E ta A4):=by
 intro pins s σ H Q I h
 refine PySem.W.methodCall_KW (pl:=pl) (cE (he pins s σ H _ I h) λu s1 ⟨x,H1,I1,rx,a,dx,fs,ex,ea,l,q⟩=>?_) ht
 subst ex
 obtain rfl:u=Value.ref a:=rx
 refine rK I1 ea c hm l ?_
 exact PySem.W.callWith_K0 (first:=[.ref a]) I1.nu hm.kp (AL (us:=[.ref a]) (vs:=[.ref a]) F hr hb hd hx I1 (.cons rfl .nil) q)
structure Mk (K:PySem.W.Frag) (C f:Addr):Prop where
 makes:PySem.W.makesIn K C=true
 init:PySem.W.findIn K (.ref C) "__init__"=some (some (.ref f))
 fn:PySem.W.isFn K (.ref f)=true
 kp:PySem.W.keepIn K (.ref C)=true
theorem yV {pins:List (Addr × Obj)} {σ:St} {H:Hp} {s:Shared} {Q:VK} {us:List Value} {vs:List V} (M:Mk X.K C f) (F:aP X.prog X.w X.K X.mg X.base CX k f fd ps sp) (hr:bW (k + 1) X.A) (hb:Binds X.K fd ps ds) (hd:Vals dvs ds)
  (hx:Passes CX X E) (I:Inv X pins σ H s) (r:Vals vs us)
  (h:∀x dx,H x=none→H dx=none→dx≠x→sp (.ref x :: (vs ++ dvs)) (upd (upd H dx (.own x)) x (.ins C dx [])) (λv H2=>v=.non∧Q (.ref x) H2) E) :
  wpAny (model X.prog X.w) X.A (call (.ref C) us) (EP X pins σ Q) X.xe s:=by
 have hq:=h (s.heap.objs.size + 1) s.heap.objs.size (I.hok.fresh (Nat.le_succ _)) (I.hok.fresh (Tr _)) (TV (UN _))
 have I2:=Inv.made (C:=C) I
 have r2:Vals (V.ref (s.heap.objs.size + 1) :: (vs ++ dvs)) (Value.ref (s.heap.objs.size + 1) :: (us ++ ds)):=.cons rfl (r.append hd)
 have hl:(Value.ref (s.heap.objs.size + 1) :: us ++ ds).length=ps.length:=by
  have e:=r2.length
  rw [F.len _ _ _ _ hq] at e
  exact e.symm
 refine wpAny_call (Fu (f:=f) I.nu M.makes M.init (beq_iff_eq.mp M.fn) (codeAny_mono (F.run _ X.stack _ _ ⟨Value.ref (s.heap.objs.size + 1) :: us,[]⟩ (Value.ref (s.heap.objs.size + 1) :: (us ++ ds)) _ _ E (hr.make C us [])
  (I2.NZ.make C us []) (hb _ (Value.ref (s.heap.objs.size + 1) :: us) I2.nu hl) r2 hq) λr s' hq'=>?_))
 cases r with
 | error e=>exact hx pins σ _ _ e s' I2 hq'
 | ok fl =>
  cases fl with
  | ret u =>
   obtain ⟨v,H',I3,rv,ev,q3⟩:=I2.after hq'
   subst ev
   exact ⟨rv,⟨V.ref (s.heap.objs.size + 1),H',I3,rfl,q3⟩⟩
  | next=>exact False.elim hq'
  | brk=>exact False.elim hq'
  | cont=>exact False.elim hq'
theorem ID (M:Mk X.K C f) (F:aP X.prog X.w X.K X.mg X.base CX k f fd ps sp) (hr:bW (k + 1) X.A) (hg:Gl X x) (hm:X.mg x=some (.ref C)) (hb:Binds X.K fd ps ds) (hd:Vals dvs ds) (hx:Passes CX X E)
  (ha:PA X (e :: es) t) (hdb:(x == ("__debug__":Str))=false:=by decide) (he:starEach (e :: es) X.env=(false,eval e X.env) :: starEach es X.env:=by rfl) (hpl:(backTo pos (starEach es X.env)).any (·.1)=false:=by rfl) :
  PE X (.Call (.Name x p) (e :: es) [] pos) (GR C sp dvs E t):=by
 intro pins s σ H Q I h
 refine wpAny_Call_Name_kw (nA I hg hm ?_ hdb)
 refine PySem.W.callWith_K (h₀:=X.base) I.ok.mod.kin M.kp (cE (ha pos pins s σ H _ I h) λus s1 ⟨vs,H1,I1,r,q⟩=>⟨I1.nu,?_⟩) he hpl
 exact yV M F hr hb hd hx I1 r q
theorem FV (M:Mk X.K C f) (F:aP X.prog X.w X.K X.mg X.base CX k f fd ps sp) (hr:bW (k + 1) X.A) (hg:Gl X x) (hm:X.mg x=some (.ref C)) (hb:Binds X.K fd ps ds) (hd:Vals dvs ds) (hx:Passes CX X E)
  (hdb:(x == ("__debug__":Str))=false:=by decide):PE X (.Call (.Name x p) [] [] pos) (GR C sp dvs E A4):=by
 intro pins s σ H Q I h
 refine wpAny_Call_Name_kw (nA I hg hm ?_ hdb)
 exact PySem.W.callWith_K0 I.nu M.kp (yV (us:=[]) M F hr hb hd hx I .nil h)
end
section
variable {X:Cx} {CX:qW} {k:Nat} {f C:Addr} {fd:FuncData} {ps ks:List Str} {sp:Sp} {E:XK} {x m:Str} {p pos apos kpos:Pos} {e o:Expr} {es:List Expr} {kws:List Keyword} {te ta:TE} {t tk:TA} {nm:Option Str}
variable {g:List Value→List Value→List Value} {gV:List V→List V→List V}
end
structure aw (N P:List Str) (sc:Scope):Prop where
 kind:sc.kind=.function
 co:sc.isCoroutine=false
 gen:sc.isGenerator=false
 nd:N.Nodup
 pre:N.take P.length=P
 par:∀x∈P,sc.names.lookup x=some .local∨sc.names.lookup x=some .cell
 nofree:∀y∈sc.names,y.2≠.free
theorem uP {kindOf:Str→Option NameKind} {x:Str}:∀{binds:List (Str × Value)} {m:Str→Option Value},(∀v,(x,v) ∉ binds)→bindL kindOf binds m x=m x
 | [],_,_=>rfl
 | (n,v) :: r,m,h=>by
  unfold bindL
  rw [uP λw hw=>h w (TQ _ hw)]
  split
  ·have:x≠n:=by rintro rfl;exact h v T6
   simp [this]
  ·rfl
theorem uN {kindOf:Str→Option NameKind} {x:Str}:∀{binds:List (Str × Value)} {m:Str→Option Value},(∀v,(x,v) ∉ binds)→bindC kindOf binds m x=m x
 | [],_,_=>rfl
 | (n,v) :: r,m,h=>by
  unfold bindC
  rw [uN λw hw=>h w (TQ _ hw)]
  split
  ·rfl
  ·have:x≠n:=by rintro rfl;exact h v T6
   simp [this]
theorem uO {kindOf:Str→Option NameKind} {x:Str} {v:Value}:∀{P:List Str} {vs:List Value} {i:Nat} {m:Str→Option Value},P.Nodup→P[i]?=some x→vs[i]?=some v→kindOf x=some .local →
  bindL kindOf (P.zip vs) m x=some v
 | [],_,_,_,_,h,_,_=>by simp at h
 | _ :: _,[],_,_,_,_,h,_=>by simp at h
 | p :: P,w :: vs,0,m,nd,h1,h2,hk=>by
  simp at h1 h2;subst h1;subst h2
  show bindL kindOf ((p,w) :: P.zip vs) m p=_
  unfold bindL
  rw [uP λv hv=>(UB.mp nd).1 (Vt hv).1,if_pos hk]
  simp
 | p :: P,w :: vs,i + 1,m,nd,h1,h2,hk=>by
  show bindL kindOf ((p,w) :: P.zip vs) m x=_
  unfold bindL
  exact uO (i:=i) (UB.mp nd).2 (by simpa using h1) (by simpa using h2) hk
theorem uM {kindOf:Str→Option NameKind} {x:Str} {v:Value}:∀{P:List Str} {vs:List Value} {i:Nat} {m:Str→Option Value},P.Nodup→P[i]?=some x→vs[i]?=some v→kindOf x≠some .local →
  bindC kindOf (P.zip vs) m x=some v
 | [],_,_,_,_,h,_,_=>by simp at h
 | _ :: _,[],_,_,_,_,h,_=>by simp at h
 | p :: P,w :: vs,0,m,nd,h1,h2,hk=>by
  simp at h1 h2;subst h1;subst h2
  show bindC kindOf ((p,w) :: P.zip vs) m p=_
  unfold bindC
  rw [uN λv hv=>(UB.mp nd).1 (Vt hv).1,if_neg hk]
  simp
 | p :: P,w :: vs,i + 1,m,nd,h1,h2,hk=>by
  show bindC kindOf ((p,w) :: P.zip vs) m x=_
  unfold bindC
  exact uM (i:=i) (UB.mp nd).2 (by simpa using h1) (by simpa using h2) hk
def start (N:List Str) (vs:List V):St:=vs.map some ++ Uw (N.length - vs.length) none
def vR (CX:qW) (P:Program) (w:World) (K:PySem.W.Frag) (mg:Str→Option Value) (base:Heap) (N:List Str) (qual:Str) (scope:Scope) (f:Addr) (cd:Value) (A:Around) (outer:List Env) (s:Shared) (H:Hp) (E:XK):Cx where
 prog:=P
 w:=w
 K:=K
 mg:=mg
 base:=base
 A:=A.deeper (envOfC qual scope s.heap.objs.size f cd)
 N:=N
 s₀:=s
 H₀:=H
 env:=envOfC qual scope s.heap.objs.size f cd
 outer:=outer
 stack:=envOfC qual scope s.heap.objs.size f cd :: outer
 ex:=[]
 calm:=true
 fn:=λ_=>true
 pn:=[]
 xe:=λe s'=>wpAny (model P w) (A.deeper (envOfC qual scope s.heap.objs.size f cd)) (leaving (envOfC qual scope s.heap.objs.size f cd) e) (λ_ s''=>CX outer H s E e s'') (λe' s''=>CX outer H s E e' s'') s'
theorem xZ {sc:Scope} {n:Nat} {x:Str} (h:sc.names.lookup x=some .cell):∃c,(cellsFrom n sc.names []).lookup x=some c:=by
 have q:=PySem.W.cellsFrom_some sc.names n [] (.inl h)
 exact Vh.mp q
theorem C_ {CX:qW} {P:Program} {w:World} {K:PySem.W.Frag} {mg:Str→Option Value} {base:Heap} {N ps:List Str} {qual:Str} {scope:Scope} {f:Addr} {cd:Value} {A:Around} {outer:List Env} {s s1:Shared} {H:Hp} {E:XK} {us:List Value} {vs:List V}
  (S:aw N ps scope) (hd:A.handled=none) (e0:zx P w K mg base A outer s H) (hl:vs.length=ps.length) (r:Vals vs us)
  (x:InCallC s s.heap.objs.size (bindL (envOfC qual scope s.heap.objs.size f cd).kindOf (ps.zip us) λ_=>none) (cellsFrom (s.heap.objs.size + 1) scope.names []) (bindC (envOfC qual scope s.heap.objs.size f cd).kindOf (ps.zip us) λ_=>none) s1) :
  Inv (vR CX P w K mg base N qual scope f cd A outer s H E) [] (start N vs) H s1:=by
 have hpl:ps.length≤N.length:=by have:=congrArg UP S.pre;rw [TX] at this;omega
 obtain ⟨h1,tk,rfl,hk⟩:=x.done
 have noA:∀b:Addr,b ∉ (vR CX P w K mg base N qual scope f cd A outer s H E).ex:=λb z=>absurd (show b∈([]:List Addr) from z) (by simp)
 refine ⟨⟨e0.mod,S.kind,rfl,rfl,Tr _,λy z c h1 h2=>?_,λy hy=>?_,λy c _ h=>?_,λ_=>hd,Around.frames_deeper e0.frames,.inr ⟨rfl,rfl⟩,λb z=>absurd z (noA b),e0.bs,e0.bsz,λb _ _=>noA b,λb z=>absurd z (noA b),e0.oO,e0.frf⟩,
  rfl,e0.bare,Un.kept hk,⟨_,x.toInCall.ns,λi y v h1 h2 h3=>?_⟩,λy c h=>⟨_,x.cell y c h⟩,e0.hok.fresh (Tr _),λy c h=>?_,λp hp=>absurd (show p∈([]:List (Addr × Obj)) from hp) (by simp),e0.hok.kept hk,?_⟩
 ·exact name_of_addr x.apart (PySem.mem_of_lookup h1) (PySem.mem_of_lookup h2)
 ·have hy:scope.names.lookup y=some .cell∨scope.names.lookup y=some .free:=hy
  rcases hy with hy | hy
  ·exact xZ hy
  ·exact absurd rfl (S.nofree _ (PySem.mem_of_lookup hy))
 ·exact Vc (x.above y c (PySem.mem_of_lookup h))
 ·have hi:i < vs.length:=by
   unfold start at h2
   by_cases hi:i < vs.length
   ·exact hi
   ·rw [Ur (by simpa using hi)] at h2
    rw [List.getElem?_replicate] at h2
    split at h2 <;> cases h2
  have ha:vs[i]?=some v:=by
   unfold start at h2
   rw [Ux (by simpa using hi),Tq] at h2
   cases e:vs[i]? with
   | none=>rw [e] at h2;cases h2
   | some a=>rw [e] at h2;cases h2;rfl
  obtain ⟨u,hu,rv⟩:=r.get ha
  have hp:ps[i]?=some y:=by
   rw [← S.pre,List.getElem?_take_of_lt (by omega)];exact h1
  have ndP:ps.Nodup:=by rw [← S.pre];exact S.nd.sublist (Up _ _)
  refine ⟨u,rv,?_⟩
  rcases S.par y (To hp) with k | k
  ·exact .inl ⟨k,uO ndP hp hu k⟩
  ·obtain ⟨c,e⟩:=xZ (n:=s.heap.objs.size + 1) k
   refine .inr ⟨.inl k,c,e,?_⟩
   have q:=x.cell y c e
   rw [uM ndP hp hu (by show scope.names.lookup y≠_;rw [k];decide)] at q
   exact q
 ·exact e0.hok.fresh (Vc (x.above y c (PySem.mem_of_lookup h)))
 ·unfold start
  show _=N.length
  rw [TN,Th,List.length_replicate]
  omega
theorem EN {CX:qW} {P:Program} {w:World} {K:PySem.W.Frag} {mg:Str→Option Value} {base:Heap} {k:Nat} {f:Addr} {name qual:Str} {params:Arguments} {body:List Stmt} {scope:Scope} {dV kV doc pm cdv ct oc:Value} {an od:Option Addr}
  {osl:Array (Option Value)} {N ps:List Str} {sp:Sp} (lk:K.lookup f=some ⟨oc,od,.func (PySem.W.fnOf name qual params body scope dV kV doc pm an cdv ct),osl⟩) (hcd:PySem.W.codeIn K cdv qual=true) (S:aw N ps scope)
  (len:∀vs H Q E,sp vs H Q E→vs.length=ps.length)
  (hbody:∀(A:Around) (outer:List Env) (s:Shared) (H:Hp) (vs:List V) (Q:VK) (E:XK),bW k (A.deeper (envOfC qual scope s.heap.objs.size f cdv))→sp vs H Q E →
   ∃t,uK (vR CX P w K mg base N qual scope f cdv A outer s H E) body t∧t { nx:=λ_ H'=>Q .non H',rt:=Q } (start N vs) H) :
  aP P w K mg base CX (k + 1) f (PySem.W.fnOf name qual params body scope dV kV doc pm an cdv ct) ps sp:=by
 refine ⟨len,λA outer s H args us vs Q E hr e0 hb r hsp=>?_⟩
 have hl:=len _ _ _ _ hsp
 have KX:K.In s.heap:=e0.mod.kin.keeps λb o e=>(e0.bs b o e).1
 have lim:s.heap.NoLimit:=e0.mod.nolimit.keeps λb o e=>(e0.bs b o e).1
 have hkind:∀y∈ps.zip us,scope.names.lookup y.1=some .local∨(scope.names.lookup y.1=some .cell∧((cellsFrom (s.heap.objs.size + 1) scope.names []).lookup y.1).isSome=true):=λ⟨n,v⟩ hy=>by
  rcases S.par n (Vt hy).1 with q | q
  ·exact .inl q
  ·exact .inr ⟨q,PySem.W.cellsFrom_some _ _ _ (.inl q)⟩
 refine codeAny_call_function hr.depth (KX _ _ lk) rfl S.co S.gen rfl (PySem.W.codeRec_of KX hcd) (hb _ _ _ _ ?_)
 refine wpAny_newFunctionEnv_cells S.kind hkind λenv he s1 x=>?_
 subst he
 refine ⟨lim.keeps x.toInCall.keep,codeAny_func ?_⟩
 obtain ⟨t,ht,hq⟩:=hbody A outer s H vs Q E (hr.deeper _) hsp
 have I:Inv (vR CX P w K mg base N qual scope f cdv A outer s H E) [] (start N vs) H s1:=C_ S hr.hd e0 hl r x
 refine wpAny_mono (ht [] s1 (start N vs) H _ I hq) (λfl s' hs=>?_) λe s' hs=>hs
 have fin:∀{σ':St} {H':Hp} {v:V} {u:Value},Inv (vR CX P w K mg base N qual scope f cdv A outer s H E) [] σ' H' s'→RelV v u→Q v H'→CE outer P w H s Q u s' :=
  λ{σ' H' v u} J rv q=>⟨v,H',J.os,J.bare,J.base,J.hok,rv,q⟩
 cases fl with
 | ret u =>
  obtain ⟨v,σ',H',J,rv,q⟩:=hs
  exact fin J rv q
 | next =>
  obtain ⟨σ',H',J,q⟩:=hs
  exact fin (v:=V.non) (u:=Value.none) J rfl q
 | brk =>
  obtain ⟨_,_,_,q⟩:=hs
  exact False.elim q
 | cont =>
  obtain ⟨_,_,_,q⟩:=hs
  exact False.elim q
end L2
namespace L2
open PySem PySem.Spec PyProof.Rows
section
variable {X:Cx} {x:Str} {p pos:Pos} {e:Expr} {es:List Expr} {t:TA} {id T:String} {r:List V→Hp→VK→Prop}
def KZ (r:List V→Hp→VK→Prop) (t:TA):TE:=λσ H Q=>t σ H λvs H1=>r vs H1 Q
theorem eu (hc:cx X (.builtin id) r) (hg:Gl X x) (hm:X.mg x=none) (hv:bootBuiltins x=some (.builtin id)) (ha:PA X (e :: es) t) (hn:x≠"__name__":=by decide) (hdb:(x == ("__debug__":Str))=false:=by decide)
  (he:starEach (e :: es) X.env=(false,eval e X.env) :: starEach es X.env:=by rfl) (hpl:(backTo pos (starEach es X.env)).any (·.1)=false:=by rfl):PE X (.Call (.Name x p) (e :: es) [] pos) (KZ r t):=by
 intro pins s σ H Q I h
 refine wpAny_Call_Name_kw (mr I hg hm hv ?_ hn hdb)
 exact PyProof.Rows.callWith_builtin1 (cE (ha pos pins s σ H _ I h) λus s1 ⟨vs,H1,I1,r1,q1⟩=>hc pins s1 σ H1 vs us Q I1 r1 q1) he hpl
theorem o5 (hc:cx X (.type T) r) (hg:Gl X x) (hm:X.mg x=none) (hv:bootBuiltins x=some (.type T)) (ha:PA X (e :: es) t) (hn:x≠"__name__":=by decide) (hdb:(x == ("__debug__":Str))=false:=by decide)
  (he:starEach (e :: es) X.env=(false,eval e X.env) :: starEach es X.env:=by rfl) (hpl:(backTo pos (starEach es X.env)).any (·.1)=false:=by rfl):PE X (.Call (.Name x p) (e :: es) [] pos) (KZ r t):=by
 intro pins s σ H Q I h
 refine wpAny_Call_Name_kw (mr I hg hm hv ?_ hn hdb)
 exact PyProof.Rows.callWith_type1 (cE (ha pos pins s σ H _ I h) λus s1 ⟨vs,H1,I1,r1,q1⟩=>hc pins s1 σ H1 vs us Q I1 r1 q1) he hpl
end
end L2
namespace HT
open PySem PyProof.Rows
def lexLt:List Int→List Int→Bool
 | [],[]=>false
 | [],_ :: _=>true
 | _ :: _,[]=>false
 | x :: xs,y :: ys=>if x=y then lexLt xs ys else decide (x < y)
section
open PySem.SeqAt
open PySem.AutoSeq1 (wpAny_loadPart')
open PySem.MeetsSeq PySem.MeetsSeq2 PySem.MeetsSeq3
end
section
variable {prog:Program} {w:World} {A:Around} {E:Value→Shared→Prop} {s:Shared}
def fb (n d:Nat):Option Int→Nat
 | none=>d
 | some v=>if v < 0 then (v + (n:Int)).toNat else min v.toNat n
theorem Gp (n d:Nat):fb n d none=d:=rfl
theorem wY (n d k:Nat):fb n d (some (k:Int))=min k n:=by
 show (if (k:Int) < 0 then ((k:Int) + (n:Int)).toNat else min (k:Int).toNat n)=min k n
 rw [if_neg (by omega),Int.toNat_natCast]
theorem MS (n d:Nat) (hd:d≤n) (o:Option Int):fb n d o≤n:=by
 cases o with
 | none=>exact hd
 | some v =>
  show (if v < 0 then (v + (n:Int)).toNat else min v.toNat n)≤n
  by_cases hv:v < 0
  ·rw [if_pos hv];omega
  ·rw [if_neg hv];exact Nat.min_le_right _ _
theorem Bn (v:Int) (n d:Nat):(if v < 0 then max (v + (n:Int)) 0 else min v (n:Int))=((fb n d (some v):Nat):Int):=by
 show (if v < 0 then max (v + (n:Int)) 0 else min v (n:Int))=(((if v < 0 then (v + (n:Int)).toNat else min v.toNat n):Nat):Int)
 by_cases hv:v < 0
 ·simp only [if_pos hv];omega
 ·simp only [if_neg hv];omega
theorem zI (lo hi:Option Int) (n:Nat):Builtin.Slice.sliceAdjust lo hi 1 (n:Int)=(((fb n 0 lo:Nat):Int),((fb n n hi:Nat):Int)):=by
 have h1:¬ ((1:Int) < 0):=by omega
 unfold Builtin.Slice.sliceAdjust
 simp only [h1,if_false]
 refine Prod.ext ?_ ?_
 ·cases lo with
  | none=>rfl
  | some v=>exact Bn v n 0
 ·cases hi with
  | none=>rfl
  | some v=>exact Bn v n n
theorem AB (i j:Nat):Builtin.Slice.slicePlaces (i:Int) (j:Int) 1=j - i:=by
 unfold Builtin.Slice.slicePlaces
 have h1:(1:Int) > 0:=by omega
 simp only [h1,if_true,Int.ediv_one]
 split <;> omega
theorem sT {v:Value} {o:Option Int} {Q:Option Int→Shared→Prop} (p:IsPart v o) (h:Q o s):wpAny (model prog w) A (Builtin.Slice.slicePartIndex v) Q E s:=by
 cases p with
 | none=>exact slicePart_none h
 | int i t=>exact slicePart_int h
theorem pF {sl:Addr} {vl vu:Value} {lo hi:Option Int} {n:Nat} {Q:Int × Int × Nat→Shared→Prop} (hs:s.heap.IsSliceOf sl vl vu .none) (pl:IsPart vl lo) (pu:IsPart vu hi)
  (h:Q (((fb n 0 lo:Nat):Int),1,fb n n hi - fb n 0 lo) s):wpAny (model prog w) A (Builtin.Slice.sliceApplied (.ref sl) (pure (n:Int))) Q E s:=by
 obtain ⟨os,hos,hcs,hds⟩:=id hs
 unfold Builtin.Slice.sliceApplied Builtin.Slice.sliceFields
 refine wpAny_bind (wpAny_bind (wpAny_field hos hds (x:=vl) rfl (wpAny_bind (wpAny_field hos hds (x:=vu) rfl (wpAny_bind (wpAny_field hos hds (x:=.none) rfl (wpAny_pure ?_)))))))
 refine wpAny_bind (slicePart_none ?_)
 show wpAny _ _ (if ((1:Int) == 0)=true then _ else _) _ _ s
 rw [if_neg (by decide)]
 refine wpAny_bind (sT pl (wpAny_bind (sT pu (wpAny_bind (wpAny_pure ?_)))))
 show wpAny _ _ (match Builtin.Slice.sliceAdjust lo hi 1 (n:Int) with | (lo,hi)=>pure (lo,(1:Int),Builtin.Slice.slicePlaces lo hi 1)) _ _ s
 rw [zI lo hi n]
 show wpAny _ _ (pure (((fb n 0 lo:Nat):Int),(1:Int),Builtin.Slice.slicePlaces ((fb n 0 lo:Nat):Int) ((fb n n hi:Nat):Int) 1)) _ _ s
 rw [AB]
 exact wpAny_pure h
theorem FY (xs:Array Value) (i k:Nat):((UG k).filterMap λ(m:Nat)=>xs[((i:Int) + (m:Int) * 1).toNat]?).toArray=((xs.toList.drop i).take k).toArray:=by
 have e:(λ(m:Nat)=>xs[((i:Int) + (m:Int) * 1).toNat]?)=λm=>xs[i + m]?:=by
  funext m
  have:((i:Int) + (m:Int) * 1).toNat=i + m:=by omega
  rw [this]
 rw [e]
 have:=pick_run xs i k
 rw [List.filterMap_map] at this
 have e2:((λx=>xs[x]?) ∘ λx=>i + x)=λm=>xs[i + m]?:=rfl
 rw [e2] at this
 rw [this]
theorem nt {t sl:Addr} {items:Array Value} {vl vu:Value} {lo hi:Option Int} {Q:Value→Shared→Prop} (ht:IsTup s.heap t items) (hs:s.heap.IsSliceOf sl vl vu .none) (pl:IsPart vl lo) (pu:IsPart vu hi)
  (hw:¬ (fb items.size 0 lo=0∧fb items.size items.size hi=items.size))
  (h:Q (.ref s.heap.objs.size) { s with heap:=s.heap.push { cls:=.type "tuple",data:=.seq ((items.toList.drop (fb items.size 0 lo)).take (fb items.size items.size hi - fb items.size 0 lo)).toArray } })
  (hsz:items.size≤sizeLine):wpAny (model prog w) A (getItem (.ref t) (.ref sl)) Q E s:=by
 have htake:sizeOk (.seq ((items.toList.drop (fb items.size 0 lo)).take (fb items.size items.size hi - fb items.size 0 lo)).toArray):=by
  show ((items.toList.drop (fb items.size 0 lo)).take (fb items.size items.size hi - fb items.size 0 lo)).toArray.size≤sizeLine
  rw [Tu,TX,UD,Array.length_toList]
  omega
 have hj:fb items.size items.size hi≤items.size:=MS _ _ (Tr _) hi
 obtain ⟨os,hos,hcs,hds⟩:=id hs
 have hTs:s.TypeIs (.ref sl) "slice":=⟨os,hos,hcs⟩
 unfold getItem
 try with_reducible refine wpAny_holding ?_
 first | refine wpAny_bind (wpAny_pure ?_) | skip
 refine wpAny_bind (wpAny_sequenceKey ht.typeIs (by decide) ?_)
 refine wpAny_bind (wpAny_callSpecial?_slot (name:=Str.ofString "__getitem__") ht.typeIs PyProof.Rows.slot_tuple_getitem
  (wpAny_call_entry PyProof.Rows.slot_tuple_getitem ht.typeIs entry_tuple_getitem ?_ (args_tuple_getitem _ _)))
 show wpAny _ _ (Builtin.Tuple.tupleItemsOf (.ref t) >>= _) _ _ s
 refine wpAny_bind (tupleItemsOf_ ht ?_)
 refine wpAny_bind (wpAny_typeOf hTs ?_)
 rw [if_pos (by decide)]
 refine wpAny_bind (pF hs pl pu ?_)
 have hno:¬ ((((fb items.size 0 lo:Nat):Int) == 0 && (1:Int) == 1 && (fb items.size items.size hi - fb items.size 0 lo) == items.size)=true):=by
  intro q
  rw [T4,T4] at q
  have q1:((fb items.size 0 lo:Nat):Int)=0:=eq_of_beq q.1.1
  have q2:fb items.size items.size hi - fb items.size 0 lo=items.size:=eq_of_beq q.2
  exact hw ⟨by omega,by omega⟩
 show wpAny _ _ (if (((fb items.size 0 lo:Nat):Int) == 0 && (1:Int) == 1 && (fb items.size items.size hi - fb items.size 0 lo) == items.size)=true then _ else _) _ _ s
 rw [if_neg hno,FY]
 first
  | exact wpAny_bind (m:=Builtin.Tuple.tupleExact _) (wpAny_newObj_type (wpAny_pure ⟨_,rfl,wpAny_pure h⟩) htake)
  | exact wpAny_bind (m:=Builtin.Tuple.tupleExact _) (wpAny_newObj_type (wpAny_bind (wpAny_pure (wpAny_pure ⟨_,rfl,wpAny_pure h⟩))) htake)
  | exact wpAny_bind (wpAny_bind (m:=Builtin.Tuple.tupleExact _) (wpAny_newObj_type (wpAny_pure (wpAny_pure ⟨_,rfl,wpAny_pure h⟩)) htake))
  | exact wpAny_bind (wpAny_bind (m:=Builtin.Tuple.tupleExact _) (wpAny_newObj_type (wpAny_pure ⟨_,rfl,wpAny_pure h⟩) htake))
end
end HT
namespace L2
open PySem PySem.Spec PyProof.Rows
abbrev TO:=St→Hp→(Option Int→Hp→Prop)→Prop
def PO (X:Cx) (e:Option Expr) (t:TO):Prop :=
 ∀(pins:List (Addr × Obj)) (s:Shared) (σ:St) (H:Hp) (Q:Option Int→Hp→Prop),Inv X pins σ H s→t σ H Q →
  wpAny (model X.prog X.w) X.A (evalPart e X.env) (λu s'=>∃o H',Inv X pins σ H' s'∧IsPart u o∧Q o H') X.xe s
def qQ:TO:=λ_ H Q=>Q none H
def Cw (t:TE):TO:=λσ H Q=>t σ H λx H1=>∃i,x=.int i∧Q (some i) H1
theorem intsAre_of {ns:List Int}:∀{us:List Value},Vals (ns.map V.int) us→IntsAre us ns:=by
 induction ns with
 | nil=>intro us r;rw [Uc] at r;cases r;exact .nil
 | cons n ns ih =>
  intro us r
  rw [Tt] at r
  cases r with
  | cons r1 r2 =>
   obtain ⟨t,e⟩:=r1
   subst e
   exact .cons n t (ih r2)
section
variable {X:Cx} {e:Expr} {te:TE} {lo hi:Option Expr} {tl th:TO} {pos p2:Pos}
theorem qH:PO X none qQ:=by
 intro pins s σ H Q I h
 rw [evalPart_none]
 exact wpAny_pure ⟨none,H,I,.none,h⟩
theorem lM (h:PE X e te):PO X (some e) (Cw te):=by
 intro pins s σ H Q I hw
 rw [evalPart_some]
 refine cE (h pins s σ H _ I hw) λu s1 ⟨x,H1,I1,r1,q1⟩=>?_
 obtain ⟨i,rfl,q⟩:=q1
 obtain ⟨t,rfl⟩:=r1
 exact ⟨some i,H1,I1,.int i t,q⟩
def tJ (X:Cx) (r:V→Option Int→Option Int→Hp→VK→Prop):Prop :=
 ∀(pins:List (Addr × Obj)) (s:Shared) (σ:St) (H:Hp) (x:V) (v vl vu:Value) (lo hi:Option Int) (sl:Addr) (Q:VK),Inv X pins σ H s→RelV x v→s.heap.IsSliceOf sl vl vu .none→IsPart vl lo→IsPart vu hi→r x lo hi H Q →
  ∃T id,typeLookup (.type T) "__getitem__"=pure (some (.builtin id))∧s.TypeIs v T∧wpAny (model X.prog X.w) X.A (getItem v (.ref sl)) (EP X pins σ Q) X.xe s
theorem tJ.or {r r':V→Option Int→Option Int→Hp→VK→Prop} (h:tJ X r) (h':tJ X r'):tJ X (λx lo hi H Q=>r x lo hi H Q∨r' x lo hi H Q):=by
 intro pins s σ H x v vl vu lo hi sl Q I rx hs pl pu q
 rcases q with q | q
 ·exact h pins s σ H x v vl vu lo hi sl Q I rx hs pl pu q
 ·exact h' pins s σ H x v vl vu lo hi sl Q I rx hs pl pu q
def Ql (r:V→Option Int→Option Int→Hp→VK→Prop) (te:TE) (tl th:TO):TE:=λσ H Q=>te σ H λx H1=>tl σ H1 λl H2=>th σ H2 λu H3=>r x l u H3 Q
theorem kJ {r:V→Option Int→Option Int→Hp→VK→Prop} (hr:tJ X r) (he:PE X e te) (hl:PO X lo tl) (hu:PO X hi th):PE X (.Subscript e (.Slice lo hi none p2) pos) (Ql r te tl th):=by
 intro pins s σ H Q I h
 refine Subscript_ (cE (he pins s σ H _ I h) λv s1 ⟨x,H1,I1,r1,q1⟩=>?_)
 refine wpAny_Slice (cE (hl pins s1 σ H1 _ I1 q1) λvl s2 ⟨l,H2,I2,pl,q2⟩=>cE (hu pins s2 σ H2 _ I2 q2) λvu s3 ⟨u,H3,I3,pu,q3⟩=>?_)
 rw [evalPart_none]
 refine wpAny_pure ?_
 have I4:Inv X pins σ H3 { s3 with heap:=s3.heap.push { cls:=.type "slice",data:=.fields #[vl,vu,.none] } }:=I3.kept (t':=s3.toks) λb ob q=>Heap.get?_push_of_some _ q
 obtain ⟨T,id,hT,ht,hg⟩:=hr pins { s3 with heap:=s3.heap.push { cls:=.type "slice",data:=.fields #[vl,vu,.none] } } σ H3 x v vl vu l u s3.heap.objs.size Q I4 r1 (Heap.IsSliceOf.new ..) pl pu q3
 show wpAny (model X.prog X.w) X.A (subscriptTail e (.Slice lo hi none p2) v (.ref s3.heap.objs.size)) (EP X pins σ Q) X.xe { s3 with heap:=s3.heap.push { cls:=.type "slice",data:=.fields #[vl,vu,.none] } }
 exact tail_any (ops:=[.ref s3.heap.objs.size,v]) ht hT hg (by with_unfolding_all rfl)
def oI (xs:List V) (lo hi:Option Int):List V:=(xs.drop (HT.fb xs.length 0 lo)).take (HT.fb xs.length xs.length hi - HT.fb xs.length 0 lo)
theorem pQ (xs:List V) (lo hi:Option Int):(oI xs lo hi).length≤xs.length:=by
 unfold oI
 rw [TX,UD]
 omega
def RF (K:PySem.W.Frag):V→Option Int→Option Int→Hp→VK→Prop:=λx lo hi H Q=>∃a xs,x=.ref a∧g7 K H a xs ∧
 ¬ (HT.fb xs.length 0 lo=0∧HT.fb xs.length xs.length hi=xs.length)∧∀p,H p=none→Q (.ref p) (upd H p (.tup (oI xs lo hi)))
theorem MX:tJ X (RF X.K):=by
 intro pins s σ H x v vl vu lo hi sl Q I rx hs pl pu h
 obtain ⟨a,xs,rfl,hx,hw,q⟩:=h
 cases rx
 obtain ⟨its,r,ht,hz⟩:=I.tuple hx
 have hlen:its.toArray.size=xs.length:=by rw [Tu];exact r.length.symm
 refine ⟨"tuple",_,PyProof.Rows.slot_tuple_getitem.lookup,ht.typeIs,?_⟩
 refine HT.nt ht hs pl pu (by rw [hlen];exact hw) ?_ (by rw [hlen];exact hz)
 rw [hlen]
 refine ⟨.ref s.heap.objs.size,_,I.laid (t':=s.toks) (o:=.tup (oI xs lo hi)) (λb ob q=>Heap.get?_push_of_some _ q) (Tr _) ?_,rfl,q _ (I.hok.fresh (Tr _))⟩
 exact ⟨TK (pQ xs lo hi) hz,_,(r.drop (HT.fb xs.length 0 lo)).take (HT.fb xs.length xs.length hi - HT.fb xs.length 0 lo),IsTup.new _ _⟩
end
end L2
namespace L2
open PySem PySem.Spec PyProof.Rows
def D8 (n:Nat) (i:Int):Option Nat:=if 0≤i then (if i < n then some i.toNat else none) else if -(n:Int)≤i then some (i + n).toNat else none
def dt {α:Type} (xs:List α) (i:Int):Option α:=(D8 xs.length i).bind λj=>xs[j]?
theorem BM {n:Nat} {i:Int} {j:Nat} (h:D8 n i=some j):seqIndex? i n=some j∧j < n∧-(n:Int)≤i∧i < n:=by
 unfold D8 at h
 by_cases h0:0≤i
 ·rw [if_pos h0] at h
  by_cases h1:i < n
  ·rw [if_pos h1] at h
   have e:i.toNat=j:=Option.some.inj h
   exact ⟨by rw [seqIndex_of h0 h1,e],by omega,by omega,h1⟩
  ·rw [if_neg h1] at h;cases h
 ·rw [if_neg h0] at h
  by_cases h1:-(n:Int)≤i
  ·rw [if_pos h1] at h
   have e:(i + n).toNat=j:=Option.some.inj h
   exact ⟨by rw [seqIndex_neg (by omega) h1,e],by omega,h1,by omega⟩
  ·rw [if_neg h1] at h;cases h
theorem vN {α:Type} {xs:List α} {i:Int} {v:α} (h:dt xs i=some v):∃j,seqIndex? i xs.length=some j∧xs[j]?=some v∧j < xs.length∧-(xs.length:Int)≤i∧i < xs.length:=by
 unfold dt at h
 cases e:D8 xs.length i with
 | none=>rw [e] at h;cases h
 | some j =>
  rw [e] at h
  obtain ⟨h1,h2,h3,h4⟩:=BM e
  exact ⟨j,h1,h,h2,h3,h4⟩
theorem bx {α:Type} {xs:List α} {j:Nat} {v:α} (h:xs[j]?=some v):dt xs (j:Int)=some v:=by
 have hj:j < xs.length:=(Tj.mp h).1
 have e:D8 xs.length (j:Int)=some j:=by
  unfold D8
  rw [if_pos (by omega),if_pos (by omega)];simp
 unfold dt;rw [e];exact h
def c_ (b:Expr):Prop:=∀o i,subscripted b false o i=operate [o,i] (getItem o i)
def p9 (X:Cx) (r:R2):Prop :=
 ∀(value slice:Expr) (pins:List (Addr × Obj)) (s:Shared) (σ:St) (H:Hp) (x y:V) (v u:Value) (Q:VK),Inv X pins σ H s→RelV x v→RelV y u→r x y H Q →
  subscripted slice false v u=operate [v,u] (getItem v u)→wpAny (model X.prog X.w) X.A (subscriptTail value slice v u) (EP X pins σ Q) X.xe s
def qg (X:Cx) (id:String) (r:V→List V→Hp→VK→Prop):Prop :=
 ∀(pins:List (Addr × Obj)) (s:Shared) (σ:St) (H:Hp) (x:V) (xs:List V) (v:Value) (us:List Value) (Q:VK),Inv X pins σ H s→RelV x v→Vals xs us→r x xs H Q →
  wpAny (model X.prog X.w) X.A (call (.builtin id) (v :: us)) (EP X pins σ Q) X.xe s
section
variable {X:Cx} {a b:Expr} {ta tb:TE} {pos:Pos}
theorem p9.or {r r':R2} (h:p9 X r) (h':p9 X r'):p9 X (λx y H Q=>r x y H Q∨r' x y H Q):=by
 intro value slice pins s σ H x y v u Q I rx ry q hs
 rcases q with q | q
 ·exact h value slice pins s σ H x y v u Q I rx ry q hs
 ·exact h' value slice pins s σ H x y v u Q I rx ry q hs
theorem qg.or {id:String} {r r':V→List V→Hp→VK→Prop} (h:qg X id r) (h':qg X id r'):qg X id (λx xs H Q=>r x xs H Q∨r' x xs H Q):=by
 intro pins s σ H x xs v us Q I rx rs q
 rcases q with q | q
 ·exact h pins s σ H x xs v us Q I rx rs q
 ·exact h' pins s σ H x xs v us Q I rx rs q
theorem cD {r:R2} (hr:p9 X r) (ha:PE X a ta) (hb:PE X b tb) (hs:c_ b):PE X (.Subscript a b pos) (GU r ta tb):=by
 intro pins s σ H Q I h
 exact Subscript_ (Lj ha hb I h λv u s2 x y H2 I2 rx ry q=>hr a b pins s2 σ H2 x y v u Q I2 rx ry q (hs _ _))
def Pb (K:PySem.W.Frag):R2:=λx y H Q=>∃p xs i v,x=.ref p∧y=.int i∧dk K H p xs∧dt xs i=some v∧Q v H
def Pd (K:PySem.W.Frag):R2:=λx y H Q=>∃p xs i v,x=.ref p∧y=.int i∧g7 K H p xs∧dt xs i=some v∧Q v H
def Pc:R2:=λx y H Q=>∃z i c,x=.str z∧y=.int i∧z.length≤sizeLine∧dt z.cps.toList i=some c∧Q (.str ⟨#[c]⟩) H
theorem vX:p9 X (Pb X.K):=by
 intro value slice pins s σ H x y v u Q I rx ry h hs
 obtain ⟨p,xs,i,z,rfl,rfl,hq,he,q⟩:=h
 cases rx
 obtain ⟨t,rfl⟩:=ry
 obtain ⟨its,r,pl,hz⟩:=I.list hq
 obtain ⟨j,h1,h2,h3,h4,h5⟩:=vN he
 obtain ⟨w,ew,rw'⟩:=r.get h2
 have hl:=r.length
 have hn:=mx
 have fin:EP X pins σ Q w s:=⟨z,H,I,rw',q⟩
 by_cases h0:0≤i
 ·have hj:i.toNat=j:=by
   rw [seqIndex_of h0 h5] at h1
   exact Option.some.inj h1
  exact item_listR pl.isList h0 (by omega) (by rw [hj];simpa using ew) fin hs
 ·have hj:(i + (its.toArray.size:Int)).toNat=j:=by
   rw [seqIndex_neg (by omega) h4] at h1
   rw [Tu,← hl]
   exact Option.some.inj h1
  exact subscriptTail_builtinR (x:=w) pl.isList.typeIs slot_list_getitem.lookup
   (wpAny_getItem_list_neg (Q:=λr s'=>r=w∧EP X pins σ Q r s') pl.isList (by omega) (by rw [Tu] <;> omega) (by omega) (by rw [hj];simpa using ew) ⟨rfl,fin⟩) hs
theorem de:p9 X (Pd X.K):=by
 intro value slice pins s σ H x y v u Q I rx ry h hs
 obtain ⟨p,xs,i,z,rfl,rfl,hq,he,q⟩:=h
 cases rx
 obtain ⟨t,rfl⟩:=ry
 obtain ⟨its,r,pl,hz⟩:=I.tuple hq
 obtain ⟨j,h1,h2,h3,h4,h5⟩:=vN he
 obtain ⟨w,ew,rw'⟩:=r.get h2
 have hl:=r.length
 have hn:=mx
 have fin:EP X pins σ Q w s:=⟨z,H,I,rw',q⟩
 exact subscriptTail_builtinR (x:=w) pl.typeIs slot_tuple_getitem.lookup
  (getItem_tuple (j:=j) (Q:=λr s'=>r=w∧EP X pins σ Q r s') pl (by omega) (by omega) (by rw [Tu,← hl];exact h1) (by simpa using ew) ⟨rfl,fin⟩) hs
theorem Fe:p9 X Pc:=by
 intro value slice pins s σ H x y v u Q I rx ry h hs
 obtain ⟨z,i,c,rfl,rfl,hz,he,q⟩:=h
 obtain ⟨t,rfl⟩:=rx
 obtain ⟨t',rfl⟩:=ry
 obtain ⟨j,h1,h2,h3,h4,h5⟩:=vN he
 have hl:z.cps.toList.length=z.length:=by simp [Str.length]
 rw [hl] at h1 h4 h5
 have hn:=mx
 exact tail_any (typeIs_str s z t) slot_str_getitem.lookup (getItem_str (c:=c) (by
  have e1:decide (i < -(2 ^ 63:Int))=false:=decide_eq_false (by omega)
  have e2:decide (i ≥ 2 ^ 63)=false:=decide_eq_false (by omega)
  rw [e1,e2,Bool.or_false]) (by rw [h1];simpa using h2) ⟨.str ⟨#[c]⟩,H,I.tok _,⟨_,rfl⟩,q⟩) hs
theorem Ae (its:List Value) (n j:Nat) (u:Value):Obj.mapSeq (·.setIfInBounds j u) { cls:=.type "list",data:=.seq its.toArray n }={ cls:=.type "list",data:=.seq (its.set j u).toArray n }:=by
 simp [Obj.mapSeq]
theorem Inv.lst {pins:List (Addr × Obj)} {σ:St} {H:Hp} {s:Shared} {p:Addr} {xs:List V} (I:Inv X pins σ H s) (h:H p=some (.lst xs)) :
  ∃(its:List Value) (n:Nat),Vals xs its∧s.heap.get? p=some { cls:=.type "list",data:=.seq its.toArray n }∧xs.length≤sizeLine:=by
 obtain ⟨z,its,n,r,e⟩:=I.hok p _ h
 exact ⟨its,n,r,e,z⟩
theorem Inv.L4 {pins:List (Addr × Obj)} {σ:St} {H:Hp} {s:Shared} {p:Addr} {xs ys:List V} {its its':List Value} {n n':Nat} {f:Obj→Obj} (I:Inv X pins σ H s) (h:H p=some (.lst xs))
  (ho:s.heap.get? p=some { cls:=.type "list",data:=.seq its.toArray n }) (hf:f { cls:=.type "list",data:=.seq its.toArray n }={ cls:=.type "list",data:=.seq its'.toArray n' }) (r:Vals ys its') (hz:ys.length≤sizeLine) (t:Nat) :
  Inv X pins σ (upd H p (.lst ys)) { s with heap:=s.heap.update p f,toks:=t }:=by
 have e:(s.heap.update p f).get? p=some { cls:=.type "list",data:=.seq its'.toArray n' }:=by
  rw [Heap.get?_update_self f ho (by rw [hf] <;> rfl),hf]
 refine I.write (x:=p) (e:=p) (by rw [h];trivial) (.inl rfl) (λb u hb q=>(Heap.get?_update_other _ _ (Ne.symm hb)).trans q) ⟨_,e⟩ ?_
 exact ⟨hz,its',n',r,e⟩
def KO:V→V→V→Hp→(Hp→Prop)→Prop:=λo i v H Q=>∃p xs k j,o=.ref p∧i=.int k∧H p=some (.lst xs)∧D8 xs.length k=some j∧Q (upd H p (.lst (xs.set j v)))
theorem set_list:j5 X KO:=by
 intro pins s σ H o i v ov iv u Q I ro ri rv h
 obtain ⟨p,xs,k,j,rfl,rfl,hp,hj,q⟩:=h
 cases ro
 obtain ⟨t,rfl⟩:=ri
 obtain ⟨its,n,r,ho,hz⟩:=I.lst hp
 obtain ⟨h1,h2,h3,h4⟩:=BM hj
 have hl:=r.length
 have hn:=mx
 have I':Inv X pins σ (upd H p (.lst (xs.set j v))) { s with heap:=s.heap.update p (Obj.mapSeq (·.setIfInBounds j u)) } :=
  I.L4 hp ho (Ae its n j u) (r.set rv j) (by rw [UR];exact hz) s.toks
 by_cases h0:0≤k
 ·have hk:k.toNat=j:=by
   rw [seqIndex_of h0 h4] at h1
   exact Option.some.inj h1
  exact PySem.W.ki_setAt ho h0 (by omega) (by rw [Tu,← hl];exact h4) (by rw [hk];exact ⟨_,I',q⟩)
 ·have hk:(k + (its.toArray.size:Int)).toNat=j:=by
   rw [seqIndex_neg (by omega) h3] at h1
   rw [Tu,← hl]
   exact Option.some.inj h1
  exact PySem.W.ki_setBack ho (by omega) (by rw [Tu,← hl];exact h3) (by omega) (by rw [hk];exact ⟨_,I',q⟩)
theorem xp (lo hi:Option Int) (n:Nat):(sliceBounds lo hi none n).1=((HT.fb n 0 lo:Nat):Int)∧(sliceBounds lo hi none n).2.1=((HT.fb n n hi:Nat):Int)∧(sliceBounds lo hi none n).2.2=1:=by
 refine ⟨?_,?_,rfl⟩
 ·cases lo with
  | none=>simp [sliceBounds,HT.fb]
  | some i =>
   simp only [sliceBounds,HT.fb,VM,show (1:Int) > 0 by decide,if_true]
   by_cases h:i < 0
   ·simp only [h,if_true] <;> omega
   ·simp only [h,if_false] <;> omega
 ·cases hi with
  | none=>simp [sliceBounds,HT.fb]
  | some i =>
   simp only [sliceBounds,HT.fb,VM,show (1:Int) > 0 by decide,if_true]
   by_cases h:i < 0
   ·simp only [h,if_true] <;> omega
   ·simp only [h,if_false] <;> omega
theorem uF (its:List Value) (lo hi:Option Int):slicePick its.toArray lo hi none=((its.drop (HT.fb its.length 0 lo)).take (HT.fb its.length its.length hi - HT.fb its.length 0 lo)).toArray:=by
 obtain ⟨h1,h2,h3⟩:=xp lo hi its.toArray.size
 unfold slicePick
 rw [h1,h2,h3]
 simp only [sliceRange_one,pick_run,Tu] <;> rfl
def Pn (K:PySem.W.Frag):V→Option Int→Option Int→Hp→VK→Prop:=λx lo hi H Q=>∃a xs,x=.ref a∧dk K H a xs∧∀p,H p=none→Q (.ref p) (upd H p (.lst (oI xs lo hi)))
theorem xo:tJ X (Pn X.K):=by
 intro pins s σ H x v vl vu lo hi sl Q I rx hs pl pu h
 obtain ⟨a,xs,rfl,hx,q⟩:=h
 cases rx
 obtain ⟨its,r,ht,hz⟩:=I.list hx
 have hlen:=r.length
 refine ⟨"list",_,slot_list_getitem.lookup,ht.isList.typeIs,?_⟩
 refine wpAny_getItem_list_slice ht.isList hs pl pu .none (by simp) ?_ (by rw [Tu] <;> omega)
 rw [uF,← hlen]
 refine ⟨.ref s.heap.objs.size,_,I.laid (t':=s.toks) (o:=.lst (oI xs lo hi)) (λb ob q=>Heap.get?_push_of_some _ q) (Tr _) ?_,rfl,q _ (I.hok.fresh (Tr _))⟩
 exact ⟨TK (pQ xs lo hi) hz,_,0,(r.drop (HT.fb xs.length 0 lo)).take (HT.fb xs.length xs.length hi - HT.fb xs.length 0 lo),Heap.get?_push_size _ rfl⟩
def jX:V→Bool
 | .non=>true
 | .bl _=>true
 | .int _=>true
 | .str _=>true
 | _=>false
def G9:V→V→Bool
 | .non,.non=>true
 | .bl a,.bl b=>a == b
 | .bl a,.int b=>(if a then 1 else 0) == b
 | .int a,.bl b=>a == (if b then 1 else 0)
 | .int a,.int b=>a == b
 | .str a,.str b=>a == b
 | _,_=>false
theorem Lu {A:Around} {s:Shared} {y x:V} {u v:Value} (ry:RelV y u) (rx:RelV x v) (fy:jX y=true) (fx:jX x=true):SeqAt.EqAt A s u v (G9 y x):=by
 cases y with
 | non =>
  cases ry
  cases x with
  | non=>cases rx;exact SeqAt.EqAt.same _
  | bl b=>cases rx;exact SeqAt.EqAt.none_bool b
  | int b=>obtain ⟨t,rfl⟩:=rx;exact SeqAt.EqAt.none_int b t
  | str b=>obtain ⟨t,rfl⟩:=rx;exact SeqAt.EqAt.none_str b t
  | _=>exact absurd (show false=true from fx) TH
 | bl a =>
  cases ry
  cases x with
  | non=>cases rx;exact SeqAt.EqAt.bool_none a
  | bl b=>cases rx;exact SeqAt.EqAt.bool_bool a b
  | int b=>obtain ⟨t,rfl⟩:=rx;exact SeqAt.EqAt.bool_int a b t
  | str b=>obtain ⟨t,rfl⟩:=rx;exact SeqAt.EqAt.bool_str a b t
  | _=>exact absurd (show false=true from fx) TH
 | int a =>
  obtain ⟨t',rfl⟩:=ry
  cases x with
  | non=>cases rx;exact SeqAt.EqAt.int_none a t'
  | bl b=>cases rx;exact SeqAt.EqAt.int_bool a t' b
  | int b=>obtain ⟨t,rfl⟩:=rx;exact SeqAt.EqAt.int_int a t' b t
  | str b=>obtain ⟨t,rfl⟩:=rx;exact SeqAt.EqAt.int_str a t' b t
  | _=>exact absurd (show false=true from fx) TH
 | str a =>
  obtain ⟨t',rfl⟩:=ry
  cases x with
  | non=>cases rx;exact SeqAt.EqAt.str_none a t'
  | bl b=>cases rx;exact SeqAt.EqAt.str_bool a t' b
  | int b=>obtain ⟨t,rfl⟩:=rx;exact SeqAt.EqAt.str_int a t' b t
  | str b=>obtain ⟨t,rfl⟩:=rx;exact SeqAt.EqAt.str_str a t' b t
  | _=>exact absurd (show false=true from fx) TH
 | _=>exact absurd (show false=true from fy) TH
def zQ (x:V) (u:Value):Bool:=match u with
 | .none=>G9 .non x
 | .bool b=>G9 (.bl b) x
 | .int i _=>G9 (.int i) x
 | .str z _=>G9 (.str z) x
 | _=>false
theorem EL {x y:V} {u:Value} (r:RelV y u) (f:jX y=true):zQ x u=G9 y x:=by
 cases y with
 | non=>cases r;rfl
 | bl b=>cases r;rfl
 | int i=>obtain ⟨t,rfl⟩:=r;rfl
 | str z=>obtain ⟨t,rfl⟩:=r;rfl
 | _=>exact absurd (show false=true from f) TH
theorem m8 {x:V}:∀{xs:List V} {us:List Value},Vals xs us→xs.all jX=true→us.any (zQ x)=xs.any λy=>G9 y x
 | _,_,.nil,_=>rfl
 | y :: xs,u :: us,.cons r t,f=>by
  rw [VE,T4] at f
  rw [US,US,EL r f.1,m8 t f.2]
theorem kD {A:Around} {s:Shared} {x:V} {v:Value} (rx:RelV x v) (fx:jX x=true):∀{xs:List V} {us:List Value},Vals xs us→xs.all jX=true→∀u∈us,SeqAt.EqAt A s u v (zQ x u)
 | _,_,.nil,_=>λu hu=>by cases hu
 | y :: xs,u :: us,.cons r t,f=>λu' hu=>by
  rw [VE,T4] at f
  rcases TC.mp hu with rfl | hu
  ·rw [EL r f.1];exact Lu r rx f.1 fx
  ·exact kD rx fx t f.2 u' hu
def Np (x:V) (xs:List V):Bool:=xs.any λy=>G9 y x
def SS (K:PySem.W.Frag) (neg:Bool):R2:=λx y H Q=>∃p xs,y=.ref p∧(dk K H p xs∨g7 K H p xs)∧jX x=true∧xs.all jX=true∧Q (.bl (if neg then !Np x xs else Np x xs)) H
theorem DI:fT X (compareOp .In) (SS X.K false):=by
 intro pins s σ H x y v u Q I rx ry h
 obtain ⟨p,xs,rfl,hq,fx,fs,q⟩:=h
 cases ry
 rcases hq with hq | hq
 ·obtain ⟨its,r,pl,hz⟩:=I.list hq
  refine SeqAt.in_listAt (zQ x) pl.isList (λw hw=>kD rx fx r fs w (by simpa using hw)) ⟨.bl _,H,I,rfl,?_⟩
  rw [show its.toArray.any (zQ x)=its.any (zQ x) by simp,m8 r fs]
  exact q
 ·obtain ⟨its,r,pl,hz⟩:=I.tuple hq
  refine SeqAt.in_tupleAt (zQ x) pl (λw hw=>kD rx fx r fs w (by simpa using hw)) ⟨.bl _,H,I,rfl,?_⟩
  rw [show its.toArray.any (zQ x)=its.any (zQ x) by simp,m8 r fs]
  exact q
theorem wA:fT X (compareOp .NotIn) (SS X.K true):=by
 intro pins s σ H x y v u Q I rx ry h
 obtain ⟨p,xs,rfl,hq,fx,fs,q⟩:=h
 cases ry
 rcases hq with hq | hq
 ·obtain ⟨its,r,pl,hz⟩:=I.list hq
  refine SeqAt.notIn_listAt (zQ x) pl.isList (λw hw=>kD rx fx r fs w (by simpa using hw)) ⟨.bl _,H,I,rfl,?_⟩
  rw [show its.toArray.any (zQ x)=its.any (zQ x) by simp,m8 r fs]
  exact q
 ·obtain ⟨its,r,pl,hz⟩:=I.tuple hq
  refine SeqAt.notIn_tupleAt (zQ x) pl (λw hw=>kD rx fx r fs w (by simpa using hw)) ⟨.bl _,H,I,rfl,?_⟩
  rw [show its.toArray.any (zQ x)=its.any (zQ x) by simp,m8 r fs]
  exact q
theorem jv:cx X (.builtin "len") (λxs H Q=>∃p ys,xs=[.ref p]∧(dk X.K H p ys∨g7 X.K H p ys)∧Q (.int ys.length) H):=by
 intro pins s σ H xs us Q I r h
 obtain ⟨p,ys,rfl,hq,q⟩:=h
 obtain ⟨u,rfl,rx⟩:=vals1 r
 cases rx
 have hn:=mx
 rcases hq with hq | hq
 ·obtain ⟨its,r',pl,hz⟩:=I.list hq
  have hlen:=r'.length
  exact Calls.call_len_list pl.isList (by simp only [Tu] <;> omega) ⟨.int ys.length,H,I.tok _,⟨s.toks + 1,by rw [Tu,hlen]⟩,q⟩
 ·obtain ⟨its,r',pl,hz⟩:=I.tuple hq
  have hlen:=r'.length
  exact len_tuple pl (by simp only [Tu] <;> omega) ⟨.int ys.length,H,I.tok _,⟨s.toks + 1,by rw [Tu,hlen]⟩,q⟩
theorem m_:cx X (.builtin "len") (λxs H Q=>∃z,xs=[.str z]∧z.length≤sizeLine∧Q (.int z.length) H):=by
 intro pins s σ H xs us Q I r h
 obtain ⟨z,rfl,hz,q⟩:=h
 obtain ⟨u,rfl,t,rfl⟩:=vals1 r
 have hn:=mx
 exact len_str (by omega) ⟨.int z.length,H,I.tok _,⟨_,rfl⟩,q⟩
theorem cx.or {f:Value} {r r':List V→Hp→VK→Prop} (h:cx X f r) (h':cx X f r'):cx X f (λxs H Q=>r xs H Q∨r' xs H Q):=by
 intro pins s σ H xs us Q I rs q
 rcases q with q | q
 ·exact h pins s σ H xs us Q I rs q
 ·exact h' pins s σ H xs us Q I rs q
theorem nh:cx X (.type "list") (λxs H Q=>∃p ys,xs=[.ref p]∧(dk X.K H p ys∨g7 X.K H p ys)∧∀l,H l=none→Q (.ref l) (upd H l (.lst ys))):=by
 intro pins s σ H xs us Q I r h
 obtain ⟨p,ys,rfl,hq,q⟩:=h
 obtain ⟨u,rfl,rx⟩:=vals1 r
 cases rx
 have fin:∀(its:List Value),Vals ys its→ys.length≤sizeLine→∀(h':Heap) (c':Nat),(∀b o',s.heap.get? b=some o'→h'.get? b=some o') →
   h'.get? s.heap.objs.size=some { cls:=.type "list",dict:=none,data:=.seq its.toArray c',slots:=#[] }→EP X pins σ Q (.ref s.heap.objs.size) { s with heap:=h' }:=λits r' hz h' c' kp e =>
  ⟨.ref s.heap.objs.size,_,I.laid (t':=s.toks) kp (Tr _) (show dF X.prog X.w _ h' _ (.lst ys) from ⟨hz,its,c',r',e⟩),rfl,q _ (I.hok.fresh (Tr _))⟩
 rcases hq with hq | hq
 ·obtain ⟨its,r',pl,hz⟩:=I.list hq
  have hlen:=r'.length
  obtain ⟨o,ho,hc,n,hd⟩:=pl.isList
  exact call_list_seq p (.inl rfl) ho hc hd (λh' c' kp e=>fin its r' hz h' c' kp e) (by simp only [Tu] <;> omega)
 ·obtain ⟨its,r',pl,hz⟩:=I.tuple hq
  have hlen:=r'.length
  obtain ⟨o,ho,hc,n,hd⟩:=pl
  exact call_list_seq p (.inr rfl) ho hc hd (λh' c' kp e=>fin its r' hz h' c' kp e) (by simp only [Tu] <;> omega)
def Qo (K:PySem.W.Frag) (T:String) (x:V) (H:Hp):Prop:=match x with
 | .str _=>T="str"
 | .int _=>T="int"
 | .ref p=>(T="list"∧∃xs,dk K H p xs)∨(T="tuple"∧∃o,K.lookup p=some o∧o.cls=.type "tuple"∧o.dict=none) ∨
   (T="dict"∧((∃kvs,H p=some (.dK kvs))∨∃kvs ep,H p=some (.dE kvs ep)))∨(T="set"∧∃S n,H p=some (.set S n))
 | _=>False
theorem GY {pins:List (Addr × Obj)} {σ:St} {H:Hp} {s:Shared} {T:String} {x:V} {v:Value} (I:Inv X pins σ H s) (r:RelV x v) (ty:Qo X.K T x H) :
  s.TypeIs v T∧∀a,v=.ref a→∃ob,s.heap.get? a=some ob∧ob.dict=none:=by
 cases x with
 | str z =>
  obtain ⟨t,rfl⟩:=r
  cases (show T="str" from ty)
  exact ⟨typeIs_str s z t,λ_ e=>nomatch e⟩
 | int i =>
  obtain ⟨t,rfl⟩:=r
  cases (show T="int" from ty)
  exact ⟨typeIs_int s i t,λ_ e=>nomatch e⟩
 | ref p =>
  cases r
  rcases ty with ⟨rfl,xs,hq⟩ | ⟨rfl,o,hk,hc,hd⟩ | ⟨rfl,hk⟩ | ⟨rfl,S,n,hk⟩
  ·obtain ⟨its,_,pl,_⟩:=I.list hq
   refine ⟨pl.isList.typeIs,λa e=>?_⟩
   cases e
   obtain ⟨o,n,e,c,hd,_⟩:=pl
   exact ⟨o,e,hd⟩
  ·refine ⟨⟨o,I.nu p o hk,hc⟩,λa e=>?_⟩
   cases e
   exact ⟨o,I.nu _ o hk,hd⟩
  ·have z:∃o,s.heap.get? p=some o∧o.ExactDict:=by
    rcases hk with ⟨kvs,hk⟩ | ⟨kvs,ep,hk⟩
    ·obtain ⟨_,_,_,_,o,_,_,e,ex,_⟩:=I.hok p _ hk
     exact ⟨o,e,ex⟩
    ·obtain ⟨_,_,_,_,o,_,e,ex,_⟩:=I.hok p _ hk
     exact ⟨o,e,ex⟩
   obtain ⟨o,e,ex⟩:=z
   refine ⟨⟨o,e,ex.1⟩,λa e2=>?_⟩
   cases e2
   exact ⟨o,e,ex.2.1⟩
  ·obtain ⟨o,_,_,_,e,ex,_⟩:=I.hok p _ hk
   refine ⟨⟨o,e,ex.1⟩,λa e2=>?_⟩
   cases e2
   exact ⟨o,e,ex.2.1⟩
 | _=>exact False.elim ty
def RM (K:PySem.W.Frag) (T:String) (r:V→List V→Hp→VK→Prop) (to:TE):TE:=λσ H Q=>to σ H λx H1=>Qo K T x H1∧r x [] H1 Q
def Qi (K:PySem.W.Frag) (T:String) (r:V→List V→Hp→VK→Prop) (to:TE) (t:TA):TE:=λσ H Q=>to σ H λx H1=>Qo K T x H1∧t σ H1 λxs H2=>r x xs H2 Q
variable {o e:Expr} {es:List Expr} {to:TE} {t:TA} {name:Str} {apos cpos:Pos} {T id:String} {r:V→List V→Hp→VK→Prop}
theorem Mr (pa:PlainAttrs T) (slot:Slot T name id) (hty:typeOf (.builtin id)=pure (.type "method_descriptor")) (hm:qg X id r) (ho:PE X o to)
  (hbase:attributeBase o name X.env (eval o X.env)=eval o X.env:=by rfl) (hline:(apos.endLine == cpos.line)=true:=by rfl):PE X (.Call (.Attribute o name apos) [] [] cpos) (RM X.K T r to):=by
 intro pins s σ H Q I h
 refine wpAny_Call_method0_late hbase hline (cE (ho pins s σ H _ I h) λv s1 ⟨x,H1,I1,r1,ty,q1⟩=>?_)
 obtain ⟨h1,h2⟩:=GY I1 r1 ty
 exact ⟨T,id,pa,slot,hty,h1,h2,Calls.callWith_builtin rfl (PySem.evalArgs_none (hm pins s1 σ H1 x [] v [] Q I1 r1 .nil q1))⟩
theorem sj (pa:PlainAttrs T) (slot:Slot T name id) (hty:typeOf (.builtin id)=pure (.type "method_descriptor")) (hm:qg X id r) (ho:PE X o to) (ha:PA X (e :: es) t)
  (hbase:attributeBase o name X.env (eval o X.env)=eval o X.env:=by rfl)
  (hfew:((backTo cpos (starEach (e :: es) X.env)).all (λx=>!x.1) && (backToKw cpos (keywordEach [] X.env)).all (λx=>x.1.isSome)
   && decide ((e :: es).length + ([]:List Keyword).length + (if ([]:List Keyword).isEmpty then 0 else 1) < 30))=true:=by rfl)
  (hline:(apos.endLine == cpos.line)=true:=by rfl) (hs:starEach (e :: es) X.env=(false,eval e X.env) :: starEach es X.env:=by rfl) (hplain:(backTo cpos (starEach es X.env)).any (·.1)=false:=by rfl) :
  PE X (.Call (.Attribute o name apos) (e :: es) [] cpos) (Qi X.K T r to t):=by
 intro pins s σ H Q I h
 refine wpAny_Call_method_late hbase hfew hline rfl (cE (ho pins s σ H _ I h) λv s1 ⟨x,H1,I1,r1,ty,q1⟩=>?_)
 obtain ⟨h1,h2⟩:=GY I1 r1 ty
 refine ⟨T,id,pa,slot,hty,h1,h2,?_⟩
 have hA:=ha cpos pins s1 σ H1 _ I1 q1
 rw [hs] at hA ⊢
 refine Calls.callWith_builtin (by show (false || (backTo cpos (starEach es X.env)).any (·.1))=false;rw [hplain] <;> rfl) (Calls.evalArgs_plain ?_)
 exact cE hA λus s2 ⟨vs,H2,I2,r2,q2⟩=>hm pins s2 σ H2 x vs v us Q I2 r1 r2 q2
end
end L2
namespace L2
open PySem PySem.Spec PyProof.Rows
def P7 (X:Cx) (id:String) (r:V→List V→Hp→VK→Prop):Prop :=
 ∀(pins:List (Addr × Obj)) (s:Shared) (σ:St) (H:Hp) (x:V) (xs:List V) (v:Value) (us:List Value) (Q:VK),Inv X pins σ H s→RelV x v→Vals xs us→r x xs H Q →
  wpAny (model X.prog X.w) X.A (call (.builtin id) (v :: us)) (EP X pins σ Q) X.xe s
theorem Vals.one {x:V} {us:List Value} (r:Vals [x] us):∃u,us=[u]∧RelV x u:=vals1 r
theorem Vals.two {x y:V} {us:List Value} (r:Vals [x,y] us):∃u v,us=[u,v]∧RelV x u∧RelV y v:=vals2 r
theorem Vals.zero:∀{us:List Value},Vals [] us→us=[]
 | _,.nil=>rfl
theorem Vals.dropLast {xs:List V} {us:List Value} (h:Vals xs us):Vals xs.dropLast us.dropLast:=by
 induction h with
 | nil=>exact .nil
 | cons r t ih =>
  cases t with
  | nil=>exact .nil
  | cons q t'=>exact .cons r ih
theorem Vals.eraseIdx:∀{xs:List V} {us:List Value} (i:Nat),Vals xs us→Vals (xs.eraseIdx i) (us.eraseIdx i)
 | _,_,_,.nil=>.nil
 | _,_,0,.cons _ t=>t
 | _,_,i + 1,.cons r t=>.cons r (Vals.eraseIdx i t)
theorem Vals.reverse {xs:List V} {us:List Value} (h:Vals xs us):Vals xs.reverse us.reverse:=by
 induction h with
 | nil=>exact .nil
 | cons r t ih=>rw [UJ,UJ];exact Vals.append ih (.cons r .nil)
theorem zS {α:Type} (l:List α):l.eraseIdx (l.length - 1)=l.dropLast:=by
 induction l with
 | nil=>rfl
 | cons a r ih =>
  cases r with
  | nil=>rfl
  | cons b r =>
   have e:(a :: b :: r).length - 1=((b :: r).length - 1) + 1:=by
    have h1:(a :: b :: r).length=r.length + 2:=rfl
    have h2:(b :: r).length=r.length + 1:=rfl
    omega
   rw [e,Vm,ih]
   all_goals rfl
section
variable {X:Cx} {pins:List (Addr × Obj)} {σ:St} {H:Hp} {s:Shared} {l b:Addr} {xs ys zs:List V}
theorem Inv.Dm {its its':List Value} {n:Nat} {f:Array Value→Array Value} {t':Nat} (I:Inv X pins σ H s) (hH:H l=some (.lst xs))
  (e:s.heap.get? l=some { cls:=.type "list",data:=.seq its.toArray n }) (hf:f its.toArray=its'.toArray) (hv:Vals ys its') (hz:ys.length≤sizeLine) :
  Inv X pins σ (upd H l (.lst ys)) { s with heap:=s.heap.update l (Obj.mapSeq f),toks:=t' }:=by
 have q:=PySem.IsL.update e f
 rw [hf] at q
 refine I.write (x:=l) (e:=l) (by rw [hH];exact trivial) (.inl rfl) (λb' u hb hu=>(Heap.get?_update_other s.heap (Obj.mapSeq f) (Ne.symm hb)).trans hu) ⟨_,q⟩ ?_
 exact ⟨hz,its',_,hv,q⟩
theorem Inv.fresh (I:Inv X pins σ H s):H s.heap.objs.size=none:=I.hok.fresh (Tr _)
theorem Inv.Dp (I:Inv X pins σ H s) (hH:H l=some (.lst xs)):xs.length≤sizeLine∧∃(its:List Value) (n:Nat),Vals xs its∧xs.length=its.length∧s.heap.get? l=some { cls:=.type "list",data:=.seq its.toArray n }:=by
 obtain ⟨z,its,n,r,e⟩:=I.hok l _ hH
 exact ⟨z,its,n,r,r.length,e⟩
end
section
variable {X:Cx}
def B4:V→List V→Hp→VK→Prop:=λx vs H Q=>∃l xs y,x=.ref l∧vs=[y]∧H l=some (.lst xs)∧xs.length < sizeLine∧Q .non (upd H l (.lst (xs ++ [y])))
theorem i7:P7 X "list.append" B4:=by
 intro pins s σ H x vs v us Q I rx rv h
 obtain ⟨l,xs,y,rfl,rfl,hH,hz,q⟩:=h
 cases rx
 obtain ⟨u,rfl,ru⟩:=rv.one
 obtain ⟨z,its,n,r,hl,e⟩:=I.Dp hH
 refine call_meets F.slot_list_append ⟨_,e,rfl⟩ F.entry_list_append (F.args_list_append_2 _ _) (PySem.list_append l its.toArray n u (by rw [Tu];omega)) ⟨e,?_⟩
 refine ⟨.non,_,I.Dm (its':=its ++ [u]) hH e (by simp) (r.append (.cons ru .nil)) ?_,rfl,q⟩
 rw [TN,List.length_singleton]
 omega
def RD:V→List V→Hp→VK→Prop:=λx vs H Q=>∃l xs y,x=.ref l∧vs=[]∧H l=some (.lst xs)∧xs[xs.length - 1]?=some y∧Q y (upd H l (.lst xs.dropLast))
theorem L6:P7 X "list.pop" RD:=by
 intro pins s σ H x vs v us Q I rx rv h
 obtain ⟨l,xs,y,rfl,rfl,hH,hy,q⟩:=h
 cases rx
 have hus:=rv.zero
 subst hus
 obtain ⟨z,its,n,r,hl,e⟩:=I.Dp hH
 obtain ⟨u,hu,ru⟩:=r.get hy
 have hy':its.toArray[its.toArray.size - 1]?=some u:=by
  show its.toArray[its.length - 1]?=some u
  rw [← Array.getElem?_toList,← hl]
  exact hu
 refine call_meets F.slot_list_pop ⟨_,e,rfl⟩ F.entry_list_pop (F.args_list_pop_1 _) (MeetsSeq.list_pop_last l its.toArray n u hy' (by rw [Tu];omega)) ⟨e,?_⟩
 refine ⟨y,_,I.Dm (its':=its.dropLast) hH e ?_ r.dropLast ?_,ru,q⟩
 ·show its.toArray.eraseIdxIfInBounds (its.toArray.size - 1)=its.dropLast.toArray
  rw [Tu,U4,zS]
 ·rw [List.length_dropLast]
  omega
def Gf:V→List V→Hp→VK→Prop:=λx vs H Q=>∃l xs,x=.ref l∧vs=[]∧H l=some (.lst xs)∧Q .non (upd H l (.lst xs.reverse))
theorem Ah:P7 X "list.reverse" Gf:=by
 intro pins s σ H x vs v us Q I rx rv h
 obtain ⟨l,xs,rfl,rfl,hH,q⟩:=h
 cases rx
 have hus:=rv.zero
 subst hus
 obtain ⟨z,its,n,r,hl,e⟩:=I.Dp hH
 refine call_meets F.slot_list_reverse ⟨_,e,rfl⟩ F.entry_list_reverse (F.args_list_reverse_1 _) (AutoSeq1.list_reverse_list_0 l its.toArray n (by rw [Tu];omega)) ⟨e,?_⟩
 refine ⟨.non,_,I.Dm (its':=its.reverse) hH e (by simp) r.reverse ?_,rfl,q⟩
 rw [VC]
 omega
def MF:V→List V→Hp→VK→Prop:=λx vs H Q=>∃l xs,x=.ref l∧vs=[]∧H l=some (.lst xs)∧Q .non (upd H l (.lst []))
theorem Fx:P7 X "list.clear" MF:=by
 intro pins s σ H x vs v us Q I rx rv h
 obtain ⟨l,xs,rfl,rfl,hH,q⟩:=h
 cases rx
 have hus:=rv.zero
 subst hus
 obtain ⟨z,its,n,r,hl,e⟩:=I.Dp hH
 refine call_meets F.slot_list_clear ⟨_,e,rfl⟩ F.entry_list_clear (F.args_list_clear_1 _) (AutoSeq1.list_clear_list_0 l its.toArray n (by rw [Tu];omega)) ⟨e,?_⟩
 exact ⟨.non,_,I.Dm (its':=[]) (ys:=[]) hH e rfl .nil (T3 _),rfl,q⟩
end
section
variable {prog:Program} {w:World} {A:Around} {E:Value→Shared→Prop} {s:Shared}
end
section
variable {X:Cx}
end
end L2
namespace Att
open PySem PySem.W PySem.Calls PyProof.Rows
theorem qj {P:Params} {h:Heap}:∀(ns:List Int) (vs:List Value),WellAll P h vs (ns.map WData.int)→IntsAre vs ns:=by
 intro ns
 induction ns with
 | nil =>
  intro vs w
  rw [Uc] at w
  cases w
  exact .nil
 | cons n ns ih =>
  intro vs w
  rw [Tt] at w
  cases w with
  | cons a b =>
   cases a
   exact .cons _ _ (ih _ b)
theorem DV {l:OpenLaw} {n:Nat} (hn:l.most=some n) {P:Params} {h:Heap} {args:List WData} {vals:List Value}
  (hpre:l.row.toRowW.claim.pre args=true) (hwl:WellAll P h vals args) :
  ∃a vs ns,vals=[Value.ref a]∧args=[WData.list (ns.map WData.int)]∧h.get? a=some { cls:=.type "list",data:=.seq vs.toArray }∧IntsAre vs ns∧ns.length≤n:=by
 have hsh:WShape.hasAll [] args [.list .int]=true:=(pre_splitW hpre).1
 have hc:l.pre.holds [] { args:=args }=true:=(pre_splitW hpre).2
 obtain ⟨d,r,rfl,h1,h2⟩:=hasAllW_cons hsh
 obtain rfl:=hasAllW_nil h2
 obtain ⟨xs,rfl,h3⟩:=hasW_list h1
 obtain ⟨ns,rfl⟩:=items_int h3
 have hlen:ns.length≤n:=by
  unfold OpenLaw.pre at hc
  have h4:(WTm.not (.lt (.lit (.int (n:Int))) (.len (.arg 0)))).holds [] { args:=[.list (ns.map .int)] }=true:=by
   have h4:=(holds_andW hc).1
   rw [hn] at h4
   exact h4
  have h5:=condW_of h4 (w_not (w_lt w_lit (w_len_list (w_arg rfl))))
  rw [Th] at h5
  refine Nat.le_of_not_lt λq=>?_
  have q':(n:Int) < ((ns.length:Nat):Int):=by omega
  first
   | (rw [decide_eq_true q'] at h5;exact absurd h5 (by decide))
   | (simp at h5;omega)
 cases hwl with
 | cons w1 w2 =>
  cases w2
  cases w1 with
  | list ho hall=>exact ⟨_,_,ns,rfl,rfl,ho,qj ns _ hall,hlen⟩
theorem DP (l:OpenLaw) (args:List WData):l.row.toRowW.claim.post args (.bool true) args=true :=
 postW_of (r:=l.row.toRowW) (X:=(true == true))
  (show WShape.has [] (.bool true) .bool=true by first | rfl | decide | simp [WShape.has,WShape.arms,WShape.armsAll])
  (show (WTm.eq .res (.lit (.bool true))).value [] { args:=args,res:=some (.bool true),after:=args }=some (.bool (true == true)) from w_eq_bool (w_res rfl) w_lit) rfl
theorem xV {l:OpenLaw} {n:Nat} {q:Program} {loose:List Str} {XP:(Str→Option Value)→Heap→Prop} {YP:World→Heap→Prop} {d:DefRec}
  (hn:l.most=some n) (hdf:d.params.defaults=[])
  (call:∀(w:World) (s₀ s₁:Shared) (mg mb:Str→Option Value) (fa:Addr) (o:Obj) (pm cd doc:Value) (a:Addr) (vs:List Value) (ns:List Int),
   Ground q loose [] XP w s₀ mg mb s₁.heap→YP w s₁.heap →
   s₁.heap.get? fa=some o→o.data=.func (docDef d.name d.params d.body d.scope pm cd doc)→s₁.heap.CodeRec cd d.name→mg d.name=some (.ref fa) →
   s₁.heap.get? a=some { cls:=.type "list",data:=.seq vs.toArray }→IntsAre vs ns→ns.length≤n→s₁.gens=#[] →
   codeAny (model l.prog w) callerA (.call (.ref fa) ⟨[.ref a],[]⟩) (λr s'=>r=.ok (.ret (.bool true))∧OldK s₁.heap s'.heap∧s'.os=s₁.os∧AllBare s'.gens) s₁) :
  WalkO q loose XP YP l.row.toRowW d [] (λf vs=>PySem.call f vs):=by
 intro w s₀ s₁ mg mb G Y fa o pm cd doc dV kV ho hd hcd hD hmg hg args vals as hpre hlay hrd hwl hlo
 obtain rfl:dV=.none:=Dflts.none hD hdf
 obtain rfl:kV=.none:=Dflts.noKw hD
 obtain ⟨a,vs,ns,rfl,rfl,hobj,hints,hlen⟩:=DV hn hpre hwl
 refine enter_call (codeAny_mono (call w s₀ s₁ mg mb fa o pm cd doc a vs ns G Y ho (fd_plain hd) hcd hmg hobj hints hlen hg) λr s' hq=>?_)
 obtain ⟨rfl,h2,h3,h4⟩:=hq
 exact ⟨.inl ⟨.bool true,.bool true,[],rfl,λ_=>rfl,.bool true,DP l _,λ_=>⟨List.Pairwise.nil,λ_ hm=>(nomatch hm)⟩⟩,h2,h3,h4⟩
section
variable {prog:Program} {w:World} {A:Around} {E:Value→Shared→Prop} {s:Shared} {K:Frag}
end
end Att
namespace L2
open PySem PySem.Spec PyProof.Rows
theorem vA:∀{vs:List Value} {ns:List Int},IntsAre vs ns→Vals (ns.map V.int) vs
 | _,_,.nil=>.nil
 | _,_,.cons n t h=>.cons ⟨t,rfl⟩ (vA h)
end L2
namespace L2
open PySem PySem.Spec PyProof.Rows
abbrev p_ {K:PySem.W.Frag} {h:Heap} (_:K.In h):PySem.W.Frag:=K
end L2
namespace L2
open PySem PySem.Spec PyProof.Rows
def inClass (s:Stmt) (j:Nat):Stmt:=match s with
 | .ClassDef _ _ _ body _ _ _ _ _ _ _=>body.getD j (.Pass ⟨0,0,0,0⟩)
 | _=>.Pass ⟨0,0,0,0⟩
def dA (s:Stmt):Arguments:=match s with
 | .FunctionDef _ a _ _ _ _ _ _ _ _=>a
 | _=>{ posonlyargs:=[],args:=[],vararg:=none,kwonlyargs:=[],kw_defaults:=[],kwarg:=none,defaults:=[] }
def cb (s:Stmt):List Stmt:=match s with
 | .FunctionDef _ _ b _ _ _ _ _ _ _=>b
 | _=>[]
def aj (s:Stmt):Scope:=match s with
 | .FunctionDef _ _ _ _ _ _ sc _ _ _=>sc
 | _=>{ kind:=.function,names:=[],isGenerator:=false,isCoroutine:=false }
abbrev qV:qW:=λ_ _ _ _ _ _=>False
abbrev E0:XK:=λ_ _ _=>False
theorem OQ {X:Cx}:Passes qV X E0:=λ_ _ _ _ _ _ _ h=>h.elim
structure cm (K:PySem.W.Frag) (x qual:Str) (st:Stmt) (f:Addr) (fd:FuncData):Prop where
 ex:∃(oc:Value) (od:Option Addr) (kV doc pm:Value) (an:Option Addr) (cdv ct:Value) (osl:Array (Option Value)),
  fd=PySem.W.fnOf x qual (dA st) (cb st) (aj st) .none kV doc pm an cdv ct∧K.lookup f=some ⟨oc,od,.func fd,osl⟩∧PySem.W.codeIn K cdv qual=true
 kp:PySem.W.keepIn K (.ref f)=true
section
variable {P:Program} {w:World} {K:PySem.W.Frag} {mg:Str→Option Value} {base:Heap}
theorem cm.ok {x qual:Str} {st:Stmt} {f:Addr} {fd:FuncData} {N ps:List Str} {k:Nat} {sp:Sp} (F:cm K x qual st f fd) (S:aw N ps (aj st)) (len:∀vs H Q E,sp vs H Q E→vs.length=ps.length)
  (hbody:∀(cdv:Value) (A:Around) (outer:List Env) (s:Shared) (H:Hp) (vs:List V) (Q:VK) (E:XK),bW k (A.deeper (envOfC qual (aj st) s.heap.objs.size f cdv))→sp vs H Q E →
   ∃t,uK (vR qV P w K mg base N qual (aj st) f cdv A outer s H E).L7 (cb st) t∧t { nx:=λ_ H'=>Q .non H',rt:=Q } (start N vs) H):aP P w K mg base qV (k + 1) f fd ps sp:=by
 obtain ⟨oc,od,kV,doc,pm,an,cdv,ct,osl,rfl,lk,hcd⟩:=F.ex
 refine EN lk hcd S len λA outer s H vs Q E hr hsp=>?_
 obtain ⟨t,h,q⟩:=hbody cdv A outer s H vs Q E hr hsp
 exact ⟨t,h.L7,q⟩
theorem cm.binds {x qual:Str} {st:Stmt} {f:Addr} {fd:FuncData} {ps:List Str} (F:cm K x qual st f fd)
  (h:∀(kV doc pm:Value) (an:Option Addr) (cdv ct:Value) (us:List Value),us.length=ps.length→bindArgs (PySem.W.fnOf x qual (dA st) (cb st) (aj st) .none kV doc pm an cdv ct) ⟨us,[]⟩=pure (ps.zip us)):Binds K fd ps []:=by
 obtain ⟨oc,od,kV,doc,pm,an,cdv,ct,osl,rfl,lk,hcd⟩:=F.ex
 exact .all (h kV doc pm an cdv ct)
theorem zT {x qual:Str} {st:Stmt} {f:Addr} {oc:Value} {od an:Option Addr} {osl:Array (Option Value)} {kV doc pm cdv ct:Value} (l:K.lookup f=some ⟨oc,od,.func (PySem.W.fnOf x qual (dA st) (cb st) (aj st) .none kV doc pm an cdv ct),osl⟩)
  (c:PySem.W.codeIn K cdv qual=true) (k:PySem.W.keepIn K (.ref f)=true):cm K x qual st f (PySem.W.fnOf x qual (dA st) (cb st) (aj st) .none kV doc pm an cdv ct):=⟨⟨oc,od,kV,doc,pm,an,cdv,ct,osl,rfl,l,c⟩,k⟩
end
theorem a8 {n:Nat} (h:n≤1000):n < sizeLine:=Ul h (by decide)
section
variable {X:Cx}
theorem pv (i:Nat) {x:Str} {pos:Pos} (hN:X.N[i]?=some x:=by rfl) (hv:vM X.env.scope x:=by first | exact Or.inl rfl | exact Or.inr (Or.inl rfl) | exact Or.inr (Or.inr rfl)) (hd:(x == ("__debug__":Str))=false:=by decide)
  (hcd:(x == ("__classdict__":Str))=false:=by decide):PE X (.Name x pos) (DY i):=Ay hN hv hd hcd
end
theorem E9 {c A B:Prop} [Decidable c] (h1:c→A) (h2:¬ c→B):if c then A else B:=by
 by_cases h:c
 ·rw [if_pos h]
  exact h1 h
 ·rw [if_neg h]
  exact h2 h
def bJ (H H':Hp):Prop:=∀b o,H b=some o→H' b=some o
theorem bJ.trans {H H1 H2:Hp} (a:bJ H H1) (b:bJ H1 H2):bJ H H2:=λc o h=>b c o (a c o h)
theorem bJ.free {H H':Hp} (e:bJ H H') {l:Addr} (h:H' l=Option.none):H l=Option.none:=by
 cases q:H l with
 | none=>rfl
 | some o =>
  rw [e l o q] at h
  cases h
theorem bJ.seq {K:PySem.W.Frag} {H H':Hp} {a:Addr} {xs:List V} (e:bJ H H') (h:dk K H a xs):dk K H' a xs:=by
 rcases h with (h | ⟨o,h⟩) | h
 ·exact .inl (.inl (e _ _ h))
 ·exact .inl (.inr ⟨o,e _ _ h⟩)
 ·exact .inr h
end L2
namespace Ov
theorem ya {a b:Int} (h:b≠0):Int.gcd b (a % b)=Int.gcd a b:=by
 have e:a=b * (a / b) + a % b:=(Int.mul_ediv_add_emod a b).symm
 have d1:((Int.gcd b (a % b):Nat):Int) ∣ a:=by
  rw [e]
  exact Int.dvd_add (Int.dvd_trans (Int.gcd_dvd_left ..) (Int.dvd_mul_right ..)) (by rw [← e];exact Int.gcd_dvd_right ..)
 have d2:((Int.gcd a b:Nat):Int) ∣ a % b:=by
  have e2:a % b=a - b * (a / b):=by omega
  rw [e2]
  exact Int.dvd_sub (Int.gcd_dvd_left ..) (Int.dvd_trans (Int.gcd_dvd_right ..) (Int.dvd_mul_right ..))
 exact Nat.dvd_antisymm (Int.dvd_gcd d1 (Int.gcd_dvd_left ..)) (Int.dvd_gcd (Int.gcd_dvd_right ..) d2)
theorem BC {a:Int} (h:0≤a):((Int.gcd a 0:Nat):Int)=a:=by
 rw [Int.gcd_zero_right];omega
theorem HM (a b:Int):Int.gcd (if a < 0 then -a else a) (if b < 0 then -b else b)=Int.gcd a b:=by
 split <;> split <;> simp [Int.gcd_neg,Int.neg_gcd]
theorem ES (a b:Int):Int.gcd (if a < 0 then -a else a) b=Int.gcd a b:=by
 split <;> simp [Int.gcd_neg,Int.neg_gcd]
theorem BD {t b:Int} (h:b≠0):0 < ((Int.gcd t b:Nat):Int):=by
 have:0 < Int.gcd t b:=Int.gcd_pos_of_ne_zero_right t h
 omega
theorem LB {t b:Int} (h:b≠0):Int.gcd t b≤b.natAbs:=Nat.le_of_dvd (by omega) (Int.ofNat_dvd.mp (by rw [Int.dvd_natAbs];exact Int.gcd_dvd_right ..))
theorem we {t b:Int} (h:0 < b):t.fdiv ((Int.gcd t b:Nat):Int)=(Rat.divInt t b).num:=by
 rw [Rat.num_divInt,Int.sign_eq_one_of_pos h,Int.one_mul,Int.gcd_comm b t,Int.fdiv_eq_ediv_of_nonneg _ (Int.natCast_nonneg _)]
theorem den_pos {t b:Int} (h:0 < b):b.fdiv ((Int.gcd t b:Nat):Int)=((Rat.divInt t b).den:Int):=by
 rw [Rat.den_divInt,if_neg (by omega),Int.gcd_comm b t,Int.fdiv_eq_ediv_of_nonneg _ (Int.natCast_nonneg _)]
 rw [Int.natCast_ediv]
 congr 1
 omega
theorem BR {t b:Int} (h:b < 0):t.fdiv (-((Int.gcd t b:Nat):Int))=(Rat.divInt t b).num:=by
 have e:t.fdiv (-((Int.gcd t b:Nat):Int))=(-t).fdiv ((Int.gcd t b:Nat):Int):=by
  have:=Int.neg_fdiv_neg (a:=-t) (b:=((Int.gcd t b:Nat):Int))
  rw [← this];simp
 rw [e,Rat.num_divInt,Int.sign_eq_neg_one_of_neg h,Int.gcd_comm b t,Int.fdiv_eq_ediv_of_nonneg _ (Int.natCast_nonneg _)]
 congr 1
 omega
theorem HE {t b:Int} (h:b < 0):b.fdiv (-((Int.gcd t b:Nat):Int))=((Rat.divInt t b).den:Int):=by
 have e:b.fdiv (-((Int.gcd t b:Nat):Int))=(-b).fdiv ((Int.gcd t b:Nat):Int):=by
  have:=Int.neg_fdiv_neg (a:=-b) (b:=((Int.gcd t b:Nat):Int))
  rw [← this];simp
 rw [e,Rat.den_divInt,if_neg (by omega),Int.gcd_comm b t,Int.fdiv_eq_ediv_of_nonneg _ (Int.natCast_nonneg _)]
 rw [Int.natCast_ediv]
 congr 1
 omega
theorem BQ (t b:Int):(Rat.divInt t b).num.natAbs≤t.natAbs:=by
 rcases Int.lt_trichotomy b 0 with h | h | h
 ·rw [← BR h]
  exact Int.natAbs_fdiv_le_natAbs ..
 ·subst h;simp
 ·rw [← we h,Int.fdiv_eq_ediv_of_nonneg _ (Int.natCast_nonneg _)]
  exact Int.natAbs_ediv_le_natAbs ..
theorem vS {t b:Int} (h:b≠0):(((Rat.divInt t b).den:Int)).natAbs≤b.natAbs:=by
 rw [Rat.den_divInt,if_neg h]
 exact Nat.div_le_self ..
theorem lR (p:Rat):Rat.divInt p.num p.den=p:=Rat.num_divInt_den p
theorem fE (p:Rat):(p.den:Int)≠0:=by have:=p.den_pos;omega
theorem d6 (p:Rat):(0:Int) < p.den:=by have:=p.den_pos;omega
theorem add_eq (p q:Rat):Rat.divInt (p.num * q.den + q.num * p.den) (p.den * q.den)=p + q:=by
 rw [← Rat.divInt_add_divInt _ _ (fE p) (fE q),lR,lR]
theorem sub_eq (p q:Rat):Rat.divInt (p.num * q.den - q.num * p.den) (p.den * q.den)=p - q:=by
 rw [← Rat.divInt_sub_divInt _ _ (fE p) (fE q),lR,lR]
theorem mul_eq (p:Rat) (m:Int):Rat.divInt (p.num * m) p.den=p * m:=by
 have:=Rat.divInt_mul_divInt p.num m (d₁:=p.den) (d₂:=1)
 rw [lR,Int.mul_one] at this
 rw [← this,Rat.divInt_eq_div]
 congr 1
 grind
theorem cast_eq (p:Rat):(p.num:Rat)=p * (p.den:Int):=by
 have h:((p.den:Int):Rat)≠0:=by
  intro e
  exact fE p (by exact_mod_cast e)
 have e:=lR p
 rw [Rat.divInt_eq_div] at e
 grind
theorem eg (p:Rat):((p.den:Int):Rat)≠0:=λe=>fE p (by exact_mod_cast e)
theorem NS (b p m:Rat) (v:Int):Rat.divInt (p.num * (m.den * b.den) + v * (m.num * b.den - b.num * m.den) * p.den) (p.den * (m.den * b.den))=p + (m - b) * v:=by
 have h:=eg p
 have g:=eg b
 have k:=eg m
 simp only [Rat.divInt_eq_div,Rat.intCast_add,Rat.intCast_sub,Rat.intCast_mul,cast_eq p,cast_eq b,cast_eq m]
 generalize ((p.den:Int):Rat)=d at h ⊢
 generalize ((b.den:Int):Rat)=e at g ⊢
 generalize ((m.den:Int):Rat)=f at k ⊢
 generalize (v:Rat)=v
 grind
theorem pT {n:Int} (h:n≠0):(n:Rat)≠0:=λe=>h (by exact_mod_cast e)
theorem ME (g:Rat) (n:Int) (h:n≠0):Rat.divInt g.num (g.den * n)=g / n:=by
 have k:=eg g
 have l:=pT h
 simp only [Rat.divInt_eq_div,Rat.intCast_mul,cast_eq g]
 generalize ((g.den:Int):Rat)=d at k ⊢
 generalize (n:Rat)=n at l ⊢
 grind
end Ov
namespace Ov
open PySem PySem.Spec PyProof.Rows L2
structure Bd (n:Nat) (x:Int):Prop where
 lt:x.natAbs < 2 ^ n
theorem Bd.bits {n:Nat} {x:Int} (h:Bd n x):Builtin.Int.intBits x≤n:=intBits_le_iff.mpr h.lt
theorem Bd.of {n:Nat} {x:Int} (h:Builtin.Int.intBits x≤n):Bd n x:=⟨intBits_le_iff.mp h⟩
theorem Bd.mono {m n:Nat} {x:Int} (h:Bd m x) (hmn:m≤n):Bd n x:=.of (TK h.bits hmn)
theorem Bd.neg {n:Nat} {x:Int} (h:Bd n x):Bd n (-x):=.of (intBits_neg_le h.bits)
theorem Bd.add {m n k:Nat} {x y:Int} (h:Bd m x) (g:Bd n y) (hk:max m n + 1≤k:=by decide):Bd k (x + y):=(Bd.of (intBits_add_le h.bits g.bits)).mono hk
theorem Bd.sub {m n k:Nat} {x y:Int} (h:Bd m x) (g:Bd n y) (hk:max m n + 1≤k:=by decide):Bd k (x - y):=(Bd.of (intBits_sub_le h.bits g.bits)).mono hk
theorem Bd.mul {m n k:Nat} {x y:Int} (h:Bd m x) (g:Bd n y) (hk:m + n≤k:=by decide):Bd k (x * y):=(Bd.of (intBits_mul_le h.bits g.bits)).mono hk
theorem Bd.le {n:Nat} {x y:Int} (g:Bd n y) (h:x.natAbs≤y.natAbs):Bd n x:=⟨Ul h g.lt⟩
theorem Bd.small {x:Int} (h1:-(2 ^ 64) < x) (h2:x < 2 ^ 64):Bd 64 x:=.of (intBits_le_64 h1 h2)
theorem Bd.log {n:Nat} {x:Int} (h:Bd n x) (hn:n≤9000) (h0:x≠0):x.natAbs.log2 < 9000 :=
 TF ((Nat.log2_lt (by omega)).mpr h.lt) hn
section
variable {X:Cx}
def CM (i j:Int):Prop:=∃m n,Bd m i∧Bd n j∧m + n≤134217728
theorem CM.of {m n:Nat} {i j:Int} (h:Bd m i) (g:Bd n j) (hk:m + n≤134217728:=by decide):CM i j:=⟨m,n,h,g,hk⟩
theorem cV:fT X (binaryOp .Mult) (rI CM λi j=>.int (i * j)):=Qg λ_ _ _ _ _ _ _ hc q=>by
 obtain ⟨m,n,h,g,hk⟩:=hc
 exact mul_int q (IntMulOk.of_le h.bits g.bits hk)
def CQ (_ j:Int):Prop:=j≠0∧Bd 9000 j
theorem gK:fT X (binaryOp .FloorDiv) (rI CQ λi j=>.int (i.fdiv j)):=Qg λ_ _ _ _ _ _ _ hc q =>
 floordiv_int hc.1 q (.inl (PyProof.noPylong_of_log2 (hc.2.log (Tr _) hc.1)))
def Td (f:Bool→Bool):R2:=λx y H Q=>∃(p q:Addr) (a b c d:Int),x=.ref p∧y=.ref q∧H p=some (.tup [.int a,.int b])∧H q=some (.tup [.int c,.int d])∧Q (.bl (f (decide (a=c∧b=d)))) H
def PD (t u:TS):TS:=λD σ H=>∃M:L2.St→Hp→Prop,t { D with nx:=M } σ H∧∀σ' H',M σ' H'→u D σ' H'
theorem IM {st:Stmt} {rest:List Stmt} {t u:TS} (h1:PS X st t) (h2:uK X rest u):uK X (st :: rest) (PD t u):=by
 intro pins s σ H D I h
 obtain ⟨M,h,k⟩:=h
 refine wpAny_execs_cons (cE (h1 pins s σ H { D with nx:=M } I h) λf s1 q=>?_)
 cases f with
 | next =>
  obtain ⟨σ',H',I',q⟩:=q
  exact h2 pins s1 σ' H' D I' (k _ _ q)
 | ret v=>exact q
 | brk=>exact q
 | cont=>exact q
end
section
variable {X:Cx}
def KH:R2:=λx y H Q=>∃p xs i v,x=.ref p∧y=.int i∧H p=some (.lst xs)∧dt xs i=some v∧Q v H
def Pe:R2:=λx y H Q=>∃p xs i v,x=.ref p∧y=.int i∧H p=some (.tup xs)∧dt xs i=some v∧Q v H
theorem gI:p9 X KH:=λvalue slice pins s σ H x y v u Q I rx ry ⟨p,xs,i,z,e1,e2,h,e3,q⟩ hs =>
 vX value slice pins s σ H x y v u Q I rx ry ⟨p,xs,i,z,e1,e2,dk.of h,e3,q⟩ hs
end
theorem d5 {α:Type} (x:α) (xs:List α):dt (x :: xs) 0=some x:=bx (j:=0) rfl
theorem fz {α:Type} (x y:α) (xs:List α):dt (x :: y :: xs) 1=some y:=bx (j:=1) rfl
theorem jW {α:Type} (x y z:α) (xs:List α):dt (x :: y :: z :: xs) 2=some z:=bx (j:=2) rfl
theorem Ez {α:Type} (x y z u:α) (xs:List α):dt (x :: y :: z :: u :: xs) 3=some u:=bx (j:=3) rfl
theorem Jr (i j:Int):Gx (.int i) (.int j)=true:=rfl
theorem Jq (i j:Bool):Gx (.bl i) (.bl j)=true:=rfl
theorem Js (i j:Str):Gx (.str i) (.str j)=true:=rfl
def tI (P:Program) (w:World) (K:PySem.W.Frag) (mg:Str→Option Value) (base:Heap) (k:Nat) (x:Str) (ps:List Str) (sp:Sp):Prop :=
 ∃f fd,aP P w K mg base qV k f fd ps sp∧Binds K fd ps []∧PySem.W.keepIn K (.ref f)=true∧mg x=some (.ref f)
theorem Ms {X:Cx} {k k':Nat} {x:Str} {ps:List Str} {sp:Sp} {p pos:Pos} {e:Expr} {es:List Expr} {t:TA} (C:tI X.prog X.w X.K X.mg X.base k x ps sp) (hr:bW k' X.A) (hk:k≤k') (hg:Gl X x) (ha:PA X (e :: es) t)
  (hdb:(x == ("__debug__":Str))=false:=by decide) (he:starEach (e :: es) X.env=(false,eval e X.env) :: starEach es X.env:=by rfl) (hpl:(backTo pos (starEach es X.env)).any (·.1)=false:=by rfl) :
  PE X (.Call (.Name x p) (e :: es) [] pos) (tD sp [] E0 t):=by
 obtain ⟨f,fd,F,b,kp,m⟩:=C
 exact BV F (hr.mono hk) hg m kp b .nil OQ ha hdb he hpl
theorem d7 {N P:List Str} {sc:Scope} (a:sc.kind=.function:=by rfl) (b:sc.isCoroutine=false:=by rfl) (c:sc.isGenerator=false:=by rfl) (d:N.Nodup:=by decide +kernel) (e:N.take P.length=P:=by rfl) (f:∀x∈P,sc.names.lookup x=some .local∨sc.names.lookup x=some .cell:=by decide +kernel) (g:∀y∈sc.names,y.2≠.free:=by decide +kernel):aw N P sc:=⟨a,b,c,d,e,f,g⟩
def Def (K:PySem.W.Frag) (mg:Str→Option Value) (x:Str) (st:Stmt):Prop:=∃f fd,cm K x x st f fd∧mg x=some (.ref f)
theorem Lr {K:PySem.W.Frag} {h:Heap} {mg:Str→Option Value} {x:Str} {st:Stmt} (X:K.In h) (G:h.Ns mainGlobals mg) {f:Addr} {od an:Option Addr} {sl:Array (Option Value)} {oc kV dc pm cd ct:Value}
  (a:PySem.W.nsIn K mainGlobals x=some (some (.ref f))) (l:K.lookup f=some ⟨oc,od,.func (PySem.W.fnOf x x (dA st) (cb st) (aj st) .none kV dc pm an cd ct),sl⟩) (c:PySem.W.codeIn K cd x=true) (k:PySem.W.keepIn K (.ref f)=true) :
  Def K mg x st:=⟨f,_,zT l c k,PySem.W.mg_of X G a⟩
theorem Def.EB {P:Program} {w:World} {K:PySem.W.Frag} {mg:Str→Option Value} {base:Heap} {x:Str} {st:Stmt} {k:Nat} {ps:List Str} {sp:Sp} (D:Def K mg x st)
  (h:∀f fd,cm K x x st f fd→aP P w K mg base qV k f fd ps sp)
  (hb:∀(kV doc pm:Value) (an:Option Addr) (cdv ct:Value) (us:List Value),us.length=ps.length→bindArgs (PySem.W.fnOf x x (dA st) (cb st) (aj st) .none kV doc pm an cdv ct) ⟨us,[]⟩=pure (ps.zip us)) :
  tI P w K mg base k x ps sp:=by
 obtain ⟨f,fd,F,m⟩:=D
 exact ⟨f,fd,h f fd F,F.binds hb,F.kp,m⟩
theorem LQ {K:PySem.W.Frag} {mg:Str→Option Value} {st:Stmt} {fa:Addr} {p:Str} (D:Def K mg "law" st) (hfa:mg "law"=some (.ref fa))
  (hb:∀(kV doc pm:Value) (an:Option Addr) (cdv ct:Value) (u:Value),bindArgs (PySem.W.fnOf "law" "law" (dA st) (cb st) (aj st) .none kV doc pm an cdv ct) ⟨[u],[]⟩=pure [(p,u)]) :
  ∃fd,cm K "law" "law" st fa fd∧∀(s:Shared) (u:Value),BindsTo s fd ⟨[u],[]⟩ [(p,u)]:=by
 obtain ⟨f,fd,F,m⟩:=D
 have e:=m.symm.trans hfa
 cases e
 obtain ⟨oc,od,kV,doc,pm,an,cdv,ct,osl,rfl,lk,hcd⟩:=F.ex
 exact ⟨_,F,λs u=>.of_eq (hb kV doc pm an cdv ct u)⟩
structure D6 (mg:Str→Option Value):Prop where
 abs:mg "abs"=none
 len:mg "len"=none
 isinstance:mg "isinstance"=none
 range:mg "range"=none
 int:mg "int"=none
 bool:mg "bool"=none
 tuple:mg "tuple"=none
 list:mg "list"=none
 sorted:mg "sorted"=none
 all:mg "all"=none
theorem _root_.L2.bJ.tup {K:PySem.W.Frag} {H H':Hp} {a:Addr} {xs:List V} (e:bJ H H') (h:g7 K H a xs):g7 K H' a xs:=by
 rcases h with (h | ⟨o,h⟩) | h
 ·exact .inl (.inl (e _ _ h))
 ·exact .inl (.inr ⟨o,e _ _ h⟩)
 ·exact .inr h
theorem _root_.L2.bJ.new {H:Hp} {p:Addr} (h:H p=none) (o:HO):bJ H (upd H p o):=λb u q=>by rw [aW (cA q h)];exact q
theorem _root_.L2.bJ.Nx {H H':Hp} {p:Addr} (h:H p=none) (e:bJ H H') (o:HO):bJ H (upd H' p o):=λb u q=>by rw [aW (cA q h)];exact e b u q
def Ni (K:PySem.W.Frag) (H:Hp) (a:Addr) (q:Rat):Prop:=g7 K H a [.int q.num,.int q.den]
structure Sz (n:Nat) (q:Rat):Prop where
 num:Bd n q.num
 den:Bd n q.den
theorem Sz.mono {m n:Nat} {q:Rat} (h:Sz m q) (k:m≤n):Sz n q:=⟨h.num.mono k,h.den.mono k⟩
theorem I8 (x y:Rat):(x.num=y.num∧(x.den:Int)=(y.den:Int))=(x=y):=propext
 ⟨λh=>Rat.ext h.1 (by have:=h.2;omega),λh=>by subst h;exact ⟨rfl,rfl⟩⟩
theorem ku (c:Str→NameKind→Bool):∀(names:List (Str × NameKind)) (y:Str),
  (names.map λ(x:Str × NameKind)=>if c x.1 x.2 then (x.1,NameKind.cell) else (x.1,x.2)).lookup y=(names.lookup y).map λk=>if c y k then NameKind.cell else k
 | [],_=>rfl
 | (n,k) :: r,y=>by
  have ih:=ku c r y
  cases hy:y == n with
  | true =>
   have e:y=n:=by simpa using hy
   subst e
   by_cases h:c y k=true <;> simp [T7,h]
  | false =>
   by_cases h:c n k=true <;> simp [T7,h,hy,ih]
theorem k4 (sc:Scope) (env:Env) (y:Str):(relabel sc env).names.lookup y=(sc.names.lookup y).map λk=>if (k == .free && env.scope.kind == .function && env.kindOf y == some .cell) then NameKind.cell else k:=by
 have h:=ku (λn k=>k == .free && env.scope.kind == .function && env.kindOf n == some .cell) sc.names y
 exact h
theorem mq {env:Env}:∀(names:List (Str × NameKind)) (acc:List (Str × Addr)),(∀y∈names,y.2=.free→∃c,env.cells.lookup y.1=some c)→(∀y c,acc.lookup y=some c→env.cells.lookup y=some c) →
  ∃cl,(forIn names acc λ(x:Str × NameKind) (r:List (Str × Addr))=>match x with
   | (name,kind)=>if (kind == NameKind.free)=true then (do let c ← cellOf env name;pure (ForInStep.yield ((name,c) :: r))) else (pure (ForInStep.yield r):Sem (ForInStep (List (Str × Addr)))))=(pure cl:Sem (List (Str × Addr))) ∧
   (∀y c,cl.lookup y=some c→env.cells.lookup y=some c)∧(∀y c,acc.lookup y=some c→∃c,cl.lookup y=some c)∧∀y∈names,y.2=.free→∃c,cl.lookup y.1=some c
 | [],acc,_,ha=>⟨acc,rfl,ha,λy c e=>⟨c,e⟩,λy hy=>by cases hy⟩
 | (n,k) :: r,acc,hn,ha=>by
  by_cases hk:k=.free
  ·subst hk
   obtain ⟨c,hc⟩:=hn (n,.free) T6 rfl
   obtain ⟨cl,e,h1,h2,h3⟩:=mq r ((n,c) :: acc) (λy hy=>hn y (TQ _ hy)) (λy d e=>by
    rw [T7] at e
    cases hy:y == n with
    | true =>
     rw [hy] at e
     have e1:y=n:=by simpa using hy
     subst e1
     rw [hc]
     exact e
    | false=>rw [hy] at e;exact ha y d e)
   have self:∃d,cl.lookup n=some d:=h2 n c (by simp [T7])
   refine ⟨cl,?_,h1,λy d q=>?_,λy hy hf=>?_⟩
   ·rw [VQ]
    have ec:cellOf env n=pure c:=by unfold cellOf;rw [hc]
    simp only [beq_self_eq_true,if_true,ec,pure_bind]
    exact e
   ·by_cases hy:y=n
    ·subst hy;exact self
    ·exact h2 y d (by rw [List.lookup_cons];have:(y == n)=false:=by simpa using hy
                      rw [this];exact q)
   ·rcases TC.mp hy with rfl | hy
    ·exact self
    ·exact h3 y hy hf
  ·obtain ⟨cl,e,h1,h2,h3⟩:=mq r acc (λy hy=>hn y (TQ _ hy)) ha
   refine ⟨cl,?_,h1,h2,λy hy hf=>?_⟩
   ·rw [VQ]
    have hb:(k == NameKind.free)=false:=by simpa using hk
    simp only [hb,TJ,if_false,pure_bind]
    exact e
   ·rcases TC.mp hy with rfl | hy
    ·exact absurd hf hk
    ·exact h3 y hy hf
theorem jw {sc:Scope} {env:Env} (h:∀y∈sc.names,y.2=.free→∃c,env.cells.lookup y.1=some c) :
  ∃cl,closureFor sc env=pure cl∧(∀y c,cl.lookup y=some c→env.cells.lookup y=some c)∧∀y∈sc.names,y.2=.free→∃c,cl.lookup y.1=some c:=by
 obtain ⟨cl,e,h1,_,h3⟩:=mq sc.names [] h (λy c z=>by cases z)
 refine ⟨cl,?_,h1,h3⟩
 unfold closureFor
 have e':=congrArg (λm=>m >>= λr=>(pure r:Sem (List (Str × Addr)))) e
 simp only [pure_bind] at e'
 exact e'
abbrev cJ (sc osc:Scope) (N:List Str) (x:Str) (ks:List (Str × Nat)):Prop :=
 sc.kind=.function∧(∀y∈sc.names,y.2≠.cell)∧sc.names.lookup x=some .local∧(∀y∈sc.names,y.2=.local→sc.names.lookup y.1=some .local) ∧
 (∀y∈sc.names,y.2=.free→osc.names.lookup y.1=some .cell)∧(∀p∈ks,N[p.2]?=some p.1∧sc.names.lookup p.1=some .free)∧(x :: ks.map (·.1)).Nodup
def f7 (X:Cx) (sc:Scope) (cl:List (Str × Addr)) (C:Addr) (x:Str) (ks:List (Str × Nat)) (s₀:Shared) (H₀:Hp) (fp:List Addr) (pins:List (Addr × Obj)):Cx :=
 { X with N:=x :: ks.map (·.1),s₀:=s₀,H₀:=H₀,env:=compEnvC sc cl C X.env,outer:=X.stack,ex:=fp,fn:=λ_=>false,pn:=X.pn ++ pins,xe:=λ_ _=>False }
def eI (ks:List (Str × Nat)) (σ:L2.St):L2.St:=ks.map λp=>(σ[p.2]?).getD none
section
variable {X:Cx} {pins:List (Addr × Obj)} {σ:L2.St} {H:Hp} {s:Shared} {sc:Scope} {cl:List (Str × Addr)} {x:Str} {ks:List (Str × Nat)} {fp:List Addr}
theorem get_map {α β:Type} (f:α→β) (l:List α) (i:Nat):(l.map f)[i]?=(l[i]?).map f:=Tq
theorem ye (I:Inv X pins σ H s) (ok:cJ sc X.env.scope X.N x ks) (h1:∀y c,cl.lookup y=some c→X.env.cells.lookup y=some c) (h2:∀y∈sc.names,y.2=.free→∃c,cl.lookup y.1=some c)
  (hfp:∀b∈fp,lU X pins H b∧∃o,s.heap.get? b=some o) {h4:Heap} {m:Str→Option Value} {t':Nat} (hn:h4.Ns s.heap.objs.size m) (kp:∀b o,s.heap.get? b=some o→h4.get? b=some o) :
  Inv (f7 X sc cl s.heap.objs.size x ks s H fp pins) [] (none :: eI ks σ) H { s with heap:=h4,toks:=t' }:=by
 obtain ⟨kd,nc,lx,ll,fr,kk,nd⟩:=ok
 have fresh:H s.heap.objs.size=none:=I.hok.fresh (Tr _)
 have lt:∀b o,s.heap.get? b=some o→b≠s.heap.objs.size:=λb o e=>TV (Heap.lt_size e)
 have cellLt:∀y c,X.env.cells.lookup y=some c→c≠s.heap.objs.size:=λy c e=>by
  obtain ⟨v,o,ho,_⟩:=I.cell y c e
  exact lt c o ho
 have sub:∀b∈j7 X.stack,b=X.env.locals∨b∈X.fs:=λb hb=>TC.mp (I.pK b hb)
 have kof:∀y,(compEnvC sc cl s.heap.objs.size X.env).kindOf y=(relabel sc X.env).names.lookup y:=λy=>rfl
 have ok':(f7 X sc cl s.heap.objs.size x ks s H fp pins).Ok:={
  mod:=I.ok.mod
  kind:=kd
  glob:=I.ok.glob
  blt:=I.ok.blt
  above:=Tr _
  inj:=λy z c e1 e2=>I.ok.inj y z c (h1 y c e1) (h1 z c e2)
  has:=λy hy=>by
   rw [show (f7 X sc cl s.heap.objs.size x ks s H fp pins).env.kindOf y=_ from kof y,k4] at hy
   cases e:sc.names.lookup y with
   | none=>rw [e] at hy;rcases hy with z | z <;> cases z
   | some k =>
    have hm:(y,k)∈sc.names:=by
     have:=Vn.mp e
     obtain ⟨l1,l2,q,_⟩:=this
     rw [q]
     simp
    by_cases hk:k=.free
    ·subst hk;exact h2 _ hm rfl
    ·have hb:(k == NameKind.free)=false:=by simpa using hk
     rw [e] at hy
     simp only [U9,hb,Bool.false_and,TJ,if_false] at hy
     rcases hy with z | z
     ·exact absurd (Option.some.inj z) (nc _ hm)
     ·exact absurd (Option.some.inj z) hk
  cab:=λ_ _ z=>by cases z
  hd:=λz=>I.ok.hd z
  frames:=I.ok.frames
  stk:=.inl rfl
  exf:=λb hb=>⟨lt b _ (hfp b hb).2.choose_spec,λy c e=>(hfp b hb).1.2.2.2.2.1 y c (h1 y c e)⟩
  bs:=λb o e=>I.bs b o e
  bsz:=TK I.ok.bsz I.sz
  noex:=λb o e hb=>by
   rcases (hfp b hb).1.2.2.2.1 with z | z
   ·exact I.ok.noex b o e z
   ·exact absurd (TF (Heap.lt_size e) (TK I.ok.bsz z)) (Us _)
  exfs:=λb hb z=>by
   rcases sub b z with e | e
   ·exact (hfp b hb).1.2.1 e
   ·exact (hfp b hb).1.2.2.1 e
  oO:=I.stack
  frf:=I.xB }
 obtain ⟨mX,hnX,hlX⟩:=I.loc
 refine ⟨ok',rfl,I.bare,Un.kept kp,⟨m,hn,λi y v e1 e2 e3=>?_⟩,λy c e=>?_,fresh,λy c e=>I.freeC y c (h1 y c e),λp hp=>?_,I.hok.kept kp,by simp [f7,eI]⟩
 ·cases i with
  | zero =>
   rw [UT] at e2
   cases e2
  | succ i =>
   have e1':(ks.map (·.1))[i]?=some y:=by simpa [f7] using e1
   rw [T'] at e2
   unfold eI at e2
   rw [Tq] at e1' e2
   cases ep:ks[i]? with
   | none=>rw [ep] at e1';cases e1'
   | some p =>
    rw [ep] at e1' e2
    have ey:p.1=y:=Option.some.inj e1'
    have ev:(σ[p.2]?).getD none=some v:=Option.some.inj e2
    obtain ⟨kN,kf⟩:=kk p (To ep)
    have es:σ[p.2]?=some (some v):=by
     cases q:σ[p.2]? with
     | none=>rw [q] at ev;cases ev
     | some w=>rw [q] at ev;exact congrArg some ev
    have hm:(p.1,NameKind.free)∈sc.names:=by
     obtain ⟨l1,l2,q,_⟩:=Vn.mp kf
     rw [q]
     simp
    have oc:X.env.scope.names.lookup p.1=some .cell:=fr _ hm rfl
    obtain ⟨u,ru,lu⟩:=hlX p.2 p.1 v kN es (.inr (.inl oc))
    refine ⟨u,ru,.inr ⟨.inl ?_,?_⟩⟩
    ·rw [show (f7 X sc cl s.heap.objs.size x ks s H fp pins).env.kindOf y=_ from kof y,k4,← ey,kf]
     have k1:X.env.kindOf p.1=some .cell:=oc
     simp [I.ok.kind,k1]
    ·obtain ⟨c,hc⟩:=h2 _ hm rfl
     have hc:cl.lookup p.1=some c:=hc
     rcases lu with ⟨z,_⟩ | ⟨_,c',hc',z⟩
     ·have z':X.env.scope.names.lookup p.1=some .local:=z
      rw [oc] at z';cases z'
     ·have:=h1 _ _ hc
      rw [hc'] at this
      cases this
      obtain ⟨o,ho,hd⟩:=z
      exact ⟨_,by rw [← ey];exact hc,o,kp _ _ ho,hd⟩
 ·obtain ⟨v,o,ho,hd⟩:=I.cell y c (h1 y c e)
  exact ⟨v,o,kp _ _ ho,hd⟩
 ·rw [Uj] at hp
  obtain ⟨a1,a2,a3,a4,a5⟩:=I.pin p hp
  refine ⟨kp _ _ a1,a2,lt _ _ a1,λz=>?_,a5⟩
  rcases sub p.1 z with e | e
  ·exact a3 e
  ·exact a4 e
end
def G7 (X:Cx) (ifs:List Expr) (t:TT):Prop :=
 ∀(pins:List (Addr × Obj)) (s:Shared) (σ:L2.St) (H:Hp) (Q:Bool→Hp→Prop),Inv X pins σ H s→t σ H Q →
  wpAny (model X.prog X.w) X.A (forIn ifs true λc r=>if r=true then do let ok ← isTrue c X.env (eval c X.env);pure (ForInStep.yield ok) else pure (ForInStep.yield r)) (TP X pins σ Q) X.xe s
theorem wK {X:Cx}:G7 X [] (λ_ H Q=>Q true H):=λpins s σ H Q I h=>by rw [List.forIn_nil];exact wpAny_pure ⟨H,I,h⟩
theorem wL {X:Cx} {c:Expr} {t:TT} (h:PT X c t):G7 X [c] t:=λpins s σ H Q I q=>wpAny_tests_one (h pins s σ H Q I q)
section
variable {prog:Program} {w:World} {A:Around} {R:Result→Shared→Prop} {s:Shared}
theorem Dl {elt iter:Expr} {ifs:List Expr} {x:Str} {px:Pos} {sc:Scope} {pos:Pos} {it acc:Value} {env:Env} (I:Nat→Shared→Prop)
  (turn:∀n s,I n s→wpAny (model prog w) A (pyNext it) (λr s₁=>match r with
   | none=>R (.ok .next) s₁
   | some v=>wpAny (model prog w) A (letOwnedTupleGo (.Name x px) it v) (λ_ s₂=>wpAny (model prog w) A (assign (.Name x px) env v) (λ_ s₃=>wpAny (model prog w) A (forIn ifs true λc r=>if r=true then do let ok ← isTrue c env (eval c env);pure (ForInStep.yield ok) else pure (ForInStep.yield r)) (λok s₃=>if ok=true then wpAny (model prog w) A (eval elt env) (λy s₄ =>
     wpAny (model prog w) A (call (.builtin "list.append") [acc,y]) (λ_ s₅=>∃m,m < n∧I m s₅) (λ_ _=>False) s₄) (λ_ _=>False) s₃ else ∃m,m < n∧I m s₃) (λ_ _=>False) s₃) (λ_ _=>False) s₂) (λ_ _=>False) s₁) (λ_ _=>False) s)
  (n:Nat) (h:I n s):codeAny (model prog w) A (.compLoop (.ListComp elt [⟨.Name x px,iter,ifs,0⟩] sc pos) 0 it acc env) R s:=by
 refine codeAny_loop rfl I (λn s hI=>?_) n h
 show wpAny _ _ ((compTurn (.ListComp elt [⟨.Name x px,iter,ifs,0⟩] sc pos) 0 it acc env).onRaise (λx=>do noteFrame x env;theTreesLotGoes x)) _ _ s
 refine wpAny_noted ?_
 rw [compTurn_list]
 have no:∀(e:Value) (s':Shared),False→notedBy (model prog w) A env (λe s'=>R (.error e) s') e s':=λ_ _ z=>z.elim
 refine wpAny_bind (wpAny_standAt (wpAny_bind (wpAny_mono (turn n s hI) (λr s₁ h₁=>?_) no)))
 cases r with
 | none=>exact wpAny_pure h₁
 | some v =>
  refine wpAny_bind (wpAny_mono h₁ (λ_ s₂ h₂=>?_) no)
  refine wpAny_bind (wpAny_mono h₂ (λ_ s₃ h₃=>wpAny_bind (wpAny_mono h₃ (λok s₃' h₃'=>?_) no)) no)
  cases ok with
  | false=>exact wpAny_pure ⟨rfl,h₃'⟩
  | true =>
   exact wpAny_bind (wpAny_bind (wpAny_mono h₃' (λy s₄ h₄=>wpAny_bind (wpAny_mono h₄ (λ_ s₅ h₅=>wpAny_pure (wpAny_pure ⟨rfl,h₅⟩)) no)) no))
end
def Jy (wi:TI) (ks:List (Str × Nat)) (tc:TT) (te:TE):TE:=λσ H Q=>wi σ H λJ H1=>∀D,H1 D=none→∃W:Nat→Nat→Hp→Prop,(∃m,W 0 m (upd H1 D (.lst []))) ∧
 ∀i m H2,W i m H2→(J.stop i H2∧Q (.ref D) H2)∨(J.go i H2∧∀v H3,J.yld i H2 v H3→tc (some v :: eI ks σ) H3 λb H4=>if b=true then te (some v :: eI ks σ) H4 λy H5=>∃ys,H5 D=some (.lst ys)∧ys.length < sizeLine∧∃m',m' < m∧W (i + 1) m' (upd H5 D (.lst (ys ++ [y]))) else ∃m',m' < m∧W (i + 1) m' H4)
section
variable {X:Cx}
theorem yU {elt iter:Expr} {ifs:List Expr} {x:Str} {px:Pos} {sc:Scope} {pos:Pos} {te:TE} {tc:TT} {ks:List (Str × Nat)} {cl:List (Str × Addr)} {pins:List (Addr × Obj)} {σ:L2.St} {H:Hp} {s:Shared} {it:Addr} {fp:List Addr} {tn:Nat→Heap→Prop} {J:It} {Q:VK}
  {RR:Value→Addr→Result→Shared→Prop} {E:Value→Shared→Prop}
  (hc:X.calm=true) (ok:cJ sc X.env.scope X.N x ks) (h1:∀y c,cl.lookup y=some c→X.env.cells.lookup y=some c) (h2:∀y∈sc.names,y.2=.free→∃c,cl.lookup y.1=some c)
  (he:∀cl C s₀ H₀ fp pins,PE (f7 X sc cl C x ks s₀ H₀ fp pins) elt te) (hcn:∀cl C s₀ H₀ fp pins,G7 (f7 X sc cl C x ks s₀ H₀ fp pins) ifs tc)
  (I:Inv X pins σ H s) (T:Turn X.prog X.w X.K (.Name x px) J fp it tn) (st:tn 0 s.heap) (f:∀b∈fp,lU X pins H b)
  (hw:∀D,H D=none→∃W:Nat→Nat→Hp→Prop,(∃m,W 0 m (upd H D (.lst [])))∧∀i m H2,W i m H2→(J.stop i H2∧Q (.ref D) H2) ∨
   (J.go i H2∧∀v H3,J.yld i H2 v H3→tc (some v :: eI ks σ) H3 λb H4=>if b=true then te (some v :: eI ks σ) H4 λy H5=>∃ys,H5 D=some (.lst ys)∧ys.length < sizeLine∧∃m',m' < m∧W (i + 1) m' (upd H5 D (.lst (ys ++ [y]))) else ∃m',m' < m∧W (i + 1) m' H4))
  (hR:∀(D C:Addr) (s':Shared) (H':Hp) (m:Str→Option Value),Inv X pins σ H' s'→Q (.ref D) H'→s'.heap.Ns C m→H' C=none→C≠X.env.locals→X.s₀.heap.objs.size≤C→(∀y c,X.env.cells.lookup y=some c→c≠C)→(∀p∈X.pn ++ pins,p.1≠C)→RR (.ref D) C (.ok .next) s') :
  wpAny (model X.prog X.w) X.A (newList []) (λacc s₃=>wpAny (model X.prog X.w) X.A (newFunctionEnv sc X.env.globals cl [] X.env.qual none .none (some X.env)) (λcenv s₄ =>
   codeAny (model X.prog X.w) X.A (.compStart (.ListComp elt [⟨.Name x px,iter,ifs,0⟩] sc pos) 0 (.ref it) acc { cenv with scope:=relabel sc X.env }) (RR acc cenv.locals) s₄) E s₃) E s:=by
 have okk:=ok
 obtain ⟨kd,nc,lx,ll,fr,kk,nd⟩:=okk
 have hD0:H s.heap.objs.size=none:=I.hok.fresh (Tr _)
 obtain ⟨W,⟨m0,w0⟩,turn⟩:=hw s.heap.objs.size hD0
 refine wpAny_newObj_type ?_
 have I3:Inv X pins σ (upd H s.heap.objs.size (.lst [])) { s with heap:=s.heap.push { cls:=.type "list",dict:=none,data:=.seq ([]:List Value).toArray } } :=
  I.laid (t':=s.toks) (λb u e=>Heap.get?_push_of_some _ e) (Tr _) (show dF X.prog X.w _ _ _ (.lst []) from ⟨T3 _,[],0,.nil,Heap.get?_push_size _ rfl⟩)
 have st3:tn 0 (s.heap.push { cls:=.type "list",dict:=none,data:=.seq ([]:List Value).toArray }):=T.keep 0 _ _ st λb hb o e=>Heap.get?_push_of_some _ e
 generalize hD:s.heap.objs.size=D at *
 generalize hH:upd H D (.lst [])=H3 at *
 generalize hs3:({ s with heap:=s.heap.push { cls:=.type "list",dict:=none,data:=.seq ([]:List Value).toArray } }:Shared)=s3 at *
 have e3:s.heap.push { cls:=.type "list",dict:=none,data:=.seq ([]:List Value).toArray }=s3.heap:=by rw [← hs3]
 rw [e3] at st3
 have fD:∀b∈fp,b≠D:=λb hb z=>by
  obtain ⟨o,ho,_⟩:=T.obj 0 _ st b hb
  have:=Heap.lt_size ho
  rw [z,← hD] at this
  exact Us _ this
 have f3:∀b∈fp,lU X pins H3 b:=λb hb=>⟨by rw [← hH,aW (fD b hb)];exact (f b hb).1,(f b hb).2⟩
 have g3:∀b∈fp,∃o,s3.heap.get? b=some o:=λb hb=>by
  obtain ⟨o,ho,_⟩:=T.obj 0 _ st3 b hb
  exact ⟨o,ho⟩
 refine wpAny_newFunctionEnv nc (by intro y hy;simp at hy) (λh₁ hns hsb=>?_) kd
 have kp:∀b o,s3.heap.get? b=some o→h₁.get? b=some o:=λb o e=>hsb.extBut b o (TV (Heap.lt_size e)) (Heap.get?_push_of_some _ e)
 have J0:=ye (fp:=fp) (cl:=cl) (t':=s3.toks + ([]:List (Str × Value)).length) I3 ok h1 h2 (λb hb=>⟨f3 b hb,g3 b hb⟩) hns kp
 have st4:tn 0 h₁:=T.keep 0 _ _ st3 λb hb o e=>kp b o e
 have ltC:∀b o,s3.heap.get? b=some o→b≠s3.heap.objs.size:=λb o e=>TV (Heap.lt_size e)
 have cC:∀y c,X.env.cells.lookup y=some c→c≠s3.heap.objs.size:=λy c e=>by
  obtain ⟨v,o,ho,_⟩:=I3.cell y c e
  exact ltC c o ho
 have pC:∀p∈X.pn ++ pins,p.1≠s3.heap.objs.size:=λp hp=>ltC _ _ (I3.pin p hp).1
 have lC:s3.heap.objs.size≠X.env.locals:=Vs I3.lt
 have fX:∀{H':Hp},(∀b∈fp,H' b=none)→∀b∈fp,lU (f7 X sc cl s3.heap.objs.size x ks s3 H3 fp pins) [] H' b:=λhn b hb=>by
  obtain ⟨o,ho⟩:=g3 b hb
  obtain ⟨_,q1,q2,q3,q4,q5⟩:=f b hb
  refine ⟨hn b hb,ltC b o ho,λz=>?_,.inl hb,λy c e=>q4 y c (h1 y c e),λp hp=>q5 p (by simpa [f7] using hp)⟩
  rcases TC.mp (I3.pK b z) with e | e
  ·exact q1 e
  ·exact q2 e
 have back:∀{o:Option V} {H':Hp} {s':Shared},Inv (f7 X sc cl s3.heap.objs.size x ks s3 H3 fp pins) [] (o :: eI ks σ) H' s'→Inv X pins σ H' s':=λ{o H' s'} J=>by
  obtain ⟨hh,g,d,t,os'⟩:=s'
  obtain rfl:os'=s3.os:=J.os
  exact I3.call (h':=hh) (g':=g) (d':=d) (t':=t) (ch:=fp) J.base J.hok J.bare λb hb=>⟨(f b hb).2.2.2.1,(f b hb).2.1,(f b hb).2.2.2.2.1,(f b hb).2.2.2.2.2⟩
 have lookX:(relabel sc X.env).names.lookup x=some .local:=lookup_relabel_local lx
 have loop:∀s',(∃(i:Nat) (o:Option V) (H':Hp),Inv (f7 X sc cl s3.heap.objs.size x ks s3 H3 fp pins) [] (o :: eI ks σ) H' s'∧tn i s'.heap∧(∀b∈fp,H' b=none)∧W i m0 H') →
   codeAny (model X.prog X.w) X.A (.compLoop (.ListComp elt [⟨.Name x px,iter,ifs,0⟩] sc pos) 0 (.ref it) (.ref D) (compEnvC sc cl s3.heap.objs.size X.env)) (RR (.ref D) s3.heap.objs.size) s':=by
  intro s' hs'
  refine Dl (λn s'=>∃(i:Nat) (o:Option V) (H':Hp),Inv (f7 X sc cl s3.heap.objs.size x ks s3 H3 fp pins) [] (o :: eI ks σ) H' s'∧tn i s'.heap∧(∀b∈fp,H' b=none)∧W i n H') ?_ m0 hs'
  rintro n s5 ⟨i,o,H5,J5,t5,n5,w5⟩
  rcases turn i n H5 w5 with ⟨stop,hq⟩ | ⟨go,step⟩
  ·refine cE (T.done (f7 X sc cl s3.heap.objs.size x ks s3 H3 fp pins) rfl rfl rfl hc i [] s5 _ H5 _ J5 (fX n5) t5 stop) λr s6 ⟨hr,J6⟩=>?_
   subst hr
   obtain ⟨m,hm,_⟩:=J6.loc
   exact hR D _ s6 H5 m (back J6) hq hm J6.free lC I3.sz cC pC
  ·refine cE (T.item (f7 X sc cl s3.heap.objs.size x ks s3 H3 fp pins) rfl rfl rfl hc i [] s5 _ H5 _ J5 (fX n5) t5 go) λr s6 ⟨u,hr,h6⟩=>?_
   subst hr
   refine cE h6 λ_ s7 ⟨v,H7,J7,r7,y7,t7,n7⟩=>?_
   have J7':=J7.pinned (fX n7) (T.obj _ _ t7)
   refine wpAny_assign_Name (gX (X:=f7 X sc cl s3.heap.objs.size x ks s3 H3 fp pins) (i:=0) J7' nd rfl (.inl lookX) r7 (λs8 J8=>?_) (.inr lookX))
   refine cE (hcn cl s3.heap.objs.size s3 H3 fp pins _ s8 _ H7 _ J8 (step v H7 y7)) λok s8' ⟨H8,J8',q8⟩=>?_
   cases ok with
   | false =>
    simp only [TJ,if_false] at q8 ⊢
    obtain ⟨m',hm,w'⟩:=q8
    refine ⟨m',hm,i + 1,_,_,J8'.gZ,?_,?_,w'⟩
    ·exact T.keep _ _ _ t7 λb hb o e=>(J8'.pin (b,o) (Tz _ (Tz _ (cT hb e)))).1
    ·intro b hb
     obtain ⟨o,e,d⟩:=T.obj _ _ t7 b hb
     exact (J8'.pin (b,o) (Tz _ (Tz _ (cT hb e)))).2.1
   | true =>
    simp only [if_true] at q8 ⊢
    refine cE (he cl s3.heap.objs.size s3 H3 fp pins _ s8' _ H8 _ J8' q8) λy s9 ⟨vy,H9,J9,r9,ys,hys,hz,m',hm,w'⟩=>?_
    refine cE (i7 (X:=f7 X sc cl s3.heap.objs.size x ks s3 H3 fp pins) _ s9 _ H9 (.ref D) [vy] (.ref D) [y] (λ_ H'=>H'=upd H9 D (.lst (ys ++ [vy]))) J9 rfl (.cons r9 .nil) ⟨D,ys,vy,rfl,rfl,hys,hz,rfl⟩) λ_ s10 ⟨_,H10,J10,_,eH⟩=>?_
    subst eH
    refine ⟨m',hm,i + 1,_,_,J10.gZ,?_,?_,w'⟩
    ·exact T.keep _ _ _ t7 λb hb o e=>(J10.pin (b,o) (Tz _ (Tz _ (cT hb e)))).1
    ·intro b hb
     obtain ⟨o,e,d⟩:=T.obj _ _ t7 b hb
     exact (J10.pin (b,o) (Tz _ (Tz _ (cT hb e)))).2.1
 have l0:=loop _ ⟨0,none,H3,J0,st4,λb hb=>(f3 b hb).1,w0⟩
 exact codeAny_compStart_list l0 (T.self _ 0 _ _ _ st4 l0)
theorem nI {sc osc:Scope} {N:List Str} {x:Str} {ks:List (Str × Nat)} (ok:cJ sc osc N x ks) {pins:List (Addr × Obj)} {σ:L2.St} {H:Hp} {s:Shared} (I:Inv X pins σ H s) (ho:X.env.scope=osc):∀y∈sc.names,y.2=.free→∃c,X.env.cells.lookup y.1=some c:=λy hy hf =>
 I.ok.has y.1 (.inl (by show X.env.scope.names.lookup y.1=some .cell;rw [ho];exact ok.2.2.2.2.1 y hy hf))
theorem Mu {elt iter:Expr} {ifs:List Expr} {x:Str} {px:Pos} {sc:Scope} {pos:Pos} {wi:TI} {te:TE} {tc:TT} (osc:Scope) (N:List Str) (ks:List (Str × Nat)) (hc:X.calm=true) (ho:X.env.scope=osc) (hN:X.N=N) (hi:PI X (.Name x px) iter wi)
  (he:∀cl C s₀ H₀ fp pins,PE (f7 X sc cl C x ks s₀ H₀ fp pins) elt te) (hcn:∀cl C s₀ H₀ fp pins,G7 (f7 X sc cl C x ks s₀ H₀ fp pins) ifs tc) (ok:cJ sc osc N x ks:=by decide +kernel) (hs:∀x,foldedSetIterable iter X.env x=pure x:=by intro _;rfl) :
  PE X (.ListComp elt [⟨.Name x px,iter,ifs,0⟩] sc pos) (Jy wi ks tc te):=by
 intro pins s σ H Q I hw
 obtain ⟨cl,hcl,h1,h2⟩:=jw (nI ok I ho)
 have ok':cJ sc X.env.scope X.N x ks:=by rw [ho,hN];exact ok
 rw [eval_ListComp]
 refine wpAny_comprehension_free (use:=none) rfl hs hcl ok.1 ok.2.2.2.1 (cE (hi pins s σ H _ I hw) λv s1 h3=>cE h3 λitv s2 h4=>?_)
 obtain ⟨it,fp,tn,J,H2,rfl,I2,T,st2,f2,hR⟩:=h4
 refine yU (RR:=λacc C=>compPost (model X.prog X.w) X.A X.xe none (EP X pins σ Q) acc C) hc ok' h1 h2 he hcn I2 T st2 f2 hR ?_
 intro D C s' H' m J' q hn hC cl' cs cc cp
 refine ⟨m,hn,λh' hsb=>⟨.ref D,H',?_,rfl,q⟩⟩
 exact J'.turned (t':=s'.toks) (it:=C) (λb o ne e=>hsb.extBut b o ne e) hC cl' (.inr cs) cc cp
def PF (wi:TI) (ks:List (Str × Nat)) (tc:TT) (te:TE) (i:Nat):TS:=λD σ H=>Jy wi ks tc te σ H λv H1=>D.nx (σ.set i (some v)) H1
theorem AD {elt iter:Expr} {ifs:List Expr} {x y:Str} {px py:Pos} {sc:Scope} {pos spos:Pos} {wi:TI} {te:TE} {tc:TT} {i:Nat} (osc:Scope) (N:List Str) (ks:List (Str × Nat)) (hc:X.calm=true) (ho:X.env.scope=osc) (hN:X.N=N) (hnd:X.N.Nodup) (hy:X.N[i]?=some y) (hl:Loc X.env.scope y)
  (hi:PI X (.Name x px) iter wi) (he:∀cl C s₀ H₀ fp pins,PE (f7 X sc cl C x ks s₀ H₀ fp pins) elt te) (hcn:∀cl C s₀ H₀ fp pins,G7 (f7 X sc cl C x ks s₀ H₀ fp pins) ifs tc) (ok:cJ sc osc N x ks:=by decide +kernel) (hs:∀x,foldedSetIterable iter X.env x=pure x:=by intro _;rfl)
  (hsw:swapsWith (.ListComp elt [⟨.Name x px,iter,ifs,0⟩] sc pos) (some (.Name y py)) spos.line X.env=pure true:=by rfl) (hf:X.fn y=true∨X.env.scope.names.lookup y=some .local:=by first | exact .inl rfl | exact .inr rfl | assumption) :
  PS X (.Assign [.Name y py] (.ListComp elt [⟨.Name x px,iter,ifs,0⟩] sc pos) spos) (PF wi ks tc te i):=by
 intro pins s σ H Dn I hw
 obtain ⟨cl,hcl,h1,h2⟩:=jw (nI ok I ho)
 have ok':cJ sc X.env.scope X.N x ks:=by rw [ho,hN];exact ok
 rw [exec_Assign_Name_used _ _ _ _ hsw]
 refine wpAny_bind (wpAny_standAt (wpAny_bind ?_))
 show wpAny _ X.A (do let _ ← comprehension (.ListComp elt [⟨.Name x px,iter,ifs,0⟩] sc pos) sc X.env _ (newList []) false (eval iter X.env) (some (assign (.Name y py) X.env))) _ _ s
 refine wpAny_bind (wpAny_mono (wpAny_comprehension_free (use:=some (assign (.Name y py) X.env)) (Q:=λ_ s'=>SP X pins Dn .next s') rfl hs hcl ok.1 ok.2.2.2.1
  (cE (hi pins s σ H _ I hw) λv s1 h3=>cE h3 λitv s2 h4=>?_)) (λ_ s' hq=>wpAny_pure (wpAny_pure hq)) λ_ _ e=>e)
 obtain ⟨it,fp,tn,J,H2,rfl,I2,T,st2,f2,hR⟩:=h4
 refine yU (Q:=λv H1=>Dn.nx (σ.set i (some v)) H1) (RR:=λacc C=>compPost (model X.prog X.w) X.A X.xe (some (assign (.Name y py) X.env)) (λ_ s'=>SP X pins Dn .next s') acc C) hc ok' h1 h2 he hcn I2 T st2 f2 hR ?_
 intro D C s' H' m J' q hn hC cl' cs cc cp
 show wpAny _ X.A (assign (.Name y py) X.env (.ref D)) _ _ _
 refine wpAny_assign_Name (pL J' hnd hy hl (v:=.ref D) rfl (λs'' J'' ⟨a,hsb,ha⟩=>?_) hf)
 refine ⟨m,hn.sameBut hsb (λz=>?_),λh' hsb'=>⟨_,H',?_,q⟩⟩
 ·rcases ha with e | e
  ·exact cl' (z.trans e)
  ·exact cc _ _ e z.symm
 ·exact J''.turned (t':=s''.toks) (it:=C) (λb o ne e=>hsb'.extBut b o ne e) hC cl' (.inr cs) cc cp
def Qk (wi:TI) (ks:List (Str × Nat)) (te:TE):TE:=λσ H Q=>wi σ H λJ H1=>∀D,H1 D=none→∃W:Nat→Nat→Hp→Prop,(∃m,W 0 m (upd H1 D (.lst []))) ∧
 ∀i m H2,W i m H2→(J.stop i H2∧Q (.ref D) H2)∨(J.go i H2∧∀v H3,J.yld i H2 v H3→te (some v :: eI ks σ) H3 λy H4=>∃ys,H4 D=some (.lst ys)∧ys.length < sizeLine∧∃m',m' < m∧W (i + 1) m' (upd H4 D (.lst (ys ++ [y]))))
theorem Kt {elt iter:Expr} {x:Str} {px:Pos} {sc:Scope} {pos:Pos} {wi:TI} {te:TE} (osc:Scope) (N:List Str) (ks:List (Str × Nat)) (hc:X.calm=true) (ho:X.env.scope=osc) (hN:X.N=N) (hi:PI X (.Name x px) iter wi)
  (he:∀cl C s₀ H₀ fp pins,PE (f7 X sc cl C x ks s₀ H₀ fp pins) elt te) (ok:cJ sc osc N x ks:=by decide +kernel) (hs:∀x,foldedSetIterable iter X.env x=pure x:=by intro _;rfl) :
  PE X (.ListComp elt [⟨.Name x px,iter,[],0⟩] sc pos) (Qk wi ks te):=λpins s σ H Q I hw=>Mu osc N ks hc ho hN hi he (λ_ _ _ _ _ _=>wK) ok hs pins s σ H Q I hw
def M3 (wi:TI) (ks:List (Str × Nat)) (te:TE) (i:Nat):TS:=λD σ H=>Qk wi ks te σ H λv H1=>D.nx (σ.set i (some v)) H1
theorem Ku {elt iter:Expr} {x y:Str} {px py:Pos} {sc:Scope} {pos spos:Pos} {wi:TI} {te:TE} {i:Nat} (osc:Scope) (N:List Str) (ks:List (Str × Nat)) (hc:X.calm=true) (ho:X.env.scope=osc) (hN:X.N=N) (hnd:X.N.Nodup) (hy:X.N[i]?=some y) (hl:Loc X.env.scope y)
  (hi:PI X (.Name x px) iter wi) (he:∀cl C s₀ H₀ fp pins,PE (f7 X sc cl C x ks s₀ H₀ fp pins) elt te) (ok:cJ sc osc N x ks:=by decide +kernel) (hs:∀x,foldedSetIterable iter X.env x=pure x:=by intro _;rfl)
  (hsw:swapsWith (.ListComp elt [⟨.Name x px,iter,[],0⟩] sc pos) (some (.Name y py)) spos.line X.env=pure true:=by rfl) (hf:X.fn y=true∨X.env.scope.names.lookup y=some .local:=by first | exact .inl rfl | exact .inr rfl | assumption) :
  PS X (.Assign [.Name y py] (.ListComp elt [⟨.Name x px,iter,[],0⟩] sc pos) spos) (M3 wi ks te i):=λpins s σ H D I hw=>AD osc N ks hc ho hN hnd hy hl hi he (λ_ _ _ _ _ _=>wK) ok hs hsw hf pins s σ H D I hw
end
theorem HW {K:PySem.W.Frag} {a D:Addr} {xs:List V} {H:Hp} {te:TE} {ks:List (Str × Nat)} {σ:L2.St} {q:Hp→Prop} (Pv:Nat→Hp→Prop) (h0:Pv 0 (upd H D (.lst []))) (hl:∀i H,i≤xs.length→Pv i H→dk K H a xs)
  (hs:∀i x H (R:VK),xs[i]?=some x→Pv i H→(∀y H4 ys,H4 D=some (.lst ys)→ys.length < sizeLine→Pv (i + 1) (upd H4 D (.lst (ys ++ [y])))→R y H4)→te (some x :: eI ks σ) H R) (hd:∀H,Pv xs.length H→q H) :
  ∃W:Nat→Nat→Hp→Prop,(∃m,W 0 m (upd H D (.lst [])))∧∀i m H2,W i m H2→((Hr K a).stop i H2∧q H2) ∨
   ((Hr K a).go i H2∧∀v H3,(Hr K a).yld i H2 v H3→te (some v :: eI ks σ) H3 λy H4=>∃ys,H4 D=some (.lst ys)∧ys.length < sizeLine∧∃m',m' < m∧W (i + 1) m' (upd H4 D (.lst (ys ++ [y])))):=by
 refine ⟨λi m H=>m=xs.length - i∧i≤xs.length∧Pv i H,⟨xs.length,by simp,T3 _,h0⟩,?_⟩
 rintro i m H2 ⟨rfl,hi,p⟩
 have hq:=hl i H2 hi p
 by_cases hlt:i < xs.length
 ·refine .inr ⟨⟨xs,xs[i],hq,by simp [hlt]⟩,λv H3 y=>?_⟩
  obtain ⟨e,y⟩:=y
  subst e
  exact hs i v _ _ (y xs hq) p λy H4 ys e1 e2 e3=>⟨ys,e1,e2,xs.length - (i + 1),by omega,rfl,hlt,e3⟩
 ·have e:i=xs.length:=by omega
  subst e
  exact .inl ⟨⟨xs,hq,Tr _⟩,hd H2 p⟩
theorem Fl {lo:Int} {n:Nat} {D:Addr} {H:Hp} {te:TE} {ks:List (Str × Nat)} {σ:L2.St} {q:Hp→Prop} (Pv:Nat→Hp→Prop) (h0:Pv 0 (upd H D (.lst [])))
  (hs:∀i H (R:VK),i < n→Pv i H→(∀y H4 ys,H4 D=some (.lst ys)→ys.length < sizeLine→Pv (i + 1) (upd H4 D (.lst (ys ++ [y])))→R y H4)→te (some (.int (lo + i)) :: eI ks σ) H R) (hd:∀H,Pv n H→q H) :
  ∃W:Nat→Nat→Hp→Prop,(∃m,W 0 m (upd H D (.lst [])))∧∀i m H2,W i m H2→((Ei lo n).stop i H2∧q H2) ∨
   ((Ei lo n).go i H2∧∀v H3,(Ei lo n).yld i H2 v H3→te (some v :: eI ks σ) H3 λy H4=>∃ys,H4 D=some (.lst ys)∧ys.length < sizeLine∧∃m',m' < m∧W (i + 1) m' (upd H4 D (.lst (ys ++ [y])))):=by
 refine ⟨λi m H=>m=n - i∧i≤n∧Pv i H,⟨n,by simp,T3 _,h0⟩,?_⟩
 rintro i m H2 ⟨rfl,hi,p⟩
 by_cases hlt:i < n
 ·refine .inr ⟨hlt,λv H3 y=>?_⟩
  obtain ⟨e,y⟩:=y
  subst e y
  exact hs i _ _ hlt p λy H4 ys e1 e2 e3=>⟨ys,e1,e2,n - (i + 1),by omega,rfl,hlt,e3⟩
 ·have e:i=n:=by omega
  subst e
  exact .inl ⟨Tr _,hd H2 p⟩
def one (c:Nat):Str:=⟨#[c]⟩
theorem uY:∀(cs:List Nat) (acc:Array Nat),(cs.map one).foldl (λacc (p:Str)=>acc ++ (Str.ofString "").cps ++ p.cps) acc=acc ++ cs.toArray
 | [],acc=>by simp
 | c :: cs,acc=>by
  have e:(Str.ofString "").cps=#[]:=by decide +kernel
  rw [Tt,List.foldl_cons,uY cs]
  rw [e]
  show (acc ++ #[] ++ #[c]) ++ cs.toArray=_
  simp
theorem join_ones (cs:List Nat):Txt.join (Str.ofString "") (cs.map one)=⟨cs.toArray⟩:=by
 unfold Txt.join Builtin.Str.glued
 cases cs with
 | nil=>rfl
 | cons c cs =>
  simp only [Tt,List.drop_succ_cons,Vf,List.headD_cons]
  rw [uY]
  show (⟨#[c] ++ cs.toArray⟩:Str)=_
  simp
theorem jT:∀{ys:List Str} {us:List Value},Vals (ys.map V.str) us→StrsAre us ys
 | [],_,.nil=>.nil
 | y :: ys,_,.cons r rr=>by
  obtain ⟨t,rfl⟩:=r
  exact .cons y t (jT rr)
section
variable {X:Cx}
def rJoin (K:PySem.W.Frag):V→List V→Hp→VK→Prop:=λx vs H Q=>∃z p ys,x=.str z∧vs=[.ref p]∧dk K H p (ys.map V.str)∧(ys.map (·.length)).sum + ys.length * z.length≤16777216∧Q (.str (Txt.join z ys)) H
theorem Ic:qg X "str.join" (rJoin X.K):=by
 intro pins s σ H x vs v us Q I rx rv h
 obtain ⟨z,p,ys,rfl,rfl,hp,hz,q⟩:=h
 obtain ⟨t,rfl⟩:=rx
 obtain ⟨u,rfl,ru⟩:=vals1 rv
 cases ru
 obtain ⟨its,r,pl,_⟩:=I.list hp
 exact join_list pl.isList (by simpa using jT r) hz λt' k=>⟨.str _,H,I.tok _,⟨_,rfl⟩,q⟩
end
def vQ:Expr→Option V
 | .Constant (.int i) _ _=>some (.int i)
 | .Constant (.str x) _ _=>some (.str x)
 | .Constant (.bool b) _ _=>some (.bl b)
 | _=>none
theorem si {X:Cx}:∀{es:List Expr} (vs:List V),es.map vQ=vs.map some→PA X es (λ_ H Q=>Q vs H)
 | [],[],_=>λ_ _ _ _ H Q I h=>Calls.spliced_nil ⟨[],H,I,.nil,h⟩
 | [],_ :: _,h=>by cases h
 | _ :: _,[],h=>by cases h
 | e :: es,v :: vs,h=>by
  rw [Tt,Tt] at h
  injection h with h1 h2
  have ih:=si (X:=X) (es:=es) vs h2
  have hs:starEach (e :: es) X.env=(false,eval e X.env) :: starEach es X.env:=by
   cases e <;> first | rfl | cases h1
  have he:PE X e (tC v):=by
   cases e with
   | Constant c j pos =>
    cases c with
    | int i=>cases h1;exact aV
    | str x=>cases h1;exact o6
    | bool b=>cases h1;exact yK
    | _=>cases h1
   | _=>cases h1
  exact λpos pins s σ H Q I hq=>a7 he ih hs pos pins s σ H Q I hq
end Ov
namespace Ov
open PySem PySem.Spec PyProof.Rows
open L2 (V HO Hp Inv Cx St VK TE TT TA TS TG qh TI TO j6 Ends vM Loc Gl Rd RelV Vals fT xJ cx p9 tJ qg j5 R2 DY tC GU Qm Cz tB GO PJ Jz Cs JA Cv Qj JE GQ A4 zh KZ tD Qi A2 JB rH HI BB HL HK Jw xD M1 BH LC BI JX JC Cy Ct PC M0 Cu JD A3 qQ Cw Ql upd E0 bW c_)
structure QE (X:Cx) (e:Expr) (t:TE):Prop where
 run:L2.PE X e t
structure QT (X:Cx) (e:Expr) (t:TT):Prop where
 run:L2.PT X e t
structure QW (X:Cx) (e:Expr) (t:TT):Prop where
 run:L2.PW X e t
structure QA (X:Cx) (es:List Expr) (t:TA):Prop where
 run:L2.PA X es t
structure QS (X:Cx) (st:Stmt) (t:TS):Prop where
 run:L2.PS X st t
structure QB (X:Cx) (st:List Stmt) (t:TS):Prop where
 run:L2.uK X st t
structure QG (X:Cx) (e:Expr) (t:TG):Prop where
 run:L2.PG X e t
structure P9 (X:Cx) (es:List Expr) (t:qh):Prop where
 run:L2.JR X es t
structure QI (X:Cx) (tg e:Expr) (t:TI):Prop where
 run:L2.PI X tg e t
structure QO (X:Cx) (e:Option Expr) (t:TO):Prop where
 run:L2.PO X e t
section
variable {X:Cx} {a b c e o:Expr} {es rest:List Expr} {ta tb te tc to:TE} {tA tB':TT} {t:TA} {pos px p p2 apos cpos:Pos} {x:Str} {i j:Nat}
theorem pv (i:Nat) {x:Str} {pos:Pos} (hN:X.N[i]?=some x:=by rfl) (hv:vM X.env.scope x:=by first | exact Or.inl rfl | exact Or.inr (Or.inl rfl) | exact Or.inr (Or.inr rfl)) (hd:(x == ("__debug__":Str))=false:=by decide)
  (hcd:(x == ("__classdict__":Str))=false:=by decide):QE X (.Name x pos) (DY i):=⟨L2.Ay hN hv hd hcd⟩
theorem aV {i:Int} {j pos}:QE X (.Constant (.int i) j pos) (tC (.int i)):=⟨L2.aV⟩
theorem yK {b:Bool} {j pos}:QE X (.Constant (.bool b) j pos) (tC (.bl b)):=⟨L2.yK⟩
theorem Av {j pos}:QE X (.Constant .none j pos) (tC .non):=⟨L2.Av⟩
theorem o6 {x:Str} {j pos}:QE X (.Constant (.str x) j pos) (tC (.str x)):=⟨L2.o6⟩
theorem qG {v:V} {u:Value} (hg:Gl X x) (hm:X.mg x=some u) (r:RelV v u) (hd:(x == ("__debug__":Str))=false:=by decide):QE X (.Name x pos) (tC v):=⟨L2.qG hg hm r hd⟩
theorem wC {v:V} {u:Value} (hg:Gl X x) (hm:X.mg x=none) (hv:bootBuiltins x=some u) (r:RelV v u) (hn:x≠"__name__":=by decide) (hd:(x == ("__debug__":Str))=false:=by decide):QE X (.Name x pos) (tC v):=⟨L2.wC hg hm hv r hn hd⟩
theorem bD {op:Operator} {r:R2} (ho:fT X (binaryOp op) r) (ha:QE X a ta) (hb:QE X b tb):QE X (.BinOp a op b pos) (GU r ta tb):=⟨L2.bD ho ha.run hb.run⟩
theorem BW {op:UnaryOp} {r:V→Hp→VK→Prop} (ho:xJ X (unaryOp op) r) (ha:QE X a ta):QE X (.UnaryOp op a pos) (Qm r ta):=⟨L2.BW ho ha.run⟩
theorem qF {op:CmpOp} {r:R2} (ho:fT X (compareOp op) r) (ha:QE X a ta) (hb:QE X b tb) (hm:behindInMarks op b=false):QE X (.Compare a [op] [b] pos) (GU r ta tb):=⟨L2.qF ho ha.run hb.run hm⟩
theorem dX {op:CmpOp} {r:R2} (ho:fT X (compareOp op) r) (ha:QE X a ta) (hb:QE X b tb) (hm:behindInMarks op b=false):QT X (.Compare a [op] [b] pos) (Cz (GU r ta tb)):=⟨L2.dX ho ha.run hb.run hm⟩
theorem Ax {op} (h:QE X a ta):QE X (.BoolOp op [a] pos) ta:=⟨L2.Ax h.run⟩
theorem Au (ha:QE X a ta) (hb:QE X (.BoolOp .And (b :: rest) pos) tb):QE X (.BoolOp .And (a :: b :: rest) pos) (Cs ta tb):=⟨L2.Au ha.run hb.run⟩
theorem FX (ha:QE X a ta) (hb:QE X (.BoolOp .Or (b :: rest) pos) tb):QE X (.BoolOp .Or (a :: b :: rest) pos) (JA ta tb):=⟨L2.FX ha.run hb.run⟩
theorem Aw (ha:QE X a ta):QE X (.UnaryOp .Not a pos) (Cv ta):=⟨L2.Aw ha.run⟩
theorem AE (ha:QT X a tA):QT X (.UnaryOp .Not a pos) (Jz tA):=⟨L2.AE ha.run⟩
theorem qK (ha:QT X a tA):QW X (.BoolOp .And [a] pos) tA:=⟨L2.qK ha.run⟩
theorem wR (ha:QT X a tA):QW X (.BoolOp .Or [a] pos) tA:=⟨L2.wR ha.run⟩
theorem wQ (ha:QT X a tA) (hb:QW X (.BoolOp .And (b :: rest) pos) tB'):QW X (.BoolOp .And (a :: b :: rest) pos) (GO tA tB'):=⟨L2.wQ ha.run hb.run⟩
theorem B0 (ha:QT X a tA) (hb:QW X (.BoolOp .Or (b :: rest) pos) tB'):QW X (.BoolOp .Or (a :: b :: rest) pos) (PJ tA tB'):=⟨L2.B0 ha.run hb.run⟩
theorem Kw (h:QW X e tA):QT X e tA:=⟨h.run.pt⟩
theorem AF (h:QE X e te) (he:∀whole,isTrue e X.env whole=(do let v ← whole;standAt e.pos;holding [v] (truthy v)):=by intro _;rfl):QT X e (tB te):=⟨L2.AF h.run he⟩
theorem sk (hc:QT X c tA) (ha:QE X a ta) (hb:QE X b tb):QE X (.IfExp c a b pos) (Qj tA ta tb):=⟨L2.sk hc.run ha.run hb.run⟩
theorem bS:QA X [] A4:=⟨L2.bS⟩
theorem a7 (ha:QE X e te) (hr:QA X es t) (hs:starEach (e :: es) X.env=(false,eval e X.env) :: starEach es X.env:=by rfl):QA X (e :: es) (zh te t):=⟨L2.a7 ha.run hr.run hs⟩
theorem FQ {es:List Expr} (vs:List V) (h:es.map vQ=vs.map some):QA X es (λ_ H Q=>Q vs H):=⟨si vs h⟩
theorem so {x1} (h:QA X es t):QE X (.Tuple es x1 pos) (JE t):=⟨L2.so h.run⟩
theorem kI (h:QA X es t):QE X (.List es pos) (GQ t):=⟨L2.kI h.run⟩
theorem cD {r:R2} (hr:p9 X r) (ha:QE X a ta) (hb:QE X b tb) (hs:c_ b):QE X (.Subscript a b pos) (GU r ta tb):=⟨L2.cD hr ha.run hb.run hs⟩
theorem qH:QO X none qQ:=⟨L2.qH⟩
theorem lM (h:QE X e te):QO X (some e) (Cw te):=⟨L2.lM h.run⟩
theorem kJ {lo hi:Option Expr} {tl th:TO} {r:V→Option Int→Option Int→Hp→VK→Prop} (hr:tJ X r) (he:QE X e te) (hl:QO X lo tl) (hu:QO X hi th):QE X (.Subscript e (.Slice lo hi none p2) pos) (Ql r te tl th):=⟨L2.kJ hr he.run hl.run hu.run⟩
theorem eu {id:String} {r:List V→Hp→VK→Prop} (hc:cx X (.builtin id) r) (hg:Gl X x) (hm:X.mg x=none) (hv:bootBuiltins x=some (.builtin id)) (ha:QA X (e :: es) t) (hn:x≠"__name__":=by decide) (hdb:(x == ("__debug__":Str))=false:=by decide)
  (he:starEach (e :: es) X.env=(false,eval e X.env) :: starEach es X.env:=by rfl) (hpl:(backTo pos (starEach es X.env)).any (·.1)=false:=by rfl):QE X (.Call (.Name x p) (e :: es) [] pos) (KZ r t):=⟨L2.eu hc hg hm hv ha.run hn hdb he hpl⟩
theorem o5 {T:String} {r:List V→Hp→VK→Prop} (hc:cx X (.type T) r) (hg:Gl X x) (hm:X.mg x=none) (hv:bootBuiltins x=some (.type T)) (ha:QA X (e :: es) t) (hn:x≠"__name__":=by decide) (hdb:(x == ("__debug__":Str))=false:=by decide)
  (he:starEach (e :: es) X.env=(false,eval e X.env) :: starEach es X.env:=by rfl) (hpl:(backTo pos (starEach es X.env)).any (·.1)=false:=by rfl):QE X (.Call (.Name x p) (e :: es) [] pos) (KZ r t):=⟨L2.o5 hc hg hm hv ha.run hn hdb he hpl⟩
theorem yL {k k':Nat} {ps:List Str} {sp:L2.Sp} (C:tI X.prog X.w X.K X.mg X.base k x ps sp) (hr:bW k' X.A) (hk:k≤k') (hg:Gl X x) (ha:QA X (e :: es) t)
  (hdb:(x == ("__debug__":Str))=false:=by decide) (he:starEach (e :: es) X.env=(false,eval e X.env) :: starEach es X.env:=by rfl) (hpl:(backTo pos (starEach es X.env)).any (·.1)=false:=by rfl) :
  QE X (.Call (.Name x p) (e :: es) [] pos) (tD sp [] E0 t):=⟨Ms C hr hk hg ha.run hdb he hpl⟩
theorem sj {name:Str} {T id:String} {r:V→List V→Hp→VK→Prop} (pa:PlainAttrs T) (slot:Slot T name id) (hty:typeOf (.builtin id)=pure (.type "method_descriptor")) (hm:qg X id r) (ho:QE X o to) (ha:QA X (e :: es) t)
  (hbase:attributeBase o name X.env (eval o X.env)=eval o X.env:=by rfl)
  (hfew:((backTo cpos (starEach (e :: es) X.env)).all (λx=>!x.1) && (backToKw cpos (keywordEach [] X.env)).all (λx=>x.1.isSome)
   && decide ((e :: es).length + ([]:List Keyword).length + (if ([]:List Keyword).isEmpty then 0 else 1) < 30))=true:=by rfl)
  (hline:(apos.endLine == cpos.line)=true:=by rfl) (hs:starEach (e :: es) X.env=(false,eval e X.env) :: starEach es X.env:=by rfl) (hplain:(backTo cpos (starEach es X.env)).any (·.1)=false:=by rfl) :
  QE X (.Call (.Attribute o name apos) (e :: es) [] cpos) (Qi X.K T r to t):=⟨L2.sj pa slot hty hm ho.run ha.run hbase hfew hline hs hplain⟩
end
section
variable {X:Cx} {st:Stmt} {rest:List Stmt} {t u:TS} {e tg:Expr} {es:List Expr} {te:TE} {pos:Pos} {g:TG}
theorem gu:QB X [] Cu:=⟨L2.gu⟩
theorem a_ (h1:QS X st t) (h2:QB X rest u):QB X (st :: rest) (JD t u):=⟨L2.a_ h1.run h2.run⟩
theorem bT (h1:QS X st t):QB X [st] t:=⟨L2.bT h1.run⟩
theorem yN (h1:QS X st t) (h2:QB X rest u):QB X (st :: rest) (PD t u):=⟨IM h1.run h2.run⟩
theorem o9 {sts:List Stmt}:QB X sts A3:=⟨L2.o9⟩
theorem lN (he:QE X e te) (hs:swapsWith e none pos.line X.env=pure false:=by rfl):QS X (.Expr e pos) (Ct te):=⟨L2.lN he.run hs⟩
theorem d9 (he:QE X e te):QS X (.Return (some e) pos) (JC te):=⟨L2.d9 he.run⟩
theorem wJ:QS X (.Return none pos) Cy:=⟨L2.wJ⟩
theorem nV {c:Expr} {a b:List Stmt} {tc:TT} (hc:QT X c tc) (ha:QB X a t) (hb:QB X b u):QS X (.If c a b pos) (Jw tc t u):=⟨L2.nV hc.run ha.run hb.run⟩
theorem kW {c:Expr} {body:List Stmt} {tc:TT} {tb:TS} (hp:PassesOwn (model X.prog X.w) X.A X.env X.xe) (hc:QT X c tc) (hb:QB X body tb):QS X (.While c body [] pos) (xD tc tb):=⟨L2.kW hp hc.run hb.run⟩
theorem lL {i:Nat} {x:Str} (hN:X.N.Nodup) (hi:X.N[i]?=some x) (hx:Loc X.env.scope x) (hf:X.fn x=true∨X.env.scope.names.lookup x=some .local:=by first | exact .inl rfl | exact .inr rfl | assumption):QG X (.Name x pos) (rH i):=⟨L2.lL hN hi hx hf⟩
theorem wF:P9 X [] HI:=⟨L2.wF⟩
theorem su {e:Expr} {es:List Expr} {t:TG} {u:qh} (h1:QG X e t) (h2:P9 X es u)
  (hs:(assignEach (e :: es) X.env).map (·.2)=assign e X.env :: (assignEach es X.env).map (·.2):=by rfl):P9 X (e :: es) (BB t u):=⟨L2.su h1.run h2.run hs⟩
theorem Az {k:Nat} {t:qh} {n:Nat} (hc:X.calm=true) (h:P9 X es t)
  (hn:(assignEach es X.env).length=n:=by rfl) (hst:(assignEach es X.env).findIdx? (·.1)=none:=by rfl):QG X (.Tuple es k pos) (HL X.K n t):=⟨L2.Az hc h.run hn hst⟩
theorem wD {o i:Expr} {to ti:TE} {t:j6} (ho:QE X o to) (hi:QE X i ti) (hs:j5 X t)
  (ha:∀v,assign (.Subscript o i pos) X.env v=(do
   let ov ← holding [v] (eval o X.env)
   let iv ← holding [v,ov] (eval i X.env)
   standAt pos
   holding [v,ov,iv] (setItem ov iv v)
   release [v,ov,iv] []):=by intro _;rfl):QG X (.Subscript o i pos) (HK to ti t):=⟨L2.wD ho.run hi.run hs ha⟩
theorem wI {tg e:Expr} (he:QE X e te) (hg:QG X tg g) (hs:swapsWithSole [tg] e pos.line X.env=pure false:=by rfl) (hw:swappedStores [tg] e X.env=pure none:=by rfl)
  (h1:(assignEach [tg] X.env).map (·.2)=[assign tg X.env]:=by rfl):QS X (.Assign [tg] e pos) (A2 te g):=⟨L2.wI he.run hg.run hs hw h1⟩
theorem dh {i:Nat} {x:Str} {pos':Pos} (hN:X.N.Nodup) (hi:X.N[i]?=some x) (hx:Loc X.env.scope x) (he:QE X e te) (hs:swapsWith e (some (.Name x pos')) pos.line X.env=pure false:=by rfl) (hf:X.fn x=true∨X.env.scope.names.lookup x=some .local:=by first | exact .inl rfl | exact .inr rfl | assumption) :
  QS X (.Assign [.Name x pos'] e pos) (A2 te (rH i)):=⟨L2.dh hN hi hx he.run hs hf⟩
theorem o8 {i j:Nat} {x y:Str} {a b:Expr} {ta:TA} {px py pt:Pos} {kt k2 pt2} (hc:X.calm=true) (hN:X.N.Nodup) (hi:X.N[i]?=some x) (hj:X.N[j]?=some y) (hij:i≠j)
  (hx:X.env.scope.names.lookup x=some .local) (hy:X.env.scope.names.lookup y=some .local) (ha:QA X [a,b] ta)
  (hw:swappedStores [.Tuple [.Name x px,.Name y py] kt pt] (.Tuple [a,b] k2 pt2) X.env=pure (some [x,y]))
  (hs:swapsWithSole [.Tuple [.Name x px,.Name y py] kt pt] (.Tuple [a,b] k2 pt2) pos.line X.env=pure false:=by rfl) :
  QS X (.Assign [.Tuple [.Name x px,.Name y py] kt pt] (.Tuple [a,b] k2 pt2) pos) (JB i j ta):=⟨L2.o8 hc hN hi hj hij hx hy ha.run hw hs⟩
theorem nJ {l:Expr} {tl:TE} (hl:QE X l tl):QI X tg l (BH X.K tl):=⟨L2.nJ hl.run⟩
theorem AA {l:Expr} {tl:TE} (hl:QE X l tl):QI X tg l (LC X.K tl):=⟨L2.AA hl.run⟩
theorem gC {a:Expr} {ta:TA} {p pos:Pos} (hg:Gl X "range") (hm:X.mg "range"=none) (ha:QA X [a] ta) (hs:starEach [a] X.env=[(false,eval a X.env)]:=by rfl):QI X tg (.Call (.Name "range" p) [a] [] pos) (BI ta):=⟨L2.gC hg hm ha.run hs⟩
theorem o7 {iter:Expr} {body:List Stmt} {wi:TI} {g:TG} {tb:TS} {pos:Pos} (hp:PassesOwn (model X.prog X.w) X.A X.env X.xe) (hc:X.calm=true) (hi:QI X tg iter wi) (hg:QG X tg g) (hb:QB X body tb)
  (hs:∀x,foldedSetIterable iter X.env x=pure x:=by intro _;rfl):QS X (.For tg iter body [] pos) (M1 wi g tb):=⟨L2.o7 hp hc hi.run hg.run hb.run hs⟩
theorem IC {elt iter:Expr} {x:Str} {px:Pos} {sc:Scope} {pos:Pos} {wi:TI} (osc:Scope) (N:List Str) (ks:List (Str × Nat)) (hc:X.calm=true) (ho:X.env.scope=osc) (hN:X.N=N) (hi:QI X (.Name x px) iter wi)
  (he:∀cl C s₀ H₀ fp pins,QE (f7 X sc cl C x ks s₀ H₀ fp pins) elt te) (ok:cJ sc osc N x ks:=by decide +kernel) (hs:∀x,foldedSetIterable iter X.env x=pure x:=by intro _;rfl) :
  QE X (.ListComp elt [⟨.Name x px,iter,[],0⟩] sc pos) (Qk wi ks te):=⟨Kt osc N ks hc ho hN hi.run (λcl C s₀ H₀ fp pins=>(he cl C s₀ H₀ fp pins).run) ok hs⟩
theorem IL {elt iter:Expr} {x y:Str} {px py:Pos} {sc:Scope} {pos spos:Pos} {wi:TI} {i:Nat} (osc:Scope) (N:List Str) (ks:List (Str × Nat)) (hc:X.calm=true) (ho:X.env.scope=osc) (hN:X.N=N) (hnd:X.N.Nodup) (hy:X.N[i]?=some y) (hl:Loc X.env.scope y)
  (hi:QI X (.Name x px) iter wi) (he:∀cl C s₀ H₀ fp pins,QE (f7 X sc cl C x ks s₀ H₀ fp pins) elt te) (ok:cJ sc osc N x ks:=by decide +kernel) (hs:∀x,foldedSetIterable iter X.env x=pure x:=by intro _;rfl)
  (hsw:swapsWith (.ListComp elt [⟨.Name x px,iter,[],0⟩] sc pos) (some (.Name y py)) spos.line X.env=pure true:=by rfl) (hf:X.fn y=true∨X.env.scope.names.lookup y=some .local:=by first | exact .inl rfl | exact .inr rfl | assumption) :
  QS X (.Assign [.Name y py] (.ListComp elt [⟨.Name x px,iter,[],0⟩] sc pos) spos) (M3 wi ks te i):=⟨Ku osc N ks hc ho hN hnd hy hl hi.run (λcl C s₀ H₀ fp pins=>(he cl C s₀ H₀ fp pins).run) ok hs hsw hf⟩
end
end Ov
namespace Ov
open PySem PySem.Spec PyProof.Rows
open L2 (V HO Hp Inv Cx VK TE TA Vals RelV fT cx dk R2 upd EP vals1 intsAre_of Gl)
section
variable {X:Cx}
end
end Ov
namespace Ov
open PySem PySem.Spec PyProof.Rows
open L2 (V HO Hp Inv Cx VK TE TA Vals RelV fT cx dk g7 R2 upd bJ)
inductive Py where
 | non | bl (b:Bool) | int (i:Int) | str (x:Str) | tup (xs:List Py) | lst (xs:List Py)
mutual
def At (K:PySem.W.Frag) (H:Hp):Py→V→Prop
 | .non,v=>v=.non
 | .bl b,v=>v=.bl b
 | .int i,v=>v=.int i
 | .str x,v=>v=.str x
 | .tup xs,v=>∃a vs,v=.ref a∧g7 K H a vs∧tL K H xs vs
 | .lst xs,v=>∃a vs,v=.ref a∧dk K H a vs∧tL K H xs vs
def tL (K:PySem.W.Frag) (H:Hp):List Py→List V→Prop
 | [],vs=>vs=[]
 | x :: xs,vs=>∃v us,vs=v :: us∧At K H x v∧tL K H xs us
end
mutual
def lH:Py→Py→Bool
 | .non,.non=>true
 | .bl a,.bl b=>a == b
 | .int a,.int b=>a == b
 | .bl a,.int b=>(if a then 1 else 0) == b
 | .int a,.bl b=>a == (if b then 1 else 0)
 | .str a,.str b=>a == b
 | .tup xs,.tup ys=>kj xs ys
 | .lst xs,.lst ys=>kj xs ys
 | _,_=>false
def kj:List Py→List Py→Bool
 | [],[]=>true
 | x :: xs,y :: ys=>lH x y && kj xs ys
 | _,_=>false
end
mutual
def dep:Py→Nat
 | .tup xs=>eh xs + 1
 | .lst xs=>eh xs + 1
 | _=>0
def eh:List Py→Nat
 | []=>0
 | x :: xs=>max (dep x) (eh xs)
end
mutual
theorem x_:∀x:Py,lH x x=true
 | .non=>rfl
 | .bl b=>by simp [lH]
 | .int b=>by simp [lH]
 | .str b=>by simp [lH]
 | .tup xs=>by simpa [lH] using oK xs
 | .lst xs=>by simpa [lH] using oK xs
theorem oK:∀xs:List Py,kj xs xs=true
 | []=>rfl
 | x :: xs=>by simp [kj,x_ x,oK xs]
end
mutual
theorem At.same {K:PySem.W.Frag} {H H':Hp} (e:bJ H H'):∀{x:Py} {v:V},At K H x v→At K H' x v
 | .non,_,h=>h
 | .bl _,_,h=>h
 | .int _,_,h=>h
 | .str _,_,h=>h
 | .tup xs,_,⟨a,vs,e1,h,k⟩=>⟨a,vs,e1,e.tup h,tL.same e k⟩
 | .lst xs,_,⟨a,vs,e1,h,k⟩=>⟨a,vs,e1,e.seq h,tL.same e k⟩
theorem tL.same {K:PySem.W.Frag} {H H':Hp} (e:bJ H H'):∀{xs:List Py} {vs:List V},tL K H xs vs→tL K H' xs vs
 | [],_,h=>h
 | _ :: _,_,⟨v,us,e1,h,k⟩=>⟨v,us,e1,At.same e h,tL.same e k⟩
end
theorem tL.length {K:PySem.W.Frag} {H:Hp}:∀{xs:List Py} {vs:List V},tL K H xs vs→xs.length=vs.length
 | [],_,h=>by cases h;rfl
 | _ :: xs,_,⟨v,us,e1,_,k⟩=>by subst e1;simp [tL.length k]
def C3 (xs ys:List Py) (j:Nat):Bool:=match xs[j]?,ys[j]? with
 | some x,some y=>lH x y
 | _,_=>false
theorem jt:∀(xs ys:List Py),((UG (min xs.length ys.length)).all (C3 xs ys) && (xs.length == ys.length))=kj xs ys
 | [],[]=>rfl
 | [],_ :: _=>by simp [kj]
 | _ :: _,[]=>by simp [kj]
 | x :: xs,y :: ys=>by
  have ih:=jt xs ys
  rw [TU,TU,Nat.succ_min_succ,List.range_succ_eq_map,VE,List.all_map]
  have e1:(C3 (x :: xs) (y :: ys) ∘ Nat.succ)=C3 xs ys:=by
   funext j
   simp [C3]
  have e2:(xs.length + 1 == ys.length + 1)=(xs.length == ys.length):=by
   rw [UA]
   simp
  rw [e1,e2,Bool.and_assoc,ih]
  simp [C3,kj]
section
variable {X:Cx} {pins:List (Addr × Obj)} {σ:L2.St} {H:Hp} {s:Shared}
mutual
theorem At.one (I:Inv X pins σ H s):∀{x y:Py} {v:V},At X.K H x v→At X.K H y v→lH x y=true
 | .non,y,v,h,k=>by cases h;cases y <;> simp_all [At,lH]
 | .bl b,y,v,h,k=>by cases h;cases y <;> simp_all [At,lH]
 | .int b,y,v,h,k=>by cases h;cases y <;> simp_all [At,lH]
 | .str b,y,v,h,k=>by cases h;cases y <;> simp_all [At,lH]
 | .tup xs,y,v,h,k=>by
  obtain ⟨a,vs,rfl,h1,h2⟩:=h
  cases y with
  | tup ys =>
   obtain ⟨b,us,e,k1,k2⟩:=k
   cases e
   cases I.vp h1 k1
   simpa [lH] using tL.one I h2 k2
  | lst ys =>
   obtain ⟨b,us,e,k1,k2⟩:=k
   cases e
   obtain ⟨_,_,⟨o,e1,c1,_⟩,_⟩:=I.tuple h1
   obtain ⟨_,_,⟨o',n,e2,c2,_⟩,_⟩:=I.list k1
   rw [e1] at e2;cases e2;exact absurd (Value.type.inj (c1.symm.trans c2)) (by decide)
  | _=>cases k
 | .lst xs,y,v,h,k=>by
  obtain ⟨a,vs,rfl,h1,h2⟩:=h
  cases y with
  | lst ys =>
   obtain ⟨b,us,e,k1,k2⟩:=k
   cases e
   cases I.kr h1 k1
   simpa [lH] using tL.one I h2 k2
  | tup ys =>
   obtain ⟨b,us,e,k1,k2⟩:=k
   cases e
   obtain ⟨_,_,⟨o,e1,c1,_⟩,_⟩:=I.tuple k1
   obtain ⟨_,_,⟨o',n,e2,c2,_⟩,_⟩:=I.list h1
   rw [e1] at e2;cases e2;exact absurd (Value.type.inj (c1.symm.trans c2)) (by decide)
  | _=>cases k
theorem tL.one (I:Inv X pins σ H s):∀{xs ys:List Py} {vs:List V},tL X.K H xs vs→tL X.K H ys vs→kj xs ys=true
 | [],ys,vs,h,k=>by
  cases h
  cases ys with
  | nil=>rfl
  | cons y ys=>obtain ⟨_,_,e,_⟩:=k;cases e
 | x :: xs,ys,vs,h,k=>by
  obtain ⟨v,us,rfl,h1,h2⟩:=h
  cases ys with
  | nil=>cases k
  | cons y ys =>
   obtain ⟨v',us',e,k1,k2⟩:=k
   cases e
   simp [kj,At.one I h1 k1,tL.one I h2 k2]
end
mutual
theorem QJ (I:Inv X pins σ H s):∀(x y:Py) {v v':V} {u u':Value} {A:Around},At X.K H x v→At X.K H y v'→RelV v u→RelV v' u'→A.units + dep x < cLine→SeqAt.EqAt A s u u' (lH x y)
 | .non,y,v,v',u,u',A,h,k,r,r',hu=>by
  cases h;cases r
  cases y with
  | non=>cases k;cases r';exact SeqAt.EqAt.same _
  | bl b=>cases k;cases r';exact SeqAt.EqAt.none_bool _
  | int b=>cases k;obtain ⟨t,rfl⟩:=r';exact SeqAt.EqAt.none_int _ _
  | str b=>cases k;obtain ⟨t,rfl⟩:=r';exact SeqAt.EqAt.none_str _ _
  | tup ys=>obtain ⟨a,vs,rfl,h1,h2⟩:=k;cases r';obtain ⟨_,_,p,_⟩:=I.tuple h1;exact SeqAt.EqAt.none_tuple p (by simpa [dep] using hu)
  | lst ys=>obtain ⟨a,vs,rfl,h1,h2⟩:=k;cases r';obtain ⟨_,_,p,_⟩:=I.list h1;exact SeqAt.EqAt.none_list p.isList (by simpa [dep] using hu)
 | .bl x,y,v,v',u,u',A,h,k,r,r',hu=>by
  cases h;cases r
  cases y with
  | non=>cases k;cases r';exact SeqAt.EqAt.bool_none _
  | bl b=>cases k;cases r';exact SeqAt.EqAt.bool_bool _ _
  | int b=>cases k;obtain ⟨t,rfl⟩:=r';exact SeqAt.EqAt.bool_int _ _ _
  | str b=>cases k;obtain ⟨t,rfl⟩:=r';exact SeqAt.EqAt.bool_str _ _ _
  | tup ys=>obtain ⟨a,vs,rfl,h1,h2⟩:=k;cases r';obtain ⟨_,_,p,_⟩:=I.tuple h1;exact SeqAt.EqAt.bool_tuple _ p (by simpa [dep] using hu)
  | lst ys=>obtain ⟨a,vs,rfl,h1,h2⟩:=k;cases r';obtain ⟨_,_,p,_⟩:=I.list h1;exact SeqAt.EqAt.bool_list _ p.isList (by simpa [dep] using hu)
 | .int x,y,v,v',u,u',A,h,k,r,r',hu=>by
  cases h;obtain ⟨t0,rfl⟩:=r
  cases y with
  | non=>cases k;cases r';exact SeqAt.EqAt.int_none _ _
  | bl b=>cases k;cases r';exact SeqAt.EqAt.int_bool _ _ _
  | int b=>cases k;obtain ⟨t,rfl⟩:=r';exact SeqAt.EqAt.int_int _ _ _ _
  | str b=>cases k;obtain ⟨t,rfl⟩:=r';exact SeqAt.EqAt.int_str _ _ _ _
  | tup ys=>obtain ⟨a,vs,rfl,h1,h2⟩:=k;cases r';obtain ⟨_,_,p,_⟩:=I.tuple h1;exact SeqAt.EqAt.int_tuple _ _ p (by simpa [dep] using hu)
  | lst ys=>obtain ⟨a,vs,rfl,h1,h2⟩:=k;cases r';obtain ⟨_,_,p,_⟩:=I.list h1;exact SeqAt.EqAt.int_list _ _ p.isList (by simpa [dep] using hu)
 | .str x,y,v,v',u,u',A,h,k,r,r',hu=>by
  cases h;obtain ⟨t0,rfl⟩:=r
  cases y with
  | non=>cases k;cases r';exact SeqAt.EqAt.str_none _ _
  | bl b=>cases k;cases r';exact SeqAt.EqAt.str_bool _ _ _
  | int b=>cases k;obtain ⟨t,rfl⟩:=r';exact SeqAt.EqAt.str_int _ _ _ _
  | str b=>cases k;obtain ⟨t,rfl⟩:=r';exact SeqAt.EqAt.str_str _ _ _ _
  | tup ys=>obtain ⟨a,vs,rfl,h1,h2⟩:=k;cases r';obtain ⟨_,_,p,_⟩:=I.tuple h1;exact SeqAt.EqAt.str_tuple _ _ p (by simpa [dep] using hu)
  | lst ys=>obtain ⟨a,vs,rfl,h1,h2⟩:=k;cases r';obtain ⟨_,_,p,_⟩:=I.list h1;exact SeqAt.EqAt.str_list _ _ p.isList (by simpa [dep] using hu)
 | .tup xs,y,v,v',u,u',A,h,k,r,r',hu=>by
  have h0:=h
  obtain ⟨a,vs,rfl,h1,h2⟩:=h
  cases r
  obtain ⟨is,r1,p1,_⟩:=I.tuple h1
  have hu0:A.units < cLine:=by omega
  have hu1:A.in1.units + eh xs < cLine:=by
   have e:dep (.tup xs)=eh xs + 1:=by rw [dep]
   rw [e] at hu
   show A.units + 1 + eh xs < cLine
   omega
  cases y with
  | non=>cases k;cases r';exact SeqAt.EqAt.tuple_none p1 hu0
  | bl b=>cases k;cases r';exact SeqAt.EqAt.tuple_bool _ p1 hu0
  | int b=>cases k;obtain ⟨t,rfl⟩:=r';exact SeqAt.EqAt.tuple_int _ _ p1 hu0
  | str b=>cases k;obtain ⟨t,rfl⟩:=r';exact SeqAt.EqAt.tuple_str _ _ p1 hu0
  | lst ys=>obtain ⟨b,us,rfl,k1,k2⟩:=k;cases r';obtain ⟨_,_,p,_⟩:=I.list k1;exact SeqAt.EqAt.tuple_list p1 p.isList hu0
  | tup ys =>
   have k0:=k
   obtain ⟨b,us,rfl,k1,k2⟩:=k
   cases r'
   by_cases hab:a=b
   ·subst hab
    rw [At.one I h0 k0]
    exact SeqAt.EqAt.same _
   ·obtain ⟨js,r2,p2,_⟩:=I.tuple k1
    refine SeqAt.EqAt.of_refs hab ?_
    have key:=SeqAt.RcAt.tuples (e:=C3 xs ys) p1 p2 hu0 λj q1 q2=>rF I xs ys h2 k2 r1 r2 hu1 j (by simpa using q1) (by simpa using q2)
    have e1:is.length=xs.length:=by rw [← r1.length,h2.length]
    have e2:js.length=ys.length:=by rw [← r2.length,k2.length]
    simp only [Tu] at key
    rw [e1,e2,jt] at key
    simpa [lH] using key
 | .lst xs,y,v,v',u,u',A,h,k,r,r',hu=>by
  have h0:=h
  obtain ⟨a,vs,rfl,h1,h2⟩:=h
  cases r
  obtain ⟨is,r1,p1,_⟩:=I.list h1
  have hu0:A.units < cLine:=by omega
  have hu1:A.in1.units + eh xs < cLine:=by
   have e:dep (.lst xs)=eh xs + 1:=by rw [dep]
   rw [e] at hu
   show A.units + 1 + eh xs < cLine
   omega
  cases y with
  | non=>cases k;cases r';exact SeqAt.EqAt.list_none p1.isList hu0
  | bl b=>cases k;cases r';exact SeqAt.EqAt.list_bool _ p1.isList hu0
  | int b=>cases k;obtain ⟨t,rfl⟩:=r';exact SeqAt.EqAt.list_int _ _ p1.isList hu0
  | str b=>cases k;obtain ⟨t,rfl⟩:=r';exact SeqAt.EqAt.list_str _ _ p1.isList hu0
  | tup ys=>obtain ⟨b,us,rfl,k1,k2⟩:=k;cases r';obtain ⟨_,_,p,_⟩:=I.tuple k1;exact SeqAt.EqAt.list_tuple p1.isList p hu0
  | lst ys =>
   have k0:=k
   obtain ⟨b,us,rfl,k1,k2⟩:=k
   cases r'
   by_cases hab:a=b
   ·subst hab
    rw [At.one I h0 k0]
    exact SeqAt.EqAt.same _
   ·obtain ⟨js,r2,p2,_⟩:=I.list k1
    refine SeqAt.EqAt.of_refs hab ?_
    have e1:is.length=xs.length:=by rw [← r1.length,h2.length]
    have e2:js.length=ys.length:=by rw [← r2.length,k2.length]
    have ae:=jt xs ys
    by_cases hl:xs.length=ys.length
    ·have key:=SeqAt.RcAt.lists (e:=C3 xs ys) p1.isList p2.isList (by simp only [Tu];omega) hu0 λj q1 q2=>rF I xs ys h2 k2 r1 r2 hu1 j (by simpa using q1) (by simpa using q2)
     simp only [Tu] at key
     rw [hl,VL] at ae
     have e3:(ys.length == ys.length)=true:=by simp
     rw [e3,UC] at ae
     rw [e1,hl,ae] at key
     simpa [lH] using key
    ·have key:=SeqAt.RcAt.lists_lengths p1.isList p2.isList (A:=A) (by simp only [Tu];rw [e1,e2];simpa using hl) hu0
     have e3:kj xs ys=false:=by
      rw [← ae]
      have:(xs.length == ys.length)=false:=by simpa using hl
      rw [this,U6]
     simpa [lH,e3] using key
theorem rF (I:Inv X pins σ H s):∀(xs ys:List Py) {vs us:List V} {is js:List Value} {A:Around},tL X.K H xs vs→tL X.K H ys us→Vals vs is→Vals us js→A.units + eh xs < cLine→∀j (h1:j < is.length) (h2:j < js.length),SeqAt.EqAt A s is[j] js[j] (C3 xs ys j)
 | [],ys,vs,us,is,js,A,h,k,r,r',hu,j,h1,h2=>by
  cases h;cases r;exact absurd h1 (U_ _)
 | x :: xs,[],vs,us,is,js,A,h,k,r,r',hu,j,h1,h2=>by
  cases k;cases r';exact absurd h2 (U_ _)
 | x :: xs,y :: ys,vs,us,is,js,A,h,k,r,r',hu,j,h1,h2=>by
  obtain ⟨v,vs',rfl,a1,a2⟩:=h
  obtain ⟨v',us',rfl,b1,b2⟩:=k
  cases r with
  | cons q1 q2 =>
   cases r' with
   | cons z1 z2 =>
    have e:eh (x :: xs)=max (dep x) (eh xs):=by rw [eh]
    rw [e] at hu
    cases j with
    | zero=>exact QJ I x y a1 b1 q1 z1 (by omega)
    | succ j =>
     have:=rF I xs ys a2 b2 q2 z2 (A:=A) (by omega) j (by simpa using h1) (by simpa using h2)
     simpa [C3] using this
end
theorem RJ (I:Inv X pins σ H s) (x y:Py) {v v':V} {u u':Value} {A:Around} (h:At X.K H x v) (k:At X.K H y v') (r:RelV v u) (r':RelV v' u') (hu:A.units + dep x < cLine):SeqAt.RcAt A s u u' (lH x y):=by
 have hu0:A.units < cLine:=by omega
 cases x with
 | non =>
  cases h;cases r
  cases y with
  | non=>cases k;cases r';exact SeqAt.RcAt.none_none
  | bl b=>cases k;cases r';exact SeqAt.RcAt.none_bool _
  | int b=>cases k;obtain ⟨t,rfl⟩:=r';exact SeqAt.RcAt.none_int _ _
  | str b=>cases k;obtain ⟨t,rfl⟩:=r';exact SeqAt.RcAt.none_str _ _
  | tup ys=>obtain ⟨b,us,rfl,k1,k2⟩:=k;cases r';obtain ⟨js,r2,p2,_⟩:=I.tuple k1;exact SeqAt.RcAt.none_tuple p2 hu0
  | lst ys=>obtain ⟨b,us,rfl,k1,k2⟩:=k;cases r';obtain ⟨js,r2,p2,_⟩:=I.list k1;exact SeqAt.RcAt.none_list p2.isList hu0
 | bl i =>
  cases h;cases r
  cases y with
  | non=>cases k;cases r';exact SeqAt.RcAt.bool_none _
  | bl b=>cases k;cases r';exact SeqAt.RcAt.bool_bool _ _
  | int b=>cases k;obtain ⟨t,rfl⟩:=r';exact SeqAt.RcAt.bool_int _ _ _
  | str b=>cases k;obtain ⟨t,rfl⟩:=r';exact SeqAt.RcAt.bool_str _ _ _
  | tup ys=>obtain ⟨b,us,rfl,k1,k2⟩:=k;cases r';obtain ⟨js,r2,p2,_⟩:=I.tuple k1;exact SeqAt.RcAt.bool_tuple _ p2 hu0
  | lst ys=>obtain ⟨b,us,rfl,k1,k2⟩:=k;cases r';obtain ⟨js,r2,p2,_⟩:=I.list k1;exact SeqAt.RcAt.bool_list _ p2.isList hu0
 | int i =>
  cases h;obtain ⟨t0,rfl⟩:=r
  cases y with
  | non=>cases k;cases r';exact SeqAt.RcAt.int_none _ _
  | bl b=>cases k;cases r';exact SeqAt.RcAt.int_bool _ _ _
  | int b=>cases k;obtain ⟨t,rfl⟩:=r';exact SeqAt.RcAt.int_int _ _ _ _
  | str b=>cases k;obtain ⟨t,rfl⟩:=r';exact SeqAt.RcAt.int_str _ _ _ _
  | tup ys=>obtain ⟨b,us,rfl,k1,k2⟩:=k;cases r';obtain ⟨js,r2,p2,_⟩:=I.tuple k1;exact SeqAt.RcAt.int_tuple _ _ p2 hu0
  | lst ys=>obtain ⟨b,us,rfl,k1,k2⟩:=k;cases r';obtain ⟨js,r2,p2,_⟩:=I.list k1;exact SeqAt.RcAt.int_list _ _ p2.isList hu0
 | str i =>
  cases h;obtain ⟨t0,rfl⟩:=r
  cases y with
  | non=>cases k;cases r';exact SeqAt.RcAt.str_none _ _
  | bl b=>cases k;cases r';exact SeqAt.RcAt.str_bool _ _ _
  | int b=>cases k;obtain ⟨t,rfl⟩:=r';exact SeqAt.RcAt.str_int _ _ _ _
  | str b=>cases k;obtain ⟨t,rfl⟩:=r';exact SeqAt.RcAt.str_str _ _ _ _
  | tup ys=>obtain ⟨b,us,rfl,k1,k2⟩:=k;cases r';obtain ⟨js,r2,p2,_⟩:=I.tuple k1;exact SeqAt.RcAt.str_tuple _ _ p2 hu0
  | lst ys=>obtain ⟨b,us,rfl,k1,k2⟩:=k;cases r';obtain ⟨js,r2,p2,_⟩:=I.list k1;exact SeqAt.RcAt.str_list _ _ p2.isList hu0
 | tup xs =>
  obtain ⟨a,vs,rfl,h1,h2⟩:=h
  cases r
  obtain ⟨is,r1,p1,_⟩:=I.tuple h1
  have hu1:A.in1.units + eh xs < cLine:=by
   have e:dep (.tup xs)=eh xs + 1:=by rw [dep]
   rw [e] at hu
   show A.units + 1 + eh xs < cLine
   omega
  cases y with
  | non=>cases k;cases r';exact SeqAt.RcAt.tuple_none p1 hu0
  | bl b=>cases k;cases r';exact SeqAt.RcAt.tuple_bool _ p1 hu0
  | int b=>cases k;obtain ⟨t,rfl⟩:=r';exact SeqAt.RcAt.tuple_int _ _ p1 hu0
  | str b=>cases k;obtain ⟨t,rfl⟩:=r';exact SeqAt.RcAt.tuple_str _ _ p1 hu0
  | tup ys =>
   obtain ⟨b,us,rfl,k1,k2⟩:=k;cases r';obtain ⟨js,r2,p2,_⟩:=I.tuple k1
   have e1:is.length=xs.length:=by rw [← r1.length,h2.length]
   have e2:js.length=ys.length:=by rw [← r2.length,k2.length]
   have ae:=jt xs ys
   have key:=SeqAt.RcAt.tuples (e:=C3 xs ys) p1 p2 hu0 λj q1 q2=>rF I xs ys h2 k2 r1 r2 hu1 j (by simpa using q1) (by simpa using q2)
   simp only [Tu] at key
   rw [e1,e2,ae] at key
   simpa [lH] using key
  | lst ys=>obtain ⟨b,us,rfl,k1,k2⟩:=k;cases r';obtain ⟨js,r2,p2,_⟩:=I.list k1;exact SeqAt.RcAt.tuple_list p1 p2.isList hu0
 | lst xs =>
  obtain ⟨a,vs,rfl,h1,h2⟩:=h
  cases r
  obtain ⟨is,r1,p1,_⟩:=I.list h1
  have hu1:A.in1.units + eh xs < cLine:=by
   have e:dep (.lst xs)=eh xs + 1:=by rw [dep]
   rw [e] at hu
   show A.units + 1 + eh xs < cLine
   omega
  cases y with
  | non=>cases k;cases r';exact SeqAt.RcAt.list_none p1.isList hu0
  | bl b=>cases k;cases r';exact SeqAt.RcAt.list_bool _ p1.isList hu0
  | int b=>cases k;obtain ⟨t,rfl⟩:=r';exact SeqAt.RcAt.list_int _ _ p1.isList hu0
  | str b=>cases k;obtain ⟨t,rfl⟩:=r';exact SeqAt.RcAt.list_str _ _ p1.isList hu0
  | tup ys=>obtain ⟨b,us,rfl,k1,k2⟩:=k;cases r';obtain ⟨js,r2,p2,_⟩:=I.tuple k1;exact SeqAt.RcAt.list_tuple p1.isList p2 hu0
  | lst ys =>
   obtain ⟨b,us,rfl,k1,k2⟩:=k;cases r';obtain ⟨js,r2,p2,_⟩:=I.list k1
   have e1:is.length=xs.length:=by rw [← r1.length,h2.length]
   have e2:js.length=ys.length:=by rw [← r2.length,k2.length]
   have ae:=jt xs ys
   by_cases hl:xs.length=ys.length
   ·have key:=SeqAt.RcAt.lists (e:=C3 xs ys) p1.isList p2.isList (by simp only [Tu];omega) hu0 λj q1 q2=>rF I xs ys h2 k2 r1 r2 hu1 j (by simpa using q1) (by simpa using q2)
    simp only [Tu] at key
    rw [hl,VL] at ae
    have e3:(ys.length == ys.length)=true:=by simp
    rw [e3,UC] at ae
    rw [e1,hl,ae] at key
    simpa [lH] using key
   ·have key:=SeqAt.RcAt.lists_lengths p1.isList p2.isList (A:=A) (by simp only [Tu];rw [e1,e2];simpa using hl) hu0
    have e3:kj xs ys=false:=by
     rw [← ae]
     have:(xs.length == ys.length)=false:=by simpa using hl
     rw [this,U6]
    simpa [lH,e3] using key
theorem Pw (I:Inv X pins σ H s) (x y:Py) {v v':V} {u u':Value} {A:Around} (h:At X.K H x v) (k:At X.K H y v') (r:RelV v u) (r':RelV v' u') (hu:A.units + dep x < cLine):SeqAt.RcNeAt A s u u' (!lH x y):=by
 have hu0:A.units < cLine:=by omega
 cases x with
 | non =>
  cases h;cases r
  cases y with
  | non=>cases k;cases r';exact SeqAt.RcNeAt.none_none
  | bl b=>cases k;cases r';exact SeqAt.RcNeAt.none_bool _
  | int b=>cases k;obtain ⟨t,rfl⟩:=r';exact SeqAt.RcNeAt.none_int _ _
  | str b=>cases k;obtain ⟨t,rfl⟩:=r';exact SeqAt.RcNeAt.none_str _ _
  | tup ys=>obtain ⟨b,us,rfl,k1,k2⟩:=k;cases r';obtain ⟨js,r2,p2,_⟩:=I.tuple k1;exact SeqAt.RcNeAt.none_tuple p2 hu0
  | lst ys=>obtain ⟨b,us,rfl,k1,k2⟩:=k;cases r';obtain ⟨js,r2,p2,_⟩:=I.list k1;exact SeqAt.RcNeAt.none_list p2.isList hu0
 | bl i =>
  cases h;cases r
  cases y with
  | non=>cases k;cases r';exact SeqAt.RcNeAt.bool_none _
  | bl b=>cases k;cases r';exact SeqAt.RcNeAt.bool_bool _ _
  | int b=>cases k;obtain ⟨t,rfl⟩:=r';exact SeqAt.RcNeAt.bool_int _ _ _
  | str b=>cases k;obtain ⟨t,rfl⟩:=r';exact SeqAt.RcNeAt.bool_str _ _ _
  | tup ys=>obtain ⟨b,us,rfl,k1,k2⟩:=k;cases r';obtain ⟨js,r2,p2,_⟩:=I.tuple k1;exact SeqAt.RcNeAt.bool_tuple _ p2 hu0
  | lst ys=>obtain ⟨b,us,rfl,k1,k2⟩:=k;cases r';obtain ⟨js,r2,p2,_⟩:=I.list k1;exact SeqAt.RcNeAt.bool_list _ p2.isList hu0
 | int i =>
  cases h;obtain ⟨t0,rfl⟩:=r
  cases y with
  | non=>cases k;cases r';exact SeqAt.RcNeAt.int_none _ _
  | bl b=>cases k;cases r';exact SeqAt.RcNeAt.int_bool _ _ _
  | int b=>cases k;obtain ⟨t,rfl⟩:=r';exact SeqAt.RcNeAt.int_int _ _ _ _
  | str b=>cases k;obtain ⟨t,rfl⟩:=r';exact SeqAt.RcNeAt.int_str _ _ _ _
  | tup ys=>obtain ⟨b,us,rfl,k1,k2⟩:=k;cases r';obtain ⟨js,r2,p2,_⟩:=I.tuple k1;exact SeqAt.RcNeAt.int_tuple _ _ p2 hu0
  | lst ys=>obtain ⟨b,us,rfl,k1,k2⟩:=k;cases r';obtain ⟨js,r2,p2,_⟩:=I.list k1;exact SeqAt.RcNeAt.int_list _ _ p2.isList hu0
 | str i =>
  cases h;obtain ⟨t0,rfl⟩:=r
  cases y with
  | non=>cases k;cases r';exact SeqAt.RcNeAt.str_none _ _
  | bl b=>cases k;cases r';exact SeqAt.RcNeAt.str_bool _ _ _
  | int b=>cases k;obtain ⟨t,rfl⟩:=r';exact SeqAt.RcNeAt.str_int _ _ _ _
  | str b=>cases k;obtain ⟨t,rfl⟩:=r';exact SeqAt.RcNeAt.str_str _ _ _ _
  | tup ys=>obtain ⟨b,us,rfl,k1,k2⟩:=k;cases r';obtain ⟨js,r2,p2,_⟩:=I.tuple k1;exact SeqAt.RcNeAt.str_tuple _ _ p2 hu0
  | lst ys=>obtain ⟨b,us,rfl,k1,k2⟩:=k;cases r';obtain ⟨js,r2,p2,_⟩:=I.list k1;exact SeqAt.RcNeAt.str_list _ _ p2.isList hu0
 | tup xs =>
  obtain ⟨a,vs,rfl,h1,h2⟩:=h
  cases r
  obtain ⟨is,r1,p1,_⟩:=I.tuple h1
  have hu1:A.in1.units + eh xs < cLine:=by
   have e:dep (.tup xs)=eh xs + 1:=by rw [dep]
   rw [e] at hu
   show A.units + 1 + eh xs < cLine
   omega
  cases y with
  | non=>cases k;cases r';exact SeqAt.RcNeAt.tuple_none p1 hu0
  | bl b=>cases k;cases r';exact SeqAt.RcNeAt.tuple_bool _ p1 hu0
  | int b=>cases k;obtain ⟨t,rfl⟩:=r';exact SeqAt.RcNeAt.tuple_int _ _ p1 hu0
  | str b=>cases k;obtain ⟨t,rfl⟩:=r';exact SeqAt.RcNeAt.tuple_str _ _ p1 hu0
  | tup ys =>
   obtain ⟨b,us,rfl,k1,k2⟩:=k;cases r';obtain ⟨js,r2,p2,_⟩:=I.tuple k1
   have e1:is.length=xs.length:=by rw [← r1.length,h2.length]
   have e2:js.length=ys.length:=by rw [← r2.length,k2.length]
   have ae:=jt xs ys
   have key:=SeqAt.RcNeAt.tuples (e:=C3 xs ys) p1 p2 hu0 λj q1 q2=>rF I xs ys h2 k2 r1 r2 hu1 j (by simpa using q1) (by simpa using q2)
   simp only [Tu] at key
   rw [e1,e2,ae] at key
   simpa [lH] using key
  | lst ys=>obtain ⟨b,us,rfl,k1,k2⟩:=k;cases r';obtain ⟨js,r2,p2,_⟩:=I.list k1;exact SeqAt.RcNeAt.tuple_list p1 p2.isList hu0
 | lst xs =>
  obtain ⟨a,vs,rfl,h1,h2⟩:=h
  cases r
  obtain ⟨is,r1,p1,_⟩:=I.list h1
  have hu1:A.in1.units + eh xs < cLine:=by
   have e:dep (.lst xs)=eh xs + 1:=by rw [dep]
   rw [e] at hu
   show A.units + 1 + eh xs < cLine
   omega
  cases y with
  | non=>cases k;cases r';exact SeqAt.RcNeAt.list_none p1.isList hu0
  | bl b=>cases k;cases r';exact SeqAt.RcNeAt.list_bool _ p1.isList hu0
  | int b=>cases k;obtain ⟨t,rfl⟩:=r';exact SeqAt.RcNeAt.list_int _ _ p1.isList hu0
  | str b=>cases k;obtain ⟨t,rfl⟩:=r';exact SeqAt.RcNeAt.list_str _ _ p1.isList hu0
  | tup ys=>obtain ⟨b,us,rfl,k1,k2⟩:=k;cases r';obtain ⟨js,r2,p2,_⟩:=I.tuple k1;exact SeqAt.RcNeAt.list_tuple p1.isList p2 hu0
  | lst ys =>
   obtain ⟨b,us,rfl,k1,k2⟩:=k;cases r';obtain ⟨js,r2,p2,_⟩:=I.list k1
   have e1:is.length=xs.length:=by rw [← r1.length,h2.length]
   have e2:js.length=ys.length:=by rw [← r2.length,k2.length]
   have ae:=jt xs ys
   by_cases hl:xs.length=ys.length
   ·have key:=SeqAt.RcNeAt.lists (e:=C3 xs ys) p1.isList p2.isList (by simp only [Tu];omega) hu0 λj q1 q2=>rF I xs ys h2 k2 r1 r2 hu1 j (by simpa using q1) (by simpa using q2)
    simp only [Tu] at key
    rw [hl,VL] at ae
    have e3:(ys.length == ys.length)=true:=by simp
    rw [e3,UC] at ae
    rw [e1,hl,ae] at key
    simpa [lH] using key
   ·have key:=SeqAt.RcNeAt.lists_lengths p1.isList p2.isList (A:=A) (by simp only [Tu];rw [e1,e2];simpa using hl) hu0
    have e3:kj xs ys=false:=by
     rw [← ae]
     have:(xs.length == ys.length)=false:=by simpa using hl
     rw [this,U6]
    simpa [lH,e3] using key
def rP (K:PySem.W.Frag) (f:Bool→Bool):R2:=λv v' H Q=>∃x y:Py,At K H x v∧At K H y v'∧dep x≤60∧Q (.bl (f (lH x y))) H
theorem Ml (hu:X.A.units + 61 < cLine):fT X (compareOp .Eq) (rP X.K id):=by
 intro pins s σ H x y v u Q I rx ry h
 obtain ⟨a,b,h1,h2,d,q⟩:=h
 exact RJ I a b h1 h2 rx ry (by omega) X.prog X.w X.xe _ ⟨.bl _,H,I,rfl,q⟩
theorem Mo (hu:X.A.units + 61 < cLine):fT X (compareOp .NotEq) (rP X.K not):=by
 intro pins s σ H x y v u Q I rx ry h
 obtain ⟨a,b,h1,h2,d,q⟩:=h
 exact Pw I a b h1 h2 rx ry (by omega) X.prog X.w X.xe _ ⟨.bl _,H,I,rfl,q⟩
end
end Ov
namespace Ov
open PySem PySem.Spec PySem.Calls PyProof.Rows PySem.W Builtin.Getset_descriptor
section
variable {prog:Program} {w:World} {A:Around} {E:Value→Shared→Prop} {s:Shared} {K:Frag} {x D:Addr}
structure Hy (K:Frag) (D:Addr):Prop where
 cls:(clsIn K D).isSome=true
 ga:findIn K (.ref D) "__getattribute__"=some (some (.builtin "BaseException.__getattribute__"))
 gt:findIn K (.ref D) "__getattr__"=some none
 ca:findIn K (.ref D) "__class__"=some (some (.builtin "object.__class__"))
 get:specialIn K (.builtin "object.__class__") "__get__"=some (some (.builtin "getset_descriptor.__get__"))
 tk:takesIn K (.builtin "object.__class__")=some true
 obj:mroIn K D (.type "object")=some true
 bex:subIn K (.ref D) (.type "BaseException")=some true
theorem Hy.at {h:Heap} (Z:Hy K D) (X:K.In h):∃c d cd sl,h.get? D=some ⟨c,d,.cls cd,sl⟩:=by
 obtain ⟨cd,q⟩:=Vh.mp Z.cls
 unfold clsIn at q
 split at q
 ·exact ⟨_,_,_,_,X _ _ (by assumption)⟩
 ·cases q
end
end Ov
namespace Ov
open PySem PySem.Spec PyProof.Rows L2
structure Ba (P:Program) (w:World) (outer:List Env) (H:Hp) (s:Shared) (ea:Addr) (cls:Value) (H':Hp) (s':Shared):Prop where
 os:s'.os=s.os
 bare:AllBare s'.gens
 un:Un (j7 outer) [] H H' s.heap s'.heap
 hok:mT P w H' s'.heap
 fl:∃B t,Heap.FlyingW B outer ea cls (.ref t) s'.heap∧∀b o,s'.heap.get? b=some o→(H' b≠none∨∃o₀,s.heap.get? b=some o₀)→b ∉ j7 outer→B.get? b=some o
def c8 (P:Program) (w:World):qW:=λouter H s E e s'=>∃ea cls H',e=.ref ea∧Ba P w outer H s ea cls H' s'∧E cls none H'
theorem Ij {P:Program} {w:World} {H:Hp} {h:Heap} {a:Addr} {o:HO} (x:dF P w H h a o):∃ob,h.get? a=Uh ob:=by
 have lt:=x.lt
 cases o with
 | lst xs=>obtain ⟨_,_,_,_,e⟩:=x;exact ⟨_,e⟩
 | tup xs=>obtain ⟨_,_,_,ob,e,_⟩:=x;exact ⟨_,e⟩
 | dK kvs=>obtain ⟨_,_,_,_,o,_,_,e,_⟩:=x;exact ⟨_,e⟩
 | dE kvs ep=>obtain ⟨_,_,_,_,o,_,e,_⟩:=x;exact ⟨_,e⟩
 | set S n=>obtain ⟨o,_,_,_,e,_⟩:=x;exact ⟨_,e⟩
 | ins C dx fs=>obtain ⟨_,_,_,e,_⟩:=x;exact ⟨_,e⟩
 | own y=>exact x
 | xd fs=>obtain ⟨_,⟨_,_,_,e,_⟩,_⟩:=x;exact ⟨_,e⟩
 | Ny lo hi=>obtain ⟨_,_,_,e⟩:=x;exact ⟨_,e⟩
 | oN ob u=>obtain ⟨e,_⟩:=x;exact ⟨_,e⟩
 | tbl ps=>exact ⟨_,x⟩
 | met f y=>exact ⟨_,x⟩
 | ext φ=>obtain ⟨_,e,_⟩:=x;exact e
section
variable {X:Cx} {pins:List (Addr × Obj)} {σ:L2.St} {H H':Hp} {s:Shared} {ea t:Addr} {cls:Value} {B h1 h2:Heap}
theorem km (I:Inv X pins σ H s) (un:Un (j7 X.stack) [] H H' s.heap h1) {b:Addr} (hb:b∈j7 X.stack):H' b=none∧∃o,h1.get? b=some o∧∀vs,o.data≠.fields vs:=by
 obtain ⟨_,o,ho,hn⟩:=I.stack.mem hb
 have n:=I.xB b hb
 obtain ⟨sl,e⟩:=un.any ho n (by simp)
 exact ⟨un.free b o ho n (by simp),_,e,hn⟩
theorem BG (I:Inv X pins σ H s) (un:Un (j7 X.stack) [] H H' s.heap h1) (cov:∀b o,h1.get? b=some o→(H' b≠none∨∃o₀,s.heap.get? b=some o₀)→b ∉ j7 X.stack→B.get? b=some o)
  (hB:B.StaysIn h2) (up:h1.UpToSlots h2):Un (j7 X.stack) [] H H' s.heap h2 where
 keep:=λb o e n hb hx=>hB b o (cov b o (un.keep b o e n hb hx) (.inr ⟨o,e⟩) hb)
 slot:=λb o e n hb hx=>by
  obtain ⟨sl,e1⟩:=un.slot b o e n hb hx
  obtain ⟨_,o',e2,hn⟩:=km I un hb
  rw [e1] at e2;cases e2
  obtain ⟨sl',e3⟩:=up b _ e1 hn
  exact ⟨sl',e3⟩
 free:=un.free
 there:=λb o e hx=>by
  obtain ⟨o',e1⟩:=un.there b o e hx
  by_cases hb:b∈j7 X.stack
  ·obtain ⟨_,o2,e2,hn⟩:=km I un hb
   obtain ⟨sl',e3⟩:=up b _ e2 hn
   exact ⟨_,e3⟩
  ·exact ⟨o',hB b o' (cov b o' e1 (.inr ⟨o,e⟩) hb)⟩
 tups:=un.tups
 frzs:=un.frzs
 tbls:=un.tbls
theorem BF (I:Inv X pins σ H s) (un:Un (j7 X.stack) [] H H' s.heap h1) (cov:∀b o,h1.get? b=some o→(H' b≠none∨∃o₀,s.heap.get? b=some o₀)→b ∉ j7 X.stack→B.get? b=some o)
  (hB:B.StaysIn h2) (ok:mT X.prog X.w H' h1):mT X.prog X.w H' h2:=λa o e=>by
 have nf:∀b u,H' b=some u→b ∉ j7 X.stack:=λb u q hb=>by
  have:=(km I un hb).1
  rw [q] at this;cases this
 refine (ok a o e).mQ (λb u hb q=>?_) (λ_ q=>q) λ_ _ q=>q
 rcases hb with rfl | hb
 ·exact hB _ _ (cov _ _ q (.inl (by rw [e];exact λz=>nomatch z)) (nf _ _ e))
 ·exact hB _ _ (cov _ _ q (.inl (by rw [hb];exact λz=>nomatch z)) (nf _ _ hb))
theorem EC (un:Un (j7 X.stack) [] H H' s.heap h1) (ok:mT X.prog X.w H' h1) (cov:∀b o,h1.get? b=some o→(H' b≠none∨∃o₀,s.heap.get? b=some o₀)→b ∉ j7 X.stack→B.get? b=some o) (hB:B.StaysIn h2) :
  ∀b o,h2.get? b=some o→(H' b≠none∨∃o₀,s.heap.get? b=some o₀)→b ∉ j7 X.stack→B.get? b=some o:=λb o e hb nb=>by
 have:∃o1,h1.get? b=some o1:=by
  rcases hb with z | ⟨o₀,z⟩
  ·cases q:H' b with
   | none=>exact absurd q z
   | some u=>exact Ij (ok b u q)
  ·exact un.there b o₀ z (by simp)
 obtain ⟨o1,e1⟩:=this
 have c:=cov b o1 e1 hb nb
 have:=hB b o1 c
 rw [e] at this;cases this
 exact c
theorem Bz {s2:Shared} (I:Inv X pins σ H s) (hst:X.stack=X.env :: X.outer) (hfr:X.env.frame=some X.env.locals) (hex:X.ex=[]) (os:s2.os=s.os) (bare:AllBare s2.gens) (un:Un (j7 X.stack) [] H H' s.heap s2.heap)
  (ok:mT X.prog X.w H' s2.heap) (cov:∀b o,s2.heap.get? b=some o→(H' b≠none∨∃o₀,s.heap.get? b=some o₀)→b ∉ j7 X.stack→B.get? b=some o) (fl:Heap.FlyingW B X.outer ea cls (.ref t) s2.heap) :
  Ba X.prog X.w X.outer X.H₀ X.s₀ ea cls H' s2:=by
 have nst:∀b o,X.s₀.heap.get? b=some o→b ∉ X.fs→b ∉ j7 X.stack:=λb o e nb hb=>by
  rcases TC.mp (I.pK b hb) with z | z
  ·have:=TF (Heap.lt_size e) I.ok.above
   rw [z] at this
   exact Us _ this
  ·exact nb z
 have sub:∀b,b∈X.fs→b∈j7 X.stack:=λb hb=>by rw [hst];unfold j7;rw [Ug,hfr];exact TQ _ hb
 have nx:∀b:Addr,b ∉ X.ex:=λb=>by rw [hex];simp
 refine ⟨os.trans I.os,bare,⟨λb o e n hb _=>?_,λb o e n hb _=>?_,λb o e n _=>?_,λb o e _=>?_,λb xs q=>un.tups b xs (I.base.tups b xs q),λb o xs q=>un.frzs b o xs (I.base.frzs b o xs q),λb ps q=>?_⟩,ok,B,t,fl,λb o e hb nb=>?_⟩
 ·exact un.keep b o (I.base.keep b o e n hb (nx b)) (I.base.free b o e n (nx b)) (nst b o e hb) (by simp)
 ·obtain ⟨sl,e1⟩:=I.base.slot b o e n hb (nx b)
  obtain ⟨sl',e2⟩:=un.slot b _ e1 (I.base.free b o e n (nx b)) (sub b hb) (by simp)
  exact ⟨sl',e2⟩
 ·obtain ⟨o',e1⟩:=I.base.there b o e (nx b)
  exact un.free b o' e1 (I.base.free b o e n (nx b)) (by simp)
 ·obtain ⟨o',e1⟩:=I.base.there b o e (nx b)
  exact un.there b o' e1 (by simp)
 ·obtain ⟨m1,e1⟩:=I.base.tbls b ps q
  obtain ⟨m2,e2⟩:=un.tbls b _ e1
  exact ⟨m1 ++ m2,by rw [e2,Array.append_assoc]⟩
 ·rcases hb with z | ⟨o₀,z⟩
  ·exact cov b o e (.inl z) λhb=>z (km I un hb).1
  ·obtain ⟨o1,e1⟩:=I.base.there b o₀ z (nx b)
   exact cov b o e (.inr ⟨o1,e1⟩) (nst b o₀ z nb)
theorem Dg {E:XK} {e:Value} {s':Shared} {R:Value→Shared→Prop} (I:Inv X pins σ H s) (hst:X.stack=X.env :: X.outer) (hfr:X.env.frame=some X.env.locals) (hex:X.ex=[]) (h:c8 X.prog X.w X.stack H s E e s') :
  wpAny (model X.prog X.w) X.A (leaving X.env e) (λ_ s''=>c8 X.prog X.w X.outer X.H₀ X.s₀ E e s'') R s':=by
 obtain ⟨ea,cls,H',rfl,F,q⟩:=h
 obtain ⟨B,t,fl,cov⟩:=F.fl
 refine wpAny_leaves_onW (by rw [I.ok.frames,hst]) hfr (hst ▸ fl) λh2 fl2 up=>?_
 exact ⟨ea,cls,H',rfl,Bz (s2:={ s' with heap:=h2 }) I hst hfr hex F.os F.bare (BG I F.un cov fl2.1 up) (BF I F.un cov fl2.1 F.hok) (EC F.un F.hok cov fl2.1) fl2,q⟩
theorem leave_new {E:XK} {e C:Addr} {args:List Value} {h':Heap} {R:Value→Shared→Prop} (I:Inv X pins σ H s) (hst:X.stack=X.env :: X.outer) (hfr:X.env.frame=some X.env.locals) (hex:X.ex=[])
  (hx:Heap.MadeExcOf s.heap h' e (.ref C) args) (q:E (.ref C) none H) :
  wpAny (model X.prog X.w) X.A (leaving X.env (.ref e)) (λ_ s''=>c8 X.prog X.w X.outer X.H₀ X.s₀ E (.ref e) s'') R { s with heap:=h' }:=by
 have hin:∀env∈X.env :: X.outer,∀a,env.frame=some a→a∈j7 X.stack:=λenv he a ha=>by rw [hst];exact UQ.mpr ⟨env,he,ha⟩
 have cov:∀b o,s.heap.get? b=some o→(H b≠none∨∃o₀,s.heap.get? b=some o₀)→b ∉ j7 X.stack→(PySem.W.hideAll s.heap (j7 X.stack)).get? b=some o:=λb o e _ nb=>PySem.W.hideAll_get _ e nb
 refine wpAny_leaves_madeW (base:=PySem.W.hideAll s.heap (j7 X.stack)) (by rw [I.ok.frames,hst]) hfr (λb o z=>PySem.W.of_hideAll _ z) (PySem.W.funFrames_hide (hst ▸ I.stack) hin) hx λh2 t fl _ _ up=>?_
 have up2:s.heap.UpToSlots h2:=(Heap.UpToSlots.of_keeps hx.keeps).trans up
 exact ⟨e,.ref C,H,rfl,Bz (s2:={ s with heap:=h2 }) I hst hfr hex rfl I.bare (BG I Un.refl cov fl.1 up2) (BF I Un.refl cov fl.1 I.hok) (EC Un.refl I.hok cov fl.1) fl,q⟩
end
abbrev QC:List Value:=[.type "ValueError",.type "Exception",.type "BaseException",.type "object"]
structure Own (K:PySem.W.Frag) (mg:Str→Option Value) (x:Str) (C:Addr):Prop where
 mg:mg x=some (.ref C)
 own:PySem.W.excIn K C QC "ValueError.__new__"=true
 xc:Hy K C
theorem IA {K:PySem.W.Frag} {h:Heap} {C:Addr} {bmB:List Value} {newId:String} (X:K.In h) (q:PySem.W.excIn K C bmB newId=true) :
  ∃bm N nm qn bs hd sn sub ab col dd k0 k1 k2 k3 k5 mN,h.get? C=some (excClassObj nm qn C N bs bm hd sn sub ab col dd k0 k1 k2 k3 k5 newId)∧h.Ns N mN∧mN "__init__"=none∧OwnTail h bmB bm:=by
 unfold PySem.W.excIn at q
 split at q
 ·next dd cd sl ho =>
  split at q
  ·next C' bm k0 k1 k2 k3 n k5 hm hs =>
   simp only [beq_iff_eq,T4,VH] at q
   obtain ⟨⟨⟨⟨⟨rfl,rfl⟩,e3⟩,e4⟩,e5⟩,e6⟩:=q
   cases cd with
   | mk nm bs mro ns qn hd sn sub ab col del =>
    have hm:mro=.ref C' :: bm:=hm
    have e3:del=false:=e3
    subst hm;subst e3
    have hsl:sl=#[k0,k1,k2,k3,some (.builtin n),k5]:=Array.toList_inj.mp hs
    subst hsl
    exact ⟨bm,ns,nm,qn,bs,hd,sn,sub,ab,col,dd,k0,k1,k2,k3,k5,_,X _ _ ho,.of_isNs (PySem.W.isNs_of_in X e5),PySem.W.nsMap_none_of_in X e5 e6,PySem.W.tail_of_in X e4⟩
  ·cases q
 ·cases q
def M4 (C:Addr) (E:XK) (t:TA):TS:=λ_ σ H=>t σ H λvs H1=>vs.length≤sizeLine∧E (.ref C) none H1
def Throws (X:Cx) (E:XK):Prop:=∀(pins:List (Addr × Obj)) (σ:L2.St) (H:Hp) (s:Shared) (e C:Addr) (args:List Value) (h':Heap),Inv X pins σ H s→Heap.MadeExcOf s.heap h' e (.ref C) args→E (.ref C) none H→X.xe (.ref e) { s with heap:=h' }
theorem DR {X:Cx} {E:XK} {x:Str} {C:Addr} {e:Expr} {es:List Expr} {np cpos pos:Pos} {t:TA} (O:Own X.K X.mg x C) (hc:X.calm=true) (hx:Throws X E) (hg:Gl X x) (ha:PA X (e :: es) t)
  (hd:(x == ("__debug__":Str))=false:=by decide) (he:starEach (e :: es) X.env=(false,eval e X.env) :: starEach es X.env:=by rfl) (hpl:(backTo cpos (starEach es X.env)).any (·.1)=false:=by rfl) :
  PS X (.Raise (some (.Call (.Name x np) (e :: es) [] cpos)) none pos) (M4 C E t):=by
 intro pins s σ H D I h
 obtain ⟨bm,N,nm,qn,bs,hd',sn,sub,ab,col,dd,k0,k1,k2,k3,k5,mN,hC,hN,hni,T⟩:=IA I.mod.kin O.own
 have hplain:(backTo cpos (starEach (e :: es) X.env)).any (·.1)=false:=by
  rw [he]
  show (false || (backTo cpos (starEach es X.env)).any (·.1))=false
  rw [hpl];rfl
 refine wpAny_Raise_call_subT (C:=C) (N:=N) (nm:=nm) (q:=qn) (bs:=bs) (hdct:=hd') (sn:=sn) (sub:=sub) (ab:=ab) (col:=col) (dd:=dd) (k0:=k0) (k1:=k1) (k2:=k2) (k3:=k3) (k5:=k5) PySem.F.excBase_ValueError (T.hasType (by decide +kernel)) (I.ok.hd hc) hplain hni ?_
 refine nA I hg O.mg ⟨rfl,?_⟩ hd
 have key:=cE (ha cpos pins s σ H _ I h) (Q':=λus s1=>us.length≤sizeLine∧s1.heap.get? C=some (excClassObj nm qn C N bs bm hd' sn sub ab col dd k0 k1 k2 k3 k5 "ValueError.__new__")∧s1.heap.Ns N mN∧OwnTail s1.heap QC bm ∧
  ∀h' e,Heap.MadeExcOf s1.heap h' e (.ref C) us→X.xe (.ref e) { s1 with heap:=h' }) λus s1 ⟨vs,H1,I1,r,z,q⟩ =>
   ⟨by rw [← r.length];exact z,I1.bk _ _ hC,hN.keeps I1.bk,T.keeps I1.bk,λh' ea hm=>hx pins σ H1 s1 ea C us h' I1 hm q⟩
 rw [he] at key ⊢
 exact PySem.Calls.evalArgs_plain (cE key λ_ _ z=>⟨rfl,z⟩)
section
variable {P:Program} {w:World} {K:PySem.W.Frag} {mg:Str→Option Value} {base:Heap} {N:List Str} {qual:Str} {scope:Scope} {f:Addr} {cd:Value} {A:Around} {outer:List Env} {s:Shared} {H:Hp} {E:XK}
abbrev zl (P:Program) (w:World) (K:PySem.W.Frag) (mg:Str→Option Value) (base:Heap) (N:List Str) (qual:Str) (scope:Scope) (f:Addr) (cd:Value) (A:Around) (outer:List Env) (s:Shared) (H:Hp) (E:XK):Cx:=vR (c8 P w) P w K mg base N qual scope f cd A outer s H E
theorem cy:Throws (zl P w K mg base N qual scope f cd A outer s H E) E:=λpins σ H1 s1 e C args h' I hm q =>
 leave_new (X:=zl P w K mg base N qual scope f cd A outer s H E) I rfl rfl rfl hm q
theorem zO:Passes (c8 P w) (zl P w K mg base N qual scope f cd A outer s H E) E:=λpins σ H1 s1 e s' I h =>
 Dg (X:=zl P w K mg base N qual scope f cd A outer s H E) I rfl rfl rfl h
theorem bQ:PassesOwn (model P w) (zl P w K mg base N qual scope f cd A outer s H E).A (zl P w K mg base N qual scope f cd A outer s H E).env (zl P w K mg base N qual scope f cd A outer s H E).xe:=PassesOwn.leaving
theorem Tc {x qual:Str} {st:Stmt} {f:Addr} {fd:FuncData} {N ps:List Str} {k:Nat} {sp:Sp} (F:cm K x qual st f fd) (S:aw N ps (aj st)) (len:∀vs H Q E,sp vs H Q E→vs.length=ps.length)
  (hbody:∀(cdv:Value) (A:Around) (outer:List Env) (s:Shared) (H:Hp) (vs:List V) (Q:VK) (E:XK),bW k (A.deeper (envOfC qual (aj st) s.heap.objs.size f cdv))→sp vs H Q E →
   ∃t,QB (zl P w K mg base N qual (aj st) f cdv A outer s H E) (cb st) t∧t { nx:=λ_ H'=>Q .non H',rt:=Q } (start N vs) H):aP P w K mg base (c8 P w) (k + 1) f fd ps sp:=by
 obtain ⟨oc,od,kV,doc,pm,an,cdv,ct,osl,rfl,lk,hcd⟩:=F.ex
 refine EN lk hcd S len λA outer s H vs Q E hr hsp=>?_
 obtain ⟨t,h,q⟩:=hbody cdv A outer s H vs Q E hr hsp
 exact ⟨t,h.run,q⟩
end
def Ea (P:Program) (w:World) (K:PySem.W.Frag) (mg:Str→Option Value) (base:Heap) (k:Nat) (x:Str) (ps:List Str) (sp:Sp):Prop :=
 ∃f fd,aP P w K mg base (c8 P w) k f fd ps sp∧Binds K fd ps []∧PySem.W.keepIn K (.ref f)=true∧mg x=some (.ref f)
theorem IB {X:Cx} {k k':Nat} {x:Str} {ps:List Str} {sp:Sp} {p pos:Pos} {e:Expr} {es:List Expr} {t:TA} {E:XK} (C:Ea X.prog X.w X.K X.mg X.base k x ps sp) (hx:Passes (c8 X.prog X.w) X E) (hr:bW k' X.A) (hk:k≤k') (hg:Gl X x) (ha:PA X (e :: es) t)
  (hdb:(x == ("__debug__":Str))=false:=by decide) (he:starEach (e :: es) X.env=(false,eval e X.env) :: starEach es X.env:=by rfl) (hpl:(backTo pos (starEach es X.env)).any (·.1)=false:=by rfl) :
  PE X (.Call (.Name x p) (e :: es) [] pos) (tD sp [] E t):=by
 obtain ⟨f,fd,F,b,kp,m⟩:=C
 exact BV F (hr.mono hk) hg m kp b .nil hx ha hdb he hpl
theorem Def.QF {P:Program} {w:World} {K:PySem.W.Frag} {mg:Str→Option Value} {base:Heap} {x:Str} {st:Stmt} {k:Nat} {ps:List Str} {sp:Sp} (D:Def K mg x st)
  (h:∀f fd,cm K x x st f fd→aP P w K mg base (c8 P w) k f fd ps sp)
  (hb:∀(kV doc pm:Value) (an:Option Addr) (cdv ct:Value) (us:List Value),us.length=ps.length→bindArgs (PySem.W.fnOf x x (dA st) (cb st) (aj st) .none kV doc pm an cdv ct) ⟨us,[]⟩=pure (ps.zip us)) :
  Ea P w K mg base k x ps sp:=by
 obtain ⟨f,fd,F,m⟩:=D
 exact ⟨f,fd,h f fd F,F.binds hb,F.kp,m⟩
section
variable {X:Cx} {pins pn:List (Addr × Obj)} {σ:L2.St} {H H':Hp} {s:Shared}
theorem Ba.new {ea:Addr} {cls:Value} {s':Shared} (I:Inv X pins σ H s) (F:Ba X.prog X.w X.stack H s ea cls H' s'):H' ea=none∧s.heap.get? ea=none:=by
 obtain ⟨B,t,fl,cov⟩:=F.fl
 obtain ⟨oe,vs,he,_,hd,_⟩:=fl.first
 have nf:ea ∉ j7 X.stack:=λhb=>by
  obtain ⟨_,o,ho,hn⟩:=km I F.un hb
  rw [he] at ho;cases ho
  exact hn vs hd
 have no:¬ (H' ea≠none∨∃o₀,s.heap.get? ea=some o₀):=λz=>by
  have:=cov ea oe he z nf
  rw [fl.2.1] at this;cases this
 refine ⟨?_,?_⟩
 ·cases q:H' ea with
  | none=>rfl
  | some u=>exact absurd (.inl (by rw [q];exact λz=>nomatch z)) no
 ·cases q:s.heap.get? ea with
  | none=>rfl
  | some u=>exact absurd (.inr ⟨u,q⟩) no
end
end Ov
namespace Ov
open PySem PySem.Spec PyProof.Rows
open L2 (V HO Hp Inv Cx St VK TE TT TA TS Ends Loc Gl RelV Vals fT cx tD upd E0 bW XK Passes)
section
variable {X:Cx} {e:Expr} {es:List Expr} {t:TA} {x:Str} {np cpos pos p:Pos}
end
open PySem.W in
def G5 (K:Frag) (D:Addr):Bool:=(clsIn K D).isSome && findIn K (.ref D) "__getattribute__" == some (some (.builtin "BaseException.__getattribute__")) && findIn K (.ref D) "__getattr__" == some none &&
 findIn K (.ref D) "__class__" == some (some (.builtin "object.__class__")) && specialIn K (.builtin "object.__class__") "__get__" == some (some (.builtin "getset_descriptor.__get__")) && takesIn K (.builtin "object.__class__") == some true &&
 mroIn K D (.type "object") == some true && subIn K (.ref D) (.type "BaseException") == some true
theorem JP {K:PySem.W.Frag} {D:Addr} (h:G5 K D=true):Hy K D:=by
 simp only [G5,T4,beq_iff_eq] at h
 obtain ⟨⟨⟨⟨⟨⟨⟨a,b⟩,c⟩,d⟩,e⟩,f⟩,g⟩,i⟩:=h
 exact ⟨a,b,c,d,e,f,g,i⟩
open L2 (A2 GQ zh A4 DY tC KZ rH)
theorem _root_.L2.bW.aU {k:Nat} {A:Around} (r:bW k A):A.units + 61 < cLine:=by have:=r.un;omega
end Ov
namespace Ov
open PySem PySem.Spec PyProof.Rows L2
def fe (P:Addr) (h:Heap):Prop:=∃ps:Array Value,h.get? P=some { cls:=.none,data:=.fields ps }∧TriplesOk ps.toList
def uI (K:PySem.W.Frag) (c P:Addr):Prop:=c≠P∧∃(o:Obj) (vs:Array Value) (file:Str) (tf:Tok) (flags:Int) (tg:Tok) (inF:Bool) (text:Int) (tt:Tok),
 K.lookup c=some o∧o.cls=.type "code"∧o.data=.fields vs∧vs[11]?=some (.ref P)∧vs.getD 18 .none=.str file tf∧vs.getD 7 .none=.int flags tg∧vs.getD 9 .none=.bool inF∧vs.getD 10 .none=.int text tt
def BMain (mg:Str→Option Value) (h:Heap):Prop:=∃bm ob,mg "__builtins__"=some (.ref bm)∧bm≠builtinsNs∧h.get? bm=some ob∧ob.cls=.type "module"∧ob.dict=some builtinsNs∧ob.data=.plain
theorem uI.at {K:PySem.W.Frag} {h:Heap} {c P:Addr} {ps:Array Value} (Z:uI K c P) (X:K.In h) (hp:h.get? P=some { cls:=.none,data:=.fields ps }) (tr:TriplesOk ps.toList):h.IsCode c P ps∧h.TableAt c P ps:=by
 obtain ⟨ne,o,vs,file,tf,flags,tg,inF,text,tt,lk,hc,hd,h11,h18,h7,h9,h10⟩:=Z
 have e11:vs.getD 11 .none=.ref P:=by
  rw [Array.getD_eq_getD_getElem?,h11];rfl
 exact ⟨⟨o,vs,file,tf,flags,tg,inF,text,tt,_,X _ _ lk,hd,e11,h18,h7,h9,h10,hp,rfl,tr,ne⟩,⟨o,vs,X _ _ lk,hc,hd,h11⟩,hp⟩
section
variable {X:Cx} {pins:List (Addr × Obj)} {σ:L2.St} {H:Hp} {s:Shared} {c P:Addr}
theorem HS {s':Shared} (I:Inv X pins σ H s) (hP:H P=some (.ext (fe P))) (os:s'.os=s.os) (bare:AllBare s'.gens) (k:∀b o,b≠P→s.heap.get? b=some o→s'.heap.get? b=some o) (t:fe P s'.heap):Inv X pins σ H s':=by
 have nP:∀b,H b=none→b≠P:=λb n z=>by rw [z,hP] at n;cases n
 have hok:mT X.prog X.w H s'.heap:=λb u e=>by
  by_cases hb:b=P
  ·subst hb
   rw [hP] at e;cases e
   obtain ⟨ps,hp,_⟩:=id t
   exact ⟨t,⟨_,hp⟩,((I.hok b _ hP)).2.2⟩
  ·refine (I.hok b u e).mQ (λd v hd q=>k d v ?_ q) (λ_ q=>q) λ_ _ q=>q
   rcases hd with rfl | hd
   ·exact hb
   ·intro z
    rw [z,hP] at hd;cases hd
 have un:Un (j7 X.stack) [] H H s.heap s'.heap:=⟨λb o e n _ _=>k b o (nP b n) e,λb o e n _ _=>⟨o.slots,k b o (nP b n) e⟩,λ_ _ _ n _=>n,λb o e _=>by
  by_cases hb:b=P
  ·subst hb
   obtain ⟨ps,hp,_⟩:=t
   exact ⟨_,hp⟩
  ·exact ⟨o,k b o hb e⟩,λ_ _ q=>q,λ_ _ _ q=>q,λ_ ps q=>⟨#[],by rw [q];simp⟩⟩
 exact I.NV os un hok bare λb z=>absurd z (by simp)
theorem EU {M:Model} {A:Around} {E:Value→Shared→Prop} {env:Env} {pos:Pos} {q:Str} {sc:Scope} {Q:Value→Shared→Prop} {s:Shared} (hc:env.code=.ref c) (Z:uI X.K c P) (kin:X.K.In s.heap) (t:fe P s.heap)
  (h:∀code h' tk,(∀b o,b≠P→s.heap.get? b=some o→h'.get? b=some o)→s.heap.objs.size≤h'.objs.size→fe P h'→Q code { s with heap:=h',toks:=tk }):wpAny M A (genexprCode env pos q sc) Q E s:=by
 obtain ⟨ps,hp,tr⟩:=t
 obtain ⟨ic,ta⟩:=Z.at kin hp tr
 cases hf:codeAmong pos ps.toList with
 | some c'=>exact wpAny_genexprCode_hit hc ic hf (h c' s.heap s.toks (λ_ _ _ e=>e) (Tr _) ⟨ps,hp,tr⟩)
 | none =>
  refine wpAny_genexprCodeX hc ic ta hf λc' h' tk ext l1 l2 ic' _ ta' _=>h _ h' tk (λb o nb e=>ext b o nb e) (Vc (Ul l1 l2)) ⟨_,ta'.2,?_⟩
  obtain ⟨_,_,_,_,_,_,_,_,_,_,_,_,_,_,_,_,_,hop,hpd,tr',_⟩:=ic'
  exact tr'
theorem Ew {α:Type} (B:List α) (q:α→Bool):((UG B.length).all λj=>(B[j]?).elim true q)=B.all q:=by
 rw [UA,U8,U8]
 refine ⟨λh b hb=>?_,λh j hj=>?_⟩
 ·obtain ⟨j,hj,rfl⟩:=T_ hb
  have:=h j (U5.mpr hj)
  rwa [Tn hj] at this
 ·have hj:=U5.mp hj
  rw [Tn hj]
  exact h _ (TY hj)
def eX (tx:Str) (ch:Nat):Bool:=!(Builtin.Str.occurrences tx ⟨#[ch]⟩ 0 tx.length 1).isEmpty
def GN (P:Addr) (tx:Str) (ti:TE):TE:=λσ H Q=>ti σ H λv H1=>∃y:Str,v=.str y∧H1 P=some (.ext (fe P))∧Q (.bl (y.cps.toList.all (eX tx))) H1
theorem Ga {prog:Program} {w:World} {env:Env} {scope:Scope} {x g:Str} {tx y:Str} {tt:Tok} {C:Addr} {code:Value} {fp wr:List Addr} {href:Heap} {D U:Nat} {p1 p2 p3:Pos} {mg:Str→Option Value} (sck:scope.kind=.function) (hx:scope.names.lookup x=some .local) (hg:scope.names.lookup g=some .globalImplicit)
  (ns:href.Ns env.globals mg) (hm:mg g=some (.str tx tt)) (h1:env.globals∈fp) (h2:env.globals ∉ wr) (hmk:behindInMarks .In (.Name g p2)=false) (hdx:(x == ("__debug__":Str))=false) (hdg:(g == ("__debug__":Str))=false) :
  QuietGenD prog w (genEnv scope [] C code builtinsNs env) x [] (.Compare (.Name x p1) [.In] [.Name g p2] p3) fp wr (SignAt y) (λ_=>true) (λi v=>∃ch,y.cps[i]?=some ch∧v=.bool (eX tx ch)) href D U where
 tests:=λA' E' i v s₂ m₂ _ _ _ _ _ _ _=>wpAny_pure ⟨rfl,_,_,rfl,λ_ _ e=>e⟩
 elt:=λA' E' i v s₂ m₂ _ _ _ hP _ hn hmx hk=>by
  obtain ⟨ch,u,hch,rfl⟩:=hP
  refine wpAny_Compare1 (wpAny_Name (wpAny_loadName_local (show (genEnv scope [] C code builtinsNs env).scope.kind=.function from sck) (show (genEnv scope [] C code builtinsNs env).kindOf x=some .local from hx) hn hmx ?_) hdx) hmk
  refine Calls.Name_function_global (show (genEnv scope [] C code builtinsNs env).scope.kind=.function from sck) (show (genEnv scope [] C code builtinsNs env).kindOf g=some .globalImplicit from hg) (Calls.loadGlobal_global (ns.at' λo e=>hk _ h1 h2 o e) hm ?_) hdg
  exact in_str ⟨⟨ch,hch,rfl⟩,_,_,rfl,λ_ _ e=>e⟩
theorem DN {x g:Str} {p px p1 p2 p3 gpos cpos:Pos} {iter:Expr} {ti:TE} {scope:Scope} {tx:Str} {tt:Tok} (hcalm:X.calm=true) (Bm:BMain X.mg X.base) (hcode:X.env.code=.ref c) (Z:uI X.K c P) (hdep:X.A.depth < recursionLimit)
  (hgl:Gl X "all") (hma:X.mg "all"=none) (hsg:X.mg g=some (.str tx tt)) (hi:PE X iter ti) (sck:scope.kind=.function) (hco:scope.isCoroutine=false) (hclos:closureFor scope X.env=pure []) (hcell:∀y∈scope.names,y.2≠.cell)
  (h0:scope.names.lookup (".0":Str)=some NameKind.local) (hx:scope.names.lookup x=some .local) (hsc:scope.names.lookup g=some .globalImplicit) (hmk:behindInMarks .In (.Name g p2)=false) (hs:∀x,genFold iter X.env x=pure x)
  (hst:starEach [.GeneratorExp (.Compare (.Name x p1) [.In] [.Name g p2] p3) [⟨.Name x px,iter,[],0⟩] scope gpos] X.env=[(false,eval (.GeneratorExp (.Compare (.Name x p1) [.In] [.Name g p2] p3) [⟨.Name x px,iter,[],0⟩] scope gpos) X.env)])
  (hdx:(x == ("__debug__":Str))=false) (hdg:(g == ("__debug__":Str))=false) :
  PE X (.Call (.Name "all" p) [.GeneratorExp (.Compare (.Name x p1) [.In] [.Name g p2] p3) [⟨.Name x px,iter,[],0⟩] scope gpos] [] cpos) (GN P tx ti):=by
 intro pins s σ H Q I h
 refine wpAny_Call_Name_kw (mr I hgl hma PyProof.Rows.Boot.«all» ?_)
 refine PyProof.Rows.callWith_builtin1 ?_ hst rfl
 rw [hst]
 show wpAny _ _ (spliced ((false,eval (.GeneratorExp (.Compare (.Name x p1) [.In] [.Name g p2] p3) [⟨.Name x px,iter,[],0⟩] scope gpos) X.env) :: [])) _ _ s
 refine Calls.spliced_cons ?_
 refine wpAny_GeneratorExp_walksQD (I.ok.hd hcalm) hco hclos hcell h0 hx sck hdep ?_ hs
 refine cE (hi pins s σ H _ I h) λxv s1 ⟨v,H1,I1,r1,y,ev,hP,q⟩=>?_
 subst ev
 obtain ⟨ty,rfl⟩:=r1
 have t1:fe P s1.heap:=(I1.hok P _ hP).1
 have ltP:P < s1.heap.objs.size:=I1.hok.lt hP
 refine wpAny_pyIter_str λo St W st0=>?_
 have k1:∀b ob,s1.heap.get? b=some ob→(s1.heap.push o).get? b=some ob:=λb ob e=>Heap.get?_push_of_some _ e
 refine ⟨I1.nolimit.keeps k1,?_⟩
 have t2:fe P (s1.heap.push o):=let ⟨ps,hp,tr⟩:=t1;⟨ps,k1 _ _ hp,tr⟩
 refine EU (X:=X) (s:={ s1 with heap:=s1.heap.push o }) hcode Z (I1.nu.keeps k1) t2 λcode h' tk k sz t'=>?_
 have kk:∀b ob,b≠P→s1.heap.get? b=some ob→h'.get? b=some ob:=λb ob nb e=>k b ob nb (k1 b ob e)
 have nsP:∀(b:Addr) (m:Str→Option Value),s1.heap.Ns b m→b≠P:=λb m hn z=>by
  obtain ⟨ob,es,ep,ho,hd,_⟩:=hn
  obtain ⟨ps,hp,_⟩:=t1
  rw [z,hp] at ho;cases ho;cases hd
 have nsK:∀(b:Addr) (m:Str→Option Value),s1.heap.Ns b m→h'.Ns b m:=λb m hn=>hn.at' λob e=>kk b ob (nsP b m hn) e
 have nsG:s1.heap.Ns X.env.globals X.mg:=by rw [I1.ok.glob];exact I1.mod.glob.keeps I1.bk
 have nl:h'.NoLimit:=let ⟨mc,h1,h2⟩:=I1.nolimit;⟨mc,nsK _ _ h1,h2⟩
 have ltC:cStatics < s1.heap.objs.size:=let ⟨mc,h1,_⟩:=I1.nolimit;h1.lt
 have szI:s1.heap.objs.size < h'.objs.size:=TF (by rw [Heap.size_push];exact UN _) sz
 obtain ⟨bm,ob,b1,b2,b3,b4,b5,b6⟩:=Bm
 have b3':=I1.bk _ _ b3
 have nbm:bm≠P:=λz=>by
  obtain ⟨ps,hp,_⟩:=t1
  rw [z,hp] at b3'
  rw [← Option.some.inj b3'] at b6;cases b6
 refine wpAny_builtinsFor (nsK _ _ nsG) b1 b2 (kk _ _ nbm b3') b4 b5 b6 ?_
 refine ⟨s1.heap.objs.size,[s1.heap.objs.size],[s1.heap.objs.size],y.cps.size,SignAt y,St,λ_=>true,λi v=>∃ch,y.cps[i]?=some ch∧v=.bool (eX tx ch),rfl,W,
  (W X.A (I.ok.hd hcalm)).frame _ _ _ st0 λb hb o' e=>k b o' (by rw [Tx.mp hb];exact Vs ltP) e,λb hb=>by rw [Tx.mp hb];exact szI,nl,
  λhb=>TV ltC (Tx.mp hb),λhref kh=>Ga sck hx hsc ((nsK _ _ nsG).keeps kh) hsg (U5.mpr (nsK _ _ nsG).lt) (λhb=>TV nsG.lt (Tx.mp hb)) hmk hdx hdg,λa h5 tk5 gs hgs ltA szA k5 WS G=>?_⟩
 refine Calls.spliced_nil ?_
 have pall:passing (λ_=>true) y.cps.size 0=UG y.cps.size:=by simp [passing]
 have WS:=WS.in4_1
 refine call_all_walkS (WS.self 0 _ _ _ G ⟨a,_,_,_,_,_,_,(λj=>(y.cps.toList[j]?).elim true (eX tx)),rfl,WS,G,λj v s Q E hv hQ=>?_,λs' hm=>?_⟩)
 ·obtain ⟨i,hi,ch,hch,rfl⟩:=hv
  rw [pall] at hi
  have hji:i=j:=by
   obtain ⟨hj,e⟩:=Tj.mp hi
   simpa using e.symm
  subst hji
  have e:y.cps.toList[i]?=some ch:=by simpa using hch
  simp only [e,Option.elim] at hQ
  exact wpAny_truthy_bool hQ
 ·have nwr:∀b,b < s1.heap.objs.size→b ∉ h'.objs.size :: [s1.heap.objs.size]:=λb hb hm=>by
   rcases TC.mp hm with z | z
   ·omega
   ·have:=Tx.mp z
    omega
  refine ⟨.bl _,H1,HS I1 hP hm.os ((I1.bare.push hgs).movedS hm) (λb o' nb e=>hm.heap b o' (nwr b (Heap.lt_size e)) (k5 b o' (kk b o' nb e))) ?_,rfl,?_⟩
  ·obtain ⟨ps,hp,tr⟩:=t'
   exact ⟨ps,hm.heap P _ (nwr P ltP) (k5 P _ hp),tr⟩
  ·rw [pall]
   have e:y.cps.size=y.cps.toList.length:=by simp
   have z:=Ew y.cps.toList (eX tx)
   rw [Vi,e,z]
   exact q
end
section
variable {X:Cx} {c P:Addr}
theorem FT {x g:Str} {p px p1 p2 p3 gpos cpos:Pos} {iter:Expr} {ti:TE} {scope:Scope} {tx:Str} {tt:Tok} {k:Nat} (hcalm:X.calm=true) (Bm:BMain X.mg X.base) (hcode:X.env.code=.ref c) (Z:uI X.K c P) (hr:bW k X.A)
  (hgl:Gl X "all") (hma:X.mg "all"=none) (hsg:X.mg g=some (.str tx tt)) (hi:QE X iter ti) (sck:scope.kind=.function:=by rfl) (hco:scope.isCoroutine=false:=by rfl) (hclos:closureFor scope X.env=pure []:=by rfl) (hcell:∀y∈scope.names,y.2≠.cell:=by decide)
  (h0:scope.names.lookup (".0":Str)=some NameKind.local:=by rfl) (hx:scope.names.lookup x=some .local:=by rfl) (hsc:scope.names.lookup g=some .globalImplicit:=by rfl) (hmk:behindInMarks .In (.Name g p2)=false:=by with_unfolding_all rfl) (hs:∀x,genFold iter X.env x=pure x:=by intro _;rfl)
  (hst:starEach [.GeneratorExp (.Compare (.Name x p1) [.In] [.Name g p2] p3) [⟨.Name x px,iter,[],0⟩] scope gpos] X.env=[(false,eval (.GeneratorExp (.Compare (.Name x p1) [.In] [.Name g p2] p3) [⟨.Name x px,iter,[],0⟩] scope gpos) X.env)]:=by rfl)
  (hdx:(x == ("__debug__":Str))=false:=by decide) (hdg:(g == ("__debug__":Str))=false:=by decide) :
  QE X (.Call (.Name "all" p) [.GeneratorExp (.Compare (.Name x p1) [.In] [.Name g p2] p3) [⟨.Name x px,iter,[],0⟩] scope gpos] [] cpos) (GN P tx ti) :=
 ⟨DN hcalm Bm hcode Z (by have:=hr.dp;omega) hgl hma hsg hi.run sck hco hclos hcell h0 hx hsc hmk hs hst hdx hdg⟩
end
structure Ho (K:PySem.W.Frag) (mg:Str→Option Value) (x:Str) (st:Stmt) (P:Addr) (f:Addr) (fd:FuncData) (c:Addr):Prop where
 fn:cm K x x st f fd
 mg:mg x=some (.ref f)
 code:fd.code=.ref c
 tab:uI K c P
 out:K.lookup P=none
def zw (K:PySem.W.Frag) (mg:Str→Option Value) (x:Str) (st:Stmt) (P:Addr):Prop:=∃f fd c,Ho K mg x st P f fd c
section
variable {P:Program} {w:World} {K:PySem.W.Frag} {mg:Str→Option Value} {base:Heap}
theorem Ta {x:Str} {st:Stmt} {T f c:Addr} {fd:FuncData} {N ps:List Str} {k:Nat} {sp:Sp} (F:Ho K mg x st T f fd c) (S:aw N ps (aj st)) (len:∀vs H Q E,sp vs H Q E→vs.length=ps.length)
  (hbody:∀(A:Around) (outer:List Env) (s:Shared) (H:Hp) (vs:List V) (Q:VK) (E:XK),bW k (A.deeper (envOfC x (aj st) s.heap.objs.size f (.ref c)))→sp vs H Q E →
   ∃t,QB (vR qV P w K mg base N x (aj st) f (.ref c) A outer s H E).L7 (cb st) t∧t { nx:=λ_ H'=>Q .non H',rt:=Q } (start N vs) H):aP P w K mg base qV (k + 1) f fd ps sp:=by
 obtain ⟨oc,od,kV,doc,pm,an,cdv,ct,osl,rfl,lk,hcd⟩:=F.fn.ex
 obtain rfl:cdv=.ref c:=F.code
 refine EN lk hcd S len λA outer s H vs Q E hr hsp=>?_
 obtain ⟨t,h,q⟩:=hbody A outer s H vs Q E hr hsp
 exact ⟨t,h.run.L7,q⟩
theorem zw.EB {x:Str} {st:Stmt} {T:Addr} {k:Nat} {ps:List Str} {sp:Sp} (D:zw K mg x st T)
  (h:∀f fd c,Ho K mg x st T f fd c→aP P w K mg base qV k f fd ps sp)
  (hb:∀(kV doc pm:Value) (an:Option Addr) (cdv ct:Value) (us:List Value),us.length=ps.length→bindArgs (PySem.W.fnOf x x (dA st) (cb st) (aj st) .none kV doc pm an cdv ct) ⟨us,[]⟩=pure (ps.zip us)) :
  tI P w K mg base k x ps sp:=by
 obtain ⟨f,fd,c,F⟩:=D
 exact ⟨f,fd,h f fd c F,F.fn.binds hb,F.fn.kp,F.mg⟩
end
def codeB (vs:Array Value):Bool:=(match vs.getD 18 .none with | .str _ _=>true | _=>false) && (match vs.getD 7 .none with | .int _ _=>true | _=>false) && (match vs.getD 9 .none with | .bool _=>true | _=>false) && (match vs.getD 10 .none with | .int _ _=>true | _=>false)
theorem HD {K:PySem.W.Frag} {h:Heap} {mg:Str→Option Value} {x:Str} {st:Stmt} (X:K.In h) (G:h.Ns mainGlobals mg) {f c T:Addr} {od an od':Option Addr} {sl sl':Array (Option Value)} {vs:Array Value} {oc kV dc pm ct:Value}
  (a:PySem.W.nsIn K mainGlobals x=some (some (.ref f))) (l:K.lookup f=some ⟨oc,od,.func (PySem.W.fnOf x x (dA st) (cb st) (aj st) .none kV dc pm an (.ref c) ct),sl⟩) (cc:PySem.W.codeIn K (.ref c) x=true) (k:PySem.W.keepIn K (.ref f)=true)
  (t:K.lookup c=some ⟨.type "code",od',.fields vs,sl'⟩) (p:vs[11]?=some (.ref T)) (b:codeB vs=true) (ne:c≠T) (out:K.lookup T=none):zw K mg x st T:=by
 refine ⟨f,_,c,zT l cc k,PySem.W.mg_of X G a,rfl,⟨ne,?_⟩,out⟩
 simp only [codeB,T4] at b
 obtain ⟨⟨⟨b1,b2⟩,b3⟩,b4⟩:=b
 cases e1:vs.getD 18 .none with
 | str file tf =>
  cases e2:vs.getD 7 .none with
  | int fl tg =>
   cases e3:vs.getD 9 .none with
   | bool inF =>
    cases e4:vs.getD 10 .none with
    | int text tt=>exact ⟨_,vs,file,tf,fl,tg,inF,text,tt,t,rfl,rfl,p,e1,e2,e3,e4⟩
    | _=>rw [e4] at b4;cases b4
   | _=>rw [e3] at b3;cases b3
  | _=>rw [e2] at b2;cases b2
 | _=>rw [e1] at b1;cases b1
def NJ (K:PySem.W.Frag) (mg:Str→Option Value) (names:List Str) (T:Addr):Prop:=∃x∈names,∃st,zw K mg x st T
theorem De {P:Program} {w:World} {K:PySem.W.Frag} {mg mb:Str→Option Value} {k:Nat} {fa a:Addr} {fd:FuncData} {x:Str} {sp:Sp} {s₁:Shared} {vs:List Value} {ns:List Int} {tabs:List Addr}
  (KX:K.In s₁.heap) (hns:s₁.heap.Ns mainGlobals mg) (hb:s₁.heap.Ns builtinsNs mb) (hbb:∀x:Str,x≠"__name__"→mb x=bootBuiltins x) (hlim:s₁.heap.NoLimit) (hg:s₁.gens=#[])
  (ha:s₁.heap.get? a=some { cls:=.type "list",data:=.seq vs.toArray }) (hi:IntsAre vs ns) (hl:ns.length≤sizeLine) (hr:bW k callerA) (hbm:BMain mg s₁.heap)
  (htab:∀T∈tabs,isCodeTable s₁.heap T∧s₁.heap.get? T=some { cls:=.none,data:=.fields #[] }∧K.lookup T=none)
  (F:∀base:Heap,K.In base→base.Ns mainGlobals mg→BMain mg base→aP P w K mg base qV k fa fd [x] sp) (hbind:∀(s:Shared) (u:Value),BindsTo s fd ⟨[u],[]⟩ [(x,u)])
  (hsp:∀H:Hp,(∀T∈tabs,H T=some (.ext (fe T)))→dk K H a (ns.map V.int)→(∀b,H b≠none→b=a∨b∈tabs)→(∀u,H a=some u→∃o xs,u=.oN o (.lst xs))→sp [.ref a] H (λv H'=>v=.bl true∧bJ H H') λ_ _ _=>False) :
  codeAny (model P w) callerA (.call (.ref fa) ⟨[.ref a],[]⟩) (λr s'=>r=.ok (.ret (.bool true))∧OldK s₁.heap s'.heap∧s'.os=s₁.os∧AllBare s'.gens) s₁:=by
 have rv:=vA hi
 have lenV:=hi.length
 have naT:∀T∈tabs,T≠a:=λT hT z=>by
  have:=(htab T hT).2.1
  rw [z,ha] at this
  have h1:=congrArg Obj.cls (Option.some.inj this)
  cases h1
 have core:∀H:Hp,(∀T∈tabs,H T=some (.ext (fe T)))→dk K H a (ns.map V.int)→mT P w H s₁.heap→(∀b,H b≠none→b=a∨b∈tabs)→(∀u,H a=some u→K.lookup a=none∧∃o xs,u=.oN o (.lst xs)) →
   codeAny (model P w) callerA (.call (.ref fa) ⟨[.ref a],[]⟩) (λr s'=>r=.ok (.ret (.bool true))∧OldK s₁.heap s'.heap∧s'.os=s₁.os∧AllBare s'.gens) s₁:=by
  intro H hT hS hok hA hK
  have base_of:∀{b:Addr} {o:Obj},s₁.heap.get? b=some o→H b=none→(ud s₁.heap H).get? b=some o:=λe n=>EY e n
  have no:∀{b:Addr} {o:Obj},s₁.heap.get? b=some o→(∀xs n,o.data≠.seq xs n)→(∀xs,o.data≠.fields xs)→H b=none:=λ{b o} e d1 d2=>by
   cases q:H b with
   | none=>rfl
   | some u =>
    rcases hA b (by rw [q];simp) with rfl | hb
    ·rw [ha] at e;cases e;exact absurd rfl (d1 _ _)
    ·rw [(htab b hb).2.1] at e;cases e;exact absurd rfl (d2 _)
  have nsK:∀{b:Addr} {m:Str→Option Value},s₁.heap.Ns b m→(ud s₁.heap H).Ns b m:=λ{b m} ⟨o,es,ep,e,d,r⟩=>⟨o,es,ep,base_of e (no e (λ_ _ z=>by rw [d] at z;cases z) λ_ z=>by rw [d] at z;cases z),d,r⟩
  have hKb:K.In (ud s₁.heap H):=λb o e=>base_of (KX b o e) (by
   cases q:H b with
   | none=>rfl
   | some u =>
    rcases hA b (by rw [q];simp) with rfl | hb
    ·have:=(hK u q).1
     exact absurd (this.symm.trans e) (λz=>nomatch z)
    ·have:=(htab b hb).2.2
     exact absurd (this.symm.trans e) (λz=>nomatch z))
  have hM:Mod K mg (ud s₁.heap H):=⟨hKb,nsK hns,⟨mb,nsK hb,hbb⟩,let ⟨mc,h1,h2⟩:=hlim;⟨mc,nsK h1,h2⟩⟩
  have hbm':BMain mg (ud s₁.heap H):=by
   obtain ⟨bm,ob,b1,b2,b3,b4,b5,b6⟩:=hbm
   exact ⟨bm,ob,b1,b2,base_of b3 (no b3 (λ_ _ z=>by rw [b6] at z;cases z) λ_ z=>by rw [b6] at z;cases z),b4,b5,b6⟩
  have e0:zx P w K mg (ud s₁.heap H) callerA [] s₁ H:=⟨rfl,hM,λb o e=>Ik e,Nat.le_of_eq (C9 _ _),trivial,λb hb=>absurd (show b∈([]:List Addr) from hb) (by simp),hok,.of_eq hg⟩
  refine codeAny_mono ((F _ hKb (nsK hns) hbm').run callerA [] s₁ H ⟨[.ref a],[]⟩ [.ref a] [.ref a] _ _ hr e0 (hbind s₁ (.ref a)) (.cons rfl .nil) (hsp H hT hS hA λu z=>(hK u z).2)) λr s' h=>?_
  cases r with
  | error e=>exact False.elim h
  | ok fl =>
   cases fl with
   | next=>exact False.elim h
   | brk=>exact False.elim h
   | cont=>exact False.elim h
   | ret u =>
    obtain ⟨v,H',os,bare,un,hok',r',rfl,same⟩:=h
    obtain rfl:u=Value.bool true:=r'
    refine ⟨rfl,⟨λb o e=>?_,λb o e=>?_⟩,os,bare⟩
    ·cases q:H b with
     | none=>exact .inl (un.keep b o e q (by intro z;exact absurd (show b∈([]:List Addr) from z) (by simp)) (by simp))
     | some u =>
      have q':=same b u q
      rcases hA b (by rw [q];simp) with rfl | hb'
      ·obtain ⟨_,ob,xs,rfl⟩:=hK u q
       obtain ⟨e1,_⟩:=hok _ _ q
       obtain ⟨e2,_⟩:=hok' _ _ q'
       rw [e] at e1;cases e1
       exact .inl e2
      ·have hz:=hT b hb'
       rw [q] at hz;cases hz
       obtain ⟨⟨ps,hp,_⟩,_⟩:=hok' _ _ q'
       obtain ⟨t1,t2,_⟩:=htab b hb'
       rw [t2] at e;cases e
       exact .inr (.inl ⟨t1,rfl,#[],ps,rfl,by rw [hp];simp⟩)
    ·exact un.there b o e (by simp)
 have hTt:∀T∈tabs,∀H:Hp,dF P w H s₁.heap T (.ext (fe T)):=λT hT H=>by
  have:=(htab T hT).2.1
  exact ⟨⟨#[],this,trivial⟩,⟨_,this⟩,λh1 h2 ⟨ps,hp,tr⟩ kk=>⟨ps,kk _ hp,tr⟩⟩
 cases hk:K.lookup a with
 | some o =>
  have e:=KX a o hk
  rw [ha] at e
  cases e
  refine core (λb=>if b∈tabs then some (.ext (fe b)) else none) (λT hT=>if_pos hT) (.inr ⟨_,vs.toArray,_,hk,rfl,rfl,rfl,by rw [Tu,lenV];exact hl,by simpa using rv⟩) (λb u z=>?_) (λb z=>?_) λu z=>?_
  ·by_cases hb:b∈tabs
   ·have z':=(if_pos hb).symm.trans z
    cases z'
    exact hTt b hb _
   ·have z':=(if_neg hb).symm.trans z
    cases z'
  ·by_cases hb:b∈tabs
   ·exact .inr hb
   ·exact absurd (if_neg hb) z
  ·have hb:a ∉ tabs:=λhb=>naT a hb rfl
   have z':=(if_neg hb).symm.trans z
   cases z'
 | none =>
  refine core (λb=>if b=a then some (.oN { cls:=.type "list",data:=.seq vs.toArray } (.lst (ns.map V.int))) else if b∈tabs then some (.ext (fe b)) else none) (λT hT=>?_) (.inl (.inr ⟨{ cls:=.type "list",data:=.seq vs.toArray },if_pos rfl⟩)) (λb u z=>?_) (λb z=>?_) λu z=>?_
  ·show (if T=a then _ else _)=_
   rw [if_neg (naT T hT),if_pos hT]
  ·by_cases hb:b=a
   ·have z':=(if_pos hb).symm.trans z
    cases z'
    subst hb
    exact ⟨ha,by rw [Th];exact hl,vs,_,rv,ha⟩
   ·have z:=(if_neg hb).symm.trans z
    by_cases hb:b∈tabs
    ·have z':=(if_pos hb).symm.trans z
     cases z'
     exact hTt b hb _
    ·have z':=(if_neg hb).symm.trans z
     cases z'
  ·by_cases hb:b=a
   ·exact .inl hb
   ·by_cases hb':b∈tabs
    ·exact .inr hb'
    ·exact absurd ((if_neg hb).trans (if_neg hb')) z
  ·have z':=(if_pos rfl).symm.trans z
   cases z'
   exact ⟨hk,_,_,rfl⟩
theorem M5 {p:Program} {loose:List Str} {mean:ExcName→Option Value} {mg mb:Str→Option Value} {h:Heap} {K:PySem.W.Frag} {x:Str} {st:Stmt} {T:Addr} (Tp:Top p loose mean mg mb h) (KX:K.In h) (hx:∃d∈recsOf p,d.name=x) (D:zw K mg x st T) :
  isCodeTable h T∧h.get? T=some { cls:=.none,data:=.fields #[] }∧K.lookup T=none:=by
 obtain ⟨f,fd,c,F⟩:=D
 obtain ⟨d,hd,rfl⟩:=hx
 obtain ⟨a',o',fd',c',P',h1,h2,h3,h4,h5,h6⟩:=Tp.tab d hd
 rw [F.mg] at h1;cases h1
 obtain ⟨oc,od,kV,doc,pm,an,cdv,ct,osl,rfl,lk,_⟩:=F.fn.ex
 have:=KX _ _ lk
 rw [h2] at this;cases this
 have e3:fd'=_:=(Data.func.inj h3).symm
 subst e3
 have e4:=F.code.symm.trans h4
 cases e4
 obtain ⟨_,oo,vs,_,_,_,_,_,_,_,lk',_,hd',h11,_⟩:=F.tab
 obtain ⟨⟨o2,vs2,g1,g2,g3,g4⟩,g5⟩:=id h6
 rw [KX _ _ lk'] at g1;cases g1
 rw [hd'] at g3;cases g3
 rw [h11] at g4;cases g4
 exact ⟨h6.isCodeTable,g5,F.out⟩
theorem G0 {l:PySem.W.OpenLaw} {n k:Nat} {q:Program} {loose:List Str} {XP:(Str→Option Value)→Heap→Prop} {YP:World→Heap→Prop} {d:DefRec} {K:Params→PySem.W.Frag} {sp:List Addr→PySem.W.Frag→Sp} {x:Str} (names:List Str)
  (hn:l.most=some n) (hn2:n≤sizeLine) (hdf:d.params.defaults=[]) (hr:bW k callerA) (hY:∀(w:World) (h:Heap),YP w h→(K w.params).In h) (hnm:∀x∈names,∃d∈recsOf q,d.name=x)
  (F:∀(w:World) (mg:Str→Option Value) (fa:Addr) (h:Heap),(K w.params).In h→h.Ns mainGlobals mg→mg d.name=some (.ref fa) →
   ∃(fd:FuncData) (tabs:List Addr),(∀(s:Shared) (u:Value),BindsTo s fd ⟨[u],[]⟩ [(x,u)])∧(∀T∈tabs,NJ (K w.params) mg names T) ∧
    ∀base:Heap,(K w.params).In base→base.Ns mainGlobals mg→BMain mg base→aP l.prog w (K w.params) mg base qV k fa fd [x] (sp tabs (K w.params)))
  (hsp:∀(tabs:List Addr) (K:PySem.W.Frag) (H:Hp) (a:Addr) (ns:List Int),ns.length≤n→(∀T∈tabs,H T=some (.ext (fe T)))→dk K H a (ns.map V.int)→(∀b,H b≠none→b=a∨b∈tabs)→(∀u,H a=some u→∃o xs,u=.oN o (.lst xs))→sp tabs K [.ref a] H (λv H'=>v=.bl true∧bJ H H') λ_ _ _=>False) :
  PySem.W.WalkO q loose XP YP l.row.toRowW d [] (λf vs=>PySem.call f vs):=by
 refine Att.xV hn hdf λw s₀ s₁ mg mb fa o pm cd doc a vs ns G Y ho hd hcd hmg hobj hints hlen hg=>?_
 have KX:=hY w _ Y
 obtain ⟨fd,tabs,hb,ht,hF⟩:=F w mg fa _ KX G.T.g hmg
 refine De KX G.T.g G.T.b G.T.builtins G.T.nolimit hg hobj hints (TK hlen hn2) hr G.T.bmain (λT hT=>?_) hF hb (λH hT hS hA hK=>hsp tabs _ H a ns hlen hT hS hA hK)
 obtain ⟨x,hx,st,D⟩:=ht T hT
 exact M5 G.T KX (hnm x hx) D
def E7 (s:Str):Value→Bool
 | .str y _=>y == s
 | _=>false
def E5 (i:Int):Value→Bool
 | .int j _=>j == i
 | _=>false
theorem C1 {K:PySem.W.Frag} {h:Heap} {mg:Str→Option Value} {x s:Str} {u:Value} (X:K.In h) (G:h.Ns mainGlobals mg) (e:PySem.W.nsIn K mainGlobals x=some (some u)) (hu:E7 s u=true):∃t,mg x=some (.str s t):=by
 cases u with
 | str y t =>
  have:y=s:=by simpa [E7] using hu
  subst this
  exact ⟨t,PySem.W.mg_of X G e⟩
 | _=>cases hu
theorem const_int {K:PySem.W.Frag} {h:Heap} {mg:Str→Option Value} {x:Str} {i:Int} {u:Value} (X:K.In h) (G:h.Ns mainGlobals mg) (e:PySem.W.nsIn K mainGlobals x=some (some u)) (hu:E5 i u=true):∃t,mg x=some (.int i t):=by
 cases u with
 | int y t =>
  have:y=i:=by simpa [E5] using hu
  subst this
  exact ⟨t,PySem.W.mg_of X G e⟩
 | _=>cases hu
section
variable {X:Cx} {tg:Expr}
end
end Ov
namespace Ov
open PySem PySem.Spec PyProof.Rows
open L2 (V HO Hp Inv Cx VK XK TE TT TA TS TG qh TI TO j6 Ends vM Loc Gl Rd RelV Vals fT xJ cx p9 tJ qg j5 R2 upd aK aW dk g7 Sp qW It bJ)
inductive PV where
 | non | bl (b:Bool) | int (i:Int) | str (x:Str) | ref (a:Addr) | ty (n:String) | tup (xs:List PV) | fl (xs:List PV)
inductive HQ where
 | lst (xs:List PV) | ins (C:Addr) (fs:List (Str × PV)) | dct (kvs:List (Str × PV)) (ep:Nat) | tab | dtp (hs:List Str→Int) (ks:List (List Str))
def Qr (hs:List Str→Int) (a:Addr) (xs:List (List Str × Addr × Value)) (h:Heap):Prop:=(a == sysModules)=false∧xs.length≤sizeLine∧(xs.map (·.1)).Nodup∧∃o es ep,h.get? a=some o∧o.ExactDict∧o.data=.dict es ep∧es.toList=xs.map λx=>(⟨hs x.1,.ref x.2.1,x.2.2⟩:DictEntry)
abbrev Hq:=Addr→Option HQ
def put (J:Hq) (a:Addr) (o:HQ):Hq:=λb=>if b=a then some o else J b
theorem ak {J:Hq} {a:Addr} {o:HQ}:put J a o a=some o:=by unfold put;rw [if_pos rfl]
theorem aq {J:Hq} {a b:Addr} {o:HQ} (h:b≠a):put J a o b=J b:=by unfold put;rw [if_neg h]
theorem bM {J:Hq} {a:Addr} {o u:HQ}:put (put J a o) a u=put J a u:=by
 funext b;unfold put;split <;> rfl
theorem F4 {J:Hq} {a b:Addr} {o u:HQ} (h:a≠b):put (put J a o) b u=put (put J b u) a o:=by
 funext c;unfold put
 by_cases h1:c=b <;> by_cases h2:c=a <;> simp [h1,h2]
 ·exact absurd (h2.symm.trans h1) h
 ·intro z;exact absurd z.symm h
 ·intro z;exact absurd z h
theorem AG {J:Hq} {a:Addr} {o:HQ} (h:J a=some o):put J a o=J:=by
 funext b;unfold put
 by_cases e:b=a
 ·subst e;rw [if_pos rfl,h]
 ·rw [if_neg e]
def Eh (K:PySem.W.Frag) (J:Hq) (H:Hp) (a:Addr) (vs:List V):Prop:=(J a=none∧Rd H a (.lst vs))∨∃(o:Obj) (its:Array Value) (n:Nat),K.lookup a=some o∧o.cls=.type "list"∧o.dict=none∧o.data=.seq its n∧its.size≤sizeLine∧Vals vs its.toList
theorem Eh.sq {K:PySem.W.Frag} {J:Hq} {H:Hp} {a:Addr} {vs:List V} (h:Eh K J H a vs):dk K H a vs:=by
 rcases h with h | h
 ·exact .inl h.2
 ·exact .inr h
section
variable (K:PySem.W.Frag)
mutual
def cH (J:Hq) (H:Hp):PV→V→Prop
 | .non,v=>v=.non
 | .bl b,v=>v=.bl b
 | .int i,v=>v=.int i
 | .str x,v=>v=.str x
 | .ref a,v=>v=.ref a
 | .ty n,v=>v=.ty n
 | .tup xs,v=>∃a vs,v=.ref a∧g7 K H a vs∧aS J H xs vs
 | .fl xs,v=>∃a vs,v=.ref a∧Eh K J H a vs∧aS J H xs vs
def aS (J:Hq) (H:Hp):List PV→List V→Prop
 | [],vs=>vs=[]
 | x :: xs,vs=>∃v us,vs=v :: us∧cH J H x v∧aS J H xs us
end
def ml {κ:Type} (J:Hq) (H:Hp) (fs:List (κ × PV)) (gs:List (κ × V)):Prop:=fs.map (·.1)=gs.map (·.1)∧aS K J H (fs.map (·.2)) (gs.map (·.2))
def Er (J:Hq) (H:Hp) (a:Addr):HQ→Prop
 | .lst xs=>∃vs,H a=some (.lst vs)∧aS K J H xs vs
 | .ins C fs=>∃dx gs,H a=some (.ins C dx gs)∧ml K J H fs gs
 | .dct kvs ep=>∃gs,H a=some (.dE gs ep)∧ml K J H kvs gs
 | .tab=>H a=some (.ext (fe a))
 | .dtp hs ks=>∃xs:List (List Str × Addr × Value),xs.map (·.1)=ks∧H a=some (.ext (Qr hs a xs))∧∀x∈xs,g7 K H x.2.1 (x.1.map V.str)
def Rep (J:Hq) (H:Hp):Prop:=∀a o,J a=some o→Er K J H a o
structure Ext (J:Hq) (H:Hp) (J':Hq) (H':Hp):Prop where
 tup:∀a vs,g7 K H a vs→g7 K H' a vs
 ll:∀a o,J a=none→H a=some o→((∃vs,o=.lst vs)∨∃ob vs,o=.oN ob (.lst vs))→J' a=none∧H' a=some o
end
section
variable {K:PySem.W.Frag} {J J' J'':Hq} {H H' H'':Hp}
theorem Ext.fl (e:Ext K J H J' H') (a:Addr) (vs:List V) (n:J a=none) (h:Rd H a (.lst vs)):J' a=none∧Rd H' a (.lst vs):=by
 rcases h with h | ⟨o,h⟩
 ·obtain ⟨a,b⟩:=e.ll a _ n h (.inl ⟨_,rfl⟩);exact ⟨a,.inl b⟩
 ·obtain ⟨a,b⟩:=e.ll a _ n h (.inr ⟨_,_,rfl⟩);exact ⟨a,.inr ⟨o,b⟩⟩
theorem Ext.flat (e:Ext K J H J' H') {a:Addr} {vs:List V} (h:Eh K J H a vs):Eh K J' H' a vs:=by
 rcases h with h | h
 ·exact .inl (e.fl a vs h.1 h.2)
 ·exact .inr h
mutual
theorem Ext.rep (e:Ext K J H J' H'):∀{x:PV} {v:V},cH K J H x v→cH K J' H' x v
 | .non,_,h=>h
 | .bl _,_,h=>h
 | .int _,_,h=>h
 | .str _,_,h=>h
 | .ref _,_,h=>h
 | .ty _,_,h=>h
 | .tup xs,_,⟨a,vs,e1,h,k⟩=>⟨a,vs,e1,e.tup _ _ h,Ext.jg e k⟩
 | .fl xs,_,⟨a,vs,e1,h,k⟩=>⟨a,vs,e1,e.flat h,Ext.jg e k⟩
theorem Ext.jg (e:Ext K J H J' H'):∀{xs:List PV} {vs:List V},aS K J H xs vs→aS K J' H' xs vs
 | [],_,h=>h
 | _ :: _,_,⟨v,us,e1,h,k⟩=>⟨v,us,e1,Ext.rep e h,Ext.jg e k⟩
end
theorem Ext.refl:Ext K J H J H:=⟨λ_ _ h=>h,λ_ _ n h _=>⟨n,h⟩⟩
theorem Ext.trans (a:Ext K J H J' H') (b:Ext K J' H' J'' H''):Ext K J H J'' H'' :=
 ⟨λc vs h=>b.tup c vs (a.tup c vs h),λc o n h z=>b.ll c o (a.ll c o n h z).1 (a.ll c o n h z).2 z⟩
theorem Ext.yT {κ:Type} (e:Ext K J H J' H') {fs:List (κ × PV)} {gs:List (κ × V)} (h:ml K J H fs gs):ml K J' H' fs gs:=⟨h.1,e.jg h.2⟩
theorem Ext.same (s:bJ H H'):Ext K J H J H':=⟨λa vs h=>s.tup h,λa o n h _=>⟨n,s _ _ h⟩⟩
theorem Er.same (s:bJ H H') {a:Addr} {o:HQ} (h:Er K J H a o):Er K J H' a o:=by
 have e:=Ext.same (K:=K) (J:=J) s
 cases o with
 | lst xs=>obtain ⟨vs,h1,h2⟩:=h;exact ⟨vs,s _ _ h1,e.jg h2⟩
 | ins C fs=>obtain ⟨dx,gs,h1,h2⟩:=h;exact ⟨dx,gs,s _ _ h1,e.yT h2⟩
 | dct kvs ep=>obtain ⟨gs,h1,h2⟩:=h;exact ⟨gs,s _ _ h1,e.yT h2⟩
 | tab=>exact s _ _ (show H a=some (.ext (fe a)) from h)
 | dtp hs ks=>obtain ⟨xs,h0,h1,h2⟩:=h;exact ⟨xs,h0,s _ _ h1,λx hx=>s.tup (h2 x hx)⟩
theorem Rep.same (s:bJ H H') (h:Rep K J H):Rep K J H':=λa o q=>(h a o q).same s
theorem Ext.less (h:∀a,J' a=J a∨J' a=none):Ext K J H J' H:=⟨λ_ _ h=>h,λa o n z _=>⟨(h a).elim (λe=>e.trans n) (λe=>e),z⟩⟩
theorem Rep.less (h:∀a,J' a=J a∨J' a=none) (r:Rep K J H):Rep K J' H:=λa o q=>by
 have e:J a=some o:=by
  rcases h a with e | e
  ·rw [← e];exact q
  ·rw [e] at q;cases q
 have x:=Ext.less (K:=K) (H:=H) h
 have z:=r a o e
 cases o with
 | lst xs=>obtain ⟨vs,h1,h2⟩:=z;exact ⟨vs,h1,x.jg h2⟩
 | ins C fs=>obtain ⟨dx,gs,h1,h2⟩:=z;exact ⟨dx,gs,h1,x.yT h2⟩
 | dct kvs ep=>obtain ⟨gs,h1,h2⟩:=z;exact ⟨gs,h1,x.yT h2⟩
 | tab=>exact z
 | dtp hs ks=>exact z
theorem aS.length:∀{xs:List PV} {vs:List V},aS K J H xs vs→xs.length=vs.length
 | [],_,h=>by cases h;rfl
 | _ :: xs,_,⟨v,us,e1,_,k⟩=>by subst e1;simp [aS.length k]
theorem aS.get:∀{xs:List PV} {vs:List V} {i:Nat} {x:PV},aS K J H xs vs→xs[i]?=some x→∃v,vs[i]?=some v∧cH K J H x v
 | [],_,i,x,h,e=>by simp at e
 | y :: xs,_,0,x,⟨v,us,e1,h,k⟩,e=>by subst e1;simp at e;subst e;exact ⟨v,rfl,h⟩
 | y :: xs,_,i + 1,x,⟨v,us,e1,h,k⟩,e=>by
  subst e1
  obtain ⟨w,h1,h2⟩:=aS.get (i:=i) (x:=x) k (by simpa using e)
  exact ⟨w,by simpa using h1,h2⟩
theorem aS.get':∀{xs:List PV} {vs:List V} {i:Nat} {v:V},aS K J H xs vs→vs[i]?=some v→∃x,xs[i]?=some x∧cH K J H x v
 | [],_,i,x,h,e=>by cases h;simp at e
 | y :: xs,_,0,x,⟨v,us,e1,h,k⟩,e=>by subst e1;simp at e;subst e;exact ⟨y,rfl,h⟩
 | y :: xs,_,i + 1,x,⟨v,us,e1,h,k⟩,e=>by
  subst e1
  obtain ⟨w,h1,h2⟩:=aS.get' (i:=i) (v:=x) k (by simpa using e)
  exact ⟨w,by simpa using h1,h2⟩
theorem aS.append:∀{xs ys:List PV} {vs us:List V},aS K J H xs vs→aS K J H ys us→aS K J H (xs ++ ys) (vs ++ us)
 | [],_,_,_,h,k=>by cases h;exact k
 | x :: xs,ys,_,us,⟨v,ws,e1,h,h'⟩,k=>by subst e1;exact ⟨v,ws ++ us,rfl,h,aS.append h' k⟩
theorem aS.drop:∀(n:Nat) {xs:List PV} {vs:List V},aS K J H xs vs→aS K J H (xs.drop n) (vs.drop n)
 | 0,_,_,h=>h
 | n + 1,[],_,h=>by cases h;rfl
 | n + 1,x :: xs,_,⟨v,ws,e1,h,h'⟩=>by subst e1;exact aS.drop n h'
theorem aS.take:∀(n:Nat) {xs:List PV} {vs:List V},aS K J H xs vs→aS K J H (xs.take n) (vs.take n)
 | 0,_,_,h=>rfl
 | n + 1,[],_,h=>by cases h;rfl
 | n + 1,x :: xs,_,⟨v,ws,e1,h,h'⟩=>by subst e1;exact ⟨v,_,rfl,h,aS.take n h'⟩
theorem ml.look {κ:Type} [BEq κ] [LawfulBEq κ] {f:κ}:∀{fs:List (κ × PV)} {gs:List (κ × V)} {x:PV},ml K J H fs gs→fs.lookup f=some x→∃v,gs.lookup f=some v∧cH K J H x v
 | [],_,_,_,e=>by cases e
 | (k,y) :: fs,[],x,h,e=>by cases h.1
 | (k,y) :: fs,(k',w) :: gs,x,h,e=>by
  obtain ⟨h1,v,us,h2,h3,h4⟩:=h
  simp only [Tt,List.cons.injEq] at h1 h2
  obtain ⟨rfl,h1⟩:=h1
  obtain ⟨rfl,rfl⟩:=h2
  rw [T7] at e ⊢
  cases hk:f == k with
  | true=>rw [hk] at e;cases e;exact ⟨w,rfl,h3⟩
  | false=>rw [hk] at e;exact ml.look ⟨h1,h4⟩ e
theorem ml.none {κ:Type} [BEq κ] [LawfulBEq κ] {f:κ}:∀{fs:List (κ × PV)} {gs:List (κ × V)},ml K J H fs gs→fs.lookup f=none→gs.lookup f=none
 | [],[],_,_=>rfl
 | [],_ :: _,h,e=>by cases h.1
 | (k,y) :: fs,[],h,e=>by cases h.1
 | (k,y) :: fs,(k',w) :: gs,h,e=>by
  obtain ⟨h1,v,us,h2,h3,h4⟩:=h
  simp only [Tt,List.cons.injEq] at h1 h2
  obtain ⟨rfl,h1⟩:=h1
  obtain ⟨rfl,rfl⟩:=h2
  rw [T7] at e ⊢
  cases hk:f == k with
  | true=>rw [hk] at e;cases e
  | false=>rw [hk] at e;exact ml.none ⟨h1,h4⟩ e
end
section
variable {K:PySem.W.Frag} {J J':Hq} {H H':Hp} {p:Addr}
theorem Ih {a p:Addr} {o:HQ} (r:Rep K J H) (h:J a=some o) (n:H p=none):a≠p:=by
 intro e;subst e
 have:=r _ _ h
 cases o with
 | lst xs=>obtain ⟨vs,h1,_⟩:=this;rw [n] at h1;cases h1
 | ins C fs=>obtain ⟨dx,gs,h1,_⟩:=this;rw [n] at h1;cases h1
 | dct kvs ep=>obtain ⟨gs,h1,_⟩:=this;rw [n] at h1;cases h1
 | tab=>have h1:H a=some (.ext (fe a)):=this;rw [n] at h1;cases h1
 | dtp hs ks=>obtain ⟨xs,_,h1,_⟩:=this;rw [n] at h1;cases h1
theorem Rep.free (r:Rep K J H) (n:H p=none):J p=none:=by
 cases e:J p with
 | none=>rfl
 | some o=>exact absurd rfl (Ih r e n)
theorem Ext.laid {o:HO} {u:HQ} (n:H p=none):Ext K J H (put J p u) (upd H p o):=by
 refine ⟨λa vs h=>(bJ.new n o).tup h,λa o' z h _=>⟨?_,bJ.new n o _ _ h⟩⟩
 have ne:a≠p:=by intro e;subst e;rw [n] at h;cases h
 rw [aq ne];exact z
theorem Rep.D3 {J':Hq} {H':Hp} (e:Ext K J H J' H') (r:Rep K J H) (p:Addr) (q:∀a,a≠p→J' a=J a) (s:∀a o,a≠p→J a≠none→H a=some o→H' a=some o) (h:∀u,J' p=some u→Er K J' H' p u):Rep K J' H':=λa o z=>by
 by_cases ep:a=p
 ·subst ep;exact h o z
 ·rw [q a ep] at z
  have t:=r a o z
  have jn:J a≠none:=by rw [z];exact λy=>nomatch y
  cases o with
  | lst xs=>obtain ⟨vs,h1,h2⟩:=t;exact ⟨vs,s _ _ ep jn h1,e.jg h2⟩
  | ins C fs=>obtain ⟨dx,gs,h1,h2⟩:=t;exact ⟨dx,gs,s _ _ ep jn h1,e.yT h2⟩
  | dct kvs eq=>obtain ⟨gs,h1,h2⟩:=t;exact ⟨gs,s _ _ ep jn h1,e.yT h2⟩
  | tab=>exact s _ _ ep jn (show H a=some (.ext (fe a)) from t)
  | dtp hs ks=>obtain ⟨xs,h0,h1,h2⟩:=t;exact ⟨xs,h0,s _ _ ep jn h1,λx hx=>e.tup _ _ (h2 x hx)⟩
theorem Rep.Ff {xs:List PV} {vs:List V} (r:Rep K J H) (n:H p=none) (h:aS K J H xs vs):Rep K (put J p (.lst xs)) (upd H p (.lst vs)):=by
 have e:=Ext.laid (K:=K) (J:=J) (o:=.lst vs) (u:=.lst xs) n
 refine r.D3 e p (λa ne=>aq ne) (λa o ne _ z=>by rw [aW ne];exact z) λu z=>?_
 rw [ak] at z;cases z
 exact ⟨vs,aK,e.jg h⟩
theorem Ext.wrote {xs ys:List PV} {ws vs:List V} (h:J p=some (.lst xs)) (k:H p=some (.lst ws)):Ext K J H (put J p (.lst ys)) (upd H p (.lst vs)):=by
 have sm:∀a u,(∀l,u≠HO.lst l)∨a≠p→Rd H a u→Rd (upd H p (.lst vs)) a u:=λa u d z=>by
  have ne:a≠p:=by
   rcases d with d | d
   ·intro e;subst e
    rcases z with z | ⟨o,z⟩
    ·rw [k] at z;cases z;exact d _ rfl
    ·rw [k] at z;cases z
   ·exact d
  rcases z with z | ⟨o,z⟩
  ·exact .inl (by rw [aW ne];exact z)
  ·exact .inr ⟨o,by rw [aW ne];exact z⟩
 refine ⟨λa vs' z=>?_,λa o z q _=>?_⟩
 ·rcases z with z | z
  ·exact .inl (sm a _ (.inl λl e=>nomatch e) z)
  ·exact .inr z
 ·have ne:a≠p:=by intro e;subst e;rw [h] at z;cases z
  exact ⟨by rw [aq ne];exact z,by rw [aW ne];exact q⟩
theorem Rep.wrote {xs ys:List PV} {ws vs:List V} (r:Rep K J H) (h:J p=some (.lst xs)) (k:H p=some (.lst ws)) (q:aS K J H ys vs):Rep K (put J p (.lst ys)) (upd H p (.lst vs)):=by
 have e:=Ext.wrote (K:=K) (ys:=ys) (vs:=vs) h k
 refine r.D3 e p (λa ne=>aq ne) (λa o ne _ z=>by rw [aW ne];exact z) λu z=>?_
 rw [ak] at z;cases z
 exact ⟨vs,aK,e.jg q⟩
end
abbrev Sr:=List (Option PV)
abbrev dz:=Sr→Hq→(PV→Hq→Prop)→Prop
abbrev lZ:=Sr→Hq→(Bool→Hq→Prop)→Prop
abbrev pO:=Sr→Hq→(List PV→Hq→Prop)→Prop
structure En where
 nx:Sr→Hq→Prop
 rt:PV→Hq→Prop
 bk:Sr→Hq→Prop:=λ_ _=>False
 ct:Sr→Hq→Prop:=λ_ _=>False
abbrev jm:=En→Sr→Hq→Prop
structure mn (K:PySem.W.Frag) (J:Hq) (H:Hp) (τ:Sr) (σ:L2.St):Prop where
 len:τ.length=σ.length
 get:∀(i:Nat) (x:PV),τ[i]?=some (some x)→∃v,σ[i]?=some (some v)∧cH K J H x v
theorem mn.ext {K:PySem.W.Frag} {J J':Hq} {H H':Hp} {τ:Sr} {σ:L2.St} (r:mn K J H τ σ) (e:Ext K J H J' H'):mn K J' H' τ σ :=
 ⟨r.len,λi x h=>let ⟨v,a,b⟩:=r.get i x h;⟨v,a,e.rep b⟩⟩
theorem mn.set {K:PySem.W.Frag} {J:Hq} {H:Hp} {τ:Sr} {σ:L2.St} (r:mn K J H τ σ) {x:PV} {v:V} (i:Nat) (h:cH K J H x v):mn K J H (τ.set i (some x)) (σ.set i (some v)):=by
 refine ⟨by rw [UR,UR,r.len],λj y e=>?_⟩
 by_cases hj:i=j
 ·subst hj
  by_cases hl:i < τ.length
  ·rw [Ud hl] at e
   cases e
   exact ⟨v,Ud (by rw [← r.len];exact hl),h⟩
  ·rw [Ut (by rw [UR];omega)] at e
   cases e
 ·rw [Uy hj] at e ⊢
  exact r.get j y e
abbrev G2:=Hq × Hp
structure xI (K:PySem.W.Frag) (G:G2) (τ:Sr) (J:Hq) (σ:L2.St) (H:Hp):Prop where
 sl:mn K J H τ σ
 hp:Rep K J H
 ext:Ext K G.1 G.2 J H
section
variable (K:PySem.W.Frag) (G:G2)
def LE (t:dz):TE:=λσ H Q=>∃τ J Q2,xI K G τ J σ H∧t τ J Q2∧∀x J' v H',cH K J' H' x v→Rep K J' H'→Ext K J H J' H'→Q2 x J'→Q v H'
def LT (t:lZ):TT:=λσ H Q=>∃τ J Q2,xI K G τ J σ H∧t τ J Q2∧∀b J' H',Rep K J' H'→Ext K J H J' H'→Q2 b J'→Q b H'
def LA (t:pO):TA:=λσ H Q=>∃τ J Q2,xI K G τ J σ H∧t τ J Q2∧∀xs J' vs H',aS K J' H' xs vs→Rep K J' H'→Ext K J H J' H'→Q2 xs J'→Q vs H'
structure Goes (J:Hq) (H:Hp) (D2:En) (D:Ends):Prop where
 nx:∀τ J' σ H',mn K J' H' τ σ→Rep K J' H'→Ext K J H J' H'→D2.nx τ J'→D.nx σ H'
 rt:∀x J' v H',cH K J' H' x v→Rep K J' H'→Ext K J H J' H'→D2.rt x J'→D.rt v H'
 bk:∀τ J' σ H',mn K J' H' τ σ→Rep K J' H'→Ext K J H J' H'→D2.bk τ J'→D.bk σ H'
 ct:∀τ J' σ H',mn K J' H' τ σ→Rep K J' H'→Ext K J H J' H'→D2.ct τ J'→D.ct σ H'
def LS (t:jm):TS:=λD σ H=>∃τ J D2,xI K G τ J σ H∧t D2 τ J∧Goes K J H D2 D
end
theorem Goes.ext {K:PySem.W.Frag} {J J':Hq} {H H':Hp} {D2:En} {D:Ends} (g:Goes K J H D2 D) (e:Ext K J H J' H'):Goes K J' H' D2 D :=
 ⟨λτ J1 σ H1 a b c=>g.nx τ J1 σ H1 a b (e.trans c),λx J1 v H1 a b c=>g.rt x J1 v H1 a b (e.trans c),λτ J1 σ H1 a b c=>g.bk τ J1 σ H1 a b (e.trans c),λτ J1 σ H1 a b c=>g.ct τ J1 σ H1 a b (e.trans c)⟩
theorem xI.go {K:PySem.W.Frag} {G:G2} {τ:Sr} {J J':Hq} {σ:L2.St} {H H':Hp} (a:xI K G τ J σ H) (r:Rep K J' H') (e:Ext K J H J' H'):xI K G τ J' σ H':=⟨a.sl.ext e,r,a.ext.trans e⟩
structure RE (X:Cx) (G:G2) (e:Expr) (t:dz):Prop where
 run:L2.PE X e (LE X.K G t)
structure RT (X:Cx) (G:G2) (e:Expr) (t:lZ):Prop where
 run:L2.PT X e (LT X.K G t)
structure RW (X:Cx) (G:G2) (e:Expr) (t:lZ):Prop where
 run:L2.PW X e (LT X.K G t)
structure RA (X:Cx) (G:G2) (es:List Expr) (t:pO):Prop where
 run:L2.PA X es (LA X.K G t)
structure RS (X:Cx) (G:G2) (st:Stmt) (t:jm):Prop where
 run:L2.PS X st (LS X.K G t)
structure RB (X:Cx) (G:G2) (st:List Stmt) (t:jm):Prop where
 run:L2.uK X st (LS X.K G t)
theorem lX {X:Cx} {e:Expr} {t t':TE} (h:L2.PE X e t) (k:∀σ H Q,t' σ H Q→t σ H Q):L2.PE X e t':=λpins s σ H Q I q=>h pins s σ H Q I (k _ _ _ q)
theorem Qh {X:Cx} {e:Expr} {t t':TT} (h:L2.PT X e t) (k:∀σ H Q,t' σ H Q→t σ H Q):L2.PT X e t':=λpins s σ H Q I q=>h pins s σ H Q I (k _ _ _ q)
theorem SK {X:Cx} {e:Expr} {t t':TT} (h:L2.PW X e t) (k:∀σ H Q,t' σ H Q→t σ H Q):L2.PW X e t':=λwh pins s σ H Q I q=>h wh pins s σ H Q I (k _ _ _ q)
theorem Ro {X:Cx} {e:List Expr} {t t':TA} (h:L2.PA X e t) (k:∀σ H Q,t' σ H Q→t σ H Q):L2.PA X e t':=λpos pins s σ H Q I q=>h pos pins s σ H Q I (k _ _ _ q)
theorem zm {X:Cx} {e:Stmt} {t t':TS} (h:L2.PS X e t) (k:∀D σ H,t' D σ H→t D σ H):L2.PS X e t':=λpins s σ H D I q=>h pins s σ H D I (k _ _ _ q)
theorem Rp {X:Cx} {e:List Stmt} {t t':TS} (h:L2.uK X e t) (k:∀D σ H,t' D σ H→t D σ H):L2.uK X e t':=λpins s σ H D I q=>h pins s σ H D I (k _ _ _ q)
end Ov
namespace Ov
open PySem PySem.Spec PyProof.Rows
open L2 (V HO Hp Inv Cx VK XK TE TT TA TS TG qh TI TO j6 Ends vM Loc Gl Rd RelV Vals fT xJ cx p9 tJ qg j5 R2 upd aK aW dk g7 Sp qW It bJ c_ bW Passes pM aL Meth Mk Binds aP cm aw dt gm)
def g6 {α:Sort _} (_:α):Type:=Unit
def dp {α:Sort _} {k:α}:g6 k:=()
def wz {α:Type} (o:Option α) (k:α→Prop) (_:g6 k:=dp):Prop:=match o with | some x=>k x | none=>False
def Nt (o:Option (Option PV)) (k:PV→Prop) (_:g6 k:=dp):Prop:=match o with | some (some x)=>k x | _=>False
def D_ (x:PV) (k:Int→Prop) (_:g6 k:=dp):Prop:=match x with | .int i=>k i | _=>False
def Kl (x:PV) (k:Bool→Prop) (_:g6 k:=dp):Prop:=match x with | .bl i=>k i | _=>False
def Ko (x:PV) (k:Str→Prop) (_:g6 k:=dp):Prop:=match x with | .str i=>k i | _=>False
def DH (x:PV) (k:Addr→Prop) (_:g6 k:=dp):Prop:=match x with | .ref a=>k a | _=>False
def Nu (x:PV) (k:List PV→Prop) (_:g6 k:=dp):Prop:=match x with | .tup a=>k a | _=>False
def DG (xs:List PV) (k:PV→Prop) (_:g6 k:=dp):Prop:=match xs with | [x]=>k x | _=>False
def Qf (o:Option HQ) (k:List PV→Prop) (_:g6 k:=dp):Prop:=match o with | some (.lst xs)=>k xs | _=>False
def G' (o:Option HQ) (k:List (Str × PV)→Nat→Prop) (_:g6 k:=dp):Prop:=match o with | some (.dct xs e)=>k xs e | _=>False
def Mc (C:Addr) (o:Option HQ) (k:List (Str × PV)→Prop) (_:g6 k:=dp):Prop:=match o with | some (.ins C' fs)=>if C'=C then k fs else False | _=>False
def Rm (xs:List PV) (k:Prop) (_:g6 k:=dp):Prop:=match xs with | []=>k | _=>False
def Md (xs:List PV) (k:PV→List PV→Prop) (_:g6 k:=dp):Prop:=match xs with | x :: r=>k x r | []=>False
def Mh (xs:List PV) (k:PV→PV→Prop) (_:g6 k:=dp):Prop:=match xs with | [x,y]=>k x y | _=>False
theorem OH {k:Prop} {d:g6 k}:Rm [] k d=k:=rfl
theorem Me {x:PV} {r:List PV} {k:PV→List PV→Prop} {d:g6 k}:Md (x :: r) k d=k x r:=rfl
theorem OI {x y:PV} {k:PV→PV→Prop} {d:g6 k}:Mh [x,y] k d=k x y:=rfl
theorem Mg {xs:List PV} {k:Prop} {d:g6 k} (h:Rm xs k d):xs=[]∧k:=by cases xs with | nil=>exact ⟨rfl,h⟩ | cons x r=>exact h.elim
theorem Iq {xs:List PV} {k:PV→List PV→Prop} {d:g6 k} (h:Md xs k d):∃x r,xs=x :: r∧k x r:=by cases xs with | nil=>exact h.elim | cons x r=>exact ⟨_,_,rfl,h⟩
theorem Ao {xs:List PV} {k:PV→PV→Prop} {d:g6 k} (h:Mh xs k d):∃x y,xs=[x,y]∧k x y:=by
 unfold Mh at h
 split at h
 ·exact ⟨_,_,rfl,h⟩
 ·exact h.elim
theorem OK {α:Type} {x:α} {k:α→Prop} {d:g6 k}:wz (some x) k d=k x:=rfl
theorem OC {x:PV} {k:PV→Prop} {d:g6 k}:Nt (some (some x)) k d=k x:=rfl
theorem OF {x:Int} {k:Int→Prop} {d:g6 k}:D_ (.int x) k d=k x:=rfl
theorem OD {x:Bool} {k:Bool→Prop} {d:g6 k}:Kl (.bl x) k d=k x:=rfl
theorem OL {x:Str} {k:Str→Prop} {d:g6 k}:Ko (.str x) k d=k x:=rfl
theorem OJ {x:Addr} {k:Addr→Prop} {d:g6 k}:DH (.ref x) k d=k x:=rfl
theorem OM {x:List PV} {k:List PV→Prop} {d:g6 k}:Nu (.tup x) k d=k x:=rfl
theorem OB {x:PV} {k:PV→Prop} {d:g6 k}:DG [x] k d=k x:=rfl
theorem OG {x:List PV} {k:List PV→Prop} {d:g6 k}:Qf (some (.lst x)) k d=k x:=rfl
theorem OE {x:List (Str × PV)} {e:Nat} {k:List (Str × PV)→Nat→Prop} {d:g6 k}:G' (some (.dct x e)) k d=k x e:=rfl
theorem Km {C:Addr} {x:List (Str × PV)} {k:List (Str × PV)→Prop} {d:g6 k}:Mc C (some (.ins C x)) k d=k x:=if_pos rfl
theorem eW {α:Type} {o:Option α} {k:α→Prop} {d:g6 k} (h:wz o k d):∃x,o=some x∧k x:=by cases o with | none=>exact h.elim | some x=>exact ⟨x,rfl,h⟩
theorem kF {α:Type} {o:Option α} {x:α} {k:α→Prop} (e:o=some x) (h:k x):wz o k:=by rw [e];exact h
theorem FI {o:Option (Option PV)} {k:PV→Prop} {d:g6 k} (h:Nt o k d):∃x,o=some (some x)∧k x:=by
 unfold Nt at h
 split at h
 ·exact ⟨_,rfl,h⟩
 ·exact h.elim
theorem Mb {o:Option (Option PV)} {x:PV} {k:PV→Prop} (e:o=some (some x)) (h:k x):Nt o k:=by rw [e];exact h
theorem iw {x:PV} {k:Int→Prop} {d:g6 k} (h:D_ x k d):∃i,x=.int i∧k i:=by cases x <;> first | exact ⟨_,rfl,h⟩ | exact False.elim h
theorem oY {x:PV} {k:Bool→Prop} {d:g6 k} (h:Kl x k d):∃i,x=.bl i∧k i:=by cases x <;> first | exact ⟨_,rfl,h⟩ | exact False.elim h
theorem o4 {x:PV} {k:Str→Prop} {d:g6 k} (h:Ko x k d):∃i,x=.str i∧k i:=by cases x <;> first | exact ⟨_,rfl,h⟩ | exact False.elim h
theorem iy {x:PV} {k:Addr→Prop} {d:g6 k} (h:DH x k d):∃i,x=.ref i∧k i:=by cases x <;> first | exact ⟨_,rfl,h⟩ | exact False.elim h
theorem Ap {x:PV} {k:List PV→Prop} {d:g6 k} (h:Nu x k d):∃i,x=.tup i∧k i:=by cases x <;> first | exact ⟨_,rfl,h⟩ | exact False.elim h
theorem jC {xs:List PV} {k:PV→Prop} {d:g6 k} (h:DG xs k d):∃x,xs=[x]∧k x:=by
 unfold DG at h
 split at h
 ·exact ⟨_,rfl,h⟩
 ·exact h.elim
theorem Mf {o:Option HQ} {k:List PV→Prop} {d:g6 k} (h:Qf o k d):∃x,o=some (.lst x)∧k x:=by
 unfold Qf at h
 split at h
 ·exact ⟨_,rfl,h⟩
 ·exact h.elim
theorem oZ {o:Option HQ} {k:List (Str × PV)→Nat→Prop} {d:g6 k} (h:G' o k d):∃x e,o=some (.dct x e)∧k x e:=by
 unfold G' at h
 split at h
 ·exact ⟨_,_,rfl,h⟩
 ·exact h.elim
theorem An {C:Addr} {o:Option HQ} {k:List (Str × PV)→Prop} {d:g6 k} (h:Mc C o k d):∃x,o=some (.ins C x)∧k x:=by
 unfold Mc at h
 split at h
 ·split at h
  ·rename_i e;subst e;exact ⟨_,rfl,h⟩
  ·exact h.elim
 ·exact h.elim
theorem Aq {x:PV} {xs:List PV} {k:List PV→Prop} (e:x=.tup xs) (h:k xs):Nu x k:=by rw [e];exact h
theorem Am {x:PV} {b:Bool} {k:Bool→Prop} (e:x=.bl b) (h:k b):Kl x k:=by rw [e];exact h
theorem mB {C:Addr} {o:Option HQ} {x:List (Str × PV)} {k:List (Str × PV)→Prop} (e:o=some (.ins C x)) (h:k x):Mc C o k:=by rw [e,Km];exact h
section
variable {X:Cx} {G:G2} {a b c e o:Expr} {es rest:List Expr} {ta tb te tc to:dz} {tA tB':lZ} {t:pO} {pos px p p2 apos cpos:Pos} {x:Str} {i j:Nat}
def sy (i:Nat):dz:=λτ J Q=>Nt τ[i]? λx=>Q x J
theorem rv (i:Nat) {x:Str} {pos:Pos} (hN:X.N[i]?=some x:=by rfl) (hv:vM X.env.scope x:=by first | exact Or.inl rfl | exact Or.inr (Or.inl rfl) | exact Or.inr (Or.inr rfl)) (hd:(x == ("__debug__":Str))=false:=by decide)
  (hcd:(x == ("__classdict__":Str))=false:=by decide):RE X G (.Name x pos) (sy i) :=
 ⟨lX (L2.Ay hN hv hd hcd) λσ H Q ⟨τ,J,Q2,a2,hq,k⟩=>let ⟨y,ey,q⟩:=FI hq;let ⟨v,e1,r⟩:=a2.sl.get i y ey;⟨v,e1,k y J v H r a2.hp .refl q⟩⟩
def rC (x:PV):dz:=λ_ J Q=>Q x J
theorem ag {i:Int} {j pos}:RE X G (.Constant (.int i) j pos) (rC (.int i)):=⟨lX L2.aV λσ H Q ⟨τ,J,Q2,a2,q,k⟩=>k (.int i) J _ H rfl a2.hp .refl q⟩
theorem dN {b:Bool} {j pos}:RE X G (.Constant (.bool b) j pos) (rC (.bl b)):=⟨lX L2.yK λσ H Q ⟨τ,J,Q2,a2,q,k⟩=>k (.bl b) J _ H rfl a2.hp .refl q⟩
theorem mD {j pos}:RE X G (.Constant .none j pos) (rC .non):=⟨lX L2.Av λσ H Q ⟨τ,J,Q2,a2,q,k⟩=>k .non J _ H rfl a2.hp .refl q⟩
theorem bF {x:Str} {j pos}:RE X G (.Constant (.str x) j pos) (rC (.str x)):=⟨lX L2.o6 λσ H Q ⟨τ,J,Q2,a2,q,k⟩=>k (.str x) J _ H rfl a2.hp .refl q⟩
theorem fW {v:V} {u:Value} (y:PV) (hg:Gl X x) (hm:X.mg x=some u) (r:RelV v u) (hr:∀J H,cH X.K J H y v) (hd:(x == ("__debug__":Str))=false:=by decide):RE X G (.Name x pos) (rC y) :=
 ⟨lX (L2.qG hg hm r hd) λσ H Q ⟨τ,J,Q2,a2,q,k⟩=>k y J v H (hr J H) a2.hp .refl q⟩
theorem kZ {n:String} (hg:Gl X x) (hm:X.mg x=none) (hv:bootBuiltins x=some (.type n)) (hn:x≠"__name__":=by decide) (hd:(x == ("__debug__":Str))=false:=by decide):RE X G (.Name x pos) (rC (.ty n)) :=
 ⟨lX (L2.wC (v:=.ty n) hg hm hv rfl hn hd) λσ H Q ⟨τ,J,Q2,a2,q,k⟩=>k (.ty n) J _ H rfl a2.hp .refl q⟩
abbrev m7:=PV→PV→Hq→(PV→Hq→Prop)→Prop
abbrev NH:=PV→Hq→(PV→Hq→Prop)→Prop
abbrev Bi:=List PV→Hq→(PV→Hq→Prop)→Prop
def Kn (K:PySem.W.Frag) (J:Hq) (H:Hp) (Q2:PV→Hq→Prop) (Q:VK):Prop:=∀z J' u H',cH K J' H' z u→Rep K J' H'→Ext K J H J' H'→Q2 z J'→Q u H'
def LR (K:PySem.W.Frag) (r:R2) (q:m7):Prop:=∀J H x y v w Q2 Q,cH K J H x v→cH K J H y w→Rep K J H→q x y J Q2→Kn K J H Q2 Q→r v w H Q
def S2 (K:PySem.W.Frag) (r:V→Hp→VK→Prop) (q:NH):Prop:=∀J H x v Q2 Q,cH K J H x v→Rep K J H→q x J Q2→Kn K J H Q2 Q→r v H Q
def Sk (K:PySem.W.Frag) (r:List V→Hp→VK→Prop) (q:Bi):Prop:=∀J H xs vs Q2 Q,aS K J H xs vs→Rep K J H→q xs J Q2→Kn K J H Q2 Q→r vs H Q
def m6 (X:Cx) (f:Value→Value→Sem Value) (q:m7):Prop:=∃r,fT X f r∧LR X.K r q
def Sm (X:Cx) (f:Value→Sem Value) (q:NH):Prop:=∃r,xJ X f r∧S2 X.K r q
def Qs (X:Cx) (q:m7):Prop:=∃r,p9 X r∧LR X.K r q
def JQ (X:Cx) (f:Value) (q:Bi):Prop:=∃r,cx X f r∧Sk X.K r q
def AI (q:m7) (ta tb:dz):dz:=λτ J Q=>ta τ J λx J1=>tb τ J1 λy J2=>q x y J2 Q
def SW (q:NH) (ta:dz):dz:=λτ J Q=>ta τ J λx J1=>q x J1 Q
theorem qE {r:R2} {q:m7} (lr:LR X.K r q):∀σ H Q,LE X.K G (AI q ta tb) σ H Q→L2.GU r (LE X.K G ta) (LE X.K G tb) σ H Q:=λσ H Q ⟨τ,J,Q2,a2,h,k⟩ =>
 ⟨τ,J,_,a2,h,λx J1 v H1 rx r1 e1 q1=>⟨τ,J1,_,a2.go r1 e1,q1,λy J2 w H2 ry r2 e2 q2 =>
  lr J2 H2 x y v w Q2 Q (e2.rep rx) ry r2 q2 λz J' u H' rz rr ee qq=>k z J' u H' rz rr ((e1.trans e2).trans ee) qq⟩⟩
theorem aM {op:Operator} {q:m7} (ho:m6 X (binaryOp op) q) (ha:RE X G a ta) (hb:RE X G b tb):RE X G (.BinOp a op b pos) (AI q ta tb):=by
 obtain ⟨r,h,lr⟩:=ho
 exact ⟨lX (L2.bD h ha.run hb.run) (qE lr)⟩
theorem pZ {op:UnaryOp} {q:NH} (ho:Sm X (unaryOp op) q) (ha:RE X G a ta):RE X G (.UnaryOp op a pos) (SW q ta):=by
 obtain ⟨r,h,lr⟩:=ho
 exact ⟨lX (L2.BW h ha.run) λσ H Q ⟨τ,J,Q2,a2,h,k⟩=>⟨τ,J,_,a2,h,λx J1 v H1 rx r1 e1 q1 =>
  lr J1 H1 x v Q2 Q rx r1 q1 λz J' u H' rz rr ee qq=>k z J' u H' rz rr (e1.trans ee) qq⟩⟩
theorem au {q:m7} (hr:Qs X q) (ha:RE X G a ta) (hb:RE X G b tb) (hs:c_ b:=by exact λ_ _=>rfl):RE X G (.Subscript a b pos) (AI q ta tb):=by
 obtain ⟨r,h,lr⟩:=hr
 exact ⟨lX (L2.cD h ha.run hb.run hs) (qE lr)⟩
theorem fP {op:CmpOp} {q:m7} (ho:m6 X (compareOp op) q) (ha:RE X G a ta) (hb:RE X G b tb) (hm:behindInMarks op b=false:=by first | exact L2.fJ _ | with_unfolding_all rfl):RE X G (.Compare a [op] [b] pos) (AI q ta tb):=by
 obtain ⟨r,h,lr⟩:=ho
 exact ⟨lX (L2.qF h ha.run hb.run hm) (qE lr)⟩
def rB (t:dz):lZ:=λτ J Q=>t τ J λx J1=>Kl x λk=>Q k J1
theorem aE {op:CmpOp} {q:m7} (ho:m6 X (compareOp op) q) (ha:RE X G a ta) (hb:RE X G b tb) (hm:behindInMarks op b=false:=by first | exact L2.fJ _ | with_unfolding_all rfl):RT X G (.Compare a [op] [b] pos) (rB (AI q ta tb)):=by
 obtain ⟨r,h,lr⟩:=ho
 refine ⟨Qh (L2.dX h ha.run hb.run hm) λσ H Q ⟨τ,J,Q2,a2,h,k⟩=>?_⟩
 refine qE lr σ H _ ⟨τ,J,_,a2,h,λz J' u H' rz rr ee qq=>?_⟩
 obtain ⟨b,rfl,q⟩:=oY qq
 exact ⟨b,rz,k b J' H' rr ee q⟩
theorem bt (h:RE X G e te) (he:∀whole,isTrue e X.env whole=(do let v ← whole;standAt e.pos;holding [v] (truthy v)):=by intro _;rfl):RT X G e (rB te) :=
 ⟨Qh (L2.AF h.run he) λσ H Q ⟨τ,J,Q2,a2,h,k⟩=>⟨τ,J,_,a2,h,λz J' u H' rz rr ee qq=>by obtain ⟨b,eb,q⟩:=oY qq;subst eb;exact ⟨b,rz,k b J' H' rr ee q⟩⟩⟩
def xF (J:Hq):PV→Option Bool
 | .non=>some false
 | .bl b=>some b
 | .int i=>some (i != 0)
 | .tup xs=>some (!xs.isEmpty)
 | .fl xs=>some (!xs.isEmpty)
 | .ref a=>match J a with
  | some (.lst xs)=>some (!xs.isEmpty)
  | some (.dct kvs _)=>some (!kvs.isEmpty)
  | _=>none
 | _=>none
theorem hV {α β:Type} {xs:List α} {ys:List β} (h:xs.length=ys.length):xs.isEmpty=ys.isEmpty:=by cases xs <;> cases ys <;> simp_all
theorem JG {K:PySem.W.Frag} {J:Hq} {H:Hp} {x:PV} {v:V} {k:Bool} (r:cH K J H x v) (hp:Rep K J H) (h:xF J x=some k):L2.Le K v H k:=by
 cases x with
 | non=>cases r;cases h;rfl
 | bl b=>cases r;cases h;rfl
 | int i=>cases r;cases h;rfl
 | str s=>cases h
 | ty n=>cases h
 | tup xs=>obtain ⟨a,vs,rfl,h1,h2⟩:=r;cases h;exact .inr (.inl ⟨vs,h1,by rw [hV h2.length]⟩)
 | fl xs=>obtain ⟨a,vs,rfl,h1,h2⟩:=r;cases h;exact .inl ⟨vs,h1.sq,by rw [hV h2.length]⟩
 | ref a =>
  cases r
  unfold xF at h
  dsimp only at h
  cases e:J a with
  | none=>rw [e] at h;cases h
  | some o =>
   rw [e] at h
   have z:=hp a o e
   cases o with
   | lst xs=>obtain ⟨vs,h1,h2⟩:=z;cases h;exact .inl ⟨vs,.inl (.inl h1),by rw [hV h2.length]⟩
   | ins C fs=>cases h
   | tab=>cases h
   | dtp hs ks=>cases h
   | dct kvs ep =>
    obtain ⟨gs,h1,h2⟩:=z;cases h
    refine .inr (.inr ⟨gs,ep,h1,?_⟩)
    have:=congrArg UP h2.1
    simp only [Th] at this
    rw [hV this]
def Po (te:dz):lZ:=λτ J Q=>te τ J λx J1=>wz (xF J1 x) λk=>Q k J1
theorem MR (h:RE X G e te) (he:∀whole,isTrue e X.env whole=(do let v ← whole;standAt e.pos;holding [v] (truthy v)):=by intro _;rfl):RT X G e (Po te) :=
 ⟨Qh (L2.F0 h.run he) λσ H Q ⟨τ,J,Q2,a2,h,k⟩=>⟨τ,J,_,a2,h,λz J' u H' rz rr ee qq=>let ⟨b,eb,q⟩:=eW qq;⟨b,JG rz rr eb,k b J' H' rr ee q⟩⟩⟩
def IT (t u:lZ):lZ:=λτ J Q=>t τ J λc J1=>if c=true then u τ J1 Q else Q false J1
def RC (t u:lZ):lZ:=λτ J Q=>t τ J λc J1=>if c=true then Q true J1 else u τ J1 Q
def Pg (t:lZ):lZ:=λτ J Q=>t τ J λc J1=>Q (!c) J1
theorem bU (ha:RT X G a tA):RT X G (.UnaryOp .Not a pos) (Pg tA):=⟨Qh (L2.AE ha.run) λσ H Q ⟨τ,J,Q2,a2,h,k⟩=>⟨τ,J,_,a2,h,λb J' H' rr ee q=>k _ J' H' rr ee q⟩⟩
theorem dY (ha:RT X G a tA):RW X G (.BoolOp .And [a] pos) tA:=⟨L2.qK ha.run⟩
theorem fu (ha:RT X G a tA):RW X G (.BoolOp .Or [a] pos) tA:=⟨L2.wR ha.run⟩
theorem Ey {σ:L2.St} {H:Hp} {Q:Bool→Hp→Prop}:LT X.K G (IT tA tB') σ H Q→L2.GO (LT X.K G tA) (LT X.K G tB') σ H Q:=λ⟨τ,J,Q2,a2,h,k⟩ =>
 ⟨τ,J,_,a2,h,λb J' H' rr ee q=>by
  cases b with
  | true=>simp only [if_true] at q ⊢;exact ⟨τ,J',Q2,a2.go rr ee,q,λb J2 H2 r2 e2 q2=>k b J2 H2 r2 (ee.trans e2) q2⟩
  | false=>simp only [TJ,if_false] at q ⊢;exact k _ J' H' rr ee q⟩
theorem Iz {σ:L2.St} {H:Hp} {Q:Bool→Hp→Prop}:LT X.K G (RC tA tB') σ H Q→L2.PJ (LT X.K G tA) (LT X.K G tB') σ H Q:=λ⟨τ,J,Q2,a2,h,k⟩ =>
 ⟨τ,J,_,a2,h,λb J' H' rr ee q=>by
  cases b with
  | false=>simp only [TJ,if_false] at q ⊢;exact ⟨τ,J',Q2,a2.go rr ee,q,λb J2 H2 r2 e2 q2=>k b J2 H2 r2 (ee.trans e2) q2⟩
  | true=>simp only [if_true] at q ⊢;exact k _ J' H' rr ee q⟩
theorem ft (ha:RT X G a tA) (hb:RW X G (.BoolOp .And (b :: rest) pos) tB'):RW X G (.BoolOp .And (a :: b :: rest) pos) (IT tA tB'):=⟨SK (L2.wQ ha.run hb.run) λσ H Q h=>Ey h⟩
theorem gj (ha:RT X G a tA) (hb:RW X G (.BoolOp .Or (b :: rest) pos) tB'):RW X G (.BoolOp .Or (a :: b :: rest) pos) (RC tA tB'):=⟨SK (L2.B0 ha.run hb.run) λσ H Q h=>Iz h⟩
theorem c7 (h:RW X G e tA):RT X G e tA:=⟨h.run.pt⟩
def KC (ta tb:dz):dz:=λτ J Q=>ta τ J λx J1=>Kl x λc=>if c=true then tb τ J1 Q else Q (.bl false) J1
def Ph (ta tb:dz):dz:=λτ J Q=>ta τ J λx J1=>Kl x λc=>if c=true then Q (.bl true) J1 else tb τ J1 Q
def KJ (ta:dz):dz:=λτ J Q=>ta τ J λx J1=>Kl x λc=>Q (.bl (!c)) J1
theorem wV {op} (h:RE X G a ta):RE X G (.BoolOp op [a] pos) ta:=⟨L2.Ax h.run⟩
theorem AK (ha:RE X G a ta) (hb:RE X G (.BoolOp .And (b :: rest) pos) tb):RE X G (.BoolOp .And (a :: b :: rest) pos) (KC ta tb):=⟨lX (L2.Au ha.run hb.run) λσ H Q ⟨τ,J,Q2,a2,h,k⟩ =>
 ⟨τ,J,_,a2,h,λx J' v H' rx rr ee qq=>by
  obtain ⟨c,ec,q⟩:=oY qq
  subst ec
  refine ⟨c,rx,?_⟩
  cases c with
  | true=>simp only [if_true] at q ⊢;exact ⟨τ,J',Q2,a2.go rr ee,q,λz J2 u H2 rz r2 e2 q2=>k z J2 u H2 rz r2 (ee.trans e2) q2⟩
  | false=>simp only [TJ,if_false] at q ⊢;exact k (.bl false) J' _ H' rfl rr ee q⟩⟩
theorem Pu (ha:RE X G a ta) (hb:RE X G (.BoolOp .Or (b :: rest) pos) tb):RE X G (.BoolOp .Or (a :: b :: rest) pos) (Ph ta tb):=⟨lX (L2.FX ha.run hb.run) λσ H Q ⟨τ,J,Q2,a2,h,k⟩ =>
 ⟨τ,J,_,a2,h,λx J' v H' rx rr ee qq=>by
  obtain ⟨c,ec,q⟩:=oY qq
  subst ec
  refine ⟨c,rx,?_⟩
  cases c with
  | false=>simp only [TJ,if_false] at q ⊢;exact ⟨τ,J',Q2,a2.go rr ee,q,λz J2 u H2 rz r2 e2 q2=>k z J2 u H2 rz r2 (ee.trans e2) q2⟩
  | true=>simp only [if_true] at q ⊢;exact k (.bl true) J' _ H' rfl rr ee q⟩⟩
theorem MJ (ha:RE X G a ta):RE X G (.UnaryOp .Not a pos) (KJ ta):=⟨lX (L2.Aw ha.run) λσ H Q ⟨τ,J,Q2,a2,h,k⟩ =>
 ⟨τ,J,_,a2,h,λx J' v H' rx rr ee qq=>by obtain ⟨c,ec,q⟩:=oY qq;subst ec;exact ⟨c,rx,k (.bl (!c)) J' _ H' rfl rr ee q⟩⟩⟩
def SR (t:lZ) (ta tb:dz):dz:=λτ J Q=>t τ J λc J1=>if c=true then ta τ J1 Q else tb τ J1 Q
theorem Pr (hc:RT X G c tA) (ha:RE X G a ta) (hb:RE X G b tb):RE X G (.IfExp c a b pos) (SR tA ta tb):=⟨lX (L2.sk hc.run ha.run hb.run) λσ H Q ⟨τ,J,Q2,a2,h,k⟩ =>
 ⟨τ,J,_,a2,h,λc J' H' rr ee q=>by
  cases c with
  | true=>simp only [if_true] at q ⊢;exact ⟨τ,J',Q2,a2.go rr ee,q,λz J2 u H2 rz r2 e2 q2=>k z J2 u H2 rz r2 (ee.trans e2) q2⟩
  | false=>simp only [TJ,if_false] at q ⊢;exact ⟨τ,J',Q2,a2.go rr ee,q,λz J2 u H2 rz r2 e2 q2=>k z J2 u H2 rz r2 (ee.trans e2) q2⟩⟩⟩
def AH:pO:=λ_ J Q=>Q [] J
def yQ (ta:dz) (tr:pO):pO:=λτ J Q=>ta τ J λx J1=>tr τ J1 λxs J2=>Q (x :: xs) J2
theorem ah:RA X G [] AH:=⟨Ro L2.bS λσ H Q ⟨τ,J,Q2,a2,h,k⟩=>k [] J [] H rfl a2.hp .refl h⟩
theorem af (ha:RE X G e te) (hr:RA X G es t) (hs:starEach (e :: es) X.env=(false,eval e X.env) :: starEach es X.env:=by rfl):RA X G (e :: es) (yQ te t) :=
 ⟨Ro (L2.a7 ha.run hr.run hs) λσ H Q ⟨τ,J,Q2,a2,h,k⟩=>⟨τ,J,_,a2,h,λx J' v H' rx rr ee q=>⟨τ,J',_,a2.go rr ee,q,λxs J2 vs H2 rs r2 e2 q2=>k (x :: xs) J2 (v :: vs) H2 ⟨v,vs,rfl,e2.rep rx,rs⟩ r2 (ee.trans e2) q2⟩⟩⟩
def vP:V→PV
 | .non=>.non | .bl b=>.bl b | .int i=>.int i | .str x=>.str x | _=>.non
theorem sD {K:PySem.W.Frag} {J:Hq} {H:Hp}:∀{es:List Expr} {vs:List V},es.map vQ=vs.map some→aS K J H (vs.map vP) vs
 | [],[],_=>rfl
 | [],_ :: _,h=>by cases h
 | _ :: _,[],h=>by cases h
 | e :: es,v :: vs,h=>by
  rw [Tt,Tt] at h
  injection h with h1 h2
  refine ⟨v,vs,rfl,?_,sD h2⟩
  cases e with
  | Constant c j pos =>
   cases c with
   | int i=>cases h1;rfl
   | str x=>cases h1;rfl
   | bool b=>cases h1;rfl
   | _=>cases h1
  | _=>cases h1
theorem AJ {es:List Expr} (vs:List V) (h:es.map vQ=vs.map some) (xs:List PV) (hx:vs.map vP=xs):RA X G es (λ_ J Q=>Q xs J) :=
 ⟨Ro (si vs h) λσ H Q ⟨τ,J,Q2,a2,q,k⟩=>k _ J _ H (by rw [← hx];exact sD h) a2.hp .refl q⟩
def Pp (t:pO):dz:=λτ J Q=>t τ J λxs J1=>xs.length≤sizeLine∧Q (.tup xs) J1
theorem bO {x1} (h:RA X G es t):RE X G (.Tuple es x1 pos) (Pp t):=⟨lX (L2.so h.run) λσ H Q ⟨τ,J,Q2,a2,h,k⟩=>⟨τ,J,_,a2,h,λxs J' vs H' rs rr ee ⟨hl,q⟩ =>
 ⟨by rw [← rs.length];exact hl,λp hp=>by
  have sm:=bJ.new hp (.tup vs)
  have e2:=Ext.same (K:=X.K) (J:=J') sm
  exact k (.tup xs) J' (.ref p) _ ⟨p,vs,rfl,.inl (.inl aK),e2.jg rs⟩ (rr.same sm) (ee.trans e2) q⟩⟩⟩
def Pf (t:pO):dz:=λτ J Q=>t τ J λxs J1=>xs.length≤sizeLine∧∀p,J1 p=none→Q (.ref p) (put J1 p (.lst xs))
theorem mC (h:RA X G es t):RE X G (.List es pos) (Pf t):=⟨lX (L2.kI h.run) λσ H Q ⟨τ,J,Q2,a2,h,k⟩=>⟨τ,J,_,a2,h,λxs J' vs H' rs rr ee ⟨hl,q⟩ =>
 ⟨by rw [← rs.length];exact hl,λp hp=>k (.ref p) _ (.ref p) _ rfl (rr.Ff hp rs) (ee.trans (.laid hp)) (q p (rr.free hp))⟩⟩⟩
def SQ (t:pO):dz:=λτ J Q=>t τ J λxs J1=>xs.length≤sizeLine∧Q (.fl xs) J1
theorem wd {K:PySem.W.Frag} {J:Hq} {H:Hp} {xs:List PV} {vs:List V} {p:Addr} (rr:Rep K J H) (rs:aS K J H xs vs) (hp:H p=none):cH K J (upd H p (.lst vs)) (.fl xs) (.ref p)∧Rep K J (upd H p (.lst vs))∧Ext K J H J (upd H p (.lst vs)):=by
 have sm:=bJ.new hp (.lst vs)
 have e2:=Ext.same (K:=K) (J:=J) sm
 exact ⟨⟨p,vs,rfl,.inl ⟨rr.free hp,.inl aK⟩,e2.jg rs⟩,rr.same sm,e2⟩
theorem vf (h:RA X G es t):RE X G (.List es pos) (SQ t):=⟨lX (L2.kI h.run) λσ H Q ⟨τ,J,Q2,a2,h,k⟩=>⟨τ,J,_,a2,h,λxs J' vs H' rs rr ee ⟨hl,q⟩ =>
 ⟨by rw [← rs.length];exact hl,λp hp=>let ⟨x1,x2,x3⟩:=wd rr rs hp;k (.fl xs) _ (.ref p) _ x1 x2 (ee.trans x3) q⟩⟩⟩
abbrev Nj:=Sr→Hq→(Option Int→Hq→Prop)→Prop
def LO (K:PySem.W.Frag) (G:G2) (t:Nj):TO:=λσ H Q=>∃τ J Q2,xI K G τ J σ H∧t τ J Q2∧∀b J' H',Rep K J' H'→Ext K J H J' H'→Q2 b J'→Q b H'
structure RO (X:Cx) (G:G2) (e:Option Expr) (t:Nj):Prop where
 run:L2.PO X e (LO X.K G t)
theorem SJ {X:Cx} {e:Option Expr} {t t':TO} (h:L2.PO X e t) (k:∀σ H Q,t' σ H Q→t σ H Q):L2.PO X e t':=λpins s σ H Q I q=>h pins s σ H Q I (k _ _ _ q)
def B5:Nj:=λ_ J Q=>Q none J
def KL (t:dz):Nj:=λτ J Q=>t τ J λx J1=>D_ x λi=>Q (some i) J1
theorem n4:RO X G none B5:=⟨SJ L2.qH λσ H Q ⟨τ,J,Q2,a2,h,k⟩=>k none J H a2.hp .refl h⟩
theorem n6 (h:RE X G e te):RO X G (some e) (KL te):=⟨SJ (L2.lM h.run) λσ H Q ⟨τ,J,Q2,a2,h,k⟩=>⟨τ,J,_,a2,h,λx J' v H' rx rr ee qq=>by obtain ⟨i,ei,q⟩:=iw qq;subst ei;exact ⟨i,rx,k _ J' H' rr ee q⟩⟩⟩
abbrev CW:=PV→Option Int→Option Int→Hq→(PV→Hq→Prop)→Prop
def Qv (X:Cx) (q:CW):Prop:=∃r,tJ X r∧∀J H x lo hi v Q2 Q,cH X.K J H x v→Rep X.K J H→q x lo hi J Q2→Kn X.K J H Q2 Q→r v lo hi H Q
def SV (q:CW) (te:dz) (tl th:Nj):dz:=λτ J Q=>te τ J λx J1=>tl τ J1 λl J2=>th τ J2 λu J3=>q x l u J3 Q
theorem kY {lo hi:Option Expr} {tl th:Nj} {q:CW} (hr:Qv X q) (he:RE X G e te) (hl:RO X G lo tl) (hu:RO X G hi th):RE X G (.Subscript e (.Slice lo hi none p2) pos) (SV q te tl th):=by
 obtain ⟨r,h,lr⟩:=hr
 exact ⟨lX (L2.kJ h he.run hl.run hu.run) λσ H Q ⟨τ,J,Q2,a2,h,k⟩=>⟨τ,J,_,a2,h,λx J' v H' rx rr ee q1=>⟨τ,J',_,a2.go rr ee,q1,λl J2 H2 r2 e2 q2 =>
  ⟨τ,J2,_,a2.go r2 (ee.trans e2),q2,λu J3 H3 r3 e3 q3=>lr J3 H3 x l u v Q2 Q ((e2.trans e3).rep rx) r3 q3 λz J4 w H4 rz r4 e4 q4=>k z J4 w H4 rz r4 (((ee.trans e2).trans e3).trans e4) q4⟩⟩⟩⟩
def O8 (q:Bi) (t:pO):dz:=λτ J Q=>t τ J λxs J1=>q xs J1 Q
theorem Bl {r:List V→Hp→VK→Prop} {q:Bi} (lr:Sk X.K r q):∀σ H Q,LE X.K G (O8 q t) σ H Q→L2.KZ r (LA X.K G t) σ H Q:=λσ H Q ⟨τ,J,Q2,a2,h,k⟩ =>
 ⟨τ,J,_,a2,h,λxs J1 vs H1 rs r1 e1 q1=>lr J1 H1 xs vs Q2 Q rs r1 q1 λz J' u H' rz rr ee qq=>k z J' u H' rz rr (e1.trans ee) qq⟩
theorem aJ {id:String} {q:Bi} (hc:JQ X (.builtin id) q) (hg:Gl X x) (hm:X.mg x=none) (hv:bootBuiltins x=some (.builtin id)) (ha:RA X G (e :: es) t) (hn:x≠"__name__":=by decide) (hdb:(x == ("__debug__":Str))=false:=by decide)
  (he:starEach (e :: es) X.env=(false,eval e X.env) :: starEach es X.env:=by rfl) (hpl:(backTo pos (starEach es X.env)).any (·.1)=false:=by rfl):RE X G (.Call (.Name x p) (e :: es) [] pos) (O8 q t):=by
 obtain ⟨r,h,lr⟩:=hc
 exact ⟨lX (L2.eu h hg hm hv ha.run hn hdb he hpl) (Bl lr)⟩
theorem fN {T:String} {q:Bi} (hc:JQ X (.type T) q) (hg:Gl X x) (hm:X.mg x=none) (hv:bootBuiltins x=some (.type T)) (ha:RA X G (e :: es) t) (hn:x≠"__name__":=by decide) (hdb:(x == ("__debug__":Str))=false:=by decide)
  (he:starEach (e :: es) X.env=(false,eval e X.env) :: starEach es X.env:=by rfl) (hpl:(backTo pos (starEach es X.env)).any (·.1)=false:=by rfl):RE X G (.Call (.Name x p) (e :: es) [] pos) (O8 q t):=by
 obtain ⟨r,h,lr⟩:=hc
 exact ⟨lX (L2.o5 h hg hm hv ha.run hn hdb he hpl) (Bl lr)⟩
abbrev CV:=PV→List PV→Hq→(PV→Hq→Prop)→Prop
def Hx (X:Cx) (T id:String) (q:CV):Prop:=∃r,qg X id r∧∀J H x xs v vs Q2 Q,cH X.K J H x v→aS X.K J H xs vs→Rep X.K J H→q x xs J Q2→Kn X.K J H Q2 Q→r v vs H Q
def NA (T:String) (J:Hq):PV→Prop
 | .str _=>T="str"
 | .fl _=>T="list"
 | .ref a=>(T="list"∧∃xs,J a=some (.lst xs))∨(T="dict"∧∃kvs ep,J a=some (.dct kvs ep))
 | _=>False
theorem CB {K:PySem.W.Frag} {T:String} {J:Hq} {H:Hp} {x:PV} {v:V} (r:cH K J H x v) (hp:Rep K J H) (h:NA T J x):L2.Qo K T v H:=by
 cases x with
 | str s=>cases r;exact h
 | fl xs=>obtain ⟨a,vs,rfl,h1,h2⟩:=r;exact .inl ⟨h,vs,h1.sq⟩
 | ref a =>
  cases r
  rcases h with ⟨h,xs,e⟩ | ⟨h,kvs,ep,e⟩
  ·obtain ⟨vs,h1,_⟩:=hp _ _ e;exact .inl ⟨h,vs,.inl (.inl h1)⟩
  ·obtain ⟨gs,h1,_⟩:=hp _ _ e;exact .inr (.inr (.inl ⟨h,.inr ⟨gs,ep,h1⟩⟩))
 | _=>cases h
def SN (T:String) (q:CV) (to:dz) (t:pO):dz:=λτ J Q=>to τ J λx J1=>NA T J1 x∧t τ J1 λxs J2=>q x xs J2 Q
def O7 (T:String) (q:CV) (to:dz):dz:=λτ J Q=>to τ J λx J1=>NA T J1 x∧q x [] J1 Q
theorem ie {name:Str} {T id:String} {q:CV} (pa:PlainAttrs T) (slot:Slot T name id) (hty:typeOf (.builtin id)=pure (.type "method_descriptor")) (hm:Hx X T id q) (ho:RE X G o to) (ha:RA X G (e :: es) t)
  (hbase:attributeBase o name X.env (eval o X.env)=eval o X.env:=by rfl)
  (hfew:((backTo cpos (starEach (e :: es) X.env)).all (λx=>!x.1) && (backToKw cpos (keywordEach [] X.env)).all (λx=>x.1.isSome)
   && decide ((e :: es).length + ([]:List Keyword).length + (if ([]:List Keyword).isEmpty then 0 else 1) < 30))=true:=by rfl)
  (hline:(apos.endLine == cpos.line)=true:=by rfl) (hs:starEach (e :: es) X.env=(false,eval e X.env) :: starEach es X.env:=by rfl) (hplain:(backTo cpos (starEach es X.env)).any (·.1)=false:=by rfl) :
  RE X G (.Call (.Attribute o name apos) (e :: es) [] cpos) (SN T q to t):=by
 obtain ⟨r,h,lr⟩:=hm
 exact ⟨lX (L2.sj pa slot hty h ho.run ha.run hbase hfew hline hs hplain) λσ H Q ⟨τ,J,Q2,a2,h,k⟩=>⟨τ,J,_,a2,h,λx J1 v H1 rx r1 e1 ⟨ty,q1⟩=>⟨CB rx r1 ty,τ,J1,_,a2.go r1 e1,q1,λxs J2 vs H2 rs r2 e2 q2 =>
  lr J2 H2 x xs v vs Q2 Q (e2.rep rx) rs r2 q2 λz J' u H' rz rr ee qq=>k z J' u H' rz rr ((e1.trans e2).trans ee) qq⟩⟩⟩
theorem kX {name:Str} {T id:String} {q:CV} (pa:PlainAttrs T) (slot:Slot T name id) (hty:typeOf (.builtin id)=pure (.type "method_descriptor")) (hm:Hx X T id q) (ho:RE X G o to)
  (hbase:attributeBase o name X.env (eval o X.env)=eval o X.env:=by rfl) (hline:(apos.endLine == cpos.line)=true:=by rfl):RE X G (.Call (.Attribute o name apos) [] [] cpos) (O7 T q to):=by
 obtain ⟨r,h,lr⟩:=hm
 exact ⟨lX (L2.Mr pa slot hty h ho.run hbase hline) λσ H Q ⟨τ,J,Q2,a2,h,k⟩=>⟨τ,J,_,a2,h,λx J1 v H1 rx r1 e1 ⟨ty,q1⟩=>⟨CB rx r1 ty,
  lr J1 H1 x [] v [] Q2 Q rx rfl r1 q1 λz J' u H' rz rr ee qq=>k z J' u H' rz rr (e1.trans ee) qq⟩⟩⟩
end
end Ov
namespace Ov
open PySem PySem.Spec PyProof.Rows
open L2 (V HO Hp Inv Cx VK XK TE TT TA TS TG qh TI TO j6 Ends vM Loc Gl Rd RelV Vals fT xJ cx p9 tJ qg j5 R2 upd aK aW dk g7 Sp qW It bJ c_ bW Passes pM aL Meth Mk Binds aP cm aw dt gm fm)
abbrev cM:=List PV→Hq→(PV→Hq→Prop)→(Addr→Hq→Prop)→Prop
def K' (K:PySem.W.Frag) (J:Hq) (H:Hp) (E2:Addr→Hq→Prop) (E:XK):Prop:=∀c J' H',Rep K J' H'→Ext K J H J' H'→E2 c J'→E (.ref c) none H'
def dC (K:PySem.W.Frag) (sp:cM):Sp:=λvs H Q E=>∃xs J Q2 E2,aS K J H xs vs∧Rep K J H∧sp xs J Q2 E2∧Kn K J H Q2 Q∧K' K J H E2 E
theorem K'.ext {K:PySem.W.Frag} {J J':Hq} {H H':Hp} {E2:Addr→Hq→Prop} {E:XK} (k:K' K J H E2 E) (e:Ext K J H J' H'):K' K J' H' E2 E:=λc J1 H1 r x q=>k c J1 H1 r (e.trans x) q
theorem _root_.L2.aP.S5 {P:Program} {w:World} {K:PySem.W.Frag} {mg:Str→Option Value} {base:Heap} {k:Nat} {f:Addr} {fd:FuncData} {ps:List Str} {sp:Sp} (F:aP P w K mg base L2.qV k f fd ps sp):aP P w K mg base (c8 P w) k f fd ps sp :=
 ⟨F.len,λA outer s H args us vs Q E hr he hb hv hs=>codeAny_mono (F.run A outer s H args us vs Q E hr he hb hv hs) λr s' q=>by
  cases r with
  | error e=>exact False.elim q
  | ok fl=>cases fl <;> exact q⟩
theorem _root_.L2.aP.P4 {P:Program} {w:World} {K:PySem.W.Frag} {mg:Str→Option Value} {base:Heap} {k:Nat} {f:Addr} {fd:FuncData} {ps:List Str} {sp:Sp} (F:aP P w K mg base (c8 P w) k f fd ps sp):aP P w K mg base L2.qV k f fd ps (λvs H Q _=>sp vs H Q L2.E0) :=
 ⟨λvs H Q E q=>F.len vs H Q _ q,λA outer s H args us vs Q E hr he hb hv hs=>codeAny_mono (F.run A outer s H args us vs Q _ hr he hb hv hs) λr s' q=>by
  cases r with
  | error e=>obtain ⟨_,_,_,_,_,z⟩:=q;exact z.elim
  | ok fl=>cases fl <;> exact q⟩
def bq (P:Program) (w:World) (K:PySem.W.Frag) (mg:Str→Option Value) (base:Heap) (k:Nat) (x:Str) (ps:List Str) (sp:cM):Prop:=Ea P w K mg base k x ps (dC K sp)
theorem _root_.Ov.tI.lift {P:Program} {w:World} {K:PySem.W.Frag} {mg:Str→Option Value} {base:Heap} {k:Nat} {x:Str} {ps:List Str} {sp:Sp} (C:tI P w K mg base k x ps sp) {sp':cM}
  (h:∀xs J vs H Q2 E2 Q E,aS K J H xs vs→Rep K J H→sp' xs J Q2 E2→Kn K J H Q2 Q→sp vs H Q E):bq P w K mg base k x ps sp':=by
 obtain ⟨f,fd,F,r⟩:=C
 exact ⟨f,fd,(F.S5).imp λvs H Q E ⟨xs,J,Q2,E2,a,b,c,d,_⟩=>h xs J vs H Q2 E2 Q E a b c d,r⟩
theorem Ea.lift {P:Program} {w:World} {K:PySem.W.Frag} {mg:Str→Option Value} {base:Heap} {k:Nat} {x:Str} {ps:List Str} {sp:Sp} (C:Ea P w K mg base k x ps sp) {sp':cM}
  (h:∀xs J vs H Q2 E2 Q E,aS K J H xs vs→Rep K J H→sp' xs J Q2 E2→Kn K J H Q2 Q→K' K J H E2 E→sp vs H Q E):bq P w K mg base k x ps sp':=by
 obtain ⟨f,fd,F,r⟩:=C
 exact ⟨f,fd,F.imp λvs H Q E ⟨xs,J,Q2,E2,a,b,c,d,e⟩=>h xs J vs H Q2 E2 Q E a b c d e,r⟩
section
variable {X:Cx} {G:G2} {a b c e o value:Expr} {es rest:List Expr} {ta tb te tc to tv:dz} {tA tB':lZ} {t:pO} {pos px p p2 apos cpos pos':Pos} {x:Str} {i j:Nat} {E:XK} {E2:Addr→Hq→Prop}
structure D7 (X:Cx) (G:G2) (E2:Addr→Hq→Prop) (E:XK):Prop where
 pass:Passes (c8 X.prog X.w) X E
 kn:K' X.K G.1 G.2 E2 E
def Gb (sp:cM) (E2:Addr→Hq→Prop) (t:pO):dz:=λτ J Q=>t τ J λxs J1=>sp xs J1 Q E2
theorem aO {k k':Nat} {ps:List Str} {sp:cM} (C:bq X.prog X.w X.K X.mg X.base k x ps sp) (B:D7 X G E2 E) (hr:bW k' X.A) (ha:RA X G (e :: es) t) (hk:k≤k':=by decide) (hg:Gl X x:=by rfl)
  (hdb:(x == ("__debug__":Str))=false:=by decide) (he:starEach (e :: es) X.env=(false,eval e X.env) :: starEach es X.env:=by rfl) (hpl:(backTo pos (starEach es X.env)).any (·.1)=false:=by rfl) :
  RE X G (.Call (.Name x p) (e :: es) [] pos) (Gb sp E2 t) :=
 ⟨lX (IB C B.pass hr hk hg ha.run hdb he hpl) λσ H Q ⟨τ,J,Q2,a2,h,k⟩=>⟨τ,J,_,a2,h,λxs J1 vs H1 rs r1 e1 q1=>by
  simp only [Uj]
  exact ⟨xs,J1,Q2,E2,rs,r1,q1,λz J' u H' rz rr ee qq=>k z J' u H' rz rr (e1.trans ee) qq,B.kn.ext (a2.ext.trans e1)⟩⟩⟩
def O_ (C:Addr) (ta:dz) (f:Str):dz:=λτ J Q=>ta τ J λx J1=>DH x λa=>Mc C (J1 a) λfs=>wz (fs.lookup f) λv=>Q v J1
theorem aY {C:Addr} {f:Str} (cl:pM X.K C) (na:aL X.K C f) (he:RE X G e ta) (hb:attributeBase e f X.env (eval e X.env)=eval e X.env:=by rfl):RE X G (.Attribute e f pos) (O_ C ta f) :=
 ⟨lX (L2.Mt he.run hb) λσ H Q ⟨τ,J,Q2,a2,h,k⟩=>⟨τ,J,_,a2,h,λx J1 v H1 rx r1 e1 hh=>by
  obtain ⟨a,ex,hh⟩:=iy hh;obtain ⟨fs,ja,hh⟩:=An hh;obtain ⟨y,lk,q⟩:=eW hh
  subst ex;cases rx
  obtain ⟨dx,gs,ha,rf⟩:=r1 _ _ ja
  obtain ⟨w,lw,rw'⟩:=rf.look lk
  exact ⟨a,C,dx,gs,w,rfl,ha,cl,na,lw,k y J1 w H1 rw' r1 e1 q⟩⟩⟩
structure cG (P:Program) (w:World) (K:PySem.W.Frag) (mg:Str→Option Value) (base:Heap) (C:Addr) (k:Nat) (m:Str) (ps:List Str) (sp:cM):Prop where
 cl:pM K C
 ex:∃f fd,Meth K C m f∧aP P w K mg base (c8 P w) k f fd ps (dC K sp)∧Binds K fd ps []
theorem cG.imp {P:Program} {w:World} {K:PySem.W.Frag} {mg:Str→Option Value} {base:Heap} {C:Addr} {k:Nat} {m:Str} {ps:List Str} {sp sp':cM} (M:cG P w K mg base C k m ps sp) (h:∀xs J Q E,sp' xs J Q E→sp xs J Q E):cG P w K mg base C k m ps sp':=by
 obtain ⟨cl,f,fd,hm,F,r⟩:=M
 exact ⟨cl,f,fd,hm,F.imp λvs H Q E ⟨xs,J,Q2,E2,a,b,c,d⟩=>⟨xs,J,Q2,E2,a,b,h _ _ _ _ c,d⟩,r⟩
def IY (C:Addr) (m:Str) (sp:cM) (E2:Addr→Hq→Prop) (ta:dz) (t:pO):dz:=λτ J Q=>ta τ J λx J1=>DH x λa=>Mc C (J1 a) λfs=>fs.lookup m=none∧t τ J1 λxs J2=>sp (x :: xs) J2 Q E2
theorem yq {C:Addr} {m:Str} {sp:cM} (B:D7 X G E2 E):∀σ H Q,LE X.K G (IY C m sp E2 to t) σ H Q→L2.GS C m (dC X.K sp) [] E (LE X.K G to) (LA X.K G t) σ H Q:=λσ H Q ⟨τ,J,Q2,a2,h,k⟩ =>
 ⟨τ,J,_,a2,h,λx J1 v H1 rx r1 e1 hh=>by
  obtain ⟨a,ex,hh⟩:=iy hh;obtain ⟨fs,ja,lk,q⟩:=An hh
  subst ex;cases rx
  obtain ⟨dx,gs,ha,rf⟩:=r1 _ _ ja
  refine ⟨a,dx,gs,rfl,ha,rf.none lk,τ,J1,_,a2.go r1 e1,q,λxs J2 vs H2 rs r2 e2 q2=>?_⟩
  simp only [Uj]
  exact ⟨.ref a :: xs,J2,Q2,E2,⟨.ref a,vs,rfl,rfl,rs⟩,r2,q2,λz J' u H' rz rr ee qq=>k z J' u H' rz rr ((e1.trans e2).trans ee) qq,B.kn.ext ((a2.ext.trans e1).trans e2)⟩⟩
theorem bp {C:Addr} {m:Str} {k k':Nat} {ps:List Str} {sp:cM} {pl:Sem Bool} (M:cG X.prog X.w X.K X.mg X.base C k m ps sp) (B:D7 X G E2 E) (hr:bW k' X.A) (ho:RE X G o to) (ha:RA X G (e :: es) t) (hk:k≤k':=by decide)
  (hst:starEach (e :: es) X.env=(false,eval e X.env) :: starEach es X.env:=by rfl) (hpl:(backTo pos (starEach es X.env)).any (·.1)=false:=by rfl)
  (ht:eval (.Call (.Attribute o m apos) (e :: es) [] pos) X.env=(do
   let ov ← eval o X.env
   standAt apos.atName
   let (f,first) ← holding [ov] (getMethod ov m pl)
   callWith pos f first (backTo pos (starEach (e :: es) X.env)) (backToKw pos (keywordEach [] X.env))):=by rfl) :
  RE X G (.Call (.Attribute o m apos) (e :: es) [] pos) (IY C m sp E2 to t):=by
 obtain ⟨cl,f,fd,hm,F,b⟩:=M
 exact ⟨lX (L2.IE (pl:=pl) ho.run cl hm F (hr.mono hk) b .nil B.pass ha.run hst hpl ht) (yq B)⟩
theorem cj {C:Addr} {m:Str} {k k':Nat} {ps:List Str} {sp:cM} {pl:Sem Bool} (M:cG X.prog X.w X.K X.mg X.base C k m ps sp) (B:D7 X G E2 E) (hr:bW k' X.A) (ho:RE X G o to) (hk:k≤k':=by decide)
  (ht:eval (.Call (.Attribute o m apos) [] [] pos) X.env=(do
   let ov ← eval o X.env
   standAt apos.atName
   let (f,first) ← holding [ov] (getMethod ov m pl)
   callWith pos f first (backTo pos (starEach [] X.env)) (backToKw pos (keywordEach [] X.env))):=by rfl) :
  RE X G (.Call (.Attribute o m apos) [] [] pos) (IY C m sp E2 to AH):=by
 obtain ⟨cl,f,fd,hm,F,b⟩:=M
 refine ⟨lX (L2.FW (pl:=pl) ho.run cl hm F (hr.mono hk) b .nil B.pass ht) λσ H Q h=>?_⟩
 have z:=yq B σ H Q h
 obtain ⟨τ,J,Q2,a2,h1,k1⟩:=z
 refine ⟨τ,J,Q2,a2,h1,λx J1 v H1 rx r1 e1 q1=>?_⟩
 obtain ⟨a,dx,fs,h2,h3,h4,τ',J',Q',a2',h5,k5⟩:=k1 x J1 v H1 rx r1 e1 q1
 exact ⟨a,dx,fs,h2,h3,h4,k5 [] J' [] H1 rfl a2'.hp .refl h5⟩
structure zE (P:Program) (w:World) (K:PySem.W.Frag) (mg:Str→Option Value) (base:Heap) (C:Addr) (k:Nat) (x:Str) (ps:List Str) (sp:cM):Prop where
 m:mg x=some (.ref C)
 ex:∃f fd,Mk K C f∧aP P w K mg base (c8 P w) k f fd ps (dC K sp)∧Binds K fd ps []
def IX (C:Addr) (sp:cM) (E2:Addr→Hq→Prop) (t:pO):dz:=λτ J Q=>t τ J λxs J1=>∀a,J1 a=none→sp (.ref a :: xs) (put J1 a (.ins C [])) (λv J2=>v=.non∧Q (.ref a) J2) E2
theorem ym {C:Addr} {sp:cM} (B:D7 X G E2 E):∀σ H Q,LE X.K G (IX C sp E2 t) σ H Q→L2.GR C (dC X.K sp) [] E (LA X.K G t) σ H Q:=λσ H Q ⟨τ,J,Q2,a2,h,k⟩ =>
 ⟨τ,J,_,a2,h,λxs J1 vs H1 rs r1 e1 q1 x dx hx hdx ne=>by
  have s1:=bJ.new hdx (.own x)
  have hx':upd H1 dx (.own x) x=none:=by rw [aW (Ne.symm ne)];exact hx
  have r2:=r1.same s1
  have e2:Ext X.K J1 H1 (put J1 x (.ins C [])) (upd (upd H1 dx (.own x)) x (.ins C dx [])):=(Ext.same s1).trans (.laid hx')
  have r3:Rep X.K (put J1 x (.ins C [])) (upd (upd H1 dx (.own x)) x (.ins C dx [])):=r2.D3 (.laid hx') x (λa ne=>aq ne) (λa o ne _ z=>by rw [aW ne];exact z) λu z=>by
   rw [ak] at z;cases z
   exact ⟨dx,[],aK,rfl,rfl⟩
  simp only [Uj]
  refine ⟨.ref x :: xs,_,_,E2,⟨.ref x,vs,rfl,rfl,e2.jg rs⟩,r3,q1 x (r1.free hx),λz J' u H' rz rr ee ⟨ez,qq⟩=>?_,B.kn.ext ((a2.ext.trans e1).trans e2)⟩
  subst ez
  exact ⟨rz,k (.ref x) J' (.ref x) H' rfl rr ((e1.trans e2).trans ee) qq⟩⟩
theorem I9 {C:Addr} {k k':Nat} {ps:List Str} {sp:cM} (M:zE X.prog X.w X.K X.mg X.base C k x ps sp) (B:D7 X G E2 E) (hr:bW k' X.A) (ha:RA X G (e :: es) t) (hk:k + 1≤k':=by decide) (hg:Gl X x:=by rfl)
  (hdb:(x == ("__debug__":Str))=false:=by decide) (he:starEach (e :: es) X.env=(false,eval e X.env) :: starEach es X.env:=by rfl) (hpl:(backTo pos (starEach es X.env)).any (·.1)=false:=by rfl) :
  RE X G (.Call (.Name x p) (e :: es) [] pos) (IX C sp E2 t):=by
 obtain ⟨hm,f,fd,mk,F,b⟩:=M
 exact ⟨lX (L2.ID mk F (hr.mono hk) hg hm b .nil B.pass ha.run hdb he hpl) (ym B)⟩
theorem sC {C:Addr} {k k':Nat} {ps:List Str} {sp:cM} (M:zE X.prog X.w X.K X.mg X.base C k x ps sp) (B:D7 X G E2 E) (hr:bW k' X.A) (hk:k + 1≤k':=by decide) (hg:Gl X x:=by rfl)
  (hdb:(x == ("__debug__":Str))=false:=by decide):RE X G (.Call (.Name x p) [] [] pos) (IX C sp E2 AH):=by
 obtain ⟨hm,f,fd,mk,F,b⟩:=M
 refine ⟨lX (L2.FV mk F (hr.mono hk) hg hm b .nil B.pass hdb) λσ H Q h=>?_⟩
 obtain ⟨τ,J,Q2,a2,h1,k1⟩:=ym (t:=AH) B σ H Q h
 exact k1 [] J [] H rfl a2.hp .refl h1
end
section
variable {X:Cx} {G:G2} {st:Stmt} {rest:List Stmt} {t u:jm} {e tg o value:Expr} {es:List Expr} {te ta tv:dz} {tc:lZ} {pos pos':Pos}
def ve:jm:=λD τ J=>D.nx τ J
def bX (t u:jm):jm:=λD τ J=>t { D with nx:=u D } τ J
theorem aF:RB X G [] ve:=⟨Rp L2.gu λD σ H ⟨τ,J,D2,a2,h,g⟩=>g.nx τ J σ H a2.sl a2.hp .refl h⟩
theorem ai (h1:RS X G st t) (h2:RB X G rest u):RB X G (st :: rest) (bX t u):=⟨Rp (L2.a_ h1.run h2.run) λD σ H ⟨τ,J,D2,a2,h,g⟩=>⟨τ,J,{ D2 with nx:=u D2 },a2,h,
 { nx:=λτ' J' σ' H' rs rr ee q=>⟨τ',J',D2,⟨rs,rr,a2.ext.trans ee⟩,q,g.ext ee⟩,rt:=g.rt,bk:=g.bk,ct:=g.ct }⟩⟩
theorem ar (h1:RS X G st t):RB X G [st] t:=⟨L2.bT h1.run⟩
def IU (t u:jm):jm:=λD τ J=>∃M:Sr→Hq→Prop,t { D with nx:=M } τ J∧∀τ' J',M τ' J'→u D τ' J'
theorem cW (h1:RS X G st t) (h2:RB X G rest u):RB X G (st :: rest) (IU t u):=⟨Rp (L2.a_ h1.run h2.run) λD σ H ⟨τ,J,D2,a2,⟨M,h,hm⟩,g⟩=>⟨τ,J,{ D2 with nx:=M },a2,h,
 { nx:=λτ' J' σ' H' rs rr ee q=>⟨τ',J',D2,⟨rs,rr,a2.ext.trans ee⟩,hm _ _ q,g.ext ee⟩,rt:=g.rt,bk:=g.bk,ct:=g.ct }⟩⟩
def Rx:jm:=λD τ J=>D.bk τ J
def Ry:jm:=λD τ J=>D.ct τ J
def KD (te:dz):jm:=λD τ J=>te τ J λ_ J1=>D.nx τ J1
theorem aX (he:RE X G e te) (hs:swapsWith e none pos.line X.env=pure false:=by rfl):RS X G (.Expr e pos) (KD te):=⟨zm (L2.lN he.run hs) λD σ H ⟨τ,J,D2,a2,h,g⟩ =>
 ⟨τ,J,_,a2,h,λx J' v H' rx rr ee q=>g.nx τ J' σ H' (a2.sl.ext ee) rr ee q⟩⟩
def Pl (te:dz):jm:=λD τ J=>te τ J D.rt
theorem ay (he:RE X G e te):RS X G (.Return (some e) pos) (Pl te):=⟨zm (L2.d9 he.run) λD σ H ⟨τ,J,D2,a2,h,g⟩=>⟨τ,J,_,a2,h,λx J' v H' rx rr ee q=>g.rt x J' v H' rx rr ee q⟩⟩
def KN:jm:=λD _ J=>D.rt .non J
theorem Jk:RS X G (.Return none pos) KN:=⟨zm L2.wJ λD σ H ⟨τ,J,D2,a2,h,g⟩=>g.rt .non J .non H rfl a2.hp .refl h⟩
def DS (c:lZ) (t u:jm):jm:=λD τ J=>c τ J λb J1=>if b=true then t D τ J1 else u D τ J1
theorem aT {c:Expr} {a b:List Stmt} (hc:RT X G c tc) (ha:RB X G a t) (hb:RB X G b u):RS X G (.If c a b pos) (DS tc t u):=⟨zm (L2.nV hc.run ha.run hb.run) λD σ H ⟨τ,J,D2,a2,h,g⟩ =>
 ⟨τ,J,_,a2,h,λc J' H' rr ee q=>by
  cases c with
  | true=>simp only [if_true] at q ⊢;exact ⟨τ,J',D2,a2.go rr ee,q,g.ext ee⟩
  | false=>simp only [TJ,if_false] at q ⊢;exact ⟨τ,J',D2,a2.go rr ee,q,g.ext ee⟩⟩⟩
abbrev zH:=PV→Sr→Hq→(Sr→Hq→Prop)→Prop
abbrev xS:=List PV→Sr→Hq→(Sr→Hq→Prop)→Prop
def LG (K:PySem.W.Frag) (G:G2) (t:zH):TG:=λv σ H Q=>∃x τ J Q2,cH K J H x v∧xI K G τ J σ H∧t x τ J Q2∧∀τ' J' σ' H',mn K J' H' τ' σ'→Rep K J' H'→Ext K J H J' H'→Q2 τ' J'→Q σ' H'
def SY (K:PySem.W.Frag) (G:G2) (t:xS):qh:=λvs σ H Q=>∃xs τ J Q2,aS K J H xs vs∧xI K G τ J σ H∧t xs τ J Q2∧∀τ' J' σ' H',mn K J' H' τ' σ'→Rep K J' H'→Ext K J H J' H'→Q2 τ' J'→Q σ' H'
structure RG (X:Cx) (G:G2) (e:Expr) (t:zH):Prop where
 run:L2.PG X e (LG X.K G t)
structure P_ (X:Cx) (G:G2) (es:List Expr) (t:xS):Prop where
 run:L2.JR X es (SY X.K G t)
theorem Rq {X:Cx} {e:Expr} {t t':TG} (h:L2.PG X e t) (k:∀v σ H Q,t' v σ H Q→t v σ H Q):L2.PG X e t':=λpins s σ H v u Q I r q=>h pins s σ H v u Q I r (k _ _ _ _ q)
theorem OS {X:Cx} {e:List Expr} {t t':qh} (h:L2.JR X e t) (k:∀v σ H Q,t' v σ H Q→t v σ H Q):L2.JR X e t':=λpins s σ H v u Q I r q=>h pins s σ H v u Q I r (k _ _ _ _ q)
def HJ (i:Nat):zH:=λx τ J Q=>Q (τ.set i (some x)) J
theorem bz {i:Nat} {x:Str} (hN:X.N.Nodup) (hi:X.N[i]?=some x:=by rfl) (hx:Loc X.env.scope x:=by first | exact .inl rfl | exact .inr rfl) (hf:X.fn x=true∨X.env.scope.names.lookup x=some .local:=by first | exact .inl rfl | exact .inr rfl | assumption):RG X G (.Name x pos) (HJ i) :=
 ⟨Rq (L2.lL hN hi hx hf) λv σ H Q ⟨x,τ,J,Q2,rx,a2,q,k⟩=>k _ J _ H (a2.sl.set i rx) a2.hp .refl q⟩
def Su:xS:=λvs τ J Q=>Rm vs (Q τ J)
def Ss (t:zH) (u:xS):xS:=λvs τ J Q=>Md vs λv r=>t v τ J λτ' J'=>u r τ' J' Q
theorem nZ:P_ X G [] Su:=⟨OS L2.wF λvs σ H Q ⟨xs,τ,J,Q2,rs,a2,hh,k⟩=>by obtain ⟨e,q⟩:=Mg hh;subst e;exact ⟨rs,k τ J σ H a2.sl a2.hp .refl q⟩⟩
theorem c5 {e:Expr} {es:List Expr} {t:zH} {u:xS} (h1:RG X G e t) (h2:P_ X G es u)
  (hs:(assignEach (e :: es) X.env).map (·.2)=assign e X.env :: (assignEach es X.env).map (·.2):=by rfl):P_ X G (e :: es) (Ss t u):=⟨OS (L2.su h1.run h2.run hs) λvs σ H Q ⟨xs,τ,J,Q2,rs,a2,hh,k⟩=>by
 obtain ⟨y,r,e,q⟩:=Iq hh
 subst e
 obtain ⟨v,us,rfl,rv,ru⟩:=rs
 exact ⟨v,us,rfl,y,τ,J,_,rv,a2,q,λτ' J' σ' H' rs' rr ee q'=>⟨r,τ',J',Q2,ee.jg ru,⟨rs',rr,a2.ext.trans ee⟩,q',λτ2 J2 σ2 H2 rs2 rr2 ee2 q2=>k τ2 J2 σ2 H2 rs2 rr2 (ee.trans ee2) q2⟩⟩⟩
def Sv (n:Nat) (t:xS):zH:=λx τ J Q=>Nu x λxs=>xs.length=n∧t xs τ J Q
theorem sE {k:Nat} {t:xS} {n:Nat} (hc:X.calm=true) (h:P_ X G es t)
  (hn:(assignEach es X.env).length=n:=by rfl) (hst:(assignEach es X.env).findIdx? (·.1)=none:=by rfl):RG X G (.Tuple es k pos) (Sv n t):=⟨Rq (L2.Az hc h.run hn hst) λv σ H Q ⟨x,τ,J,Q2,rx,a2,hh,k⟩=>by
 obtain ⟨xs,e,l,q⟩:=Ap hh
 subst e
 obtain ⟨a,vs,rfl,h1,h2⟩:=rx
 exact ⟨a,vs,rfl,h1,by rw [← h2.length];exact l,xs,τ,J,Q2,h2,a2,q,k⟩⟩
def uz (te:dz) (g:zH):jm:=λD τ J=>te τ J λx J1=>g x τ J1 D.nx
theorem wX {tg e:Expr} {g:zH} (he:RE X G e te) (hg:RG X G tg g) (hs:swapsWithSole [tg] e pos.line X.env=pure false:=by rfl) (hw:swappedStores [tg] e X.env=pure none:=by rfl)
  (h1:(assignEach [tg] X.env).map (·.2)=[assign tg X.env]:=by rfl):RS X G (.Assign [tg] e pos) (uz te g):=⟨zm (L2.wI he.run hg.run hs hw h1) λD σ H ⟨τ,J,D2,a2,h,g⟩ =>
 ⟨τ,J,_,a2,h,λx J' v H' rx rr ee q=>⟨x,τ,J',_,rx,a2.go rr ee,q,λτ' J2 σ' H2 rs r2 e2 q2=>g.nx τ' J2 σ' H2 rs r2 (ee.trans e2) q2⟩⟩⟩
theorem aA {i:Nat} {x:Str} {pos':Pos} (hN:X.N.Nodup) (he:RE X G e te) (hi:X.N[i]?=some x:=by rfl) (hx:Loc X.env.scope x:=by first | exact .inl rfl | exact .inr rfl) (hs:swapsWith e (some (.Name x pos')) pos.line X.env=pure false:=by rfl) (hf:X.fn x=true∨X.env.scope.names.lookup x=some .local:=by first | exact .inl rfl | exact .inr rfl | assumption) :
  RS X G (.Assign [.Name x pos'] e pos) (uz te (HJ i)):=⟨zm (L2.dh hN hi hx he.run hs hf) λD σ H ⟨τ,J,D2,a2,h,g⟩ =>
 ⟨τ,J,_,a2,h,λx J' v H' rx rr ee q=>g.nx _ J' _ H' ((a2.sl.ext ee).set i rx) rr ee q⟩⟩
def Pj (i j:Nat) (ta:pO):jm:=λD τ J=>ta τ J λvs J1=>Mh vs λv w=>D.nx ((τ.set i (some v)).set j (some w)) J1
theorem MQ {i j:Nat} {x y:Str} {a b:Expr} {ta:pO} {px py pt:Pos} {kt k2 pt2} (hc:X.calm=true) (hN:X.N.Nodup) (hi:X.N[i]?=some x) (hj:X.N[j]?=some y) (hij:i≠j)
  (hx:X.env.scope.names.lookup x=some .local) (hy:X.env.scope.names.lookup y=some .local) (ha:RA X G [a,b] ta)
  (hw:swappedStores [.Tuple [.Name x px,.Name y py] kt pt] (.Tuple [a,b] k2 pt2) X.env=pure (some [x,y]))
  (hs:swapsWithSole [.Tuple [.Name x px,.Name y py] kt pt] (.Tuple [a,b] k2 pt2) pos.line X.env=pure false:=by rfl) :
  RS X G (.Assign [.Tuple [.Name x px,.Name y py] kt pt] (.Tuple [a,b] k2 pt2) pos) (Pj i j ta):=⟨zm (L2.o8 hc hN hi hj hij hx hy ha.run hw hs) λD σ H ⟨τ,J,D2,a2,h,g⟩ =>
 ⟨τ,J,_,a2,h,λxs J' vs H' rs rr ee hh=>by
  obtain ⟨v,w,e,q⟩:=Ao hh
  subst e
  obtain ⟨v',us,rfl,rv,w',us',rfl,rw',e'⟩:=rs
  cases e'
  exact ⟨v',w',rfl,g.nx _ J' _ H' (((a2.sl.ext ee).set i rv).set j rw') rr ee q⟩⟩⟩
def pe (f:Str) (v:PV):List (Str × PV)→List (Str × PV)
 | []=>[(f,v)]
 | (g,w) :: r=>if g=f then (g,v) :: r else (g,w) :: pe f v r
theorem yP {K:PySem.W.Frag} {J:Hq} {H:Hp} {f:Str} {y:PV} {v:V} (r:cH K J H y v):∀{fs:List (Str × PV)} {gs:List (Str × V)},ml K J H fs gs→ml K J H (pe f y fs) (fm f v gs)
 | [],[],_=>⟨rfl,v,[],rfl,r,rfl⟩
 | [],_ :: _,h=>by cases h.1
 | _ :: _,[],h=>by cases h.1
 | (k,y') :: fs,(k',w) :: gs,h=>by
  obtain ⟨h1,v',us,h2,h3,h4⟩:=h
  simp only [Tt,List.cons.injEq] at h1 h2
  obtain ⟨rfl,h1⟩:=h1
  obtain ⟨rfl,rfl⟩:=h2
  unfold pe L2.fm
  by_cases hk:k=f
  ·rw [if_pos hk,if_pos hk]
   exact ⟨by simp only [Tt,h1],v,_,rfl,r,h4⟩
  ·rw [if_neg hk,if_neg hk]
   obtain ⟨z1,z2⟩:=yP (f:=f) r (⟨h1,h4⟩:ml K J H fs gs)
   exact ⟨by simp only [Tt,z1],w,_,rfl,h3,z2⟩
def KG (C:Addr) (ta tv:dz) (f:Str):jm:=λD τ J=>tv τ J λy J1=>ta τ J1 λx J2=>DH x λa=>Mc C (J2 a) λfs=>fs.length < 1000∧D.nx τ (put J2 a (.ins C (pe f y fs)))
theorem Ext.Na {K:PySem.W.Frag} {J:Hq} {H:Hp} {p C dx:Addr} {fs gs:List (Str × PV)} {fs' gs':List (Str × V)} (h:J p=some (.ins C fs)) (k:H p=some (.ins C dx fs')):Ext K J H (put J p (.ins C gs)) (upd H p (.ins C dx gs')):=by
 have sm:∀a u,a≠p→Rd H a u→Rd (upd H p (.ins C dx gs')) a u:=λa u ne z=>by
  rcases z with z | ⟨o,z⟩
  ·exact .inl (by rw [aW ne];exact z)
  ·exact .inr ⟨o,by rw [aW ne];exact z⟩
 have nn:∀a u,(∀c d l,u≠HO.ins c d l)→Rd H a u→a≠p:=λa u d z e=>by
  subst e
  rcases z with z | ⟨o,z⟩
  ·rw [k] at z;cases z;exact d _ _ _ rfl
  ·rw [k] at z;cases z
 refine ⟨λa vs' z=>?_,λa o z q _=>?_⟩
 ·rcases z with z | z
  ·exact .inl (sm a _ (nn a (.tup vs') (λ_ _ _ e=>nomatch e) z) z)
  ·exact .inr z
 ·have ne:a≠p:=by intro e;subst e;rw [h] at z;cases z
  exact ⟨by rw [aq ne];exact z,by rw [aW ne];exact q⟩
theorem iK {C:Addr} {f:Str} (cl:pM X.K C) (na:aL X.K C f) (ha:RE X G o ta) (hv:RE X G value tv) (hs:swapsWith value (some (.Attribute o f pos')) pos.line X.env=pure false:=by rfl):RS X G (.Assign [.Attribute o f pos'] value pos) (KG C ta tv f) :=
 ⟨zm (L2.My ha.run hv.run hs) λD σ H ⟨τ,J,D2,a2,h,g⟩=>⟨τ,J,_,a2,h,λy J1 v H1 ry r1 e1 q1=>⟨τ,J1,_,a2.go r1 e1,q1,λx J2 w H2 rx r2 e2 hh=>by
  obtain ⟨a,ex,hh⟩:=iy hh;obtain ⟨fs,ja,hl,q2⟩:=An hh
  subst ex;cases rx
  obtain ⟨dx,gs,h2,rf⟩:=r2 _ _ ja
  have ll:gs.length=fs.length:=by have:=congrArg UP rf.1;simpa using this.symm
  have e3:=Ext.Na (K:=X.K) (gs:=pe f y fs) (gs':=fm f v gs) ja h2
  refine ⟨a,C,dx,gs,rfl,h2,cl,na,by omega,g.nx τ _ σ _ (((a2.sl.ext e1).ext e2).ext e3) ?_ ((e1.trans e2).trans e3) q2⟩
  refine r2.D3 e3 a (λb ne=>aq ne) (λb o ne _ z=>by rw [aW ne];exact z) λu z=>?_
  rw [ak] at z;cases z
  exact ⟨dx,_,aK,e3.yT (yP (e2.rep ry) rf)⟩⟩⟩⟩
def Gg (c:lZ) (tb:jm):jm:=λD τ J=>∃W:Nat→Sr→Hq→Prop,(∃m,W m τ J)∧∀m τ J,W m τ J →
 c τ J λb J1=>if b=true then ∃N:Sr→Hq→Prop,(∀τ' J',N τ' J'→∃m',m' < m∧W m' τ' J')∧tb { D with nx:=N,ct:=N,bk:=D.nx } τ J1 else D.nx τ J1
theorem jh {c:Expr} {body:List Stmt} {tb:jm} (hp:PassesOwn (model X.prog X.w) X.A X.env X.xe) (hc:RT X G c tc) (hb:RB X G body tb):RS X G (.While c body [] pos) (Gg tc tb):=⟨zm (L2.kW hp hc.run hb.run) λD σ H ⟨τ,J,D2,a2,⟨W,⟨m0,w0⟩,h⟩,g⟩=>by
 refine ⟨λm σ' H'=>∃τ' J',xI X.K G τ' J' σ' H'∧Ext X.K J H J' H'∧W m τ' J',⟨m0,τ,J,a2,.refl,w0⟩,λm σ1 H1 ⟨τ1,J1,a1,e1,w1⟩=>?_⟩
 refine ⟨τ1,J1,_,a1,h m τ1 J1 w1,λb J2 H2 r2 e2 q=>?_⟩
 cases b with
 | false=>simp only [TJ,if_false] at q ⊢;exact g.nx τ1 J2 σ1 H2 (a1.sl.ext e2) r2 (e1.trans e2) q
 | true =>
  simp only [if_true] at q ⊢
  obtain ⟨N,hN,q⟩:=q
  refine ⟨λσ' H'=>∃τ' J',xI X.K G τ' J' σ' H'∧Ext X.K J H J' H'∧N τ' J',λσ' H' ⟨τ',J',a',e',n'⟩=>let ⟨m',lt,w'⟩:=hN τ' J' n';⟨m',lt,τ',J',a',e',w'⟩,τ1,J2,{ D2 with nx:=N,ct:=N,bk:=D2.nx },a1.go r2 e2,q,?_⟩
  have ge:=g.ext (e1.trans e2)
  exact { nx:=λτ' J' σ' H' rs rr ee q=>⟨τ',J',⟨rs,rr,(a1.ext.trans e2).trans ee⟩,(e1.trans e2).trans ee,q⟩,rt:=ge.rt,bk:=ge.nx,ct:=λτ' J' σ' H' rs rr ee q=>⟨τ',J',⟨rs,rr,(a1.ext.trans e2).trans ee⟩,(e1.trans e2).trans ee,q⟩ }⟩
structure zy where
 xs:List PV
 ok:Hq→Prop
structure uJ (K:PySem.W.Frag) (it:zy) (I:It) (J:Hq) (H:Hp):Prop where
 go:∀J' H',Ext K J H J' H'→Rep K J' H'→it.ok J'→∀i,i < it.xs.length→I.go i H'
 yl:∀J' H',Ext K J H J' H'→Rep K J' H'→it.ok J'→∀i,i < it.xs.length→∀v H2,I.yld i H' v H2→∃x,it.xs[i]?=some x∧cH K J' H2 x v∧Rep K J' H2∧Ext K J' H' J' H2
 stop:∀J' H',Ext K J H J' H'→Rep K J' H'→it.ok J'→I.stop it.xs.length H'
abbrev tK:=Sr→Hq→(zy→Hq→Prop)→Prop
def LI (K:PySem.W.Frag) (G:G2) (t:tK):TI:=λσ H R=>∃τ J R2,xI K G τ J σ H∧t τ J R2∧∀it J' I H',uJ K it I J' H'→Rep K J' H'→Ext K J H J' H'→R2 it J'→R I H'
structure RI (X:Cx) (G:G2) (tg e:Expr) (t:tK):Prop where
 run:L2.PI X tg e (LI X.K G t)
theorem Nv {X:Cx} {tg e:Expr} {t t':TI} (h:L2.PI X tg e t) (k:∀σ H Q,t' σ H Q→t σ H Q):L2.PI X tg e t':=λpins s σ H Q I q=>h pins s σ H Q I (k _ _ _ q)
def Pa (wi:tK) (g:zH) (tb:jm):jm:=λD τ J=>wi τ J λit J1=>∃Pv:Nat→Sr→Hq→Prop,Pv 0 τ J1∧(∀i τ J,Pv i τ J→it.ok J) ∧
 (∀i x τ J,it.xs[i]?=some x→Pv i τ J→g x τ J λτ2 J2=>tb { D with nx:=Pv (i + 1),ct:=Pv (i + 1),bk:=D.nx } τ2 J2)∧∀τ J,Pv it.xs.length τ J→D.nx τ J
theorem dw {iter:Expr} {body:List Stmt} {wi:tK} {g:zH} {tb:jm} {pos:Pos} (hp:PassesOwn (model X.prog X.w) X.A X.env X.xe) (hc:X.calm=true) (hi:RI X G tg iter wi) (hg:RG X G tg g) (hb:RB X G body tb)
  (hs:∀x,foldedSetIterable iter X.env x=pure x:=by intro _;rfl):RS X G (.For tg iter body [] pos) (Pa wi g tb):=⟨zm (L2.o7 hp hc hi.run hg.run hb.run hs) λD σ H ⟨τ,J,D2,a2,h,g⟩=>by
 refine ⟨τ,J,_,a2,h,λit J1 I H1 ir r1 e1 ⟨Pv,p0,pok,step,fin⟩=>?_⟩
 refine ⟨λi m σ' H'=>m=it.xs.length - i∧i≤it.xs.length∧∃τ' J',xI X.K G τ' J' σ' H'∧Ext X.K J1 H1 J' H'∧Pv i τ' J',⟨_,rfl,T3 _,τ,J1,a2.go r1 e1,.refl,p0⟩,?_⟩
 rintro i m σ2 H2 ⟨rfl,hil,τ2,J2,a3,e3,p3⟩
 by_cases hlt:i < it.xs.length
 ·refine .inr ⟨ir.go J2 H2 e3 a3.hp (pok _ _ _ p3) i hlt,λσ' H'=>∃τ' J',xI X.K G τ' J' σ' H'∧Ext X.K J1 H1 J' H'∧Pv (i + 1) τ' J',λσ' H' z=>⟨_,by omega,rfl,hlt,z⟩,λv H4 y=>?_⟩
  obtain ⟨x,ex,rx,r4,e4⟩:=ir.yl J2 H2 e3 a3.hp (pok _ _ _ p3) i hlt v H4 y
  refine ⟨x,τ2,J2,_,rx,a3.go r4 e4,step i x τ2 J2 ex p3,λτ5 J5 σ5 H5 rs5 r5 e5 q5=>?_⟩
  have ae:=(a3.ext.trans e4).trans e5
  have ge:=g.ext (((e1.trans e3).trans e4).trans e5)
  refine ⟨τ5,J5,{ D2 with nx:=Pv (i + 1),ct:=Pv (i + 1),bk:=D2.nx },⟨rs5,r5,ae⟩,q5,?_⟩
  exact { nx:=λτ' J' σ' H' rs rr ee q=>⟨τ',J',⟨rs,rr,ae.trans ee⟩,((e3.trans e4).trans e5).trans ee,q⟩,rt:=ge.rt,bk:=ge.nx,ct:=λτ' J' σ' H' rs rr ee q=>⟨τ',J',⟨rs,rr,ae.trans ee⟩,((e3.trans e4).trans e5).trans ee,q⟩ }
 ·have ei:i=it.xs.length:=by omega
  subst ei
  exact .inl ⟨ir.stop J2 H2 e3 a3.hp (pok _ _ _ p3),g.nx τ2 J2 σ2 H2 a3.sl a3.hp (e1.trans e3) (fin _ _ p3)⟩⟩
def Qd (J:Hq):PV→Option zy
 | .fl xs=>some ⟨xs,λ_=>True⟩
 | .ref a=>match J a with
  | some (.lst xs)=>some ⟨xs,λJ'=>J' a=some (.lst xs)⟩
  | _=>none
 | _=>none
def Sy (te:dz):tK:=λτ J R=>te τ J λx J1=>wz (Qd J1 x) λit=>R it J1
theorem uJ.list {K:PySem.W.Frag} {it:zy} {a:Addr} {J:Hq} {H:Hp} (h:∀J' H',Ext K J H J' H'→Rep K J' H'→it.ok J'→∃vs,dk K H' a vs∧aS K J' H' it.xs vs):uJ K it (L2.Hr K a) J H where
 go:=λJ' H' e r o i hi=>by
  obtain ⟨vs,s,rs⟩:=h J' H' e r o
  exact ⟨vs,vs[i]'(by rw [← rs.length];exact hi),s,by simp⟩
 yl:=λJ' H' e r o i hi v H2 y=>by
  obtain ⟨vs,s,rs⟩:=h J' H' e r o
  obtain ⟨e1,y⟩:=y
  subst e1
  obtain ⟨x,ex,rx⟩:=rs.get' (y vs s)
  exact ⟨x,ex,rx,r,.refl⟩
 stop:=λJ' H' e r o=>by
  obtain ⟨vs,s,rs⟩:=h J' H' e r o
  exact ⟨vs,s,by rw [rs.length];exact Tr _⟩
theorem gx {l:Expr} {tl:dz} (hl:RE X G l tl):RI X G tg l (Sy tl):=⟨Nv (L2.nJ hl.run) λσ H R ⟨τ,J,R2,a2,h,k⟩=>⟨τ,J,_,a2,h,λx J1 v H1 rx r1 e1 hh=>by
 obtain ⟨it,ei,q⟩:=eW hh
 cases x with
 | fl xs =>
  obtain ⟨a,vs,rfl,h1,h2⟩:=rx
  cases ei
  refine ⟨a,rfl,⟨vs,h1.sq⟩,k _ J1 _ H1 (.list λJ' H' e r _=>⟨vs,(e.flat h1).sq,e.jg h2⟩) r1 e1 q⟩
 | ref a =>
  cases rx
  unfold Qd at ei
  dsimp only at ei
  cases ej:J1 a with
  | none=>rw [ej] at ei;cases ei
  | some o =>
   rw [ej] at ei
   cases o with
   | lst xs =>
    cases ei
    obtain ⟨vs,h1,h2⟩:=r1 _ _ ej
    refine ⟨a,rfl,⟨vs,.inl (.inl h1)⟩,k _ J1 _ H1 (.list λJ' H' e r o=>?_) r1 e1 q⟩
    obtain ⟨vs',h1',h2'⟩:=r _ _ o
    exact ⟨vs',.inl (.inl h1'),h2'⟩
   | _=>cases ei
 | _=>cases ei⟩⟩
def SD (te:dz):tK:=λτ J R=>te τ J λx J1=>Nu x λxs=>R ⟨xs,λ_=>True⟩ J1
theorem ML {l:Expr} {tl:dz} (hl:RE X G l tl):RI X G tg l (SD tl):=⟨Nv (L2.AA hl.run) λσ H R ⟨τ,J,R2,a2,h,k⟩=>⟨τ,J,_,a2,h,λx J1 v H1 rx r1 e1 hh=>by
 obtain ⟨xs,ei,q⟩:=Ap hh
 subst ei
 obtain ⟨a,vs,rfl,h1,h2⟩:=rx
 refine ⟨a,rfl,⟨vs,h1⟩,k _ J1 _ H1 ?_ r1 e1 q⟩
 exact {
  go:=λJ' H' e r o i hi=>⟨vs,vs[i]'(by rw [← h2.length];exact hi),e.tup _ _ h1,by simp⟩
  yl:=λJ' H' e r o i hi v H2 y=>by
   obtain ⟨e1,y⟩:=y
   subst e1
   obtain ⟨x,ex,rx⟩:=(e.jg h2).get' (y vs (e.tup _ _ h1))
   exact ⟨x,ex,rx,r,.refl⟩
  stop:=λJ' H' e r o=>⟨vs,e.tup _ _ h1,by rw [h2.length];exact Tr _⟩ }⟩⟩
def rQ (lo:Int) (n:Nat):List PV:=(UG n).map λ(i:Nat)=>PV.int (lo + (i:Int))
theorem i5 (lo:Int) (n:Nat):(rQ lo n).length=n:=by simp [rQ]
theorem rR (lo:Int) (n i:Nat) (x:PV):(rQ lo n)[i]?=some x↔i < n∧x=.int (lo + i):=by
 unfold rQ
 rw [Tq]
 by_cases h:i < n
 ·rw [VD h];simp [h,eq_comm]
 ·rw [Ut (by simpa using h)];simp [h]
theorem uJ.Ny {K:PySem.W.Frag} {J:Hq} {H:Hp} (lo:Int) (n:Nat):uJ K ⟨rQ lo n,λ_=>True⟩ (L2.Ei lo n) J H where
 go:=λJ' H' e r o i hi=>by
  show i < n
  simpa [i5] using hi
 yl:=λJ' H' e r o i hi v H2 y=>by
  obtain ⟨e1,y⟩:=y
  subst e1 y
  exact ⟨.int (lo + i),(rR lo n i _).mpr ⟨by simpa [i5] using hi,rfl⟩,rfl,r,.refl⟩
 stop:=λJ' H' e r o=>by
  show n≤(rQ lo n).length
  rw [i5];exact Tr _
def SA (ta:pO):tK:=λτ J R=>ta τ J λvs J1=>DG vs λx=>D_ x λj=>-(2 ^ 62)≤j∧j < 2 ^ 62∧R ⟨rQ 0 j.toNat,λ_=>True⟩ J1
def S6 (ta:pO):tK:=λτ J R=>ta τ J λvs J1=>Mh vs λx y=>D_ x λi=>D_ y λj=>(-(2 ^ 62)≤i∧i < 2 ^ 62∧-(2 ^ 62)≤j∧j < 2 ^ 62)∧R ⟨rQ i (j - i).toNat,λ_=>True⟩ J1
theorem lO {a:Expr} {ta:pO} {p pos:Pos} (hg:Gl X "range") (hm:X.mg "range"=none) (ha:RA X G [a] ta) (hs:starEach [a] X.env=[(false,eval a X.env)]:=by rfl):RI X G tg (.Call (.Name "range" p) [a] [] pos) (SA ta) :=
 ⟨Nv (L2.gC hg hm ha.run hs) λσ H R ⟨τ,J,R2,a2,h,k⟩=>⟨τ,J,_,a2,h,λxs J1 vs H1 rs r1 e1 hh=>by
  obtain ⟨x,ex,hh⟩:=jC hh;obtain ⟨j,ej,l1,l2,q⟩:=iw hh;subst ej ex
  obtain ⟨v,us,rfl,rv,e'⟩:=rs
  cases rv;cases e'
  exact ⟨j,rfl,l1,l2,k _ J1 _ H1 (.Ny 0 _) r1 e1 q⟩⟩⟩
def fo (C:Addr) (E2:Addr→Hq→Prop) (t:pO):jm:=λ_ τ J=>t τ J λxs J1=>xs.length≤sizeLine∧E2 C J1
theorem dP {E:XK} {E2:Addr→Hq→Prop} {C:Addr} {x:Str} {t:pO} {np cpos:Pos} (O:Own X.K X.mg x C) (hc:X.calm=true) (hx:Throws X E) (kn:K' X.K G.1 G.2 E2 E) (hg:Gl X x) (ha:RA X G (e :: es) t)
  (hd:(x == ("__debug__":Str))=false:=by decide) (he:starEach (e :: es) X.env=(false,eval e X.env) :: starEach es X.env:=by rfl) (hpl:(backTo cpos (starEach es X.env)).any (·.1)=false:=by rfl) :
  RS X G (.Raise (some (.Call (.Name x np) (e :: es) [] cpos)) none pos) (fo C E2 t):=⟨zm (DR O hc hx hg ha.run hd he hpl) λD σ H ⟨τ,J,D2,a2,h,g⟩ =>
 ⟨τ,J,_,a2,h,λxs J1 vs H1 rs r1 e1 ⟨hl,q⟩=>⟨by rw [← rs.length];exact hl,kn C J1 H1 r1 (a2.ext.trans e1) q⟩⟩⟩
end
section
variable {P:Program} {w:World} {K:PySem.W.Frag} {mg:Str→Option Value} {base:Heap}
section
variable {α β:Type} {a b:α} {l m:List α} {i:Nat} {f:α→β} {c:Bool}
theorem Ng:UU f (a :: l)=f a :: UU f l:=rfl
theorem Nh:UU f []=[]:=rfl
theorem Nd:(a :: l).length=l.length + 1:=rfl
theorem Nf:([]:List α).length=0:=rfl
theorem Nb:(a :: l) ++ m=a :: (l ++ m):=rfl
theorem Nc:[] ++ m=m:=rfl
theorem R5:(a :: l)[0]?=some a:=rfl
theorem R6:(a :: l)[i + 1]?=l[i]?:=rfl
theorem Sb:(a :: l).set 0 b=b :: l:=rfl
theorem Sd:(a :: l).set (i + 1) b=a :: l.set i b:=rfl
theorem R_:Option.map f (some a)=some (f a):=rfl
theorem R9:(some a).getD b=a:=rfl
theorem R8:(!true)=false:=rfl
theorem R7:(!false)=true:=rfl
theorem Se:(true && c)=c:=rfl
theorem R4:(false && c)=false:=rfl
theorem R':Uw 0 a=[]:=rfl
theorem Sa:Uw (i + 1) a=a :: Uw i a:=rfl
theorem P5:(a :: l).isEmpty=false:=rfl
theorem P6:([]:List α).isEmpty=true:=rfl
end
def xC (N:List Str) (xs:List PV):Sr:=xs.map some ++ Uw (N.length - xs.length) none
theorem GJ {J:Hq} {H:Hp} {N:List Str} {xs:List PV} {vs:List V} (r:aS K J H xs vs):mn K J H (xC N xs) (L2.start N vs):=by
 refine ⟨by simp [xC,L2.start,r.length],λi x e=>?_⟩
 unfold xC at e
 unfold L2.start
 by_cases hi:i < xs.length
 ·rw [Ux (by simpa using hi),Tq] at e
  cases ex:xs[i]? with
  | none=>rw [ex] at e;cases e
  | some y =>
   rw [ex] at e
   cases e
   obtain ⟨v,h1,h2⟩:=r.get ex
   exact ⟨v,by rw [Ux (by rw [Th,← r.length];exact hi),Tq,h1];rfl,h2⟩
 ·rw [Ur (by simpa using hi)] at e
  have:=To e
  rw [List.mem_replicate] at this
  cases this.2
theorem Rk {x qual:Str} {st:Stmt} {f:Addr} {fd:FuncData} {N ps:List Str} {k:Nat} {sp:cM} (F:cm K x qual st f fd) (S:aw N ps (L2.aj st)) (len:∀xs J Q E,sp xs J Q E→xs.length=ps.length)
  (hbody:∀(cdv:Value) (A:Around) (outer:List Env) (s:Shared) (H:Hp) (E:XK) (G:G2) (xs:List PV) (J:Hq) (Q:PV→Hq→Prop) (E2:Addr→Hq→Prop),bW k (A.deeper (envOfC qual (L2.aj st) s.heap.objs.size f cdv))→sp xs J Q E2 →
   D7 (zl P w K mg base N qual (L2.aj st) f cdv A outer s H E) G E2 E →
   ∃t,RB (zl P w K mg base N qual (L2.aj st) f cdv A outer s H E) G (L2.cb st) t∧t { nx:=λ_ J'=>Q .non J',rt:=Q } (xC N xs) J):aP P w K mg base (c8 P w) (k + 1) f fd ps (dC K sp):=by
 refine Tc F S (λvs H Q E ⟨xs,J,Q2,E2,a,_,b,_⟩=>by rw [← a.length];exact len _ _ _ _ b) λcdv A outer s H vs Q E hr ⟨xs,J,Q2,E2,rs,rr,hs,kn,ke⟩=>?_
 obtain ⟨t,hb,q⟩:=hbody cdv A outer s H E (J,H) xs J Q2 E2 hr hs ⟨zO,ke⟩
 refine ⟨_,⟨hb.run⟩,xC N xs,J,_,⟨GJ rs,rr,.refl⟩,q,?_⟩
 exact { nx:=λτ J' σ H' _ r e q=>kn .non J' .non H' rfl r e q,rt:=λx J' v H' rx r e q=>kn x J' v H' rx r e q,bk:=λ_ _ _ _ _ _ _ q=>q.elim,ct:=λ_ _ _ _ _ _ _ q=>q.elim }
theorem Tb {x qual:Str} {st:Stmt} {f:Addr} {fd:FuncData} {N ps:List Str} {k:Nat} {sp:cM} {t:(Addr→Hq→Prop)→jm} (F:cm K x qual st f fd) (S:aw N ps (L2.aj st)) (len:∀xs J Q E,sp xs J Q E→xs.length=ps.length)
  (rd:∀(cdv:Value) (A:Around) (outer:List Env) (s:Shared) (H:Hp) (E:XK) (G:G2) (E2:Addr→Hq→Prop),bW k (A.deeper (envOfC qual (L2.aj st) s.heap.objs.size f cdv)) →
   D7 (zl P w K mg base N qual (L2.aj st) f cdv A outer s H E) G E2 E→RB (zl P w K mg base N qual (L2.aj st) f cdv A outer s H E) G (L2.cb st) (t E2))
  (run:∀(xs:List PV) (J:Hq) (Q:PV→Hq→Prop) (E2:Addr→Hq→Prop),sp xs J Q E2→∀X:Prop,(t E2 { nx:=λ_ J'=>Q .non J',rt:=Q } (xC N xs) J→X)→X):aP P w K mg base (c8 P w) (k + 1) f fd ps (dC K sp) :=
 Rk F S len λcdv A outer s H E G xs J Q E2 hr h B=>⟨_,rd cdv A outer s H E G E2 hr B,run xs J Q E2 h _ id⟩
theorem _root_.Ov.Def.ff {x:Str} {st:Stmt} {k:Nat} {ps:List Str} {sp:cM} (D:Def K mg x st)
  (h:∀f fd,cm K x x st f fd→aP P w K mg base (c8 P w) k f fd ps (dC K sp))
  (hb:∀(kV doc pm:Value) (an:Option Addr) (cdv ct:Value) (us:List Value),us.length=ps.length→bindArgs (PySem.W.fnOf x x (L2.dA st) (L2.cb st) (L2.aj st) .none kV doc pm an cdv ct) ⟨us,[]⟩=pure (ps.zip us)) :
  bq P w K mg base k x ps sp:=D.QF h hb
end
section
variable {X:Cx} {K:PySem.W.Frag}
def F8 (g:Int→Int→PV):m7:=λx y J Q=>D_ x λi=>D_ y λj=>Q (g i j) J
def qI (C:Int→Int→Prop) (g:Int→Int→PV):m7:=λx y J Q=>D_ x λi=>D_ y λj=>C i j∧Q (g i j) J
theorem vb {g:Int→Int→V} {g':Int→Int→PV} (hg:∀J H i j,cH K J H (g' i j) (g i j)):LR K (L2.Ha g) (F8 g'):=λJ H x y v w Q2 Q rx ry r h k=>by
 obtain ⟨i,ex,h⟩:=iw h;obtain ⟨j,ey,q⟩:=iw h
 subst ex ey;exact ⟨i,j,rx,ry,k _ J _ H (hg _ _ _ _) r .refl q⟩
theorem LZ {C:Int→Int→Prop} {g:Int→Int→V} {g':Int→Int→PV} (hg:∀J H i j,cH K J H (g' i j) (g i j)):LR K (L2.rI C g) (qI C g'):=λJ H x y v w Q2 Q rx ry r h k=>by
 obtain ⟨i,ex,h⟩:=iw h;obtain ⟨j,ey,c,q⟩:=iw h
 subst ex ey;exact ⟨i,j,rx,ry,c,k _ J _ H (hg _ _ _ _) r .refl q⟩
theorem cY:m6 X (binaryOp .Add) (F8 λi j=>.int (i + j)):=⟨_,L2.jE,vb λ_ _ _ _=>rfl⟩
theorem d8:m6 X (binaryOp .Sub) (F8 λi j=>.int (i - j)):=⟨_,L2.Ar,vb λ_ _ _ _=>rfl⟩
theorem bL:m6 X (binaryOp .Mult) (qI CM λi j=>.int (i * j)):=⟨_,cV,LZ λ_ _ _ _=>rfl⟩
theorem nH:m6 X (binaryOp .FloorDiv) (qI CQ λi j=>.int (i.fdiv j)):=⟨_,gK,LZ λ_ _ _ _=>rfl⟩
theorem fK:m6 X (binaryOp .Mod) (qI (λ_ j=>0 < j) λi j=>.int (i % j)):=⟨_,L2.gL,LZ λ_ _ _ _=>rfl⟩
theorem gM:m6 X (compareOp .Lt) (F8 λi j=>.bl (decide (i < j))):=⟨_,L2.BS,vb λ_ _ _ _=>rfl⟩
theorem FO:m6 X (compareOp .LtE) (F8 λi j=>.bl (decide (i≤j))):=⟨_,L2.Kr,vb λ_ _ _ _=>rfl⟩
theorem kG:m6 X (compareOp .Gt) (F8 λi j=>.bl (decide (j < i))):=⟨_,L2.Kq,vb λ_ _ _ _=>rfl⟩
theorem FN:m6 X (compareOp .GtE) (F8 λi j=>.bl (decide (j≤i))):=⟨_,L2.Kp,vb λ_ _ _ _=>rfl⟩
def qU (g:Int→PV):NH:=λx J Q=>D_ x λi=>Q (g i) J
theorem ly:Sm X (unaryOp .USub) (qU λi=>.int (-i)):=⟨_,L2.GZ,λJ H x v Q2 Q rx r h k=>by obtain ⟨i,ex,q⟩:=iw h;subst ex;exact ⟨i,rx,k (.int (-i)) J _ H rfl r .refl q⟩⟩
def O1:m7:=λx y J Q=>Ko x λi=>Ko y λj=>Q (.bl (decide (i.cps.toList < j.cps.toList))) J
theorem As:m6 X (compareOp .Lt) O1:=⟨_,L2.DJ,λJ H x y v w Q2 Q rx ry r h k=>by obtain ⟨i,ex,h⟩:=o4 h;obtain ⟨j,ey,q⟩:=o4 h;subst ex ey;exact ⟨i,j,rx,ry,k (.bl _) J _ H rfl r .refl q⟩⟩
def E6:PV→Bool
 | .non=>true
 | _=>false
theorem BL {J:Hq} {H:Hp} {x:PV} {v:V} (r:cH K J H x v):decide (v=.non)=E6 x:=by
 cases x with
 | non=>cases r;rfl
 | tup xs=>obtain ⟨a,vs,rfl,_⟩:=r;rfl
 | fl xs=>obtain ⟨a,vs,rfl,_⟩:=r;rfl
 | _=>cases r;rfl
def SM:m7:=λx y J Q=>y=.non∧Q (.bl (E6 x)) J
def F9:m7:=λx y J Q=>y=.non∧Q (.bl (!E6 x)) J
theorem OP:m6 X (compareOp .Is) SM:=⟨_,L2.Mn,λJ H x y v w Q2 Q rx ry r ⟨ey,q⟩ k=>by subst ey;cases ry;exact ⟨rfl,by rw [BL rx];exact k (.bl _) J _ H rfl r .refl q⟩⟩
theorem se:m6 X (compareOp .IsNot) F9:=⟨_,L2.Iv,λJ H x y v w Q2 Q rx ry r ⟨ey,q⟩ k=>by subst ey;cases ry;exact ⟨rfl,by rw [BL rx];exact k (.bl _) J _ H rfl r .refl q⟩⟩
mutual
def gw:PV→Py
 | .non=>.non | .bl b=>.bl b | .int i=>.int i | .str x=>.str x | .ref _=>.non | .ty _=>.non | .tup xs=>.tup (gQ xs) | .fl xs=>.lst (gQ xs)
def gQ:List PV→List Py
 | []=>[]
 | x :: xs=>gw x :: gQ xs
end
mutual
def nX:PV→Bool
 | .ref _=>false | .ty _=>false | .tup xs=>lY xs | .fl xs=>lY xs | _=>true
def lY:List PV→Bool
 | []=>true
 | x :: xs=>nX x && lY xs
end
mutual
theorem vO {J:Hq} {H:Hp}:∀{x:PV} {v:V},nX x=true→cH K J H x v→At K H (gw x) v
 | .non,_,_,h=>h
 | .bl _,_,_,h=>h
 | .int _,_,_,h=>h
 | .str _,_,_,h=>h
 | .tup xs,_,p,⟨a,vs,e,h,k⟩=>⟨a,vs,e,h,rp (by simpa [nX] using p) k⟩
 | .fl xs,_,p,⟨a,vs,e,h,k⟩=>⟨a,vs,e,h.sq,rp (by simpa [nX] using p) k⟩
theorem rp {J:Hq} {H:Hp}:∀{xs:List PV} {vs:List V},lY xs=true→aS K J H xs vs→tL K H (gQ xs) vs
 | [],_,_,h=>h
 | x :: xs,_,p,⟨v,us,e,h,k⟩=>by
  have p':nX x=true∧lY xs=true:=by simpa [lY] using p
  exact ⟨v,us,e,vO p'.1 h,rp p'.2 k⟩
end
def eqQ (x y:PV):Bool:=lH (gw x) (gw y)
def G8 (x:PV):Prop:=nX x=true∧dep (gw x)≤60
def MB (f:Bool→Bool):m7:=λx y J Q=>G8 x∧nX y=true∧Q (.bl (f (eqQ x y))) J
theorem Kg (f:Bool→Bool):LR K (rP K f) (MB f):=λJ H x y v w Q2 Q rx ry r ⟨⟨px,d⟩,py,q⟩ k=>⟨gw x,gw y,vO px rx,vO py ry,d,k (.bl _) J _ H rfl r .refl q⟩
theorem cI (hu:X.A.units + 61 < cLine):m6 X (compareOp .Eq) (MB id):=⟨_,Ml hu,Kg id⟩
theorem ia (hu:X.A.units + 61 < cLine):m6 X (compareOp .NotEq) (MB not):=⟨_,Mo hu,Kg not⟩
def fA (J:Hq):PV→PV→Option PV
 | .tup xs,.int i=>dt xs i
 | .fl xs,.int i=>dt xs i
 | .ref a,.int i=>match J a with
  | some (.lst xs)=>dt xs i
  | _=>none
 | _,_=>none
theorem aS.dt {J:Hq} {H:Hp} {xs:List PV} {vs:List V} {i:Int} {x:PV} (r:aS K J H xs vs) (h:L2.dt xs i=some x):∃v,L2.dt vs i=some v∧cH K J H x v:=by
 unfold L2.dt at h ⊢
 rw [← r.length]
 cases e:L2.D8 xs.length i with
 | none=>rw [e] at h;cases h
 | some j =>
  rw [e] at h
  obtain ⟨v,h1,h2⟩:=r.get h
  exact ⟨v,h1,h2⟩
def Nw:m7:=λx y J Q=>wz (fA J x y) λv=>Q v J
theorem av:Qs X Nw:=⟨_,L2.vX.or L2.de,λJ H x y v w Q2 Q rx ry r h k=>by
 obtain ⟨z,ez,q⟩:=eW h
 cases y with
 | int i =>
  cases ry
  cases x with
  | tup xs =>
   obtain ⟨a,vs,rfl,h1,h2⟩:=rx
   obtain ⟨u,e1,e2⟩:=h2.dt (show L2.dt xs i=some z from ez)
   exact .inr ⟨a,vs,i,u,rfl,rfl,h1,e1,k z J u H e2 r .refl q⟩
  | fl xs =>
   obtain ⟨a,vs,rfl,h1,h2⟩:=rx
   obtain ⟨u,e1,e2⟩:=h2.dt (show L2.dt xs i=some z from ez)
   exact .inl ⟨a,vs,i,u,rfl,rfl,h1.sq,e1,k z J u H e2 r .refl q⟩
  | ref a =>
   cases rx
   unfold fA at ez
   dsimp only at ez
   cases ej:J a with
   | none=>rw [ej] at ez;cases ez
   | some o =>
    rw [ej] at ez
    cases o with
    | lst xs =>
     obtain ⟨vs,h1,h2⟩:=r _ _ ej
     obtain ⟨u,e1,e2⟩:=h2.dt (show L2.dt xs i=some z from ez)
     exact .inl ⟨a,vs,i,u,rfl,rfl,.inl (.inl h1),e1,k z J u H e2 r .refl q⟩
    | _=>cases ez
  | _=>cases ez
 | _=>cases x <;> cases ez⟩
def oH (xs:List PV) (lo hi:Option Int):List PV:=(xs.drop (HT.fb xs.length 0 lo)).take (HT.fb xs.length xs.length hi - HT.fb xs.length 0 lo)
theorem Bp {J:Hq} {H:Hp} {xs:List PV} {vs:List V} {lo hi:Option Int} (r:aS K J H xs vs):aS K J H (oH xs lo hi) (L2.oI vs lo hi):=by
 unfold oH L2.oI
 rw [← r.length]
 exact (r.drop _).take _
def O5:CW:=λx lo hi J Q=>Nu x λxs=>¬ (HT.fb xs.length 0 lo=0∧HT.fb xs.length xs.length hi=xs.length)∧Q (.tup (oH xs lo hi)) J
theorem AZ:Qv X O5:=⟨_,L2.MX,λJ H x lo hi v Q2 Q rx r h k=>by
 obtain ⟨xs,ex,hn,q⟩:=Ap h
 subst ex
 obtain ⟨a,vs,rfl,h1,h2⟩:=rx
 refine ⟨a,vs,rfl,h1,by rw [← h2.length];exact hn,λp hp=>?_⟩
 have sm:=bJ.new hp (.tup (L2.oI vs lo hi))
 have e2:=Ext.same (K:=X.K) (J:=J) sm
 exact k (.tup (oH xs lo hi)) J (.ref p) _ ⟨p,_,rfl,.inl (.inl aK),e2.jg (Bp h2)⟩ (r.same sm) e2 q⟩
def my (J:Hq):PV→Option (List PV)
 | .fl xs=>some xs
 | .ref a=>match J a with
  | some (.lst xs)=>some xs
  | _=>none
 | _=>none
theorem qB {J:Hq} {H:Hp} {x:PV} {v:V} {xs:List PV} (rx:cH K J H x v) (r:Rep K J H) (h:my J x=some xs):∃a vs,v=.ref a∧dk K H a vs∧aS K J H xs vs:=by
 cases x with
 | fl ys=>obtain ⟨a,vs,rfl,h1,h2⟩:=rx;cases h;exact ⟨a,vs,rfl,h1.sq,h2⟩
 | ref a =>
  cases rx
  unfold my at h
  dsimp only at h
  cases ej:J a with
  | none=>rw [ej] at h;cases h
  | some o =>
   rw [ej] at h
   cases o with
   | lst ys=>cases h;obtain ⟨vs,h1,h2⟩:=r _ _ ej;exact ⟨a,vs,rfl,.inl (.inl h1),h2⟩
   | _=>cases h
 | _=>cases h
def O4:CW:=λx lo hi J Q=>wz (my J x) λxs=>Q (.fl (oH xs lo hi)) J
theorem KR:Qv X O4:=⟨_,L2.xo,λJ H x lo hi v Q2 Q rx r h k=>by
 obtain ⟨xs,ex,q⟩:=eW h
 obtain ⟨a,vs,rfl,h1,h2⟩:=qB rx r ex
 refine ⟨a,vs,rfl,h1,λp hp=>?_⟩
 obtain ⟨x1,x2,x3⟩:=wd r (Bp (lo:=lo) (hi:=hi) h2) hp
 exact k _ J _ _ x1 x2 x3 q⟩
def Rw:CW:=λx lo hi J Q=>wz (my J x) λxs=>∀p,J p=none→Q (.ref p) (put J p (.lst (oH xs lo hi)))
def OV:Bi:=λxs J Q=>DG xs λx=>D_ x λi=>Q (.int (if i < 0 then -i else i)) J
theorem zN:JQ X (.builtin "abs") OV:=⟨_,L2.m9,λJ H xs vs Q2 Q rs r h k=>by
 obtain ⟨x,ex,h⟩:=jC h;obtain ⟨i,ei,q⟩:=iw h;subst ei
 subst ex;obtain ⟨v,us,rfl,rv,e⟩:=rs;cases rv;cases e
 exact ⟨i,rfl,k (.int _) J _ H rfl r .refl q⟩⟩
def wb (J:Hq):PV→Option Nat
 | .tup xs=>some xs.length
 | x=>(my J x).map UP
def MD:Bi:=λxs J Q=>DG xs λx=>wz (wb J x) λn=>Q (.int n) J
theorem bN:JQ X (.builtin "len") MD:=⟨_,L2.jv,λJ H xs vs Q2 Q rs r h k=>by
 obtain ⟨x,ex,h⟩:=jC h;obtain ⟨n,en,q⟩:=eW h
 subst ex;obtain ⟨v,us,rfl,rv,e⟩:=rs;cases e
 have go:∀ys,my J x=some ys→ys.length=n→∃p ws,([v]:List V)=[.ref p]∧(dk X.K H p ws∨g7 X.K H p ws)∧Q (.int ws.length) H:=λys h1 h2=>by
  obtain ⟨a,ws,rfl,h3,h4⟩:=qB rv r h1
  exact ⟨a,ws,rfl,.inl h3,by rw [← h4.length,h2];exact k (.int _) J _ H rfl r .refl q⟩
 cases x with
 | tup ys =>
  obtain ⟨a,ws,rfl,h1,h2⟩:=rv
  cases en
  exact ⟨a,ws,rfl,.inr h1,by rw [← h2.length];exact k (.int _) J _ H rfl r .refl q⟩
 | fl ys=>cases en;exact go _ rfl rfl
 | ref a =>
  unfold wb at en
  cases el:my J (.ref a) with
  | none=>simp [el] at en
  | some ys=>simp [el] at en;exact go _ el en
 | _=>cases en⟩
def A8 (J:Hq):PV→Option String
 | .non=>some "NoneType" | .bl _=>some "bool" | .int _=>some "int" | .str _=>some "str" | .tup _=>some "tuple" | .fl _=>some "list"
 | .ref a=>match J a with
  | some (.lst _)=>some "list"
  | some (.dct _ _)=>some "dict"
  | _=>none
 | _=>none
def mR (t n:String):Option Bool :=
 if n∈["int","bool","str","tuple","list"] then some (t == n || (t == "bool" && n == "int")) else none
theorem HV (K:PySem.W.Frag) {t n:String} {b:Bool} (ht:t∈["NoneType","bool","int","str","tuple","list","dict"]) (h:mR t n=some b):PySem.W.kitOne K (.type t) (.type n)=some b:=by
 unfold mR at h
 by_cases hn:n∈["int","bool","str","tuple","list"]
 ·rw [if_pos hn] at h
  simp only [TC,TZ,or_false] at ht hn
  rcases ht with rfl | rfl | rfl | rfl | rfl | rfl | rfl <;> rcases hn with rfl | rfl | rfl | rfl | rfl <;> cases h <;> with_unfolding_all rfl
 ·rw [if_neg hn] at h;cases h
theorem JI {J:Hq} {x:PV} {t:String} (h:A8 J x=some t):t∈["NoneType","bool","int","str","tuple","list","dict"]:=by
 cases x with
 | ref a =>
  unfold A8 at h
  dsimp only at h
  cases ej:J a with
  | none=>rw [ej] at h;cases h
  | some o=>rw [ej] at h;cases o <;> cases h <;> simp
 | ty n=>cases h
 | _=>cases h;simp
def Rn (x:PV) (k:String→Prop) (_:g6 k:=dp):Prop:=match x with | .ty n=>k n | _=>False
theorem ON {x:String} {k:String→Prop} {d:g6 k}:Rn (.ty x) k d=k x:=rfl
theorem Mi {x:PV} {k:String→Prop} {d:g6 k} (h:Rn x k d):∃n,x=.ty n∧k n:=by cases x <;> first | exact ⟨_,rfl,h⟩ | exact False.elim h
def OY:Bi:=λxs J Q=>Mh xs λx y=>Rn y λn=>wz (A8 J x) λt=>wz (mR t n) λb=>Q (.bl b) J
theorem C0:cx X (.builtin "isinstance") (λxs H Q=>∃x n t b,xs=[x,.ty n]∧(gm X.K H x (.type t)∨(t="tuple"∧∃a vs,x=.ref a∧g7 X.K H a vs)∨(t="list"∧∃a vs,x=.ref a∧dk X.K H a vs))∧PySem.W.kitOne X.K (.type t) (.type n)=some b∧Q (.bl b) H):=by
 intro pins s σ H xs us Q I r h
 obtain ⟨x,n,t,b,rfl,ty,e,q⟩:=h
 obtain ⟨u,w',rfl,rx,ry⟩:=L2.vals2 r
 cases (show w'=Value.type n from ry)
 rcases ty with ty | ⟨rfl,a,vs,rfl,hs⟩ | ⟨rfl,a,vs,rfl,hs⟩
 ·exact L2.Dc I rx ty e λtk=>⟨.bl b,H,I.tok _,rfl,q⟩
 ·cases rx
  obtain ⟨its,_,⟨o,h1,h2,_⟩,_⟩:=I.tuple hs
  exact PySem.W.kia_one PySem.W.kitx_tuple I.nu ⟨o,h1,h2⟩ e (λz=>nomatch z) λtk=>⟨.bl b,H,I.tok _,rfl,q⟩
 ·cases rx
  obtain ⟨its,_,⟨o,_,h1,h2,_⟩,_⟩:=I.list hs
  exact PySem.W.kia_one PySem.W.kitx_list I.nu ⟨o,h1,h2⟩ e (λz=>nomatch z) λtk=>⟨.bl b,H,I.tok _,rfl,q⟩
theorem gG:JQ X (.builtin "isinstance") OY:=⟨_,C0,λJ H xs vs Q2 Q rs r h k=>by
 obtain ⟨x,y,ex,h⟩:=Ao h;obtain ⟨n,ey,h⟩:=Mi h;obtain ⟨t,et,h⟩:=eW h;obtain ⟨b,es,q⟩:=eW h
 subst ey
 subst ex
 obtain ⟨v,us,rfl,rv,w,us',rfl,rw',e⟩:=rs
 cases rw';cases e
 refine ⟨v,n,t,b,rfl,?_,HV X.K (JI et) es,k (.bl _) J _ H rfl r .refl q⟩
 cases x with
 | non=>cases rv;cases et;exact .inl .non
 | bl i=>cases rv;cases et;exact .inl (.bl i)
 | int i=>cases rv;cases et;exact .inl (.int i)
 | str i=>cases rv;cases et;exact .inl (.str i)
 | tup xs=>obtain ⟨a,ws,rfl,h1,_⟩:=rv;cases et;exact .inr (.inl ⟨rfl,a,ws,rfl,h1⟩)
 | fl xs =>
  obtain ⟨a,ws,rfl,h1,_⟩:=rv;cases et
  exact .inr (.inr ⟨rfl,a,ws,rfl,h1.sq⟩)
 | ty n=>cases et
 | ref a =>
  cases rv
  unfold A8 at et
  dsimp only at et
  cases ej:J a with
  | none=>rw [ej] at et;cases et
  | some o =>
   rw [ej] at et
   have z:=r _ _ ej
   cases o with
   | lst xs=>obtain ⟨ws,h1,_⟩:=z;cases et;exact .inl (.lst h1)
   | dct kvs ep=>obtain ⟨gs,h1,_⟩:=z;cases et;exact .inl (.dE h1)
   | tab=>cases et
   | dtp hs ks=>cases et
   | ins C fs=>cases et⟩
def F6:Bi:=λxs J Q=>DG xs λx=>wz (my J x) λys=>Q (.fl ys) J
def F7:Bi:=λxs J Q=>DG xs λx=>wz (my J x) λys=>∀p,J p=none→Q (.ref p) (put J p (.lst ys))
theorem ED:JQ X (.type "list") F6:=⟨_,L2.nh,λJ H xs vs Q2 Q rs r h k=>by
 obtain ⟨x,ex,h⟩:=jC h;obtain ⟨ys,el,q⟩:=eW h
 subst ex;obtain ⟨v,us,rfl,rv,e⟩:=rs;cases e
 obtain ⟨a,ws,rfl,h3,h4⟩:=qB rv r el
 refine ⟨a,ws,rfl,.inl h3,λp hp=>?_⟩
 obtain ⟨x1,x2,x3⟩:=wd r h4 hp
 exact k _ J _ _ x1 x2 x3 q⟩
theorem ni:JQ X (.type "list") F7:=⟨_,L2.nh,λJ H xs vs Q2 Q rs r h k=>by
 obtain ⟨x,ex,h⟩:=jC h;obtain ⟨ys,el,q⟩:=eW h
 subst ex;obtain ⟨v,us,rfl,rv,e⟩:=rs;cases e
 obtain ⟨a,ws,rfl,h3,h4⟩:=qB rv r el
 exact ⟨a,ws,rfl,.inl h3,λp hp=>k (.ref p) _ _ _ rfl (r.Ff hp h4) (.laid hp) (q p (r.free hp))⟩⟩
def Rv:Bi:=λxs J Q=>∃i j,xs=[.int i,.int j]∧Q (.int (if j > i then j else i)) J
def B1:CV:=λx xs J Q=>DH x λa=>DG xs λy=>Qf (J a) λys=>ys.length < sizeLine∧Q .non (put J a (.lst (ys ++ [y])))
theorem fH:Hx X "list" "list.append" B1:=⟨_,L2.i7,λJ H x xs v vs Q2 Q rx rs r h k=>by
 obtain ⟨a,ex,h⟩:=iy h;obtain ⟨y,exs,h⟩:=jC h;obtain ⟨ys,ja,hl,q⟩:=Mf h
 subst ex exs;cases rx;obtain ⟨w,us,rfl,rw',e⟩:=rs;cases e
 obtain ⟨ws,h1,h2⟩:=r _ _ ja
 exact ⟨a,ws,w,rfl,rfl,h1,by rw [← h2.length];exact hl,k .non _ _ _ rfl (r.wrote (ys:=ys ++ [y]) ja h1 (h2.append (show aS X.K J H [y] [w] from ⟨w,[],rfl,rw',rfl⟩))) (.wrote ja h1) q⟩⟩
def O2:CV:=λx xs J Q=>∃a ys y,x=.ref a∧xs=[]∧J a=some (.lst ys)∧ys[ys.length - 1]?=some y∧Q y (put J a (.lst ys.dropLast))
theorem aS.dropLast {J:Hq} {H:Hp} {xs:List PV} {vs:List V} (r:aS K J H xs vs):aS K J H xs.dropLast vs.dropLast:=by
 rw [Vu,Vu,← r.length]
 exact r.take _
theorem Fw:Hx X "list" "list.pop" O2:=⟨_,L2.L6,λJ H x xs v vs Q2 Q rx rs r ⟨a,ys,y,ex,exs,ja,hy,q⟩ k=>by
 subst ex exs;cases rx;cases rs
 obtain ⟨ws,h1,h2⟩:=r _ _ ja
 obtain ⟨w,e1,e2⟩:=h2.get hy
 have ex:=Ext.wrote (K:=X.K) (ys:=ys.dropLast) (vs:=ws.dropLast) ja h1
 exact ⟨a,ws,w,rfl,rfl,h1,by rw [← h2.length];exact e1,k y _ w _ (ex.rep e2) (r.wrote ja h1 h2.dropLast) ex q⟩⟩
def F5:CV:=λx xs J Q=>∃a ys,x=.ref a∧xs=[]∧J a=some (.lst ys)∧Q .non (put J a (.lst []))
theorem kE:Hx X "list" "list.clear" F5:=⟨_,L2.Fx,λJ H x xs v vs Q2 Q rx rs r ⟨a,ys,ex,exs,ja,q⟩ k=>by
 subst ex exs;cases rx;cases rs
 obtain ⟨ws,h1,h2⟩:=r _ _ ja
 exact ⟨a,ws,rfl,rfl,h1,k .non _ _ _ rfl (r.wrote (ys:=[]) (vs:=[]) ja h1 (show aS X.K J H [] [] from rfl)) (.wrote ja h1) q⟩⟩
def IW:V→List V→Hp→VK→Prop:=λx vs H Q=>∃l xs i y,x=.ref l∧vs=[.int (i:Nat),y]∧H l=some (.lst xs)∧i≤xs.length∧xs.length < sizeLine∧i < 2 ^ 62∧Q .non (upd H l (.lst (xs.take i ++ y :: xs.drop i)))
theorem zV (its:List Value) (i:Nat) (u:Value) (h:i≤its.length):((its.toArray.extract 0 (min ((i:Int)).toNat its.toArray.size)).push u ++ its.toArray.extract (min ((i:Int)).toNat its.toArray.size))=(its.take i ++ u :: its.drop i).toArray:=by
 have e:min ((i:Int)).toNat its.toArray.size=i:=by simp;omega
 rw [e]
 apply Array.ext'
 simp
 exact Ue (by simp)
theorem Dt:qg X "list.insert" IW:=by
 intro pins s σ H x vs v us Q I rx rv h
 obtain ⟨l,xs,i,y,rfl,rfl,hH,hi,hz,hb,q⟩:=h
 cases rx
 obtain ⟨u,w,rfl,ru,rw'⟩:=L2.vals2 rv
 obtain ⟨t,rfl⟩:=ru
 obtain ⟨z,its,n,r,hl,e⟩:=I.Dp hH
 have h63:((i:Nat):Int) < 2 ^ 63:=by
  have:((i:Nat):Int) < ((2 ^ 62:Nat):Int):=Int.ofNat_lt.mpr hb
  exact Int.lt_trans this (by decide)
 have hf:Builtin.List.listFitsIndex ((i:Nat):Int)=true:=fitsIndex_both (Int.le_trans (by decide) (Int.natCast_nonneg i)) h63
 have hs:its.toArray.size≤sizeLine:=by rw [Tu,← hl];exact z
 have hn:¬(!Builtin.List.listFitsIndex ((i:Nat):Int))=true:=by rw [hf];exact λz=>nomatch z
 have hneg:¬ (((i:Nat):Int) < 0):=by omega
 have hins:=zV its i w (by omega)
 clear hb h63 hf
 generalize ((i:Nat):Int)=ii at *
 have mm:=PySem.AutoSeq1.list_insert_list_int_val_1 l its.toArray n ii t w hn hs
 refine call_meets PySem.F.slot_list_insert ⟨_,e,rfl⟩ PySem.F.entry_list_insert (PySem.F.args_list_insert_3 _ _ _) mm ⟨e,?_⟩
 refine ⟨.non,_,I.Dm (its':=its.take i ++ w :: its.drop i) hH e ?_ ((r.take i).append (.cons rw' (r.drop i))) ?_,rfl,q⟩
 ·simp only [if_neg hneg]
  exact hins
 ·rw [TN,TU,TX,UD];omega
def B2:CV:=λx xs J Q=>∃a ys i y,x=.ref a∧xs=[.int (i:Nat),y]∧J a=some (.lst ys)∧i≤ys.length∧ys.length < sizeLine∧i < 2 ^ 62∧Q .non (put J a (.lst (ys.take i ++ y :: ys.drop i)))
theorem i6:Hx X "list" "list.insert" B2:=⟨_,Dt,λJ H x xs v vs Q2 Q rx rs r ⟨a,ys,i,y,ex,exs,ja,hi,hl,hb,q⟩ k=>by
 subst ex exs;cases rx;obtain ⟨w0,us,rfl,rw0,w,us',rfl,rw',e⟩:=rs;cases e;cases rw0
 obtain ⟨ws,h1,h2⟩:=r _ _ ja
 exact ⟨a,ws,i,w,rfl,rfl,h1,by rw [← h2.length];exact hi,by rw [← h2.length];exact hl,hb,k .non _ _ _ rfl (r.wrote (ys:=ys.take i ++ y :: ys.drop i) ja h1 ((h2.take i).append (show aS X.K J H (y :: ys.drop i) (w :: ws.drop i) from ⟨w,_,rfl,rw',h2.drop i⟩))) (.wrote ja h1) q⟩⟩
end
def qv (ks:List (Str × Nat)) (τ:Sr):Sr:=ks.map λp=>(τ[p.2]?).getD none
theorem B8 {K:PySem.W.Frag} {J:Hq} {H:Hp} {τ:Sr} {σ:L2.St} (r:mn K J H τ σ) {x:PV} {v:V} (rx:cH K J H x v) (ks:List (Str × Nat)):mn K J H (some x :: qv ks τ) (some v :: eI ks σ):=by
 refine ⟨by simp [qv,eI],λi y e=>?_⟩
 cases i with
 | zero=>rw [UT] at e ⊢;cases e;exact ⟨v,rfl,rx⟩
 | succ i =>
  rw [T'] at e ⊢
  unfold qv at e
  unfold eI
  rw [Tq] at e ⊢
  cases ep:ks[i]? with
  | none=>rw [ep] at e;cases e
  | some p =>
   rw [ep] at e
   have e':(τ[p.2]?).getD none=some y:=Option.some.inj e
   have e2:τ[p.2]?=some (some y):=by
    cases q:τ[p.2]? with
    | none=>rw [q] at e';cases e'
    | some w=>rw [q] at e';exact congrArg some e'
   obtain ⟨v',h1,h2⟩:=r.get _ _ e2
   exact ⟨v',by show some ((σ[p.2]?).getD none)=_;rw [h1];rfl,h2⟩
def Sub (J J':Hq):Prop:=∀a o,J a=some o→J' a=some o
theorem Sub.refl (J:Hq):Sub J J:=λ_ _ h=>h
theorem Sub.put {J:Hq} {D:Addr} {o:HQ} (h:J D=none):Sub J (put J D o):=λa u e=>by
 have ne:a≠D:=by intro z;subst z;rw [h] at e;cases e
 rw [aq ne];exact e
def Qt (it:zy) (J1:Hq) (ks:List (Str × Nat)) (τ:Sr) (tc:lZ) (te:dz) (c:PV→Bool) (g:PV→PV):Prop:=it.xs.length < sizeLine∧∀J',Sub J1 J'→it.ok J' ∧
 ∀x∈it.xs,tc (some x :: qv ks τ) J' (λb J2=>b=c x∧J2=J')∧(c x=true→te (some x :: qv ks τ) J' λy J2=>y=g x∧J2=J')
def yR (wi:tK) (ks:List (Str × Nat)) (tc:lZ) (te:dz):dz:=λτ J Q=>wi τ J λit J1=>∃(c:PV→Bool) (g:PV→PV),Qt it J1 ks τ tc te c g∧Q (.fl ((it.xs.filter c).map g)) J1
def MH (wi:tK) (ks:List (Str × Nat)) (tc:lZ) (te:dz):dz:=λτ J Q=>wi τ J λit J1=>∃(c:PV→Bool) (g:PV→PV),Qt it J1 ks τ tc te c g∧∀p,J1 p=none→Q (.ref p) (put J1 p (.lst ((it.xs.filter c).map g)))
def yS:lZ:=λ_ J Q=>Q true J
section
variable {X:Cx} {G:G2}
theorem p7 {α:Type} (c:α→Bool) {xs:List α} {i:Nat} {x:α} (h:xs[i]?=some x):(xs.take (i + 1)).filter c=(xs.take i).filter c ++ (if c x=true then [x] else []):=by
 rw [TR,h,UW]
 congr 1
 simp only [Option.toList_some,T5,Vv]
theorem v_ {K:PySem.W.Frag} {ks:List (Str × Nat)} {tc:lZ} {te:dz} {σ:L2.St} {H:Hp} {Q:VK} {τ:Sr} {J:Hq} (a2:xI K G τ J σ H) {it:zy} {J1:Hq} {I:It} {H1:Hp} (ir:uJ K it I J1 H1) (r1:Rep K J1 H1) (e1:Ext K J H J1 H1) {c:PV→Bool} {g:PV→PV}
  (w:Qt it J1 ks τ tc te c g)
  (q:∀D H2,H1 D=none→J1 D=none→Rep K (put J1 D (.lst ((it.xs.filter c).map g))) H2→Ext K J1 H1 (put J1 D (.lst ((it.xs.filter c).map g))) H2→Q (.ref D) H2) :
  ∀D,H1 D=none→∃W:Nat→Nat→Hp→Prop,(∃m,W 0 m (upd H1 D (.lst [])))∧∀i m H2,W i m H2→(I.stop i H2∧Q (.ref D) H2) ∨
   (I.go i H2∧∀v H3,I.yld i H2 v H3→LT K G tc (some v :: eI ks σ) H3 λb H4=>if b=true then LE K G te (some v :: eI ks σ) H4 λy H5=>∃ys,H5 D=some (.lst ys)∧ys.length < sizeLine∧∃m',m' < m∧W (i + 1) m' (upd H5 D (.lst (ys ++ [y]))) else ∃m',m' < m∧W (i + 1) m' H4):=by
 intro D hD
 obtain ⟨hlen,w⟩:=w
 have jD:J1 D=none:=r1.free hD
 refine ⟨λi m H2=>m=it.xs.length - i∧i≤it.xs.length∧Rep K (put J1 D (.lst (((it.xs.take i).filter c).map g))) H2∧Ext K J1 H1 (put J1 D (.lst (((it.xs.take i).filter c).map g))) H2,⟨_,rfl,T3 _,r1.Ff (xs:=[]) (vs:=[]) hD rfl,.laid hD⟩,?_⟩
 rintro i m H2 ⟨rfl,hi,r2,e2⟩
 obtain ⟨ok,ww⟩:=w _ (Sub.put (o:=.lst (((it.xs.take i).filter c).map g)) jD)
 by_cases hlt:i < it.xs.length
 ·refine .inr ⟨ir.go _ H2 e2 r2 ok i hlt,λv H3 y=>?_⟩
  obtain ⟨x,ex,rx,r3,e3⟩:=ir.yl _ H2 e2 r2 ok i hlt v H3 y
  obtain ⟨hc,he⟩:=ww x (To ex)
  have a3:xI K G (some x :: qv ks τ) _ (some v :: eI ks σ) H3:=⟨B8 (a2.sl.ext ((e1.trans e2).trans e3)) rx ks,r3,((a2.ext.trans e1).trans e2).trans e3⟩
  refine ⟨_,_,_,a3,hc,λb J4 H4 r4 e4 ⟨eb,ej⟩=>?_⟩
  subst ej
  cases hb:c x with
  | false =>
   rw [eb,hb]
   simp only [TJ,if_false]
   refine ⟨_,by omega,rfl,hlt,?_⟩
   rw [p7 c ex,hb]
   simp only [TJ,if_false,Uj]
   exact ⟨r4,(e2.trans e3).trans e4⟩
  | true =>
   rw [eb,hb]
   simp only [if_true]
   refine ⟨_,_,_,a3.go r4 e4,he hb,λz J5 u H5 rz r5 e5 ⟨ez,ej⟩=>?_⟩
   subst ej ez
   obtain ⟨ys,h5,ry⟩:=r5 D _ ak
   have ll:ys.length≤i:=by
    rw [← ry.length,Th]
    exact TK (Uu _ _) (by rw [TX];omega)
   have r6:=r5.wrote (ys:=((it.xs.take i).filter c).map g ++ [g x]) (vs:=ys ++ [u]) ak h5 (ry.append (show aS K _ H5 [g x] [u] from ⟨u,[],rfl,rz,rfl⟩))
   have e6:=Ext.wrote (K:=K) (ys:=((it.xs.take i).filter c).map g ++ [g x]) (vs:=ys ++ [u]) (J:=put J1 D (.lst (((it.xs.take i).filter c).map g))) ak h5
   rw [bM] at r6 e6
   refine ⟨ys,h5,by omega,_,by omega,rfl,hlt,?_⟩
   rw [p7 c ex,hb,if_pos rfl,Ts]
   exact ⟨r6,(((e2.trans e3).trans e4).trans e5).trans e6⟩
 ·have ei:i=it.xs.length:=by omega
  subst ei
  rw [T1] at r2 e2 ok
  exact .inl ⟨ir.stop _ H2 e2 r2 ok,q D H2 hD jD r2 e2⟩
theorem freeze {K:PySem.W.Frag} {J1:Hq} {H2:Hp} {D:Addr} {xs:List PV} (jD:J1 D=none) (r:Rep K (put J1 D (.lst xs)) H2):cH K J1 H2 (.fl xs) (.ref D)∧Rep K J1 H2∧Ext K (put J1 D (.lst xs)) H2 J1 H2:=by
 obtain ⟨ys,h,ry⟩:=r D _ ak
 have less:∀a,J1 a=put J1 D (.lst xs) a∨J1 a=none:=λa=>by
  by_cases e:a=D
  ·subst e;exact .inr jD
  ·rw [aq e];exact .inl rfl
 have e:=Ext.less (K:=K) (H:=H2) less
 exact ⟨⟨D,ys,rfl,.inl ⟨jD,.inl h⟩,e.jg ry⟩,r.less less,e⟩
theorem Fi {wi:tK} {ks:List (Str × Nat)} {tc:lZ} {te:dz}:∀σ H Q,LE X.K G (yR wi ks tc te) σ H Q→Jy (LI X.K G wi) ks (LT X.K G tc) (LE X.K G te) σ H Q:=λσ H Q ⟨τ,J,Q2,a2,h,k⟩ =>
 ⟨τ,J,_,a2,h,λit J1 I H1 ir r1 e1 ⟨c,g,w,q⟩=>v_ (Q:=Q) a2 ir r1 e1 w λD H2 hD jD r2 e2=>let ⟨x1,x2,x3⟩:=freeze jD r2;k _ J1 _ H2 x1 x2 ((e1.trans e2).trans x3) q⟩
theorem Fj {wi:tK} {ks:List (Str × Nat)} {tc:lZ} {te:dz}:∀σ H Q,LE X.K G (MH wi ks tc te) σ H Q→Jy (LI X.K G wi) ks (LT X.K G tc) (LE X.K G te) σ H Q:=λσ H Q ⟨τ,J,Q2,a2,h,k⟩ =>
 ⟨τ,J,_,a2,h,λit J1 I H1 ir r1 e1 ⟨c,g,w,q⟩=>v_ (Q:=Q) a2 ir r1 e1 w λD H2 hD jD r2 e2=>k (.ref D) _ _ H2 rfl r2 (e1.trans e2) (q D jD)⟩
theorem yg {wi:tK} {ks:List (Str × Nat)} {te:dz}:∀σ H Q,LE X.K G (yR wi ks yS te) σ H Q→Qk (LI X.K G wi) ks (LE X.K G te) σ H Q:=λσ H Q ⟨τ,J,Q2,a2,h,k⟩ =>
 ⟨τ,J,_,a2,h,λit J1 I H1 ir r1 e1 ⟨c,g,w,q⟩ D hD=>by
  obtain ⟨W,w0,turn⟩:=v_ (Q:=Q) a2 ir r1 e1 w (λD H2 hD jD r2 e2=>let ⟨x1,x2,x3⟩:=freeze jD r2;k _ J1 _ H2 x1 x2 ((e1.trans e2).trans x3) q) D hD
  refine ⟨W,w0,λi m H2 hw=>?_⟩
  rcases turn i m H2 hw with z | ⟨go,z⟩
  ·exact .inl z
  ·refine .inr ⟨go,λv H3 y=>?_⟩
   obtain ⟨τ',J',Q',a',t',k'⟩:=z v H3 y
   have:=k' true J' H3 a'.hp .refl t'
   simpa using this⟩
variable {elt iter cnd:Expr} {x y:Str} {px py:Pos} {sc:Scope} {pos spos:Pos} {wi:tK} {te:dz} {tc:lZ} {i:Nat}
theorem Pt (osc:Scope) (N:List Str) (ks:List (Str × Nat)) (hc:X.calm=true) (ho:X.env.scope=osc) (hN:X.N=N) (hi:RI X G (.Name x px) iter wi) (he:∀cl C s₀ H₀ fp pins,RE (f7 X sc cl C x ks s₀ H₀ fp pins) G elt te)
  (ok:cJ sc osc N x ks:=by decide +kernel) (hs:∀x,foldedSetIterable iter X.env x=pure x:=by intro _;rfl):RE X G (.ListComp elt [⟨.Name x px,iter,[],0⟩] sc pos) (yR wi ks yS te) :=
 ⟨lX (Kt osc N ks hc ho hN hi.run (λcl C s₀ H₀ fp pins=>(he cl C s₀ H₀ fp pins).run) ok hs) yg⟩
theorem nv {t:dz} {u:TE} (h:∀σ H Q,LE X.K G t σ H Q→u σ H Q):∀D σ H,LS X.K G (uz t (HJ i)) D σ H→u σ H λv H1=>D.nx (σ.set i (some v)) H1:=λD σ H ⟨τ,J,D2,a2,q,g⟩ =>
 h σ H _ ⟨τ,J,_,a2,q,λx J' v H' rx rr ee q=>g.nx _ J' _ H' ((a2.sl.ext ee).set i rx) rr ee q⟩
theorem MP (osc:Scope) (N:List Str) (ks:List (Str × Nat)) (hc:X.calm=true) (ho:X.env.scope=osc) (hN:X.N=N) (hnd:X.N.Nodup) (hy:X.N[i]?=some y) (hl:Loc X.env.scope y) (hi:RI X G (.Name x px) iter wi) (he:∀cl C s₀ H₀ fp pins,RE (f7 X sc cl C x ks s₀ H₀ fp pins) G elt te) (hcn:∀cl C s₀ H₀ fp pins,RT (f7 X sc cl C x ks s₀ H₀ fp pins) G cnd tc)
  (ok:cJ sc osc N x ks:=by decide +kernel) (hs:∀x,foldedSetIterable iter X.env x=pure x:=by intro _;rfl) (hsw:swapsWith (.ListComp elt [⟨.Name x px,iter,[cnd],0⟩] sc pos) (some (.Name y py)) spos.line X.env=pure true:=by rfl) (hf:X.fn y=true∨X.env.scope.names.lookup y=some .local:=by first | exact .inl rfl | exact .inr rfl | assumption) :
  RS X G (.Assign [.Name y py] (.ListComp elt [⟨.Name x px,iter,[cnd],0⟩] sc pos) spos) (uz (yR wi ks tc te) (HJ i)) :=
 ⟨zm (AD osc N ks hc ho hN hnd hy hl hi.run (λcl C s₀ H₀ fp pins=>(he cl C s₀ H₀ fp pins).run) (λcl C s₀ H₀ fp pins=>wL (hcn cl C s₀ H₀ fp pins).run) ok hs hsw hf) (nv Fi)⟩
theorem Jj (osc:Scope) (N:List Str) (ks:List (Str × Nat)) (hc:X.calm=true) (ho:X.env.scope=osc) (hN:X.N=N) (hnd:X.N.Nodup) (hy:X.N[i]?=some y) (hl:Loc X.env.scope y) (hi:RI X G (.Name x px) iter wi) (he:∀cl C s₀ H₀ fp pins,RE (f7 X sc cl C x ks s₀ H₀ fp pins) G elt te) (hcn:∀cl C s₀ H₀ fp pins,RT (f7 X sc cl C x ks s₀ H₀ fp pins) G cnd tc)
  (ok:cJ sc osc N x ks:=by decide +kernel) (hs:∀x,foldedSetIterable iter X.env x=pure x:=by intro _;rfl) (hsw:swapsWith (.ListComp elt [⟨.Name x px,iter,[cnd],0⟩] sc pos) (some (.Name y py)) spos.line X.env=pure true:=by rfl) (hf:X.fn y=true∨X.env.scope.names.lookup y=some .local:=by first | exact .inl rfl | exact .inr rfl | assumption) :
  RS X G (.Assign [.Name y py] (.ListComp elt [⟨.Name x px,iter,[cnd],0⟩] sc pos) spos) (uz (MH wi ks tc te) (HJ i)) :=
 ⟨zm (AD osc N ks hc ho hN hnd hy hl hi.run (λcl C s₀ H₀ fp pins=>(he cl C s₀ H₀ fp pins).run) (λcl C s₀ H₀ fp pins=>wL (hcn cl C s₀ H₀ fp pins).run) ok hs hsw hf) (nv Fj)⟩
theorem Pz (osc:Scope) (N:List Str) (ks:List (Str × Nat)) (hc:X.calm=true) (ho:X.env.scope=osc) (hN:X.N=N) (hnd:X.N.Nodup) (hy:X.N[i]?=some y) (hl:Loc X.env.scope y) (hi:RI X G (.Name x px) iter wi) (he:∀cl C s₀ H₀ fp pins,RE (f7 X sc cl C x ks s₀ H₀ fp pins) G elt te)
  (ok:cJ sc osc N x ks:=by decide +kernel) (hs:∀x,foldedSetIterable iter X.env x=pure x:=by intro _;rfl) (hsw:swapsWith (.ListComp elt [⟨.Name x px,iter,[],0⟩] sc pos) (some (.Name y py)) spos.line X.env=pure true:=by rfl) (hf:X.fn y=true∨X.env.scope.names.lookup y=some .local:=by first | exact .inl rfl | exact .inr rfl | assumption) :
  RS X G (.Assign [.Name y py] (.ListComp elt [⟨.Name x px,iter,[],0⟩] sc pos) spos) (uz (yR wi ks yS te) (HJ i)) :=
 ⟨zm (Ku osc N ks hc ho hN hnd hy hl hi.run (λcl C s₀ H₀ fp pins=>(he cl C s₀ H₀ fp pins).run) ok hs hsw hf) (nv yg)⟩
end
end Ov
namespace Ov
open PySem PySem.Spec PyProof.Rows
section
open HT (lexLt)
def mw:List Str→List Str→Bool
 | [],[]=>false
 | [],_ :: _=>true
 | _ :: _,[]=>false
 | x :: xs,y :: ys=>if x=y then mw xs ys else decide (x.cps.toList < y.cps.toList)
theorem oU (x y:Str) (xs ys:List Str):mw (x :: xs) (y :: ys)=if x=y then mw xs ys else decide (x.cps.toList < y.cps.toList):=rfl
theorem nB:mw [] []=false:=rfl
theorem uf (y:Str) (ys:List Str):mw [] (y :: ys)=true:=rfl
theorem ue (x:Str) (xs:List Str):mw (x :: xs) []=false:=rfl
theorem EK (A:Around) (s:Shared) (a:Str) (t:Tok) (c:Str) (u:Tok):∃e,SeqAt.EqAt A s (.str a t) (.str c u) e∧(e=true↔a=c) :=
 ⟨(a == c),SeqAt.EqAt.str_str a t c u,by simp⟩
theorem Gi (A:Around) (s:Shared) (a:Str) (t:Tok) (c:Str) (u:Tok) (prog:Program) (w:World) (E:Value→Shared→Prop) (Q:Value→Shared→Prop) (h:Q (.bool (decide (a.cps.toList < c.cps.toList))) s) :
  wpAny (model prog w) A (richCompare .Lt (.str a t) (.str c u)) Q E s :=
 (PyProof.Rows.lt_str h:wpAny (model prog w) A (compareOp .Lt (.str a t) (.str c u)) Q E s)
open PySem.SeqAt
open PySem.AutoSeq1 (wpAny_loadPart')
open PySem.MeetsSeq PySem.MeetsSeq2 PySem.MeetsSeq3
theorem uG (l b:Addr) (items items2:Array Value) (n n2:Nat) (dd dd2:Option Addr) (sl sl2:Array (Option Value)) (ns ms:List Str) (hi:StrsAre items.toList ns) (hj:StrsAre items2.toList ms) :
  Meets (Builtin.«tuple.__lt__» ⟨[.ref l,.ref b],[]⟩)
   (λ_ R s=>s.heap.get? l=some { cls:=.type "tuple",dict:=dd,data:=.seq items n,slots:=sl }∧s.heap.get? b=some { cls:=.type "tuple",dict:=dd2,data:=.seq items2 n2,slots:=sl2 } ∧
    R (.ok (.ret (.bool (mw ns ms)))) s) :=
 .of_wp λprog w A R s h=>by
  obtain ⟨hp,g,d,tk,os⟩:=s;obtain ⟨hl,hb,h⟩:=h
  have f2:=AutoSeq1.sub_tuple_tuple
  have z1:items.size=ns.length:=by rw [← hi.length];simp
  have z2:items2.size=ms.length:=by rw [← hj.length];simp
  wp_walk using wpAny_loadPart' hl,wpAny_loadPart' hb,wpAny_forIn_list _ (λrest b s'=>b.1=none∧s'=⟨hp,g,d,tk,os⟩∧∃(vs ws:List Value) (ns' ms':List Str),rest=vs.zip ws ∧
   StrsAre vs ns'∧StrsAre ws ms'∧ns'.length + items2.size=ms'.length + items.size∧R (.ok (.ret (.bool (mw ns' ms')))) ⟨hp,g,d,tk,os⟩) _
  case turn =>
   rintro ⟨y,x⟩ rest b s' ⟨hb',rfl,vs,ws,ns',ms',hz,hvi,hwi,hlen,hR⟩
   cases hvi with
   | nil=>rw [List.zip_nil_left] at hz;cases hz
   | cons a t hvi' =>
    cases hwi with
    | nil=>rw [List.zip_nil_right] at hz;cases hz
    | cons c u hwi' =>
     rw [VF] at hz
     injection hz with hyx hrest
     injection hyx with hy hx
     subst hy hx
     rw [oU] at hR
     simp only [TU] at hlen
     obtain ⟨e,he,hiff⟩:=EK A.in1 ⟨hp,g,d,tk,os⟩ a t c u
     refine wpAny_bind (he prog w _ _ ?_)
     cases e with
     | true =>
      rw [if_pos (hiff.mp rfl)] at hR
      wp_walk
      exact ⟨rfl,rfl,_,_,_,_,hrest,hvi',hwi',by omega,hR⟩
     | false =>
      rw [if_neg (λq=>absurd (hiff.mpr q) TH)] at hR
      have hri:=Gi A.in1 ⟨hp,g,d,tk,os⟩ a t c u prog w
      wp_walk using hri
      exact ⟨_,rfl,by simpa using hR⟩
  case fin =>
   rintro ⟨b1,b2⟩ s' ⟨hb',rfl,vs,ws,ns',ms',hz,hvi,hwi,hlen,hR⟩
   simp only at hb'
   subst hb'
   have hv:mw ns' ms'=decide (items.size < items2.size):=by
    cases hvi with
    | nil =>
     cases hwi with
     | nil =>
      simp only [UX] at hlen
      rw [nB]
      exact (decide_eq_false (by omega)).symm
     | cons c u hw =>
      simp only [UX,TU] at hlen
      rw [uf]
      exact (decide_eq_true (by omega)).symm
    | cons a t hv =>
     cases hwi with
     | nil =>
      simp only [UX,TU] at hlen
      rw [ue]
      exact (decide_eq_false (by omega)).symm
     | cons c u hw =>
      rw [VF] at hz
      cases hz
   rw [hv] at hR
   wp_walk
   exact ⟨_,rfl,by simpa [Builtin.Tuple.tupleCompareSizes] using hR⟩
  case h =>
   exact ⟨rfl,rfl,items.toList,items2.toList,ns,ms,rfl,hi,hj,by omega,h⟩
section
variable {prog:Program} {w:World} {A:Around} {E:Value→Shared→Prop} {s:Shared}
theorem Ab {l b:Addr} {items items2:Array Value} {ns ms:List Str} {Q:Value→Shared→Prop} (hl:IsTup s.heap l items) (hb:IsTup s.heap b items2) (hi:StrsAre items.toList ns) (hj:StrsAre items2.toList ms)
  (hu:A.units < cLine) (h:Q (.bool (mw ns ms)) s):wpAny (model prog w) A (compareOp .Lt (.ref l) (.ref b)) Q E s:=by
 obtain ⟨⟨cls,dd,data,sl⟩,ho,hc,n,hd⟩:=id hl
 obtain ⟨⟨cls2,dd2,data2,sl2⟩,ho2,hc2,n2,hd2⟩:=id hb
 simp only at hc hd hc2 hd2
 subst hc hd hc2 hd2
 exact richCompare_meets_room (op:=.Lt) ⟨_,ho,rfl⟩ ⟨_,ho2,rfl⟩ PySem.F.slot_tuple_lt PySem.F.entry_tuple_lt (PySem.F.args_tuple_lt_2 _ _) (uG l b items items2 n n2 dd dd2 sl sl2 ns ms hi hj)
  ⟨ho,ho2,show Value.bool (mw ns ms)≠Value.notImplemented∧Q (.bool (mw ns ms)) s from ⟨(λx=>nomatch x),h⟩⟩ hu
end
end
open L2 (V HO Hp Inv Cx VK XK TE TT TA TS TG qh TI TO j6 Ends vM Loc Gl Rd RelV Vals fT xJ cx p9 tJ qg j5 R2 upd aK aW dk g7 Sp qW It bJ c_ bW Passes pM aL Meth Mk Binds aP cm aw dt gm fm)
section
variable {X:Cx} {K:PySem.W.Frag}
theorem Iu (hu:X.A.units < cLine):fT X (compareOp .Lt) (λx y H Q=>∃a b ns ms,x=.ref a∧y=.ref b∧g7 X.K H a (ns.map V.str)∧g7 X.K H b (ms.map V.str)∧Q (.bl (mw ns ms)) H):=by
 intro pins s σ H x y v u Q I rx ry h
 obtain ⟨a,b,ns,ms,rfl,rfl,ha,hb,q⟩:=h
 cases rx;cases ry
 obtain ⟨is,r1,t1,_⟩:=I.tuple ha
 obtain ⟨js,r2,t2,_⟩:=I.tuple hb
 exact Ab t1 t2 (by simpa using jT r1) (by simpa using jT r2) hu ⟨.bl _,H,I,rfl,q⟩
theorem tw {J:Hq} {H:Hp}:∀{ns:List Str} {vs:List V},aS K J H (ns.map PV.str) vs→vs=ns.map V.str
 | [],_,h=>h
 | n :: ns,_,⟨v,us,e,h,k⟩=>by subst e;cases h;rw [tw k];rfl
def Kx:m7:=λx y J Q=>∃ns ms,x=.tup (ns.map .str)∧y=.tup (ms.map .str)∧Q (.bl (mw ns ms)) J
theorem Iw (hu:X.A.units < cLine):m6 X (compareOp .Lt) Kx:=⟨_,Iu hu,λJ H x y v w Q2 Q rx ry r ⟨ns,ms,ex,ey,q⟩ k=>by
 subst ex ey
 obtain ⟨a,vs,rfl,h1,h2⟩:=rx
 obtain ⟨b,ws,rfl,h3,h4⟩:=ry
 cases tw h2;cases tw h4
 exact ⟨a,b,ns,ms,rfl,rfl,h1,h3,k (.bl _) J _ H rfl r .refl q⟩⟩
def OW:m7:=λx y J Q=>∃xs ys,my J x=some xs∧my J y=some ys∧xs.length + ys.length≤sizeLine∧Q (.fl (xs ++ ys)) J
end
def ed (K:PySem.W.Frag) (C:Addr) (m qual:Str) (st:Stmt):Prop:=∃f fd,Meth K C m f∧cm K m qual st f fd
structure d_ (K:PySem.W.Frag) (mg:Str→Option Value) (x:Str) (C:Addr):Prop where
 cl:pM K C
 m:mg x=some (.ref C)
 mkz:PySem.W.makesIn K C=true
 kp:PySem.W.keepIn K (.ref C)=true
theorem bE {K:PySem.W.Frag} {C f:Addr} {m qual:Str} {st:Stmt} {od an:Option Addr} {sl:Array (Option Value)} {oc kV dc pm cd ct:Value} (a:PySem.W.findIn K (.ref C) m=some (some (.ref f))) (i:PySem.W.isFn K (.ref f)=true)
  (l:K.lookup f=some ⟨oc,od,.func (PySem.W.fnOf m qual (L2.dA st) (L2.cb st) (L2.aj st) .none kV dc pm an cd ct),sl⟩) (c:PySem.W.codeIn K cd qual=true) (k:PySem.W.keepIn K (.ref f)=true):ed K C m qual st :=
 ⟨f,_,⟨a,i,k⟩,L2.zT l c k⟩
theorem vY {K:PySem.W.Frag} {h:Heap} {mg:Str→Option Value} {x:Str} {C:Addr} (X:K.In h) (G:h.Ns mainGlobals mg) (aC:PySem.W.nsIn K mainGlobals x=some (some (.ref C)))
  (pg:PySem.W.plainGet K C Str.empty=true) (hd:PySem.W.hasDictIn K C=true) (po:PySem.W.plainOver K C=true) (sa:PySem.W.findIn K (.ref C) "__setattr__"=some (some (.builtin "object.__setattr__"))) (mk:PySem.W.makesIn K C=true) (kc:PySem.W.keepIn K (.ref C)=true):d_ K mg x C :=
 ⟨⟨pg,hd,po,sa⟩,PySem.W.mg_of X G aC,mk,kc⟩
section
variable {P:Program} {w:World} {K:PySem.W.Frag} {mg:Str→Option Value} {base:Heap}
theorem ed.qD {C:Addr} {m qual:Str} {st:Stmt} {k:Nat} {ps:List Str} {sp:cM} (D:ed K C m qual st) (cl:pM K C) (h:∀f fd,cm K m qual st f fd→aP P w K mg base (c8 P w) k f fd ps (dC K sp))
  (hb:∀(kV doc pm:Value) (an:Option Addr) (cdv ct:Value) (us:List Value),us.length=ps.length→bindArgs (PySem.W.fnOf m qual (L2.dA st) (L2.cb st) (L2.aj st) .none kV doc pm an cdv ct) ⟨us,[]⟩=pure (ps.zip us)):cG P w K mg base C k m ps sp:=by
 obtain ⟨f,fd,hm,F⟩:=D
 exact ⟨cl,f,fd,hm,h f fd F,F.binds hb⟩
theorem ed.Rb {x:Str} {C:Addr} {qual:Str} {st:Stmt} {k:Nat} {ps:List Str} {sp:cM} (D:ed K C "__init__" qual st) (kd:d_ K mg x C) (h:∀f fd,cm K "__init__" qual st f fd→aP P w K mg base (c8 P w) k f fd ps (dC K sp))
  (hb:∀(kV doc pm:Value) (an:Option Addr) (cdv ct:Value) (us:List Value),us.length=ps.length→bindArgs (PySem.W.fnOf "__init__" qual (L2.dA st) (L2.cb st) (L2.aj st) .none kV doc pm an cdv ct) ⟨us,[]⟩=pure (ps.zip us)):zE P w K mg base C k x ps sp:=by
 obtain ⟨f,fd,hm,F⟩:=D
 exact ⟨kd.m,f,fd,⟨kd.mkz,hm.at_,hm.fn,kd.kp⟩,h f fd F,F.binds hb⟩
end
theorem Nl {n:Nat} {F:List Value→Prop} (h:∀a us,us.length=n→F (a :: us)) (us:List Value) (hu:us.length=n + 1):F us:=by
 cases us with
 | nil=>cases hu
 | cons a us=>exact h a us (Nat.succ.inj hu)
theorem S3 {F:List Value→Prop} (h:F []) (us:List Value) (hu:us.length=0):F us:=by
 cases us with
 | nil=>exact h
 | cons a us=>cases hu
theorem Bj {F:List Value→Prop} (h:∀a,F [a]):∀us:List Value,us.length=1→F us:=Nl λa=>S3 (F:=λus=>F (a :: us)) (h a)
theorem ju {F:List Value→Prop} (h:∀a b,F [a,b]):∀us:List Value,us.length=2→F us:=Nl λa=>Bj (F:=λus=>F (a :: us)) (h a)
theorem HA {F:List Value→Prop} (h:∀a b c,F [a,b,c]):∀us:List Value,us.length=3→F us:=Nl λa=>ju (F:=λus=>F (a :: us)) (h a)
theorem Nk {F:List Value→Prop} (h:∀a b c d,F [a,b,c,d]):∀us:List Value,us.length=4→F us:=Nl λa=>HA (F:=λus=>F (a :: us)) (h a)
theorem Sn {F:List Value→Prop} (h:∀a b c d e,F [a,b,c,d,e]):∀us:List Value,us.length=5→F us:=Nl λa=>Nk (F:=λus=>F (a :: us)) (h a)
theorem S4 {F:List Value→Prop} (h:∀a b c d e f,F [a,b,c,d,e,f]):∀us:List Value,us.length=6→F us:=Nl λa=>Sn (F:=λus=>F (a :: us)) (h a)
end Ov
namespace Ov
open PySem PySem.Spec PyProof.Rows
open L2 (V HO Hp Inv Cx VK XK Rd dk g7 Sp bJ bW Passes aP cm aw dt upd aK aW)
def fr (q:Rat):PV:=.tup [.int q.num,.int (q.den:Int)]
theorem Ly (a b:Rat):(fr a=fr b)=(a=b):=by
 apply propext
 constructor
 ·intro h
  unfold fr at h
  simp only [PV.tup.injEq,List.cons.injEq,PV.int.injEq,and_true] at h
  exact Rat.ext h.1 (by have:=h.2;omega)
 ·intro h;rw [h]
theorem JV (a:Rat):fr a=.tup [.int a.num,.int (a.den:Int)]:=rfl
theorem LH (J:Hq) (q:Rat):fA J (fr q) (.int 0)=some (.int q.num):=d5 _ _
theorem LJ (J:Hq) (q:Rat):fA J (fr q) (.int 1)=some (.int (q.den:Int)):=fz _ _ _
theorem PZ (J:Hq) (q:Rat):A8 J (fr q)=some "tuple":=rfl
theorem LU (J:Hq) (q:Rat):wb J (fr q)=some 2:=rfl
theorem wM (q:Rat):nX (fr q)=true:=by simp [fr,nX,lY]
theorem rT (q:Rat):E6 (fr q)=false:=rfl
theorem Ls (q:Rat):dep (gw (fr q))=1:=by simp [fr,gw,gQ,dep,eh]
theorem NX (q:Rat):G8 (fr q)=True:=eq_true ⟨wM q,by rw [Ls];decide⟩
theorem Lk (i:Int):G8 (.int i)=True:=eq_true ⟨by simp [nX],by simp [gw,dep]⟩
theorem Lm (i:Str):G8 (.str i)=True:=eq_true ⟨by simp [nX],by simp [gw,dep]⟩
theorem NW (i:Bool):G8 (.bl i)=True:=eq_true ⟨by simp [nX],by simp [gw,dep]⟩
theorem Ll:G8 .non=True:=eq_true ⟨by simp [nX],by simp [gw,dep]⟩
theorem wN (i:Int):nX (.int i)=true:=by simp [nX]
theorem wO (i:Str):nX (.str i)=true:=by simp [nX]
theorem MA (i:Bool):nX (.bl i)=true:=by simp [nX]
theorem IP:nX .non=true:=by simp [nX]
theorem BZ (xs:List PV):nX (.tup xs)=lY xs:=by simp [nX]
theorem pd (x:PV) (xs:List PV):lY (x :: xs)=(nX x && lY xs):=by simp [lY]
theorem yO:lY []=true:=by simp [lY]
theorem eq_int (a b:Int):eqQ (.int a) (.int b)=decide (a=b):=by unfold eqQ gw lH;rw [Vw]
theorem eq_str (a b:Str):eqQ (.str a) (.str b)=decide (a=b):=by
 unfold eqQ gw lH
 cases h:a == b with
 | true=>simp at h;simp [h]
 | false=>simp at h;simp [h]
theorem N0 (a b:Bool):eqQ (.bl a) (.bl b)=decide (a=b):=by unfold eqQ gw lH;rw [Vw]
def zP (xs ys:List PV):Bool:=kj (gQ xs) (gQ ys)
theorem vT (xs ys:List PV):eqQ (.tup xs) (.tup ys)=zP xs ys:=by unfold eqQ gw lH zP;rfl
theorem er (x y:PV) (xs ys:List PV):zP (x :: xs) (y :: ys)=(eqQ x y && zP xs ys):=by unfold zP eqQ;simp [gQ,kj]
theorem qz:zP [] []=true:=by unfold zP;simp [gQ,kj]
theorem eq_self (x:PV):eqQ x x=true:=x_ _
theorem Bx (a b:Rat):eqQ (fr a) (fr b)=decide (a=b):=by
 rw [JV,JV,vT,er,er,qz,eq_int,eq_int,UC,← UH]
 exact decide_eq_decide.mpr (by rw [I8])
theorem Tf (a b c:PV):oH [a,b,c] (some 1) none=[b,c]:=rfl
theorem M7:mR "int" "int"=some true:=by simp [mR]
theorem JJ:mR "int" "bool"=some false:=by simp [mR]
theorem P2:mR "bool" "bool"=some true:=by simp [mR]
theorem M8:mR "str" "str"=some true:=by simp [mR]
theorem M9:mR "tuple" "tuple"=some true:=by simp [mR]
theorem JK:mR "list" "list"=some true:=by simp [mR]
theorem eK {n:Nat} (h:n≤1000):n≤sizeLine:=Vc (L2.a8 h)
theorem Kf:(0≤sizeLine)=True:=eq_true (T3 _)
theorem Od:(1≤sizeLine)=True:=eq_true (eK (by decide))
theorem Oe:(2≤sizeLine)=True:=eq_true (eK (by decide))
theorem Of:(3≤sizeLine)=True:=eq_true (eK (by decide))
theorem Og:(4≤sizeLine)=True:=eq_true (eK (by decide))
section
variable (J:Hq) (xs:List PV) (a:Addr) (i:Int) (b:Bool) (z:Str) (T:String)
theorem Q4:fA J (.tup xs) (.int i)=dt xs i:=rfl
theorem Q3:fA J (.fl xs) (.int i)=dt xs i:=rfl
theorem N9:fA J (.ref a) (.int i)=(match J a with | some (.lst xs)=>dt xs i | _=>none):=rfl
theorem Q_:my J (.fl xs)=some xs:=rfl
theorem Ra:my J (.ref a)=(match J a with | some (.lst xs)=>some xs | _=>none):=rfl
theorem Oc:wb J (.tup xs)=some xs.length:=rfl
theorem Ob:wb J (.fl xs)=some xs.length:=rfl
theorem Kd:wb J (.ref a)=(match J a with | some (.lst xs)=>some xs | _=>none).map UP:=rfl
theorem R0:A8 J .non=some "NoneType":=rfl
theorem PY:A8 J (.bl b)=some "bool":=rfl
theorem RZ:A8 J (.int i)=some "int":=rfl
theorem R1:A8 J (.str z)=some "str":=rfl
theorem R3:A8 J (.tup xs)=some "tuple":=rfl
theorem RY:A8 J (.fl xs)=some "list":=rfl
theorem P1:A8 J (.ref a)=(match J a with | some (.lst _)=>some "list" | some (.dct _ _)=>some "dict" | _=>none):=rfl
theorem PQ:xF J .non=some false:=rfl
theorem K0:xF J (.bl b)=some b:=rfl
theorem PN:xF J (.int i)=some (i != 0):=rfl
theorem PU:xF J (.tup xs)=some (!xs.isEmpty):=rfl
theorem PM:xF J (.fl xs)=some (!xs.isEmpty):=rfl
theorem PR:xF J (.ref a)=(match J a with | some (.lst xs)=>some (!xs.isEmpty) | some (.dct kvs _)=>some (!kvs.isEmpty) | _=>none):=rfl
theorem QZ:Qd J (.fl xs)=some ⟨xs,λ_=>True⟩:=rfl
theorem Q1:Qd J (.ref a)=(match J a with | some (.lst xs)=>some ⟨xs,λJ'=>J' a=some (.lst xs)⟩ | _=>none):=rfl
theorem N5:E6 .non=true:=rfl
theorem QQ:E6 (.bl b)=false:=rfl
theorem QU:E6 (.int i)=false:=rfl
theorem QX:E6 (.str z)=false:=rfl
theorem QY:E6 (.tup xs)=false:=rfl
theorem QR:E6 (.fl xs)=false:=rfl
theorem QV:E6 (.ref a)=false:=rfl
theorem RQ:NA T J (.fl xs)=(T="list"):=rfl
theorem RV:NA T J (.str z)=(T="str"):=rfl
theorem RU:NA T J (.ref a)=((T="list"∧∃xs,J a=some (.lst xs))∨(T="dict"∧∃kvs ep,J a=some (.dct kvs ep))):=rfl
end
def Fo (it:zy) (g:zH) (tb:jm) (D:En) (τ:Sr) (J1:Hq):Prop:=∃Pv:Nat→Sr→Hq→Prop,Pv 0 τ J1∧(∀i τ J,Pv i τ J→it.ok J) ∧
 (∀i x τ J,it.xs[i]?=some x→Pv i τ J→g x τ J λτ2 J2=>tb { D with nx:=Pv (i + 1),ct:=Pv (i + 1),bk:=D.nx } τ2 J2)∧∀τ J,Pv it.xs.length τ J→D.nx τ J
theorem IV (wi:tK) (g:zH) (tb:jm) (D:En) (τ:Sr) (J:Hq):Pa wi g tb D τ J=wi τ J λit J1=>Fo it g tb D τ J1:=rfl
theorem vU {lo:Int} {n:Nat} {g:zH} {tb:jm} {D:En} {τ:Sr} {J1:Hq} (Pv:Nat→Sr→Hq→Prop) (h0:Pv 0 τ J1)
  (hs:∀(i:Nat) τ J,i < n→Pv i τ J→g (.int (lo + (i:Int))) τ J λτ2 J2=>tb { D with nx:=Pv (i + 1),ct:=Pv (i + 1),bk:=D.nx } τ2 J2) (hd:∀τ J,Pv n τ J→D.nx τ J):Fo ⟨rQ lo n,λ_=>True⟩ g tb D τ J1 :=
 ⟨Pv,h0,λ_ _ _ _=>trivial,λi x τ J e p=>by obtain ⟨a,b⟩:=(rR lo n i x).mp e;subst b;exact hs i τ J a p,λτ J p=>hd τ J (by simpa [i5] using p)⟩
structure bV (mg:Str→Option Value):Prop extends D6 mg where
 str:mg "str"=none
 dict:mg "dict"=none
 max:mg "max"=none
 zip:mg "zip"=none
 enumerate:mg "enumerate"=none
def m3 (J' J:Hq):Prop:=∀a,J' a=J a∨J' a=none
def Fg (Q:PV→Hq→Prop) (v:PV) (J:Hq):Prop:=∃x J',m3 J' J∧(x=v∨∃a xs,v=.ref a∧x=.fl xs∧J a=some (.lst xs)∧J' a=none)∧Q x J'
theorem Fg.same {Q:PV→Hq→Prop} {v:PV} {J:Hq} (h:Q v J):Fg Q v J:=⟨v,J,λ_=>.inl rfl,.inl rfl,h⟩
theorem Fg.less {Q:PV→Hq→Prop} {v:PV} {J J':Hq} (l:m3 J' J) (h:Q v J'):Fg Q v J:=⟨v,J',l,.inl rfl,h⟩
theorem Fg.oN {Q:PV→Hq→Prop} {a:Addr} {xs:List PV} {J J':Hq} (l:m3 J' J) (ha:J a=some (.lst xs)) (hn:J' a=none) (h:Q (.fl xs) J'):Fg Q (.ref a) J:=⟨.fl xs,J',l,.inr ⟨a,xs,rfl,rfl,ha,hn⟩,h⟩
section
variable {P:Program} {w:World} {K:PySem.W.Frag} {mg:Str→Option Value} {base:Heap}
theorem Fg.kn {J:Hq} {H:Hp} {Q2:PV→Hq→Prop} {Q:VK} (k:Kn K J H Q2 Q):Kn K J H (Fg Q2) Q:=λz J1 u H1 rz r1 e1 ⟨x,J',l,hx,q⟩=>by
 have el:=Ext.less (K:=K) (H:=H1) l
 rcases hx with rfl | ⟨a,xs,rfl,rfl,ha,hn⟩
 ·exact k x J' u H1 (el.rep rz) (r1.less l) (e1.trans el) q
 ·cases rz
  obtain ⟨vs,h1,h2⟩:=r1 _ _ ha
  exact k (.fl xs) J' _ H1 ⟨a,vs,rfl,.inl ⟨hn,.inl h1⟩,el.jg h2⟩ (r1.less l) (e1.trans el) q
theorem S_ {x qual:Str} {st:Stmt} {f:Addr} {fd:FuncData} {N ps:List Str} {k:Nat} {sp:cM} (F:cm K x qual st f fd) (S:aw N ps (L2.aj st)) (len:∀xs J Q E,sp xs J Q E→xs.length=ps.length)
  (hbody:∀(cdv:Value) (A:Around) (outer:List Env) (s:Shared) (H:Hp) (E:XK) (G:G2) (xs:List PV) (J:Hq) (Q:PV→Hq→Prop) (E2:Addr→Hq→Prop),bW k (A.deeper (envOfC qual (L2.aj st) s.heap.objs.size f cdv))→sp xs J Q E2 →
   D7 (zl P w K mg base N qual (L2.aj st) f cdv A outer s H E) G E2 E →
   ∃t,RB (zl P w K mg base N qual (L2.aj st) f cdv A outer s H E) G (L2.cb st) t∧t { nx:=λ_ J'=>Fg Q .non J',rt:=Fg Q } (xC N xs) J):aP P w K mg base (c8 P w) (k + 1) f fd ps (dC K sp):=by
 have:=Rk (sp:=λxs J Q E=>∃Q0,Q=Fg Q0∧sp xs J Q0 E) F S (λxs J Q E ⟨Q0,_,h⟩=>len xs J Q0 E h) (λcdv A outer s H E G xs J Q E2 hr ⟨Q0,eq,h⟩ B=>by subst eq;exact hbody cdv A outer s H E G xs J Q0 E2 hr h B)
 exact this.imp λvs H Q E ⟨xs,J,Q2,E2,a,b,c,d,e⟩=>⟨xs,J,Fg Q2,E2,a,b,⟨Q2,rfl,c⟩,Fg.kn d,e⟩
end
section
variable {P:Program} {w:World} {K:PySem.W.Frag} {mg:Str→Option Value} {base:Heap}
theorem Rj {x qual:Str} {st:Stmt} {f:Addr} {fd:FuncData} {N ps:List Str} {k:Nat} {sp:cM} {t:(Addr→Hq→Prop)→jm} (F:cm K x qual st f fd) (S:aw N ps (L2.aj st)) (len:∀xs J Q E,sp xs J Q E→xs.length=ps.length)
  (rd:∀(cdv:Value) (A:Around) (outer:List Env) (s:Shared) (H:Hp) (E:XK) (G:G2) (E2:Addr→Hq→Prop),bW k (A.deeper (envOfC qual (L2.aj st) s.heap.objs.size f cdv)) →
   D7 (zl P w K mg base N qual (L2.aj st) f cdv A outer s H E) G E2 E→RB (zl P w K mg base N qual (L2.aj st) f cdv A outer s H E) G (L2.cb st) (t E2))
  (run:∀(xs:List PV) (J:Hq) (Q:PV→Hq→Prop) (E2:Addr→Hq→Prop),sp xs J Q E2→∀X:Prop,(t E2 { nx:=λ_ J'=>Fg Q .non J',rt:=Fg Q } (xC N xs) J→X)→X):aP P w K mg base (c8 P w) (k + 1) f fd ps (dC K sp) :=
 S_ F S len λcdv A outer s H E G xs J Q E2 hr h B=>⟨_,rd cdv A outer s H E G E2 hr B,run xs J Q E2 h _ id⟩
end
theorem HH {X:Cx} {G:G2}:D7 X G (λ_ _=>False) L2.E0:=⟨λ_ _ _ _ _ _ _ ⟨_,_,_,_,_,z⟩=>z.elim,λ_ _ _ _ _ z=>z.elim⟩
theorem pf {K:PySem.W.Frag} {J:Hq} {H:Hp}:∀ns:List Int,aS K J H (ns.map PV.int) (ns.map V.int)
 | []=>rfl
 | n :: ns=>⟨_,_,rfl,rfl,pf ns⟩
end Ov
namespace Ov
open PySem PySem.Spec PyProof.Rows L2
theorem NM {α:Type} (a b c d e:α) (xs:List α):dt (a :: b :: c :: d :: e :: xs) 4=some e:=bx (j:=4) rfl
theorem NN {α:Type} (a b c d e f:α) (xs:List α):dt (a :: b :: c :: d :: e :: f :: xs) 5=some f:=bx (j:=5) rfl
theorem NO {α:Type} (a b c d e f g:α) (xs:List α):dt (a :: b :: c :: d :: e :: f :: g :: xs) 6=some g:=bx (j:=6) rfl
theorem NP {α:Type} (a b c d e f g h:α) (xs:List α):dt (a :: b :: c :: d :: e :: f :: g :: h :: xs) 7=some h:=bx (j:=7) rfl
theorem NQ {α:Type} (a b c d e f g h i:α) (xs:List α):dt (a :: b :: c :: d :: e :: f :: g :: h :: i :: xs) 8=some i:=bx (j:=8) rfl
theorem NR {α:Type} (a b c d e f g h i j:α) (xs:List α):dt (a :: b :: c :: d :: e :: f :: g :: h :: i :: j :: xs) 9=some j:=bx (j:=9) rfl
theorem Lg {α:Type} (a b c d e f g h i j k:α) (xs:List α):dt (a :: b :: c :: d :: e :: f :: g :: h :: i :: j :: k :: xs) 10=some k:=bx (j:=10) rfl
theorem Lh {α:Type} (a b c d e f g h i j k l:α) (xs:List α):dt (a :: b :: c :: d :: e :: f :: g :: h :: i :: j :: k :: l :: xs) 11=some l:=bx (j:=11) rfl
theorem Oh:(5≤sizeLine)=True:=eq_true (eK (by decide))
theorem Oi:(6≤sizeLine)=True:=eq_true (eK (by decide))
theorem Oj:(7≤sizeLine)=True:=eq_true (eK (by decide))
theorem Ol:(8≤sizeLine)=True:=eq_true (eK (by decide))
theorem Om:(9≤sizeLine)=True:=eq_true (eK (by decide))
theorem LV:(10≤sizeLine)=True:=eq_true (eK (by decide))
theorem LW:(11≤sizeLine)=True:=eq_true (eK (by decide))
theorem LX:(12≤sizeLine)=True:=eq_true (eK (by decide))
theorem og {ss:List Int} (h:ss.all (λs=>decide (0 < s) && decide (s < 2 ^ 63))=true):∀s∈ss,0 < s∧Bd 9000 s:=λs hs=>by
 have:=U8.mp h s hs
 rw [T4,decide_eq_true_eq,decide_eq_true_eq] at this
 exact ⟨this.1,(Bd.small (by omega) (by omega)).mono (by decide)⟩
theorem Sz.div {n:Nat} {t b:Int} (ht:Bd n t) (hb:Bd n b) (h:b≠0):Sz n (Rat.divInt t b):=⟨ht.le (BQ t b),hb.le (vS h)⟩
end Ov
namespace Ov
open PySem PySem.Spec PyProof.Rows
open L2 (V HO Hp Inv Cx VK XK TE TT TA TS TG qh TI TO j6 Ends vM Loc Gl Rd RelV Vals fT xJ cx p9 tJ qg j5 R2 upd aK aW dk g7 Sp qW It bJ c_ bW Passes pM aL Meth Mk Binds aP cm aw dt gm fm)
section
variable {X:Cx} {G:G2}
abbrev CY:=PV→PV→PV→Hq→(Hq→Prop)→Prop
def Qw (X:Cx) (q:CY):Prop:=∃r,j5 X r∧∀J H o i y ov iv u R2 R,cH X.K J H o ov→cH X.K J H i iv→cH X.K J H y u→Rep X.K J H→q o i y J R2→(∀J' H',Rep X.K J' H'→Ext X.K J H J' H'→R2 J'→R H')→r ov iv u H R
def QM (to ti:dz) (t:CY):zH:=λy τ J R=>to τ J λo J1=>ti τ J1 λi J2=>t o i y J2 λJ3=>R τ J3
theorem MK {o i:Expr} {to ti:dz} {t:CY} {pos:Pos} (hs:Qw X t) (ho:RE X G o to) (hi:RE X G i ti)
  (ha:∀v,assign (.Subscript o i pos) X.env v=(do
   let ov ← holding [v] (eval o X.env)
   let iv ← holding [v,ov] (eval i X.env)
   standAt pos
   holding [v,ov,iv] (setItem ov iv v)
   release [v,ov,iv] []):=by intro _;rfl):RG X G (.Subscript o i pos) (QM to ti t):=by
 obtain ⟨r,hr,lf⟩:=hs
 exact ⟨Rq (L2.wD ho.run hi.run hr ha) λv σ H Q ⟨y,τ,J,Q2,ry,a2,h,k⟩ =>
  ⟨τ,J,_,a2,h,λx J1 ov H1 rx r1 e1 h1=>⟨τ,J1,_,a2.go r1 e1,h1,λz J2 iv H2 rz r2 e2 h2 =>
   lf J2 H2 x z y ov iv v _ _ (e2.rep rx) rz (e2.rep (e1.rep ry)) r2 h2 λJ3 H3 r3 e3 q=>k τ J3 σ H3 ((((a2.sl.ext e1).ext e2).ext e3)) r3 ((e1.trans e2).trans e3) q⟩⟩⟩
def O3:CY:=λo i y J R=>∃p xs k j,o=.ref p∧i=.int k∧J p=some (.lst xs)∧L2.D8 xs.length k=some j∧R (put J p (.lst (xs.set j y)))
theorem k6 {o i e:Expr} {to ti te:dz} {t:CY} {pos pos':Pos} (hs:Qw X t) (ho:RE X G o to) (hi:RE X G i ti) (he:RE X G e te)
  (ha:∀v,assign (.Subscript o i pos') X.env v=(do
   let ov ← holding [v] (eval o X.env)
   let iv ← holding [v,ov] (eval i X.env)
   standAt pos'
   holding [v,ov,iv] (setItem ov iv v)
   release [v,ov,iv] []):=by intro _;rfl)
  (hq:swapsWithSole [.Subscript o i pos'] e pos.line X.env=pure false:=by rfl) (hw:swappedStores [.Subscript o i pos'] e X.env=pure none:=by rfl)
  (h1:(assignEach [.Subscript o i pos'] X.env).map (·.2)=[assign (.Subscript o i pos') X.env]:=by rfl):RS X G (.Assign [.Subscript o i pos'] e pos) (uz te (QM to ti t)):=wX he (MK hs ho hi ha) hq hw h1
def Sf (X:Cx) (op:Operator) (q:m7):Prop:=∃r,L2.Qu X op r∧LR X.K r q
def O6 (i:Nat) (te:dz) (q:m7):jm:=λD τ J=>Nt τ[i]? λx=>te τ J λy J1=>q x y J1 λz J2=>D.nx (τ.set i (some z)) J2
theorem Gn {i:Nat} {x:Str} {e:Expr} {te:dz} {op:Operator} {q:m7} {pos pos':Pos} (hN:X.N.Nodup) (he:RE X G e te) (ho:Sf X op q) (hi:X.N[i]?=some x:=by rfl) (hx:Loc X.env.scope x:=by first | exact .inl rfl | exact .inr rfl) (hf:X.fn x=true∨X.env.scope.names.lookup x=some .local:=by first | exact .inl rfl | exact .inr rfl | assumption) :
  RS X G (.AugAssign (.Name x pos') op e pos) (O6 i te q):=by
 obtain ⟨r,hr,lf⟩:=ho
 exact ⟨zm (L2.Mx hN hi hx he.run hr hf) λD σ H ⟨τ,J,D2,a2,hh,g⟩=>by
  obtain ⟨x,hx,h⟩:=FI hh
  obtain ⟨v,h1,h2⟩:=a2.sl.get _ _ hx
  exact ⟨v,h1,τ,J,_,a2,h,λy J1 u H1 ry r1 e1 q1=>lf J1 H1 x y v u _ _ (e1.rep h2) ry r1 q1 λz J2 u2 H2 rz r2 e2 q2=>g.nx _ J2 _ H2 (((a2.sl.ext e1).ext e2).set i rz) r2 (e1.trans e2) q2⟩⟩
theorem E4:Sf X .Sub (F8 λi j=>.int (i - j)):=⟨_,L2.LF,λJ H x y v w Q2 Q rx ry r h k=>by
 obtain ⟨i,ex,h⟩:=iw h;obtain ⟨j,ey,q⟩:=iw h
 subst ex ey;cases rx;cases ry;exact ⟨i,j,rfl,rfl,k (.int _) J _ H rfl r .refl q⟩⟩
end
theorem eV {xs:List PV} {ok:Hq→Prop} {g:zH} {tb:jm} {D:En} {τ:Sr} {J1:Hq} (Pv:Nat→Sr→Hq→Prop) (h0:Pv 0 τ J1) (hk:∀i τ J,Pv i τ J→ok J)
  (hs:∀(i:Nat) x τ J,xs[i]?=some x→Pv i τ J→g x τ J λτ2 J2=>tb { D with nx:=Pv (i + 1),ct:=Pv (i + 1),bk:=D.nx } τ2 J2) (hd:∀τ J,Pv xs.length τ J→D.nx τ J):Fo ⟨xs,ok⟩ g tb D τ J1:=⟨Pv,h0,hk,hs,hd⟩
theorem qy {α:Type} (xs:List α) (x:α):dt (xs ++ [x]) (-1)=some x:=by
 unfold L2.dt L2.D8
 rw [if_neg (by decide),if_pos (by simp;omega)]
 have e:(-1 + ((xs ++ [x]).length:Int)).toNat=xs.length:=by simp only [TN,TU,UX];omega
 rw [e]
 simp
theorem kH {K:PySem.W.Frag} {h:Heap} {mg:Str→Option Value} {x:Str} {C:Addr} (X:K.In h) (G:h.Ns mainGlobals mg) (a:PySem.W.nsIn K mainGlobals x=some (some (.ref C))) (b:(PySem.W.excIn K C QC "ValueError.__new__" && G5 K C)=true):Own K mg x C :=
 ⟨PySem.W.mg_of X G a,(Vz.mp b).1,JP (Vz.mp b).2⟩
theorem nC {J:Hq} {x:PV} {ys:List PV} (h:my J x=some ys):x=.fl ys∨∃a,x=.ref a∧J a=some (.lst ys):=by
 cases x with
 | fl xs=>cases h;exact .inl rfl
 | ref a =>
  right
  refine ⟨a,rfl,?_⟩
  unfold my at h
  simp only at h
  split at h
  ·rename_i e;cases h;exact e
  ·cases h
 | _=>cases h
theorem Kh {J:Hq} {x:PV} {ys:List PV} (h:my J x=some ys):A8 J x=some "list":=by
 rcases nC h with rfl | ⟨a,rfl,ha⟩
 ·rfl
 ·rw [P1,ha]
theorem Aa {J:Hq} {x:PV} {ys:List PV} (h:my J x=some ys):wb J x=some ys.length:=by
 rcases nC h with rfl | ⟨a,rfl,ha⟩
 ·rfl
 ·rw [Kd,ha];rfl
theorem BP {J:Hq} {x:PV} {ys:List PV} (h:my J x=some ys) (i:Int):fA J x (.int i)=dt ys i:=by
 rcases nC h with rfl | ⟨a,rfl,ha⟩
 ·rfl
 ·rw [N9,ha]
def Lx (j:Nat):List PV:=.bl true :: (UG 10).map λk=>.bl (decide (j=k))
def RH (c:Nat→Addr) (N n:Nat) (t:(Addr→Hq→Prop)→jm):jm:=λD τ J =>
 t (λa J'=>∃j,j < 10∧a=c j∧D.nx ((Uw N none).set n (some (.fl (Lx j)))) J') D τ J
section
variable {X:Cx} {G:G2}
end
theorem MU {a b:jm} {D:En} {τ:Sr} {J:Hq} (h:∀N:Sr→Hq→Prop,(∀τ' J',b D τ' J'→N τ' J')→a { D with nx:=N } τ J):bX a b D τ J:=h _ λ_ _ z=>z
def Nz (J:Hq):PV→Option (List PV)
 | .tup xs=>some xs
 | .fl xs=>some xs
 | .ref a=>match J a with
  | some (.lst xs)=>some xs
  | _=>none
 | _=>none
theorem GI {K:PySem.W.Frag} {J:Hq} {H:Hp} {y:PV} {u:V} {xs:List PV} (h:Nz J y=some xs) (r:cH K J H y u) (rr:Rep K J H):∃p vs,u=.ref p∧(dk K H p vs∨g7 K H p vs)∧aS K J H xs vs:=by
 cases y with
 | tup ys=>cases h;obtain ⟨a,vs,rfl,h1,h2⟩:=r;exact ⟨a,vs,rfl,.inr h1,h2⟩
 | fl ys=>cases h;obtain ⟨a,vs,rfl,h1,h2⟩:=r;exact ⟨a,vs,rfl,.inl h1.sq,h2⟩
 | ref a =>
  cases r
  unfold Nz at h
  simp only at h
  split at h
  ·rename_i e;cases h
   obtain ⟨vs,h1,h2⟩:=rr _ _ e
   exact ⟨a,vs,rfl,.inl (dk.of h1),h2⟩
  ·cases h
 | _=>cases h
theorem jH {K:PySem.W.Frag} {J:Hq} {H:Hp}:∀{ns:List Str} {vs:List V},aS K J H (ns.map PV.str) vs→vs=ns.map V.str
 | [],_,h=>h
 | n :: ns,_,⟨v,us,e,h,k⟩=>by subst e;cases h;rw [jH k];rfl
theorem nY {K:PySem.W.Frag} {J:Hq} {H:Hp}:∀{ns:List Int} {vs:List V},aS K J H (ns.map PV.int) vs→vs=ns.map V.int
 | [],_,h=>h
 | n :: ns,_,⟨v,us,e,h,k⟩=>by subst e;cases h;rw [nY k];rfl
theorem Bk {α:Type} [BEq α] [LawfulBEq α] [DecidableEq α] (x y:α):(x == y)=decide (x=y):=by by_cases h:x=y <;> simp [h]
theorem HR (s:Str) (ss:List Str):L2.Np (.str s) (ss.map V.str)=decide (s∈ss):=by
 unfold L2.Np
 induction ss with
 | nil=>rfl
 | cons x ss ih =>
  rw [Tt,US,ih,show L2.G9 (.str x) (.str s)=(x == s) from rfl,Bk]
  by_cases h:x=s
  ·subst h;simp
  ·simp [h,show ¬ s=x from λe=>h e.symm]
theorem HP (s:Int) (ss:List Int):L2.Np (.int s) (ss.map V.int)=decide (s∈ss):=by
 unfold L2.Np
 induction ss with
 | nil=>rfl
 | cons x ss ih =>
  rw [Tt,US,ih,show L2.G9 (.int x) (.int s)=(x == s) from rfl,Bk]
  by_cases h:x=s
  ·subst h;simp
  ·simp [h,show ¬ s=x from λe=>h e.symm]
section
variable {X:Cx} {G:G2}
def OX (f:Bool→Bool):m7:=λx y J Q=>∃(s:Str) (ss:List Str),x=.str s∧Nz J y=some (ss.map .str)∧Q (.bl (f (decide (s∈ss)))) J
def Ru (f:Bool→Bool):m7:=λx y J Q=>∃(s:Int) (ss:List Int),x=.int s∧Nz J y=some (ss.map .int)∧Q (.bl (f (decide (s∈ss)))) J
theorem C5 (ss:List Str):(ss.map V.str).all L2.jX=true:=by simp [L2.jX]
theorem C4 (ss:List Int):(ss.map V.int).all L2.jX=true:=by simp [L2.jX]
theorem Iy:m6 X (compareOp .NotIn) (OX not):=⟨_,L2.wA,λJ H x y v w Q2 Q rx ry r ⟨s,ss,ex,hy,q⟩ k=>by
 subst ex;cases rx
 obtain ⟨p,vs,rfl,hq,h2⟩:=GI hy ry r
 cases jH h2
 exact ⟨p,_,rfl,hq,rfl,C5 ss,k (.bl _) J _ H (by rw [if_pos rfl,HR];rfl) r .refl q⟩⟩
theorem Mq:m6 X (compareOp .In) (Ru id):=⟨_,L2.DI,λJ H x y v w Q2 Q rx ry r ⟨s,ss,ex,hy,q⟩ k=>by
 subst ex;cases rx
 obtain ⟨p,vs,rfl,hq,h2⟩:=GI hy ry r
 cases nY h2
 exact ⟨p,_,rfl,hq,rfl,C4 ss,k (.bl _) J _ H (by rw [if_neg (by decide),HP];rfl) r .refl q⟩⟩
end
end Ov
namespace L2
open PySem PySem.Spec PyProof.Rows
section
variable {X:Cx} {tg:Expr}
end
end L2
namespace Ov
open PySem PySem.Spec PyProof.Rows
open L2 (V HO Hp Inv Cx VK XK TE TT TA TS TG qh TI TO j6 Ends vM Loc Gl Rd RelV Vals fT xJ cx p9 tJ qg j5 R2 upd aK aW dk g7 Sp qW It bJ c_ bW Passes pM aL Meth Mk Binds aP cm aw dt gm fm)
section
variable {X:Cx} {G:G2} {tg:Expr}
theorem oV {K:PySem.W.Frag} {J:Hq} {H:Hp} {y:PV} {u:V} {xs:List PV} (h:my J y=some xs) (r:cH K J H y u) (rr:Rep K J H):∃p vs,u=.ref p∧dk K H p vs∧aS K J H xs vs:=by
 rcases nC h with rfl | ⟨a,rfl,ha⟩
 ·obtain ⟨a,vs,rfl,h1,h2⟩:=r;exact ⟨a,vs,rfl,h1.sq,h2⟩
 ·cases r
  obtain ⟨vs,h1,h2⟩:=rr _ _ ha
  exact ⟨a,vs,rfl,dk.of h1,h2⟩
def F':CV:=λx xs J Q=>∃a ys,x=.ref a∧xs=[]∧J a=some (.lst ys)∧Q .non (put J a (.lst ys.reverse))
theorem aS.rev {K:PySem.W.Frag} {J:Hq} {H:Hp}:∀{xs:List PV} {vs:List V},aS K J H xs vs→aS K J H xs.reverse vs.reverse
 | [],_,h=>by cases h;rfl
 | x :: xs,_,⟨v,us,e,h,k⟩=>by
  subst e
  rw [UJ,UJ]
  exact (aS.rev k).append ⟨v,[],rfl,h,rfl⟩
theorem Af:Hx X "list" "list.reverse" F':=⟨_,L2.Ah,λJ H x xs v vs Q2 Q rx rs r ⟨a,ys,ex,exs,ja,q⟩ k=>by
 subst ex exs;cases rx;cases rs
 obtain ⟨ws,h1,h2⟩:=r _ _ ja
 exact ⟨a,ws,rfl,rfl,h1,k .non _ _ _ rfl (r.wrote (ys:=ys.reverse) ja h1 h2.rev) (.wrote ja h1) q⟩⟩
end
end Ov
namespace L2
open PySem PySem.Spec PyProof.Rows
section
variable {X:Cx} {pins:List (Addr × Obj)} {σ:St} {H:Hp} {s:Shared} {h':Heap}
theorem Inv.qS {t':Nat} {ch:List Addr} (I:Inv X pins σ H s) (k:∀b o,b ∉ ch→s.heap.get? b=some o→h'.get? b=some o) (hf:∀b∈ch,lU X pins H b):Inv X pins σ H { s with heap:=h',toks:=t' }:=by
 have nit:∀b u,H b=some u→b ∉ ch:=λb u e z=>by rw [(hf b z).1] at e;cases e
 refine I.step (g':=s.gens) (d':=s.drawn) (ch:=ch) (λb hb=>?_) (λb o _ _ hc e _=>k b o hc e) (λb o _ _ hc e _=>⟨o.slots,k b o hc e⟩) (λ_ _ _ _ n=>n)
  (λb o hc e=>⟨o,k b o hc e⟩) (λ_ _ e=>e) (λ_ _ _ e=>e) (λb ps e=>⟨#[],by rw [e];simp⟩) (λm hm=>?_) (λb u e=>?_) I.bare
 ·obtain ⟨f0,f1,f2,f3,f4,f5⟩:=hf b hb
  exact ⟨f3,f1,f4,f5⟩
 ·obtain ⟨o,es,ep,ho,r⟩:=hm
  exact ⟨o,es,ep,k _ o (λz=>(hf _ z).2.1 rfl) ho,r⟩
 ·refine (I.hok b u e).mQ (λc v hc q=>k c v ?_ q) (λ_ q=>q) λ_ _ q=>q
  rcases hc with z | z
  ·rw [z];exact nit b u e
  ·exact nit c _ z
end
def Sj (K:PySem.W.Frag) (a b:Addr):It :=
 ⟨λi H=>∃xs ys x y,dk K H a xs∧dk K H b ys∧xs[i]?=some x∧ys[i]?=some y,
  λi H z H'=>∃T x y,H T=none∧z=.ref T∧H'=upd H T (.tup [x,y])∧(∀xs,dk K H a xs→xs[i]?=some x)∧∀ys,dk K H b ys→ys[i]?=some y,
  λi H=>∃xs ys,dk K H a xs∧dk K H b ys∧(xs.length≤i∨ys.length≤i)⟩
theorem GX {P:Program} {w:World} {K:PySem.W.Frag} {elts:List Expr} {x1} {pos:Pos} {z TI TO i1 i2 l1 l2:Addr} (D:ZipApart z TI TO i1 i2 l1 l2) :
  Turn P w K (.Tuple elts x1 pos) (Sj K l1 l2) [z,TI,TO,i1,i2] z (λi h=>IsZip h z TI TO .none∧IsPair h TI (.ref i1) (.ref i2)∧(∃a b,IsPair h TO a b)∧h.IsListIter i1 l1 i∧h.IsListIter i2 l2 i) where
 mem:=by simp
 obj:=λi h ⟨hz,hTI,⟨a,b,hTO⟩,h1,h2⟩ c hc=>by
  simp only [TC,TZ,or_false] at hc
  rcases hc with rfl | rfl | rfl | rfl | rfl
  ·exact ⟨_,hz,λv z=>by cases z⟩
  ·exact ⟨_,hTI,λv z=>by cases z⟩
  ·exact ⟨_,hTO,λv z=>by cases z⟩
  ·obtain ⟨o,e,c,d⟩:=h1;exact ⟨o,e,λv z=>by rw [d] at z;cases z⟩
  ·obtain ⟨o,e,c,d⟩:=h2;exact ⟨o,e,λv z=>by rw [d] at z;cases z⟩
 keep:=λi h h' ⟨hz,hTI,⟨a,b,hTO⟩,h1,h2⟩ k=>⟨k z (by simp) _ hz,k TI (by simp) _ hTI,⟨a,b,k TO (by simp) _ hTO⟩,h1.at λo e=>k i1 (by simp) o e,h2.at λo e=>k i2 (by simp) o e⟩
 item:=by
  intro X hP hw hK hc i pins s σ H E I hf st hg
  subst hP hw hK
  obtain ⟨hz,hTI,⟨a,b,hTO⟩,h1,h2⟩:=st
  obtain ⟨xs,ys,x,y,hqx,hqy,hx,hy⟩:=hg
  obtain ⟨its,rv,p,hzx⟩:=I.list hqx
  obtain ⟨jts,ru,p',hzy⟩:=I.list hqy
  obtain ⟨u,hu,rx⟩:=rv.get hx
  obtain ⟨v,hv,ry⟩:=ru.get hy
  refine wpAny_pyNext_zip_item D hz hTI hTO h1 h2 p.isList p'.isList (x:=u) (y:=v) (by simpa using hu) (by simpa using hv) λh' a1 a2 a3 a4 a5 a6 hk=>?_
  refine ⟨_,rfl,wpAny_letOwnedTupleGo_zip a1 λh'' hz' hs'=>?_⟩
  have hT:H s.heap.objs.size=none:=I.hok.fresh (Tr _)
  have lt:∀{c o},s.heap.get? c=some o→c≠s.heap.objs.size:=λe=>TV (Heap.lt_size e)
  have nz:s.heap.objs.size≠z:=Ne.symm (lt hz)
  have I0:Inv X pins σ (upd H s.heap.objs.size (.tup [x,y])) { s with heap:=s.heap.push { cls:=.type "tuple",data:=.seq #[u,v] },toks:=s.toks }:=I.laid (t':=s.toks) (λb u e=>Heap.get?_push_of_some _ e) (Tr _) ⟨by simp [sizeLine],[u,v],.cons rx (.cons ry .nil),⟨_,Heap.get?_push_size _ rfl,rfl,_,rfl⟩⟩
  have fpn:∀b∈[z,TI,TO,i1,i2],b≠s.heap.objs.size:=λb hb=>by
   simp only [TC,TZ,or_false] at hb
   rcases hb with rfl | rfl | rfl | rfl | rfl
   ·exact lt hz
   ·exact lt hTI
   ·exact lt hTO
   ·obtain ⟨o,e,_⟩:=h1;exact lt e
   ·obtain ⟨o,e,_⟩:=h2;exact lt e
  have fpu:∀b∈[z,TI,TO,i1,i2],lU X pins (upd H s.heap.objs.size (.tup [x,y])) b:=λb hb=>⟨by rw [aW (fpn b hb)];exact (hf b hb).1,(hf b hb).2⟩
  have I1:Inv X pins σ (upd H s.heap.objs.size (.tup [x,y])) { s with heap:=h'' }:=Inv.qS (s:={ s with heap:=s.heap.push { cls:=.type "tuple",data:=.seq #[u,v] },toks:=s.toks }) (t':=s.toks) (ch:=[z,TI,TO,i1,i2]) I0 (λb o hb e=>by
   simp only [TC,TZ,or_false,not_or] at hb
   rcases Heap.get?_push_cases e with ⟨rfl,rfl⟩ | e'
   ·exact hs'.extBut _ _ hb.1 a5
   ·exact hs'.extBut _ _ hb.1 (hk b o hb.1 hb.2.2.1 hb.2.2.2.1 hb.2.2.2.2 e')) fpu
  refine ⟨.ref s.heap.objs.size,_,I1,rfl,⟨_,x,y,hT,rfl,rfl,λzs hq=>by rw [I.kr hq hqx];exact hx,λzs hq=>by rw [I.kr hq hqy];exact hy⟩,⟨hz',hs'.extBut _ _ D.TIz (hk _ _ D.TIz D.TITO D.TIi1 D.TIi2 hTI),⟨_,_,hs'.extBut _ _ D.TOz a2⟩,a3.extBut hs'.extBut D.i1z,a4.extBut hs'.extBut D.i2z⟩,λb hb=>(fpu b hb).1⟩
 done:=by
  intro X hP hw hK hc i pins s σ H E I hf st hg
  subst hP hw hK
  obtain ⟨hz,hTI,⟨a,b,hTO⟩,h1,h2⟩:=st
  obtain ⟨xs,ys,hqx,hqy,hl⟩:=hg
  obtain ⟨its,rv,p,hzx⟩:=I.list hqx
  obtain ⟨jts,ru,p',hzy⟩:=I.list hqy
  have e1:=rv.length
  have e2:=ru.length
  refine wpAny_pyNext_zip_end (I.ok.hd hc) D hz hTI hTO h1 h2 p.isList p'.isList ?_ λh' hk=>⟨rfl,I.qS (t':=s.toks) (ch:=[z,TI,TO,i1,i2]) (λb o hb e=>?_) hf⟩
  ·rcases hl with hl | hl
   ·exact .inl (by simp;omega)
   ·exact .inr (by simp;omega)
  ·simp only [TC,TZ,or_false,not_or] at hb
   exact hk b o hb.1 hb.2.2.1 hb.2.2.2.1 hb.2.2.2.2 e
 self:=λ_ _ _ _ _ st h=>wpAny_pyIter_zip st.1 h
def QN (K:PySem.W.Frag) (ta:TA):TI:=λσ H R=>ta σ H λvs H1=>∃a b xs ys,vs=[.ref a,.ref b]∧dk K H1 a xs∧dk K H1 b ys∧R (Sj K a b) H1
section
variable {X:Cx}
theorem Mw {l m:Expr} {elts:List Expr} {x1} {tp:Pos} {ta:TA} {p pos:Pos} (hg:Gl X "zip") (hm:X.mg "zip"=none) (ha:PA X [l,m] ta) (hs:starEach [l,m] X.env=(false,eval l X.env) :: starEach [m] X.env:=by rfl) (hp:(backTo pos (starEach [m] X.env)).any (·.1)=false:=by rfl):PI X (.Tuple elts x1 tp) (.Call (.Name "zip" p) [l,m] [] pos) (QN X.K ta):=by
 intro pins s σ H R I h
 refine Call_ (mr I hg hm PyProof.Rows.Boot.«zip» (PyProof.Rows.callWith_type1 (cE (ha pos pins s σ H _ I h) λus s1 ⟨vs,H1,I1,r1,q1⟩=>?_) hs hp))
 obtain ⟨a,b,xs,ys,e,hqa,hqb,q⟩:=q1
 subst e
 cases r1 with
 | cons r rr =>
  cases rr with
  | cons r' rr' =>
   cases rr'
   cases r
   cases r'
   obtain ⟨its,rv,pl,hz⟩:=I1.list hqa
   obtain ⟨jts,ru,pl',hz'⟩:=I1.list hqb
   refine call_zip_2 pl.isList pl'.isList λh' b1 b2 b3 b4 b5 b6 hk=>?_
   refine wpAny_pyIter_zip b1 ?_
   have la:a < s1.heap.objs.size:=by obtain ⟨o,e,_⟩:=pl.isList;exact Heap.lt_size e
   have lb:b < s1.heap.objs.size:=by obtain ⟨o,e,_⟩:=pl'.isList;exact Heap.lt_size e
   have D:ZipApart (s1.heap.objs.size + 4) (s1.heap.objs.size + 2) (s1.heap.objs.size + 3) s1.heap.objs.size (s1.heap.objs.size + 1) a b:=by
    have la':@LT.lt Nat _ a s1.heap.objs.size:=la
    have lb':@LT.lt Nat _ b s1.heap.objs.size:=lb
    constructor <;> (show @Ne Nat _ _;omega)
   refine ⟨_,_,_,_,H1,rfl,I1.kept (t':=s1.toks) hk,GX D,⟨b1,b2,⟨_,_,b3⟩,b4,b5⟩,λc hc=>?_,q⟩
   have hc':s1.heap.objs.size≤c:=by
    simp only [TC,TZ,or_false] at hc
    show @LE.le Nat _ _ _
    rcases hc with rfl | rfl | rfl | rfl | rfl
    ·exact UE _ _
    ·exact UE _ _
    ·exact UE _ _
    ·exact Tr _
    ·exact UE _ _
   exact I1.C7 hc' (I1.hok.fresh hc')
end
end L2
namespace Ov
open PySem PySem.Spec PyProof.Rows
open L2 (V HO Hp Inv Cx VK XK TE TT TA TS TG qh TI TO j6 Ends vM Loc Gl Rd RelV Vals fT xJ cx p9 tJ qg j5 R2 upd aK aW dk g7 Sp qW It bJ c_ bW Passes pM aL Meth Mk Binds aP cm aw dt gm fm)
section
variable {X:Cx} {G:G2}
def SE (ta:pO):tK:=λτ J R=>ta τ J λvs J1=>Mh vs λx y=>wz (my J1 x) λxs=>wz (my J1 y) λys=>R ⟨(xs.zip ys).map λp=>.tup [p.1,p.2],λJ'=>my J' x=some xs∧my J' y=some ys⟩ J1
theorem MN {l m:Expr} {elts:List Expr} {x1} {tp:Pos} {ta:pO} {p pos:Pos} (hg:Gl X "zip") (hm:X.mg "zip"=none) (ha:RA X G [l,m] ta) (hs:starEach [l,m] X.env=(false,eval l X.env) :: starEach [m] X.env:=by rfl) (hp:(backTo pos (starEach [m] X.env)).any (·.1)=false:=by rfl) :
  RI X G (.Tuple elts x1 tp) (.Call (.Name "zip" p) [l,m] [] pos) (SE ta):=⟨Nv (L2.Mw hg hm ha.run hs hp) λσ H R ⟨τ,J,R2,a2,h,k⟩=>⟨τ,J,_,a2,h,λvs J1 us H1 rs r1 e1 hh=>by
 obtain ⟨x,y,ev,hh⟩:=Ao hh;obtain ⟨xs,hx,hh⟩:=eW hh;obtain ⟨ys,hy,q⟩:=eW hh
 subst ev
 obtain ⟨v,us',rfl,rv,v',us'',rfl,rv',e'⟩:=rs
 cases e'
 obtain ⟨a,ws,rfl,h1,h2⟩:=oV hx rv r1
 obtain ⟨b,ws',rfl,h1',h2'⟩:=oV hy rv' r1
 refine ⟨a,b,ws,ws',rfl,h1,h1',k _ J1 _ H1 ?_ r1 e1 q⟩
 have at_:∀J' H',Ext X.K J1 H1 J' H'→Rep X.K J' H'→my J' x=some xs∧my J' y=some ys→∃vs us,dk X.K H' a vs∧aS X.K J' H' xs vs∧dk X.K H' b us∧aS X.K J' H' ys us:=λJ' H' e r o=>by
  obtain ⟨c,vs,eb,g1,g2⟩:=oV o.1 (e.rep rv) r
  cases eb
  obtain ⟨c',us,eb,g1',g2'⟩:=oV o.2 (e.rep rv') r
  cases eb
  exact ⟨vs,us,g1,g2,g1',g2'⟩
 exact {
  go:=λJ' H' e r o i hi=>by
   obtain ⟨vs,us,s,rs,s',rs'⟩:=at_ J' H' e r o
   rw [Th,UY] at hi
   have i1:i < vs.length:=by rw [← rs.length];omega
   have i2:i < us.length:=by rw [← rs'.length];omega
   exact ⟨vs,us,vs[i],us[i],s,s',Tn i1,Tn i2⟩
  yl:=λJ' H' e r o i hi v H2 y=>by
   obtain ⟨vs,us,s,rs,s',rs'⟩:=at_ J' H' e r o
   obtain ⟨T,z,z',hT,rfl,rfl,y1,y2⟩:=y
   obtain ⟨c,ec,rc⟩:=rs.get' (y1 vs s)
   obtain ⟨c',ec',rc'⟩:=rs'.get' (y2 us s')
   have sm:=bJ.new hT (.tup [z,z'])
   have e2:=Ext.same (K:=X.K) (J:=J') sm
   refine ⟨.tup [c,c'],?_,⟨T,[z,z'],rfl,.inl (.inl aK),e2.jg ⟨z,_,rfl,rc,z',_,rfl,rc',rfl⟩⟩,r.same sm,e2⟩
   rw [Tq,(Ua (z:=(c,c'))).mpr ⟨ec,ec'⟩];rfl
  stop:=λJ' H' e r o=>by
   obtain ⟨vs,us,s,rs,s',rs'⟩:=at_ J' H' e r o
   refine ⟨vs,us,s,s',?_⟩
   rw [Th,UY,← rs.length,← rs'.length]
   omega }⟩⟩
end
end Ov
namespace L2
open PySem PySem.Spec PyProof.Rows
section
variable {α β:Type}
def j3 (kvs:List (Str × α)) (k:Str):Option α:=(kvs.find? λkv=>decide (kv.1=k)).map (·.2)
def oy (kvs:List (Str × α)) (k:Str) (v:α):List (Str × α):=if kvs.any (λkv=>decide (kv.1=k)) then kvs.map (λkv=>if kv.1=k then (kv.1,v) else kv) else kvs ++ [(k,v)]
def C2 (kvs:List (Str × α)) (k:Str):List (Str × α):=kvs.filter λkv=>decide (kv.1≠k)
theorem lz (p:Str × α) (r:List (Str × α)) (k:Str):j3 (p :: r) k=if p.1=k then some p.2 else j3 r k:=by
 unfold j3
 rw [List.find?_cons]
 by_cases h:p.1=k <;> simp [h]
theorem BY (kvs:List (Str × α)) (k:Str) (v:α):(oy kvs k v).length≤kvs.length + 1:=by
 unfold oy;split <;> simp
theorem HF (kvs:List (Str × α)) (k:Str):(C2 kvs k).length≤kvs.length:=Uu _ _
abbrev pN (R:α→β→Prop):List (Str × α)→List (Str × β)→Prop:=Paired λp q=>p.1=q.1∧R p.2 q.2
variable {R:α→β→Prop}
theorem pN.va {kvs:List (Str × α)} {vs:List (Str × β)} (h:pN R kvs vs) (k:Str):(∀x,j3 kvs k=some x→∃y,j3 vs k=some y∧R x y)∧(j3 kvs k).isSome=(j3 vs k).isSome:=by
 induction h with
 | nil=>exact ⟨λx e=>by simp [j3] at e,rfl⟩
 | @cons p q kvs vs r _ ih =>
  rw [lz,lz,← r.1]
  by_cases e:p.1=k
  ·rw [if_pos e,if_pos e];exact ⟨λx z=>by cases z;exact ⟨_,rfl,r.2⟩,rfl⟩
  ·rw [if_neg e,if_neg e];exact ih
theorem pN.any {kvs:List (Str × α)} {vs:List (Str × β)} (h:pN R kvs vs) (k:Str):(kvs.any λkv=>decide (kv.1=k))=vs.any λkv=>decide (kv.1=k):=by
 induction h with
 | nil=>rfl
 | cons r _ ih=>rw [US,US,ih,r.1]
theorem pN.snoc {kvs:List (Str × α)} {vs:List (Str × β)} (h:pN R kvs vs) {k:Str} {x:α} {y:β} (r:R x y):pN R (kvs ++ [(k,x)]) (vs ++ [(k,y)]):=by
 induction h with
 | nil=>exact .cons ⟨rfl,r⟩ .nil
 | cons q _ ih=>exact .cons q ih
theorem pN.pu {kvs:List (Str × α)} {vs:List (Str × β)} (h:pN R kvs vs) {k:Str} {x:α} {y:β} (r:R x y):pN R (oy kvs k x) (oy vs k y):=by
 unfold oy
 rw [h.any k]
 split
 ·rename_i hany;clear hany
  induction h with
  | nil=>exact .nil
  | @cons p q kvs vs z _ ih =>
   rw [Tt,Tt]
   refine .cons ?_ ih
   by_cases e:p.1=k
   ·rw [if_pos e,if_pos (z.1 ▸ e)];exact ⟨z.1,r⟩
   ·rw [if_neg e,if_neg (z.1 ▸ e)];exact z
 ·exact h.snoc r
theorem pN.dr {kvs:List (Str × α)} {vs:List (Str × β)} (h:pN R kvs vs) (k:Str):pN R (C2 kvs k) (C2 vs k):=by
 unfold C2
 induction h with
 | nil=>exact .nil
 | @cons p q kvs vs z _ ih =>
  rw [T5,T5,z.1]
  split
  ·exact .cons z ih
  ·exact ih
theorem pN.len {kvs:List (Str × α)} {vs:List (Str × β)} (h:pN R kvs vs):kvs.length=vs.length:=Paired.length h
theorem pN.keys {kvs:List (Str × α)} {vs:List (Str × β)} (h:pN R kvs vs):kvs.map (·.1)=vs.map (·.1):=by
 induction h with
 | nil=>rfl
 | cons r _ ih=>rw [Tt,Tt,ih,r.1]
end
theorem vw (vs:List (Str × Value)) (k:Str):valueAt vs k=j3 vs k:=rfl
theorem str_is {P:Program} {w:World} {k:Str} {u:Value} (r:RelV (.str k) u):(PySem.strKind P w).is k u=true:=by
 obtain ⟨t,rfl⟩:=r
 simp [PySem.strKind,Value.isStrOf]
theorem E8 {P:Program} {w:World} {k:Str} {u:Value} (h:(PySem.strKind P w).is k u=true):RelV (.str k) u:=Value.isStrOf_shape h
section
variable {X:Cx} {pins:List (Addr × Obj)} {σ:St} {H:Hp} {s:Shared} {a:Addr} {A:Around} {E:Value→Shared→Prop} {kvs:List (Str × V)} {ep:Nat}
theorem l3 (I:Inv X pins σ H s) (e:H a=some (.dE kvs ep)):kvs.length≤sizeLine∧(a == sysModules)=false∧∃vs,pN RelV kvs vs∧s.heap.DictAt (PySem.strKind X.prog X.w) a vs ep:=I.hok a _ e
theorem rD {h':Heap} {t':Nat} {kvs':List (Str × V)} {vs':List (Str × Value)} (I:Inv X pins σ H s) (e:H a=some (.dE kvs ep)) (hs:Heap.SameBut a s.heap h') (hz:kvs'.length≤sizeLine) (hd:(a == sysModules)=false) (rel:pN RelV kvs' vs') (dd:h'.DictOf (PySem.strKind X.prog X.w) a vs') :
  ∃ep',Inv X pins σ (upd H a (.dE kvs' ep')) { s with heap:=h',toks:=t' }:=by
 obtain ⟨ep',da⟩:=dd.dictAt
 refine ⟨ep',I.write (x:=a) (e:=a) (by rw [e];exact True.intro) (.inl rfl) (λb q hb z=>(hs.2 b hb).trans z) (let ⟨q,_,_,hq,_⟩:=dd;⟨q,hq⟩) ⟨hz,hd,vs',rel,da⟩⟩
theorem Inv.NU (I:Inv X pins σ H s):sysModules < s.heap.objs.size:=by
 have h:mainGlobals < s.heap.objs.size:=(I.mod.glob.keeps I.bk).lt
 exact Nat.lt_trans (by decide) h
end
theorem Dd {P:Program} {w:World} {kvs:List (Str × V)} {vs:List (Str × Value)} (rel:pN RelV kvs vs):∀{us:List Value},us.length=kvs.length→(∀(j:Nat) (v:Value),us[j]?=some v→∃k x,vs[j]?=some (k,x)∧(PySem.strKind P w).is k v=true)→Vals (kvs.map λkv=>V.str kv.1) us:=by
 induction rel with
 | nil =>
  intro us hlen _
  cases us with
  | nil=>exact .nil
  | cons _ _=>cases hlen
 | @cons p q kvs vs z _ ih =>
  intro us hlen hget
  cases us with
  | nil=>cases hlen
  | cons u us =>
   rw [Tt]
   refine .cons ?_ (ih (by simpa using hlen) λj v e=>?_)
   ·obtain ⟨k,x,e1,e2⟩:=hget 0 u rfl
    rw [UT] at e1
    cases e1
    rw [z.1];exact E8 e2
   ·obtain ⟨k,x,e1,e2⟩:=hget (j + 1) v (by rw [T'];exact e)
    rw [T'] at e1
    exact ⟨k,x,e1,e2⟩
def Rz:R2:=λx y H Q=>∃a kvs ep k v,x=.ref a∧y=.str k∧H a=some (.dE kvs ep)∧j3 kvs k=some v∧Q v H
def MG (f:Bool→Bool):R2:=λx y H Q=>∃a kvs ep k,x=.str k∧y=.ref a∧H a=some (.dE kvs ep)∧Q (.bl (f (j3 kvs k).isSome)) H
def MI:List V→Hp→VK→Prop:=λxs H Q=>∃a kvs ep,xs=[.ref a]∧H a=some (.dE kvs ep)∧∀p,H p=none→Q (.ref p) (upd H p (.lst (kvs.map λkv=>.str kv.1)))
def Pk:V→List V→Hp→VK→Prop:=λx xs H Q=>∃a kvs ep k v,x=.ref a∧xs=[.str k]∧H a=some (.dE kvs ep)∧j3 kvs k=some v∧∀ep',Q v (upd H a (.dE (C2 kvs k) ep'))
def Pm:j6:=λo i v H Q=>∃a kvs ep k,o=.ref a∧i=.str k∧H a=some (.dE kvs ep)∧kvs.length < sizeLine∧∀ep',Q (upd H a (.dE (oy kvs k v) ep'))
def PH:TE:=λ_ H Q=>∀p,H p=none→∀ep,Q (.ref p) (upd H p (.dE [] ep))
section
variable {X:Cx}
theorem N6:p9 X Rz:=by
 intro value slice pins s σ H x y v u Q I rx ry q hs
 obtain ⟨a,kvs,ep,k,z,rfl,rfl,hp,hz,q⟩:=q
 cases rx
 obtain ⟨_,hd,vs,rel,da⟩:=l3 I hp
 have hT:s.TypeIs (.ref a) "dict":=da.dictOf.typeIs
 obtain ⟨w',hw,rw'⟩:=(rel.va k).1 z hz
 unfold subscriptTail
 refine wpAny_bind ?_
 rw [getitemInPython_of_ne hT.not_modules]
 refine wpAny_bind (wpAny_specialOf hT PySem.F.slot_dict_getitem.lookup ?_)
 have fin:wpAny (model X.prog X.w) X.A (subscripted slice false (.ref a) u) (λr s₃=>wpAny (model X.prog X.w) X.A (letTemporaryGo value (.ref a) r >>= λ_=>pure r) (EP X pins σ Q) X.xe s₃) X.xe s:=by
  rw [hs]
  exact wpAny_operating (wpAny_getItem_of (str_is ry) da.dictOf.mapOf hw (wpAny_bind (wpAny_letTemporaryGo (wpAny_pure ⟨z,H,I.tok _,rw',q⟩))))
 first
  | exact wpAny_pure (wpAny_bind fin)
  | exact wpAny_bind (wpAny_pure (wpAny_bind fin))
  | exact wpAny_bind fin
theorem Mm:fT X (compareOp .In) (MG id):=by
 intro pins s σ H x y v u Q I rx ry ⟨a,kvs,ep,k,ex,ey,hp,q⟩
 subst ex ey
 cases ry
 obtain ⟨_,hd,vs,rel,da⟩:=l3 I hp
 refine wpAny_in_of (str_is rx) hd da.dictOf.mapOf ?_
 exact ⟨.bl _,H,I.tok _,by rw [vw,← (rel.va k).2];rfl,q⟩
theorem DK:fT X (compareOp .NotIn) (MG not):=by
 intro pins s σ H x y v u Q I rx ry ⟨a,kvs,ep,k,ex,ey,hp,q⟩
 subst ex ey
 cases ry
 obtain ⟨_,hd,vs,rel,da⟩:=l3 I hp
 refine wpAny_notIn_of (str_is rx) hd da.dictOf.mapOf ?_
 exact ⟨.bl _,H,I.tok _,by rw [vw,← (rel.va k).2];rfl,q⟩
theorem xX (hc:X.calm=true):cx X (.type "list") MI:=by
 intro pins s σ H xs us Q I r ⟨a,kvs,ep,ex,hp,q⟩
 subst ex
 obtain ⟨u,rfl,ru⟩:=vals1 r
 cases ru
 obtain ⟨hz,hd,vs,rel,da⟩:=l3 I hp
 have hl:=rel.len
 refine PySem.W.kdl_call (PySem.W.kdl_dict (knd:=PySem.strKind X.prog X.w) (kvs:=vs) (ep:=ep) hd) (I.ok.hd hc) da (by rw [← hl];exact hz) λh' tk acc c hk hS hacc=>?_
 have hkeys:Vals (kvs.map λkv=>V.str kv.1) acc.toList:=by
  have hlen:acc.toList.length=kvs.length:=by rw [Array.length_toList,hacc.1,hl]
  have hget:∀j v,acc.toList[j]?=some v→∃k x,vs[j]?=some (k,x)∧(PySem.strKind X.prog X.w).is k v=true:=λj v e=>hacc.2 j v (by rw [← Array.getElem?_toList];exact e)
  exact Dd rel hlen hget
 have I2:Inv X pins σ (upd H s.heap.objs.size (.lst (kvs.map λkv=>V.str kv.1))) { s with heap:=h',toks:=tk } :=
  I.laid (t':=tk) hk (Tr _) (show dF X.prog X.w _ _ _ (.lst _) from ⟨by rw [Th];exact hz,acc.toList,c,hkeys,by rw [Array.toArray_toList];exact hS⟩)
 exact ⟨.ref s.heap.objs.size,_,I2,rfl,q _ (I.hok.fresh (Tr _))⟩
theorem Ie:qg X "dict.pop" Pk:=by
 intro pins s σ H x xs v us Q I rx r ⟨a,kvs,ep,k,z,ex,exs,hp,hv,q⟩
 subst ex exs
 cases rx
 obtain ⟨u,rfl,ru⟩:=vals1 r
 obtain ⟨hz,hd,vs,rel,da⟩:=l3 I hp
 obtain ⟨w',hw,rw'⟩:=(rel.va k).1 z hv
 have hpart:(keyPart u).isSome=true:=by obtain ⟨t,q⟩:=(show ∃t,u=Value.str k t from ru);subst q;rfl
 refine call_meetsIn PySem.F.slot_dict_pop da.dictOf.typeIs PySem.F.entry_dict_pop (PySem.F.args_dict_pop_2 _ _) (meets_dict_pop_there (PySem.strKind X.prog X.w) a (str_is ru) [] (.inl rfl) hpart)
  ⟨vs,w',da.dictOf,by rw [← rel.len];exact hz,hw,λh' dd' hs=>?_⟩
 obtain ⟨ep',I2⟩:=rD (t':=s.toks + 1) I hp hs (TK (HF kvs k) hz) hd (rel.dr k) dd'
 exact ⟨z,_,I2,rw',q ep'⟩
theorem MW:j5 X Pm:=by
 intro pins s σ H o i v ov iv u Q I ro ri rv ⟨a,kvs,ep,k,eo,ei,hp,hl,q⟩
 subst eo ei
 cases ro
 obtain ⟨hz,hd,vs,rel,da⟩:=l3 I hp
 refine wpAny_setItem_pairs (hsz:=by rw [← rel.len];exact hz) (str_is ri) da.dictOf λh' dd' hs=>?_
 obtain ⟨ep',I2⟩:=rD (t':=s.toks + 1) I hp hs (show (oy kvs k v).length≤sizeLine from TK (BY kvs k v) hl) hd (rel.pu rv) dd'
 exact ⟨_,I2,q ep'⟩
theorem IF {pos:Pos}:PE X (.Dict [] [] pos) PH:=λpins s σ H Q I h=>by
 have hd:(s.heap.push { cls:=.type "dict",data:=.dict #[] }).DictOf (PySem.strKind X.prog X.w) s.heap.objs.size []:=Heap.DictOf.new s.heap
 obtain ⟨ep,da⟩:=hd.dictAt
 exact wpAny_Dict_empty ⟨.ref s.heap.objs.size,_,I.laid (a:=s.heap.objs.size) (o:=.dE [] ep) (t':=s.toks) (λ_ _ q=>Heap.get?_push_of_some _ q) (Tr _)
  ⟨T3 _,beq_eq_false_iff_ne.mpr (Ne.symm (TV I.NU)),[],.nil,da⟩,rfl,h _ (I.hok.fresh (Tr _)) ep⟩
end
def Sg (a:Addr) (ks:List Str) (ep:Nat):It :=
 ⟨λi H=>(∃kvs,H a=some (.dE kvs ep)∧kvs.map (·.1)=ks)∧i < ks.length,
  λi H z H'=>H'=H∧∃k,ks[i]?=some k∧z=.str k,
  λi H=>(∃kvs,H a=some (.dE kvs ep)∧kvs.map (·.1)=ks)∧ks.length≤i⟩
theorem DZ {P:Program} {w:World} {K:PySem.W.Frag} {tg:Expr} (a it:Addr) (ks:List Str) (ep:Nat):Turn P w K tg (Sg a ks ep) [it] it (λi h=>h.IsKeyIter it a i ks.length ep) where
 mem:=by simp
 obj:=λi h st b hb=>by
  have e:b=it:=by simpa using hb
  subst e
  obtain ⟨o,e,c,d⟩:=st
  exact ⟨o,e,λv z=>by rw [d] at z;cases z⟩
 keep:=λi h h' st k=>st.at λo e=>k it (by simp) o e
 item:=by
  intro X hP hw hK hc i pins s σ H E I hf st hg
  subst hP hw hK
  obtain ⟨⟨kvs,hp,hks⟩,hi⟩:=hg
  obtain ⟨hz,hd,vs,rel,da⟩:=l3 I hp
  have hl:ks.length=vs.length:=by rw [← hks,Th];exact rel.len
  obtain ⟨f0,f1,f2,f3,f4,f5⟩:=hf it (by simp)
  obtain ⟨⟨k,x⟩,hx⟩:∃p,vs[i]?=some p:=⟨vs[i]'(by omega),Tn (by omega)⟩
  have hk:ks[i]?=some k:=by rw [← hks,rel.keys,Tq,hx];rfl
  refine wpAny_pyNext_dict_item (by rw [← hl];exact st) da hx λkey h' hkey st' sb=>?_
  rw [← hl] at st'
  have I1:Inv X pins σ H { s with heap:=h' }:=I.turned (t':=s.toks) (λb o hb e=>(sb.2 b hb).trans e) f0 f1 f3 f4 f5
  obtain ⟨o,e,c,d⟩:=id st'
  exact ⟨key,rfl,BE (s:={ s with heap:=h' }) e c d (by decide) ⟨.str k,H,I1,E8 hkey,⟨rfl,k,hk,rfl⟩,st',λb hb=>(hf b hb).1⟩⟩
 done:=by
  intro X hP hw hK hc i pins s σ H E I hf st hg
  subst hP hw hK
  obtain ⟨⟨kvs,hp,hks⟩,hi⟩:=hg
  obtain ⟨hz,hd,vs,rel,da⟩:=l3 I hp
  have hl:ks.length=vs.length:=by rw [← hks,Th];exact rel.len
  obtain ⟨f0,f1,f2,f3,f4,f5⟩:=hf it (by simp)
  refine wpAny_pyNext_dict_end (I.ok.hd hc) (by rw [← hl];exact st) da (by rw [Vg];omega) λh' hk=>⟨rfl,I.turned (t':=s.toks) (λb o hb e=>hk b o hb e) f0 f1 f3 f4 f5⟩
 self:=λ_ _ _ _ _ st h=>wpAny_pyIter_keyiter st h
def N3 (td:TE):TI:=λσ H R=>td σ H λx H1=>∃a kvs ep,x=.ref a∧H1 a=some (.dE kvs ep)∧R (Sg a (kvs.map (·.1)) ep) H1
theorem IG {X:Cx} {tg l:Expr} {tl:TE} (hl:PE X l tl):PI X tg l (N3 tl):=by
 intro pins s σ H R I h
 refine cE (hl pins s σ H _ I h) λv s1 ⟨x,H1,I1,r1,q1⟩=>?_
 obtain ⟨a,kvs,ep,e,hp,q⟩:=q1
 subst e
 cases r1
 obtain ⟨hz,hd,vs,rel,da⟩:=l3 I1 hp
 refine wpAny_pyIter_dict hd da ?_
 refine ⟨s1.heap.objs.size,[s1.heap.objs.size],_,_,H1,rfl,I1.kept (t':=s1.toks) λb o e=>Heap.get?_push_of_some _ e,DZ a _ (kvs.map (·.1)) ep,⟨_,Heap.get?_push_size _ rfl,rfl,by rw [Th,rel.len];rfl⟩,λb hb=>?_,q⟩
 have e:b=s1.heap.objs.size:=by simpa using hb
 subst e
 exact I1.C7 (Tr _) (I1.hok.fresh (Tr _))
end L2
namespace Ov
open PySem PySem.Spec PyProof.Rows L2
section
variable {prog:Program} {w:World} {A:Around} {R:Result→Shared→Prop} {s:Shared}
theorem z_ {kx vx iter:Expr} {ifs:List Expr} {x:Str} {px:Pos} {sc:Scope} {pos:Pos} {it:Value} {D:Addr} {env:Env} (I:Nat→Shared→Prop)
  (turn:∀n s,I n s→wpAny (model prog w) A (pyNext it) (λr s₁=>match r with
   | none=>R (.ok .next) s₁
   | some v=>wpAny (model prog w) A (letOwnedTupleGo (.Name x px) it v) (λ_ s₂=>wpAny (model prog w) A (assign (.Name x px) env v) (λ_ s₃=>wpAny (model prog w) A (forIn ifs true λc r=>if r=true then do let ok ← isTrue c env (eval c env);pure (ForInStep.yield ok) else pure (ForInStep.yield r)) (λok s₃=>if ok=true then wpAny (model prog w) A (eval kx env) (λkv s₄ =>
     wpAny (model prog w) A (eval vx env) (λvv s₅=>wpAny (model prog w) A (dictSet D kv vv) (λ_ s₅=>∃m,m < n∧I m s₅) (λ_ _=>False) s₅) (λ_ _=>False) s₄) (λ_ _=>False) s₃ else ∃m,m < n∧I m s₃) (λ_ _=>False) s₃) (λ_ _=>False) s₂) (λ_ _=>False) s₁) (λ_ _=>False) s)
  (n:Nat) (h:I n s):codeAny (model prog w) A (.compLoop (.DictComp kx vx [⟨.Name x px,iter,ifs,0⟩] sc pos) 0 it (.ref D) env) R s:=by
 refine codeAny_loop rfl I (λn s hI=>?_) n h
 show wpAny _ _ ((compTurn (.DictComp kx vx [⟨.Name x px,iter,ifs,0⟩] sc pos) 0 it (.ref D) env).onRaise (λx=>do noteFrame x env;theTreesLotGoes x)) _ _ s
 refine wpAny_noted ?_
 rw [compTurn_dict]
 have no:∀(e:Value) (s':Shared),False→notedBy (model prog w) A env (λe s'=>R (.error e) s') e s':=λ_ _ z=>z.elim
 refine wpAny_bind (wpAny_standAt (wpAny_bind (wpAny_mono (turn n s hI) (λr s₁ h₁=>?_) no)))
 cases r with
 | none=>exact wpAny_pure h₁
 | some v =>
  refine wpAny_bind (wpAny_mono h₁ (λ_ s₂ h₂=>?_) no)
  refine wpAny_bind (wpAny_mono h₂ (λ_ s₃ h₃=>wpAny_bind (wpAny_mono h₃ (λok s₃' h₃'=>?_) no)) no)
  cases ok with
  | false=>exact wpAny_pure ⟨rfl,h₃'⟩
  | true =>
   exact wpAny_bind (wpAny_bind (wpAny_mono h₃' (λkv s₄ h₄=>wpAny_bind (wpAny_holding (wpAny_mono h₄ (λvv s₅ h₅=>wpAny_bind (wpAny_standAt (wpAny_holding (wpAny_mono h₅ (λ_ s₆ h₆=>wpAny_pure ⟨rfl,h₆⟩) no)))) no))) no))
end
def RN (wi:TI) (ks:List (Str × Nat)) (tc:TT) (tk te:TE):TE:=λσ H Q=>wi σ H λJ H1=>∀D,H1 D=none→∀ep,∃W:Nat→Nat→Hp→Prop,(∃m,W 0 m (upd H1 D (.dE [] ep))) ∧
 ∀i m H2,W i m H2→(J.stop i H2∧Q (.ref D) H2)∨(J.go i H2∧∀v H3,J.yld i H2 v H3→tc (some v :: eI ks σ) H3 λb H4=>if b=true then tk (some v :: eI ks σ) H4 λy H5=>te (some v :: eI ks σ) H5 λz H6=>∃kvs ep k,y=.str k∧H6 D=some (.dE kvs ep)∧kvs.length < sizeLine∧∃m',m' < m∧∀ep',W (i + 1) m' (upd H6 D (.dE (L2.oy kvs k z) ep')) else ∃m',m' < m∧W (i + 1) m' H4)
section
variable {X:Cx}
theorem vi {kx vx iter:Expr} {ifs:List Expr} {x:Str} {px:Pos} {sc:Scope} {pos:Pos} {tk te:TE} {tc:TT} {ks:List (Str × Nat)} {cl:List (Str × Addr)} {pins:List (Addr × Obj)} {σ:L2.St} {H:Hp} {s:Shared} {it:Addr} {fp:List Addr} {tn:Nat→Heap→Prop} {J:It} {Q:VK}
  {RR:Value→Addr→Result→Shared→Prop} {E:Value→Shared→Prop}
  (hc:X.calm=true) (ok:cJ sc X.env.scope X.N x ks) (h1:∀y c,cl.lookup y=some c→X.env.cells.lookup y=some c) (h2:∀y∈sc.names,y.2=.free→∃c,cl.lookup y.1=some c)
  (hk:∀cl C s₀ H₀ fp pins,PE (f7 X sc cl C x ks s₀ H₀ fp pins) kx tk) (he:∀cl C s₀ H₀ fp pins,PE (f7 X sc cl C x ks s₀ H₀ fp pins) vx te) (hcn:∀cl C s₀ H₀ fp pins,G7 (f7 X sc cl C x ks s₀ H₀ fp pins) ifs tc)
  (I:Inv X pins σ H s) (T:Turn X.prog X.w X.K (.Name x px) J fp it tn) (st:tn 0 s.heap) (f:∀b∈fp,lU X pins H b)
  (hw:∀D,H D=none→∀ep,∃W:Nat→Nat→Hp→Prop,(∃m,W 0 m (upd H D (.dE [] ep)))∧∀i m H2,W i m H2→(J.stop i H2∧Q (.ref D) H2) ∨
   (J.go i H2∧∀v H3,J.yld i H2 v H3→tc (some v :: eI ks σ) H3 λb H4=>if b=true then tk (some v :: eI ks σ) H4 λy H5=>te (some v :: eI ks σ) H5 λz H6=>∃kvs ep k,y=.str k∧H6 D=some (.dE kvs ep)∧kvs.length < sizeLine∧∃m',m' < m∧∀ep',W (i + 1) m' (upd H6 D (.dE (L2.oy kvs k z) ep')) else ∃m',m' < m∧W (i + 1) m' H4))
  (hR:∀(D C:Addr) (s':Shared) (H':Hp) (m:Str→Option Value),Inv X pins σ H' s'→Q (.ref D) H'→s'.heap.Ns C m→H' C=none→C≠X.env.locals→X.s₀.heap.objs.size≤C→(∀y c,X.env.cells.lookup y=some c→c≠C)→(∀p∈X.pn ++ pins,p.1≠C)→RR (.ref D) C (.ok .next) s') :
  wpAny (model X.prog X.w) X.A newDict (λacc s₃=>wpAny (model X.prog X.w) X.A (newFunctionEnv sc X.env.globals cl [] X.env.qual none .none (some X.env)) (λcenv s₄ =>
   codeAny (model X.prog X.w) X.A (.compStart (.DictComp kx vx [⟨.Name x px,iter,ifs,0⟩] sc pos) 0 (.ref it) acc { cenv with scope:=relabel sc X.env }) (RR acc cenv.locals) s₄) E s₃) E s:=by
 have okk:=ok
 obtain ⟨kd,nc,lx,ll,fr,kk,nd⟩:=okk
 have hD0:H s.heap.objs.size=none:=I.hok.fresh (Tr _)
 have hdd:(s.heap.push { cls:=.type "dict",dict:=none,data:=.dict #[] }).DictOf (PySem.strKind X.prog X.w) s.heap.objs.size []:=Heap.DictOf.new s.heap
 obtain ⟨ep0,da⟩:=hdd.dictAt
 obtain ⟨W,⟨m0,w0⟩,turn⟩:=hw s.heap.objs.size hD0 ep0
 refine wpAny_newObj_type ?_
 have I3:Inv X pins σ (upd H s.heap.objs.size (.dE [] ep0)) { s with heap:=s.heap.push { cls:=.type "dict",dict:=none,data:=.dict #[] } } :=
  I.laid (t':=s.toks) (λb u e=>Heap.get?_push_of_some _ e) (Tr _) ⟨T3 _,beq_eq_false_iff_ne.mpr (Ne.symm (TV I.NU)),[],.nil,da⟩
 have st3:tn 0 (s.heap.push { cls:=.type "dict",dict:=none,data:=.dict #[] }):=T.keep 0 _ _ st λb hb o e=>Heap.get?_push_of_some _ e
 clear da hdd
 generalize hD:s.heap.objs.size=D at *
 generalize hH:upd H D (.dE [] ep0)=H3 at *
 generalize hs3:({ s with heap:=s.heap.push { cls:=.type "dict",dict:=none,data:=.dict #[] } }:Shared)=s3 at *
 have e3:s.heap.push { cls:=.type "dict",dict:=none,data:=.dict #[] }=s3.heap:=by rw [← hs3]
 rw [e3] at st3
 have fD:∀b∈fp,b≠D:=λb hb z=>by
  obtain ⟨o,ho,_⟩:=T.obj 0 _ st b hb
  have:=Heap.lt_size ho
  rw [z,← hD] at this
  exact Us _ this
 have f3:∀b∈fp,lU X pins H3 b:=λb hb=>⟨by rw [← hH,aW (fD b hb)];exact (f b hb).1,(f b hb).2⟩
 have g3:∀b∈fp,∃o,s3.heap.get? b=some o:=λb hb=>by
  obtain ⟨o,ho,_⟩:=T.obj 0 _ st3 b hb
  exact ⟨o,ho⟩
 refine wpAny_newFunctionEnv nc (by intro y hy;simp at hy) (λh₁ hns hsb=>?_) kd
 have kp:∀b o,s3.heap.get? b=some o→h₁.get? b=some o:=λb o e=>hsb.extBut b o (TV (Heap.lt_size e)) (Heap.get?_push_of_some _ e)
 have J0:=ye (fp:=fp) (cl:=cl) (t':=s3.toks + ([]:List (Str × Value)).length) I3 ok h1 h2 (λb hb=>⟨f3 b hb,g3 b hb⟩) hns kp
 have st4:tn 0 h₁:=T.keep 0 _ _ st3 λb hb o e=>kp b o e
 have ltC:∀b o,s3.heap.get? b=some o→b≠s3.heap.objs.size:=λb o e=>TV (Heap.lt_size e)
 have cC:∀y c,X.env.cells.lookup y=some c→c≠s3.heap.objs.size:=λy c e=>by
  obtain ⟨v,o,ho,_⟩:=I3.cell y c e
  exact ltC c o ho
 have pC:∀p∈X.pn ++ pins,p.1≠s3.heap.objs.size:=λp hp=>ltC _ _ (I3.pin p hp).1
 have lC:s3.heap.objs.size≠X.env.locals:=Vs I3.lt
 have fX:∀{H':Hp},(∀b∈fp,H' b=none)→∀b∈fp,lU (f7 X sc cl s3.heap.objs.size x ks s3 H3 fp pins) [] H' b:=λhn b hb=>by
  obtain ⟨o,ho⟩:=g3 b hb
  obtain ⟨_,q1,q2,q3,q4,q5⟩:=f b hb
  refine ⟨hn b hb,ltC b o ho,λz=>?_,.inl hb,λy c e=>q4 y c (h1 y c e),λp hp=>q5 p (by simpa [f7] using hp)⟩
  rcases TC.mp (I3.pK b z) with e | e
  ·exact q1 e
  ·exact q2 e
 have back:∀{o:Option V} {H':Hp} {s':Shared},Inv (f7 X sc cl s3.heap.objs.size x ks s3 H3 fp pins) [] (o :: eI ks σ) H' s'→Inv X pins σ H' s':=λ{o H' s'} J=>by
  obtain ⟨hh,g,d,t,os'⟩:=s'
  obtain rfl:os'=s3.os:=J.os
  exact I3.call (h':=hh) (g':=g) (d':=d) (t':=t) (ch:=fp) J.base J.hok J.bare λb hb=>⟨(f b hb).2.2.2.1,(f b hb).2.1,(f b hb).2.2.2.2.1,(f b hb).2.2.2.2.2⟩
 have lookX:(relabel sc X.env).names.lookup x=some .local:=lookup_relabel_local lx
 have loop:∀s',(∃(i:Nat) (o:Option V) (H':Hp),Inv (f7 X sc cl s3.heap.objs.size x ks s3 H3 fp pins) [] (o :: eI ks σ) H' s'∧tn i s'.heap∧(∀b∈fp,H' b=none)∧W i m0 H') →
   codeAny (model X.prog X.w) X.A (.compLoop (.DictComp kx vx [⟨.Name x px,iter,ifs,0⟩] sc pos) 0 (.ref it) (.ref D) (compEnvC sc cl s3.heap.objs.size X.env)) (RR (.ref D) s3.heap.objs.size) s':=by
  intro s' hs'
  refine z_ (λn s'=>∃(i:Nat) (o:Option V) (H':Hp),Inv (f7 X sc cl s3.heap.objs.size x ks s3 H3 fp pins) [] (o :: eI ks σ) H' s'∧tn i s'.heap∧(∀b∈fp,H' b=none)∧W i n H') ?_ m0 hs'
  rintro n s5 ⟨i,o,H5,J5,t5,n5,w5⟩
  rcases turn i n H5 w5 with ⟨stop,hq⟩ | ⟨go,step⟩
  ·refine cE (T.done (f7 X sc cl s3.heap.objs.size x ks s3 H3 fp pins) rfl rfl rfl hc i [] s5 _ H5 _ J5 (fX n5) t5 stop) λr s6 ⟨hr,J6⟩=>?_
   subst hr
   obtain ⟨m,hm,_⟩:=J6.loc
   exact hR D _ s6 H5 m (back J6) hq hm J6.free lC I3.sz cC pC
  ·refine cE (T.item (f7 X sc cl s3.heap.objs.size x ks s3 H3 fp pins) rfl rfl rfl hc i [] s5 _ H5 _ J5 (fX n5) t5 go) λr s6 ⟨u,hr,h6⟩=>?_
   subst hr
   refine cE h6 λ_ s7 ⟨v,H7,J7,r7,y7,t7,n7⟩=>?_
   have J7':=J7.pinned (fX n7) (T.obj _ _ t7)
   refine wpAny_assign_Name (gX (X:=f7 X sc cl s3.heap.objs.size x ks s3 H3 fp pins) (i:=0) J7' nd rfl (.inl lookX) r7 (λs8 J8=>?_) (.inr lookX))
   refine cE (hcn cl s3.heap.objs.size s3 H3 fp pins _ s8 _ H7 _ J8 (step v H7 y7)) λok s8' ⟨H8,J8',q8⟩=>?_
   cases ok with
   | false =>
    simp only [TJ,if_false] at q8 ⊢
    obtain ⟨m',hm,w'⟩:=q8
    refine ⟨m',hm,i + 1,_,_,J8'.gZ,?_,?_,w'⟩
    ·exact T.keep _ _ _ t7 λb hb o e=>(J8'.pin (b,o) (Tz _ (Tz _ (cT hb e)))).1
    ·intro b hb
     obtain ⟨o,e,d⟩:=T.obj _ _ t7 b hb
     exact (J8'.pin (b,o) (Tz _ (Tz _ (cT hb e)))).2.1
   | true =>
    simp only [if_true] at q8 ⊢
    refine cE (hk cl s3.heap.objs.size s3 H3 fp pins _ s8' _ H8 _ J8' q8) λky s8'' ⟨vk,H8',J8'',rk,q8'⟩=>?_
    refine cE (he cl s3.heap.objs.size s3 H3 fp pins _ s8'' _ H8' _ J8'' q8') λy s9 ⟨vy,H9,J9,r9,kvs,ep,k,ek,hys,hz,m',hm,w'⟩=>?_
    subst ek
    obtain ⟨hz',hd',vs,rel,da⟩:=l3 J9 hys
    refine wpAny_dictSet_pairs (hsz:=by rw [← rel.len];exact hz') (str_is rk) da.dictOf λh' dd' hsb=>?_
    obtain ⟨ep',J10⟩:=rD (t':=s9.toks + 1) J9 hys hsb (show (L2.oy kvs k vy).length≤sizeLine from TK (BY kvs k vy) hz) hd' (rel.pu r9) dd'
    refine ⟨m',hm,i + 1,_,_,J10.gZ,?_,?_,w' ep'⟩
    ·exact T.keep _ _ _ t7 λb hb o e=>(J10.pin (b,o) (Tz _ (Tz _ (cT hb e)))).1
    ·intro b hb
     obtain ⟨o,e,d⟩:=T.obj _ _ t7 b hb
     exact (J10.pin (b,o) (Tz _ (Tz _ (cT hb e)))).2.1
 have l0:=loop _ ⟨0,none,H3,J0,st4,λb hb=>(f3 b hb).1,w0⟩
 exact codeAny_compStart_dict l0 (T.self _ 0 _ _ _ st4 l0)
theorem OR {kx vx iter:Expr} {ifs:List Expr} {x:Str} {px:Pos} {sc:Scope} {pos:Pos} {wi:TI} {tk te:TE} {tc:TT} (osc:Scope) (N:List Str) (ks:List (Str × Nat)) (hc:X.calm=true) (ho:X.env.scope=osc) (hN:X.N=N) (hi:PI X (.Name x px) iter wi)
  (hk:∀cl C s₀ H₀ fp pins,PE (f7 X sc cl C x ks s₀ H₀ fp pins) kx tk) (he:∀cl C s₀ H₀ fp pins,PE (f7 X sc cl C x ks s₀ H₀ fp pins) vx te) (hcn:∀cl C s₀ H₀ fp pins,G7 (f7 X sc cl C x ks s₀ H₀ fp pins) ifs tc) (ok:cJ sc osc N x ks:=by decide +kernel) (hs:∀x,foldedSetIterable iter X.env x=pure x:=by intro _;rfl) :
  PE X (.DictComp kx vx [⟨.Name x px,iter,ifs,0⟩] sc pos) (RN wi ks tc tk te):=by
 intro pins s σ H Q I hw
 obtain ⟨cl,hcl,h1,h2⟩:=jw (nI ok I ho)
 have ok':cJ sc X.env.scope X.N x ks:=by rw [ho,hN];exact ok
 rw [arm_eval_DictComp]
 refine wpAny_comprehension_free (use:=none) rfl hs hcl ok.1 ok.2.2.2.1 (cE (hi pins s σ H _ I hw) λv s1 h3=>cE h3 λitv s2 h4=>?_)
 obtain ⟨it,fp,tn,J,H2,rfl,I2,T,st2,f2,hR⟩:=h4
 refine vi (RR:=λacc C=>compPost (model X.prog X.w) X.A X.xe none (EP X pins σ Q) acc C) hc ok' h1 h2 hk he hcn I2 T st2 f2 hR ?_
 intro D C s' H' m J' q hn hC cl' cs cc cp
 refine ⟨m,hn,λh' hsb=>⟨.ref D,H',?_,rfl,q⟩⟩
 exact J'.turned (t':=s'.toks) (it:=C) (λb o ne e=>hsb.extBut b o ne e) hC cl' (.inr cs) cc cp
end
end Ov
namespace Ov
open PySem PySem.Spec PyProof.Rows
open L2 (V HO Hp Inv Cx VK XK TE TT TA TS TG qh TI TO j6 Ends vM Loc Gl Rd RelV Vals fT xJ cx p9 tJ qg j5 R2 upd aK aW dk g7 Sp qW It bJ c_ bW Passes pM aL Meth Mk Binds aP cm aw dt gm fm j3 oy C2 pN)
section
variable {K:PySem.W.Frag} {J:Hq} {H:Hp}
theorem fq:∀{kvs:List (Str × PV)} {gs:List (Str × V)},ml K J H kvs gs→pN (cH K J H) kvs gs
 | [],[],_=>.nil
 | [],_ :: _,h=>by cases h.1
 | _ :: _,[],h=>by cases h.1
 | (k,y) :: fs,(k',w) :: gs,h=>by
  obtain ⟨h1,v',us,h2,h3,h4⟩:=h
  simp only [Tt,List.cons.injEq] at h1 h2
  obtain ⟨rfl,h1⟩:=h1
  obtain ⟨rfl,rfl⟩:=h2
  exact .cons ⟨rfl,h3⟩ (fq ⟨h1,h4⟩)
theorem yM:∀{kvs:List (Str × PV)} {gs:List (Str × V)},pN (cH K J H) kvs gs→ml K J H kvs gs
 | _,_,.nil=>⟨rfl,rfl⟩
 | _,_,.cons (a:=p) (b:=q) r t=>by
  obtain ⟨h1,h2⟩:=yM t
  exact ⟨by rw [Tt,Tt,h1,r.1],q.2,_,rfl,r.2,h2⟩
theorem Ext.lA {p:Addr} {kvs kvs':List (Str × PV)} {gs gs':List (Str × V)} {ep ep':Nat} (h:J p=some (.dct kvs ep)) (k:H p=some (.dE gs ep)):Ext K J H (put J p (.dct kvs' ep')) (upd H p (.dE gs' ep')):=by
 have sm:∀a u,a≠p→Rd H a u→Rd (upd H p (.dE gs' ep')) a u:=λa u ne z=>by
  rcases z with z | ⟨o,z⟩
  ·exact .inl (by rw [aW ne];exact z)
  ·exact .inr ⟨o,by rw [aW ne];exact z⟩
 refine ⟨λa vs' z=>?_,λa o z q _=>?_⟩
 ·rcases z with z | z
  ·have ne:a≠p:=by
    intro e;subst e
    rcases z with z | ⟨o,z⟩
    ·rw [k] at z;cases z
    ·rw [k] at z;cases z
   exact .inl (sm a _ ne z)
  ·exact .inr z
 ·have ne:a≠p:=by intro e;subst e;rw [h] at z;cases z
  exact ⟨by rw [aq ne];exact z,by rw [aW ne];exact q⟩
theorem Rep.lA {p:Addr} {kvs kvs':List (Str × PV)} {gs gs':List (Str × V)} {ep ep':Nat} (r:Rep K J H) (h:J p=some (.dct kvs ep)) (k:H p=some (.dE gs ep)) (q:pN (cH K J H) kvs' gs'):Rep K (put J p (.dct kvs' ep')) (upd H p (.dE gs' ep')):=by
 have e:=Ext.lA (K:=K) (kvs':=kvs') (gs':=gs') (ep':=ep') h k
 refine r.D3 e p (λa ne=>aq ne) (λa o ne _ z=>by rw [aW ne];exact z) λu z=>?_
 rw [ak] at z;cases z
 exact ⟨gs',aK,e.yT (yM q)⟩
theorem Rep.Ka {p:Addr} {ep:Nat} (r:Rep K J H) (n:H p=none):Rep K (put J p (.dct [] ep)) (upd H p (.dE [] ep)):=by
 have e:=Ext.laid (K:=K) (J:=J) (o:=.dE [] ep) (u:=.dct [] ep) n
 refine r.D3 e p (λa ne=>aq ne) (λa o ne _ z=>by rw [aW ne];exact z) λu z=>?_
 rw [ak] at z;cases z
 exact ⟨[],aK,⟨rfl,rfl⟩⟩
end
def OZ:m7:=λx y J Q=>DH x λa=>Ko y λk=>G' (J a) λkvs _=>wz (j3 kvs k) λv=>Q v J
def IS (f:Bool→Bool):m7:=λx y J Q=>Ko x λk=>DH y λa=>G' (J a) λkvs _=>Q (.bl (f (j3 kvs k).isSome)) J
def O0:Bi:=λxs J Q=>DG xs λx=>DH x λa=>G' (J a) λkvs _=>Q (.int kvs.length) J
def F_:Bi:=λxs J Q=>DG xs λx=>DH x λa=>G' (J a) λkvs _=>Q (.fl (kvs.map λkv=>.str kv.1)) J
def Kz:CV:=λx xs J Q=>DH x λa=>DG xs λy=>Ko y λk=>G' (J a) λkvs _=>wz (j3 kvs k) λv=>∀ep',Q v (put J a (.dct (C2 kvs k) ep'))
def KA:CY:=λo i y J R=>DH o λa=>Ko i λk=>G' (J a) λkvs _=>kvs.length < sizeLine∧∀ep',R (put J a (.dct (oy kvs k y) ep'))
def KI:dz:=λ_ J Q=>∀p,J p=none→∀ep,Q (.ref p) (put J p (.dct [] ep))
def Sw (te:dz):tK:=λτ J R=>te τ J λx J1=>DH x λa=>G' (J1 a) λkvs ep=>R ⟨kvs.map λkv=>.str kv.1,λJ'=>J' a=some (.dct kvs ep)⟩ J1
section
variable {X:Cx} {G:G2}
theorem bY:Qs X OZ:=⟨_,L2.N6,λJ H x y v w Q2 Q rx ry r h kn=>by
 obtain ⟨a,ex,h⟩:=iy h;obtain ⟨k,ey,h⟩:=o4 h;obtain ⟨kvs,ep,ja,h⟩:=oZ h;obtain ⟨z,hz,q⟩:=eW h
 subst ex ey
 cases rx;cases ry
 obtain ⟨gs,h1,h2⟩:=r _ _ ja
 obtain ⟨u,hu,ru⟩:=((fq h2).va k).1 z hz
 exact ⟨a,gs,ep,k,u,rfl,rfl,h1,hu,kn z J u H ru r .refl q⟩⟩
theorem Fs (f:Bool→Bool):LR X.K (L2.MG f) (IS f):=λJ H x y v w Q2 Q rx ry r h kn=>by
 obtain ⟨k,ex,h⟩:=o4 h;obtain ⟨a,ey,h⟩:=iy h;obtain ⟨kvs,ep,ja,q⟩:=oZ h
 subst ex ey
 cases rx;cases ry
 obtain ⟨gs,h1,h2⟩:=r _ _ ja
 exact ⟨a,gs,ep,k,rfl,rfl,h1,by rw [← ((fq h2).va k).2];exact kn (.bl _) J _ H rfl r .refl q⟩
theorem Mp:m6 X (compareOp .In) (IS id):=⟨_,L2.Mm,Fs id⟩
theorem BU:m6 X (compareOp .NotIn) (IS not):=⟨_,L2.DK,Fs not⟩
theorem ph {K:PySem.W.Frag} {J:Hq} {H:Hp}:∀{ks:List Str},aS K J H (ks.map PV.str) (ks.map V.str)
 | []=>rfl
 | k :: ks=>⟨_,_,rfl,rfl,ph (ks:=ks)⟩
theorem x4 (hc:X.calm=true):JQ X (.type "list") F_:=⟨_,L2.xX hc,λJ H xs vs Q2 Q rs r h k=>by
 obtain ⟨x,ex,h⟩:=jC h;obtain ⟨a,ea,h⟩:=iy h;obtain ⟨kvs,ep,ja,q⟩:=oZ h;subst ea
 subst ex;obtain ⟨v,us,rfl,rv,e⟩:=rs;cases e;cases rv
 obtain ⟨gs,h1,h2⟩:=r _ _ ja
 refine ⟨a,gs,ep,rfl,h1,λp hp=>?_⟩
 have hk:aS X.K J H (kvs.map λkv=>PV.str kv.1) (gs.map λkv=>V.str kv.1):=by
  have:=(fq h2).keys
  rw [show (kvs.map λkv=>PV.str kv.1)=(kvs.map (·.1)).map PV.str by rw [Tw];rfl,show (gs.map λkv=>V.str kv.1)=(gs.map (·.1)).map V.str by rw [Tw];rfl,this]
  exact ph
 obtain ⟨x1,x2,x3⟩:=wd r hk hp
 exact k _ J _ _ x1 x2 x3 q⟩
theorem Ib:Hx X "dict" "dict.pop" Kz:=⟨_,L2.Ie,λJ H x xs v vs Q2 Q rx rs r h kn=>by
 obtain ⟨a,ex,h⟩:=iy h;obtain ⟨y,exs,h⟩:=jC h;obtain ⟨k,ek,h⟩:=o4 h;obtain ⟨kvs,ep,ja,h⟩:=oZ h;obtain ⟨z,hz,q⟩:=eW h;subst ek
 subst ex exs;cases rx
 obtain ⟨u,us,rfl,ru,e⟩:=rs;cases e;cases ru
 obtain ⟨gs,h1,h2⟩:=r _ _ ja
 have pk:=fq h2
 obtain ⟨y,hy,ry⟩:=(pk.va k).1 z hz
 refine ⟨a,gs,ep,k,y,rfl,rfl,h1,hy,λep'=>?_⟩
 have e2:=Ext.lA (K:=X.K) (kvs':=C2 kvs k) (gs':=C2 gs k) (ep':=ep') ja h1
 exact kn z _ y _ (e2.rep ry) (r.lA ja h1 (pk.dr k)) e2 (q ep')⟩
theorem il:Qw X KA:=⟨_,L2.MW,λJ H o i y ov iv u R2 R ro ri ry r h kk=>by
 obtain ⟨a,eo,h⟩:=iy h;obtain ⟨k,ei,h⟩:=o4 h;obtain ⟨kvs,ep,ja,hl,q⟩:=oZ h
 subst eo ei;cases ro;cases ri
 obtain ⟨gs,h1,h2⟩:=r _ _ ja
 have pk:=fq h2
 refine ⟨a,gs,ep,k,rfl,rfl,h1,by rw [← pk.len];exact hl,λep'=>?_⟩
 exact kk _ _ (r.lA ja h1 (pk.pu ry)) (Ext.lA (K:=X.K) ja h1) (q ep')⟩
theorem qL {pos:Pos}:RE X G (.Dict [] [] pos) KI:=⟨lX L2.IF λσ H Q ⟨τ,J,Q2,a2,q,k⟩ p hp ep=>k (.ref p) _ _ _ rfl (a2.hp.Ka hp) (.laid hp) (q p (a2.hp.free hp) ep)⟩
theorem ig {tg l:Expr} {tl:dz} (hl:RE X G l tl):RI X G tg l (Sw tl):=⟨Nv (L2.IG hl.run) λσ H R ⟨τ,J,R2,a2,h,k⟩=>⟨τ,J,_,a2,h,λx J1 v H1 rx r1 e1 h=>by
 obtain ⟨a,ex,h⟩:=iy h;obtain ⟨kvs,ep,ja,q⟩:=oZ h
 subst ex;cases rx
 obtain ⟨gs,h1,h2⟩:=r1 _ _ ja
 have pk:=fq h2
 have hl':=pk.len
 refine ⟨a,gs,ep,rfl,h1,k _ J1 _ H1 ?_ r1 e1 q⟩
 have hks:=pk.keys
 have key:∀J' H',Rep X.K J' H'→J' a=some (.dct kvs ep)→∃gs',H' a=some (.dE gs' ep)∧gs'.map (·.1)=gs.map (·.1):=λJ' H' r o=>by
  obtain ⟨gs',h1',h2'⟩:=r _ _ o
  exact ⟨gs',h1',by rw [← (fq h2').keys,hks]⟩
 exact {
  go:=λJ' H' e r o i hi=>⟨key J' H' r o,by rw [Th] at hi ⊢;omega⟩
  yl:=λJ' H' e r o i hi v H2 y=>by
   obtain ⟨rfl,k,hk,rfl⟩:=y
   rw [← hks,Tq] at hk
   obtain ⟨kv,hkv,rfl⟩:=Vq.mp hk
   exact ⟨.str kv.1,by rw [Tq,hkv];rfl,rfl,r,.refl⟩
  stop:=λJ' H' e r o=>⟨key J' H' r o,by rw [Th,Th];omega⟩ }⟩⟩
def O9 (wi:tK) (ks:List (Str × Nat)) (tc:lZ) (tk te:dz):dz:=λτ J Q=>wi τ J λit J1=>∀D,J1 D=none→∀ep,∃W:Nat→Hq→Prop,W 0 (put J1 D (.dct [] ep))∧(∀i J2,W i J2→it.ok J2) ∧
 (∀i x J2,it.xs[i]?=some x→W i J2→tc (some x :: qv ks τ) J2 λb J3=>if b=true then tk (some x :: qv ks τ) J3 λy J4=>te (some x :: qv ks τ) J4 λz J5 =>
  ∃kvs ep k,y=.str k∧J5 D=some (.dct kvs ep)∧kvs.length < sizeLine∧∀ep',W (i + 1) (put J5 D (.dct (oy kvs k z) ep')) else W (i + 1) J3)∧∀J2,W it.xs.length J2→Q (.ref D) J2
theorem Bs {wi:tK} {ks:List (Str × Nat)} {tc:lZ} {tk te:dz}:∀σ H Q,LE X.K G (O9 wi ks tc tk te) σ H Q→RN (LI X.K G wi) ks (LT X.K G tc) (LE X.K G tk) (LE X.K G te) σ H Q:=λσ H Q ⟨τ,J,Q2,a2,h,k⟩ =>
 ⟨τ,J,_,a2,h,λit J1 I H1 ir r1 e1 w D hD ep=>by
  obtain ⟨W,w0,wok,step,fin⟩:=w D (r1.free hD) ep
  refine ⟨λi m H2=>m=it.xs.length - i∧i≤it.xs.length∧∃J2,Rep X.K J2 H2∧Ext X.K J1 H1 J2 H2∧W i J2,⟨_,rfl,T3 _,_,r1.Ka hD,.laid hD,w0⟩,?_⟩
  rintro i m H2 ⟨rfl,hi,J2,r2,e2,w2⟩
  by_cases hlt:i < it.xs.length
  ·refine .inr ⟨ir.go J2 H2 e2 r2 (wok i J2 w2) i hlt,λv H3 y=>?_⟩
   obtain ⟨x,ex,rx,r3,e3⟩:=ir.yl J2 H2 e2 r2 (wok i J2 w2) i hlt v H3 y
   have a3:xI X.K G (some x :: qv ks τ) J2 (some v :: eI ks σ) H3:=⟨B8 (a2.sl.ext ((e1.trans e2).trans e3)) rx ks,r3,((a2.ext.trans e1).trans e2).trans e3⟩
   refine ⟨_,_,_,a3,step i x J2 ex w2,λb J4 H4 r4 e4 q=>?_⟩
   cases b with
   | false =>
    simp only [TJ,if_false] at q ⊢
    exact ⟨_,by omega,rfl,hlt,J4,r4,(e2.trans e3).trans e4,q⟩
   | true =>
    simp only [if_true] at q ⊢
    refine ⟨_,_,_,a3.go r4 e4,q,λyk J5 u H5 rk r5 e5 q5=>?_⟩
    refine ⟨_,_,_,(a3.go r4 e4).go r5 e5,q5,λz J6 vz H6 rz r6 e6 ⟨kvs,ep2,kk,ek,jD,hl,q6⟩=>?_⟩
    subst ek
    cases rk
    obtain ⟨gs,h1,h2⟩:=r6 _ _ jD
    have pk:=fq h2
    refine ⟨gs,ep2,kk,rfl,h1,by rw [← pk.len];exact hl,it.xs.length - (i + 1),by omega,λep'=>⟨rfl,hlt,_,r6.lA jD h1 (pk.pu rz),?_,q6 ep'⟩⟩
    exact ((((e2.trans e3).trans e4).trans e5).trans e6).trans (Ext.lA (K:=X.K) jD h1)
  ·have ei:i=it.xs.length:=by omega
   subst ei
   exact .inl ⟨ir.stop J2 H2 e2 r2 (wok _ J2 w2),k (.ref D) J2 _ H2 rfl r2 (e1.trans e2) (fin J2 w2)⟩⟩
theorem Rt {X:Cx} {ifs:List Expr} {t t':TT} (h:G7 X ifs t) (k:∀σ H Q,t' σ H Q→t σ H Q):G7 X ifs t':=λpins s σ H Q I q=>h pins s σ H Q I (k _ _ _ q)
variable {kx vx iter cnd:Expr} {x y:Str} {px py:Pos} {sc:Scope} {pos spos:Pos} {wi:tK} {tk te:dz} {tc:lZ} {i:Nat}
theorem Pq (osc:Scope) (N:List Str) (ks:List (Str × Nat)) (hc:X.calm=true) (ho:X.env.scope=osc) (hN:X.N=N) (hi:RI X G (.Name x px) iter wi) (hk:∀cl C s₀ H₀ fp pins,RE (f7 X sc cl C x ks s₀ H₀ fp pins) G kx tk) (he:∀cl C s₀ H₀ fp pins,RE (f7 X sc cl C x ks s₀ H₀ fp pins) G vx te)
  (ok:cJ sc osc N x ks:=by decide +kernel) (hs:∀x,foldedSetIterable iter X.env x=pure x:=by intro _;rfl):RE X G (.DictComp kx vx [⟨.Name x px,iter,[],0⟩] sc pos) (O9 wi ks yS tk te) :=
 ⟨lX (OR osc N ks hc ho hN hi.run (λcl C s₀ H₀ fp pins=>(hk cl C s₀ H₀ fp pins).run) (λcl C s₀ H₀ fp pins=>(he cl C s₀ H₀ fp pins).run) (λcl C s₀ H₀ fp pins=>Rt wK λσ H Q ⟨τ,J,Q2,a2,q,k⟩=>k true J H a2.hp .refl q) ok hs) Bs⟩
end
def AY (tabs:List Addr):cM:=λxs J Q _=>∃ns:List Int,xs=[.fl (ns.map .int)]∧ns.length≤63∧(∀T∈tabs,J T=some .tab)∧(∀a,a ∉ tabs→J a=none)∧∀J',(∀T∈tabs,J' T=some .tab)→Q (.bl true) J'
def GC (tabs:List Addr) (K:PySem.W.Frag):Sp:=λvs H Q _=>∃(a:Addr) (ns:List Int),vs=[.ref a]∧dk K H a (ns.map V.int)∧ns.length≤63∧(∀T∈tabs,H T=some (.ext (fe T))) ∧
 (∀b,H b≠none→b=a∨b∈tabs)∧(∀u,H a=some u→∃o xs,u=.oN o (.lst xs))∧∀H',bJ H H'→Q (.bl true) H'
theorem Df {P:Program} {w:World} {K:PySem.W.Frag} {mg:Str→Option Value} {base:Heap} {k:Nat} {f:Addr} {fd:FuncData} {ps:List Str} {tabs:List Addr} (F:aP P w K mg base (c8 P w) k f fd ps (dC K (AY tabs))) :
  aP P w K mg base L2.qV k f fd ps (GC tabs K) :=
 F.P4.imp λvs H Q E ⟨a,ns,e,hS,hl,hT,hA,hK,q⟩=>by
  subst e
  classical
  have na:∀u,H a=some u→a ∉ tabs:=λu hu hm=>by
   obtain ⟨o,xs,rfl⟩:=hK u hu
   rw [hT a hm] at hu;cases hu
  refine ⟨[.fl (ns.map .int)],λb=>if b∈tabs then some .tab else none,λx J'=>x=.bl true∧∀T∈tabs,J' T=some .tab,λ_ _=>False,⟨.ref a,[],rfl,⟨a,ns.map V.int,rfl,?_,pf ns⟩,rfl⟩,?_,⟨ns,rfl,hl,λT hT=>if_pos hT,λb hb=>if_neg hb,λJ' h=>⟨rfl,h⟩⟩,?_,?_⟩
  ·rcases hS with h | h
   ·refine .inl ⟨?_,h⟩
    have:a ∉ tabs:=by
     rcases h with h | ⟨o,h⟩
     ·exact na _ h
     ·exact na _ h
    exact if_neg this
   ·exact .inr h
  ·intro b o z
   by_cases hb:b∈tabs
   ·have z':=(if_pos hb).symm.trans z
    cases z'
    exact hT b hb
   ·have z':=(if_neg hb).symm.trans z
    cases z'
  ·rintro z J' u H' rz rr ee ⟨rfl,ht⟩
   cases rz
   refine q H' λb o hb=>?_
   rcases hA b (by rw [hb];simp) with rfl | hm
   ·obtain ⟨ob,xs,rfl⟩:=hK o hb
    exact (ee.ll b _ (if_neg (na _ hb)) hb (.inr ⟨_,_,rfl⟩)).2
   ·have:=hT b hm
    rw [hb] at this;cases this
    exact rr b _ (ht b hm)
  ·intro _ _ _ _ _ z;exact z.elim
end Ov
namespace L2
open PySem PySem.Spec PyProof.Rows
def QP (k:Str):Value→Bool
 | .str y _=>y.cps.toList == k.cps.toList
 | _=>false
theorem D5 {ss:List Str} {us:List Value} (r:Vals (ss.map V.str) us):us.length=ss.length∧∀(j:Nat) (u:Value),us[j]?=some u→∃y t,ss[j]?=some y∧u=.str y t:=by
 induction ss generalizing us with
 | nil=>cases r;exact ⟨rfl,λj u e=>by simp at e⟩
 | cons y ss ih =>
  rw [Tt] at r
  cases r with
  | cons ru rr =>
   obtain ⟨t,rfl⟩:=ru
   obtain ⟨h1,h2⟩:=ih rr
   refine ⟨by simp [h1],λj u e=>?_⟩
   cases j with
   | zero=>cases e;exact ⟨y,t,rfl,rfl⟩
   | succ j=>exact h2 j u (by simpa using e)
theorem uU {α β:Type} (f:α→β):∀(l:List α) (j:Nat),(l.eraseIdx j).map f=(l.map f).eraseIdx j
 | [],_=>rfl
 | _ :: _,0=>rfl
 | x :: l,j + 1=>by simp only [Vm,Tt,uU f l j]
section
variable {X:Cx}
def Ge:V→List V→Hp→VK→Prop:=λx vs H Q=>∃(l:Addr) (ss:List Str) (k:Str) (j:Nat),x=.ref l∧vs=[.str k]∧H l=some (.lst (ss.map V.str))∧ss[j]?=some k∧(∀m:Nat,m < j→ss[m]?≠some k)∧Q .non (upd H l (.lst ((ss.eraseIdx j).map V.str)))
theorem Ag:qg X "list.remove" Ge:=by
 intro pins s σ H x vs v us Q I rx rv h
 obtain ⟨l,ss,k,j,rfl,rfl,hH,hj,hno,q⟩:=h
 cases rx
 obtain ⟨u,rfl,ru⟩:=rv.one
 obtain ⟨t,rfl⟩:=ru
 obtain ⟨z,its,n,r,hl,e⟩:=I.Dp hH
 obtain ⟨h1,h2⟩:=D5 r
 obtain ⟨hjl,hje⟩:=Tj.mp hj
 have hz:ss.length≤sizeLine:=by simpa using z
 have at_:∀(m:Nat) (hm:m < its.toArray.size),QP k its.toArray[m]=decide (ss[m]?=some k):=λm hm=>by
  obtain ⟨y,t',hy,hu⟩:=h2 m its[m] (Tn (by simpa using hm))
  show QP k its[m]=_
  rw [hu,hy]
  show (y.cps.toList == k.cps.toList)=_
  by_cases hk:y=k
  ·subst hk;simp
  ·have:(y.cps.toList == k.cps.toList)=false:=by
    rw [beq_eq_false_iff_ne]
    intro z
    exact hk (by cases y;cases k;simp at z;rw [z])
   rw [this];symm;exact decide_eq_false λz=>hk (Option.some.inj z)
 refine call_meets PySem.F.slot_list_remove ⟨_,e,rfl⟩ PySem.F.entry_list_remove (PySem.F.args_list_remove_2 _ _)
  (MeetsSeq.list_remove l its.toArray n (.str k t) (QP k) (λy hy=>?_) j (by simpa using (show j < its.length by omega)) ?_ (λm hm hlt=>?_) (by rw [Tu];omega)) ⟨e,?_⟩
 ·obtain ⟨m,hm⟩:=TM.mp (show y∈its by simpa using hy)
  obtain ⟨y',t',_,rfl⟩:=h2 m y hm
  exact SeqRoads2.EqGives.str _ _ _ _
 ·rw [at_];exact decide_eq_true hj
 ·rw [at_];exact decide_eq_false (hno m hlt)
 ·refine ⟨.non,_,I.Dm (its':=its.eraseIdx j) hH e (by rw [U4]) ?_ ?_,rfl,q⟩
  ·rw [uU];exact r.eraseIdx j
  ·rw [Th];exact TK (List.length_eraseIdx_le _ _) hz
end
end L2
namespace Ov
open PySem PySem.Spec PyProof.Rows
open L2 (V HO Hp Inv Cx VK XK TE TT TA TS TG qh TI TO j6 Ends vM Loc Gl Rd RelV Vals fT xJ cx p9 tJ qg j5 R2 upd aK aW dk g7 Sp qW It bJ c_ bW Passes pM aL Meth Mk Binds aP cm aw dt gm fm)
section
variable {X:Cx} {G:G2}
def MC:CV:=λx xs J Q=>∃(a:Addr) (ss:List Str) (k:Str) (j:Nat),x=.ref a∧xs=[.str k]∧J a=some (.lst (ss.map .str))∧ss[j]?=some k∧(∀m:Nat,m < j→ss[m]?≠some k)∧Q (.int (j:Nat)) J
def B3:CV:=λx xs J Q=>∃(a:Addr) (ss:List Str) (k:Str) (j:Nat),x=.ref a∧xs=[.str k]∧J a=some (.lst (ss.map .str))∧ss[j]?=some k∧(∀m:Nat,m < j→ss[m]?≠some k)∧Q .non (put J a (.lst ((ss.eraseIdx j).map .str)))
theorem Ds:Hx X "list" "list.remove" B3:=⟨_,L2.Ag,λJ H x xs v vs Q2 Q rx rs r ⟨a,ss,k,j,ex,exs,ja,hj,hno,q⟩ kn=>by
 subst ex exs;cases rx
 obtain ⟨w,us,rfl,rw',e⟩:=rs;cases e;cases rw'
 obtain ⟨ws,h1,h2⟩:=r _ _ ja
 cases jH h2
 exact ⟨a,ss,k,j,rfl,rfl,h1,hj,hno,kn .non _ _ _ rfl (r.wrote (ys:=(ss.eraseIdx j).map .str) ja h1 ph) (.wrote ja h1) q⟩⟩
variable {a b c:Expr} {ta tb tc:dz} {pos:Pos}
def wU (q q':m7) (ta tb tc:dz):dz:=λτ J Q=>ta τ J λx J1=>tb τ J1 λy J2=>q x y J2 λz J3=>Kl z λk=>(if k=true then tc τ J3 λw J4=>q' y w J4 Q else Q (.bl false) J3)
theorem zM {r r':R2} {q q':m7} (lr:LR X.K r q) (lr':LR X.K r' q'):∀σ H Q,LE X.K G (wU q q' ta tb tc) σ H Q→L2.GP r r' (LE X.K G ta) (LE X.K G tb) (LE X.K G tc) σ H Q:=λσ H Q ⟨τ,J,Q2,a2,hh,k⟩=>⟨τ,J,_,a2,hh,λx J1 v H1 rx r1 e1 q1=>⟨τ,J1,_,a2.go r1 e1,q1,λy J2 w H2 ry r2 e2 q2 =>
  lr J2 H2 x y v w _ _ (e2.rep rx) ry r2 q2 λz J3 u H3 rz r3 e3 hz=>by
   obtain ⟨kk,ez,q3⟩:=oY hz
   subst ez;cases rz
   refine ⟨kk,rfl,?_⟩
   cases kk with
   | false=>simp only [TJ,if_false] at q3 ⊢;exact k (.bl false) J3 _ H3 rfl r3 ((e1.trans e2).trans e3) q3
   | true =>
    simp only [if_true] at q3 ⊢
    exact ⟨τ,J3,_,((a2.go r1 e1).go r2 e2).go r3 e3,q3,λw2 J4 u4 H4 r4 rr4 e4 q4=>lr' J4 H4 y w2 w u4 Q2 Q ((e3.trans e4).rep ry) r4 rr4 q4 λz' J' u' H' rz' rr' ee' qq=>k z' J' u' H' rz' rr' ((((e1.trans e2).trans e3).trans e4).trans ee') qq⟩⟩⟩
theorem Gk {op op':CmpOp} {q q':m7} (ho:m6 X (compareOp op) q) (ho':m6 X (compareOp op') q') (ha:RE X G a ta) (hb:RE X G b tb) (hc:RE X G c tc) (hm:lastMarks [op,op'] [b,c]=false:=by with_unfolding_all rfl) :
  RE X G (.Compare a [op,op'] [b,c] pos) (wU q q' ta tb tc):=by
 obtain ⟨r,h,lr⟩:=ho
 obtain ⟨r',h',lr'⟩:=ho'
 exact ⟨lX (L2.FU h h' ha.run hb.run hc.run hm) (zM lr lr')⟩
end
end Ov
namespace L2
open PySem PySem.Spec PyProof.Rows
def Sh (K:PySem.W.Frag) (a:Addr):It :=
 ⟨λi H=>∃xs x,dk K H a xs∧xs[i]?=some x,
  λi H z H'=>∃T x,H T=none∧z=.ref T∧H'=upd H T (.tup [.int (i:Nat),x])∧(∀xs,dk K H a xs→xs[i]?=some x),
  λi H=>∃xs,dk K H a xs∧xs.length≤i⟩
theorem D0 {P:Program} {w:World} {K:PySem.W.Frag} {elts:List Expr} {x1} {pos:Pos} {e it l:Addr} (ne:e≠it) :
  Turn P w K (.Tuple elts x1 pos) (Sh K l) [e,it] e (λi h=>(∃old,IsEnum h e it (i:Int) old)∧h.IsListIter it l i) where
 mem:=by simp
 obj:=λi h ⟨⟨old,he⟩,h1⟩ c hc=>by
  simp only [TC,TZ,or_false] at hc
  rcases hc with rfl | rfl
  ·exact ⟨_,he,λv z=>by cases z⟩
  ·obtain ⟨o,e,c,d⟩:=h1;exact ⟨o,e,λv z=>by rw [d] at z;cases z⟩
 keep:=λi h h' ⟨⟨old,he⟩,h1⟩ k=>⟨⟨old,k e (by simp) _ he⟩,h1.at λo q=>k it (by simp) o q⟩
 item:=by
  intro X hP hw hK hc i pins s σ H E I hf st hg
  subst hP hw hK
  obtain ⟨⟨old,he⟩,h1⟩:=st
  obtain ⟨xs,x,hqx,hx⟩:=hg
  obtain ⟨its,rv,p,hzx⟩:=I.list hqx
  obtain ⟨u,hu,rx⟩:=rv.get hx
  refine wpAny_pyNext_enum_item he h1 p.isList (x:=u) (by simpa using hu) ne λh' a1 a3 a5 a6 hk=>?_
  refine ⟨_,rfl,wpAny_letOwnedTupleGo_enum a1 λh'' hz' hs'=>?_⟩
  have hT:H s.heap.objs.size=none:=I.hok.fresh (Tr _)
  have lt:∀{c o},s.heap.get? c=some o→c≠s.heap.objs.size:=λe=>TV (Heap.lt_size e)
  have I0:Inv X pins σ (upd H s.heap.objs.size (.tup [.int (i:Nat),x])) { s with heap:=s.heap.push { cls:=.type "tuple",data:=.seq #[.int i s.toks,u] },toks:=s.toks + 1 }:=I.laid (t':=s.toks + 1) (λb u e=>Heap.get?_push_of_some _ e) (Tr _) ⟨by simp [sizeLine],[.int i s.toks,u],.cons ⟨_,rfl⟩ (.cons rx .nil),⟨_,Heap.get?_push_size _ rfl,rfl,_,rfl⟩⟩
  have fpn:∀b∈[e,it],b≠s.heap.objs.size:=λb hb=>by
   simp only [TC,TZ,or_false] at hb
   rcases hb with rfl | rfl
   ·exact lt he
   ·obtain ⟨o,e,_⟩:=h1;exact lt e
  have fpu:∀b∈[e,it],lU X pins (upd H s.heap.objs.size (.tup [.int (i:Nat),x])) b:=λb hb=>⟨by rw [aW (fpn b hb)];exact (hf b hb).1,(hf b hb).2⟩
  have I1:Inv X pins σ (upd H s.heap.objs.size (.tup [.int (i:Nat),x])) { s with heap:=h'',toks:=s.toks + 1 }:=Inv.qS (s:={ s with heap:=s.heap.push { cls:=.type "tuple",data:=.seq #[.int i s.toks,u] },toks:=s.toks + 1 }) (t':=s.toks + 1) (ch:=[e,it]) I0 (λb o hb eb=>by
   simp only [TC,TZ,or_false,not_or] at hb
   rcases Heap.get?_push_cases eb with ⟨rfl,rfl⟩ | e'
   ·exact hs'.extBut _ _ hb.1 a5
   ·exact hs'.extBut _ _ hb.1 (hk b o hb.1 hb.2 e')) fpu
  refine ⟨.ref s.heap.objs.size,_,I1,rfl,⟨_,x,hT,rfl,rfl,λzs hq=>by rw [I.kr hq hqx];exact hx⟩,⟨⟨_,by rw [Int.natCast_add];exact hz'⟩,a3.extBut hs'.extBut (Ne.symm ne)⟩,λb hb=>(fpu b hb).1⟩
 done:=by
  intro X hP hw hK hc i pins s σ H E I hf st hg
  subst hP hw hK
  obtain ⟨⟨old,he⟩,h1⟩:=st
  obtain ⟨xs,hqx,hl⟩:=hg
  obtain ⟨its,rv,p,hzx⟩:=I.list hqx
  have e1:=rv.length
  refine wpAny_pyNext_enum_end (I.ok.hd hc) he h1 p.isList (by rw [List.getElem?_toArray,Vg];omega) λh' hk=>⟨rfl,I.qS (t':=s.toks) (ch:=[e,it]) (λb o hb e=>?_) hf⟩
  simp only [TC,TZ,or_false,not_or] at hb
  exact hk b o hb.2 e
 self:=λ_ _ _ _ _ st h=>let ⟨⟨_,he⟩,_⟩:=st;wpAny_pyIter_enum he h
def N4 (K:PySem.W.Frag) (ta:TA):TI:=λσ H R=>ta σ H λvs H1=>∃a xs,vs=[.ref a]∧dk K H1 a xs∧R (Sh K a) H1
section
variable {X:Cx}
theorem IH {l:Expr} {elts:List Expr} {x1} {tp:Pos} {ta:TA} {p pos:Pos} (hg:Gl X "enumerate") (hm:X.mg "enumerate"=none) (ha:PA X [l] ta) (hs:starEach [l] X.env=(false,eval l X.env) :: starEach [] X.env:=by rfl) (hp:(backTo pos (starEach [] X.env)).any (·.1)=false:=by rfl):PI X (.Tuple elts x1 tp) (.Call (.Name "enumerate" p) [l] [] pos) (N4 X.K ta):=by
 intro pins s σ H R I h
 refine Call_ (mr I hg hm PyProof.Rows.Boot.«enumerate» (PyProof.Rows.callWith_type1 (cE (ha pos pins s σ H _ I h) λus s1 ⟨vs,H1,I1,r1,q1⟩=>?_) hs hp))
 obtain ⟨a,xs,e,hqa,q⟩:=q1
 subst e
 cases r1 with
 | cons r rr =>
  cases rr
  cases r
  obtain ⟨its,rv,pl,hz⟩:=I1.list hqa
  refine call_enumerate_list pl.isList ?_
  intro h' b1 b2 b6 hk
  refine wpAny_pyIter_enum b1 ?_
  have ne:s1.heap.objs.size + 1≠s1.heap.objs.size:=Nat.succ_ne_self _
  refine ⟨_,_,_,_,H1,rfl,I1.kept (t':=s1.toks) hk,D0 ne,⟨⟨_,b1⟩,b2⟩,λc hc=>?_,q⟩
  have hc':s1.heap.objs.size≤c:=by
   simp only [TC,TZ,or_false] at hc
   show @LE.le Nat _ _ _
   rcases hc with rfl | rfl
   ·exact UE _ _
   ·exact Tr _
  exact I1.C7 hc' (I1.hok.fresh hc')
end
end L2
namespace Ov
open PySem PySem.Spec PyProof.Rows
open L2 (V HO Hp Inv Cx VK XK TE TT TA TS TG qh TI TO j6 Ends vM Loc Gl Rd RelV Vals fT xJ cx p9 tJ qg j5 R2 upd aK aW dk g7 Sp qW It bJ c_ bW Passes pM aL Meth Mk Binds aP cm aw dt gm fm)
def x9 (xs:List PV):List PV:=(UG xs.length).zipWith (λi x=>PV.tup [.int ((i:Nat):Int),x]) xs
theorem lG (xs:List PV):(x9 xs).length=xs.length:=by unfold x9;simp
theorem uT (xs:List PV) (i:Nat) (x:PV) (h:xs[i]?=some x):(x9 xs)[i]?=some (.tup [.int (i:Int),x]):=by
 unfold x9
 obtain ⟨hi,e⟩:=Tj.mp h
 rw [List.getElem?_zipWith,VD hi,h]
section
variable {X:Cx} {G:G2}
def Sx (ta:pO):tK:=λτ J R=>ta τ J λvs J1=>DG vs λx=>wz (my J1 x) λxs=>R ⟨x9 xs,λJ'=>my J' x=some xs⟩ J1
theorem I_ {l:Expr} {elts:List Expr} {x1} {tp:Pos} {ta:pO} {p pos:Pos} (hg:Gl X "enumerate") (hm:X.mg "enumerate"=none) (ha:RA X G [l] ta) (hs:starEach [l] X.env=(false,eval l X.env) :: starEach [] X.env:=by rfl) (hp:(backTo pos (starEach [] X.env)).any (·.1)=false:=by rfl) :
  RI X G (.Tuple elts x1 tp) (.Call (.Name "enumerate" p) [l] [] pos) (Sx ta):=⟨Nv (L2.IH hg hm ha.run hs hp) λσ H R ⟨τ,J,R2,a2,h,k⟩=>⟨τ,J,_,a2,h,λvs J1 us H1 rs r1 e1 hh=>by
 obtain ⟨x,ev,hh⟩:=jC hh;obtain ⟨xs,hx,q⟩:=eW hh
 subst ev
 obtain ⟨v,us',rfl,rv,e'⟩:=rs
 cases e'
 obtain ⟨a,ws,rfl,h1,h2⟩:=oV hx rv r1
 refine ⟨a,ws,rfl,h1,k _ J1 _ H1 ?_ r1 e1 q⟩
 have at_:∀J' H',Ext X.K J1 H1 J' H'→Rep X.K J' H'→my J' x=some xs→∃vs,dk X.K H' a vs∧aS X.K J' H' xs vs:=λJ' H' e r o=>by
  obtain ⟨c,vs,eb,g1,g2⟩:=oV o (e.rep rv) r
  cases eb
  exact ⟨vs,g1,g2⟩
 exact {
  go:=λJ' H' e r o i hi=>by
   obtain ⟨vs,s,rs⟩:=at_ J' H' e r o
   rw [lG] at hi
   exact ⟨vs,vs[i]'(by rw [← rs.length];exact hi),s,by simp⟩
  yl:=λJ' H' e r o i hi v H2 y=>by
   obtain ⟨vs,s,rs⟩:=at_ J' H' e r o
   obtain ⟨T,z,hT,rfl,rfl,y1⟩:=y
   obtain ⟨c,ec,rc⟩:=rs.get' (y1 vs s)
   have sm:=bJ.new hT (.tup [.int (i:Nat),z])
   have e2:=Ext.same (K:=X.K) (J:=J') sm
   refine ⟨.tup [.int (i:Int),c],uT _ _ _ ec,⟨T,[.int (i:Nat),z],rfl,.inl (.inl aK),e2.jg ⟨.int (i:Nat),_,rfl,rfl,z,_,rfl,rc,rfl⟩⟩,r.same sm,e2⟩
  stop:=λJ' H' e r o=>by
   obtain ⟨vs,s,rs⟩:=at_ J' H' e r o
   exact ⟨vs,s,by rw [lG,← rs.length];exact Tr _⟩ }⟩⟩
end
section
variable {X:Cx} {pins:List (Addr × Obj)} {σ:L2.St} {H:Hp} {s:Shared}
open Classical in
def eT (K:PySem.W.Frag) (H:Hp) (zs:List Py) (y:Py) (u:Value):Bool:=decide (∃z∈zs,∃v,RelV v u∧At K H z v∧lH z y=true)
end
section
variable {X:Cx} {G:G2}
end
end Ov
namespace Ov
open PySem
structure aB where
 m:Rat
 h:Str
 f:Str
 deriving DecidableEq
def slt (a b:Str):Prop:=a.cps.toList < b.cps.toList
instance (a b:Str):Decidable (slt a b):=inferInstanceAs (Decidable (a.cps.toList < b.cps.toList))
def aB.lt (a b:aB):Bool:=if a.m=b.m then (if a.h=b.h then decide (slt a.f b.f) else decide (slt a.h b.h)) else decide (a.m < b.m)
theorem oh (a:Str):¬ slt a a:=List.lt_irrefl _
theorem pG {a b c:Str} (h:slt a b) (k:slt b c):slt a c:=List.lt_trans h k
theorem Fz:∀(a b:List Nat),a≠b→a < b∨b < a
 | [],[],h=>absurd rfl h
 | [],_ :: _,_=>.inl (VN _ _)
 | _ :: _,[],_=>.inr (VN _ _)
 | x :: a,y :: b,h=>by
  rcases VI x y with z | z | z
  ·exact .inl (UI.mpr (.inl z))
  ·subst z
   rcases Fz a b (λe=>h (by rw [e])) with q | q
   ·exact .inl (UI.mpr (.inr ⟨rfl,q⟩))
   ·exact .inr (UI.mpr (.inr ⟨rfl,q⟩))
  ·exact .inr (UI.mpr (.inl z))
theorem xq {a b:Str} (h:a≠b):slt a b∨slt b a:=by
 have ne:a.cps.toList≠b.cps.toList:=λe=>h (by cases a;cases b;simp at e;rw [e])
 exact Fz _ _ ne
theorem MY {a b:Str} (h:slt a b):a≠b:=λe=>by subst e;exact oh _ h
theorem aB.lt_iff (a b:aB):a.lt b=true↔a.m < b.m∨(a.m=b.m∧(slt a.h b.h∨(a.h=b.h∧slt a.f b.f))):=by
 unfold aB.lt
 by_cases e:a.m=b.m
 ·rw [if_pos e]
  have n:¬ a.m < b.m:=by rw [e];exact Rat.lt_irrefl
  by_cases k:a.h=b.h
  ·rw [if_pos k]
   have n2:¬ slt a.h b.h:=λz=>MY z k
   simp [e,k,n,n2]
   try (intro z;first | exact absurd z Rat.lt_irrefl | exact absurd z (oh _))
  ·rw [if_neg k]
   simp [e,k]
   try (intro z;exact absurd z Rat.lt_irrefl)
 ·rw [if_neg e]
  simp [e]
theorem aB.L5 (a:aB):a.lt a=false:=by
 cases h:a.lt a with
 | false=>rfl
 | true =>
  rcases (aB.lt_iff a a).mp h with h | ⟨_,h | ⟨_,h⟩⟩
  ·exact absurd h Rat.lt_irrefl
  ·exact absurd h (oh _)
  ·exact absurd h (oh _)
theorem vh {a b c:Rat} (h:a < b) (k:b < c):a < c:=by grind
theorem aB.lt_trans {a b c:aB} (h:a.lt b=true) (k:b.lt c=true):a.lt c=true:=by
 rw [aB.lt_iff] at *
 rcases h with h | ⟨e,h⟩ <;> rcases k with k | ⟨e',k⟩
 ·exact .inl (vh h k)
 ·exact .inl (e' ▸ h)
 ·exact .inl (e ▸ k)
 ·refine .inr ⟨e.trans e',?_⟩
  rcases h with h | ⟨z,h⟩ <;> rcases k with k | ⟨z',k⟩
  ·exact .inl (pG h k)
  ·exact .inl (z' ▸ h)
  ·exact .inl (z ▸ k)
  ·exact .inr ⟨z.trans z',pG h k⟩
theorem aB.Ft {a b:aB} (h:a≠b):a.lt b=true∨b.lt a=true:=by
 rw [aB.lt_iff,aB.lt_iff]
 by_cases e:a.m=b.m
 ·by_cases z:a.h=b.h
  ·have:a.f≠b.f:=λq=>h (by cases a;cases b;simp_all)
   rcases xq this with q | q
   ·exact .inl (.inr ⟨e,.inr ⟨z,q⟩⟩)
   ·exact .inr (.inr ⟨e.symm,.inr ⟨z.symm,q⟩⟩)
  ·rcases xq z with q | q
   ·exact .inl (.inr ⟨e,.inl q⟩)
   ·exact .inr (.inr ⟨e.symm,.inl q⟩)
 ·rcases (by grind:a.m < b.m∨b.m < a.m) with q | q
  ·exact .inl (.inl q)
  ·exact .inr (.inl q)
def jq (l:List aB):Prop:=l.Pairwise λa b=>a.lt b=true
def i4 (b:aB) (l:List aB):List aB:=l.filter (λx=>x.lt b) ++ b :: l.filter (λx=>!x.lt b)
def vj (h f:Str) (x:aB):Bool:=decide (x.h=h∧x.f=f)
def cX (h f:Str) (l:List aB):List aB:=l.filter λx=>!vj h f x
theorem uQ {h f:Str} {l:List aB} (s:jq l):jq (cX h f l):=s.filter _
theorem yc {b:aB} {l:List aB} (s:jq l) (n:∀x∈l,x≠b):jq (i4 b l):=by
 unfold i4 jq
 rw [VA]
 refine ⟨s.filter _,?_,?_⟩
 ·rw [UZ]
  refine ⟨λy hy=>?_,s.filter _⟩
  rw [TB] at hy
  rcases aB.Ft (n y hy.1) with q | q
  ·simp [q] at hy
  ·exact q
 ·intro x hx y hy
  rw [TB] at hx
  rcases TC.mp hy with rfl | hy
  ·exact hx.2
  ·rw [TB] at hy
   rcases aB.Ft (n y hy.1) with q | q
   ·simp [q] at hy
   ·exact aB.lt_trans hx.2 q
theorem HG {h f:Str} {l:List aB} {m:Rat}:∀x∈cX h f l,x≠⟨m,h,f⟩:=λx hx e=>by
 subst e
 unfold cX at hx
 rw [TB] at hx
 simp [vj] at hx
theorem vd (p:aB→Bool):∀{l:List aB} {i:Nat},i≤l.length→(∀(j:Nat) x,j < i→l[j]?=some x→p x=true)→(∀(j:Nat) x,i≤j→l[j]?=some x→p x=false)→l.take i ++ l.drop i=l∧l.filter p=l.take i∧l.filter (λx=>!p x)=l.drop i
 | l,0,_,_,h=>by
  refine ⟨by simp,?_,?_⟩
  ·rw [List.take_zero]
   apply Vr.mpr
   intro x hx
   obtain ⟨j,hj⟩:=TM.mp hx
   rw [h j x (T3 _) hj];simp
  ·rw [Vf]
   apply Ui.mpr
   intro x hx
   obtain ⟨j,hj⟩:=TM.mp hx
   rw [h j x (T3 _) hj];rfl
 | [],i + 1,hi,_,_=>by simp at hi
 | x :: l,i + 1,hi,h1,h2=>by
  obtain ⟨a,b,c⟩:=vd p (l:=l) (i:=i) (by simpa using hi) (λj y hj e=>h1 (j + 1) y (by omega) (by simpa using e)) (λj y hj e=>h2 (j + 1) y (by omega) (by simpa using e))
  have hx:p x=true:=h1 0 x (by omega) rfl
  refine ⟨by simp,?_,?_⟩
  ·rw [T5,hx];simp [b]
  ·rw [T5,hx];simp [c]
theorem vW {b:aB} {l:List aB} {i:Nat} (hi:i≤l.length) (h1:∀(j:Nat) x,j < i→l[j]?=some x→x.lt b=true) (h2:∀(j:Nat) x,i≤j→l[j]?=some x→x.lt b=false):l.take i ++ b :: l.drop i=i4 b l:=by
 obtain ⟨_,e1,e2⟩:=vd (λx=>x.lt b) hi h1 h2
 unfold i4
 rw [e1,e2]
theorem Cr {l:List aB} {b x y:aB} {i j:Nat} (s:jq l) (hx:l[i]?=some x) (hy:l[j]?=some y) (h:j≤i) (k:x.lt b=true):y.lt b=true:=by
 rcases U0 h with h | h
 ·obtain ⟨hi,ei⟩:=Tj.mp hx
  obtain ⟨hj,ej⟩:=Tj.mp hy
  have:=Ub.mp s j i hj hi h
  rw [ei,ej] at this
  exact aB.lt_trans this k
 ·subst h;rw [hx] at hy;cases hy;exact k
theorem tu {l:List aB} {b x y:aB} {i j:Nat} (s:jq l) (hx:l[i]?=some x) (hy:l[j]?=some y) (h:i≤j) (k:x.lt b=false):y.lt b=false:=by
 cases q:y.lt b with
 | false=>rfl
 | true=>rw [Cr s hy hx h q] at k;cases k
theorem EZ {b x:aB} {l:List aB} (h:x∈i4 b l):x=b∨x∈l:=by
 unfold i4 at h
 rcases Tv.mp h with h | h
 ·exact .inr (TB.mp h).1
 ·rcases TC.mp h with h | h
  ·exact .inl h
  ·exact .inr (TB.mp h).1
theorem nk (p:aB→Bool):∀l:List aB,(l.filter p).length + (l.filter λx=>!p x).length=l.length
 | []=>rfl
 | x :: l=>by
  have:=nk p l
  cases h:p x <;> simp [h] <;> omega
theorem rM (b:aB) (l:List aB):(i4 b l).length=l.length + 1:=by
 unfold i4
 rw [TN,TU]
 have:=nk (λx=>x.lt b) l
 omega
theorem oJ (h f:Str) (l:List aB):(cX h f l).length≤l.length:=Uu _ _
structure aQ where
 m:Rat
 p:Rat
 v:Int
 deriving DecidableEq
def aQ.at (l:aQ) (t:Rat):Rat:=l.p + (t - l.m) * l.v
def turned (rows:List aQ) (t:Rat) (v:Int):List aQ :=
 match rows.getLast? with
 | none=>[]
 | some l =>
  let rest:=if l.m=t then rows.dropLast else rows
  if rest.getLast?.map aQ.v=some v then rest else rest ++ [⟨t,l.at t,v⟩]
theorem ip (ls:List aQ) (l:aQ) (t:Rat) (v:Int):turned (ls ++ [l]) t v =
  if l.m=t then (if ls.getLast?.map aQ.v=some v then ls else ls ++ [⟨t,l.at t,v⟩]) else (if l.v=v then ls ++ [l] else ls ++ [l] ++ [⟨t,l.at t,v⟩]):=by
 unfold turned
 simp only [T2,Uz]
 split
 ·rfl
 ·simp only [T2,U9,Option.some.injEq]
theorem vt {rows:List aQ} {t:Rat} {v:Int} (h:rows≠[]):turned rows t v≠[]:=by
 obtain ⟨ls,l,rfl⟩:∃ls l,rows=ls ++ [l]:=⟨rows.dropLast,rows.getLast h,(T9 h).symm⟩
 rw [ip]
 split
 ·split
  ·rename_i e
   intro z;subst z;cases e
  ·simp
 ·split <;> simp
theorem A7 {rows:List aQ} {t:Rat} {v:Int} {x:aQ} (h:x∈turned rows t v):x∈rows∨∃l∈rows,x=⟨t,l.at t,v⟩:=by
 by_cases e:rows=[]
 ·subst e;cases h
 obtain ⟨ls,l,rfl⟩:∃ls l,rows=ls ++ [l]:=⟨rows.dropLast,rows.getLast e,(T9 e).symm⟩
 rw [ip] at h
 have key:∀{y:List aQ},(∀z∈y,z∈ls ++ [l])→x∈y ++ [⟨t,l.at t,v⟩]→x∈ls ++ [l]∨∃l'∈ls ++ [l],x=⟨t,l'.at t,v⟩:=λhy hx=>by
  rcases Tv.mp hx with h | h
  ·exact .inl (hy _ h)
  ·exact .inr ⟨l,by simp,by simpa using h⟩
 split at h
 ·split at h
  ·exact .inl (Tv.mpr (.inl h))
  ·exact key (λz hz=>Tv.mpr (.inl hz)) h
 ·split at h
  ·exact .inl h
  ·exact key (λz hz=>hz) h
theorem mS (rows:List aQ) (t:Rat) (v:Int):(turned rows t v).length≤rows.length + 1:=by
 by_cases e:rows=[]
 ·subst e;simp [turned]
 obtain ⟨ls,l,rfl⟩:∃ls l,rows=ls ++ [l]:=⟨rows.dropLast,rows.getLast e,(T9 e).symm⟩
 rw [ip]
 split <;> split <;> simp <;> omega
def h_ (rows:List aQ) (t:Rat):Option aQ:=(rows.filter λl=>decide (l.m≤t)).getLast?
def lb (ms:List Rat) (t:Rat):Nat→Nat
 | 0=>0
 | k + 1=>if ms.getD k 0≤t then k + 1 else lb ms t k
theorem Kb (ms:List Rat) (t:Rat):∀k,lb ms t k≤k
 | 0=>Tr _
 | k + 1=>by unfold lb;split;exact Tr _;exact Nat.le_succ_of_le (Kb ms t k)
theorem Fh {ms:List Rat} {t:Rat} {j:Nat} (h:ms.getD j 0≤t):∀{k},j < k→0 < lb ms t k
 | 0,hk=>absurd hk (U_ _)
 | k + 1,hk=>by
  unfold lb
  split
  ·exact Nat.succ_pos _
  ·rename_i c
   exact Fh h (by rcases Nat.lt_succ_iff_lt_or_eq.mp hk with e | e;exact e;subst e;exact absurd h c)
theorem BO (t:Rat) (rows:List aQ):∀k,k≤rows.length→((rows.take k).filter λl=>decide (l.m≤t)).getLast?=if lb (rows.map aQ.m) t k=0 then none else rows[lb (rows.map aQ.m) t k - 1]?
 | 0,_=>rfl
 | k + 1,hk=>by
  have hk':k < rows.length:=by omega
  have e:rows.take (k + 1)=rows.take k ++ [rows[k]]:=by rw [TR,Tn hk'];rfl
  have em:(rows.map aQ.m).getD k 0=rows[k].m:=by simp [Wf,hk']
  rw [e,UW]
  unfold lb
  rw [em]
  by_cases c:rows[k].m≤t
  ·rw [if_pos c,T5,if_pos (decide_eq_true c),Vv,T2,if_neg (Nat.succ_ne_zero _),Nat.add_sub_cancel,Tn hk']
  ·rw [if_neg c,T5,if_neg (by simp [c]),Vv,Uj]
   exact BO t rows k (by omega)
theorem Fn (rows:List aQ) (t:Rat):h_ rows t=if lb (rows.map aQ.m) t rows.length=0 then none else rows[lb (rows.map aQ.m) t rows.length - 1]?:=by
 have:=BO t rows rows.length (Tr _)
 rw [T1] at this
 exact this
def NT (g:Option Rat) (t:Rat):Bool:=match g with | none=>true | some q=>decide (t < q)
def there (rows:List aQ) (g:Option Rat) (t:Rat):Bool :=
 match rows.head? with
 | none=>false
 | some l=>!decide (t < l.m) && NT g t
theorem zi {rows:List aQ} {g:Option Rat} {t:Rat} (h:there rows g t=true):∃l,h_ rows t=some l∧l∈rows∧l.m≤t∧0 < lb (rows.map aQ.m) t rows.length∧rows[lb (rows.map aQ.m) t rows.length - 1]?=some l:=by
 cases rows with
 | nil=>cases h
 | cons l0 ls =>
  have h0:l0.m≤t:=by
   unfold there at h
   simp only [U',T4,VH,decide_eq_false_iff_not] at h
   exact Rat.not_lt.mp h.1
  have hp:0 < lb ((l0 :: ls).map aQ.m) t (l0 :: ls).length:=Fh (j:=0) (by simpa using h0) (by simp)
  have hle:=Kb ((l0 :: ls).map aQ.m) t (l0 :: ls).length
  have hx:=Fn (l0 :: ls) t
  rw [if_neg (by omega)] at hx
  obtain ⟨l,hl⟩:∃l,(l0 :: ls)[lb ((l0 :: ls).map aQ.m) t (l0 :: ls).length - 1]?=some l:=⟨_,Tn (by omega)⟩
  rw [hl] at hx
  have hm:=List.mem_of_getLast? hx
  rw [TB] at hm
  exact ⟨l,hx,hm.1,of_decide_eq_true hm.2,hp,hl⟩
def Sc (D A:Nat) (q:Rat):Prop:=∃a:Int,q * (D:Rat)=(a:Rat)∧a.natAbs≤A
theorem Sc.mono {D A B:Nat} {q:Rat} (h:Sc D A q) (k:A≤B):Sc D B q:=let ⟨a,e,l⟩:=h;⟨a,e,TK l k⟩
theorem Oz {D:Nat} (h:0 < D):(D:Rat)≠0:=by
 intro e
 have:D=0:=by exact_mod_cast e
 omega
theorem Sc.sz {D A n:Nat} {q:Rat} (h:Sc D A q) (hD:0 < D) (h1:D < 2 ^ n) (h2:A < 2 ^ n):Sz n q:=by
 obtain ⟨a,e,l⟩:=h
 have nz:=Oz hD
 have:q=Rat.divInt a (D:Int):=by
  rw [Rat.divInt_eq_div,← e]
  have:((D:Int):Rat)=(D:Rat):=rfl
  rw [this]
  generalize (D:Rat)=d at nz ⊢
  grind
 rw [this]
 exact Sz.div ⟨Ul l h2⟩ ⟨by simpa using h1⟩ (by omega)
theorem Sc.scale {D A E:Nat} {p:Rat} (h:Sc D A p):Sc (E * D) (E * A) p:=by
 obtain ⟨a,e,l⟩:=h
 refine ⟨E * a,?_,?_⟩
 ·rw [Rat.intCast_mul,← e]
  have h1:((E * D:Nat):Rat)=(E:Rat) * (D:Rat):=Rat.natCast_mul ..
  have h2:((E:Int):Rat)=(E:Rat):=rfl
  rw [h1,h2]
  grind
 ·rw [Int.natAbs_mul];exact Nat.mul_le_mul (by simp) l
theorem Sc.L9 {D A:Nat} {t:Int} {b:Nat} (hb:0 < b) (hd:b ∣ D) (hA:t.natAbs * (D / b)≤A):Sc D A (Rat.divInt t b):=by
 obtain ⟨c,rfl⟩:=hd
 rw [Vo _ hb] at hA
 refine ⟨t * c,?_,by rw [Int.natAbs_mul];simpa using hA⟩
 have nb:=Oz hb
 have e1:((b:Int):Rat)=(b:Rat):=rfl
 have e2:((c:Int):Rat)=(c:Rat):=rfl
 rw [Rat.divInt_eq_div,Rat.intCast_mul,e1,e2,Rat.natCast_mul]
 generalize (b:Rat)=b at nb ⊢
 grind
def iq:Nat:=9690712164777231700912800
theorem SF:∀b:Nat,1≤b→b≤60→b ∣ iq:=by
 intro b h1 h2
 have:∀b:Fin 61,1≤b.val→b.val ∣ iq:=by decide
 exact this ⟨b,by omega⟩ h1
theorem v3:0 < iq:=by decide
def MM:Nat:=2097152 * iq
structure S1 (D k:Nat) (l:aQ):Prop where
 m:Sc iq MM l.m
 p:Sc (D * iq) (iq * 2 ^ 101 + k * (2000 * (D * MM))) l.p
 v:l.v.natAbs≤1000
theorem Oy:MM < 2 ^ 106:=by decide
theorem pW {q:Rat} (h:Sc iq MM q):Sz 106 q:=h.sz v3 (by decide) Oy
structure Gd (D k:Nat) (rows:List aQ):Prop where
 ne:rows≠[]
 ok:∀l∈rows,S1 D k l
 len:rows.length≤k + 1
def Later (c q:Rat):Prop:=q=c∨∃u s:Nat,1≤u∧u≤60∧1≤s∧s≤500 * u∧q=Rat.divInt ((c.num * u).fdiv c.den + s) u
theorem Later.sc {c q:Rat} {A:Nat} (h:Later c q) (k:Sc iq A c):Sc iq (A + 501 * iq) q:=by
 rcases h with rfl | ⟨u,s,h1,h2,h3,h4,rfl⟩
 ·exact k.mono (UE _ _)
 obtain ⟨a,e,l⟩:=k
 obtain ⟨w,hw⟩:=SF u h1 h2
 refine Sc.L9 (by omega) ⟨w,hw⟩ ?_
 have ew:iq / u=w:=by rw [hw,Vo _ (by omega)]
 rw [ew]
 have hf:((c.num * u).fdiv c.den) * c.den≤c.num * u∧c.num * u < ((c.num * u).fdiv c.den + 1) * c.den:=by
  rw [Int.fdiv_eq_ediv_of_nonneg _ (by omega)]
  have:=d6 c
  constructor
  ·exact Int.ediv_mul_le _ (by omega)
  ·have:=Int.lt_ediv_add_one_mul_self (c.num * u) this;exact this
 have ea:c.num * (iq:Int)=a * c.den:=by
  have h1:=cast_eq c
  have h2:=eg c
  have h3:((iq:Nat):Rat)=(((iq:Nat):Int):Rat):=rfl
  have:((c.num * (iq:Int):Int):Rat)=((a * c.den:Int):Rat):=by
   rw [Rat.intCast_mul,Rat.intCast_mul,h1,← e,h3]
   grind
  exact_mod_cast this
 have hL:(iq:Int)=u * w:=by rw [hw];simp
 have hw0:0 < w:=by
  rcases Nat.eq_zero_or_pos w with z | z
  ·rw [z,Nat.mul_zero] at hw;exact absurd hw (by decide)
  ·exact z
 rw [hL] at ea
 have hd:=d6 c
 generalize hF:(c.num * u).fdiv c.den=F at hf ⊢
 generalize hN:c.num=N at *
 generalize hDD:(c.den:Int)=d at *
 have g1:F * w≤a:=by
  have:F * w * d≤a * d:=by
   rw [← ea]
   have:=Int.mul_le_mul_of_nonneg_right hf.1 (show (0:Int)≤w by omega)
   calc F * w * d=F * d * w:=by rw [Int.mul_right_comm]
    _≤N * u * w:=this
    _=N * (u * w):=Int.mul_assoc ..
  exact Int.le_of_mul_le_mul_right this hd
 have g2:a≤(F + 1) * w:=by
  have:a * d≤(F + 1) * w * d:=by
   rw [← ea]
   have:=Int.mul_le_mul_of_nonneg_right (Int.le_of_lt hf.2) (show (0:Int)≤w by omega)
   calc N * (u * w)=N * u * w:=(Int.mul_assoc ..).symm
    _≤(F + 1) * d * w:=this
    _=(F + 1) * w * d:=by rw [Int.mul_right_comm]
  exact Int.le_of_mul_le_mul_right this hd
 have hsw:s * w≤500 * (u * w):=by
  calc s * w≤500 * u * w:=Nat.mul_le_mul_right _ h4
   _=500 * (u * w):=Nat.mul_assoc ..
 have huw:w≤u * w:=Nat.le_mul_of_pos_left _ (by omega)
 rw [hw]
 have:(F + s).natAbs * w=((F + s) * w).natAbs:=by rw [Int.natAbs_mul];simp
 rw [this,Int.add_mul]
 rw [Int.add_mul,Int.one_mul] at g2
 have hsw':(s:Int) * w≤500 * ((u * w:Nat):Int):=by exact_mod_cast hsw
 generalize F * (w:Int)=x at *
 have hs0:(0:Int)≤(s:Int) * w:=Int.mul_nonneg (by omega) (by omega)
 generalize (s:Int) * w=y at *
 generalize u * w=z at *
 omega
theorem Later.le {c q:Rat} (h:Later c q):c≤q:=by
 rcases h with rfl | ⟨u,s,h1,h2,h3,h4,rfl⟩
 ·exact Rat.le_refl
 have hf:c.num * u < ((c.num * u).fdiv c.den + 1) * c.den:=by
  rw [Int.fdiv_eq_ediv_of_nonneg _ (by omega)]
  exact Int.lt_ediv_add_one_mul_self (c.num * u) (d6 c)
 generalize (c.num * u).fdiv c.den=F at hf ⊢
 have h5:c.num * u≤(F + s) * c.den:=by
  have:(F + 1) * c.den≤(F + s) * c.den:=Int.mul_le_mul_of_nonneg_right (by omega) (by omega)
  omega
 have hu:(0:Rat) < (u:Rat):=by exact_mod_cast (show 0 < u by omega)
 have hd:(0:Rat) < ((c.den:Int):Rat):=by exact_mod_cast d6 c
 refine Rat.not_lt.mp λhlt=>?_
 rw [Rat.divInt_eq_div] at hlt
 have e1:((u:Int):Rat)=(u:Rat):=rfl
 rw [e1,Rat.div_lt_iff hu] at hlt
 have h6:=Rat.mul_lt_mul_of_pos_right hlt hd
 have e2:c * (u:Rat) * ((c.den:Int):Rat)=((c.num * u:Int):Rat):=by
  rw [Rat.intCast_mul,cast_eq c,e1];grind
 rw [e2,← Rat.intCast_mul] at h6
 have h7:(F + s) * c.den < c.num * u:=by exact_mod_cast h6
 omega
section
variable {α:Type} {lt:α→α→Bool}
def qi (lt:α→α→Bool) (b:α) (l:List α):List α:=l.filter (λx=>lt x b) ++ b :: l.filter (λx=>!lt x b)
def oF (lt:α→α→Bool) (l:List α):Prop:=l.Pairwise λa b=>lt a b=true
theorem FR (p:α→Bool):∀{l:List α} {i:Nat},i≤l.length→(∀(j:Nat) x,j < i→l[j]?=some x→p x=true)→(∀(j:Nat) x,i≤j→l[j]?=some x→p x=false)→l.filter p=l.take i∧l.filter (λx=>!p x)=l.drop i
 | l,0,_,_,h=>by
  refine ⟨?_,?_⟩
  ·rw [List.take_zero]
   apply Vr.mpr
   intro x hx
   obtain ⟨j,hj⟩:=TM.mp hx
   rw [h j x (T3 _) hj];simp
  ·rw [Vf]
   apply Ui.mpr
   intro x hx
   obtain ⟨j,hj⟩:=TM.mp hx
   rw [h j x (T3 _) hj];rfl
 | [],i + 1,hi,_,_=>by simp at hi
 | x :: l,i + 1,hi,h1,h2=>by
  obtain ⟨b,c⟩:=FR p (l:=l) (i:=i) (by simpa using hi) (λj y hj e=>h1 (j + 1) y (by omega) (by simpa using e)) (λj y hj e=>h2 (j + 1) y (by omega) (by simpa using e))
  have hx:p x=true:=h1 0 x (by omega) rfl
  refine ⟨?_,?_⟩
  ·rw [T5,hx];simp [b]
  ·rw [T5,hx];simp [c]
theorem BJ {b:α} {l:List α} {i:Nat} (hi:i≤l.length) (h1:∀(j:Nat) x,j < i→l[j]?=some x→lt x b=true) (h2:∀(j:Nat) x,i≤j→l[j]?=some x→lt x b=false):l.take i ++ b :: l.drop i=qi lt b l:=by
 obtain ⟨e1,e2⟩:=FR (λx=>lt x b) hi h1 h2
 unfold qi
 rw [e1,e2]
theorem yd {b x:α} {l:List α}:x∈qi lt b l↔x=b∨x∈l:=by
 unfold qi
 rw [Tv,TC,TB,TB]
 constructor
 ·rintro (h | h | h)
  ·exact .inr h.1
  ·exact .inl h
  ·exact .inr h.1
 ·rintro (h | h)
  ·exact .inr (.inl h)
  ·cases e:lt x b
   ·exact .inr (.inr ⟨h,by simp⟩)
   ·exact .inl ⟨h,rfl⟩
theorem E1 (b:α) (l:List α):(qi lt b l).length=l.length + 1:=by
 unfold qi
 rw [TN,TU]
 have:∀l:List α,(l.filter λx=>lt x b).length + (l.filter λx=>!lt x b).length=l.length:=by
  intro l
  induction l with
  | nil=>rfl
  | cons x l ih=>cases h:lt x b <;> simp [h] <;> omega
 have:=this l
 omega
theorem E3 (tr:∀{a b c},lt a b=true→lt b c=true→lt a c=true) {b:α} {l:List α} (s:oF lt l) (PL:∀x∈l,lt x b=true∨lt b x=true):oF lt (qi lt b l):=by
 unfold qi oF
 rw [VA]
 refine ⟨s.filter _,?_,?_⟩
 ·rw [UZ]
  refine ⟨λy hy=>?_,s.filter _⟩
  rw [TB] at hy
  rcases PL y hy.1 with q | q
  ·simp [q] at hy
  ·exact q
 ·intro x hx y hy
  rw [TB] at hx
  rcases TC.mp hy with rfl | hy
  ·exact hx.2
  ·rw [TB] at hy
   rcases PL y hy.1 with q | q
   ·simp [q] at hy
   ·exact tr hx.2 q
theorem zg (tr:∀{a b c},lt a b=true→lt b c=true→lt a c=true) {l:List α} {b x y:α} {i j:Nat} (s:oF lt l) (hx:l[i]?=some x) (hy:l[j]?=some y) (h:j≤i) (k:lt x b=true):lt y b=true:=by
 rcases U0 h with h | h
 ·obtain ⟨hi,ei⟩:=Tj.mp hx
  obtain ⟨hj,ej⟩:=Tj.mp hy
  have:=Ub.mp s j i hj hi h
  rw [ei,ej] at this
  exact tr this k
 ·subst h;rw [hx] at hy;cases hy;exact k
theorem DX (tr:∀{a b c},lt a b=true→lt b c=true→lt a c=true) {l:List α} {b x y:α} {i j:Nat} (s:oF lt l) (hx:l[i]?=some x) (hy:l[j]?=some y) (h:i≤j) (k:lt x b=false):lt y b=false:=by
 cases q:lt y b with
 | false=>rfl
 | true=>have:=zg (lt:=lt) (b:=b) tr s hy hx h q;rw [this] at k;cases k
theorem om (G_:∀a,lt a a=false) (tr:∀{a b c},lt a b=true→lt b c=true→lt a c=true):∀{l k:List α},oF lt l→oF lt k→(∀x,x∈l↔x∈k)→l=k
 | [],[],_,_,_=>rfl
 | [],y :: k,_,_,h=>by have:=(h y).mpr T6;cases this
 | x :: l,[],_,_,h=>by have:=(h x).mp T6;cases this
 | x :: l,y :: k,hl,hk,h=>by
  obtain ⟨a1,a2⟩:=UZ.mp hl
  obtain ⟨b1,b2⟩:=UZ.mp hk
  have exy:x=y:=by
   rcases TC.mp ((h x).mp T6) with e | e
   ·exact e
   ·rcases TC.mp ((h y).mpr T6) with e' | e'
    ·exact e'.symm
    ·have:=tr (a1 y e') (b1 x e)
     rw [G_] at this;cases this
  subst exy
  rw [om G_ tr a2 b2 λz=>?_]
  constructor
  ·intro hz
   rcases TC.mp ((h z).mp (TQ _ hz)) with e | e
   ·have:=a1 z hz;rw [e,G_] at this;cases this
   ·exact e
  ·intro hz
   rcases TC.mp ((h z).mpr (TQ _ hz)) with e | e
   ·have:=b1 z hz;rw [e,G_] at this;cases this
   ·exact e
end
structure Ky where
 p:Rat
 v:Int
 n:Str
 deriving DecidableEq
def Ky.lt (a b:Ky):Bool:=if a.p=b.p then (if a.v=b.v then decide (slt a.n b.n) else decide (a.v < b.v)) else decide (a.p < b.p)
theorem Ky.lt_iff (a b:Ky):a.lt b=true↔a.p < b.p∨(a.p=b.p∧(a.v < b.v∨(a.v=b.v∧slt a.n b.n))):=by
 unfold Ky.lt
 by_cases e:a.p=b.p
 ·rw [if_pos e]
  have n:¬ a.p < b.p:=by rw [e];exact Rat.lt_irrefl
  by_cases k:a.v=b.v
  ·rw [if_pos k,decide_eq_true_eq]
   have n2:¬ a.v < b.v:=by omega
   exact ⟨λh=>.inr ⟨e,.inr ⟨k,h⟩⟩,λh=>by
    rcases h with h | ⟨_,h | h⟩
    ·exact absurd h n
    ·exact absurd h n2
    ·exact h.2⟩
  ·rw [if_neg k,decide_eq_true_eq]
   exact ⟨λh=>.inr ⟨e,.inl h⟩,λh=>by
    rcases h with h | ⟨_,h | h⟩
    ·exact absurd h n
    ·exact h
    ·exact absurd h.1 k⟩
 ·rw [if_neg e,decide_eq_true_eq]
  exact ⟨.inl,λh=>by
   rcases h with h | h
   ·exact h
   ·exact absurd h.1 e⟩
theorem Ky.G_ (a:Ky):a.lt a=false:=by
 cases h:a.lt a with
 | false=>rfl
 | true =>
  rcases (Ky.lt_iff a a).mp h with h | ⟨_,h | ⟨_,h⟩⟩
  ·exact absurd h Rat.lt_irrefl
  ·omega
  ·exact absurd h (oh _)
theorem Ky.tr {a b c:Ky} (h:a.lt b=true) (k:b.lt c=true):a.lt c=true:=by
 rw [Ky.lt_iff] at *
 rcases h with h | ⟨e,h⟩ <;> rcases k with k | ⟨e',k⟩
 ·exact .inl (vh h k)
 ·exact .inl (e' ▸ h)
 ·exact .inl (e ▸ k)
 ·refine .inr ⟨e.trans e',?_⟩
  rcases h with h | ⟨z,h⟩ <;> rcases k with k | ⟨z',k⟩
  ·exact .inl (by omega)
  ·exact .inl (by omega)
  ·exact .inl (by omega)
  ·exact .inr ⟨z.trans z',pG h k⟩
theorem Ky.PL {a b:Ky} (h:a.n≠b.n):a.lt b=true∨b.lt a=true:=by
 rw [Ky.lt_iff,Ky.lt_iff]
 by_cases e:a.p=b.p
 ·by_cases z:a.v=b.v
  ·rcases xq h with q | q
   ·exact .inl (.inr ⟨e,.inr ⟨z,q⟩⟩)
   ·exact .inr (.inr ⟨e.symm,.inr ⟨z.symm,q⟩⟩)
  ·rcases (by omega:a.v < b.v∨b.v < a.v) with q | q
   ·exact .inl (.inr ⟨e,.inl q⟩)
   ·exact .inr (.inr ⟨e.symm,.inl q⟩)
 ·rcases (by grind:a.p < b.p∨b.p < a.p) with q | q
  ·exact .inl (.inl q)
  ·exact .inr (.inl q)
theorem Ky.NL {a b:Ky} (h:a.lt b=true):b.lt a=false:=by
 cases k:b.lt a with
 | false=>rfl
 | true=>have:=Ky.tr h k;rw [Ky.G_] at this;cases this
def cK (ks:List Ky):List Ky:=ks.foldl (λacc x=>qi Ky.lt x acc) []
theorem i_ (ks:List Ky) (x:Ky):cK (ks ++ [x])=qi Ky.lt x (cK ks):=by unfold cK;rw [Vj];rfl
theorem snoc_ind {α:Type} {p:List α→Prop} (h0:p []) (h1:∀l x,p l→p (l ++ [x])) (l:List α):p l:=by
 have:∀l:List α,p l.reverse:=by
  intro l
  induction l with
  | nil=>exact h0
  | cons x l ih=>rw [UJ];exact h1 _ _ ih
 have:=this l.reverse
 rwa [List.reverse_reverse] at this
theorem fI {α:Type} {l:List α} {x:α} (h:(l ++ [x]).Nodup):l.Nodup∧x ∉ l:=by
 rw [Uq] at h
 exact ⟨h.1,λhm=>h.2.2 x hm x (by simp) rfl⟩
theorem bB:∀(ks:List Ky) (x:Ky),x∈cK ks↔x∈ks:=by
 intro ks
 refine snoc_ind (p:=λks=>∀x:Ky,x∈cK ks↔x∈ks) (λx=>by simp [cK]) (λks y ih x=>?_) ks
 rw [i_,yd,ih,Tv,Tx]
 exact Or.comm
theorem cZ {ks:List Ky} (h:(ks.map Ky.n).Nodup):oF Ky.lt (cK ks):=by
 revert h
 refine snoc_ind (p:=λks=>(ks.map Ky.n).Nodup→oF Ky.lt (cK ks)) (λ_=>List.Pairwise.nil) (λks y ih h=>?_) ks
 ·rw [Ts,Tt,Uc] at h
  obtain ⟨h1,h2⟩:=fI h
  rw [i_]
  refine E3 (lt:=Ky.lt) Ky.tr (ih h1) λx hx=>Ky.PL λe=>h2 ?_
  rw [← e]
  exact Va ((bB ks x).mp hx)
theorem i9 (ks:List Ky):(cK ks).length=ks.length:=by
 refine snoc_ind (p:=λks=>(cK ks).length=ks.length) rfl (λks y ih=>?_) ks
 rw [i_,E1,ih,TN];rfl
theorem yF {ks js:List Ky} (h:(ks.map Ky.n).Nodup) (k:(js.map Ky.n).Nodup) (e:∀x,x∈ks↔x∈js):cK ks=cK js :=
 om (lt:=Ky.lt) Ky.G_ Ky.tr (cZ h) (cZ k) λx=>by rw [bB,bB];exact e x
def key (t:Rat) (x:Str × aQ):Ky:=⟨x.2.at t,x.2.v,x.1⟩
def cf (t:Rat) (fs:List (Str × aQ)):List Str:=(cK (fs.map (key t))).map Ky.n
theorem cO (t:Rat) (fs:List (Str × aQ)):(fs.map (key t)).map Ky.n=fs.map (·.1):=by rw [Tw];rfl
theorem yJ {t:Rat} {fs:List (Str × aQ)} {n:Str}:n∈cf t fs↔n∈fs.map (·.1):=by
 rw [← cO t fs]
 unfold cf
 rw [Ti,Ti]
 exact ⟨λ⟨x,h,e⟩=>⟨x,(bB _ _).mp h,e⟩,λ⟨x,h,e⟩=>⟨x,(bB _ _).mpr h,e⟩⟩
theorem sf (t:Rat) (fs:List (Str × aQ)):(cf t fs).length=fs.length:=by unfold cf;rw [Th,i9,Th]
theorem lS {l:List Ky} (s:oF Ky.lt l) (h:∀x∈l,∀y∈l,x.n=y.n→x=y):(l.map Ky.n).Nodup:=by
 refine List.pairwise_map.mpr (s.imp_of_mem λ{a b} ha hb hab e=>?_)
 have:=h a ha b hb e
 subst this
 rw [Ky.G_] at hab;cases hab
theorem i8 {ks:List Ky} (h:(ks.map Ky.n).Nodup):∀x∈ks,∀y∈ks,x.n=y.n→x=y:=by
 intro x hx y hy e
 obtain ⟨i,hi,rfl⟩:=T_ hx
 obtain ⟨j,hj,rfl⟩:=T_ hy
 have:=(Um (xs:=ks.map Ky.n) (i:=i) (j:=j) (h₀:=by simpa using hi) (h₁:=by simpa using hj) h).mp (by rw [Uo,Uo];exact e)
 subst this;rfl
theorem sh {t:Rat} {fs:List (Str × aQ)} (h:(fs.map (·.1)).Nodup):(cf t fs).Nodup:=by
 rw [← cO t fs] at h
 exact lS (cZ h) λx hx y hy e=>i8 h x ((bB _ _).mp hx) y ((bB _ _).mp hy) e
theorem yH {t:Rat} {fs gs:List (Str × aQ)} (h:(fs.map (·.1)).Nodup) (k:(gs.map (·.1)).Nodup) (e:∀x,x∈fs.map (key t)↔x∈gs.map (key t)):cf t fs=cf t gs:=by
 unfold cf
 rw [yF (by rw [cO];exact h) (by rw [cO];exact k) e]
theorem fS {α β:Type} {fs:List (Str × α)} {f:α→β} (h:(fs.map (·.1)).Nodup) {n:Str} {l:α} (hm:(n,l)∈fs):L2.j3 (fs.map λx=>(x.1,f x.2)) n=some (f l):=by
 induction fs with
 | nil=>cases hm
 | cons x fs ih =>
  rw [Tt,UB] at h
  rw [Tt,L2.lz]
  rcases TC.mp hm with e | e
  ·subst e;rw [if_pos rfl]
  ·have ne:x.1≠n:=λz=>h.1 (by rw [z];exact Va (f:=λx:Str × α=>x.1) e)
   rw [if_neg ne];exact ih h.2 e
theorem xG {α β:Type} {fs:List (Str × α)} {f:α→β} (h:(fs.map (·.1)).Nodup) {n:Str} (hm:n∈fs.map (·.1)):∃l,(n,l)∈fs∧L2.j3 (fs.map λx=>(x.1,f x.2)) n=some (f l):=by
 obtain ⟨⟨m,l⟩,hx,rfl⟩:=Ti.mp hm
 exact ⟨l,hx,fS h hx⟩
theorem JM {α β:Type} {fs:List (Str × α)} {f:α→β} {n:Str} (hm:n ∉ fs.map (·.1)):L2.j3 (fs.map λx=>(x.1,f x.2)) n=none:=by
 induction fs with
 | nil=>rfl
 | cons x fs ih =>
  rw [Tt,L2.lz]
  rw [Tt,TC,not_or] at hm
  rw [if_neg (λe=>hm.1 e.symm)];exact ih hm.2
theorem D4 {α β:Type} {fs:List (Str × α)} {f:α→β} {n:Str} (h:(fs.map (·.1)).Nodup):(L2.j3 (fs.map λx=>(x.1,f x.2)) n).isSome=decide (n∈fs.map (·.1)):=by
 by_cases hm:n∈fs.map (·.1)
 ·obtain ⟨l,_,e⟩:=xG (f:=f) h hm
  rw [e,decide_eq_true hm];rfl
 ·rw [JM hm,decide_eq_false hm];rfl
theorem o_ {α β:Type} {fs:List (Str × α)} {f:α→β} {n:Str} {l:α} (hm:n ∉ fs.map (·.1)):L2.oy (fs.map λx=>(x.1,f x.2)) n (f l)=(fs ++ [(n,l)]).map λx=>(x.1,f x.2):=by
 unfold L2.oy
 rw [if_neg,Ts]
 ·rfl
 ·intro h
  rw [Vp] at h
  obtain ⟨y,hy,e⟩:=h
  obtain ⟨x,hx,rfl⟩:=Ti.mp hy
  exact hm (by rw [← of_decide_eq_true e];exact Va (f:=λx:Str × α=>x.1) hx)
def PP:Nat:=1000000 * iq + 1000 * MM
structure tM (l:aQ):Prop where
 m0:0≤l.m
 m:Sc iq MM l.m
 p:∃a:Int,l.p * (iq:Rat)=(a:Rat)
 b0:-(1000000 + 1000 * l.m)≤l.p
 b1:l.p≤1000000 + 1000 * l.m
 v:l.v.natAbs≤1000
theorem N':(0:Rat) < (iq:Rat):=by
 have:((0:Nat):Rat) < ((iq:Nat):Rat):=Rat.natCast_lt_natCast.mpr v3
 simpa using this
theorem tM.sc {l:aQ} (h:tM l):Sc iq PP l.p:=by
 obtain ⟨a,ha⟩:=h.p
 obtain ⟨k,hk,hk1⟩:=h.m
 have hL:=N'
 have b0:=h.b0
 have b1:=h.b1
 have e1:(a:Rat)≤(((1000000 * iq + 1000 * k:Int)):Rat):=by
  rw [← ha,Rat.intCast_add,Rat.intCast_mul,Rat.intCast_mul,← hk]
  have:l.p * (iq:Rat)≤(1000000 + 1000 * l.m) * (iq:Rat):=Rat.mul_le_mul_of_nonneg_right b1 (Rat.le_of_lt hL)
  have e:(((iq:Nat):Int):Rat)=(iq:Rat):=rfl
  rw [e]
  grind
 have e2:(((-(1000000 * iq + 1000 * k):Int)):Rat)≤(a:Rat):=by
  rw [← ha,Rat.intCast_neg,Rat.intCast_add,Rat.intCast_mul,Rat.intCast_mul,← hk]
  have:-(1000000 + 1000 * l.m) * (iq:Rat)≤l.p * (iq:Rat):=Rat.mul_le_mul_of_nonneg_right b0 (Rat.le_of_lt hL)
  have e:(((iq:Nat):Int):Rat)=(iq:Rat):=rfl
  rw [e]
  grind
 have e1:=Rat.intCast_le_intCast.mp e1
 have e2:=Rat.intCast_le_intCast.mp e2
 refine ⟨a,ha,?_⟩
 unfold PP
 have:(k:Int)≤MM:=by omega
 have:-(MM:Int)≤k:=by omega
 omega
theorem OT:PP < 2 ^ 120:=by decide
theorem tM.Rr {l:aQ} (h:tM l):Sz 120 l.p:=h.sc.sz v3 (by decide) OT
theorem tM.Rc {l:aQ} (h:tM l):Sz 120 l.m:=(pW h.m).mono (by decide)
theorem tM.at {l:aQ} {t:Rat} {v:Int} (h:tM l) (h0:l.m≤t) (ht:Sc iq MM t) (hv:v.natAbs≤1000):tM ⟨t,l.at t,v⟩:=by
 have hm:=h.m0
 have t0:0≤t:=Rat.le_trans hm h0
 have d0:0≤t - l.m:=by grind
 have v1:(l.v:Rat)≤1000:=by
  have:((l.v:Int):Rat)≤((1000:Int):Rat):=Rat.intCast_le_intCast.mpr (by have:=h.v;omega)
  exact this
 have v2:-1000≤(l.v:Rat):=by
  have:((-1000:Int):Rat)≤((l.v:Int):Rat):=Rat.intCast_le_intCast.mpr (by have:=h.v;omega)
  exact this
 have m1:(t - l.m) * (l.v:Rat)≤(t - l.m) * 1000:=Rat.mul_le_mul_of_nonneg_left v1 d0
 have m2:(t - l.m) * (-1000)≤(t - l.m) * (l.v:Rat):=Rat.mul_le_mul_of_nonneg_left v2 d0
 have b0:=h.b0
 have b1:=h.b1
 refine ⟨t0,ht,?_,?_,?_,hv⟩
 ·obtain ⟨a,ha⟩:=h.p
  obtain ⟨k,hk,_⟩:=h.m
  obtain ⟨j,hj,_⟩:=ht
  refine ⟨a + (j - k) * l.v,?_⟩
  unfold aQ.at
  dsimp only
  rw [Rat.intCast_add,Rat.intCast_mul,Rat.intCast_sub,← ha,← hk,← hj]
  grind
 ·show -(1000000 + 1000 * t)≤l.p + (t - l.m) * (l.v:Rat)
  grind
 ·show l.p + (t - l.m) * (l.v:Rat)≤1000000 + 1000 * t
  grind
theorem tM.new {t:Rat} {p v:Int} (t0:0≤t) (ht:Sc iq MM t) (hp:p.natAbs≤1000000) (hv:v.natAbs≤1000):tM ⟨t,(p:Rat),v⟩:=by
 have p1:(p:Rat)≤1000000:=by
  have:((p:Int):Rat)≤((1000000:Int):Rat):=Rat.intCast_le_intCast.mpr (by omega)
  exact this
 have p2:-1000000≤(p:Rat):=by
  have:((-1000000:Int):Rat)≤((p:Int):Rat):=Rat.intCast_le_intCast.mpr (by omega)
  exact this
 refine ⟨t0,ht,⟨p * iq,by rw [Rat.intCast_mul];rfl⟩,?_,?_,hv⟩
 ·show -(1000000 + 1000 * t)≤(p:Rat)
  grind
 ·show (p:Rat)≤1000000 + 1000 * t
  grind
def CZ (b:aB) (l:List aB):List aB:=if b∈l then l else i4 b l
theorem uX {b x:aB} {l:List aB}:x∈i4 b l↔x=b∨x∈l:=yd (lt:=aB.lt)
theorem Et {b x:aB} {l:List aB}:x∈CZ b l↔x=b∨x∈l:=by
 unfold CZ
 split
 ·rename_i h
  exact ⟨.inr,λz=>by rcases z with rfl | z;exact h;exact z⟩
 ·exact uX
theorem Eu {b:aB} {l:List aB} (s:jq l):jq (CZ b l):=by
 unfold CZ
 split
 ·exact s
 ·rename_i h
  exact yc s λx hx e=>h (e ▸ hx)
def uy (bs:List aB):List aB:=bs.foldl (λacc b=>CZ b acc) []
theorem vc (bs:List aB) (b:aB):uy (bs ++ [b])=CZ b (uy bs):=by unfold uy;rw [Vj];rfl
theorem yD (bs:List aB) (x:aB):x∈uy bs↔x∈bs:=by
 refine snoc_ind (p:=λbs=>∀x:aB,x∈uy bs↔x∈bs) (λx=>by simp [uy]) (λbs y ih x=>?_) bs x
 rw [vc,Et,ih,Tv,Tx]
 exact Or.comm
theorem yE (bs:List aB):jq (uy bs):=by
 refine snoc_ind (p:=λbs=>jq (uy bs)) List.Pairwise.nil (λbs y ih=>?_) bs
 rw [vc];exact Eu ih
theorem oq {l k:List aB} (h:jq l) (h':jq k) (e:∀x,x∈l↔x∈k):l=k:=om (lt:=aB.lt) aB.L5 aB.lt_trans h h' e
def dq (t:Rat) (a b:Ky):Rat:=t + (b.p - a.p) / ((a.v - b.v:Int):Rat)
def g_ (t:Rat) (a b:Ky):aB:=⟨dq t a b,a.n,b.n⟩
def e_ (t:Rat) (ks:List Ky) (m:Rat):List aB:=uy (((ks.flatMap λa=>ks.map λb=>(a,b)).filter λp=>decide (p.2.v < p.1.v∧p.1.p < p.2.p∧dq t p.1 p.2≤m)).map λp=>g_ t p.1 p.2)
theorem lJ {t m:Rat} {ks:List Ky} {x:aB}:x∈e_ t ks m↔∃a∈ks,∃b∈ks,b.v < a.v∧a.p < b.p∧dq t a b≤m∧x=g_ t a b:=by
 unfold e_
 rw [yD,Ti]
 constructor
 ·rintro ⟨⟨a,b⟩,h,rfl⟩
  rw [TB,UO] at h
  obtain ⟨⟨c,hc,h1⟩,h2⟩:=h
  obtain ⟨d,hd,e⟩:=Ti.mp h1
  cases e
  have h2:=of_decide_eq_true h2
  exact ⟨_,hc,_,hd,h2.1,h2.2.1,h2.2.2,rfl⟩
 ·rintro ⟨a,ha,b,hb,h1,h2,h3,rfl⟩
  exact ⟨(a,b),TB.mpr ⟨UO.mpr ⟨a,ha,Ti.mpr ⟨b,hb,rfl⟩⟩,decide_eq_true ⟨h1,h2,h3⟩⟩,rfl⟩
theorem lK (t m:Rat) (ks:List Ky):jq (e_ t ks m):=yE _
def eS (t:Rat) (ks:List Ky):List aB:=uy ((((cK ks).zip (cK ks).tail).filter λp=>decide (p.2.v < p.1.v)).map λp=>g_ t p.1 p.2)
theorem dj {α:Type} {l:List α} {a b:α}:(a,b)∈l.zip l.tail↔∃i:Nat,l[i]?=some a∧l[i + 1]?=some b:=by
 constructor
 ·intro h
  obtain ⟨i,hi⟩:=TM.mp h
  obtain ⟨h1,h2⟩:=Ua.mp hi
  exact ⟨i,h1,by rw [U1] at h2;exact h2⟩
 ·rintro ⟨i,h1,h2⟩
  exact TM.mpr ⟨i,Ua.mpr ⟨h1,by rw [U1];exact h2⟩⟩
theorem zK {t:Rat} {ks:List Ky} {x:aB}:x∈eS t ks↔∃(i:Nat) (a b:Ky),(cK ks)[i]?=some a∧(cK ks)[i + 1]?=some b∧b.v < a.v∧x=g_ t a b:=by
 unfold eS
 rw [yD,Ti]
 constructor
 ·rintro ⟨⟨a,b⟩,h,rfl⟩
  rw [TB] at h
  obtain ⟨i,h1,h2⟩:=dj.mp h.1
  exact ⟨i,a,b,h1,h2,of_decide_eq_true h.2,rfl⟩
 ·rintro ⟨i,a,b,h1,h2,h3,rfl⟩
  exact ⟨(a,b),TB.mpr ⟨dj.mpr ⟨i,h1,h2⟩,decide_eq_true h3⟩,rfl⟩
theorem zL (t:Rat) (ks:List Ky):jq (eS t ks):=yE _
theorem DL {t m:Rat} {ks js:List Ky} (e:∀x,x∈ks↔x∈js):e_ t ks m=e_ t js m :=
 oq (lK _ _ _) (lK _ _ _) λx=>by
  rw [lJ,lJ]
  constructor
  ·rintro ⟨a,ha,b,hb,r⟩;exact ⟨a,(e a).mp ha,b,(e b).mp hb,r⟩
  ·rintro ⟨a,ha,b,hb,r⟩;exact ⟨a,(e a).mpr ha,b,(e b).mpr hb,r⟩
theorem zJ {t:Rat} {ks js:List Ky} (h:(ks.map Ky.n).Nodup) (k:(js.map Ky.n).Nodup) (e:∀x,x∈ks↔x∈js):eS t ks=eS t js:=by
 unfold eS;rw [yF h k e]
def nF (l l':aQ):Rat:=(l'.at 0 - l.at 0) / ((l.v - l'.v:Int):Rat)
theorem GK {a b:Int} (h:a≠b):((a - b:Int):Rat)≠0:=by
 intro e
 have:(a - b:Int)=0:=by exact_mod_cast (show ((a - b:Int):Rat)=((0:Int):Rat) from e)
 omega
theorem qC {t:Rat} {n n':Str} {l l':aQ} (h:l.v≠l'.v):nF l l'=dq t (key t (n,l)) (key t (n',l')):=by
 have k:=GK h
 unfold nF dq key aQ.at
 dsimp only
 rw [Rat.intCast_sub] at *
 grind
theorem Gj {a b:Rat} (ha:0 < a) (hb:0 < b):0 < a / b:=by
 have e:a / b * b=a:=by grind
 rcases Rat.le_total (a:=a / b) (b:=0) with h | h
 ·have:=Rat.mul_le_mul_of_nonneg_right h (Rat.le_of_lt hb)
  rw [e,Rat.zero_mul] at this
  exact absurd ha (Rat.not_lt.mpr this)
 ·rcases (by grind:a / b=0∨0 < a / b) with h | h
  ·rw [h,Rat.zero_mul] at e;rw [← e] at ha;exact absurd ha Rat.lt_irrefl
  ·exact h
def H0 (t:Rat) (l l':aQ):Option Rat:=if l.v≠l'.v∧t < nF l l' then some (nF l l') else none
theorem H_ {t:Rat} {n n':Str} {l l':aQ} (h:(key t (n,l)).lt (key t (n',l'))=true):(l.v≠l'.v∧t < nF l l')↔(l'.v < l.v∧l.at t < l'.at t):=by
 rw [Ky.lt_iff] at h
 unfold key at h
 dsimp only at h
 constructor
 ·rintro ⟨h1,h2⟩
  rw [qC (t:=t) (n:=n) (n':=n') h1] at h2
  unfold dq key at h2
  dsimp only at h2
  have k:=GK h1
  have h3:0 < (l'.at t - l.at t) / ((l.v - l'.v:Int):Rat):=by grind
  have hp:l.at t≠l'.at t:=by
   intro e
   rw [e] at h3
   have:(l'.at t - l'.at t) / ((l.v - l'.v:Int):Rat)=0:=by grind
   rw [this] at h3
   exact absurd h3 Rat.lt_irrefl
  have hlt:l.at t < l'.at t:=by
   rcases h with h | ⟨h,_⟩
   ·exact h
   ·exact absurd h hp
  refine ⟨?_,hlt⟩
  rcases (by omega:l'.v < l.v∨l.v < l'.v) with q | q
  ·exact q
  ·exfalso
   have hn:((l.v - l'.v:Int):Rat) < 0:=by
    have:((l.v - l'.v:Int):Rat) < ((0:Int):Rat):=Rat.intCast_lt_intCast.mpr (by omega)
    exact this
   have hd:0 < l'.at t - l.at t:=by grind
   have e:(l'.at t - l.at t) / ((l.v - l'.v:Int):Rat) * ((l.v - l'.v:Int):Rat)=l'.at t - l.at t:=by grind
   generalize (l'.at t - l.at t) / ((l.v - l'.v:Int):Rat)=z at h3 e
   have:z * ((l.v - l'.v:Int):Rat) < 0:=by
    have:=Rat.mul_lt_mul_of_pos_left hn h3
    rwa [Rat.mul_zero] at this
   grind
 ·rintro ⟨h1,h2⟩
  have hne:l.v≠l'.v:=by omega
  refine ⟨hne,?_⟩
  rw [qC (t:=t) (n:=n) (n':=n') hne]
  unfold dq key
  dsimp only
  have hpos:0 < ((l.v - l'.v:Int):Rat):=by
   have:((0:Int):Rat) < ((l.v - l'.v:Int):Rat):=Rat.intCast_lt_intCast.mpr (by omega)
   exact this
  have hd:0 < l'.at t - l.at t:=by grind
  have:0 < (l'.at t - l.at t) / ((l.v - l'.v:Int):Rat):=Gj hd hpos
  grind
end Ov
namespace Ov
def f_ (t:Rat) (c:Ky × Ky→Bool) (rows:List aB) (p:Ky × Ky):List aB:=if c p=true then i4 (g_ t p.1 p.2) (cX p.1.n p.2.n rows) else rows
def bA (t:Rat) (c:Ky × Ky→Bool) (ps:List (Ky × Ky)):List aB:=ps.foldl (f_ t c) []
theorem dG (t:Rat) (c:Ky × Ky→Bool) (ps:List (Ky × Ky)) (p:Ky × Ky):bA t c (ps ++ [p])=f_ t c (bA t c ps) p:=by unfold bA;rw [Vj];rfl
theorem fF (t:Rat) (c:Ky × Ky→Bool) (ps:List (Ky × Ky)):jq (bA t c ps):=by
 refine snoc_ind (p:=λps=>jq (bA t c ps)) List.Pairwise.nil (λl x ih=>?_) ps
 rw [dG]
 unfold f_
 split
 ·exact yc (uQ ih) HG
 ·exact ih
theorem lI (t:Rat) (c:Ky × Ky→Bool) (ps:List (Ky × Ky)):(bA t c ps).length≤ps.length:=by
 refine snoc_ind (p:=λps=>(bA t c ps).length≤ps.length) (Tr _) (λl x ih=>?_) ps
 rw [dG,TN]
 unfold f_
 split
 ·rw [rM]
  have:=oJ x.1.n x.2.n (bA t c l)
  simp only [TU,UX];omega
 ·omega
theorem gB {t:Rat} {c:Ky × Ky→Bool} {x:aB} (ps:List (Ky × Ky)):x∈bA t c ps→∃p∈ps,c p=true∧x=g_ t p.1 p.2:=by
 refine snoc_ind (p:=λps=>x∈bA t c ps→∃p∈ps,c p=true∧x=g_ t p.1 p.2) (λh=>by cases h) (λl y ih h=>?_) ps
 rw [dG] at h
 unfold f_ at h
 split at h
 ·rename_i hc
  rcases EZ h with e | h
  ·exact ⟨y,by simp,hc,e⟩
  ·obtain ⟨p,hp,k⟩:=ih (TB.mp h).1
   exact ⟨p,Tv.mpr (.inl hp),k⟩
 ·obtain ⟨p,hp,k⟩:=ih h
  exact ⟨p,Tv.mpr (.inl hp),k⟩
def ub (ps:List (Ky × Ky)):Prop:=∀p∈ps,∀q∈ps,p.1.n=q.1.n→p.2.n=q.2.n→p=q
theorem oM {t:Rat} {c:Ky × Ky→Bool} {x:aB} (ps:List (Ky × Ky)):ub ps→(x∈bA t c ps↔∃p∈ps,c p=true∧x=g_ t p.1 p.2):=by
 refine snoc_ind (p:=λps=>ub ps→(x∈bA t c ps↔∃p∈ps,c p=true∧x=g_ t p.1 p.2)) (λ_=>Iff.intro (λh=>nomatch h) (λh=>by obtain ⟨_,h,_⟩:=h;cases h)) (λl y ih inj=>?_) ps
 have ih:=ih λp hp q hq=>inj p (Tv.mpr (.inl hp)) q (Tv.mpr (.inl hq))
 refine ⟨gB _,?_⟩
 rintro ⟨p,hp,hc,rfl⟩
 rw [dG]
 unfold f_
 have hold:p∈l→g_ t p.1 p.2∈bA t c l:=λh=>ih.mpr ⟨p,h,hc,rfl⟩
 split
 ·rename_i hy
  rw [uX]
  by_cases e:p=y
  ·left;rw [e]
  ·right
   have hl:p∈l:=by
    rcases Tv.mp hp with h | h
    ·exact h
    ·exact absurd (by simpa using h) e
   refine TB.mpr ⟨hold hl,?_⟩
   unfold vj
   have:¬ ((g_ t p.1 p.2).h=y.1.n∧(g_ t p.1 p.2).f=y.2.n):=λz=>e (inj p hp y (by simp) z.1 z.2)
   rw [decide_eq_false this];rfl
 ·rename_i hy
  rcases Tv.mp hp with h | h
  ·exact hold h
  ·have:p=y:=by simpa using h
   subst this;exact absurd hc hy
theorem uV {t:Rat} {c:Ky × Ky→Bool} {ps:List (Ky × Ky)} {p:Ky × Ky} (inj:ub (ps ++ [p])) (h:p ∉ ps):cX p.1.n p.2.n (bA t c ps)=bA t c ps:=by
 unfold cX
 refine Ui.mpr λx hx=>?_
 obtain ⟨q,hq,_,rfl⟩:=gB _ hx
 unfold vj
 have:¬ ((g_ t q.1 q.2).h=p.1.n∧(g_ t q.1 q.2).f=p.2.n):=λz=>by
  have:=inj q (Tv.mpr (.inl hq)) p (by simp) z.1 z.2
  subst this;exact h hq
 rw [decide_eq_false this];rfl
theorem ub.of {ks:List Ky} (h:(ks.map Ky.n).Nodup) {ps:List (Ky × Ky)} (hp:∀p∈ps,p.1∈ks∧p.2∈ks):ub ps:=λp h1 q h2 e1 e2=>by
 have a:=i8 h p.1 (hp p h1).1 q.1 (hp q h2).1 e1
 have b:=i8 h p.2 (hp p h1).2 q.2 (hp q h2).2 e2
 cases p;cases q;simp only at a b;rw [a,b]
def zo (ks:List Ky):Nat→List (Ky × Ky)
 | 0=>[]
 | i + 1=>zo ks i ++ (match ks[i]? with | some a=>(ks.drop (i + 1)).map λb=>(a,b) | none=>[])
theorem ox {ks:List Ky} {p:Ky × Ky}:∀{i:Nat},p∈zo ks i↔∃i' j,i' < i∧i' < j∧ks[i']?=some p.1∧ks[j]?=some p.2
 | 0=>⟨λh=>(by cases h),λ⟨_,_,h,_⟩=>by omega⟩
 | i + 1=>by
  unfold zo
  rw [Tv,ox (i:=i)]
  constructor
  ·rintro (⟨i',j,h1,h⟩ | h)
   ·exact ⟨i',j,by omega,h⟩
   ·cases e:ks[i]? with
    | none=>rw [e] at h;cases h
    | some a =>
     rw [e] at h
     obtain ⟨b,hb,rfl⟩:=Ti.mp h
     obtain ⟨j,hj⟩:=TM.mp hb
     rw [Vd] at hj
     exact ⟨i,_,by omega,by omega,e,hj⟩
  ·rintro ⟨i',j,h1,h2,h3,h4⟩
   by_cases e:i' < i
   ·exact .inl ⟨i',j,e,h2,h3,h4⟩
   ·have:i'=i:=by omega
    subst this
    right
    rw [h3]
    refine Ti.mpr ⟨p.2,TM.mpr ⟨j - (i' + 1),?_⟩,rfl⟩
    rw [Vd,show i' + 1 + (j - (i' + 1))=j by omega];exact h4
def b_ (t m:Rat) (p:Ky × Ky):Bool:=decide (p.2.v < p.1.v∧p.1.p < p.2.p∧dq t p.1 p.2≤m)
def cU (p:Ky × Ky):Bool:=decide (p.2.v < p.1.v)
theorem JL {t m:Rat} {ks:List Ky} (h:(ks.map Ky.n).Nodup):bA t (b_ t m) (zo (cK ks) (cK ks).length)=e_ t ks m:=by
 have hs:=cZ h
 have hn:((cK ks).map Ky.n).Nodup:=lS hs (λx hx y hy e=>i8 h x ((bB _ _).mp hx) y ((bB _ _).mp hy) e)
 refine oq (fF _ _ _) (lK _ _ _) λx=>?_
 rw [oM _ (ub.of hn λp hp=>by
  obtain ⟨i,j,_,_,h3,h4⟩:=ox.mp hp
  exact ⟨To h3,To h4⟩),lJ]
 constructor
 ·rintro ⟨p,hp,hc,rfl⟩
  obtain ⟨i,j,_,_,h3,h4⟩:=ox.mp hp
  have hc:=of_decide_eq_true hc
  exact ⟨p.1,(bB _ _).mp (To h3),p.2,(bB _ _).mp (To h4),hc.1,hc.2.1,hc.2.2,rfl⟩
 ·rintro ⟨a,ha,b,hb,h1,h2,h3,rfl⟩
  obtain ⟨i,hi⟩:=TM.mp ((bB _ _).mpr ha)
  obtain ⟨j,hj⟩:=TM.mp ((bB _ _).mpr hb)
  have hab:a.lt b=true:=(Ky.lt_iff a b).mpr (.inl h2)
  have hij:i < j:=by
   obtain ⟨hil,ei⟩:=Tj.mp hi
   obtain ⟨hjl,ej⟩:=Tj.mp hj
   rcases VI i j with z | z | z
   ·exact z
   ·subst z;rw [ei] at ej;subst ej;rw [Ky.G_] at hab;cases hab
   ·have:=Ub.mp hs j i hjl hil z
    rw [ei,ej] at this
    rw [Ky.NL this] at hab;cases hab
  exact ⟨(a,b),ox.mpr ⟨i,j,(Tj.mp hi).1,hij,hi,hj⟩,decide_eq_true ⟨h1,h2,h3⟩,rfl⟩
theorem xU {t m:Rat} {ks:List Ky} (h:(ks.map Ky.n).Nodup):bA t (b_ t m) (ks.flatMap λa=>ks.map λb=>(a,b))=e_ t ks m:=by
 have hm:∀p:Ky × Ky,p∈(ks.flatMap λa=>ks.map λb=>(a,b))↔p.1∈ks∧p.2∈ks:=λp=>by
  rw [UO]
  constructor
  ·rintro ⟨a,ha,hb⟩
   obtain ⟨b,hb',rfl⟩:=Ti.mp hb
   exact ⟨ha,hb'⟩
  ·rintro ⟨ha,hb⟩
   exact ⟨p.1,ha,Ti.mpr ⟨p.2,hb,rfl⟩⟩
 refine oq (fF _ _ _) (lK _ _ _) λx=>?_
 rw [oM _ (ub.of h λp hp=>(hm p).mp hp),lJ]
 constructor
 ·rintro ⟨p,hp,hc,rfl⟩
  have hc:=of_decide_eq_true hc
  exact ⟨p.1,((hm p).mp hp).1,p.2,((hm p).mp hp).2,hc.1,hc.2.1,hc.2.2,rfl⟩
 ·rintro ⟨a,ha,b,hb,h1,h2,h3,rfl⟩
  exact ⟨(a,b),(hm _).mpr ⟨ha,hb⟩,decide_eq_true ⟨h1,h2,h3⟩,rfl⟩
theorem tH {t:Rat} {ks:List Ky} (h:(ks.map Ky.n).Nodup):bA t cU ((cK ks).zip (cK ks).tail)=eS t ks:=by
 have hs:=cZ h
 have hn:((cK ks).map Ky.n).Nodup:=lS hs (λx hx y hy e=>i8 h x ((bB _ _).mp hx) y ((bB _ _).mp hy) e)
 refine oq (fF _ _ _) (zL _ _) λx=>?_
 rw [oM _ (ub.of hn λp hp=>by
  obtain ⟨i,h3,h4⟩:=dj.mp (show (p.1,p.2)∈_ from hp)
  exact ⟨To h3,To h4⟩),zK]
 constructor
 ·rintro ⟨p,hp,hc,rfl⟩
  obtain ⟨i,h3,h4⟩:=dj.mp (show (p.1,p.2)∈_ from hp)
  exact ⟨i,p.1,p.2,h3,h4,of_decide_eq_true hc,rfl⟩
 ·rintro ⟨i,a,b,h1,h2,h3,rfl⟩
  exact ⟨(a,b),dj.mpr ⟨i,h1,h2⟩,decide_eq_true h3,rfl⟩
end Ov
namespace L2
open PySem PySem.Spec PyProof.Rows
end L2
namespace Ov
open PySem PySem.Spec PyProof.Rows
open L2 (V HO Hp Inv Cx VK XK TE TT TA TS TG qh TI TO j6 Ends vM Loc Gl Rd RelV Vals fT xJ cx p9 tJ qg j5 R2 upd aK aW dk g7 Sp qW It bJ c_ bW Passes pM aL Meth Mk Binds aP cm aw dt gm fm j3 oy C2 pN)
end Ov
namespace Ov
open PySem PySem.Spec PyProof.Rows L2
section
variable {X:Cx}
theorem OU {kx vx iter:Expr} {ifs:List Expr} {x y:Str} {px py:Pos} {sc:Scope} {pos spos:Pos} {wi:TI} {tk te:TE} {tc:TT} {i:Nat} (osc:Scope) (N:List Str) (ks:List (Str × Nat)) (hc:X.calm=true) (ho:X.env.scope=osc) (hN:X.N=N) (hnd:X.N.Nodup) (hy:X.N[i]?=some y) (hl:Loc X.env.scope y) (hi:PI X (.Name x px) iter wi)
  (hk:∀cl C s₀ H₀ fp pins,PE (f7 X sc cl C x ks s₀ H₀ fp pins) kx tk) (he:∀cl C s₀ H₀ fp pins,PE (f7 X sc cl C x ks s₀ H₀ fp pins) vx te) (hcn:∀cl C s₀ H₀ fp pins,G7 (f7 X sc cl C x ks s₀ H₀ fp pins) ifs tc) (ok:cJ sc osc N x ks:=by decide +kernel) (hs:∀x,foldedSetIterable iter X.env x=pure x:=by intro _;rfl)
  (hsw:swapsWith (.DictComp kx vx [⟨.Name x px,iter,ifs,0⟩] sc pos) (some (.Name y py)) spos.line X.env=pure true:=by rfl) (hf:X.fn y=true∨X.env.scope.names.lookup y=some .local:=by first | exact .inl rfl | exact .inr rfl | assumption) :
  PS X (.Assign [.Name y py] (.DictComp kx vx [⟨.Name x px,iter,ifs,0⟩] sc pos) spos) (λD σ H=>RN wi ks tc tk te σ H λv H1=>D.nx (σ.set i (some v)) H1):=by
 intro pins s σ H Dn I hw
 obtain ⟨cl,hcl,h1,h2⟩:=jw (nI ok I ho)
 have ok':cJ sc X.env.scope X.N x ks:=by rw [ho,hN];exact ok
 rw [exec_Assign_Name_used _ _ _ _ hsw]
 refine wpAny_bind (wpAny_standAt (wpAny_bind ?_))
 show wpAny _ X.A (do let _ ← comprehension (.DictComp kx vx [⟨.Name x px,iter,ifs,0⟩] sc pos) sc X.env _ newDict false (eval iter X.env) (some (assign (.Name y py) X.env))) _ _ s
 refine wpAny_bind (wpAny_mono (wpAny_comprehension_free (use:=some (assign (.Name y py) X.env)) (Q:=λ_ s'=>SP X pins Dn .next s') rfl hs hcl ok.1 ok.2.2.2.1
  (cE (hi pins s σ H _ I hw) λv s1 h3=>cE h3 λitv s2 h4=>?_)) (λ_ s' hq=>wpAny_pure (wpAny_pure hq)) λ_ _ e=>e)
 obtain ⟨it,fp,tn,J,H2,rfl,I2,T,st2,f2,hR⟩:=h4
 refine vi (Q:=λv H1=>Dn.nx (σ.set i (some v)) H1) (RR:=λacc C=>compPost (model X.prog X.w) X.A X.xe (some (assign (.Name y py) X.env)) (λ_ s'=>SP X pins Dn .next s') acc C) hc ok' h1 h2 hk he hcn I2 T st2 f2 hR ?_
 intro D C s' H' m J' q hn hC cl' cs cc cp
 show wpAny _ X.A (assign (.Name y py) X.env (.ref D)) _ _ _
 refine wpAny_assign_Name (pL J' hnd hy hl (v:=.ref D) rfl (λs'' J'' ⟨a,hsb,ha⟩=>?_) hf)
 refine ⟨m,hn.sameBut hsb (λz=>?_),λh' hsb'=>⟨_,H',?_,q⟩⟩
 ·rcases ha with e | e
  ·exact cl' (z.trans e)
  ·exact cc _ _ e z.symm
 ·exact J''.turned (t':=s''.toks) (it:=C) (λb o ne e=>hsb'.extBut b o ne e) hC cl' (.inr cs) cc cp
end
end Ov
namespace Ov
open PySem PySem.Spec PyProof.Rows
open L2 (V HO Hp Inv Cx VK XK TE TT TA TS TG qh TI TO j6 Ends vM Loc Gl Rd RelV Vals fT xJ cx p9 tJ qg j5 R2 upd aK aW dk g7 Sp qW It bJ c_ bW Passes pM aL Meth Mk Binds aP cm aw dt gm fm j3 oy C2 pN)
section
variable {X:Cx} {G:G2} {kx vx iter cnd:Expr} {x y:Str} {px py:Pos} {sc:Scope} {pos spos:Pos} {wi:tK} {tk te:dz} {tc:lZ} {i:Nat}
theorem MO (osc:Scope) (N:List Str) (ks:List (Str × Nat)) (hc:X.calm=true) (ho:X.env.scope=osc) (hN:X.N=N) (hnd:X.N.Nodup) (hy:X.N[i]?=some y) (hl:Loc X.env.scope y) (hi:RI X G (.Name x px) iter wi) (hk:∀cl C s₀ H₀ fp pins,RE (f7 X sc cl C x ks s₀ H₀ fp pins) G kx tk) (he:∀cl C s₀ H₀ fp pins,RE (f7 X sc cl C x ks s₀ H₀ fp pins) G vx te)
  (hcn:∀cl C s₀ H₀ fp pins,RT (f7 X sc cl C x ks s₀ H₀ fp pins) G cnd tc) (ok:cJ sc osc N x ks:=by decide +kernel) (hs:∀x,foldedSetIterable iter X.env x=pure x:=by intro _;rfl) (hsw:swapsWith (.DictComp kx vx [⟨.Name x px,iter,[cnd],0⟩] sc pos) (some (.Name y py)) spos.line X.env=pure true:=by rfl)
  (hf:X.fn y=true∨X.env.scope.names.lookup y=some .local:=by first | exact .inl rfl | exact .inr rfl | assumption):RS X G (.Assign [.Name y py] (.DictComp kx vx [⟨.Name x px,iter,[cnd],0⟩] sc pos) spos) (uz (O9 wi ks tc tk te) (HJ i)) :=
 ⟨zm (OU osc N ks hc ho hN hnd hy hl hi.run (λcl C s₀ H₀ fp pins=>(hk cl C s₀ H₀ fp pins).run) (λcl C s₀ H₀ fp pins=>(he cl C s₀ H₀ fp pins).run) (λcl C s₀ H₀ fp pins=>wL (hcn cl C s₀ H₀ fp pins).run) ok hs hsw hf) (nv Bs)⟩
end
end Ov
set_option maxHeartbeats 4000000
namespace Ov
open PySem PySem.Spec PyProof.Rows L2
def top (i:Nat):Stmt:=PySem.Challenge.pw_overhaul_k31_what_a_lane_told.main.body.getD i (.Pass ⟨0,0,0,0⟩)
set_option compiler.extract_closed false
set_option hygiene false
local macro_rules | `(tactic| dsimp! [$ls,*])=>`(tactic| simp only [JD,Cu,A2,rH,JC,Cy,Jw,Cz,GU,Qm,DY,tC,rI,Ha,rU,SO,SU,Jr,Jq,Js,Int.reduceLT,JB,zh,A4,KZ,tD,JE,GQ,Jz,Cv,Cs,JA,GO,PJ,tB,Qj,Ct,Qi,B4,HL,BB,HI,BH,BI,JX,Pb,Pd,KH,Pe,Td,d5,fz,jW,Ez,HO.lst.injEq,HO.tup.injEq,List.set_cons_zero,List.set_cons_succ,List.getElem?_cons_zero,List.getElem?_cons_succ,Option.some.injEq,exists_eq_left',exists_eq_left,exists_and_left,exists_eq,exists_eq',V.int.injEq,V.bl.injEq,V.ref.injEq,V.str.injEq,V.ty.injEq,decide_eq_true_eq,true_and,and_true,List.cons.injEq,List.append_nil,List.cons_append,List.nil_append,reduceCtorEq,Bool.not_eq_true',decide_eq_false_iff_not,and_assoc,ite_not,if_true,if_false,Bool.false_eq_true,decide_true,decide_false,L2.start,List.map_cons,List.map_nil,List.length_cons,List.length_nil,Nat.reduceAdd,Nat.reduceSub,List.replicate,vR,Cx.L7,Cx.tG,false_and,and_false,exists_false,false_or,or_false,id,eI,Option.getD_some,Pc,Ql,Cw,qQ,Pn,M3,HK,KO,$ls,*])
local macro_rules | `(tactic| simp_arith [$t:term])=>`(tactic| refine Rk F $t (fun xs J Q E h=>?_) (fun cdv A outer s H E G xs J Q E2 hr h B=>?_))
local macro_rules | `(tactic| simp_arith [$t:term,$r:term])=>`(tactic| refine Tb F $t (fun xs J Q E h=>?_) (fun cdv A outer s H E G E2 hr B=>$r) (fun xs J Q E2 h X hX=>?_))
local macro_rules | `(tactic| simp_arith [$t:term,$r:term,$u:term])=>`(tactic| refine Rj F $t (fun xs J Q E h=>?_) (fun cdv A outer s H E G E2 hr B=>$r) (fun xs J Q E2 h X hX=>?_))
local macro_rules | `(tactic| simp_arith! [$ls,*])=>`(tactic| simp only [IV,RH,QM,O3,O6,sy,rC,AI,SW,rB,Po,IT,RC,Pg,KC,Ph,KJ,SR,AH,yQ,Pp,Pf,SQ,B5,KL,SV,O8,SN,O7,Gb,O_,IY,IX,ve,KD,Pl,KN,DS,HJ,Su,Ss,Sv,uz,Pj,KG,pe,yS,Sy,SD,SA,S6,Rx,Ry,F8,qI,qU,O1,SM,F9,Nw,O5,O4,Rw,OV,MD,OY,F6,F7,Rv,B1,O2,F5,B2,OW,Q4,Q3,N9,Q_,Ra,Oc,Ob,Kd,R0,PY,RZ,R1,R3,RY,P1,PQ,K0,PN,PU,PM,PR,QZ,Q1,N5,QQ,QU,QX,QY,QR,QV,RQ,RV,RU,MB,Lk,Lm,NW,Ll,NX,wN,wO,MA,IP,wM,eq_int,eq_str,N0,Bx,LH,LJ,PZ,LU,rT,Ly,xC,Ng,Nh,Nd,Nf,Nat.reduceAdd,Nat.reduceSub,Nat.reduceLeDiff,R',Sa,Nb,Nc,List.append_nil,R5,R6,Sb,Sd,Option.some.injEq,exists_eq_left',exists_eq_left,exists_and_left,exists_eq,exists_eq',PV.int.injEq,PV.bl.injEq,PV.ref.injEq,PV.str.injEq,PV.ty.injEq,PV.tup.injEq,PV.fl.injEq,HQ.lst.injEq,HQ.ins.injEq,HQ.dct.injEq,decide_eq_true_eq,true_and,and_true,List.cons.injEq,reduceCtorEq,Bool.not_eq_true',decide_eq_false_iff_not,and_assoc,ite_not,if_true,if_false,Bool.false_eq_true,decide_true,decide_false,false_and,and_false,exists_false,false_or,or_false,id,d5,fz,jW,Ez,NM,NN,NO,NP,NQ,NR,Lg,Lh,Tf,R8,R7,R_,ak,Bool.and_true,Se,Bool.and_false,R4,Kf,Od,Oe,Of,Og,Oh,Oi,Oj,Ol,Om,LV,LW,LX,P2,M7,JJ,M8,M9,JK,String.reduceEq,P5,P6,qv,R9,List.not_mem_nil,exists_const,OK,OC,OF,OD,OL,OJ,OM,OB,OG,OE,Km,OH,Me,OI,ON,OZ,IS,O0,F_,Kz,KA,KI,Sw,MC,B3,wU,Sx,$ls,*])
local macro_rules | `(tactic| simp_all! [$ls,*])=>`(tactic| repeat (first | (with_reducible refine hNq _ _ ?_;clear hNq Nq) | with_reducible refine MU fun Nq hNq=>?_ | simp_arith! [$ls,*]))
section
variable {P:Program} {w:World} {K:PySem.W.Frag} {mg:Str→Option Value} {base:Heap}
abbrev sI:Stmt:=(top 12)
abbrev jf:List Str:=["one","two"]
theorem pE:L2.aw ["one","two"] ["one","two"] (L2.aj sI):=d7
def tm:Sp:=λvs H Q _=>∃a b:Int,vs=[.int a,.int b]∧Q (.int (Int.gcd a b:Nat)) H
theorem Dy {f:Addr} {fd:FuncData} (F:cm K "shared" "shared" sI f fd) (Z:D6 mg):aP P w K mg base qV 1 f fd jf tm:=by
 refine F.ok pE (λvs H Q E h=>?_) (λcdv A outer s H vs Q E hr h=>?_)
 ·obtain ⟨a,b,rfl,_⟩:=h
  rfl
 obtain ⟨a,b,rfl,q⟩:=h
 refine ⟨_,(QB.run (a_ (o8 (i:=0) (j:=1) rfl pE.nd rfl rfl (by decide) rfl rfl (a7 (eu m9 rfl Z.abs boot_abs (a7 (pv 0) bS)) (a7 (eu m9 rfl Z.abs boot_abs (a7 (pv 1) bS)) bS)) rfl)
   (a_ (kW PassesOwn.never (dX Ks (pv 1) aV (fJ _)) (bT (o8 (i:=0) (j:=1) rfl pE.nd rfl rfl (by decide) rfl rfl (a7 (pv 1) (a7 (bD gL (pv 0) (pv 1)) bS)) rfl)))
   (bT (d9 (pv 0)))))),?_⟩
 refine ⟨_,rfl,a,rfl,_,rfl,b,rfl,_,_,rfl,?_⟩
 refine zk (λσ H'=>∃x y:Int,σ=[some (.int x),some (.int y)]∧H=H'∧0≤x∧0≤y∧Int.gcd x y=Int.gcd a b) (λσ _=>match σ with | [_,some (.int y)]=>y.toNat | _=>0)
  ⟨_,_,rfl,rfl,by split <;> omega,by split <;> omega,HM a b⟩ ?_ (λσ H Q Q' m h=>?_)
 ·rintro σ H' ⟨x,y,rfl,rfl,hx,hy,hg⟩
  dsimp! [rJoin]
  split
  ·rename_i hy0
   subst hy0
   rw [← hg,BC hx] at q
   exact q
  ·rename_i hy0
   have h1:=Int.emod_lt_of_pos x (show 0 < y by omega)
   have h2:=Int.emod_nonneg x hy0
   exact ⟨by omega,hy,h2,(ya hy0).trans hg,by omega⟩
 ·obtain ⟨v,e,hs,k,ek,hq⟩:=h
  exact ⟨v,e,hs,k,ek,m _ _ hq⟩
def Dig:List Int→List Int→Prop
 | [],[]=>True
 | d :: ds,s :: ss=>(0≤d∧d < s)∧Dig ds ss
 | _,_=>False
theorem Dig.snoc:∀{ds ss:List Int} {d s:Int},Dig ds ss→0≤d→d < s→Dig (ds ++ [d]) (ss ++ [s])
 | [],[],_,_,_,h0,h1=>⟨⟨h0,h1⟩,trivial⟩
 | _ :: _,_ :: _,_,_,h,h0,h1=>⟨h.1,Dig.snoc h.2 h0 h1⟩
 | [],_ :: _,_,_,h,_,_=>h.elim
 | _ :: _,[],_,_,h,_,_=>h.elim
theorem Dig.cons:∀{ds ss:List Int} {s:Int},Dig ds (s :: ss)→∃d r,ds=d :: r∧0≤d∧d < s∧Dig r ss
 | [],_,_,h=>h.elim
 | d :: r,_,_,h=>⟨d,r,rfl,h.1.1,h.1.2,h.2⟩
theorem Dig.nil:∀{ds:List Int},Dig ds []→ds=[]
 | [],_=>rfl
 | _ :: _,h=>h.elim
theorem Dig.len:∀{ds ss:List Int},Dig ds ss→ds.length=ss.length
 | [],[],_=>rfl
 | _ :: _,_ :: _,h=>congrArg Nat.succ (Dig.len h.2)
 | [],_ :: _,h=>h.elim
 | _ :: _,[],h=>h.elim
theorem take_snoc {xs:List Int} {i:Nat} {x:Int} (h:xs[i]?=some x):xs.take (i + 1)=xs.take i ++ [x]:=by
 rw [TR,h]
 rfl
theorem rO {ns:List Int} {i:Nat} {y:V} (h:(ns.map V.int)[i]?=some y):∃z,y=V.int z∧ns[i]?=some z:=by
 rw [Tq] at h
 cases e:ns[i]? with
 | none=>rw [e] at h;cases h
 | some z=>rw [e] at h;exact ⟨z,(Option.some.inj h).symm,rfl⟩
abbrev AM:Stmt:=(top 44)
abbrev nN:List Str:=["_law_script","_law_k"]
theorem Jl:L2.aw ["_law_script","_law_k"] ["_law_script","_law_k"] (L2.aj AM):=d7
abbrev sG:Stmt:=(top 45)
abbrev c4:List Str:=["_law_cell_here","_law_sizes"]
theorem d4:L2.aw ["_law_cell_here","_law_sizes","_law_out","_law_rest","_law_size","_law_one","_law_k","_law_two"] ["_law_cell_here","_law_sizes"] (L2.aj sG):=d7
def sU (K:PySem.W.Frag):Sp:=λvs H Q _=>∃(c:Int) (a:Addr) (ss:List Int),vs=[.int c,.ref a]∧dk K H a (ss.map V.int)∧(∀s∈ss,0 < s∧Bd 9000 s)∧ss.length≤1000 ∧
 ∀(r:Addr) (H':Hp) (ds:List Int),H r=none→bJ H H'→H' r=some (.lst (ds.map V.int))→Dig ds ss→Q (.ref r) H'
theorem Dx {f:Addr} {fd:FuncData} (F:cm K "_law_digits" "_law_digits" sG f fd) (Z:D6 mg):aP P w K mg base qV 1 f fd c4 (sU K):=by
 refine F.ok d4 (λvs H Q E h=>?_) (λcdv A outer s H vs Q E hr h=>?_)
 ·obtain ⟨c,a,ss,rfl,_⟩:=h
  rfl
 obtain ⟨c,a,ss,rfl,hS,hs,hl,q⟩:=h
 refine ⟨_,(QB.run (a_ (dh (i:=2) d4.nd rfl (Or.inl rfl) (kI bS))
   (a_ (nV (dX Kp (pv 0) (bD FL aV aV) (fJ _)) (a_ (dh (i:=3) d4.nd rfl (Or.inl rfl) (bD Ar (pv 0) (bD FL aV aV)))
   (a_ (o7 PassesOwn.never rfl (nJ (pv 1)) (lL (i:=4) d4.nd rfl (Or.inl rfl)) (a_ (lN (sj PySem.F.plainAttrs_list PySem.F.slot_list_append PySem.F.type_list_append i7 (pv 2) (a7 (bD gL (pv 3) (pv 4)) bS)))
   (bT (dh (i:=3) d4.nd rfl (Or.inl rfl) (bD gK (pv 3) (pv 4))))))
   (bT (d9 (pv 2))))) gu)
   (a_ (dh (i:=5) d4.nd rfl (Or.inl rfl) (bD gL (pv 0) aV))
   (a_ (o7 PassesOwn.never rfl (gC rfl Z.range (a7 (eu jv rfl Z.len boot_len (a7 (pv 1) bS)) bS)) (lL (i:=6) d4.nd rfl (Or.inl rfl)) (a_ (dh (i:=5) d4.nd rfl (Or.inl rfl) (bD gL (bD jE (bD cV (pv 5) aV) (bD cV aV (bD jE (pv 6) aV))) aV))
   (a_ (dh (i:=7) d4.nd rfl (Or.inl rfl) (bD gL (bD jE (bD jE (bD cV (pv 5) (pv 5)) (bD cV aV (pv 5))) (pv 6)) aV))
   (bT (lN (sj PySem.F.plainAttrs_list PySem.F.slot_list_append PySem.F.type_list_append i7 (pv 2) (a7 (bD gL (bD gK (pv 7) aV) (cD vX (pv 1) (pv 6) (λ_ _=>rfl))) bS)))))))
   (bT (d9 (pv 2)))))))),?_⟩
 refine ⟨T3 _,λr hr'=>?_⟩
 have g0:=bJ.new hr' (.lst [])
 refine ⟨_,rfl,_,_,rfl,rfl,⟨by decide,by decide,by decide⟩,_,_,rfl,rfl,_,rfl,?_⟩
 refine E9 (λ_=>?_) (λ_=>?_)
 ·refine ⟨_,rfl,_,_,rfl,rfl,⟨by decide,by decide,by decide⟩,_,_,rfl,rfl,?_⟩
  refine ⟨_,rfl,a,rfl,⟨_,g0.seq hS⟩,EO (K:=K) (a:=a) (xs:=ss.map V.int) (λi σ H2=>∃(ds:List Int) (rest:Int) (u:Option V),σ=[some (.int c),some (.ref a),some (.ref r),some (.int rest),u,none,none,none] ∧
   bJ H H2∧H2 r=some (.lst (ds.map V.int))∧Dig ds (ss.take i)) ⟨[],_,none,rfl,g0,aK,trivial⟩ (λi σ H2 _ ⟨_,_,_,_,s2,_⟩=>s2.seq hS) ?_ ?_⟩
  ·rintro i y σ H2 hi ⟨ds,rest,u,rfl,s2,hd,hD⟩
   obtain ⟨z,rfl,hz⟩:=rO hi
   obtain ⟨z0,zb⟩:=hs z (To hz)
   have hil:i < ss.length:=(Tj.mp hz).1
   have dl:=hD.len
   rw [TX] at dl
   refine ⟨_,rfl,.inl ⟨rfl,_,dk.of hd⟩,_,rfl,_,rfl,_,_,rfl,rfl,z0,r,_,_,rfl,rfl,hd,?_,?_⟩
   ·rw [Th]
    exact a8 (by omega)
   refine ⟨_,rfl,_,rfl,_,_,rfl,rfl,⟨by omega,zb⟩,?_⟩
   refine ⟨ds ++ [rest % z],_,_,rfl,s2.Nx hr' _,?_,?_⟩
   ·rw [aK,Ts]
    rfl
   ·rw [take_snoc hz]
    exact hD.snoc (Int.emod_nonneg _ (by omega)) (Int.emod_lt_of_pos _ z0)
  ·rintro σ H2 ⟨ds,rest,u,rfl,s2,hd,hD⟩
   rw [Th,T1] at hD
   exact ⟨_,rfl,q r H2 ds hr' s2 hd hD⟩
 ·refine ⟨_,rfl,_,_,rfl,rfl,(show (0:Int) < 2147483647 by decide),?_⟩
  refine ⟨_,rfl,a,_,rfl,.inl (g0.seq hS),_,rfl,?_,?_,uW (lo:=0) (n:=(ss.map V.int).length) (λi σ H2=>∃(ds:List Int) (one:Int) (u v:Option V),σ=[some (.int c),some (.ref a),some (.ref r),none,none,some (.int one),u,v] ∧
   0≤one∧one < 2147483647∧bJ H H2∧H2 r=some (.lst (ds.map V.int))∧Dig ds (ss.take i)) ⟨[],_,none,none,rfl,Int.emod_nonneg _ (by decide),Int.emod_lt_of_pos _ (by decide),g0,aK,trivial⟩ ?_ ?_⟩
  ·omega
  ·rw [Th];omega
  ·rintro i σ H2 hi ⟨ds,one,u,v,rfl,o0,o1,s2,hd,hD⟩
   rw [Th] at hi
   have hz:ss[i]?=some ss[i]:=Tn hi
   obtain ⟨z0,zb⟩:=hs ss[i] (TY hi)
   have dl:=hD.len
   rw [TX] at dl
   have e1:dt (ss.map V.int) (0 + (i:Int))=some (.int ss[i]):=by
    rw [Int.zero_add]
    exact bx (by rw [Tq,hz];rfl)
   dsimp! [rJoin]
   have A0:0≤(one * 48271 + 10007 * (0 + (i:Int) + 1)) % 2147483629:=Int.emod_nonneg _ (by decide)
   have A1:(one * 48271 + 10007 * (0 + (i:Int) + 1)) % 2147483629 < 2147483629:=Int.emod_lt_of_pos _ (by decide)
   generalize (one * 48271 + 10007 * (0 + (i:Int) + 1)) % 2147483629=A at A0 A1 ⊢
   generalize ((A * A + 69621 * A + (0 + (i:Int))) % 2147483563).fdiv 11=B
   have small:∀x:Int,0≤x→x < 2147483648→Bd 64 x:=λx h1 h2=>Bd.small (by omega) (by omega)
   refine ⟨.of (small _ o0 (by omega)) (small _ (by decide) (by decide)),.of (small _ (by decide) (by decide)) (small _ (by omega) (by omega)),.of (small _ A0 (by omega)) (small _ A0 (by omega)),
    .of (small _ (by decide) (by decide)) (small _ A0 (by omega)),.inl ⟨rfl,_,dk.of hd⟩,⟨by decide,(small _ (by decide) (by decide)).mono (by decide)⟩,_,s2.seq hS,_,e1,_,rfl,z0,_,hd,?_,A0,by omega,s2.Nx hr' _,ds ++ [B % ss[i]],?_,?_⟩
   ·rw [Th]
    exact a8 (by omega)
   ·rw [aK,Ts]
    rfl
   ·rw [take_snoc hz]
    exact hD.snoc (Int.emod_nonneg _ (by omega)) (Int.emod_lt_of_pos _ z0)
  ·rintro σ H2 ⟨ds,one,u,v,rfl,o0,o1,s2,hd,hD⟩
   rw [Th,T1] at hD
   exact ⟨_,rfl,q r H2 ds hr' s2 hd hD⟩
def NI (H:Hp) (q:Rat) (Q:VK):Prop:=∀(r:Addr) (H':Hp),bJ H H'→H' r=some (.tup [.int q.num,.int q.den])→Q (.ref r) H'
abbrev mG:Stmt:=(top 13)
abbrev dM:List Str:=["top","bottom"]
theorem lj:L2.aw ["top","bottom","divisor"] ["top","bottom"] (L2.aj mG):=d7
def gW:Sp:=λvs H Q _=>∃t b:Int,vs=[.int t,.int b]∧b≠0∧Bd 9000 b∧NI H (Rat.divInt t b) Q
theorem ET {n:Nat} {t b:Int} (h:b≠0) (hb:Bd n b):Bd n ((Int.gcd t b:Nat):Int):=hb.le (by have:=LB (t:=t) h;omega)
theorem yx {f:Addr} {fd:FuncData} (F:cm K "fraction" "fraction" mG f fd) (Z:D6 mg) (iU:tI P w K mg base 1 "shared" jf tm):aP P w K mg base qV 2 f fd dM gW:=by
 refine F.ok lj (λvs H Q E h=>?_) (λcdv A outer s H vs Q E hr h=>?_)
 ·obtain ⟨t,b,rfl,_⟩:=h
  rfl
 obtain ⟨t,b,rfl,hb,bb,q⟩:=h
 have hg:=BD (t:=t) hb
 have gb:=ET (t:=t) hb bb
 refine ⟨_,(QB.run (a_ (nV (dX FK (pv 1) aV (fJ _)) o9 gu)
   (a_ (dh (i:=2) lj.nd rfl (Or.inl rfl) (yL iU hr (by decide) rfl (a7 (pv 0) (a7 (pv 1) bS))))
   (yN (nV (dX BS (pv 1) aV (fJ _)) (bT (dh (i:=2) lj.nd rfl (Or.inl rfl) (BW GZ (pv 2)))) gu)
   (bT (d9 (so (a7 (bD gK (pv 0) (pv 2)) (a7 (bD gK (pv 1) (pv 2)) bS))))))))),?_⟩
 refine ⟨_,rfl,rfl,_,rfl,?_⟩
 refine E9 (λc=>absurd (V.int.inj (of_decide_eq_true c)) hb) (λ_=>?_)
 refine ⟨_,rfl,_,rfl,t,b,rfl,?_⟩
 refine ⟨λσ' H'=>∃d:Int,σ'=[some (.int t),some (.int b),some (.int d)]∧H=H'∧d≠0∧Bd 9000 d∧t.fdiv d=(Rat.divInt t b).num∧b.fdiv d=(Rat.divInt t b).den,?_,?_⟩
 ·refine ⟨_,rfl,_,_,rfl,rfl,_,rfl,E9 (λc=>?_) (λc=>?_)⟩
  ·have c':b < 0:=of_decide_eq_true c
   exact ⟨_,rfl,_,rfl,_,rfl,rfl,by omega,gb.neg,BR c',HE c'⟩
  ·have c':0 < b:=by
    have:=of_decide_eq_false (Vk.mpr c)
    omega
   exact ⟨_,rfl,rfl,by omega,gb,we c',den_pos c'⟩
 rintro _ _ ⟨d,rfl,rfl,hd,bd,e1,e2⟩
 refine ⟨_,rfl,_,rfl,_,_,rfl,rfl,⟨hd,bd⟩,_,rfl,_,rfl,_,_,rfl,rfl,⟨hd,bd⟩,(by show 2≤sizeLine;decide),λp hp=>?_⟩
 exact q p _ (bJ.new hp _) (by rw [aK];show some (HO.tup [V.int (t.fdiv d),V.int (b.fdiv d)])=_;rw [e1,e2])
abbrev Gr:Stmt:=(top 47)
abbrev dJ:List Str:=["_law_top","_law_bottom"]
theorem xm:L2.aw ["_law_top","_law_bottom","_law_one","_law_two"] ["_law_top","_law_bottom"] (L2.aj Gr):=d7
def KQ:Sp:=λvs H Q _=>∃t b:Int,vs=[.int t,.int b]∧0 < b∧Bd 9000 b∧NI H (Rat.divInt t b) Q
theorem L_ {f:Addr} {fd:FuncData} (F:cm K "_law_low" "_law_low" Gr f fd) (Z:D6 mg):aP P w K mg base qV 1 f fd dJ KQ:=by
 refine F.ok xm (λvs H Q E h=>?_) (λcdv A outer s H vs Q E hr h=>?_)
 ·obtain ⟨t,b,rfl,_⟩:=h
  rfl
 obtain ⟨t,b,rfl,hb,bb,q⟩:=h
 have hg:=BD (t:=t) (show b≠0 by omega)
 have gb:=ET (t:=t) (show b≠0 by omega) bb
 refine ⟨_,(QB.run (a_ (dh (i:=2) xm.nd rfl (Or.inl rfl) (eu m9 rfl Z.abs boot_abs (a7 (pv 0) bS)))
   (a_ (dh (i:=3) xm.nd rfl (Or.inl rfl) (pv 1))
   (a_ (kW PassesOwn.never (dX Ks (pv 3) aV (fJ _)) (bT (o8 (i:=2) (j:=3) rfl xm.nd rfl rfl (by decide) rfl rfl (a7 (pv 3) (a7 (bD gL (pv 2) (pv 3)) bS)) rfl)))
   (bT (d9 (so (a7 (bD gK (pv 0) (pv 2)) (a7 (bD gK (pv 1) (pv 2)) bS))))))))),?_⟩
 refine ⟨_,rfl,t,rfl,_,rfl,?_⟩
 refine zk (λσ H'=>∃x y:Int,σ=[some (.int t),some (.int b),some (.int x),some (.int y)]∧H=H'∧0≤x∧0≤y∧Int.gcd x y=Int.gcd t b) (λσ _=>match σ with | [_,_,_,some (.int y)]=>y.toNat | _=>0)
  ⟨_,_,rfl,rfl,by split <;> omega,by omega,ES t b⟩ ?_ (λσ H Q Q' m h=>?_)
 ·rintro σ H' ⟨x,y,rfl,rfl,hx,hy,hg'⟩
  dsimp! [rJoin]
  split
  ·rename_i hy0
   subst hy0
   have ex:x=((Int.gcd t b:Nat):Int):=by rw [← hg',BC hx]
   subst ex
   refine ⟨⟨by omega,gb⟩,⟨by omega,gb⟩,(by show 2≤sizeLine;decide),λp hp=>?_⟩
   exact q p _ (bJ.new hp _) (by rw [aK,we hb,den_pos hb])
  ·rename_i hy0
   have h1:=Int.emod_lt_of_pos x (show 0 < y by omega)
   have h2:=Int.emod_nonneg x hy0
   exact ⟨by omega,hy,h2,(ya hy0).trans hg',by omega⟩
 ·obtain ⟨v,e,hs,k,ek,hq⟩:=h
  exact ⟨v,e,hs,k,ek,m _ _ hq⟩
theorem GL {m n:Nat} {t b:Int} (hb:b≠0) (h1:Bd m t) (h2:Bd n b) (k:Nat) (hm:m≤k) (hn:n≤k):Sz k (Rat.divInt t b) :=
 ⟨(h1.le (BQ t b)).mono hm,(h2.le (vS hb)).mono hn⟩
theorem wc (p q:Rat):(p.den:Int) * (q.den:Int)≠0:=Int.mul_ne_zero (fE p) (fE q)
theorem Sz.add {m n k:Nat} {p q:Rat} (h:Sz m p) (g:Sz n q) (hk:m + n + 1≤k:=by decide):Sz k (p + q):=by
 rw [← add_eq]
 exact GL (wc p q) (.add (.mul h.num g.den (Tr _)) (.mul g.num h.den (Tr _)) (Tr _)) (.mul h.den g.den (Tr _)) k (by omega) (by omega)
theorem Sz.sub {m n k:Nat} {p q:Rat} (h:Sz m p) (g:Sz n q) (hk:m + n + 1≤k:=by decide):Sz k (p - q):=by
 rw [← sub_eq]
 exact GL (wc p q) (.sub (.mul h.num g.den (Tr _)) (.mul g.num h.den (Tr _)) (Tr _)) (.mul h.den g.den (Tr _)) k (by omega) (by omega)
theorem Sz.mul {m n k:Nat} {p:Rat} {i:Int} (h:Sz m p) (g:Bd n i) (hk:m + n≤k:=by decide):Sz k (p * i):=by
 rw [← mul_eq]
 exact GL (fE p) (.mul h.num g (Tr _)) h.den k hk (by omega)
def PB (K:PySem.W.Frag) (g:Rat→Rat→Rat):Sp:=λvs H Q _=>∃(a b:Addr) (p q:Rat),vs=[.ref a,.ref b]∧Ni K H a p∧Ni K H b q∧Sz 4000 p∧Sz 4000 q∧NI H (g p q) Q
abbrev AR:Stmt:=(top 14)
abbrev qJ:List Str:=["one","two"]
theorem Jp:L2.aw ["one","two"] ["one","two"] (L2.aj AR):=d7
theorem Im {f:Addr} {fd:FuncData} (F:cm K "plus" "plus" AR f fd) (Z:D6 mg) (cg:tI P w K mg base 2 "fraction" dM gW):aP P w K mg base qV 3 f fd qJ (PB K λp q=>p + q):=by
 refine F.ok Jp (λvs H Q E h=>?_) (λcdv A outer s H vs Q E hr h=>?_)
 ·obtain ⟨a,b,p,q,rfl,_⟩:=h
  rfl
 obtain ⟨a,b,p,q,rfl,ha,hb,sp,sq,k⟩:=h
 refine ⟨_,(QB.run (bT (d9 (yL cg hr (by decide) rfl (a7 (bD jE (bD cV (cD de (pv 0) aV (λ_ _=>rfl)) (cD de (pv 1) aV (λ_ _=>rfl))) (bD cV (cD de (pv 1) aV (λ_ _=>rfl)) (cD de (pv 0) aV (λ_ _=>rfl)))) (a7 (bD cV (cD de (pv 0) aV (λ_ _=>rfl)) (cD de (pv 1) aV (λ_ _=>rfl))) bS)))))),?_⟩
 refine ⟨_,rfl,_,_,_,_,rfl,rfl,ha,rfl,_,rfl,_,_,_,_,rfl,rfl,hb,rfl,_,_,rfl,rfl,.of sp.num sq.den,_,rfl,_,_,_,_,rfl,rfl,hb,rfl,_,rfl,_,_,_,_,rfl,rfl,ha,rfl,_,_,rfl,rfl,.of sq.num sp.den,_,_,rfl,rfl,_,rfl,_,_,_,_,rfl,rfl,ha,rfl,_,rfl,_,_,_,_,rfl,rfl,hb,rfl,_,_,rfl,rfl,.of sp.den sq.den,_,_,rfl,wc p q,.mul sp.den sq.den,?_⟩
 rw [add_eq]
 exact k
abbrev w_:Stmt:=(top 15)
abbrev kT:List Str:=["one","two"]
theorem Gs:L2.aw ["one","two"] ["one","two"] (L2.aj w_):=d7
theorem FA {f:Addr} {fd:FuncData} (F:cm K "minus" "minus" w_ f fd) (Z:D6 mg) (cg:tI P w K mg base 2 "fraction" dM gW):aP P w K mg base qV 3 f fd kT (PB K λp q=>p - q):=by
 refine F.ok Gs (λvs H Q E h=>?_) (λcdv A outer s H vs Q E hr h=>?_)
 ·obtain ⟨a,b,p,q,rfl,_⟩:=h
  rfl
 obtain ⟨a,b,p,q,rfl,ha,hb,sp,sq,k⟩:=h
 refine ⟨_,(QB.run (bT (d9 (yL cg hr (by decide) rfl (a7 (bD Ar (bD cV (cD de (pv 0) aV (λ_ _=>rfl)) (cD de (pv 1) aV (λ_ _=>rfl))) (bD cV (cD de (pv 1) aV (λ_ _=>rfl)) (cD de (pv 0) aV (λ_ _=>rfl)))) (a7 (bD cV (cD de (pv 0) aV (λ_ _=>rfl)) (cD de (pv 1) aV (λ_ _=>rfl))) bS)))))),?_⟩
 refine ⟨_,rfl,_,_,_,_,rfl,rfl,ha,rfl,_,rfl,_,_,_,_,rfl,rfl,hb,rfl,_,_,rfl,rfl,.of sp.num sq.den,_,rfl,_,_,_,_,rfl,rfl,hb,rfl,_,rfl,_,_,_,_,rfl,rfl,ha,rfl,_,_,rfl,rfl,.of sq.num sp.den,_,_,rfl,rfl,_,rfl,_,_,_,_,rfl,rfl,ha,rfl,_,rfl,_,_,_,_,rfl,rfl,hb,rfl,_,_,rfl,rfl,.of sp.den sq.den,_,_,rfl,wc p q,.mul sp.den sq.den,?_⟩
 rw [sub_eq]
 exact k
abbrev xb:Stmt:=(top 16)
abbrev nW:List Str:=["one","many"]
theorem Gv:L2.aw ["one","many"] ["one","many"] (L2.aj xb):=d7
def Cq (K:PySem.W.Frag):Sp:=λvs H Q _=>∃(a:Addr) (p:Rat) (m:Int),vs=[.ref a,.int m]∧Ni K H a p∧Sz 9000 p∧Bd 9000 m∧NI H (p * m) Q
theorem FD {f:Addr} {fd:FuncData} (F:cm K "times" "times" xb f fd) (Z:D6 mg) (cg:tI P w K mg base 2 "fraction" dM gW):aP P w K mg base qV 3 f fd nW (Cq K):=by
 refine F.ok Gv (λvs H Q E h=>?_) (λcdv A outer s H vs Q E hr h=>?_)
 ·obtain ⟨a,p,m,rfl,_⟩:=h
  rfl
 obtain ⟨a,p,m,rfl,ha,sp,bm,k⟩:=h
 refine ⟨_,(QB.run (bT (d9 (yL cg hr (by decide) rfl (a7 (bD cV (cD de (pv 0) aV (λ_ _=>rfl)) (pv 1)) (a7 (cD de (pv 0) aV (λ_ _=>rfl)) bS)))))),?_⟩
 refine ⟨_,rfl,_,_,_,_,rfl,rfl,ha,rfl,_,rfl,_,_,rfl,rfl,.of sp.num bm,_,rfl,_,_,_,_,rfl,rfl,ha,rfl,_,_,rfl,fE p,sp.den,?_⟩
 rw [mul_eq]
 exact k
abbrev AO:Stmt:=(top 17)
abbrev fV:List Str:=["one","two"]
theorem Jn:L2.aw ["one","two"] ["one","two"] (L2.aj AO):=d7
def GD (K:PySem.W.Frag):Sp:=λvs H Q _=>∃(a b:Addr) (p q:Rat),vs=[.ref a,.ref b]∧Ni K H a p∧Ni K H b q∧Sz 9000 p∧Sz 9000 q∧Q (.bl (decide (p < q))) H
theorem HX (p q:Rat):decide (p.num * q.den < q.num * p.den)=decide (p < q):=decide_eq_decide.mpr (Rat.lt_iff p q).symm
theorem Il {f:Addr} {fd:FuncData} (F:cm K "less" "less" AO f fd) (Z:D6 mg):aP P w K mg base qV 1 f fd fV (GD K):=by
 refine F.ok Jn (λvs H Q E h=>?_) (λcdv A outer s H vs Q E hr h=>?_)
 ·obtain ⟨a,b,p,q,rfl,_⟩:=h
  rfl
 obtain ⟨a,b,p,q,rfl,ha,hb,sp,sq,k⟩:=h
 refine ⟨_,(QB.run (bT (d9 (qF BS (bD cV (cD de (pv 0) aV (λ_ _=>rfl)) (cD de (pv 1) aV (λ_ _=>rfl))) (bD cV (cD de (pv 1) aV (λ_ _=>rfl)) (cD de (pv 0) aV (λ_ _=>rfl))) (fJ _))))),?_⟩
 refine ⟨_,rfl,_,_,_,_,rfl,rfl,ha,rfl,_,rfl,_,_,_,_,rfl,rfl,hb,rfl,_,_,rfl,rfl,.of sp.num sq.den,_,rfl,_,_,_,_,rfl,rfl,hb,rfl,_,rfl,_,_,_,_,rfl,rfl,ha,rfl,_,_,rfl,rfl,.of sq.num sp.den,_,_,rfl,rfl,?_⟩
 show Q (.bl (decide (p.num * q.den < q.num * p.den))) H
 rw [HX]
 exact k
theorem BK {K:PySem.W.Frag} {J:Hq} {H:Hp}:∀{ns:List Int} {vs:List V},aS K J H (ns.map PV.int) vs→vs=ns.map V.int
 | [],_,h=>h
 | n :: ns,_,⟨v,us,e,h,k⟩=>by subst e;cases h;rw [BK k];rfl
theorem Mj {K:PySem.W.Frag} {J:Hq} {H:Hp} {x:PV} {vs:List V} (h:aS K J H [x] vs):∃v,vs=[v]∧cH K J H x v:=by
 obtain ⟨v,us,rfl,h1,h2⟩:=h;cases h2;exact ⟨v,rfl,h1⟩
theorem jV {K:PySem.W.Frag} {J:Hq} {H:Hp} {x y:PV} {vs:List V} (h:aS K J H [x,y] vs):∃v u,vs=[v,u]∧cH K J H x v∧cH K J H y u:=by
 obtain ⟨v,us,rfl,h1,u,us',rfl,h2,h3⟩:=h;cases h3;exact ⟨v,u,rfl,h1,h2⟩
theorem rG {K:PySem.W.Frag} {J:Hq} {H:Hp} {q:Rat} {v:V} (h:cH K J H (fr q) v):∃a,v=.ref a∧Ni K H a q:=by
 obtain ⟨a,vs,rfl,h1,h2⟩:=h
 obtain ⟨x,y,rfl,r1,r2⟩:=jV h2
 cases r1;cases r2
 exact ⟨a,rfl,h1⟩
theorem wW {K:PySem.W.Frag} {J:Hq} {H:Hp} {q:Rat} {Q2:PV→Hq→Prop} {Q:VK} (r:Rep K J H) (k:Kn K J H Q2 Q) (h:Q2 (fr q) J):NI H q Q:=λa H' s e =>
 k (fr q) J (.ref a) H' ⟨a,_,rfl,g7.of e,⟨_,_,rfl,rfl,_,_,rfl,rfl,rfl⟩⟩ (r.same s) (.same s) h
def AX:cM:=λxs J Q _=>∃(c:Int) (ss:List Int),xs=[.int c,.fl (ss.map .int)]∧(∀s∈ss,0 < s∧Bd 9000 s)∧ss.length≤1000∧∀ds,Dig ds ss→Q (.fl (ds.map .int)) J
theorem yi (C:tI P w K mg base 1 "_law_digits" c4 (sU K)):bq P w K mg base 1 "_law_digits" c4 AX:=C.lift λxs J vs H Q2 E2 Q E rs r ⟨c,ss,ex,h0,h1,q⟩ kn=>by
 subst ex
 obtain ⟨v,u,rfl,r1,⟨a,ws,rfl,h2,h3⟩⟩:=jV rs
 cases r1;cases BK h3
 refine ⟨c,a,ss,rfl,h2.sq,h0,h1,λp H' ds hp s e D=>kn (.fl (ds.map .int)) J (.ref p) H' ⟨p,_,rfl,.inl ⟨r.free hp,.inl e⟩,pf ds⟩ (r.same s) (.same s) (q ds D)⟩
def jR:cM:=λxs J Q _=>∃t b:Int,xs=[.int t,.int b]∧0 < b∧Bd 9000 b∧Q (fr (Rat.divInt t b)) J
theorem Fp (C:tI P w K mg base 1 "_law_low" dJ KQ):bq P w K mg base 1 "_law_low" dJ jR:=C.lift λxs J vs H Q2 E2 Q E rs r ⟨t,b,ex,h0,h1,q⟩ kn=>by
 subst ex
 obtain ⟨v,u,rfl,r1,r2⟩:=jV rs
 cases r1;cases r2
 exact ⟨t,b,rfl,h0,h1,wW r kn q⟩
def di:cM:=λxs J Q _=>∃p q:Rat,xs=[fr p,fr q]∧Sz 9000 p∧Sz 9000 q∧Q (.bl (decide (p < q))) J
theorem Di (C:tI P w K mg base 1 "less" fV (GD K)):bq P w K mg base 1 "less" fV di:=C.lift λxs J vs H Q2 E2 Q E rs r ⟨p,q,ex,h0,h1,z⟩ kn=>by
 subst ex
 obtain ⟨v,u,rfl,r1,r2⟩:=jV rs
 obtain ⟨a,rfl,f1⟩:=rG r1
 obtain ⟨b,rfl,f2⟩:=rG r2
 exact ⟨a,b,p,q,rfl,f1,f2,h0,h1,kn (.bl _) J _ H rfl r .refl z⟩
def AV (g:Rat→Rat→Rat):cM:=λxs J Q _=>∃p q:Rat,xs=[fr p,fr q]∧Sz 4000 p∧Sz 4000 q∧Q (fr (g p q)) J
theorem Ke {x:Str} {ps:List Str} {k:Nat} {g:Rat→Rat→Rat} (C:tI P w K mg base k x ps (PB K g)):bq P w K mg base k x ps (AV g):=C.lift λxs J vs H Q2 E2 Q E rs r ⟨p,q,ex,h0,h1,z⟩ kn=>by
 subst ex
 obtain ⟨v,u,rfl,r1,r2⟩:=jV rs
 obtain ⟨a,rfl,f1⟩:=rG r1
 obtain ⟨b,rfl,f2⟩:=rG r2
 exact ⟨a,b,p,q,rfl,f1,f2,h0,h1,wW r kn z⟩
theorem Dj (C:tI P w K mg base 3 "plus" qJ (PB K λp q=>p + q)):bq P w K mg base 3 "plus" qJ (AV λp q=>p + q):=Ke C
theorem zX (C:tI P w K mg base 3 "minus" kT (PB K λp q=>p - q)):bq P w K mg base 3 "minus" kT (AV λp q=>p - q):=Ke C
def tq:cM:=λxs J Q _=>∃(p:Rat) (m:Int),xs=[fr p,.int m]∧Sz 9000 p∧Bd 9000 m∧Q (fr (p * m)) J
theorem zZ (C:tI P w K mg base 3 "times" nW (Cq K)):bq P w K mg base 3 "times" nW tq:=C.lift λxs J vs H Q2 E2 Q E rs r ⟨p,m,ex,h0,h1,z⟩ kn=>by
 subst ex
 obtain ⟨v,u,rfl,r1,r2⟩:=jV rs
 obtain ⟨a,rfl,f1⟩:=rG r1
 cases r2
 exact ⟨a,p,m,rfl,f1,h0,h1,wW r kn z⟩
def aQ.V (l:aQ):PV:=.tup [fr l.m,fr l.p,.int l.v]
theorem tE (m p:Rat) (v:Int):PV.tup [fr m,fr p,.int v]=(aQ.mk m p v).V:=rfl
theorem rV (J:Hq) (l:aQ):fA J l.V (.int 0)=some (fr l.m):=d5 _ _
theorem Fd (J:Hq) (l:aQ):fA J l.V (.int 1)=some (fr l.p):=fz _ _ _
theorem hZ (J:Hq) (l:aQ):fA J l.V (.int 2)=some (.int l.v):=jW _ _ _ _
theorem P0 (J:Hq) (l:aQ):A8 J l.V=some "tuple":=rfl
theorem Kc (J:Hq) (l:aQ):wb J l.V=some 3:=rfl
theorem F2 (l:aQ):nX l.V=true:=by simp [aQ.V,BZ,pd,yO,wM,wN]
theorem NY (l:aQ):G8 l.V=True:=eq_true ⟨F2 l,by simp [aQ.V,fr,gw,gQ,dep,eh]⟩
theorem Lw (a b:aQ):eqQ a.V b.V=decide (a=b):=by
 unfold aQ.V
 rw [vT,er,er,er,qz,Bx,Bx,eq_int,UC,← UH,← UH]
 apply decide_eq_decide.mpr
 cases a;cases b
 simp [aQ.mk.injEq]
theorem NK (a b:aQ):(a.V=b.V)=(a=b):=by
 apply propext
 constructor
 ·intro e
  have:=Lw a b
  rw [e,eq_self] at this
  exact of_decide_eq_true this.symm
 ·intro e;rw [e]
def me:cM:=λxs J Q _=>∃(l:aQ) (t:Rat),xs=[l.V,fr t]∧Sz 900 l.m∧Sz 900 l.p∧Sz 900 t∧Bd 64 l.v∧Q (fr (l.at t)) J
abbrev mJ:Stmt:=(top 25)
abbrev ib:List Str:=["leg","moment"]
theorem ik:L2.aw ["leg","moment","begun","place","pace"] ["leg","moment"] (L2.aj mJ):=d7
theorem wy {f:Addr} {fd:FuncData} (F:cm K "place_on" "place_on" mJ f fd) (Z:bV mg) (zp:bq P w K mg base 3 "plus" qJ (AV λp q=>p + q)) (mW:bq P w K mg base 3 "minus" kT (AV λp q=>p - q)) (vG:bq P w K mg base 3 "times" nW tq) :
  aP P w K mg base (c8 P w) 4 f fd ib (dC K me):=by
 simp_arith [ik,(ai (wX (rv 0) (sE (n:=3) rfl (c5 (bz (i:=2) ik.nd) (c5 (bz (i:=3) ik.nd) (c5 (bz (i:=4) ik.nd) nZ)))))
   (ar (ay (aO zp B hr (af (rv 3) (af (aO vG B hr (af (aO mW B hr (af (rv 1) (af (rv 2) ah))) (af (rv 4) ah))) ah))))))]
 ·obtain ⟨l,t,rfl,_⟩:=h;rfl
 obtain ⟨l,t,rfl,sb,sp,sm,bv,q⟩:=h
 have s1:Sz 1801 (t - l.m):=sm.sub sb
 have s2:Sz 1900 ((t - l.m) * (l.v:Rat)):=s1.mul bv
 refine hX ?_
 simp_arith! [bX,aQ.V,AV,tq]
 exact ⟨sm.mono (by decide),sb.mono (by decide),s1.mono (by decide),bv.mono (by decide),sp.mono (by decide),s2.mono (by decide),q⟩
theorem Lz (n:Int):PV.tup [.int n,.int 1]=fr (n:Rat):=rfl
theorem lF (p q:Rat):p.num * (q.den:Int)=q.num * (p.den:Int)↔p=q:=by
 have a:=cast_eq p
 have b:=cast_eq q
 have c:=eg p
 have d:=eg q
 constructor
 ·intro h
  have h':((p.num * (q.den:Int):Int):Rat)=((q.num * (p.den:Int):Int):Rat):=by rw [h]
  rw [Rat.intCast_mul,Rat.intCast_mul,a,b] at h'
  grind
 ·intro h;rw [h]
def gv:Option Rat→PV
 | none=>.non
 | some q=>fr q
structure G6 (cL:Addr) (J:Hq) (p r:Addr) (rows:List aQ) (g:Option Rat):Prop where
 o:J p=some (.ins cL [("rows",.ref r),("gone",gv g)])
 l:J r=some (.lst (rows.map aQ.V))
theorem G6.ne {cL:Addr} {J:Hq} {p r:Addr} {rows:List aQ} {g:Option Rat} (h:G6 cL J p r rows g):r≠p:=by
 intro e;subst e;have:=h.o;rw [h.l] at this;cases this
structure lV (n:Nat) (l:aQ):Prop where
 m:Sz n l.m
 p:Sz n l.p
 v:Bd 64 l.v
theorem lV.mono {n k:Nat} {l:aQ} (h:lV n l) (e:n≤k):lV k l:=⟨h.m.mono e,h.p.mono e,h.v⟩
theorem HY (a b:PV):([("rows",a),("gone",b)]:List (Str × PV)).lookup ("rows":Str)=some a:=rfl
theorem S8 (a b:PV):([("rows",a),("gone",b)]:List (Str × PV)).lookup ("gone":Str)=some b:=rfl
theorem Fq {m:Str} (a b:PV) (h:(m == ("rows":Str))=false) (k:(m == ("gone":Str))=false):([("rows",a),("gone",b)]:List (Str × PV)).lookup m=none:=by rw [T7,h];simp only;rw [T7,k];rfl
theorem Ou (a b:PV):([("rows",a),("gone",b)]:List (Str × PV)).lookup ("turn":Str)=none:=Fq a b (by decide +kernel) (by decide +kernel)
theorem Q8 (a b:PV):([("rows",a),("gone",b)]:List (Str × PV)).lookup ("leave":Str)=none:=Fq a b (by decide +kernel) (by decide +kernel)
theorem Q9 (a b:PV):([("rows",a),("gone",b)]:List (Str × PV)).lookup ("legs":Str)=none:=Fq a b (by decide +kernel) (by decide +kernel)
theorem Ow (a b:PV):([("rows",a),("gone",b)]:List (Str × PV)).lookup ("there":Str)=none:=Fq a b (by decide +kernel) (by decide +kernel)
theorem Ox (a b:PV):([("rows",a),("gone",b)]:List (Str × PV)).lookup ("leg_at":Str)=none:=Fq a b (by decide +kernel) (by decide +kernel)
theorem Kk:(("rows":Str)=("gone":Str))=False:=eq_false (by decide +kernel)
theorem fg {J:Hq} {l:Addr} {o:HQ} (h:J l=none):m3 J (put J l o):=λa=>by
 by_cases e:a=l
 ·subst e;exact .inr h
 ·rw [aq e];exact .inl rfl
theorem IK (x z:PV):pe ("gone":Str) z (pe ("rows":Str) x [])=([("rows",x),("gone",z)]:List (Str × PV)):=by simp only [pe,Kk,if_false]
abbrev gS:Stmt:=(L2.inClass (top 29) 0)
abbrev jZ:List Str:=["self","moment","place","pace"]
theorem qs:L2.aw ["self","moment","place","pace"] ["self","moment","place","pace"] (L2.aj gS):=d7
def Cd (cL:Addr):cM:=λxs J Q _=>∃(p:Addr) (l:aQ),xs=[.ref p,fr l.m,fr l.p,.int l.v]∧J p=some (.ins cL [])∧∀r,J r=none→Q .non (put (put J r (.lst [l.V])) p (.ins cL [("rows",.ref r),("gone",.non)]))
theorem yu {cL f:Addr} {fd:FuncData} (F:cm K "__init__" "Log.__init__" gS f fd) (bG:d_ K mg "Log" cL) (aZ:aL K cL "rows") (cn:aL K cL "gone"):aP P w K mg base (c8 P w) 1 f fd jZ (dC K (Cd cL)):=by
 simp_arith [qs,(ai (iK bG.cl aZ (rv 0) (mC (af (bO (af (rv 1) (af (rv 2) (af (rv 3) ah)))) ah)))
   (ar (iK bG.cl cn (rv 0) mD)))]
 ·obtain ⟨p,l,rfl,_⟩:=h;rfl
 obtain ⟨p,l,rfl,hp,q⟩:=h
 refine hX ?_
 simp_arith! [bX,tE]
 intro r hr'
 have ne:p≠r:=by intro e;subst e;rw [hp] at hr';cases hr'
 refine mB (by rw [aq ne];exact hp) ⟨by decide,mB ak ⟨by show (1:Nat) < 1000;decide,?_⟩⟩
 rw [bM,IK]
 exact q r hr'
abbrev mF:Stmt:=(L2.inClass (top 29) 1)
abbrev kL:List Str:=["self","moment","pace"]
theorem p5:L2.aw ["self","moment","pace","place"] ["self","moment","pace"] (L2.aj mF):=d7
def xw (cL:Addr):cM:=λxs J Q _=>∃p r rows g t v,xs=[.ref p,fr t,.int v]∧G6 cL J p r rows g∧rows≠[]∧rows.length≤900∧Sz 900 t∧(∀l∈rows,lV 900 l)∧Q .non (put J r (.lst ((turned rows t v).map aQ.V)))
theorem yw {cL f:Addr} {fd:FuncData} (F:cm K "turn" "Log.turn" mF f fd) (Z:bV mg) (bG:d_ K mg "Log" cL) (aZ:aL K cL "rows") (eO:bq P w K mg base 4 "place_on" ib me):aP P w K mg base (c8 P w) 5 f fd kL (dC K (xw cL)):=by
 simp_arith [p5,(ai (aA (i:=3) p5.nd (aO eO B hr (af (au av (aY bG.cl aZ (rv 0)) (pZ ly ag)) (af (rv 1) ah))))
   (cW (aT (aE (cI hr.aU) (au av (au av (aY bG.cl aZ (rv 0)) (pZ ly ag)) ag) (rv 1)) (ar (aX (kX PySem.F.plainAttrs_list PySem.F.slot_list_pop PySem.F.type_list_pop Fw (aY bG.cl aZ (rv 0))))) aF)
   (ai (aT (c7 (ft (MR (aY bG.cl aZ (rv 0))) (dY (aE (cI hr.aU) (au av (au av (aY bG.cl aZ (rv 0)) (pZ ly ag)) ag) (rv 2))))) (ar Jk) aF)
   (ar (aX (ie PySem.F.plainAttrs_list PySem.F.slot_list_append PySem.F.type_list_append fH (aY bG.cl aZ (rv 0)) (af (bO (af (rv 1) (af (rv 3) (af (rv 2) ah)))) ah)))))))]
 ·obtain ⟨p,r,rows,g,t,v,rfl,_⟩:=h;rfl
 obtain ⟨p,r,rows,g,t,v,rfl,b,hne,hl,st,sl,q⟩:=h
 obtain ⟨ls,l,rfl⟩:∃ls l,rows=ls ++ [l]:=⟨rows.dropLast,rows.getLast hne,(T9 hne).symm⟩
 have bo:=b.o
 have bl:=b.l
 have npr:=b.ne
 have sl':=sl l (by simp)
 have hla:dt ((ls ++ [l]).map aQ.V) (-1)=some l.V:=by rw [Ts];exact qy _ _
 refine hX ?_
 simp_arith! [bX,bo,bl,HY]
 refine kF hla ⟨l,t,rfl,sl'.m,sl'.p,st,sl'.v,?_⟩
 obtain ⟨M,hM⟩:∃M:Sr→Hq→Prop,∀τ' J',M τ' J'↔τ'=[some (.ref p),some (fr t),some (.int v),some (fr (l.at t))]∧J'=put J r (.lst ((if l.m=t then ls else ls ++ [l]).map aQ.V)):=⟨_,λ_ _=>Iff.rfl⟩
 refine ⟨M,?_,?_⟩
 ·simp_arith! [bX,bo,bl,HY,hla,rV]
  split
  ·rename_i e
   refine ⟨l.V,by simp,(hM _ _).mpr ⟨rfl,?_⟩⟩
   rw [if_pos e,Ts,Tt,Uc,Uz]
  ·rename_i e
   exact (hM _ _).mpr ⟨rfl,by rw [if_neg e,AG bl]⟩
 ·intro τ' J' hm
  obtain ⟨rfl,rfl⟩:=(hM _ _).mp hm
  clear hm hM M
  have et:turned (ls ++ [l]) t v=if (if l.m=t then ls else ls ++ [l]).getLast?.map aQ.v=some v then (if l.m=t then ls else ls ++ [l]) else (if l.m=t then ls else ls ++ [l]) ++ [⟨t,l.at t,v⟩]:=by
   unfold turned
   simp only [T2,Uz]
  have hrl:(if l.m=t then ls else ls ++ [l]).length≤900:=by
   split
   ·rw [TN] at hl;omega
   ·exact hl
  rw [et] at q
  generalize (if l.m=t then ls else ls ++ [l])=rest at q hrl ⊢
  simp_arith! [bX,aq (Ne.symm npr),bo,HY,bM,tE]
  rcases Vx rest with rfl | ⟨ks,k,rfl⟩
  ·simp only [List.getLast?_nil,Option.map_none,reduceCtorEq,if_false,List.nil_append] at q
   simpa [Kf,sizeLine] using q
  ·rw [Vy] at *
   rw [T2,U9] at q
   have hk:dt ((ks ++ [k]).map aQ.V) (-1)=some k.V:=by rw [Ts];exact qy _ _
   rw [if_pos (by simp)]
   simp_arith! [bX,aq (Ne.symm npr),bo,HY,hk,hZ,Th]
   by_cases e:k.v=v
   ·rw [if_pos e];rw [if_pos (congrArg some e)] at q;exact q
   ·rw [if_neg e];rw [if_neg (λz=>e (Option.some.inj z))] at q
    simp_arith! [bX,aq (Ne.symm npr),bo,HY,bM,tE,Th]
    refine ⟨a8 (by omega),?_⟩
    rw [Ts] at q
    exact q
abbrev mE:Stmt:=(L2.inClass (top 29) 3)
abbrev pX:List Str:=["self"]
theorem yX:L2.aw ["self"] ["self"] (L2.aj mE):=d7
def Ce (cL:Addr):cM:=λxs J Q _=>∃p r rows g,xs=[.ref p]∧G6 cL J p r rows g∧(Q (.fl (rows.map aQ.V)) J∨∀l,J l=none→Q (.ref l) (put J l (.lst (rows.map aQ.V))))
theorem yv {cL f:Addr} {fd:FuncData} (F:cm K "legs" "Log.legs" mE f fd) (Z:bV mg) (bG:d_ K mg "Log" cL) (aZ:aL K cL "rows"):aP P w K mg base (c8 P w) 1 f fd pX (dC K (Ce cL)):=by
 simp_arith [yX,(ar (ay (fN ni rfl Z.list boot_list (af (aY bG.cl aZ (rv 0)) ah)))),F]
 ·obtain ⟨p,r,rows,g,rfl,_⟩:=h;rfl
 obtain ⟨p,r,rows,g,rfl,b,q⟩:=h
 have bo:=b.o
 have bl:=b.l
 refine hX ?_
 simp_arith! [bX,bo,bl,HY]
 intro l hl
 rcases q with q | q
 ·exact Fg.oN (fg hl) ak hl q
 ·exact Fg.same (q l hl)
theorem So {rows:List aQ} {i:Nat} {b:aQ} (h:rows[i]?=some b):dt (rows.map aQ.V) (i:Int)=some b.V:=bx (by rw [Tq,h];rfl)
abbrev pj:Stmt:=(top 19)
abbrev sv:List Str:=["rows","moment"]
theorem mL:L2.aw ["rows","moment","at"] ["rows","moment"] (L2.aj pj):=d7
def y4:cM:=λxs J Q _=>∃(x:PV) (t:Rat) (ys:List PV) (ms:List Rat),xs=[x,fr t]∧my J x=some ys∧ys.length=ms.length∧ms.length≤900∧(∀(i:Nat) y m,ys[i]?=some y→ms[i]?=some m→fA J y (.int 0)=some (fr m))∧Sz 9000 t∧(∀m∈ms,Sz 9000 m)∧Q (.int ((lb ms t ms.length:Int) - 1)) J
theorem yy {f:Addr} {fd:FuncData} (F:cm K "last_by" "last_by" pj f fd) (Z:bV mg) (du:bq P w K mg base 1 "less" fV di):aP P w K mg base (c8 P w) 2 f fd sv (dC K y4):=by
 simp_arith [mL,(ai (aA (i:=2) mL.nd (aM d8 (aJ bN rfl Z.len boot_len (af (rv 0) ah)) ag))
   (ai (jh bQ (c7 (ft (aE FN (rv 2) ag) (dY (bt (aO du B hr (af (rv 1) (af (au av (au av (rv 0) (rv 2)) ag) ah))))))) (ar (Gn (i:=2) mL.nd ag E4)))
   (ar (ay (rv 2)))))]
 ·obtain ⟨x,t,ys,ms,rfl,_⟩:=h;rfl
 obtain ⟨x,t,ys,ms,rfl,hx,hlen,hl,h0,st,sm,q⟩:=h
 refine hX ?_
 simp_arith! [bX,Aa hx,hlen]
 refine ⟨λk τ J'=>∃j:Nat,τ=[some x,some (fr t),some (.int ((j:Int) - 1))]∧J'=J∧j≤ms.length∧k=j∧lb ms t ms.length=lb ms t j,⟨_,ms.length,rfl,rfl,Tr _,rfl,rfl⟩,?_⟩
 rintro k τ J' ⟨j,rfl,rfl,hj,rfl,hb⟩
 simp_arith! [bX,BP hx,di]
 cases k with
 | zero =>
  rw [if_neg (by omega)]
  rw [hb] at q
  exact q
 | succ k =>
  rw [if_pos (by omega)]
  obtain ⟨y,hy⟩:∃y,ys[k]?=some y:=⟨_,Tn (by omega)⟩
  obtain ⟨m,hm⟩:∃m,ms[k]?=some m:=⟨_,Tn (by omega)⟩
  have ha:dt ys (((k + 1:Nat):Int) - 1)=some y:=by
   have:((k + 1:Nat):Int) - 1=(k:Int):=by omega
   rw [this];exact bx hy
  have em:ms.getD k 0=m:=by simp [Wf,hm]
  have hu:lb ms t (k + 1)=if m≤t then k + 1 else lb ms t k:=by
   show (if ms.getD k 0≤t then k + 1 else lb ms t k)=_
   rw [em]
  refine kF ha (kF (h0 k y m hy hm) ?_)
  simp_arith! [bX]
  refine ⟨st,sm m (To hm),?_⟩
  by_cases c:t < m
  ·rw [if_pos c]
   have hn:¬ m≤t:=Rat.not_le.mpr c
   rw [if_neg hn] at hu
   refine ⟨λτ J''=>τ=[some x,some (fr t),some (.int ((k:Int) - 1))]∧J''=J',λτ' J'' ⟨e1,e2⟩=>⟨k,UN _,k,e1,e2,by omega,rfl,by rw [hb,hu]⟩,?_⟩
   simp_arith! [bX]
   have:((k + 1:Nat):Int) - 1 - 1=(k:Int) - 1:=by omega
   exact this
  ·rw [if_neg c]
   rw [if_pos (Rat.not_lt.mp c)] at hu
   rw [hb,hu] at q
   exact q
abbrev lh:Stmt:=(L2.inClass (top 29) 5)
abbrev jG:List Str:=["self","moment"]
theorem n_:L2.aw ["self","moment","joined"] ["self","moment"] (L2.aj lh):=d7
def sW (cL:Addr):cM:=λxs J Q _=>∃p r rows g t,xs=[.ref p,fr t]∧G6 cL J p r rows g∧rows≠[]∧Sz 900 t∧(∀l∈rows,lV 900 l)∧(∀q,g=some q→Sz 900 q)∧Q (.bl (there rows g t)) J
theorem wq {cL f:Addr} {fd:FuncData} (F:cm K "there" "Log.there" lh f fd) (Z:bV mg) (bG:d_ K mg "Log" cL) (aZ:aL K cL "rows") (cn:aL K cL "gone") (du:bq P w K mg base 1 "less" fV di):aP P w K mg base (c8 P w) 2 f fd jG (dC K (sW cL)):=by
 simp_arith [n_,(ai (aA (i:=2) n_.nd (au av (au av (aY bG.cl aZ (rv 0)) ag) ag))
   (ai (aT (bt (aO du B hr (af (rv 1) (af (rv 2) ah)))) (ar (ay dN)) aF)
   (ar (ay (Pu (fP OP (aY bG.cl cn (rv 0)) mD) (wV (aO du B hr (af (rv 1) (af (aY bG.cl cn (rv 0)) ah)))))))))]
 ·obtain ⟨p,r,rows,g,t,rfl,_⟩:=h;rfl
 obtain ⟨p,r,rows,g,t,rfl,b,hne,st,sl,sg,q⟩:=h
 have bo:=b.o
 have bl:=b.l
 obtain ⟨l,ls,rfl⟩:∃l ls,rows=l :: ls:=UK hne
 have sl':=(sl l (by simp)).m
 refine hX ?_
 simp_arith! [bX,bo,bl,HY,S8,rV,di]
 refine ⟨st.mono (by decide),sl'.mono (by decide),?_⟩
 unfold there at q
 simp only [U'] at q
 by_cases c:t < l.m
 ·rw [if_pos c]
  rw [decide_eq_true c] at q
  exact q
 ·rw [if_neg c]
  rw [decide_eq_false c] at q
  cases g with
  | none=>simpa [gv,N5,K0,NT] using q
  | some u =>
   simp only [gv,rT,TJ,if_false]
   simp only [NT] at q
   refine ⟨u,rfl,st.mono (by decide),(sg u rfl).mono (by decide),?_⟩
   simpa using q
abbrev jQ:Stmt:=(L2.inClass (top 29) 6)
abbrev iF:List Str:=["self","moment"]
theorem uE:L2.aw ["self","moment"] ["self","moment"] (L2.aj jQ):=d7
def sV (cL eN:Addr):cM:=λxs J Q E=>∃p r rows g t,xs=[.ref p,fr t]∧G6 cL J p r rows g∧rows≠[]∧rows.length≤900∧Sz 900 t∧(∀l∈rows,lV 900 l)∧(∀q,g=some q→Sz 900 q)∧(there rows g t=true→∀l,h_ rows t=some l→Q l.V J)∧(there rows g t=false→E eN J)
theorem ux {cL eN f:Addr} {fd:FuncData} (F:cm K "leg_at" "Log.leg_at" jQ f fd) (Z:bV mg) (bG:d_ K mg "Log" cL) (aZ:aL K cL "rows") (dD:Own K mg "NotThere" eN) (e9:cG P w K mg base cL 2 "there" jG (sW cL))
  (CD:bq P w K mg base 2 "last_by" sv y4):aP P w K mg base (c8 P w) 3 f fd iF (dC K (sV cL eN)):=by
 simp_arith [uE,(ai (aT (bU (bt (bp (pl:=_) e9 B hr (rv 0) (af (rv 1) ah)))) (ar (dP dD rfl cy B.kn rfl (af bF ah))) aF)
   (ar (ay (au av (aY bG.cl aZ (rv 0)) (aO CD B hr (af (aY bG.cl aZ (rv 0)) (af (rv 1) ah)))))))]
 ·obtain ⟨p,r,rows,g,t,rfl,_⟩:=h;rfl
 obtain ⟨p,r,rows,g,t,rfl,b,hne,hl,st,sl,sg,q,qe⟩:=h
 have bo:=b.o
 have bl:=b.l
 refine hX ?_
 simp_arith! [bX,bo,bl,HY]
 refine ⟨Ow _ _,p,r,rows,g,t,rfl,b,hne,st,sl,sg,?_⟩
 simp_arith! [bX,fo,bo,bl,HY]
 cases hc:there rows g t with
 | false=>rw [if_pos rfl];exact qe hc
 | true =>
  rw [if_neg (by decide)]
  obtain ⟨l,h1,h2,h3,h4,h5⟩:=zi hc
  refine ⟨_,t,rows.map aQ.V,rows.map aQ.m,rfl,by simp_arith! [bX,bl],by simp,by simpa using hl,?_,st.mono (by decide),?_,?_⟩
  ·intro i y m hy hm
   rw [Tq] at hy hm
   cases e:rows[i]? with
   | none=>rw [e] at hy;cases hy
   | some z=>rw [e] at hy hm;cases hy;cases hm;exact rV _ _
  ·intro m hm
   obtain ⟨z,hz,rfl⟩:=Ti.mp hm
   exact (sl z hz).m.mono (by decide)
  ·rw [Th]
   simp_arith! [bX,bl]
   refine kF (x:=l.V) ?_ (q hc l h1)
   have:((lb (rows.map aQ.m) t rows.length:Nat):Int) - 1=((lb (rows.map aQ.m) t rows.length - 1:Nat):Int):=by omega
   rw [this]
   exact So h5
abbrev k_:Stmt:=(L2.inClass (top 29) 2)
abbrev nM:List Str:=["self","moment"]
theorem xj:L2.aw ["self","moment"] ["self","moment"] (L2.aj k_):=d7
def y3 (cL:Addr):cM:=λxs J Q _=>∃p r rows g t,xs=[.ref p,fr t]∧G6 cL J p r rows g∧Q .non (put J p (.ins cL [("rows",.ref r),("gone",fr t)]))
theorem wo {cL f:Addr} {fd:FuncData} (F:cm K "leave" "Log.leave" k_ f fd) (Z:bV mg) (bG:d_ K mg "Log" cL) (cn:aL K cL "gone"):aP P w K mg base (c8 P w) 1 f fd nM (dC K (y3 cL)):=by
 simp_arith [xj,(ar (iK bG.cl cn (rv 0) (rv 1)))]
 ·obtain ⟨p,r,rows,g,t,rfl,_⟩:=h;rfl
 obtain ⟨p,r,rows,g,t,rfl,b,q⟩:=h
 have bo:=b.o
 refine hX ?_
 simp_arith! [bX,bo,Kk]
 exact ⟨by decide,q⟩
theorem ki {l:aQ} {t:Rat} (h:lV 900 l) (sm:Sz 900 t):Sz 3000 (l.at t):=by
 have s1:Sz 1801 (t - l.m):=sm.sub h.m
 have s2:Sz 1900 ((t - l.m) * (l.v:Rat)):=s1.mul h.v
 exact h.p.add s2
abbrev iP:Stmt:=(top 27)
abbrev kS:List Str:=["name","leg","other_name","other_leg","moment"]
theorem gU:L2.aw ["name","leg","other_name","other_leg","moment","place","other_place"] ["name","leg","other_name","other_leg","moment"] (L2.aj iP):=d7
def GF:cM:=λxs J Q _=>∃(n n':Str) (l l':aQ) (t:Rat),xs=[.str n,l.V,.str n',l'.V,fr t]∧lV 900 l∧lV 900 l'∧Sz 900 t∧Q (.bl ((key t (n,l)).lt (key t (n',l')))) J
theorem qo {f:Addr} {fd:FuncData} (F:cm K "lies_behind" "lies_behind" iP f fd) (Z:bV mg) (eO:bq P w K mg base 4 "place_on" ib me) (du:bq P w K mg base 1 "less" fV di):aP P w K mg base (c8 P w) 5 f fd kS (dC K GF):=by
 simp_arith [gU,(ai (aA (i:=5) gU.nd (aO eO B hr (af (rv 1) (af (rv 4) ah))))
   (ai (aA (i:=6) gU.nd (aO eO B hr (af (rv 3) (af (rv 4) ah))))
   (ai (aT (aE (ia hr.aU) (rv 5) (rv 6)) (ar (ay (aO du B hr (af (rv 5) (af (rv 6) ah))))) aF)
   (ai (aT (aE (ia hr.aU) (au av (rv 1) ag) (au av (rv 3) ag)) (ar (ay (fP gM (au av (rv 1) ag) (au av (rv 3) ag)))) aF)
   (ar (ay (fP As (rv 0) (rv 2))))))))]
 ·obtain ⟨n,n',l,l',t,rfl,_⟩:=h;rfl
 obtain ⟨n,n',l,l',t,rfl,sl,sl',st,q⟩:=h
 refine hX ?_
 simp_all! []
 refine ⟨l,t,rfl,sl.m,sl.p,st,sl.v,?_⟩
 simp_all! []
 refine ⟨l',t,rfl,sl'.m,sl'.p,st,sl'.v,?_⟩
 have a1:=ki sl st
 have a2:=ki sl' st
 simp_all! []
 unfold Ky.lt key at q
 dsimp only at q
 by_cases e:l.at t=l'.at t
 ·rw [if_pos e] at q
  rw [if_pos e]
  simp_all! [hZ]
  by_cases e2:l.v=l'.v
  ·rw [if_pos e2] at q
   rw [if_pos e2]
   simp_all! []
   exact q
  ·rw [if_neg e2] at q
   rw [if_neg e2]
   simp_all! [hZ]
   exact q
 ·rw [if_neg e] at q
  rw [if_neg e]
  simp_all! [di]
  exact ⟨a1.mono (by decide),a2.mono (by decide),q⟩
abbrev mH:Stmt:=(top 41)
abbrev kR:List Str:=["legs","moment"]
theorem f':L2.aw ["legs","moment","names","name","at"] ["legs","moment"] (L2.aj mH):=d7
def bI (fs:List (Str × aQ)):List (Str × PV):=fs.map λx=>(x.1,x.2.V)
def pH:cM:=λxs J Q _=>∃(D:Addr) (fs:List (Str × aQ)) (ep:Nat) (t:Rat),xs=[.ref D,fr t]∧J D=some (.dct (bI fs) ep)∧(fs.map (·.1)).Nodup∧fs.length≤100∧Sz 900 t∧(∀x∈fs,lV 900 x.2)∧∀p,J p=none→Q (.ref p) (put J p (.lst ((cf t fs).map .str)))
theorem wu {f:Addr} {fd:FuncData} (F:cm K "in_order" "in_order" mH f fd) (Z:bV mg) (tO:bq P w K mg base 5 "lies_behind" kS GF):aP P w K mg base (c8 P w) 6 f fd kR (dC K pH):=by
 simp_arith [f',(ai (aA (i:=2) f'.nd (mC ah))
   (ai (dw bQ rfl (ig (rv 0)) (bz (i:=3) f'.nd) (ai (aA (i:=4) f'.nd (aJ bN rfl Z.len boot_len (af (rv 2) ah)))
   (ai (jh bQ (c7 (ft (aE kG (rv 4) ag) (dY (bt (aO tO B hr (af (rv 3) (af (au bY (rv 0) (rv 3)) (af (au av (rv 2) (aM d8 (rv 4) ag)) (af (au bY (rv 0) (au av (rv 2) (aM d8 (rv 4) ag))) (af (rv 1) ah)))))))))) (ar (Gn (i:=4) f'.nd ag E4)))
   (ar (aX (ie PySem.F.plainAttrs_list PySem.F.slot_list_insert PySem.F.type_list_insert i6 (rv 2) (af (rv 4) (af (rv 3) ah))))))))
   (ar (ay (rv 2)))))]
 ·obtain ⟨D,fs,ep,t,rfl,_⟩:=h;rfl
 obtain ⟨D,fs,ep,t,rfl,hD,hnd,hlen,st,sl,q⟩:=h
 refine hX ?_
 simp_all! []
 intro r hr'
 have nDr:D≠r:=by intro e;subst e;rw [hD] at hr';cases hr'
 simp_all! [aq nDr,hD]
 have hkv:(bI fs).map (λkv=>PV.str kv.1)=fs.map λx=>PV.str x.1:=by unfold bI;rw [Tw];rfl
 rw [hkv]
 obtain ⟨Inv,hInv⟩:∃Inv:Nat→Sr→Hq→Prop,∀i τ J',Inv i τ J'↔∃(u3 u4:Option PV),τ=[some (.ref D),some (fr t),some (.ref r),u3,u4]∧J'=put J r (.lst ((cf t (fs.take i)).map .str)):=⟨_,λ_ _ _=>Iff.rfl⟩
 refine eV Inv ((hInv _ _ _).mpr ⟨_,_,rfl,rfl⟩) (λi τ J' h=>?_) ?_ ?_
 ·obtain ⟨_,_,_,rfl⟩:=(hInv _ _ _).mp h
  rw [aq nDr];exact hD
 ·intro i x τ J' hx hv
  obtain ⟨u3,u4,rfl,rfl⟩:=(hInv _ _ _).mp hv
  clear hv
  have hi:i < fs.length:=by have:=(Tj.mp hx).1;simpa using this
  rw [Tq,Tn hi] at hx
  cases hx
  rcases hfi:fs[i] with ⟨n,l⟩
  have hmem:(n,l)∈fs:=by rw [← hfi];exact TY hi
  have et:fs.take (i + 1)=fs.take i ++ [(n,l)]:=by rw [TR,Tn hi,hfi];rfl
  have hndt:((fs.take (i + 1)).map (·.1)).Nodup:=by rw [Uv];exact hnd.sublist (Up _ _)
  rw [et,Ts,Tt,Uc] at hndt
  obtain ⟨hnd1,hnew⟩:=fI hndt
  obtain ⟨ys,hys⟩:∃ys,cK ((fs.take i).map (key t))=ys:=⟨_,rfl⟩
  have srt:oF Ky.lt ys:=by rw [← hys];exact cZ (by rw [cO];exact hnd1)
  have hyl:ys.length=i:=by rw [← hys,i9,Th,TX];omega
  have hym:∀y∈ys,∃l',(y.n,l')∈fs∧y=key t (y.n,l')∧y.n≠n:=λy hy=>by
   rw [← hys,bB,Ti] at hy
   obtain ⟨x',hx',rfl⟩:=hy
   exact ⟨x'.2,T8 hx',rfl,λe=>hnew (Ti.mpr ⟨x',hx',e⟩)⟩
  have eo:(cf t (fs.take i)).map PV.str=ys.map λy=>PV.str y.n:=by unfold cf;rw [hys,Tw];rfl
  have en:(cf t (fs.take (i + 1))).map PV.str=(qi Ky.lt (key t (n,l)) ys).map λy=>PV.str y.n:=by
   unfold cf;rw [et,Ts,Tt,Uc,i_,hys,Tw];rfl
  rw [eo]
  have hvn:j3 (bI fs) n=some l.V:=fS (f:=aQ.V) hnd hmem
  have sll:=sl _ hmem
  simp_all! [ak,Th]
  refine ⟨λm τ' J'=>m≤ys.length∧τ'=[some (.ref D),some (fr t),some (.ref r),some (.str n),some (.int (m:Nat))]∧J'=put J r (.lst (ys.map λy=>PV.str y.n))∧∀(j:Nat) y,m≤j→ys[j]?=some y→(key t (n,l)).lt y=true,⟨ys.length,Tr _,rfl,rfl,λj y hj e=>by rw [Ut hj] at e;cases e⟩,?_⟩
  rintro m τ' J' ⟨hm,rfl,rfl,hall⟩
  have fin:(∀(j:Nat) y,j < m→ys[j]?=some y→y.lt (key t (n,l))=true)→Inv (i + 1) [some (.ref D),some (fr t),some (.ref r),some (.str n),some (.int (m:Nat))] (put J r (.lst ((ys.map λy=>PV.str y.n).take m ++ .str n :: (ys.map λy=>PV.str y.n).drop m))):=λhlow=>by
   refine (hInv _ _ _).mpr ⟨_,_,rfl,?_⟩
   rw [en,← BJ hm hlow λj y hj e=>Ky.NL (hall j y hj e),Ts,Tt,Uv,U2]
   rfl
  simp_all! [ak,aq nDr,hD,hvn]
  by_cases c0:0 < m
  ·rw [if_pos (by omega)]
   obtain ⟨m',rfl⟩:∃m',m=m' + 1:=⟨m - 1,by omega⟩
   obtain ⟨y,hy⟩:∃y,ys[m']?=some y:=⟨_,Tn (by omega)⟩
   obtain ⟨l',hl',ey,ny⟩:=hym y (To hy)
   have ha:dt (ys.map λy=>PV.str y.n) (((m' + 1:Nat):Int) - 1)=some (.str y.n):=by
    rw [show ((m' + 1:Nat):Int) - 1=((m':Nat):Int) by omega]
    exact bx (by rw [Tq,hy];rfl)
   have hvy:j3 (bI fs) y.n=some l'.V:=fS (f:=aQ.V) hnd hl'
   simp_all! [ha,ak,aq nDr,hD,hvn,hvy]
   refine ⟨n,y.n,l,l',t,rfl,sll,sl _ hl',st,?_⟩
   rw [← ey]
   cases hc:(key t (n,l)).lt y with
   | true =>
    simp_all! []
    refine ⟨_,λτ'' J'' h=>⟨m',UN _,h⟩,⟨by omega,?_,rfl,λj z hj e=>?_⟩⟩
    ·rw [show ((m' + 1:Nat):Int) - 1=((m':Nat):Int) by omega]
    ·rcases U0 hj with h | h
     ·exact hall j z (by omega) e
     ·subst h;rw [hy] at e;cases e;exact hc
   | false =>
    simp_all! [ak]
    refine ⟨_,m' + 1,rfl,rfl,by rw [Th];omega,a8 (by rw [Th];omega),by omega,?_⟩
    rw [bM]
    refine fin λj z hj e=>?_
    have hyx:y.lt (key t (n,l))=true:=by
     rcases Ky.PL (a:=y) (b:=key t (n,l)) ny with h | h
     ·exact h
     ·rw [hc] at h;cases h
    exact zg (lt:=Ky.lt) Ky.tr srt hy e (by omega) hyx
  ·rw [if_neg (by omega)]
   simp_all! [ak]
   refine ⟨_,m,rfl,rfl,by rw [Th];omega,a8 (by rw [Th];omega),by omega,?_⟩
   rw [bM]
   exact fin λj z hj e=>by omega
 ·intro τ J' hv
  obtain ⟨u3,u4,rfl,rfl⟩:=(hInv _ _ _).mp hv
  rw [Th,T1]
  simp_all! []
  exact q r hr'
def oE (K:PySem.W.Frag) (mg:Str→Option Value):Prop:=∃a:Addr,mg "NOUGHT"=some (.ref a)∧∀H:Hp,g7 K H a [.int 0,.int 1]
theorem Dv {K:PySem.W.Frag} {h:Heap} {mg:Str→Option Value} (X:K.In h) (G:h.Ns mainGlobals mg) {a:Addr} {od:Option Addr} {n:Nat} {sl:Array (Option Value)} {t u:Tok}
  (e:PySem.W.nsIn K mainGlobals "NOUGHT"=some (some (.ref a))) (l:K.lookup a=some ⟨.type "tuple",od,.seq #[.int 0 t,.int 1 u] n,sl⟩):oE K mg :=
 ⟨a,PySem.W.mg_of X G e,λ_=>.inr ⟨_,_,_,l,rfl,rfl,(by show 2≤sizeLine;decide),.cons ⟨t,rfl⟩ (.cons ⟨u,rfl⟩ .nil)⟩⟩
structure Cf where
 n:Str
 a:Addr
 r:Addr
 w:List aQ
 g:Option Rat
structure Ln where
 t:Rat
 d:Addr
 e:Nat
 o:Addr
 cs:List Cf
 row:List Str
def Cf.cur (c:Cf):aQ:=c.w.getLast?.getD ⟨0,0,0⟩
def Ln.DQ (L:Ln):List Cf:=L.cs.filter λc=>c.g.isNone
def Ln.fs (L:Ln):List (Str × aQ):=L.DQ.map λc=>(c.n,c.cur)
structure ba (cN cL:Addr) (J:Hq) (p:Addr) (L:Ln):Prop where
 ob:J p=some (.ins cN [("now",fr L.t),("logs",.ref L.d),("row",.ref L.o)])
 dc:J L.d=some (.dct (L.cs.map λc=>(c.n,PV.ref c.a)) L.e)
 rw:J L.o=some (.lst (L.row.map .str))
 lg:∀c∈L.cs,G6 cL J c.a c.r c.w c.g
 ap:(L.cs.map Cf.r).Nodup
 ao:∀c∈L.cs,c.r≠L.o
structure bh (L:Ln):Prop where
 nd:(L.cs.map Cf.n).Nodup
 ne:∀c∈L.cs,c.w≠[]
 le:∀c∈L.cs,∀l∈c.w,l.m≤L.t
 ck:∀c∈L.cs,∀l∈c.w,tM l
 len:∀c∈L.cs,c.w.length≤200
 gz:∀c∈L.cs,∀q,c.g=some q→Sc iq MM q∧q≤L.t
 t0:0≤L.t
 ts:Sc iq MM L.t
 many:L.cs.length≤100
 rm:∀n,n∈L.row↔n∈L.fs.map (·.1)
 rn:L.row.Nodup
 rl:L.row.length≤12
structure cq (L:Ln):Prop extends bh L where
 row:L.row=cf L.t L.fs
def Ln.own (L:Ln) (p a:Addr):Prop:=a=p∨a=L.d∨a=L.o∨∃c∈L.cs,a=c.a∨a=c.r
structure Mv (J J':Hq) (S S':Addr→Prop):Prop where
 keep:∀a o,J a=some o→¬ S a→J' a=some o
 own:∀a,S' a→S a∨J a=none
 mono:∀a,J' a=none→J a=none
theorem Mv.refl (J:Hq) (S:Addr→Prop):Mv J J S S:=⟨λ_ _ h _=>h,λ_ h=>.inl h,λ_ h=>h⟩
theorem Mv.trans {J J' J'':Hq} {S S' S'':Addr→Prop} (h:Mv J J' S S') (k:Mv J' J'' S' S''):Mv J J'' S S'':=by
 refine ⟨λa o e n=>k.keep a o (h.keep a o e n) λz=>?_,λa z=>?_,λa z=>h.mono a (k.mono a z)⟩
 ·rcases h.own a z with q | q
  ·exact n q
  ·rw [q] at e;cases e
 ·rcases k.own a z with q | q
  ·exact h.own a q
  ·exact .inr (h.mono a q)
theorem Mv.new {J:Hq} {S:Addr→Prop} {x:Addr} {o:HQ} (h:J x=none):Mv J (put J x o) S S:=by
 refine ⟨λa u e _=>?_,λ_ z=>.inl z,λa z=>?_⟩
 ·rw [aq (λq=>by subst q;rw [h] at e;cases e)];exact e
 ·by_cases q:a=x
  ·subst q;rw [ak] at z;cases z
  ·rw [aq q] at z;exact z
theorem Mv.yr {J:Hq} {S:Addr→Prop} {x:Addr} {o:HQ} (h:J x=none):Mv J (put J x o) S (λa=>S a∨a=x) :=
 ⟨(Mv.new (S:=S) h).keep,λa z=>z.elim .inl λe=>.inr (by rw [e];exact h),(Mv.new (S:=S) h).mono⟩
theorem ba.keep {cN cL:Addr} {J J':Hq} {p:Addr} {L:Ln} (h:ba cN cL J p L) (k:∀a o,L.own p a→J a=some o→J' a=some o):ba cN cL J' p L :=
 ⟨k _ _ (.inl rfl) h.ob,k _ _ (.inr (.inl rfl)) h.dc,k _ _ (.inr (.inr (.inl rfl))) h.rw,λc hc=>⟨k _ _ (.inr (.inr (.inr ⟨c,hc,.inl rfl⟩))) (h.lg c hc).o,k _ _ (.inr (.inr (.inr ⟨c,hc,.inr rfl⟩))) (h.lg c hc).l⟩,h.ap,h.ao⟩
theorem ba.some {cN cL:Addr} {J:Hq} {p:Addr} {L:Ln} (h:ba cN cL J p L) {a:Addr} (o:L.own p a):J a≠none:=by
 rcases o with rfl | rfl | rfl | ⟨c,hc,rfl | rfl⟩
 ·rw [h.ob];exact λz=>nomatch z
 ·rw [h.dc];exact λz=>nomatch z
 ·rw [h.rw];exact λz=>nomatch z
 ·rw [(h.lg c hc).o];exact λz=>nomatch z
 ·rw [(h.lg c hc).l];exact λz=>nomatch z
theorem ba.fresh {cN cL:Addr} {J:Hq} {p x:Addr} {L:Ln} {o:HQ} (h:ba cN cL J p L) (hx:J x=none):ba cN cL (put J x o) p L :=
 h.keep λa u ow e=>by rw [aq (λq=>by subst q;rw [hx] at e;cases e)];exact e
theorem LD {J:Hq} {a b C C':Addr} {fs gs:List (Str × PV)} (h:J a=Uh (.ins C fs)) (k:J b=Uh (.ins C' gs)) (n:fs.map (·.1)≠gs.map (·.1)):a≠b:=by
 intro e;subst e;rw [h] at k
 have:=HQ.ins.inj (Option.some.inj k)
 exact n (by rw [this.2])
theorem ba.Ig {cN cL:Addr} {J:Hq} {p:Addr} {L:Ln} (h:ba cN cL J p L):L.d≠p:=by intro e;have:=h.ob;rw [← e,h.dc] at this;cases this
theorem ba.Ii {cN cL:Addr} {J:Hq} {p:Addr} {L:Ln} (h:ba cN cL J p L):L.o≠p:=by intro e;have:=h.ob;rw [← e,h.rw] at this;cases this
theorem ba.Rg {cN cL:Addr} {J:Hq} {p:Addr} {L:Ln} (h:ba cN cL J p L):L.d≠L.o:=by intro e;have:=h.rw;rw [← e,h.dc] at this;cases this
theorem Fy:([("rows":Str),("gone":Str)]:List Str)≠[("now":Str),("logs":Str),("row":Str)]:=by decide +kernel
theorem ba.Qe {cN cL:Addr} {J:Hq} {p:Addr} {L:Ln} (h:ba cN cL J p L) {c:Cf} (hc:c∈L.cs):c.a≠p:=LD (h.lg c hc).o h.ob Fy
theorem ba.Nr {cN cL:Addr} {J:Hq} {p:Addr} {L:Ln} (h:ba cN cL J p L) {c:Cf} (hc:c∈L.cs):c.r≠p:=by intro e;have:=h.ob;rw [← e,(h.lg c hc).l] at this;cases this
theorem ba.SH {cN cL:Addr} {J:Hq} {p:Addr} {L:Ln} (h:ba cN cL J p L) {c:Cf} (hc:c∈L.cs):c.a≠L.d:=by intro e;have:=h.dc;rw [← e,(h.lg c hc).o] at this;cases this
theorem ba.SI {cN cL:Addr} {J:Hq} {p:Addr} {L:Ln} (h:ba cN cL J p L) {c:Cf} (hc:c∈L.cs):c.r≠L.d:=by intro e;have:=h.dc;rw [← e,(h.lg c hc).l] at this;cases this
theorem ba.Rf {cN cL:Addr} {J:Hq} {p:Addr} {L:Ln} (h:ba cN cL J p L) {c:Cf} (hc:c∈L.cs):c.a≠L.o:=by intro e;have:=h.rw;rw [← e,(h.lg c hc).o] at this;cases this
theorem ba.S9 {cN cL:Addr} {J:Hq} {p:Addr} {L:Ln} (h:ba cN cL J p L) {c c':Cf} (hc:c∈L.cs) (hc':c'∈L.cs):c.a≠c'.r:=by intro e;have:=(h.lg c' hc').l;rw [← e,(h.lg c hc).o] at this;cases this
theorem ba.MV {cN cL:Addr} {J:Hq} {p o':Addr} {L:Ln} {row:List Str} (h:ba cN cL J p L) (ho:J o'=Uh (.lst (row.map .str))) (nc:∀c∈L.cs,c.r≠o'):ba cN cL (put J p (.ins cN [("now",fr L.t),("logs",.ref L.d),("row",.ref o')])) p { L with o:=o',row:=row } :=
 ⟨ak,by show put J p _ L.d=_;rw [aq h.Ig];exact h.dc,by show put J p _ o'=_;rw [aq (λe=>by rw [e,h.ob] at ho;cases ho)];exact ho,
  λc hc=>⟨by rw [aq (h.Qe hc)];exact (h.lg c hc).o,by rw [aq (h.Nr hc)];exact (h.lg c hc).l⟩,h.ap,nc⟩
theorem gJ {J:Hq} {S S':Addr→Prop} {x:Addr} {o:HQ} (hx:S x) (hS:∀a,S' a→S a∨J a=none):Mv J (put J x o) S S':=by
 refine ⟨λa u e n=>?_,hS,λa z=>?_⟩
 ·rw [aq (λq=>by subst q;exact n hx)];exact e
 ·by_cases q:a=x
  ·subst q;rw [ak] at z;cases z
  ·rw [aq q] at z;exact z
theorem bh.JH {L:Ln} (h:bh L):Sz 900 L.t:=(pW h.ts).mono (by decide)
theorem tM.D9 {l:aQ} (h:tM l):lV 900 l:=⟨h.Rc.mono (by decide),h.Rr.mono (by decide),.small (by have:=h.v;omega) (by have:=h.v;omega)⟩
theorem Cf.jx {c:Cf} (h:c.w≠[]):c.w.getLast?=Uh c.cur∧c.cur∈c.w:=by
 unfold Cf.cur
 rw [List.getLast?_eq_some_getLast h]
 exact ⟨rfl,List.getLast_mem h⟩
theorem bh.SG {L:Ln} (h:bh L) {c:Cf} (hc:c∈L.cs):h_ c.w L.t=Uh c.cur:=by
 unfold h_
 rw [Ui.mpr λl hl=>decide_eq_true (h.le c hc l hl)]
 exact (Cf.jx (h.ne c hc)).1
theorem bh.there {L:Ln} (h:bh L) {c:Cf} (hc:c∈L.cs) (hg:c.g=none):there c.w c.g L.t=true:=by
 obtain ⟨l,ls,e⟩:=UK (h.ne c hc)
 have:=h.le c hc l (by rw [e];simp)
 rw [hg,e]
 unfold Ov.there
 simp only [U',NT,UC]
 rw [decide_eq_false (Rat.not_lt.mpr this)];rfl
theorem Ln.dW {L:Ln} {c:Cf}:c∈L.DQ↔c∈L.cs∧c.g=none:=by
 unfold Ln.DQ
 rw [TB]
 cases c.g <;> simp
theorem f9 (L:Ln):L.fs.map (·.1)=L.DQ.map Cf.n:=by unfold Ln.fs;rw [Tw];rfl
theorem bh.JU {L:Ln} (h:bh L):(L.fs.map (·.1)).Nodup:=by
 rw [f9]
 unfold Ln.DQ
 exact h.nd.sublist (List.Sublist.map _ Vb)
theorem bh.found {L:Ln} (h:bh L) {n:Str} (hn:n∈L.row):∃c∈L.cs,c.n=n∧c.g=none:=by
 have:=(h.rm n).mp hn
 rw [f9,Ti] at this
 obtain ⟨c,hc,e⟩:=this
 exact ⟨c,(Ln.dW.mp hc).1,e,(Ln.dW.mp hc).2⟩
theorem bh.va {L:Ln} (h:bh L) {c:Cf} (hc:c∈L.cs):j3 (L.cs.map λc=>(c.n,PV.ref c.a)) c.n=Uh (.ref c.a):=by
 have e:(L.cs.map λc=>(c.n,PV.ref c.a))=((L.cs.map λc=>(c.n,c.a)).map λx=>(x.1,PV.ref x.2)):=by rw [Tw];rfl
 rw [e]
 exact fS (f:=PV.ref) (by rw [Tw];exact h.nd) (Ti.mpr ⟨c,hc,rfl⟩)
theorem bh.SX {L:Ln} (h:bh L) {n:Str}:(j3 (L.cs.map λc=>(c.n,PV.ref c.a)) n).isSome=decide (n∈L.cs.map Cf.n):=by
 have e:(L.cs.map λc=>(c.n,PV.ref c.a))=((L.cs.map λc=>(c.n,c.a)).map λx=>(x.1,PV.ref x.2)):=by rw [Tw];rfl
 rw [e,D4 (f:=PV.ref) (by rw [Tw];exact h.nd)]
 rw [Tw];rfl
theorem bh.uniq {L:Ln} (h:bh L) {c c':Cf} (hc:c∈L.cs) (hc':c'∈L.cs) (e:c.n=c'.n):c=c':=by
 obtain ⟨i,hi,rfl⟩:=T_ hc
 obtain ⟨j,hj,rfl⟩:=T_ hc'
 have:=(Um (xs:=L.cs.map Cf.n) (i:=i) (j:=j) (h₀:=by simpa using hi) (h₁:=by simpa using hj) h.nd).mp (by rw [Uo,Uo];exact e)
 subst this;rfl
theorem rX (a b c:PV):([("now",a),("logs",b),("row",c)]:List (Str × PV)).lookup ("now":Str)=Uh a:=rfl
theorem rY (a b c:PV):([("now",a),("logs",b),("row",c)]:List (Str × PV)).lookup ("logs":Str)=Uh b:=rfl
theorem uh (a b c:PV):([("now",a),("logs",b),("row",c)]:List (Str × PV)).lookup ("row":Str)=Uh c:=rfl
theorem dB (m:Str) (a b c:PV) (h:(m == ("now":Str))=false:=by decide +kernel) (k:(m == ("logs":Str))=false:=by decide +kernel) (l:(m == ("row":Str))=false:=by decide +kernel):([("now",a),("logs",b),("row",c)]:List (Str × PV)).lookup m=none:=by
 rw [T7,h];simp only;rw [T7,k];simp only;rw [T7,l];rfl
theorem OA:(("now":Str)=("logs":Str))=False:=eq_false (by decide +kernel)
theorem Kj:(("now":Str)=("row":Str))=False:=eq_false (by decide +kernel)
theorem Ki:(("logs":Str)=("row":Str))=False:=eq_false (by decide +kernel)
theorem IJ (a b c z:PV):pe ("row":Str) z ([("now",a),("logs",b),("row",c)]:List (Str × PV))=([("now",a),("logs",b),("row",z)]:List (Str × PV)):=by simp only [pe,Kj,Ki,if_false,if_true]
theorem MZ {J:Hq} {a:Addr} {xs:List PV} (h:J a=Uh (.lst xs)):Nz J (.ref a)=Uh xs:=by unfold Nz;simp only [h]
abbrev gg:Stmt:=(L2.inClass (top 42) 0)
abbrev jb:List Str:=["self"]
theorem pB:L2.aw ["self"] ["self"] (L2.aj gg):=d7
def Cm (cN cL:Addr):cM:=λxs J Q _=>∃p,xs=[.ref p]∧J p=some (.ins cN [])∧∀J' d e o,ba cN cL J' p ⟨0,d,e,o,[],[]⟩→Mv J J' (λa=>a=p) (Ln.own ⟨0,d,e,o,[],[]⟩ p)→Q .non J'
theorem wj {cN cL f:Addr} {fd:FuncData} (F:cm K "__init__" "Lane.__init__" gg f fd) (N:oE K mg) (ax:d_ K mg "Lane" cN) (az:aL K cN "now") (aH:aL K cN "logs") (aI:aL K cN "row"):aP P w K mg base (c8 P w) 1 f fd jb (dC K (Cm cN cL)):=by
 simp_arith [pB]
 ·obtain ⟨p,rfl,_⟩:=h;rfl
 obtain ⟨p,rfl,hp,q⟩:=h
 obtain ⟨aN,gN,sN⟩:=N
 have rN:∀(J:Hq) (H:Hp),cH K J H (fr 0) (.ref aN):=λJ H=>⟨aN,_,rfl,sN H,⟨_,_,rfl,rfl,_,_,rfl,rfl,rfl⟩⟩
 refine ⟨_,(ai (iK ax.cl az (rv 0) (fW (v:=.ref aN) (fr 0) rfl gN rfl rN))
   (ai (iK ax.cl aH (rv 0) qL)
   (ar (iK ax.cl aI (rv 0) (mC ah))))),?_⟩
 simp_all! [hp]
 refine ⟨by decide,?_⟩
 simp_all! []
 intro d hd ep
 have Ig:d≠p:=by intro e;subst e;rw [ak] at hd;cases hd
 simp_all! [aq (Ne.symm Ig),ak]
 simp only [OA,if_false]
 refine ⟨by decide,?_⟩
 simp_all! []
 intro o ho
 have jd:J d=none:=by rw [aq Ig] at hd;exact hd
 have Ii:o≠p:=by intro e;subst e;rw [ak] at ho;cases ho
 have nod:o≠d:=by intro e;subst e;rw [aq Ii,ak] at ho;cases ho
 have jo:J o=none:=by rw [aq Ii,aq nod,aq Ii] at ho;exact ho
 refine mB (by rw [aq (Ne.symm Ii)];exact ak) ⟨by show (2:Nat) < 1000;decide,?_⟩
 have pr:pe ("row":Str) (PV.ref o) ([("now",fr 0),("logs",.ref d)]:List (Str × PV))=([("now",fr 0),("logs",.ref d),("row",.ref o)]:List (Str × PV)):=by simp only [pe,Kj,Ki,if_false]
 rw [pr]
 refine q _ d ep o ⟨ak,by rw [aq Ig,aq (Ne.symm nod),aq Ig];exact ak,by rw [aq Ii];exact ak,(by simp),(by simp),(by simp)⟩ ⟨λa u e na=>?_,λa ow=>?_,λa z=>?_⟩
 ·have na1:a≠d:=λz=>by subst z;rw [jd] at e;cases e
  have na2:a≠o:=λz=>by subst z;rw [jo] at e;cases e
  rw [aq na,aq na2,aq na,aq na1,aq na];exact e
 ·rcases ow with rfl | rfl | rfl | ⟨c,hc,_⟩
  ·exact .inl rfl
  ·exact .inr jd
  ·exact .inr jo
  ·cases hc
 ·by_cases z1:a=p
  ·subst z1;rw [ak] at z;cases z
  by_cases z2:a=o
  ·subst z2;exact jo
  by_cases z3:a=d
  ·subst z3;exact jd
  rw [aq z1,aq z2,aq z1,aq z3,aq z1] at z;exact z
abbrev dQ:Stmt:=(L2.inClass (top 42) 22)
abbrev cF:List Str:=["self","name"]
theorem j9:L2.aw ["self","name"] ["self","name"] (L2.aj dQ):=d7
def qP (cN cL eC:Addr):cM:=λxs J Q E=>∃p L n,xs=[.ref p,.str n]∧ba cN cL J p L∧(n∈L.row→Q .non J)∧(n ∉ L.row→E eC J)
theorem j8 {cN cL eC f:Addr} {fd:FuncData} (F:cm K "must_be_there" "Lane.must_be_there" dQ f fd) (Z:bV mg) (ax:d_ K mg "Lane" cN) (aI:aL K cN "row") (eY:Own K mg "NoCraft" eC):aP P w K mg base (c8 P w) 1 f fd cF (dC K (qP cN cL eC)):=by
 simp_arith [j9,(ar (aT (aE Iy (rv 1) (aY ax.cl aI (rv 0))) (ar (dP eY rfl cy B.kn rfl (af bF ah))) aF))]
 ·obtain ⟨p,L,n,rfl,_⟩:=h;rfl
 obtain ⟨p,L,n,rfl,b,q,qe⟩:=h
 have bo:=b.ob
 refine hX ?_
 simp_all! [bo,uh,OX,MZ b.rw]
 refine ⟨L.row,rfl,?_⟩
 by_cases c:n∈L.row
 ·rw [if_pos (by simp [c])]
  exact q c
 ·rw [if_neg (by simp [c])]
  simp_all! [fo]
  exact qe c
abbrev iL:Stmt:=(L2.inClass (top 42) 23)
abbrev fj:List Str:=["self","name"]
theorem sM:L2.aw ["self","name"] ["self","name"] (L2.aj iL):=d7
def oj (cN cL eC:Addr):cM:=λxs J Q E=>∃p L n,xs=[.ref p,.str n]∧ba cN cL J p L∧bh L∧(∀c∈L.cs,c.n=n→c.g=none→Q c.cur.V J)∧(n ∉ L.row→E eC J)
theorem r8 {cN cL eC eN f:Addr} {fd:FuncData} (F:cm K "leg_of" "Lane.leg_of" iL f fd) (Z:bV mg) (ax:d_ K mg "Lane" cN) (aH:aL K cN "logs") (az:aL K cN "now") (bc:cG P w K mg base cN 1 "must_be_there" cF (qP cN cL eC)) (dU:cG P w K mg base cL 3 "leg_at" iF (sV cL eN)) :
  aP P w K mg base (c8 P w) 4 f fd fj (dC K (oj cN cL eC)):=by
 simp_arith [sM,(ai (aX (bp (pl:=_) bc B hr (rv 0) (af (rv 1) ah)))
   (ar (ay (bp (pl:=_) dU B hr (au bY (aY ax.cl aH (rv 0)) (rv 1)) (af (aY ax.cl az (rv 0)) ah)))))]
 ·obtain ⟨p,L,n,rfl,_⟩:=h;rfl
 obtain ⟨p,L,n,rfl,b,ok,q,qe⟩:=h
 have bo:=b.ob
 have bd:=b.dc
 refine hX ?_
 simp_all! [bo]
 refine ⟨dB _ _ _ _,p,L,n,rfl,b,λhn=>?_,qe⟩
 obtain ⟨c,hc,rfl,hg⟩:=ok.found hn
 have lo:=(b.lg c hc).o
 simp_all! [bo,rY,bd,ok.va hc,lo]
 refine ⟨Ox _ _,?_⟩
 simp_all! [bo,rX]
 refine ⟨c.a,c.r,c.w,c.g,L.t,rfl,b.lg c hc,ok.ne c hc,TK (ok.len c hc) (by decide),ok.JH,λl hl=>(ok.ck c hc l hl).D9,λq' hq=>(pW (ok.gz c hc q' hq).1).mono (by decide),λ_ l hl=>?_,λz=>?_⟩
 ·rw [ok.SG hc] at hl;cases hl
  exact q c hc rfl hg
 ·rw [ok.there hc hg] at z;cases z
abbrev fY:Stmt:=(L2.inClass (top 42) 24)
abbrev dI:List Str:=["self"]
theorem sQ:L2.aw ["self"] ["self"] (L2.aj fY):=d7
theorem FP {L:Ln} (ok:bh L) {f:Str→aQ} (hf:∀c∈L.cs,c.g=none→f c.n=c.cur):cf L.t (L.row.map λn=>(n,f n))=cf L.t L.fs:=by
 refine yH (by rw [Tw];show (L.row.map λn=>n).Nodup;rw [Ve];exact ok.rn) ok.JU λx=>?_
 rw [Ti,Ti]
 constructor
 ·rintro ⟨y,hy,rfl⟩
  obtain ⟨n,hn,rfl⟩:=Ti.mp hy
  obtain ⟨c,hc,rfl,hg⟩:=ok.found hn
  exact ⟨(c.n,c.cur),Ti.mpr ⟨c,Ln.dW.mpr ⟨hc,hg⟩,rfl⟩,by rw [hf c hc hg]⟩
 ·rintro ⟨y,hy,rfl⟩
  obtain ⟨c,hc,rfl⟩:=Ti.mp hy
  obtain ⟨hc,hg⟩:=Ln.dW.mp hc
  refine ⟨(c.n,f c.n),Ti.mpr ⟨c.n,(ok.rm c.n).mpr ?_,rfl⟩,by rw [hf c hc hg]⟩
  rw [f9];exact Ti.mpr ⟨c,Ln.dW.mpr ⟨hc,hg⟩,rfl⟩
def Ln.wa (L:Ln) (n:Str):aQ:=((L.cs.find? λc=>decide (c.n=n)).map Cf.cur).getD ⟨0,0,0⟩
theorem bh.wa {L:Ln} (ok:bh L) {c:Cf} (hc:c∈L.cs):L.wa c.n=c.cur:=by
 unfold Ln.wa
 cases h:L.cs.find? λd=>decide (d.n=c.n) with
 | none=>have:=List.find?_eq_none.mp h c hc;simp at this
 | some d =>
  have h1:=List.mem_of_find?_eq_some h
  have h2:d.n=c.n:=by simpa using List.find?_some h
  rw [ok.uniq h1 hc h2];rfl
def jk (cN cL:Addr):cM:=λxs J Q E=>∃p L,xs=[.ref p]∧ba cN cL J p L∧bh L∧∀J' o',ba cN cL J' p { L with o:=o',row:=cf L.t L.fs }→Mv J J' (L.own p) (Ln.own { L with o:=o',row:=cf L.t L.fs } p)→Q .non J'
theorem sd {cN cL eC f:Addr} {fd:FuncData} (F:cm K "settle" "Lane.settle" fY f fd) (Z:bV mg) (ax:d_ K mg "Lane" cN) (aI:aL K cN "row") (az:aL K cN "now") (bR:cG P w K mg base cN 4 "leg_of" fj (oj cN cL eC)) (mf:bq P w K mg base 6 "in_order" kR pH) :
  aP P w K mg base (c8 P w) 7 f fd dI (dC K (jk cN cL)):=by
 simp_arith [sQ,(ar (iK ax.cl aI (rv 0) (aO mf B hr (af (Pq (L2.aj fY) ["self"] [("self",0)] rfl rfl rfl (gx (aY ax.cl aI (rv 0))) (λ_ _ _ _ _ _=>(rv 0)) (λ_ _ _ _ _ _=>(bp (pl:=_) bR HH hr (rv 1) (af (rv 0) ah)))) (af (aY ax.cl az (rv 0)) ah)))))]
 ·obtain ⟨p,L,rfl,_⟩:=h;rfl
 obtain ⟨p,L,rfl,b,ok,q⟩:=h
 have bo:=b.ob
 have br:=b.rw
 refine hX ?_
 simp_all! [O9,bo,uh,br]
 intro D hD ep
 have bf:∀e2 kvs,ba cN cL (put J D (.dct kvs e2)) p L:=λe2 kvs=>b.fresh hD
 have hrl:=ok.rl
 refine ⟨λi J2=>∃e2,J2=put J D (.dct (bI ((L.row.take i).map λn=>(n,L.wa n))) e2),⟨ep,rfl⟩,?_,?_,?_⟩
 ·rintro i J2 ⟨e2,rfl⟩;exact (bf e2 _).rw
 ·rintro i x J2 hx ⟨e2,rfl⟩
  have hi:i < L.row.length:=by have:=(Tj.mp hx).1;simpa using this
  rw [Tq,Tn hi] at hx
  cases hx
  have hn:L.row[i]∈L.row:=TY hi
  refine mB (bf e2 _).ob ⟨dB _ _ _ _,p,L,L.row[i],rfl,bf e2 _,ok,λc hc e hg=>?_,λz=>absurd hn z⟩
  refine ⟨_,e2,L.row[i],rfl,ak,a8 (by simp only [bI,Th,TX];omega),λep'=>⟨ep',?_⟩⟩
  rw [bM]
  congr 2
  have et:L.row.take (i + 1)=L.row.take i ++ [L.row[i]]:=by rw [TR,Tn hi];rfl
  rw [et,Ts,Tt,Uc,← e,ok.wa hc]
  refine o_ (f:=aQ.V) (l:=c.cur) λz=>?_
  rw [Tw] at z
  obtain ⟨m,hm,e3⟩:=Ti.mp z
  have hnd:(L.row.take (i + 1)).Nodup:=ok.rn.sublist (Up _ _)
  rw [et] at hnd
  exact (fI hnd).2 (by rw [← e,← e3];exact hm)
 ·rintro J2 ⟨e2,rfl⟩
  rw [Th,T1]
  refine mB (bf e2 _).ob (kF (rX _ _ _) ⟨D,_,e2,L.t,rfl,ak,?_,by rw [Th];omega,ok.JH,?_,λo' ho'=>?_⟩)
  ·rw [Tw];show (L.row.map λn=>n).Nodup;rw [Ve];exact ok.rn
  ·intro x hx
   obtain ⟨n,hn,rfl⟩:=Ti.mp hx
   obtain ⟨c,hc,rfl,hg⟩:=ok.found hn
   show lV 900 (L.wa c.n)
   rw [ok.wa hc]
   exact (ok.ck c hc _ (Cf.jx (ok.ne c hc)).2).D9
  ·rw [FP ok λc hc _=>ok.wa hc]
   have b2:ba cN cL (put (put J D (.dct (bI (L.row.map λn=>(n,L.wa n))) e2)) o' (.lst ((cf L.t L.fs).map .str))) p L:=(bf e2 _).fresh ho'
   have jo:J o'=none:=by
    by_cases z:o'=D
    ·subst z;exact hD
    ·rw [aq z] at ho';exact ho'
   refine mB b2.ob ⟨by show (3:Nat) < 1000;decide,?_⟩
   rw [IJ]
   refine q _ o' (b2.MV ak λc hc e=>?_) ?_
   ·have:=(b.lg c hc).l;rw [e,jo] at this;cases this
   ·refine ((Mv.new hD).trans (Mv.yr ho')).trans (gJ (.inl (.inl rfl)) λa ow=>.inl ?_)
    rcases ow with h | h | h | h
    ·exact .inl (.inl h)
    ·exact .inl (.inr (.inl h))
    ·exact .inr h
    ·exact .inl (.inr (.inr (.inr h)))
abbrev ij:Stmt:=(top 33)
abbrev gr:List Str:=["text"]
theorem xk:L2.aw ["text"] ["text"] (L2.aj ij):=d7
def cS:Str:="abcdefghijklmnopqrstuvwxyz0123456789"
def good (y:Str):Bool:=decide (1≤y.cps.size) && decide (y.cps.size≤8) && y.cps.toList.all (eX cS)
def GB (T:Addr):Sp:=λvs H Q _=>∃y:Str,vs=[.str y]∧y.length≤sizeLine∧H T=some (.ext (fe T))∧Q (.bl (good y)) H
theorem wt {T f c:Addr} {fd:FuncData} (F:Ho K mg "good_name" ij T f fd c) (Z:D6 mg) (Bm:BMain mg base) {lT qR:Tok} (iZ:mg "LONGEST"=some (.int 8 lT)) (nq:mg "SIGNS"=some (.str "abcdefghijklmnopqrstuvwxyz0123456789" qR)) :
  aP P w K mg base qV 1 f fd gr (GB T):=by
 refine Ta F xk (λvs H Q E h=>?_) (λA outer s H vs Q E hr h=>?_)
 ·obtain ⟨y,rfl,_⟩:=h
  rfl
 obtain ⟨y,rfl,hz,hT,q⟩:=h
 refine ⟨_,(a_ (nV (Kw (B0 (dX BS (eu m_ rfl Z.len boot_len (a7 (pv 0) bS)) aV (fJ _)) (wR (dX Kq (eu m_ rfl Z.len boot_len (a7 (pv 0) bS)) (qG (v:=.int 8) rfl iZ ⟨_,rfl⟩) (fJ _))))) (bT (d9 yK)) gu)
   (bT (d9 (FT rfl Bm rfl F.tab hr rfl Z.all nq (pv 0))))),?_⟩
 have el:y.cps.size=y.length:=rfl
 refine ⟨_,rfl,y,rfl,hz,_,_,rfl,rfl,_,rfl,E9 (λe=>?_) (λe=>⟨_,rfl,y,rfl,hz,_,_,rfl,rfl,_,rfl,E9 (λe2=>?_) (λe2=>?_)⟩)⟩
 ·have e:(y.length:Int) < 1:=of_decide_eq_true e
  have z:good y=false:=by
   unfold good
   rw [decide_eq_false (show ¬ 1≤y.cps.size by omega)]
   rfl
  show Q (.bl false) H
  rw [← z]
  exact q
 ·have e2:(8:Int) < (y.length:Int):=of_decide_eq_true e2
  have z:good y=false:=by
   unfold good
   rw [decide_eq_false (show ¬ y.cps.size≤8 by omega),U6]
   rfl
  show Q (.bl false) H
  rw [← z]
  exact q
 ·have e:¬ (y.length:Int) < 1:=of_decide_eq_false (Vk.mpr e)
  have e2:¬ (8:Int) < (y.length:Int):=of_decide_eq_false (Vk.mpr e2)
  have z:good y=y.cps.toList.all (eX cS):=by
   unfold good
   rw [decide_eq_true (show 1≤y.cps.size by omega),decide_eq_true (show y.cps.size≤8 by omega)]
   rfl
  refine ⟨_,rfl,y,rfl,hT,?_⟩
  show Q (.bl (y.cps.toList.all (eX cS))) H
  rw [← z]
  exact q
def Cc (T:Addr):cM:=λxs J Q _=>∃y:Str,xs=[.str y]∧y.length≤sizeLine∧J T=some .tab∧Q (.bl (good y)) J
theorem rW {T:Addr} (C:tI P w K mg base 1 "good_name" gr (GB T)):bq P w K mg base 1 "good_name" gr (Cc T):=C.lift λxs J vs H Q2 E2 Q E rs r ⟨y,ex,hl,hT,q⟩ kn=>by
 subst ex
 obtain ⟨v,rfl,r1⟩:=Mj rs
 cases r1
 exact ⟨y,rfl,hl,r _ _ hT,kn (.bl _) J _ H rfl r .refl q⟩
theorem BA (L:Ln) {L':Ln} {c:Cf} (h:L'.cs=L.cs ++ [c]) (hg:c.g=none):L'.fs=L.fs ++ [(c.n,c.cur)]:=by
 unfold Ln.fs Ln.DQ
 rw [h,UW,Ts]
 simp [hg]
def Ln.joined (L:Ln) (n:Str) (x v:Int) (L':Ln):Prop:=∃a r,L'.cs=L.cs ++ [⟨n,a,r,[⟨L.t,(x:Rat),v⟩],none⟩]∧L'.t=L.t
def Nn (x v:Int):Prop:=x.natAbs≤1000000∧v.natAbs≤1000
def Cn (cN cL T eB eF eT eU:Addr):cM:=λxs J Q E=>∃p L n x v,xs=[.ref p,.str n,.int x,.int v]∧ba cN cL J p L∧cq L∧J T=some .tab∧n.length≤sizeLine∧L.cs.length < 100∧(good n=false→E eB J)∧(good n=true→¬ Nn x v→E eF J) ∧
 (good n=true→Nn x v→n∈L.cs.map Cf.n→E eT J)∧(good n=true→Nn x v→n ∉ L.cs.map Cf.n→12≤L.row.length→E eU J) ∧
 (good n=true→Nn x v→n ∉ L.cs.map Cf.n→L.row.length < 12→∀J' L',ba cN cL J' p L'→cq L'→L.joined n x v L'→Mv J J' (L.own p) (L'.own p)→Q .non J')
abbrev k8:Stmt:=(L2.inClass (top 42) 1)
abbrev nK:List Str:=["self","name","place","pace"]
theorem xh:L2.aw ["self","name","place","pace"] ["self","name","place","pace"] (L2.aj k8):=d7
theorem ba.add {cN cL:Addr} {J:Hq} {p:Addr} {L:Ln} {c:Cf} {ep:Nat} (h:ba cN cL J p L) (hc:G6 cL J c.a c.r c.w c.g) (h1:c.r ∉ L.cs.map Cf.r) (h2:c.r≠L.o) :
  ba cN cL (put (put J L.d (.dct ((L.cs ++ [c]).map λc=>(c.n,PV.ref c.a)) ep)) L.o (.lst ((L.row ++ [c.n]).map .str))) p ⟨L.t,L.d,ep,L.o,L.cs ++ [c],L.row ++ [c.n]⟩:=by
 have n1:c.a≠L.d:=by intro e;have:=h.dc;rw [← e,hc.o] at this;cases this
 have n2:c.a≠L.o:=by intro e;have:=h.rw;rw [← e,hc.o] at this;cases this
 have n3:c.r≠L.d:=by intro e;have:=h.dc;rw [← e,hc.l] at this;cases this
 refine ⟨?_,?_,ak,λx hx=>?_,?_,λx hx=>?_⟩
 ·rw [aq (Ne.symm h.Ii),aq (Ne.symm h.Ig)];exact h.ob
 ·show put (put J L.d _) L.o _ L.d=_
  rw [aq h.Rg];exact ak
 ·rcases Tv.mp hx with hx | hx
  ·exact ⟨by rw [aq (h.Rf hx),aq (h.SH hx)];exact (h.lg x hx).o,by rw [aq (h.ao x hx),aq (h.SI hx)];exact (h.lg x hx).l⟩
  ·rw [Tx] at hx;subst hx
   exact ⟨by rw [aq n2,aq n1];exact hc.o,by rw [aq h2,aq n3];exact hc.l⟩
 ·show ((L.cs ++ [c]).map Cf.r).Nodup
  rw [Ts,Tt,Uc,Uq]
  exact ⟨h.ap,by simp,λx hx y hy e=>by rw [Tx] at hy;subst hy;subst e;exact h1 hx⟩
 ·show x.r≠L.o
  rcases Tv.mp hx with hx | hx
  ·exact h.ao x hx
  ·rw [Tx] at hx;subst hx;exact h2
theorem bh.add {L:Ln} (h:bh L) {c:Cf} {l:aQ} {ep:Nat} (hw:c.w=[l]) (hg:c.g=none) (hl:tM l) (hm:l.m=L.t) (hn:c.n ∉ L.cs.map Cf.n) (hr:L.row.length < 12) (hs:L.cs.length < 100):bh ⟨L.t,L.d,ep,L.o,L.cs ++ [c],L.row ++ [c.n]⟩:=by
 have hf:Ln.fs ⟨L.t,L.d,ep,L.o,L.cs ++ [c],L.row ++ [c.n]⟩=L.fs ++ [(c.n,c.cur)]:=BA L rfl hg
 have all:∀{P:Cf→Prop},(∀x∈L.cs,P x)→P c→∀x∈L.cs ++ [c],P x:=λh1 h2 x hx=>by
  rcases Tv.mp hx with hx | hx
  ·exact h1 x hx
  ·rw [Tx] at hx;subst hx;exact h2
 refine ⟨?_,all h.ne (by rw [hw];simp),all h.le (by rw [hw];simp [hm]),all h.ck (by rw [hw];simpa using hl),all h.len (by rw [hw];show (1:Nat)≤200;decide),all h.gz (by rw [hg];intro q e;cases e),h.t0,h.ts,by show (L.cs ++ [c]).length≤100;rw [TN];simp;omega,λn=>?_,?_,by show (L.row ++ [c.n]).length≤12;rw [TN];simp;omega⟩
 ·show ((L.cs ++ [c]).map Cf.n).Nodup
  rw [Ts,Tt,Uc,Uq]
  exact ⟨h.nd,by simp,λx hx y hy e=>by rw [Tx] at hy;subst hy;subst e;exact hn hx⟩
 ·rw [hf,Ts,Tv,Tv,h.rm n];simp
 ·show (L.row ++ [c.n]).Nodup
  rw [Uq]
  refine ⟨h.rn,by simp,λx hx y hy e=>?_⟩
  rw [Tx] at hy
  rw [e,hy] at hx
  have:=(h.rm _).mp hx
  rw [f9,Ti] at this
  obtain ⟨d,hd,e⟩:=this
  exact hn (Ti.mpr ⟨d,(Ln.dW.mp hd).1,e⟩)
theorem cq.settled {L:Ln} (h:bh L) (o':Addr):cq { L with o:=o',row:=cf L.t L.fs }:=by
 have hl:(cf L.t L.fs).length≤12:=by
  have h1:(cf L.t L.fs).Perm L.row:=(List.perm_ext_iff_of_nodup (sh h.JU) h.rn).mpr λn=>by rw [yJ];exact (h.rm n).symm
  rw [h1.length_eq];exact h.rl
 exact ⟨⟨h.nd,h.ne,h.le,h.ck,h.len,h.gz,h.t0,h.ts,h.many,λn=>yJ,sh h.JU,hl⟩,rfl⟩
theorem wk {cN cL T eB eF eT eU f:Addr} {fd:FuncData} (F:cm K "join" "Lane.join" k8 f fd) (Z:bV mg) (ax:d_ K mg "Lane" cN) (aI:aL K cN "row") (az:aL K cN "now") (aH:aL K cN "logs") {jU gE xE:Tok} (gH:mg "FARTHEST"=some (.int 1000000 jU)) (eZ:mg "FASTEST"=some (.int 1000 gE)) (rJ:mg "MOST"=some (.int 12 xE))
  (iV:Own K mg "BadName" eB) (f6:Own K mg "TooFar" eF) (m5:Own K mg "Taken" eT) (rb:Own K mg "Full" eU) (ka:bq P w K mg base 1 "good_name" gr (Cc T)) (Ep:zE P w K mg base cL 1 "Log" jZ (Cd cL)) (bC:cG P w K mg base cN 7 "settle" dI (jk cN cL)) :
  aP P w K mg base (c8 P w) 8 f fd nK (dC K (Cn cN cL T eB eF eT eU)):=by
 simp_arith [xh,(ai (aT (bU (bt (aO ka B hr (af (rv 1) ah)))) (ar (dP iV rfl cy B.kn rfl (af bF ah))) aF)
   (ai (aT (c7 (gj (aE kG (aJ zN rfl Z.abs boot_abs (af (rv 2) ah)) (fW (v:=.int 1000000) (.int 1000000) rfl gH ⟨_,rfl⟩ (λ_ _=>rfl))) (fu (aE kG (aJ zN rfl Z.abs boot_abs (af (rv 3) ah)) (fW (v:=.int 1000) (.int 1000) rfl eZ ⟨_,rfl⟩ (λ_ _=>rfl)))))) (ar (dP f6 rfl cy B.kn rfl (af bF ah))) aF)
   (ai (aT (aE Mp (rv 1) (aY ax.cl aH (rv 0))) (ar (dP m5 rfl cy B.kn rfl (af bF ah))) aF)
   (ai (aT (aE FN (aJ bN rfl Z.len boot_len (af (aY ax.cl aI (rv 0)) ah)) (fW (v:=.int 12) (.int 12) rfl rJ ⟨_,rfl⟩ (λ_ _=>rfl))) (ar (dP rb rfl cy B.kn rfl (af bF ah))) aF)
   (ai (k6 il (aY ax.cl aH (rv 0)) (rv 1) (I9 Ep B hr (af (aY ax.cl az (rv 0)) (af (bO (af (rv 2) (af ag ah))) (af (rv 3) ah)))))
   (ai (aX (ie PySem.F.plainAttrs_list PySem.F.slot_list_append PySem.F.type_list_append fH (aY ax.cl aI (rv 0)) (af (rv 1) ah)))
   (ar (aX (cj (pl:=_) bC B hr (rv 0))))))))))]
 ·obtain ⟨p,L,n,x,v,rfl,_⟩:=h;rfl
 obtain ⟨p,L,n,x,v,rfl,b,ok,hT,hnl,hcs,qb,qf,qt,qu,q⟩:=h
 have bo:=b.ob
 have bd:=b.dc
 have br:=b.rw
 refine hX ?_
 simp_all! []
 refine ⟨n,rfl,hnl,hT,?_⟩
 cases hg:good n with
 | false =>
  simp_all! [fo]
  exact qb hg
 | true =>
 simp_all! []
 by_cases hB:Nn x v
 ·obtain ⟨hx,hv⟩:=id hB
  rw [if_neg (by split <;> omega),if_neg (by split <;> omega)]
  simp_all! [bo,rY,bd,ok.SX]
  by_cases hm:n∈L.cs.map Cf.n
  ·rw [if_pos hm]
   simp_all! [fo]
   exact qt hg hB hm
  rw [if_neg hm]
  simp_all! [bo,uh,br,Th]
  by_cases hr12:12≤L.row.length
  ·rw [if_pos (by omega)]
   simp_all! [fo]
   exact qu hg hB hm hr12
  rw [if_neg (by omega)]
  simp_all! [bo,rX]
  intro a ha
  refine ⟨a,⟨L.t,(x:Rat),v⟩,rfl,ak,λr hr'=>?_⟩
  have nra:r≠a:=by intro e;subst e;rw [ak] at hr';cases hr'
  have jr:J r=none:=by rw [aq nra] at hr';exact hr'
  have b1:ba cN cL (put (put (put J a (.ins cL [])) r (.lst [(aQ.mk L.t (x:Rat) v).V])) a (.ins cL [("rows",.ref r),("gone",.non)])) p L:=b.keep λc u ow e=>by
   have n1:c≠a:=λz=>by subst z;rw [ha] at e;cases e
   have n2:c≠r:=λz=>by subst z;rw [jr] at e;cases e
   rw [aq n1,aq n2,aq n1];exact e
  have l1:G6 cL (put (put (put J a (.ins cL [])) r (.lst [(aQ.mk L.t (x:Rat) v).V])) a (.ins cL [("rows",.ref r),("gone",.non)])) a r [⟨L.t,(x:Rat),v⟩] none:=⟨ak,by rw [aq nra];exact ak⟩
  have mv1:Mv J (put (put (put J a (.ins cL [])) r (.lst [(aQ.mk L.t (x:Rat) v).V])) a (.ins cL [("rows",.ref r),("gone",.non)])) (L.own p) (λc=>(L.own p c∨c=a)∨c=r) :=
   ((Mv.yr ha).trans (Mv.yr hr')).trans (gJ (.inl (.inr rfl)) λc h=>.inl h)
  generalize (put (put (put J a (.ins cL [])) r (.lst [(aQ.mk L.t (x:Rat) v).V])) a (.ins cL [("rows",.ref r),("gone",.non)]))=J1 at b1 l1 mv1 ⊢
  have bo1:=b1.ob
  have bd1:=b1.dc
  simp_all! [bo1,rY,bd1]
  refine ⟨a8 (by rw [Th];omega),λep'=>?_⟩
  have epu:oy (L.cs.map λc=>(c.n,PV.ref c.a)) n (PV.ref a)=(L.cs ++ [Cf.mk n a r [⟨L.t,(x:Rat),v⟩] none]).map λc=>(c.n,PV.ref c.a):=by
   have e:(L.cs.map λc=>(c.n,PV.ref c.a))=((L.cs.map λc=>(c.n,c.a)).map λx=>(x.1,PV.ref x.2)):=by rw [Tw];rfl
   rw [e,o_ (f:=PV.ref) (l:=a) (by rw [Tw];exact hm),Ts,Ts,Tw];rfl
  rw [epu]
  have hrs:r ∉ L.cs.map Cf.r:=λh=>by
   obtain ⟨c,hc,e⟩:=Ti.mp h
   have:=(b.lg c hc).l;rw [e,jr] at this;cases this
  have hro:r≠L.o:=λe=>by have:=b.rw;rw [← e,jr] at this;cases this
  have b2:=b1.add (c:=Cf.mk n a r [⟨L.t,(x:Rat),v⟩] none) (ep:=ep') l1 hrs hro
  have ok2:bh ⟨L.t,L.d,ep',L.o,L.cs ++ [Cf.mk n a r [⟨L.t,(x:Rat),v⟩] none],L.row ++ [n]⟩:=ok.tobh.add (c:=Cf.mk n a r [⟨L.t,(x:Rat),v⟩] none) rfl rfl (tM.new ok.t0 ok.ts hx hv) rfl hm (by omega) hcs
  have bo2:(put J1 L.d (HQ.dct ((L.cs ++ [Cf.mk n a r [⟨L.t,(x:Rat),v⟩] none]).map λc=>(c.n,PV.ref c.a)) ep')) p=some (.ins cN [("now",fr L.t),("logs",.ref L.d),("row",.ref L.o)]):=by rw [aq (Ne.symm b1.Ig)];exact b1.ob
  have br2:(put J1 L.d (HQ.dct ((L.cs ++ [Cf.mk n a r [⟨L.t,(x:Rat),v⟩] none]).map λc=>(c.n,PV.ref c.a)) ep')) L.o=some (.lst (L.row.map .str)):=by rw [aq (Ne.symm b1.Rg)];exact b1.rw
  have mv2:Mv J1 (put (put J1 L.d (HQ.dct ((L.cs ++ [Cf.mk n a r [⟨L.t,(x:Rat),v⟩] none]).map λc=>(c.n,PV.ref c.a)) ep')) L.o (.lst ((L.row ++ [n]).map .str))) (λc=>(L.own p c∨c=a)∨c=r) (Ln.own ⟨L.t,L.d,ep',L.o,L.cs ++ [Cf.mk n a r [⟨L.t,(x:Rat),v⟩] none],L.row ++ [n]⟩ p):=by
   refine (gJ (S':=λc=>(L.own p c∨c=a)∨c=r) (.inl (.inl (.inr (.inl rfl)))) λc h=>.inl h).trans (gJ (.inl (.inl (.inr (.inr (.inl rfl))))) λc h=>.inl ?_)
   rcases h with h | h | h | ⟨d,hd,h⟩
   ·exact .inl (.inl (.inl h))
   ·exact .inl (.inl (.inr (.inl h)))
   ·exact .inl (.inl (.inr (.inr (.inl h))))
   ·rcases Tv.mp hd with hd | hd
    ·exact .inl (.inl (.inr (.inr (.inr ⟨d,hd,h⟩))))
    ·rw [Tx] at hd;subst hd
     rcases h with h | h
     ·exact .inl (.inr h)
     ·exact .inr h
  have mv3:=mv1.trans mv2
  simp_all! [bo2,uh,br2]
  refine ⟨a8 (by rw [Th];omega),?_⟩
  rw [show L.row.map PV.str ++ [PV.str n]=(L.row ++ [n]).map .str by rw [Ts];rfl]
  have bo3:=b2.ob
  generalize (put (put J1 L.d (HQ.dct ((L.cs ++ [Cf.mk n a r [⟨L.t,(x:Rat),v⟩] none]).map λc=>(c.n,PV.ref c.a)) ep')) L.o (.lst ((L.row ++ [n]).map .str)))=J2 at b2 mv3 bo3 ⊢
  simp_all! [bo3]
  refine ⟨dB _ _ _ _,p,_,rfl,b2,ok2,λJ' o' b' mv'=>?_⟩
  exact q hg hB hm (by omega) J' _ b' (cq.settled ok2 o') ⟨a,r,rfl,rfl⟩ (mv3.trans mv')
 ·have hf:=qf hg hB
  by_cases h1:x.natAbs≤1000000
  ·have h2:¬ v.natAbs≤1000:=λh=>hB ⟨h1,h⟩
   rw [if_neg (by split <;> omega),if_pos (by split <;> omega)]
   simp_all! [fo]
   exact hf
  ·rw [if_pos (by split <;> omega)]
   simp_all! [fo]
   exact hf
abbrev jL:Stmt:=(L2.inClass (top 42) 7)
abbrev l6:List Str:=["self"]
theorem uB:L2.aw ["self"] ["self"] (L2.aj jL):=d7
def y9 (cN cL:Addr):cM:=λxs J Q _=>∃p L,xs=[.ref p]∧ba cN cL J p L∧Q (fr L.t) J
theorem uq {cN cL f:Addr} {fd:FuncData} (F:cm K "clock" "Lane.clock" jL f fd) (Z:bV mg) (ax:d_ K mg "Lane" cN) (az:aL K cN "now"):aP P w K mg base (c8 P w) 1 f fd l6 (dC K (y9 cN cL)):=by
 simp_arith [uB,(ar (ay (aY ax.cl az (rv 0))))]
 ·obtain ⟨p,L,rfl,_⟩:=h;rfl
 obtain ⟨p,L,rfl,b,q⟩:=h
 have bo:=b.ob
 refine hX ?_
 simp_all! [bo,rX]
 exact q
abbrev jP:Stmt:=(L2.inClass (top 42) 8)
abbrev iE:List Str:=["self"]
theorem uD:L2.aw ["self"] ["self"] (L2.aj jP):=d7
def sZ (cN cL:Addr):cM:=λxs J Q _=>∃p L,xs=[.ref p]∧ba cN cL J p L∧(Q (.fl (L.row.map .str)) J∨∀l,J l=none→Q (.ref l) (put J l (.lst (L.row.map .str))))
theorem uw {cN cL f:Addr} {fd:FuncData} (F:cm K "order" "Lane.order" jP f fd) (Z:bV mg) (ax:d_ K mg "Lane" cN) (aI:aL K cN "row"):aP P w K mg base (c8 P w) 1 f fd iE (dC K (sZ cN cL)):=by
 simp_arith [uD,(ar (ay (fN ni rfl Z.list boot_list (af (aY ax.cl aI (rv 0)) ah)))),F]
 ·obtain ⟨p,L,rfl,_⟩:=h;rfl
 obtain ⟨p,L,rfl,b,q⟩:=h
 have bo:=b.ob
 have br:=b.rw
 refine hX ?_
 simp_all! [bo,br,uh]
 intro l hl
 rcases q with q | q
 ·exact Fg.oN (fg hl) ak hl q
 ·exact Fg.same (q l hl)
def aB.v (b:aB):PV:=.tup [fr b.m,.str b.h,.str b.f]
theorem E_ (J:Hq) (b:aB):fA J b.v (.int 0)=some (fr b.m):=d5 _ _
theorem Fb (J:Hq) (b:aB):fA J b.v (.int 1)=some (.str b.h):=fz _ _ _
theorem Fc (J:Hq) (b:aB):fA J b.v (.int 2)=some (.str b.f):=jW _ _ _ _
theorem RX (J:Hq) (b:aB):A8 J b.v=some "tuple":=rfl
theorem Oa (J:Hq) (b:aB):wb J b.v=some 3:=rfl
theorem Kv (b:aB):nX b.v=true:=by simp [aB.v,BZ,pd,yO,wM,wO]
theorem QH (b:aB):G8 b.v=True:=eq_true ⟨Kv b,by simp [aB.v,fr,gw,gQ,dep,eh]⟩
theorem QK (a b:aB):eqQ a.v b.v=decide (a=b):=by
 unfold aB.v
 rw [vT,er,er,er,qz,Bx,eq_str,eq_str,UC,← UH,← UH]
 apply decide_eq_decide.mpr
 cases a;cases b
 simp [aB.mk.injEq]
theorem GW (a:Rat) (h f:Str):PV.tup [fr a,.str h,.str f]=(aB.mk a h f).v:=rfl
theorem EE (J:Hq) (b:aB):∃xs,b.v=.tup xs∧¬ (HT.fb xs.length 0 (some 1)=0∧HT.fb xs.length xs.length none=xs.length)∧oH xs (some 1) none=[b.h,b.f].map .str:=⟨_,rfl,λh=>absurd h.1 (show HT.fb 3 0 (some 1)≠0 by decide),rfl⟩
abbrev iQ:Stmt:=(top 21)
abbrev kU:List Str:=["one","other"]
theorem sS:L2.aw ["one","other"] ["one","other"] (L2.aj iQ):=d7
def xr:cM:=λxs J Q _=>∃a b:aB,xs=[a.v,b.v]∧Sz 9000 a.m∧Sz 9000 b.m∧Q (.bl (a.lt b)) J
theorem Q6 (a b c d:Str):mw [a,b] [c,d]=if a=c then decide (slt b d) else decide (slt a c):=by
 rw [oU]
 by_cases h:a=c
 ·rw [if_pos h,if_pos h,oU]
  by_cases k:b=d
  ·rw [if_pos k,nB];subst k;exact (decide_eq_false (by unfold slt;exact List.lt_irrefl _)).symm
  ·rw [if_neg k];rfl
 ·rw [if_neg h,if_neg h];rfl
theorem qp {f:Addr} {fd:FuncData} (F:cm K "rings_ahead" "rings_ahead" iQ f fd) (Z:bV mg) (du:bq P w K mg base 1 "less" fV di):aP P w K mg base (c8 P w) 2 f fd kU (dC K xr):=by
 simp_arith [sS,(ai (aT (aE (ia hr.aU) (au av (rv 0) ag) (au av (rv 1) ag)) (ar (ay (aO du B hr (af (au av (rv 0) ag) (af (au av (rv 1) ag) ah))))) aF)
   (ar (ay (fP (Iw hr.M_) (kY AZ (rv 0) (n6 ag) n4) (kY AZ (rv 1) (n6 ag) n4)))))]
 ·obtain ⟨a,b,rfl,_⟩:=h;rfl
 obtain ⟨a,b,rfl,sa,sb,q⟩:=h
 refine hX ?_
 simp_arith! [bX,E_,Fb,Fc,di,Kx]
 unfold aB.lt at q
 by_cases e:a.m=b.m
 ·rw [if_pos e] at q ⊢
  obtain ⟨xs,h1,h2,h3⟩:=EE J a
  obtain ⟨ys,h4,h5,h6⟩:=EE J b
  refine Aq h1 ⟨h2,?_⟩
  refine Aq h4 ⟨h5,?_⟩
  exact ⟨[a.h,a.f],[b.h,b.f],congrArg PV.tup h3,congrArg PV.tup h6,by rw [Q6];exact q⟩
 ·rw [if_neg e] at q ⊢
  exact ⟨sa,sb,q⟩
theorem Oo (v:PV):([("rows",v)]:List (Str × PV)).lookup ("rows":Str)=some v:=rfl
theorem LY {m:Str} (v:PV) (h:(m == ("rows":Str))=false):([("rows",v)]:List (Str × PV)).lookup m=none:=by rw [T7,h];rfl
theorem Q7 (v:PV):([("rows",v)]:List (Str × PV)).lookup ("drop":Str)=none:=LY v (by decide +kernel)
theorem Oq (v:PV):([("rows",v)]:List (Str × PV)).lookup ("put":Str)=none:=LY v (by decide +kernel)
theorem Ot (v:PV):([("rows",v)]:List (Str × PV)).lookup ("told":Str)=none:=LY v (by decide +kernel)
theorem IQ {J:Hq} {r p:Addr} {a b c:HQ} (h:r≠p):put (put (put J r a) p b) r c=put (put J r c) p b:=by
 rw [F4 (Ne.symm h),bM]
structure Hb (cB:Addr) (J:Hq) (p r:Addr) (rows:List aB):Prop where
 o:J p=some (.ins cB [("rows",.ref r)])
 l:J r=some (.lst (rows.map aB.v))
abbrev fQ:Stmt:=(L2.inClass (top 22) 0)
abbrev fi:List Str:=["self"]
theorem n9:L2.aw ["self"] ["self"] (L2.aj fQ):=d7
def xt (cB:Addr):cM:=λxs J Q _=>∃p,xs=[.ref p]∧J p=some (.ins cB [])∧∀r,J r=none→Q .non (put (put J r (.lst [])) p (.ins cB [("rows",.ref r)]))
theorem uj {cB f:Addr} {fd:FuncData} (F:cm K "__init__" "Bells.__init__" fQ f fd) (bP:d_ K mg "Bells" cB) (a9:aL K cB "rows"):aP P w K mg base (c8 P w) 1 f fd fi (dC K (xt cB)):=by
 simp_arith [n9,(ar (iK bP.cl a9 (rv 0) (mC ah)))]
 ·obtain ⟨p,rfl,_⟩:=h;rfl
 obtain ⟨p,rfl,hp,q⟩:=h
 refine hX ?_
 simp_arith! [bX]
 intro r hr'
 have ne:p≠r:=by intro e;subst e;rw [hp] at hr';cases hr'
 exact mB (x:=[]) (by rw [aq ne];exact hp) ⟨by decide,q r hr'⟩
abbrev gy:Stmt:=(L2.inClass (top 22) 2)
abbrev l4:List Str:=["self","hind","fore"]
theorem iS:L2.aw ["self","hind","fore","kept","found"] ["self","hind","fore"] (L2.aj gy):=d7
def B_ (cB:Addr):cM:=λxs J Q _=>∃p r rows h f,xs=[.ref p,.str h,.str f]∧Hb cB J p r rows∧rows.length≤900∧∀r',J r'=none→Q (.bl (decide ((cX h f rows).length < rows.length))) (put (put J r' (.lst ((cX h f rows).map aB.v))) p (.ins cB [("rows",.ref r')]))
def tail3:PV→PV
 | .tup xs=>.tup (oH xs (some 1) none)
 | _=>.non
def BN (h f:Str) (x:PV):Bool:=!eqQ (tail3 x) (.tup [.str h,.str f])
theorem LK (h f:Str) (b:aB):BN h f b.v=!vj h f b:=by
 show (!eqQ (.tup [.str b.h,.str b.f]) (.tup [.str h,.str f]))=_
 rw [vT,er,er,qz,eq_str,eq_str,UC,← UH]
 rfl
theorem EM (h f:Str):∀rows:List aB,((rows.map aB.v).filter (BN h f)).map (λx=>x)=(cX h f rows).map aB.v
 | []=>rfl
 | b :: rows=>by
  have ih:=EM h f rows
  unfold cX at ih ⊢
  rw [Tt,T5,T5,LK]
  cases vj h f b <;> simp at ih ⊢ <;> exact ih
theorem ui {cB f:Addr} {fd:FuncData} (F:cm K "drop" "Bells.drop" gy f fd) (Z:bV mg) (bP:d_ K mg "Bells" cB) (a9:aL K cB "rows"):aP P w K mg base (c8 P w) 1 f fd l4 (dC K (B_ cB)):=by
 simp_arith [iS,(ai (Jj (i:=3) (L2.aj gy) ["self","hind","fore","kept","found"] [("hind",1),("fore",2)] rfl rfl rfl iS.nd rfl (Or.inl rfl) (gx (aY bP.cl a9 (rv 0))) (λ_ _ _ _ _ _=>(rv 0)) (λ_ _ _ _ _ _=>(aE (ia hr.aU) (kY AZ (rv 0) (n6 ag) n4) (bO (af (rv 1) (af (rv 2) ah))))))
   (ai (aA (i:=4) iS.nd (fP gM (aJ bN rfl Z.len boot_len (af (rv 3) ah)) (aJ bN rfl Z.len boot_len (af (aY bP.cl a9 (rv 0)) ah))))
   (ai (iK bP.cl a9 (rv 0) (rv 3))
   (ar (ay (rv 4))))))]
 ·obtain ⟨p,r,rows,h,f,rfl,_⟩:=h;rfl
 obtain ⟨p,r,rows,h,f,rfl,b,hl,q⟩:=h
 have bo:=b.o
 have bl:=b.l
 refine hX ?_
 simp_arith! [bX,MH,bo,bl,Oo]
 refine ⟨BN h f,λx=>x,⟨by rw [Th];exact a8 (by omega),λJ' sub=>⟨sub _ _ bl,λx hx=>?_⟩⟩,λr' hr'=>?_⟩
 ·obtain ⟨b,_,rfl⟩:=Ti.mp hx
  obtain ⟨xs,h1,h2,h3⟩:=EE J' b
  have hk:BN h f b.v=!eqQ (.tup (oH xs (some 1) none)) (.tup [.str h,.str f]):=by rw [h1];rfl
  simp_arith! [bX]
  refine ⟨Aq h1 ⟨h2,?_⟩,λ_=>trivial⟩
  simp_arith! [bX]
  rw [hk,h3]
  refine ⟨⟨by simp [nX,lY],by simp [gw,gQ,dep,eh]⟩,by simp [nX,lY],rfl⟩
 ·have ne:p≠r':=by intro e;subst e;rw [bo] at hr';cases hr'
  have nr:r≠r':=by intro e;subst e;rw [bl] at hr';cases hr'
  simp_arith! [bX,aq ne,aq nr,bo,bl,Oo,EM,Th,Int.ofNat_lt]
  exact ⟨by decide,q r' hr'⟩
abbrev k7:Stmt:=(L2.inClass (top 22) 1)
abbrev jF:List Str:=["self","moment","hind","fore"]
theorem dZ:L2.aw ["self","moment","hind","fore","bell","low","high","middle"] ["self","moment","hind","fore"] (L2.aj k7):=d7
def AW (cB:Addr):cM:=λxs J Q _=>∃p r rows m h f,xs=[.ref p,fr m,.str h,.str f]∧Hb cB J p r rows∧jq rows∧rows.length≤800∧Sz 9000 m∧(∀x∈rows,Sz 9000 x.m) ∧
 ∀r',J r'=none→Q .non (put (put J r' (.lst ((i4 ⟨m,h,f⟩ (cX h f rows)).map aB.v))) p (.ins cB [("rows",.ref r')]))
theorem JT (a b:Nat):((a:Int) + (b:Int)).fdiv 2=(((a + b) / 2:Nat):Int):=by rw [Int.fdiv_eq_ediv_of_nonneg _ (by decide)];omega
theorem Sq (a:Int):CQ a 2=True:=eq_true ⟨by decide,Bd.mono (Bd.small (by decide) (by decide)) (by decide)⟩
theorem EA {rows:List aB} {i:Nat} {b:aB} (h:rows[i]?=some b):dt (rows.map aB.v) (i:Int)=some b.v:=bx (by rw [Tq,h];rfl)
theorem wg {cB f:Addr} {fd:FuncData} (F:cm K "put" "Bells.put" k7 f fd) (Z:bV mg) (bP:d_ K mg "Bells" cB) (a9:aL K cB "rows") (jy:cG P w K mg base cB 1 "drop" l4 (B_ cB))
  (tP:bq P w K mg base 2 "rings_ahead" kU xr):aP P w K mg base (c8 P w) 3 f fd jF (dC K (AW cB)):=by
 simp_arith [dZ,(ai (aX (bp (pl:=_) jy B hr (rv 0) (af (rv 2) (af (rv 3) ah))))
   (ai (aA (i:=4) dZ.nd (bO (af (rv 1) (af (rv 2) (af (rv 3) ah)))))
   (ai (MQ (i:=5) (j:=6) rfl dZ.nd rfl rfl (by decide) rfl rfl (af ag (af (aJ bN rfl Z.len boot_len (af (aY bP.cl a9 (rv 0)) ah)) ah)) rfl)
   (ai (jh bQ (aE gM (rv 5) (rv 6)) (ai (aA (i:=7) dZ.nd (aM nH (aM cY (rv 5) (rv 6)) ag))
   (ar (aT (bt (aO tP B hr (af (au av (aY bP.cl a9 (rv 0)) (rv 7)) (af (rv 4) ah)))) (ar (aA (i:=5) dZ.nd (aM cY (rv 7) ag))) (ar (aA (i:=6) dZ.nd (rv 7)))))))
   (ar (aX (ie PySem.F.plainAttrs_list PySem.F.slot_list_insert PySem.F.type_list_insert i6 (aY bP.cl a9 (rv 0)) (af (rv 5) (af (rv 4) ah)))))))))]
 ·obtain ⟨p,r,rows,m,h,f,rfl,_⟩:=h;rfl
 obtain ⟨p,r,rows,m,h,f,rfl,b,srt,hl,sm,sr,q⟩:=h
 have bo:=b.o
 refine hX ?_
 simp_arith! [bX,bo,Q7]
 refine ⟨p,r,rows,h,f,rfl,b,by omega,λr' hr'=>?_⟩
 have Nr:r'≠p:=by intro e;subst e;rw [bo] at hr';cases hr'
 have b1:Hb cB (put (put J r' (.lst ((cX h f rows).map aB.v))) p (.ins cB [("rows",.ref r')])) p r' (cX h f rows):=⟨ak,by rw [aq Nr];exact ak⟩
 have kl:(cX h f rows).length≤800:=TK (oJ _ _ _) hl
 have ks:jq (cX h f rows):=uQ srt
 have kz:∀x∈cX h f rows,Sz 9000 x.m:=λx hx=>sr x (TB.mp hx).1
 have q:=q r' hr'
 generalize hJ:put (put J r' (.lst ((cX h f rows).map aB.v))) p (.ins cB [("rows",.ref r')])=J1 at b1 ⊢
 have hq:put J1 r' (.lst ((i4 ⟨m,h,f⟩ (cX h f rows)).map aB.v))=put (put J r' (.lst ((i4 ⟨m,h,f⟩ (cX h f rows)).map aB.v))) p (.ins cB [("rows",.ref r')]):=by rw [← hJ,IQ Nr]
 rw [← hq] at q
 clear hq hJ hr'
 have bo:=b1.o
 have bl:=b1.l
 generalize cX h f rows=ks' at *
 simp_arith! [bX,bo,bl,Oo,GW,Th]
 refine ⟨λk τ J'=>∃(lo hi:Nat) (u:Option PV),τ=[some (.ref p),some (fr m),some (.str h),some (.str f),some (aB.mk m h f).v,some (.int lo),some (.int hi),u]∧J'=J1∧k=hi - lo∧lo≤hi∧hi≤ks'.length ∧
  (∀(j:Nat) x,j < lo→ks'[j]?=some x→x.lt ⟨m,h,f⟩=true)∧(∀(j:Nat) x,hi≤j→ks'[j]?=some x→x.lt ⟨m,h,f⟩=false),⟨_,0,ks'.length,none,rfl,rfl,rfl,T3 _,Tr _,λj x hj=>absurd hj (U_ _),λj x hj e=>by rw [Ut hj] at e;cases e⟩,?_⟩
 rintro k τ J' ⟨lo,hi,u,rfl,rfl,rfl,h1,h2,hlo,hhi⟩
 simp_arith! [bX,bo,bl,Oo,Sq,JT,Int.ofNat_lt,xr]
 by_cases hlt:lo < hi
 ·rw [if_pos hlt]
  have hm:(lo + hi) / 2 < ks'.length:=by omega
  obtain ⟨x,hx⟩:∃x,ks'[(lo + hi) / 2]?=some x:=⟨_,Tn hm⟩
  obtain ⟨N,hN⟩:∃N:Sr→Hq→Prop,∀τ' J'',N τ' J''↔∃(lo' hi':Nat) (u:Option PV),τ'=[some (.ref p),some (fr m),some (.str h),some (.str f),some (aB.mk m h f).v,some (.int lo'),some (.int hi'),u]∧J''=J'∧lo'≤hi'∧hi'≤ks'.length∧hi' - lo' < hi - lo ∧
   (∀(j:Nat) x,j < lo'→ks'[j]?=some x→x.lt ⟨m,h,f⟩=true)∧(∀(j:Nat) x,hi'≤j→ks'[j]?=some x→x.lt ⟨m,h,f⟩=false):=⟨_,λ_ _=>Iff.rfl⟩
  refine ⟨N,λτ' J'' hn=>by obtain ⟨lo',hi',u,e1,e2,e3,e4,e5,e6,e7⟩:=(hN _ _).mp hn;exact ⟨_,e5,lo',hi',u,e1,e2,rfl,e3,e4,e6,e7⟩,kF (EA hx) ⟨x,⟨m,h,f⟩,rfl,kz x (To hx),sm,?_⟩⟩
  simp_arith! [bX,Sq,JT,Int.ofNat_lt]
  cases hc:x.lt ⟨m,h,f⟩ with
  | true =>
   rw [if_pos rfl]
   exact (hN _ _).mpr ⟨(lo + hi) / 2 + 1,hi,_,rfl,rfl,by omega,h2,by omega,λj y hj e=>Cr ks hx e (by omega) hc,hhi⟩
  | false =>
   rw [if_neg TH]
   exact (hN _ _).mpr ⟨lo,(lo + hi) / 2,_,rfl,rfl,by omega,by omega,by omega,hlo,λj y hj e=>tu ks hx e hj hc⟩
 ·rw [if_neg hlt]
  have e:lo=hi:=by omega
  subst e
  refine ⟨_,lo,rfl,rfl,by rw [Th];exact h2,by rw [Th];exact a8 (by omega),Ul h2 (Ul kl (by decide)),?_⟩
  rw [← vW h2 hlo hhi,Ts,Tt,Uv,U2] at q
  exact q
abbrev jI:Stmt:=(L2.inClass (top 22) 5)
abbrev iz:List Str:=["self"]
theorem uA:L2.aw ["self"] ["self"] (L2.aj jI):=d7
def xu (cB:Addr):cM:=λxs J Q _=>∃p r rows,xs=[.ref p]∧Hb cB J p r rows∧(Q (.fl (rows.map aB.v)) J∨∀l,J l=none→Q (.ref l) (put J l (.lst (rows.map aB.v))))
theorem uk {cB f:Addr} {fd:FuncData} (F:cm K "told" "Bells.told" jI f fd) (Z:bV mg) (bP:d_ K mg "Bells" cB) (a9:aL K cB "rows"):aP P w K mg base (c8 P w) 1 f fd iz (dC K (xu cB)):=by
 simp_arith [uA,(ar (ay (fN ni rfl Z.list boot_list (af (aY bP.cl a9 (rv 0)) ah)))),F]
 ·obtain ⟨p,r,rows,rfl,_⟩:=h;rfl
 obtain ⟨p,r,rows,rfl,b,q⟩:=h
 have bo:=b.o
 have bl:=b.l
 refine hX ?_
 simp_arith! [bX,bo,bl,Oo]
 intro l hl
 rcases q with q | q
 ·exact Fg.oN (fg hl) ak hl q
 ·exact Fg.same (q l hl)
def Ca:cM:=λxs J Q _=>∃t b:Int,xs=[.int t,.int b]∧b≠0∧Bd 9000 b∧Q (fr (Rat.divInt t b)) J
theorem ug (C:tI P w K mg base 2 "fraction" dM gW):bq P w K mg base 2 "fraction" dM Ca:=C.lift λxs J vs H Q2 E2 Q E rs r ⟨t,b,ex,h0,h1,q⟩ kn=>by
 subst ex
 obtain ⟨v,u,rfl,r1,r2⟩:=jV rs
 cases r1;cases r2
 exact ⟨t,b,rfl,h0,h1,wW r kn q⟩
theorem yn (l l':aQ) (h:l.v≠l'.v):Rat.divInt ((l'.at 0 - l.at 0).num) (((l'.at 0 - l.at 0).den:Int) * (l.v - l'.v))=nF l l':=by
 rw [ME _ _ (by omega)];rfl
abbrev pw:Stmt:=(top 26)
abbrev sx:List Str:=["one","other"]
theorem mO:L2.aw ["one","other","gain","gap"] ["one","other"] (L2.aj pw):=d7
def Ci:cM:=λxs J Q _=>∃l l':aQ,xs=[l.V,l'.V]∧lV 900 l∧lV 900 l'∧(l.v=l'.v→Q .non J)∧(l.v≠l'.v→Q (fr (nF l l')) J)
theorem yA {f:Addr} {fd:FuncData} (F:cm K "meeting" "meeting" pw f fd) (Z:bV mg) (N:oE K mg) (eO:bq P w K mg base 4 "place_on" ib me) (mW:bq P w K mg base 3 "minus" kT (AV λp q=>p - q)) (cg:bq P w K mg base 2 "fraction" dM Ca) :
  aP P w K mg base (c8 P w) 5 f fd sx (dC K Ci):=by
 obtain ⟨aN,gN,sN⟩:=N
 have rN:∀(J:Hq) (H:Hp),cH K J H (fr 0) (.ref aN):=λJ H=>⟨aN,_,rfl,sN H,⟨_,_,rfl,rfl,_,_,rfl,rfl,rfl⟩⟩
 simp_arith [mO,(ai (aA (i:=2) mO.nd (aM d8 (au av (rv 0) ag) (au av (rv 1) ag)))
   (ai (aT (aE (cI hr.aU) (rv 2) ag) (ar (ay mD)) aF)
   (ai (aA (i:=3) mO.nd (aO mW B hr (af (aO eO B hr (af (rv 1) (af (fW (v:=.ref aN) (fr 0) rfl gN rfl rN) ah))) (af (aO eO B hr (af (rv 0) (af (fW (v:=.ref aN) (fr 0) rfl gN rfl rN) ah))) ah))))
   (ar (ay (aO cg B hr (af (au av (rv 3) ag) (af (aM bL (au av (rv 3) ag) (rv 2)) ah))))))))]
 ·obtain ⟨l,l',rfl,_⟩:=h;rfl
 obtain ⟨l,l',rfl,sl,sl',q0,q1⟩:=h
 refine hX ?_
 have z1:Sz 900 (0:Rat):=⟨⟨by decide⟩,⟨by decide⟩⟩
 have s3:=ki sl z1
 have s3':=ki sl' z1
 have s4:Sz 6001 (l'.at 0 - l.at 0):=s3'.sub s3
 have bg:Bd 65 (l.v - l'.v):=sl.v.sub sl'.v
 simp_all! [hZ]
 split
 ·rename_i e;simp_all! [];exact q0 (by omega)
 rename_i e
 have hv:l.v≠l'.v:=by omega
 simp_all! []
 refine ⟨l',0,rfl,sl'.m,sl'.p,z1,sl'.v,l,0,rfl,sl.m,sl.p,z1,sl.v,l'.at 0,l.at 0,rfl,s3'.mono (by decide),s3.mono (by decide),?_⟩
 simp_all! []
 refine ⟨.of s4.den bg,_,_,rfl,Int.mul_ne_zero (fE _) e,(Bd.mul s4.den bg (k:=6100)).mono (by decide),?_⟩
 rw [yn l l' hv]
 exact q1 hv
theorem yo {l l':aQ} (sl:lV 900 l) (sl':lV 900 l') (h:l.v≠l'.v):Sz 8000 (nF l l'):=by
 rw [← yn l l' h]
 have z1:Sz 900 (0:Rat):=⟨⟨by decide⟩,⟨by decide⟩⟩
 have s4:Sz 6001 (l'.at 0 - l.at 0):=(ki sl' z1).sub (ki sl z1)
 have bg:Bd 65 (l.v - l'.v):=sl.v.sub sl'.v
 exact Sz.div (s4.num.mono (by decide)) ((Bd.mul s4.den bg (k:=6100)).mono (by decide)) (Int.mul_ne_zero (fE _) (by omega))
theorem bh.Qc {L:Ln} (h:bh L) {c:Cf} (hc:c∈L.cs):lV 900 c.cur:=(h.ck c hc _ (Cf.jx (h.ne c hc)).2).D9
abbrev jO:Stmt:=(L2.inClass (top 42) 13)
abbrev iD:List Str:=["self","name","other"]
theorem md:L2.aw ["self","name","other","met"] ["self","name","other"] (L2.aj jO):=d7
def sY (cN cL eC:Addr):cM:=λxs J Q E=>∃p L n n',xs=[.ref p,.str n,.str n']∧ba cN cL J p L∧bh L∧(∀c∈L.cs,∀c'∈L.cs,c.n=n→c'.n=n'→c.g=none→c'.g=none→Q (gv (H0 L.t c.cur c'.cur)) J)∧(n ∉ L.row∨n' ∉ L.row→E eC J)
theorem uv {cN cL eC f:Addr} {fd:FuncData} (F:cm K "meets" "Lane.meets" jO f fd) (Z:bV mg) (ax:d_ K mg "Lane" cN) (az:aL K cN "now") (bR:cG P w K mg base cN 4 "leg_of" fj (oj cN cL eC)) (CF:bq P w K mg base 5 "meeting" sx Ci) (du:bq P w K mg base 1 "less" fV di):aP P w K mg base (c8 P w) 6 f fd iD (dC K (sY cN cL eC)):=by
 simp_arith [md,(ai (aA (i:=3) md.nd (aO CF B hr (af (bp (pl:=_) bR B hr (rv 0) (af (rv 1) ah)) (af (bp (pl:=_) bR B hr (rv 0) (af (rv 2) ah)) ah))))
   (ar (ay (Pr (c7 (ft (aE se (rv 3) mD) (dY (bt (aO du B hr (af (aY ax.cl az (rv 0)) (af (rv 3) ah))))))) (rv 3) mD))))]
 ·obtain ⟨p,L,n,n',rfl,_⟩:=h;rfl
 obtain ⟨p,L,n,n',rfl,b,ok,q,qe⟩:=h
 have bo:=b.ob
 refine hX ?_
 simp_all! [bo]
 refine ⟨dB _ _ _ _,p,L,n,rfl,b,ok,λc hc e hg=>?_,λz=>qe (.inl z)⟩
 simp_all! [bo]
 refine ⟨dB _ _ _ _,p,L,n',rfl,b,ok,λc' hc' e' hg'=>?_,λz=>qe (.inr z)⟩
 have q:=q c hc c' hc' e e' hg hg'
 have sl:=ok.Qc hc
 have sl':=ok.Qc hc'
 unfold H0 at q
 refine ⟨c.cur,c'.cur,rfl,sl,sl',λhv=>?_,λhv=>?_⟩
 ·rw [if_neg (λz=>z.1 hv)] at q
  simp_all! []
  exact q
 ·simp_all! [rT,bo,rX,di]
  refine ⟨ok.JH.mono (by decide),(yo sl sl' hv).mono (by decide),?_⟩
  split
  ·rename_i c1
   rw [if_pos ⟨hv,c1⟩] at q
   simp_all! []
   exact q
  ·rename_i c1
   rw [if_neg (λz=>c1 z.2)] at q
   exact q
theorem Te (A:Nat):Sc iq A 0:=⟨0,by rw [Rat.zero_mul];rfl,T3 _⟩
theorem ba.L8 {cN cL:Addr} {J:Hq} {p T:Addr} {L:Ln} (h:ba cN cL J p L) (hT:J T=Uh .tab):¬ L.own p T:=by
 rintro (rfl | rfl | rfl | ⟨c,hc,rfl | rfl⟩)
 ·rw [h.ob] at hT;cases hT
 ·rw [h.dc] at hT;cases hT
 ·rw [h.rw] at hT;cases hT
 ·rw [(h.lg c hc).o] at hT;cases hT
 ·rw [(h.lg c hc).l] at hT;cases hT
theorem N1 {L:Ln} {n:Str} {l:aQ} (h:(n,l)∈L.fs):∃c∈L.cs,c.n=n∧c.g=none∧c.cur=l:=by
 obtain ⟨c,hc,e⟩:=Ti.mp h
 have:=Ln.dW.mp hc
 cases e
 exact ⟨c,this.1,rfl,this.2,rfl⟩
def pJ:cM:=λxs J Q _=>∃a b:Int,xs=[.int a,.int b]∧Q (.int (Int.gcd a b:Nat)) J
theorem yj (C:tI P w K mg base 1 "shared" jf tm):bq P w K mg base 1 "shared" jf pJ:=C.lift λxs J vs H Q2 E2 Q E rs r ⟨a,b,ex,q⟩ kn=>by
 subst ex
 obtain ⟨v,u,rfl,r1,r2⟩:=jV rs
 cases r1;cases r2
 exact ⟨a,b,rfl,kn (.int _) J _ H rfl r .refl q⟩
abbrev fv:Stmt:=(top 18)
abbrev gP:List Str:=["pair"]
theorem mK:L2.aw ["pair"] ["pair"] (L2.aj fv):=d7
def y6:cM:=λxs J Q _=>∃a b:Int,xs=[.tup [.int a,.int b]]∧Q (.bl (decide (1≤b∧Int.gcd a b=1))) J
theorem lW {f:Addr} {fd:FuncData} (F:cm K "in_lowest_terms" "in_lowest_terms" fv f fd) (Z:bV mg) (iU:bq P w K mg base 1 "shared" jf pJ):aP P w K mg base (c8 P w) 2 f fd gP (dC K y6):=by
 simp_arith [mK,(ar (ay (AK (fP FN (au av (rv 0) ag) ag) (wV (fP (cI hr.aU) (aO iU B hr (af (au av (rv 0) ag) (af (au av (rv 0) ag) ah))) ag)))))]
 ·obtain ⟨a,b,rfl,_⟩:=h;rfl
 obtain ⟨a,b,rfl,q⟩:=h
 refine hX ?_
 simp_all! []
 by_cases c:1≤b
 ·simp only [c,decide_true,true_and,if_true] at q ⊢
  simp_all! [pJ]
  have:decide (((Int.gcd a b:Nat):Int)=1)=decide (Int.gcd a b=1):=decide_eq_decide.mpr (by omega)
  rw [this];exact q
 ·simp only [c,decide_false,false_and] at q ⊢
  rw [if_neg (λz=>z)]
  exact q
abbrev iN:Stmt:=(top 40)
abbrev kQ:List Str:=["moment"]
theorem gT:L2.aw ["moment","top","bottom"] ["moment"] (L2.aj iN):=d7
def hE (a b:Int):Bool:=decide (b≤60∧1≤b∧Int.gcd a b=1∧0≤a∧a≤1000000 * b)
def Cb:cM:=λxs J Q _=>∃a b:Int,xs=[.tup [.int a,.int b]]∧Q (.bl (hE a b)) J
theorem qm {f:Addr} {fd:FuncData} (F:cm K "good_moment" "good_moment" iN f fd) (Z:bV mg) {ot ou:Tok} (ko:mg "FINEST"=some (.int 60 ot)) (kq:mg "LATEST"=some (.int 1000000 ou)) (mU:bq P w K mg base 2 "in_lowest_terms" gP y6):aP P w K mg base (c8 P w) 3 f fd kQ (dC K Cb):=by
 simp_arith [gT,(ai (wX (rv 0) (sE (n:=2) rfl (c5 (bz (i:=1) gT.nd) (c5 (bz (i:=2) gT.nd) nZ))))
   (ai (aT (c7 (gj (aE kG (rv 2) (fW (v:=.int 60) (.int 60) rfl ko ⟨_,rfl⟩ (λ_ _=>rfl))) (fu (bU (bt (aO mU B hr (af (rv 0) ah))))))) (ar (ay dN)) aF)
   (ar (ay (Gk FO FO ag (rv 1) (aM bL (fW (v:=.int 1000000) (.int 1000000) rfl kq ⟨_,rfl⟩ (λ_ _=>rfl)) (rv 2)))))))]
 ·obtain ⟨a,b,rfl,_⟩:=h;rfl
 obtain ⟨a,b,rfl,q⟩:=h
 refine hX ?_
 unfold hE at q
 simp_all! []
 simp_all! []
 by_cases c1:60 < b
 ·rw [if_pos c1]
  rw [decide_eq_false (λz=>by omega)] at q
  exact q
 rw [if_neg c1]
 simp_all! []
 refine ⟨a,b,rfl,?_⟩
 by_cases c2:1≤b∧Int.gcd a b=1
 ·rw [decide_eq_true c2]
  simp_all! [wU]
  by_cases c3:0≤a
  ·simp only [c3,decide_true,if_true]
   refine ⟨.of (.small (x:=1000000) (by decide) (by decide)) (.small (x:=b) (by omega) (by omega)),?_⟩
   have:decide (a≤1000000 * b)=decide (b≤60∧1≤b∧Int.gcd a b=1∧0≤a∧a≤1000000 * b):=decide_eq_decide.mpr ⟨λz=>⟨by omega,c2.1,c2.2,c3,z⟩,λz=>z.2.2.2.2⟩
   rw [this];exact q
  ·rw [decide_eq_false (λz=>c3 z.2.2.2.1)] at q
   simp only [c3,decide_false]
   rw [if_neg (λz=>z)]
   exact q
 ·rw [decide_eq_false c2]
  rw [decide_eq_false (λz=>c2 ⟨z.2.1,z.2.2.1⟩)] at q
  simp_all! []
  exact q
theorem ba.less {cN cL:Addr} {J J':Hq} {p:Addr} {L:Ln} (h:ba cN cL J p L) (l:m3 J J'):ba cN cL J' p L:=h.keep λa o _ e=>by
 rcases l a with z | z
 ·rw [← z];exact e
 ·rw [z] at e;cases e
theorem oS {J J':Hq} {p r:Addr} {x y:HQ} (l:m3 J J') (hp:J p=none) (hr:J' r=none):m3 J (put (put J' r x) p y):=λa=>by
 by_cases e:a=p
 ·exact .inr (by rw [e];exact hp)
 by_cases e2:a=r
 ·rcases l a with z | z
  ·right;rw [z,e2];exact hr
  ·exact .inr z
 ·rw [aq e,aq e2];exact l a
theorem u_ {J:Hq} {p r:Addr} {x y z:HQ} (hp:J p=none) (hr:put J p x r=none):m3 J (put (put (put J p x) r y) p z):=oS (fg hp) hp hr
theorem x6 (xs:List PV) (k:Nat) (h:k≤xs.length):oH xs (some (k:Int)) none=xs.drop k:=by
 unfold oH HT.fb
 simp only [Int.toNat_natCast]
 rw [if_neg (by omega),VR h]
 rw [Ue (by rw [UD];exact Tr _)]
theorem cq.keys {L:Ln} (ok:cq L):L.row.map PV.str=(cK (L.fs.map (key L.t))).map λk=>PV.str k.n:=by rw [ok.row];unfold cf;rw [Tw];rfl
theorem vZ {L:Ln} (ok:bh L) {a:Ky} (ha:a∈cK (L.fs.map (key L.t))) {c:Cf} (hc:c∈L.cs) (hg:c.g=none) (e:c.n=a.n):a=key L.t (c.n,c.cur):=by
 obtain ⟨x,hx,rfl⟩:=Ti.mp ((bB _ _).mp ha)
 obtain ⟨c0,hc0,h1,h2,h3⟩:=N1 (n:=x.1) (l:=x.2) hx
 have:c0=c:=ok.uniq hc0 hc (h1.trans e.symm)
 subst this
 show key L.t (x.1,x.2)=_
 rw [← h3,← h1]
theorem lP {L:Ln} (ok:cq L) {a:Ky} (ha:a∈cK (L.fs.map (key L.t))):a.n∈L.row:=by
 rw [ok.row];unfold cf;exact Ti.mpr ⟨a,ha,rfl⟩
theorem nE {L:Ln} (ok:cq L) {a b:Ky} (ha:a∈cK (L.fs.map (key L.t))) (hb:b∈cK (L.fs.map (key L.t))) (h:b.v < a.v):Sz 9000 (dq L.t a b):=by
 obtain ⟨c,hc,hcn,hcg⟩:=ok.found (lP ok ha)
 obtain ⟨c',hc',hcn',hcg'⟩:=ok.found (lP ok hb)
 have ea:=vZ ok.tobh ha hc hcg hcn
 have eb:=vZ ok.tobh hb hc' hcg' hcn'
 have hv:c.cur.v≠c'.cur.v:=by rw [ea,eb] at h;exact λz=>by have:c'.cur.v < c.cur.v:=h;omega
 rw [ea,eb,← qC hv]
 exact (yo (ok.Qc hc) (ok.Qc hc') hv).mono (by decide)
theorem cq.knd {L:Ln} (ok:cq L):((L.fs.map (key L.t)).map Ky.n).Nodup:=by rw [cO];exact ok.JU
theorem cq.N_ {L:Ln} (ok:cq L):(cK (L.fs.map (key L.t))).length≤12:=by
 have h1:=ok.rl
 have h2:=congrArg UP ok.keys
 rw [Th,Th] at h2
 omega
theorem yp {L:Ln} (ok:cq L) {i j:Nat} {a b:Ky} (ha:(cK (L.fs.map (key L.t)))[i]?=some a) (hb:(cK (L.fs.map (key L.t)))[j]?=some b) (hij:i < j) {c c':Cf} (hc:c∈L.cs) (hc':c'∈L.cs) (hg:c.g=none) (hg':c'.g=none) (e:c.n=a.n) (e':c'.n=b.n) :
  H0 L.t c.cur c'.cur=if b.v < a.v∧a.p < b.p then some (dq L.t a b) else none:=by
 have ea:=vZ ok.tobh (To ha) hc hg e
 have eb:=vZ ok.tobh (To hb) hc' hg' e'
 have hlt:a.lt b=true:=by
  obtain ⟨hil,ei⟩:=Tj.mp ha
  obtain ⟨hjl,ej⟩:=Tj.mp hb
  have:=Ub.mp (cZ ok.knd) i j hil hjl hij
  rw [ei,ej] at this;exact this
 rw [ea,eb] at hlt ⊢
 have key:=H_ hlt
 unfold H0
 by_cases z:c.cur.v≠c'.cur.v∧L.t < nF c.cur c'.cur
 ·rw [if_pos z,if_pos (show (Ov.key L.t (c'.n,c'.cur)).v < (Ov.key L.t (c.n,c.cur)).v∧(Ov.key L.t (c.n,c.cur)).p < (Ov.key L.t (c'.n,c'.cur)).p from key.mp z),qC z.1]
 ·rw [if_neg z,if_neg (show ¬ ((Ov.key L.t (c'.n,c'.cur)).v < (Ov.key L.t (c.n,c.cur)).v∧(Ov.key L.t (c.n,c.cur)).p < (Ov.key L.t (c'.n,c'.cur)).p) from λy=>z (key.mpr y))]
theorem Jh {L:Ln} (ok:cq L) {i j:Nat} {a b:Ky} (ha:(cK (L.fs.map (key L.t)))[i]?=some a) (hb:(cK (L.fs.map (key L.t)))[j]?=some b) (hij:i < j) (h:b.v < a.v):a.p < b.p:=by
 obtain ⟨hil,ei⟩:=Tj.mp ha
 obtain ⟨hjl,ej⟩:=Tj.mp hb
 have:=Ub.mp (cZ ok.knd) i j hil hjl hij
 rw [ei,ej,Ky.lt_iff] at this
 rcases this with z | ⟨_,z | ⟨z,_⟩⟩
 ·exact z
 ·omega
 ·omega
abbrev gh:Stmt:=(L2.inClass (top 42) 6)
abbrev jc:List Str:=["self","moment"]
theorem cv:L2.aw ["self","moment","passings","at","hind","fore","met"] ["self","moment"] (L2.aj gh):=d7
theorem oT {J J':Hq} {l:Addr} {o:HQ} (h:m3 J J'):m3 (put J l o) (put J' l o):=λa=>by
 by_cases e:a=l
 ·subst e;rw [ak,ak];exact .inl rfl
 ·rw [aq e,aq e];exact h a
def Cj (cN cL eM eP:Addr):cM:=λxs J Q E=>∃p L a b,xs=[.ref p,.tup [.int a,.int b]]∧ba cN cL J p L∧cq L∧(hE a b=false→E eM J)∧(∀m:Rat,m.num=a→(m.den:Int)=b→hE a b=true→(m < L.t→E eP J)∧(L.t≤m→Q (.fl ((e_ L.t (L.fs.map (key L.t)) m).map aB.v)) J∨∀l,J l=none→Q (.ref l) (put J l (.lst ((e_ L.t (L.fs.map (key L.t)) m).map aB.v)))))
theorem oW {cN cL cB eM eP eC f:Addr} {fd:FuncData} (F:cm K "foretold" "Lane.foretold" gh f fd) (Z:bV mg) (ax:d_ K mg "Lane" cN) (az:aL K cN "now") (aI:aL K cN "row") (fZ:Own K mg "BadMoment" eM) (rh:Own K mg "Past" eP) (tN:bq P w K mg base 3 "good_moment" kQ Cb) (du:bq P w K mg base 1 "less" fV di) (lB:zE P w K mg base cB 1 "Bells" fi (xt cB)) (dT:cG P w K mg base cN 6 "meets" iD (sY cN cL eC)) (e8:cG P w K mg base cB 3 "put" jF (AW cB)) (dR:cG P w K mg base cB 1 "told" iz (xu cB)):aP P w K mg base (c8 P w) 7 f fd jc (dC K (Cj cN cL eM eP)):=by
 simp_arith [cv,(ai (aT (bU (bt (aO tN B hr (af (rv 1) ah)))) (ar (dP fZ rfl cy B.kn rfl (af bF ah))) aF)
   (ai (aT (bt (aO du B hr (af (rv 1) (af (aY ax.cl az (rv 0)) ah)))) (ar (dP rh rfl cy B.kn rfl (af bF ah))) aF)
   (ai (aA (i:=2) cv.nd (sC lB B hr))
   (ai (dw bQ rfl (I_ rfl Z.enumerate (af (aY ax.cl aI (rv 0)) ah)) (sE (n:=2) rfl (c5 (bz (i:=3) cv.nd) (c5 (bz (i:=4) cv.nd) nZ))) (ar (dw bQ rfl (gx (kY KR (aY ax.cl aI (rv 0)) (n6 (aM cY (rv 3) ag)) n4)) (bz (i:=5) cv.nd) (ai (aA (i:=6) cv.nd (bp (pl:=_) dT B hr (rv 0) (af (rv 4) (af (rv 5) ah))))
   (ar (aT (c7 (ft (aE se (rv 6) mD) (dY (bU (bt (aO du B hr (af (rv 1) (af (rv 6) ah)))))))) (ar (aX (bp (pl:=_) e8 B hr (rv 2) (af (rv 6) (af (rv 4) (af (rv 5) ah)))))) aF))))))
   (ar (ay (cj (pl:=_) dR B hr (rv 2)))))))),F]
 ·obtain ⟨p,L,a,b,rfl,_⟩:=h;rfl
 obtain ⟨p,L,a,bb,rfl,b,ok,qe,q⟩:=h
 have bo:=b.ob
 refine hX ?_
 simp_all! []
 refine ⟨a,bb,rfl,?_⟩
 cases hg:hE a bb with
 | false =>
  simp_all! [fo]
  exact qe hg
 | true =>
  have hgm:=of_decide_eq_true hg
  obtain ⟨m,hm1,hm2⟩:∃m:Rat,m.num=a∧(m.den:Int)=bb:=⟨⟨a,bb.toNat,by omega,by
   have:=hgm.2.2.1
   unfold Int.gcd at this
   show Nat.gcd a.natAbs bb.toNat=1
   rw [show bb.toNat=bb.natAbs by omega];exact this⟩,rfl,by show ((bb.toNat:Nat):Int)=bb;omega⟩
  obtain ⟨q1,q2⟩:=q m hm1 hm2 hg
  have ef:PV.tup [.int a,.int bb]=fr m:=by rw [← hm1,← hm2];rfl
  have sm:Sz 900 m:=⟨(Bd.small (x:=m.num) (by omega) (by omega)).mono (by decide),(Bd.small (x:=(m.den:Int)) (by omega) (by omega)).mono (by decide)⟩
  simp_all! [bo,rX,ef]
  refine ⟨_,_,rfl,sm.mono (by decide),ok.JH.mono (by decide),?_⟩
  by_cases c1:m < L.t
  ·rw [decide_eq_true c1]
   simp_all! [fo]
   exact q1 c1
  rw [decide_eq_false c1]
  have q:=q2 (by grind)
  simp_all! []
  intro pb hpb
  refine ⟨pb,rfl,ak,λr0 hr0=>⟨rfl,?_⟩⟩
  have l0:=u_ (y:=.lst []) (z:=.ins cB [("rows",.ref r0)]) hpb hr0
  have nr0:r0≠pb:=by intro e;subst e;rw [ak] at hr0;cases hr0
  have b0:Hb cB (put (put (put J pb (.ins cB [])) r0 (.lst [])) pb (.ins cB [("rows",.ref r0)])) pb r0 []:=⟨ak,by rw [aq nr0];exact ak⟩
  generalize put (put (put J pb (.ins cB [])) r0 (.lst [])) pb (.ins cB [("rows",.ref r0)])=J0 at l0 b0 ⊢
  simp_all! [(b.less l0).ob,(b.less l0).rw,uh]
  obtain ⟨ks,hks⟩:∃ks,cK (L.fs.map (key L.t))=ks:=⟨_,rfl⟩
  have hrow:L.row.map PV.str=ks.map λk=>PV.str k.n:=by rw [← hks];exact ok.keys
  have hkl:ks.length≤12:=by rw [← hks];exact ok.N_
  have hup:∀{ps:List (Ky × Ky)},(∀p∈ps,p.1∈ks∧p.2∈ks)→∀x∈bA L.t (b_ L.t m) ps,Sz 9000 x.m:=λhp x hx=>by
   obtain ⟨p,hp',hc,rfl⟩:=gB _ hx
   have:=of_decide_eq_true hc
   exact nE ok (by rw [hks];exact (hp p hp').1) (by rw [hks];exact (hp p hp').2) this.1
  rw [hrow]
  obtain ⟨Inv,hInv⟩:∃Inv:Nat→Sr→Hq→Prop,∀i τ J',Inv i τ J'↔∃(r:Addr) (u3 u4 u5 u6:Option PV),τ=[some (.ref p),some (fr m),some (.ref pb),u3,u4,u5,u6]∧m3 J J'∧Hb cB J' pb r (bA L.t (b_ L.t m) (zo ks i))∧(bA L.t (b_ L.t m) (zo ks i)).length≤12 * i:=⟨_,λ_ _ _=>Iff.rfl⟩
  refine eV Inv ((hInv _ _ _).mpr ⟨r0,_,_,_,_,rfl,l0,b0,Tr _⟩) (λi τ J' h=>?_) ?_ ?_
  ·obtain ⟨r,_,_,_,_,_,l',_⟩:=(hInv _ _ _).mp h
   rw [(b.less l').rw,hrow]
  ·intro i x τ J' hx hv
   obtain ⟨r,u3,u4,u5,u6,rfl,l',bb,hle⟩:=(hInv _ _ _).mp hv
   clear hv
   have hi:i < ks.length:=by have:=(Tj.mp hx).1;rw [lG,Th] at this;exact this
   have ha:ks[i]?=some ks[i]:=Tn hi
   rw [uT _ i (.str (ks[i]).n) (by rw [Tq,ha];rfl)] at hx
   cases hx
   generalize ks[i]=a at ha ⊢
   simp_all! [(b.less l').ob,(b.less l').rw,uh]
   rw [hrow,show (i:Int) + 1=((i + 1:Nat):Int) by omega,x6 _ _ (by rw [Th];omega),← U2]
   have eup:zo ks (i + 1)=zo ks i ++ (ks.drop (i + 1)).map λb=>(a,b):=by show zo ks i ++ _=_;rw [ha]
   have mup:∀j,∀p∈zo ks i ++ ((ks.drop (i + 1)).take j).map (λb=>(a,b)),p.1∈ks∧p.2∈ks:=λj p hp=>by
    rcases Tv.mp hp with hp | hp
    ·obtain ⟨_,_,_,_,h3,h4⟩:=ox.mp hp
     exact ⟨To h3,To h4⟩
    ·obtain ⟨y,hy,rfl⟩:=Ti.mp hp
     exact ⟨To ha,List.mem_of_mem_drop (T8 hy)⟩
   obtain ⟨In2,hIn2⟩:∃In2:Nat→Sr→Hq→Prop,∀j τ J',In2 j τ J'↔∃(r:Addr) (u5 u6:Option PV),τ=[some (.ref p),some (fr m),some (.ref pb),some (.int (i:Int)),some (.str a.n),u5,u6]∧m3 J J'∧Hb cB J' pb r (bA L.t (b_ L.t m) (zo ks i ++ ((ks.drop (i + 1)).take j).map λb=>(a,b)))∧(bA L.t (b_ L.t m) (zo ks i ++ ((ks.drop (i + 1)).take j).map λb=>(a,b))).length≤12 * i + j:=⟨_,λ_ _ _=>Iff.rfl⟩
   refine eV In2 ((hIn2 _ _ _).mpr ⟨r,_,_,rfl,l',by simpa using bb,by simpa using hle⟩) (λ_ _ _ _=>trivial) ?_ ?_
   ·intro j x τ J2 hx hv
    obtain ⟨r2,u5,u6,rfl,l2,bb2,hle2⟩:=(hIn2 _ _ _).mp hv
    clear hv
    have hj:j < (ks.drop (i + 1)).length:=by have:=(Tj.mp hx).1;rw [Th] at this;exact this
    have hb:(ks.drop (i + 1))[j]?=some (ks.drop (i + 1))[j]:=Tn hj
    rw [Tq,hb] at hx
    cases hx
    generalize (ks.drop (i + 1))[j]=y at hb ⊢
    have hb':ks[i + 1 + j]?=some y:=by rw [Vd] at hb;exact hb
    have hjl:j < 12:=by rw [UD] at hj;omega
    have ej:(ks.drop (i + 1)).take (j + 1)=(ks.drop (i + 1)).take j ++ [y]:=by rw [TR,hb];rfl
    have ef2:bA L.t (b_ L.t m) (zo ks i ++ ((ks.drop (i + 1)).take (j + 1)).map λb=>(a,b))=f_ L.t (b_ L.t m) (bA L.t (b_ L.t m) (zo ks i ++ ((ks.drop (i + 1)).take j).map λb=>(a,b))) (a,y):=by
     rw [ej,Ts,← Vl];exact dG _ _ _ _
    have srt:=fF L.t (b_ L.t m) (zo ks i ++ ((ks.drop (i + 1)).take j).map λb=>(a,b))
    have szs:=hup (mup j)
    generalize bA L.t (b_ L.t m) (zo ks i ++ ((ks.drop (i + 1)).take j).map λb=>(a,b))=rows at bb2 hle2 ef2 srt szs
    have mQ:b_ L.t m (a,y)=false→∀{v5 v6},In2 (j + 1) [some (.ref p),some (fr m),some (.ref pb),some (.int (i:Int)),some (.str a.n),v5,v6] J2:=λhc v5 v6=>by
     have e:f_ L.t (b_ L.t m) rows (a,y)=rows:=by unfold f_;rw [if_neg (by rw [hc];decide)]
     exact (hIn2 _ _ _).mpr ⟨r2,_,_,rfl,l2,by rw [ef2,e];exact bb2,by rw [ef2,e];omega⟩
    have b2:=b.less l2
    simp_all! [b2.ob]
    refine ⟨dB _ _ _ _,p,L,a.n,y.n,rfl,b2,ok.tobh,λc hc c' hc' e e' hg hg'=>?_,λz=>?_⟩
    ·have hmet:=yp ok (by rw [hks];exact ha) (by rw [hks];exact hb') (by omega) hc hc' hg hg' e e'
     rw [hmet]
     by_cases c2:y.v < a.v∧a.p < y.p
     ·rw [if_pos c2]
      have smk:=nE ok (by rw [hks];exact To ha) (by rw [hks];exact To hb') c2.1
      simp_all! [gv,rT,di]
      refine ⟨sm.mono (by decide),smk,?_⟩
      by_cases c3:m < dq L.t a y
      ·rw [if_pos c3]
       exact mQ (decide_eq_false (λz=>by have:=z.2.2;grind))
      ·rw [if_neg c3]
       have hcp:b_ L.t m (a,y)=true:=decide_eq_true ⟨c2.1,c2.2,by grind⟩
       have e:f_ L.t (b_ L.t m) rows (a,y)=i4 ⟨dq L.t a y,a.n,y.n⟩ (cX a.n y.n rows):=by unfold f_;rw [if_pos hcp];rfl
       simp_all! [bb2.o]
       refine ⟨Oq _,pb,r2,rows,dq L.t a y,a.n,y.n,rfl,bb2,srt,by omega,smk,szs,λr' hr'=>?_⟩
       have nr:r'≠pb:=by intro z;subst z;rw [bb2.o] at hr';cases hr'
       refine (hIn2 _ _ _).mpr ⟨r',_,_,rfl,oS l2 hpb hr',⟨ak,by rw [aq nr,ak,ef2,e]⟩,?_⟩
       rw [ef2,e,rM]
       have:=oJ a.n y.n rows
       omega
     ·rw [if_neg c2]
      simp_all! [gv]
      exact mQ (decide_eq_false (λz=>c2 ⟨z.1,z.2.1⟩))
    ·rcases z with z | z
     ·exact absurd (lP ok (by rw [hks];exact To ha)) z
     ·exact absurd (lP ok (by rw [hks];exact To hb')) z
   ·intro τ J2 hv
    obtain ⟨r2,u5,u6,rfl,l2,bb2,hle2⟩:=(hIn2 _ _ _).mp hv
    rw [Th,T1,← eup] at bb2 hle2
    rw [UD] at hle2
    exact (hInv _ _ _).mpr ⟨r2,_,_,_,_,rfl,l2,bb2,by omega⟩
  ·intro τ J' hv
   obtain ⟨r,u3,u4,u5,u6,rfl,l',bb,hle⟩:=(hInv _ _ _).mp hv
   rw [lG,Th,← hks,JL ok.knd] at bb
   simp_all! [bb.o]
   exact ⟨Ot _,pb,r,_,rfl,bb,q.imp (λq=>Fg.less l' q) λq l hl=>Fg.less (oT l') (q l ((l' l).elim (λe=>e.trans hl) id))⟩
theorem rL {m:Rat} (h:hE m.num m.den=true):Sc iq MM m∧0≤m:=by
 have h:=of_decide_eq_true h
 have hd:m.den≤60:=by omega
 constructor
 ·have h1:Sc m.den m.num.natAbs m:=⟨m.num,by have:=cast_eq m;rw [this];rfl,Tr _⟩
  obtain ⟨k,hk⟩:=SF m.den m.den_pos hd
  have h2:=h1.scale (E:=k)
  rw [show k * m.den=iq by rw [hk,Nat.mul_comm]] at h2
  refine h2.mono ?_
  have h3:m.num.natAbs≤1000000 * m.den:=by omega
  have h4:k * m.num.natAbs≤k * (1000000 * m.den):=Nat.mul_le_mul_left _ h3
  have h5:k * (1000000 * m.den)=1000000 * iq:=by rw [hk];rw [Nat.mul_left_comm,Nat.mul_comm k]
  unfold MM
  omega
 ·exact Rat.num_nonneg.mp h.2.2.2.1
theorem bh.N2 {L:Ln} (h:bh L) {m:Rat} (hm:L.t≤m) (hg:hE m.num m.den=true):bh { L with t:=m } :=
 ⟨h.nd,h.ne,λc hc l hl=>Rat.le_trans (h.le c hc l hl) hm,h.ck,h.len,λc hc q e=>⟨(h.gz c hc q e).1,Rat.le_trans (h.gz c hc q e).2 hm⟩,(rL hg).2,(rL hg).1,h.many,h.rm,h.rn,h.rl⟩
abbrev jM:Stmt:=(L2.inClass (top 42) 5)
abbrev iC:List Str:=["self","moment"]
theorem ma:L2.aw ["self","moment","passings"] ["self","moment"] (L2.aj jM):=d7
def GG (cN cL eM eP:Addr):cM:=λxs J Q E=>∃p L a b,xs=[.ref p,.tup [.int a,.int b]]∧ba cN cL J p L∧cq L∧(hE a b=false→E eM J)∧(∀m:Rat,m.num=a→(m.den:Int)=b→hE a b=true→(m < L.t→E eP J)∧(L.t≤m →
 (∀J' o',ba cN cL J' p { L with t:=m,o:=o',row:=cf m L.fs }→cq { L with t:=m,o:=o',row:=cf m L.fs }→Mv J J' (L.own p) (Ln.own { L with t:=m,o:=o',row:=cf m L.fs } p)→Q (.fl ((e_ L.t (L.fs.map (key L.t)) m).map aB.v)) J') ∨
 (∀J' o' l,ba cN cL J' p { L with t:=m,o:=o',row:=cf m L.fs }→cq { L with t:=m,o:=o',row:=cf m L.fs }→J' l=some (.lst ((e_ L.t (L.fs.map (key L.t)) m).map aB.v))→¬ Ln.own { L with t:=m,o:=o',row:=cf m L.fs } p l→Mv J J' (L.own p) (λa=>Ln.own { L with t:=m,o:=o',row:=cf m L.fs } p a∨a=l)→Q (.ref l) J')))
theorem ur {cN cL eM eP f:Addr} {fd:FuncData} (F:cm K "go_to" "Lane.go_to" jM f fd) (Z:bV mg) (ax:d_ K mg "Lane" cN) (az:aL K cN "now") (gf:cG P w K mg base cN 7 "foretold" jc (Cj cN cL eM eP)) (bC:cG P w K mg base cN 7 "settle" dI (jk cN cL)):aP P w K mg base (c8 P w) 8 f fd iC (dC K (GG cN cL eM eP)):=by
 simp_arith [ma,(ai (aA (i:=2) ma.nd (bp (pl:=_) gf B hr (rv 0) (af (rv 1) ah)))
   (ai (iK ax.cl az (rv 0) (rv 1))
   (ai (aX (cj (pl:=_) bC B hr (rv 0)))
   (ar (ay (rv 2))))))]
 ·obtain ⟨p,L,a,b,rfl,_⟩:=h;rfl
 obtain ⟨p,L,a,bb,rfl,b,ok,qe,q⟩:=h
 have bo:=b.ob
 refine hX ?_
 simp_all! [bo]
 refine ⟨dB _ _ _ _,p,L,a,bb,rfl,b,ok,qe,λm h1 h2 hg=>⟨(q m h1 h2 hg).1,λhm=>?_⟩⟩
 have q:=(q m h1 h2 hg).2 hm
 have ef:PV.tup [.int a,.int bb]=fr m:=by rw [← h1,← h2];rfl
 have hgm:hE m.num m.den=true:=by rw [h1,h2];exact hg
 have ok1:=ok.tobh.N2 hm hgm
 have step:∀{Jx:Hq},ba cN cL Jx p L→ba cN cL (put Jx p (.ins cN [("now",fr m),("logs",.ref L.d),("row",.ref L.o)])) p { L with t:=m }∧Mv Jx (put Jx p (.ins cN [("now",fr m),("logs",.ref L.d),("row",.ref L.o)])) (L.own p) (L.own p):=λ{Jx} b =>
  ⟨⟨ak,by show put Jx p _ L.d=_;rw [aq b.Ig];exact b.dc,by show put Jx p _ L.o=_;rw [aq b.Ii];exact b.rw,λc hc=>⟨by rw [aq (b.Qe hc)];exact (b.lg c hc).o,by rw [aq (b.Nr hc)];exact (b.lg c hc).l⟩,b.ap,b.ao⟩,gJ (.inl rfl) λa h=>.inl h⟩
 rcases q with q | q
 ·refine .inl ?_
  simp_all! [bo,ef]
  refine ⟨by show (3:Nat) < 1000;decide,?_⟩
  obtain ⟨b1,mv1⟩:=step b
  generalize put J p (.ins cN [("now",fr m),("logs",.ref L.d),("row",.ref L.o)])=J1 at b1 mv1 ⊢
  simp_all! [b1.ob]
  refine ⟨dB _ _ _ _,p,{ L with t:=m },rfl,b1,ok1,λJ2 o' b2 mv2=>?_⟩
  simp_all! []
  exact q J2 o' b2 (cq.settled ok1 o') (mv1.trans mv2)
 ·refine .inr λl hl=>?_
  have b0:ba cN cL (put J l (.lst ((e_ L.t (L.fs.map (key L.t)) m).map aB.v))) p L:=b.fresh hl
  have hll:put J l (.lst ((e_ L.t (L.fs.map (key L.t)) m).map aB.v)) l=some (.lst ((e_ L.t (L.fs.map (key L.t)) m).map aB.v)):=ak
  have nl:¬ L.own p l:=λz=>b.some z hl
  have mv0:Mv J (put J l (.lst ((e_ L.t (L.fs.map (key L.t)) m).map aB.v))) (L.own p) (λa=>L.own p a∨a=l):=Mv.yr hl
  generalize put J l (.lst ((e_ L.t (L.fs.map (key L.t)) m).map aB.v))=J0 at b0 hll mv0 ⊢
  simp_all! [b0.ob,ef]
  refine ⟨by show (3:Nat) < 1000;decide,?_⟩
  obtain ⟨b1,mv1⟩:=step b0
  generalize put J0 p (.ins cN [("now",fr m),("logs",.ref L.d),("row",.ref L.o)])=J1 at b1 mv1 ⊢
  simp_all! [b1.ob]
  refine ⟨dB _ _ _ _,p,{ L with t:=m },rfl,b1,ok1,λJ2 o' b2 mv2=>?_⟩
  have mv:=mv1.trans mv2
  simp_all! []
  have hl2:=mv.keep _ _ hll nl
  refine q J2 o' l b2 (cq.settled ok1 o') hl2 (λz=>?_) ⟨λa o e n=>mv.keep a o (mv0.keep a o e n) λz=>n z,λa z=>?_,λa z=>mv0.mono a (mv.mono a z)⟩
  ·rcases mv.own _ z with z | z
   ·exact nl z
   ·rw [hll] at z;cases z
  ·rcases z with z | z
   ·rcases mv.own _ z with z | z
    ·exact .inl z
    ·exact .inr (mv0.mono a z)
   ·subst z;exact .inr hl
abbrev jK:Stmt:=(L2.inClass (top 42) 9)
abbrev iB:List Str:=["self"]
theorem eA:L2.aw ["self","ringing","hind","fore","met"] ["self"] (L2.aj jK):=d7
def sX (cN cL:Addr):cM:=λxs J Q E=>∃p L,xs=[.ref p]∧ba cN cL J p L∧cq L∧(Q (.fl ((eS L.t (L.fs.map (key L.t))).map aB.v)) J∨∀l,J l=none→Q (.ref l) (put J l (.lst ((eS L.t (L.fs.map (key L.t))).map aB.v))))
theorem uo {cN cL cB eC f:Addr} {fd:FuncData} (F:cm K "bells" "Lane.bells" jK f fd) (Z:bV mg) (ax:d_ K mg "Lane" cN) (aI:aL K cN "row") (lB:zE P w K mg base cB 1 "Bells" fi (xt cB)) (dT:cG P w K mg base cN 6 "meets" iD (sY cN cL eC)) (e8:cG P w K mg base cB 3 "put" jF (AW cB)) (dR:cG P w K mg base cB 1 "told" iz (xu cB)):aP P w K mg base (c8 P w) 7 f fd iB (dC K (sX cN cL)):=by
 simp_arith [eA,(ai (aA (i:=1) eA.nd (sC lB B hr))
   (ai (dw bQ rfl (MN rfl Z.zip (af (aY ax.cl aI (rv 0)) (af (kY KR (aY ax.cl aI (rv 0)) (n6 ag) n4) ah))) (sE (n:=2) rfl (c5 (bz (i:=2) eA.nd) (c5 (bz (i:=3) eA.nd) nZ))) (ai (aA (i:=4) eA.nd (bp (pl:=_) dT B hr (rv 0) (af (rv 2) (af (rv 3) ah))))
   (ar (aT (aE se (rv 4) mD) (ar (aX (bp (pl:=_) e8 B hr (rv 1) (af (rv 4) (af (rv 2) (af (rv 3) ah)))))) aF))))
   (ar (ay (cj (pl:=_) dR B hr (rv 1)))))),F]
 ·obtain ⟨p,L,rfl,_⟩:=h;rfl
 obtain ⟨p,L,rfl,b,ok,q⟩:=h
 refine hX ?_
 simp_all! []
 intro pb hpb
 refine ⟨pb,rfl,ak,λr0 hr0=>⟨rfl,?_⟩⟩
 have l0:=u_ (y:=.lst []) (z:=.ins cB [("rows",.ref r0)]) hpb hr0
 have nr0:r0≠pb:=by intro e;subst e;rw [ak] at hr0;cases hr0
 have b0:Hb cB (put (put (put J pb (.ins cB [])) r0 (.lst [])) pb (.ins cB [("rows",.ref r0)])) pb r0 []:=⟨ak,by rw [aq nr0];exact ak⟩
 generalize put (put (put J pb (.ins cB [])) r0 (.lst [])) pb (.ins cB [("rows",.ref r0)])=J0 at l0 b0 ⊢
 obtain ⟨ks,hks⟩:∃ks,cK (L.fs.map (key L.t))=ks:=⟨_,rfl⟩
 have hrow:L.row.map PV.str=ks.map λk=>PV.str k.n:=by rw [← hks];exact ok.keys
 have hkl:ks.length≤12:=by rw [← hks];exact ok.N_
 have hct:oH (ks.map λk=>PV.str k.n) (some 1) none=ks.tail.map λk=>PV.str k.n:=by
  cases ks with
  | nil=>rfl
  | cons x ks=>exact x6 (((x :: ks).map λk=>PV.str k.n)) 1 (by simp)
 have hup:∀{ps:List (Ky × Ky)},(∀p∈ps,p.1∈ks∧p.2∈ks)→∀x∈bA L.t cU ps,Sz 9000 x.m:=λhp x hx=>by
  obtain ⟨p,hp',hc,rfl⟩:=gB _ hx
  exact nE ok (by rw [hks];exact (hp p hp').1) (by rw [hks];exact (hp p hp').2) (of_decide_eq_true hc)
 simp_all! [SE,(b.less l0).ob,(b.less l0).rw,uh,hrow,hct]
 have ez:((ks.map λk=>PV.str k.n).zip (ks.tail.map λk=>PV.str k.n)).map (λp=>PV.tup [p.1,p.2])=(ks.zip ks.tail).map λp=>PV.tup [.str p.1.n,.str p.2.n]:=by rw [List.zip_map,Tw];rfl
 rw [ez]
 generalize hps:ks.zip ks.tail=ps
 have hpl:ps.length≤12:=by rw [← hps,UY];omega
 have hpm:∀x∈ps,x.1∈ks∧x.2∈ks:=λx hx=>by
  rw [← hps] at hx
  obtain ⟨i,h3,h4⟩:=dj.mp (show (x.1,x.2)∈_ from hx)
  exact ⟨To h3,To h4⟩
 obtain ⟨Inv,hInv⟩:∃Inv:Nat→Sr→Hq→Prop,∀i τ J',Inv i τ J'↔∃(r:Addr) (u2 u3 u4:Option PV),τ=[some (.ref p),some (.ref pb),u2,u3,u4]∧m3 J J'∧Hb cB J' pb r (bA L.t cU (ps.take i)):=⟨_,λ_ _ _=>Iff.rfl⟩
 refine eV Inv ((hInv _ _ _).mpr ⟨r0,_,_,_,rfl,l0,b0⟩) (λi τ J' h=>?_) ?_ ?_
 ·obtain ⟨r,_,_,_,_,l',_⟩:=(hInv _ _ _).mp h
  rw [(b.less l').rw,hrow]
 ·intro i x τ J' hx hv
  obtain ⟨r,u2,u3,u4,rfl,l',bb⟩:=(hInv _ _ _).mp hv
  clear hv
  have hi:i < ps.length:=by have:=(Tj.mp hx).1;rw [Th] at this;exact this
  have hpi:ps[i]?=some ps[i]:=Tn hi
  rw [Tq,hpi] at hx
  cases hx
  have et:ps.take (i + 1)=ps.take i ++ [ps[i]]:=by rw [TR,hpi];rfl
  have szs:=hup (ps:=ps.take i) (λp hp=>hpm p (T8 hp))
  have srt:=fF L.t cU (ps.take i)
  have hle:=lI L.t cU (ps.take i)
  rw [TX] at hle
  rcases hab:ps[i] with ⟨a,y⟩
  rw [hab] at hpi et
  have ef2:bA L.t cU (ps.take (i + 1))=f_ L.t cU (bA L.t cU (ps.take i)) (a,y):=by rw [et];exact dG _ _ _ _
  generalize bA L.t cU (ps.take i)=rows at bb szs srt hle ef2
  rw [← hps] at hpi
  obtain ⟨ha,hb⟩:=Ua.mp hpi
  rw [U1] at hb
  simp only at ha hb
  have b2:=b.less l'
  simp_all! [b2.ob]
  refine ⟨dB _ _ _ _,p,L,a.n,y.n,rfl,b2,ok.tobh,λc hc c' hc' e e' hg hg'=>?_,λz=>?_⟩
  ·have hmet:=yp ok (by rw [hks];exact ha) (by rw [hks];exact hb) (by omega) hc hc' hg hg' e e'
   rw [hmet]
   by_cases c2:y.v < a.v
   ·have c3:=Jh ok (by rw [hks];exact ha) (by rw [hks];exact hb) (by omega) c2
    rw [if_pos ⟨c2,c3⟩]
    have smk:=nE ok (by rw [hks];exact To ha) (by rw [hks];exact To hb) c2
    have hcp:cU (a,y)=true:=decide_eq_true c2
    have e:f_ L.t cU rows (a,y)=i4 ⟨dq L.t a y,a.n,y.n⟩ (cX a.n y.n rows):=by unfold f_;rw [if_pos hcp];rfl
    simp_all! [gv,rT,bb.o]
    refine ⟨Oq _,pb,r,rows,dq L.t a y,a.n,y.n,rfl,bb,srt,by omega,smk,szs,λr' hr'=>?_⟩
    have nr:r'≠pb:=by intro z;subst z;rw [bb.o] at hr';cases hr'
    exact (hInv _ _ _).mpr ⟨r',_,_,_,rfl,oS l' hpb hr',⟨ak,by rw [aq nr,ak,ef2,e]⟩⟩
   ·rw [if_neg (λz=>c2 z.1)]
    have e:f_ L.t cU rows (a,y)=rows:=by
     have hcf:cU (a,y)=false:=decide_eq_false c2
     unfold f_;rw [if_neg (by rw [hcf];decide)]
    simp_all! [gv]
    exact (hInv _ _ _).mpr ⟨r,_,_,_,rfl,l',by rw [ef2,e];exact bb⟩
  ·rcases z with z | z
   ·exact absurd (lP ok (by rw [hks];exact To ha)) z
   ·exact absurd (lP ok (by rw [hks];exact To hb)) z
 ·intro τ J' hv
  obtain ⟨r,u2,u3,u4,rfl,l',bb⟩:=(hInv _ _ _).mp hv
  rw [Th,T1,← hps,← hks,tH ok.knd] at bb
  simp_all! [bb.o]
  exact ⟨Ot _,pb,r,_,rfl,bb,q.imp (λq=>Fg.less l' q) λq l hl=>Fg.less (oT l') (q l ((l' l).elim (λe=>e.trans hl) id))⟩
def Cf.turn (c:Cf) (t:Rat) (v:Int):Cf:={ c with w:=turned c.w t v }
def c9 (n:Str) (t:Rat) (v:Int) (c:Cf):Cf:=if c.n=n then c.turn t v else c
theorem gA (n:Str) (t:Rat) (v:Int) (c:Cf):(c9 n t v c).n=c.n∧(c9 n t v c).a=c.a∧(c9 n t v c).r=c.r∧(c9 n t v c).g=c.g:=by unfold c9;split <;> exact ⟨rfl,rfl,rfl,rfl⟩
theorem dn {α β:Type} {f:α→β} {g:α→α} (h:∀x,f (g x)=f x) (l:List α):(l.map g).map f=l.map f:=by rw [Tw];exact TL λx _=>h x
theorem bh.map {L:Ln} (h:bh L) {f:Cf→Cf} (hn:∀c,(f c).n=c.n∧(f c).a=c.a∧(f c).r=c.r∧(f c).g=c.g) (hw:∀c∈L.cs,(f c).w≠[]∧(∀l∈(f c).w,l.m≤L.t∧tM l)∧(f c).w.length≤200):bh { L with cs:=L.cs.map f }:=by
 have mem:∀c∈L.cs.map f,∃c0∈L.cs,f c0=c:=λc hc=>by obtain ⟨c0,h0,e⟩:=Ti.mp hc;exact ⟨c0,h0,e⟩
 have hfs:(Ln.fs { L with cs:=L.cs.map f }).map (·.1)=L.fs.map (·.1):=by
  rw [f9,f9]
  unfold Ln.DQ
  show ((L.cs.map f).filter _).map Cf.n=_
  rw [Uk,Tw]
  have e1:(λc:Cf=>c.g.isNone) ∘ f=λc=>c.g.isNone:=by funext c;show (f c).g.isNone=_;rw [(hn c).2.2.2]
  rw [e1]
  exact TL λc _=>(hn c).1
 refine ⟨?_,?_,?_,?_,?_,?_,h.t0,h.ts,by show (L.cs.map f).length≤100;rw [Th];exact h.many,λn=>by rw [hfs];exact h.rm n,h.rn,h.rl⟩
 ·show ((L.cs.map f).map Cf.n).Nodup
  rw [dn (λc=>(hn c).1)];exact h.nd
 ·intro c hc;obtain ⟨c0,h0,rfl⟩:=mem c hc;exact (hw c0 h0).1
 ·intro c hc l hl;obtain ⟨c0,h0,rfl⟩:=mem c hc;exact ((hw c0 h0).2.1 l hl).1
 ·intro c hc l hl;obtain ⟨c0,h0,rfl⟩:=mem c hc;exact ((hw c0 h0).2.1 l hl).2
 ·intro c hc;obtain ⟨c0,h0,rfl⟩:=mem c hc;exact (hw c0 h0).2.2
 ·intro c hc q e;obtain ⟨c0,h0,rfl⟩:=mem c hc;exact h.gz c0 h0 q (by rw [← (hn c0).2.2.2];exact e)
theorem bh.JZ {L:Ln} (h:bh L) {c:Cf} (hc:c∈L.cs):c.w≠[]∧(∀l∈c.w,l.m≤L.t∧tM l)∧c.w.length≤200:=⟨h.ne c hc,λl hl=>⟨h.le c hc l hl,h.ck c hc l hl⟩,h.len c hc⟩
theorem bh.K1 {L:Ln} (h:bh L) {c:Cf} (hc:c∈L.cs) (hl:c.w.length < 200) {v:Int} (hv:v.natAbs≤1000):(c.turn L.t v).w≠[]∧(∀l∈(c.turn L.t v).w,l.m≤L.t∧tM l)∧(c.turn L.t v).w.length≤200:=by
 refine ⟨vt (h.ne c hc),λl hl'=>?_,?_⟩
 ·rcases A7 hl' with k | ⟨l0,k,rfl⟩
  ·exact ⟨h.le c hc l k,h.ck c hc l k⟩
  ·exact ⟨Rat.le_refl,(h.ck c hc l0 k).at (h.le c hc l0 k) h.ts hv⟩
 ·have:=mS c.w L.t v
  show (turned c.w L.t v).length≤200
  omega
theorem ba.turn {cN cL:Addr} {J:Hq} {p:Addr} {L:Ln} (h:ba cN cL J p L) (ok:bh L) {c:Cf} (hc:c∈L.cs) {t:Rat} {v:Int}:ba cN cL (put J c.r (.lst ((turned c.w t v).map aQ.V))) p { L with cs:=L.cs.map (c9 c.n t v) }:=by
 have hcs:=gA c.n t v
 refine ⟨by rw [aq (Ne.symm (h.Nr hc))];exact h.ob,?_,?_,λx hx=>?_,?_,λx hx=>?_⟩
 ·show put J c.r _ L.d=_
  rw [aq (Ne.symm (h.SI hc)),h.dc]
  show _=Uh (HQ.dct ((L.cs.map (c9 c.n t v)).map λc=>(c.n,PV.ref c.a)) L.e)
  rw [dn (f:=λc:Cf=>(c.n,PV.ref c.a)) (λx=>by rw [(hcs x).1,(hcs x).2.1])]
 ·show put J c.r _ L.o=_
  rw [aq (Ne.symm (h.ao c hc))];exact h.rw
 ·obtain ⟨x0,h0,rfl⟩:=Ti.mp hx
  have hl:=h.lg x0 h0
  refine ⟨?_,?_⟩
  ·rw [(hcs x0).2.1,(hcs x0).2.2.1,(hcs x0).2.2.2,aq (h.S9 h0 hc)];exact hl.o
  ·rw [(hcs x0).2.2.1]
   by_cases e:x0.n=c.n
   ·have:x0=c:=ok.uniq h0 hc e
    subst this
    rw [ak]
    unfold c9;rw [if_pos rfl];rfl
   ·have hr:x0.r≠c.r:=λz=>e (by
     obtain ⟨i,hi,rfl⟩:=T_ h0
     obtain ⟨j,hj,rfl⟩:=T_ hc
     have:=(Um (xs:=L.cs.map Cf.r) (i:=i) (j:=j) (h₀:=by simpa using hi) (h₁:=by simpa using hj) h.ap).mp (by rw [Uo,Uo];exact z)
     subst this;rfl)
    rw [aq hr]
    unfold c9;rw [if_neg e];exact hl.l
 ·show ((L.cs.map (c9 c.n t v)).map Cf.r).Nodup
  rw [dn (λx=>(hcs x).2.2.1)];exact h.ap
 ·obtain ⟨x0,h0,rfl⟩:=Ti.mp hx
  rw [(hcs x0).2.2.1];exact h.ao x0 h0
theorem wB {L:Ln} {p:Addr} {f:Cf→Cf} (hn:∀c,(f c).n=c.n∧(f c).a=c.a∧(f c).r=c.r∧(f c).g=c.g) (a:Addr):Ln.own { L with cs:=L.cs.map f } p a↔L.own p a:=by
 unfold Ln.own
 constructor
 ·rintro (h | h | h | ⟨c,hc,h⟩)
  ·exact .inl h
  ·exact .inr (.inl h)
  ·exact .inr (.inr (.inl h))
  ·obtain ⟨c0,h0,rfl⟩:=Ti.mp hc
   rw [(hn c0).2.1,(hn c0).2.2.1] at h
   exact .inr (.inr (.inr ⟨c0,h0,h⟩))
 ·rintro (h | h | h | ⟨c,hc,h⟩)
  ·exact .inl h
  ·exact .inr (.inl h)
  ·exact .inr (.inr (.inl h))
  ·exact .inr (.inr (.inr ⟨f c,Ti.mpr ⟨c,hc,rfl⟩,by rw [(hn c).2.1,(hn c).2.2.1];exact h⟩))
abbrev k9:Stmt:=(L2.inClass (top 42) 3)
abbrev nL:List Str:=["self","name","pace"]
theorem xi:L2.aw ["self","name","pace"] ["self","name","pace"] (L2.aj k9):=d7
def Co (cN cL eC eF:Addr):cM:=λxs J Q E=>∃p L n v,xs=[.ref p,.str n,.int v]∧ba cN cL J p L∧cq L∧(∀c∈L.cs,c.w.length < 200)∧(n ∉ L.row→E eC J)∧(n∈L.row→¬ v.natAbs≤1000→E eF J)∧(n∈L.row→v.natAbs≤1000→∀J' L',ba cN cL J' p L'→cq L'→L'.cs=L.cs.map (c9 n L.t v)→L'.t=L.t→Mv J J' (L.own p) (L'.own p)→Q .non J')
theorem wm {cN cL eC eF f:Addr} {fd:FuncData} (F:cm K "turn" "Lane.turn" k9 f fd) (Z:bV mg) (ax:d_ K mg "Lane" cN) (aH:aL K cN "logs") (az:aL K cN "now") {gE:Tok} (eZ:mg "FASTEST"=some (.int 1000 gE)) (f6:Own K mg "TooFar" eF) (bc:cG P w K mg base cN 1 "must_be_there" cF (qP cN cL eC)) (fG:cG P w K mg base cL 5 "turn" kL (xw cL)) (bC:cG P w K mg base cN 7 "settle" dI (jk cN cL)):aP P w K mg base (c8 P w) 8 f fd nL (dC K (Co cN cL eC eF)):=by
 simp_arith [xi,(ai (aX (bp (pl:=_) bc B hr (rv 0) (af (rv 1) ah)))
   (ai (aT (aE kG (aJ zN rfl Z.abs boot_abs (af (rv 2) ah)) (fW (v:=.int 1000) (.int 1000) rfl eZ ⟨_,rfl⟩ (λ_ _=>rfl))) (ar (dP f6 rfl cy B.kn rfl (af bF ah))) aF)
   (ai (aX (bp (pl:=_) fG B hr (au bY (aY ax.cl aH (rv 0)) (rv 1)) (af (aY ax.cl az (rv 0)) (af (rv 2) ah))))
   (ar (aX (cj (pl:=_) bC B hr (rv 0)))))))]
 ·obtain ⟨p,L,n,v,rfl,_⟩:=h;rfl
 obtain ⟨p,L,n,v,rfl,b,ok,hlen,qc,qf,q⟩:=h
 have bo:=b.ob
 have bd:=b.dc
 refine hX ?_
 simp_all! [bo]
 refine ⟨dB _ _ _ _,p,L,n,rfl,b,λhn=>?_,qc⟩
 simp_all! []
 have habs:(1000 < if v < 0 then -v else v)↔¬ v.natAbs≤1000:=by split <;> omega
 by_cases hv:v.natAbs≤1000
 ·rw [if_neg (λz=>habs.mp z hv)]
  obtain ⟨c,hc,rfl,hg⟩:=ok.found hn
  have lo:=(b.lg c hc).o
  have ok1:bh { L with cs:=L.cs.map (c9 c.n L.t v) }:=ok.tobh.map (gA c.n L.t v) λx hx=>by
   unfold c9
   split
   ·exact ok.tobh.K1 hx (hlen x hx) hv
   ·exact ok.tobh.JZ hx
  have b1:=b.turn ok.tobh hc (t:=L.t) (v:=v)
  have mv1:Mv J (put J c.r (.lst ((turned c.w L.t v).map aQ.V))) (L.own p) (Ln.own { L with cs:=L.cs.map (c9 c.n L.t v) } p):=gJ (.inr (.inr (.inr ⟨c,hc,.inr rfl⟩))) λa h=>.inl ((wB (gA c.n L.t v) a).mp h)
  simp_all! [bo,rX,rY,bd,ok.va hc,lo]
  refine ⟨Ou _ _,c.a,c.r,c.w,c.g,L.t,v,rfl,b.lg c hc,ok.ne c hc,TK (ok.len c hc) (by decide),ok.JH,λl hl=>(ok.ck c hc l hl).D9,?_⟩
  generalize put J c.r (.lst ((turned c.w L.t v).map aQ.V))=J1 at b1 mv1 ⊢
  simp_all! [b1.ob]
  refine ⟨dB _ _ _ _,p,_,rfl,b1,ok1,λJ2 o' b2 mv2=>?_⟩
  exact q hn hv J2 _ b2 (cq.settled ok1 o') rfl rfl (mv1.trans mv2)
 ·rw [if_pos (habs.mpr hv)]
  simp_all! [fo]
  exact qf hn hv
def eQ (t:Rat) (c:Cf):Cf:=if c.g.isNone=true then c.turn t (-c.cur.v) else c
def bj (t:Rat) (row:List Str) (c:Cf):Cf:=if c.n∈row then c.turn t (-c.cur.v) else c
theorem iX (t:Rat) (row:List Str) (c:Cf):(bj t row c).n=c.n∧(bj t row c).a=c.a∧(bj t row c).r=c.r∧(bj t row c).g=c.g:=by unfold bj;split <;> exact ⟨rfl,rfl,rfl,rfl⟩
theorem iY {L:Ln} (ok:bh L):L.cs.map (bj L.t L.row)=L.cs.map (eQ L.t):=by
 refine TL λc hc=>?_
 have h:c.n∈L.row↔c.g.isNone=true:=by
  rw [ok.rm,f9,Ti]
  constructor
  ·rintro ⟨c',hc',e⟩
   have h':=Ln.dW.mp hc'
   rw [ok.uniq h'.1 hc e] at h'
   rw [h'.2];rfl
  ·intro e
   exact ⟨c,Ln.dW.mpr ⟨hc,by cases hg:c.g with | none=>rfl | some q=>rw [hg] at e;cases e⟩,rfl⟩
 unfold bj eQ
 by_cases e:c.n∈L.row
 ·rw [if_pos e,if_pos (h.mp e)]
 ·rw [if_neg e,if_neg (λz=>e (h.mpr z))]
theorem bh.bj {L:Ln} (ok:bh L) (hlen:∀c∈L.cs,c.w.length < 200) (row:List Str):bh { L with cs:=L.cs.map (bj L.t row) }:=ok.map (iX L.t row) λx hx=>by
 unfold Ov.bj
 split
 ·exact ok.K1 hx (hlen x hx) (by have:=(ok.ck x hx _ (Cf.jx (ok.ne x hx)).2).v;omega)
 ·exact ok.JZ hx
abbrev jJ:Stmt:=(L2.inClass (top 42) 4)
abbrev l5:List Str:=["self"]
theorem iT:L2.aw ["self","name","pace"] ["self"] (L2.aj jJ):=d7
def y8 (cN cL:Addr):cM:=λxs J Q E=>∃p L,xs=[.ref p]∧ba cN cL J p L∧cq L∧(∀c∈L.cs,c.w.length < 200)∧(∀J' L',ba cN cL J' p L'→cq L'→L'.cs=L.cs.map (eQ L.t)→L'.t=L.t→Mv J J' (L.own p) (L'.own p)→Q .non J')
theorem um {cN cL eC f:Addr} {fd:FuncData} (F:cm K "about" "Lane.about" jJ f fd) (Z:bV mg) (ax:d_ K mg "Lane" cN) (aI:aL K cN "row") (aH:aL K cN "logs") (az:aL K cN "now") (bR:cG P w K mg base cN 4 "leg_of" fj (oj cN cL eC)) (fG:cG P w K mg base cL 5 "turn" kL (xw cL)) (bC:cG P w K mg base cN 7 "settle" dI (jk cN cL)):aP P w K mg base (c8 P w) 8 f fd l5 (dC K (y8 cN cL)):=by
 simp_arith [iT,(ai (dw bQ rfl (gx (aY ax.cl aI (rv 0))) (bz (i:=1) iT.nd) (ai (aA (i:=2) iT.nd (au av (bp (pl:=_) bR B hr (rv 0) (af (rv 1) ah)) ag))
   (ar (aX (bp (pl:=_) fG B hr (au bY (aY ax.cl aH (rv 0)) (rv 1)) (af (aY ax.cl az (rv 0)) (af (pZ ly (rv 2)) ah)))))))
   (ar (aX (cj (pl:=_) bC B hr (rv 0)))))]
 ·obtain ⟨p,L,rfl,_⟩:=h;rfl
 obtain ⟨p,L,rfl,b,ok,hlen,q⟩:=h
 refine hX ?_
 simp_all! [b.ob,b.rw,uh]
 have hid:L.cs.map (bj L.t (L.row.take 0))=L.cs:=by
  have:∀c∈L.cs,bj L.t (L.row.take 0) c=c:=λc _=>by unfold bj;rw [if_neg (by simp)]
  rw [TL this,Ve]
 obtain ⟨Inv,hInv⟩:∃Inv:Nat→Sr→Hq→Prop,∀i τ J',Inv i τ J'↔∃(u1 u2:Option PV),τ=[some (.ref p),u1,u2]∧ba cN cL J' p { L with cs:=L.cs.map (bj L.t (L.row.take i)) }∧Mv J J' (L.own p) (L.own p):=⟨_,λ_ _ _=>Iff.rfl⟩
 refine eV Inv ((hInv _ _ _).mpr ⟨_,_,rfl,by rw [hid];exact b,Mv.refl _ _⟩) (λi τ J' h=>?_) ?_ ?_
 ·obtain ⟨_,_,_,b',_⟩:=(hInv _ _ _).mp h
  have:=b'.rw
  simp only at this
  rw [this]
 ·intro i x τ J' hx hv
  obtain ⟨u1,u2,rfl,b',mv'⟩:=(hInv _ _ _).mp hv
  clear hv
  have hi:i < L.row.length:=by have:=(Tj.mp hx).1;simpa using this
  have hget:L.row[i]?=some L.row[i]:=Tn hi
  rw [Tq,hget] at hx
  cases hx
  have hn:L.row[i]∈L.row:=TY hi
  have et:L.row.take (i + 1)=L.row.take i ++ [L.row[i]]:=by rw [TR,hget];rfl
  have hnd:(L.row.take (i + 1)).Nodup:=ok.rn.sublist (Up _ _)
  rw [et] at hnd
  have hnew:=(fI hnd).2
  generalize L.row[i]=n at hn et hnew ⊢
  obtain ⟨c,hc,rfl,hg⟩:=ok.found hn
  have oki:=ok.tobh.bj hlen (L.row.take i)
  have ecc:bj L.t (L.row.take i) c=c:=by unfold bj;rw [if_neg hnew]
  have hci:c∈L.cs.map (bj L.t (L.row.take i)):=Ti.mpr ⟨c,hc,ecc⟩
  simp_all! [b'.ob]
  refine ⟨dB _ _ _ _,p,_,c.n,rfl,b',oki,λc' hc' e' hg'=>?_,λz=>absurd hn z⟩
  have ec':c'=c:=oki.uniq hc' hci e'
  subst ec'
  have hcv:=(ok.ck c' hc _ (Cf.jx (ok.ne c' hc)).2).v
  have lo:=(b'.lg c' hci).o
  have bo':=b'.ob
  have bd':=b'.dc
  simp only at bo' bd'
  simp_all! [hZ,bo',rX,rY,bd',lo]
  have hva:=oki.va hci
  simp only at hva
  simp_all! [hva,lo,bo',rX]
  refine ⟨Ou _ _,c'.a,c'.r,c'.w,c'.g,L.t,-c'.cur.v,rfl,b'.lg c' hci,ok.ne c' hc,TK (ok.len c' hc) (by decide),ok.JH,λl hl=>(ok.ck c' hc l hl).D9,?_⟩
  have b1:=b'.turn oki hci (t:=L.t) (v:=-c'.cur.v)
  have em:(L.cs.map (bj L.t (L.row.take i))).map (c9 c'.n L.t (-c'.cur.v))=L.cs.map (bj L.t (L.row.take (i + 1))):=by
   rw [Tw]
   refine TL λx hx=>?_
   show c9 c'.n L.t (-c'.cur.v) (bj L.t (L.row.take i) x)=_
   by_cases e:x.n=c'.n
   ·have:x=c':=ok.uniq hx hc e
    subst this
    rw [ecc]
    unfold c9 Ov.bj
    rw [if_pos rfl,if_pos (by rw [et];simp)]
   ·unfold c9
    rw [if_neg (by rw [(iX L.t (L.row.take i) x).1];exact e)]
    unfold Ov.bj
    rw [et]
    by_cases e2:x.n∈L.row.take i
    ·rw [if_pos e2,if_pos (Tv.mpr (.inl e2))]
    ·rw [if_neg e2,if_neg (λz=>by
      rcases Tv.mp z with z | z
      ·exact e2 z
      ·exact e (by simpa using z))]
  simp only [em] at b1
  refine (hInv _ _ _).mpr ⟨_,_,rfl,b1,mv'.trans (gJ (.inr (.inr (.inr ⟨c',hc,.inr rfl⟩))) λa h=>.inl h)⟩
 ·intro τ J' hv
  obtain ⟨u1,u2,rfl,b',mv'⟩:=(hInv _ _ _).mp hv
  rw [Th,T1,iY ok.tobh] at b'
  have oki:bh { L with cs:=L.cs.map (eQ L.t) }:=by rw [← iY ok.tobh];exact ok.tobh.bj hlen L.row
  simp_all! [b'.ob]
  refine ⟨dB _ _ _ _,p,_,rfl,b',oki,λJ2 o' b2 mv2=>?_⟩
  refine q J2 _ b2 (cq.settled oki o') rfl rfl (mv'.trans ⟨λa o e n=>mv2.keep a o e λz=>n ?_,λa h=>?_,mv2.mono⟩)
  ·rw [← iY ok.tobh] at z;exact (wB (iX L.t L.row) a).mp z
  ·rcases mv2.own a h with h' | h'
   ·rw [← iY ok.tobh] at h';exact .inl ((wB (iX L.t L.row) a).mp h')
   ·exact .inr h'
def bK (n:Str) (t:Rat) (c:Cf):Cf:=if c.n=n then { c with g:=some t } else c
theorem dH (n:Str) (t:Rat) (c:Cf):(bK n t c).n=c.n∧(bK n t c).a=c.a∧(bK n t c).r=c.r∧(bK n t c).w=c.w:=by unfold bK;split <;> exact ⟨rfl,rfl,rfl,rfl⟩
theorem yh {L L':Ln} {n:Str} {t:Rat} (e:L'.cs=L.cs.map (bK n t)):L'.fs=L.fs.filter λx=>decide (x.1≠n):=by
 unfold Ln.fs Ln.DQ
 rw [e,Uk,Tw,Uk,List.filter_filter]
 have e1:(λc:Cf=>c.g.isNone) ∘ bK n t=λc=>((λx:Str × aQ=>decide (x.1≠n)) ∘ λc:Cf=>(c.n,c.cur)) c && c.g.isNone:=by
  funext c
  show (bK n t c).g.isNone=(decide (c.n≠n) && c.g.isNone)
  unfold bK
  by_cases z:c.n=n
  ·rw [if_pos z];simp [z]
  ·rw [if_neg z];simp [z]
 rw [e1]
 refine TL λc hc=>?_
 show ((bK n t c).n,(bK n t c).cur)=_
 unfold Cf.cur
 rw [(dH n t c).1,(dH n t c).2.2.2]
theorem yG {ks:List Ky} (h:(ks.map Ky.n).Nodup) (f:Ky→Bool):cK (ks.filter f)=(cK ks).filter f:=by
 have hs:((ks.filter f).map Ky.n).Nodup:=h.sublist (List.Sublist.map _ Vb)
 refine om (lt:=Ky.lt) Ky.G_ Ky.tr (cZ hs) ((cZ h).filter _) λx=>?_
 rw [bB,TB,TB,bB]
theorem yI {t:Rat} {fs:List (Str × aQ)} (h:(fs.map (·.1)).Nodup) (n:Str):cf t (fs.filter λx=>decide (x.1≠n))=(cf t fs).filter λx=>decide (x≠n):=by
 unfold cf
 have e:(fs.filter λx=>decide (x.1≠n)).map (key t)=(fs.map (key t)).filter λk=>decide (k.n≠n):=by rw [Uk];rfl
 rw [e,yG (by rw [cO];exact h),Uk]
 rfl
theorem erase_filter {l:List Str} (h:l.Nodup) {j:Nat} {n:Str} (hj:l[j]?=some n):l.eraseIdx j=l.filter λx=>decide (x≠n):=by
 obtain ⟨hl,e⟩:=Tj.mp hj
 rw [List.eraseIdx_eq_take_drop_succ]
 have hd:l=l.take j ++ n :: l.drop (j + 1):=by rw [← e,← UM hl,U7]
 have hn:=h
 rw [hd,Uq] at hn
 have k1:∀x∈l.take j,x≠n:=λx hx=>hn.2.2 x hx n (by simp)
 have k2:∀x∈l.drop (j + 1),x≠n:=λx hx z=>(UB.mp hn.2.1).1 (by rw [← z];exact hx)
 conv=>rhs;rw [hd]
 rw [UW,T5,if_neg (by simp),Ui.mpr λx hx=>decide_eq_true (k1 x hx),Ui.mpr λx hx=>decide_eq_true (k2 x hx)]
theorem cq.leave {L:Ln} (ok:cq L) (n:Str):cq { L with cs:=L.cs.map (bK n L.t),row:=L.row.filter λx=>decide (x≠n) }:=by
 have hfs:Ln.fs { L with cs:=L.cs.map (bK n L.t),row:=L.row.filter λx=>decide (x≠n) }=L.fs.filter λx=>decide (x.1≠n):=yh (L:=L) (t:=L.t) rfl
 have mem:∀c∈L.cs.map (bK n L.t),∃c0∈L.cs,bK n L.t c0=c:=λc hc=>by obtain ⟨c0,h0,e⟩:=Ti.mp hc;exact ⟨c0,h0,e⟩
 have hw:∀c,(bK n L.t c).w=c.w:=λc=>(dH n L.t c).2.2.2
 refine ⟨⟨?_,?_,?_,?_,?_,?_,ok.t0,ok.ts,?_,?_,?_,?_⟩,?_⟩
 ·show ((L.cs.map (bK n L.t)).map Cf.n).Nodup
  rw [dn (λc=>(dH n L.t c).1)];exact ok.nd
 ·intro c hc;obtain ⟨c0,h0,rfl⟩:=mem c hc;rw [hw];exact ok.ne c0 h0
 ·intro c hc l hl;obtain ⟨c0,h0,rfl⟩:=mem c hc;rw [hw] at hl;exact ok.le c0 h0 l hl
 ·intro c hc l hl;obtain ⟨c0,h0,rfl⟩:=mem c hc;rw [hw] at hl;exact ok.ck c0 h0 l hl
 ·intro c hc;obtain ⟨c0,h0,rfl⟩:=mem c hc;rw [hw];exact ok.len c0 h0
 ·intro c hc q e
  obtain ⟨c0,h0,rfl⟩:=mem c hc
  unfold bK at e
  split at e
  ·cases e;exact ⟨ok.ts,Rat.le_refl⟩
  ·exact ok.gz c0 h0 q e
 ·show (L.cs.map (bK n L.t)).length≤100
  rw [Th];exact ok.many
 ·intro m
  rw [hfs]
  show m∈L.row.filter _↔_
  rw [TB,ok.rm,Ti,Ti]
  constructor
  ·rintro ⟨⟨x,hx,rfl⟩,k⟩;exact ⟨x,TB.mpr ⟨hx,k⟩,rfl⟩
  ·rintro ⟨x,hx,rfl⟩;exact ⟨⟨x,(TB.mp hx).1,rfl⟩,(TB.mp hx).2⟩
 ·exact ok.rn.sublist Vb
 ·exact TK (Uu _ _) ok.rl
 ·rw [hfs]
  show L.row.filter _=_
  rw [yI ok.JU,← ok.row]
theorem By {α:Type} [DecidableEq α]:∀{l:List α} {x:α},x∈l→∃j:Nat,l[j]?=some x∧∀m:Nat,m < j→l[m]?≠some x
 | y :: l,x,h=>by
  by_cases e:y=x
  ·exact ⟨0,by rw [e];rfl,λm hm=>by omega⟩
  ·rcases TC.mp h with h | h
   ·exact absurd h.symm e
   ·obtain ⟨j,h1,h2⟩:=By h
    refine ⟨j + 1,h1,λm hm=>?_⟩
    cases m with
    | zero=>intro z;exact e (Option.some.inj z)
    | succ m=>exact h2 m (by omega)
abbrev jN:Stmt:=(L2.inClass (top 42) 2)
abbrev l7:List Str:=["self","name"]
theorem uC:L2.aw ["self","name"] ["self","name"] (L2.aj jN):=d7
def y_ (cN cL eC:Addr):cM:=λxs J Q E=>∃p L n,xs=[.ref p,.str n]∧ba cN cL J p L∧cq L∧(n ∉ L.row→E eC J)∧(n∈L.row→∀J' L',ba cN cL J' p L'→cq L'→L'.cs=L.cs.map (bK n L.t)→L'.t=L.t→Mv J J' (L.own p) (L'.own p)→Q .non J')
theorem uu {cN cL eC f:Addr} {fd:FuncData} (F:cm K "leave" "Lane.leave" jN f fd) (Z:bV mg) (ax:d_ K mg "Lane" cN) (aH:aL K cN "logs") (az:aL K cN "now") (aI:aL K cN "row") (bc:cG P w K mg base cN 1 "must_be_there" cF (qP cN cL eC)) (kC:cG P w K mg base cL 1 "leave" nM (y3 cL)):aP P w K mg base (c8 P w) 2 f fd l7 (dC K (y_ cN cL eC)):=by
 simp_arith [uC,(ai (aX (bp (pl:=_) bc B hr (rv 0) (af (rv 1) ah)))
   (ai (aX (bp (pl:=_) kC B hr (au bY (aY ax.cl aH (rv 0)) (rv 1)) (af (aY ax.cl az (rv 0)) ah)))
   (ar (aX (ie PySem.F.plainAttrs_list PySem.F.slot_list_remove PySem.F.type_list_remove Ds (aY ax.cl aI (rv 0)) (af (rv 1) ah))))))]
 ·obtain ⟨p,L,n,rfl,_⟩:=h;rfl
 obtain ⟨p,L,n,rfl,b,ok,qc,q⟩:=h
 have bo:=b.ob
 have bd:=b.dc
 refine hX ?_
 simp_all! [bo]
 refine ⟨dB _ _ _ _,p,L,n,rfl,b,λhn=>?_,qc⟩
 obtain ⟨c,hc,rfl,hg⟩:=ok.found hn
 have lo:=(b.lg c hc).o
 simp_all! [bo,rX,rY,bd,ok.va hc,lo]
 refine ⟨Q8 _ _,c.a,c.r,c.w,c.g,L.t,rfl,b.lg c hc,?_⟩
 simp_all! [aq (Ne.symm (b.Qe hc)),bo,uh,aq (Ne.symm (b.Rf hc)),b.rw]
 obtain ⟨j,h1,h2⟩:=By hn
 refine ⟨L.row,rfl,j,h1,h2,?_⟩
 rw [erase_filter ok.rn h1]
 have hn':=dH c.n L.t
 have ok1:=ok.leave c.n
 refine q hn _ { L with cs:=L.cs.map (bK c.n L.t),row:=L.row.filter λx=>decide (x≠c.n) } ⟨?_,?_,ak,λx hx=>?_,?_,λx hx=>?_⟩ ok1 rfl rfl ?_
 ·rw [aq (Ne.symm b.Ii),aq (Ne.symm (b.Qe hc))];exact bo
 ·show put (put J c.a _) L.o _ L.d=_
  rw [aq b.Rg,aq (Ne.symm (b.SH hc)),bd]
  show _=some (HQ.dct ((L.cs.map (bK c.n L.t)).map λc=>(c.n,PV.ref c.a)) L.e)
  rw [dn (f:=λc:Cf=>(c.n,PV.ref c.a)) (λx=>by rw [(hn' x).1,(hn' x).2.1])]
 ·obtain ⟨x0,h0,rfl⟩:=Ti.mp hx
  have hl:=b.lg x0 h0
  refine ⟨?_,?_⟩
  ·rw [(hn' x0).2.1,(hn' x0).2.2.1,aq (b.Rf h0)]
   by_cases e:x0.n=c.n
   ·have:x0=c:=ok.uniq h0 hc e
    subst this
    rw [ak]
    unfold bK;rw [if_pos rfl];rfl
   ·have ha:x0.a≠c.a:=λz=>by
     have hh:=hl.o
     have hh2:=(b.lg c hc).o
     rw [z,hh2] at hh
     have hrr:c.r=x0.r:=by
      have h3:=(HQ.ins.inj (Option.some.inj hh)).2
      have h4:=(List.cons.inj h3).1
      have h5:=(Prod.mk.inj h4).2
      exact PV.ref.inj h5
     obtain ⟨i,hi,rfl⟩:=T_ h0
     obtain ⟨j',hj',rfl⟩:=T_ hc
     have:=(Um (xs:=L.cs.map Cf.r) (i:=i) (j:=j') (h₀:=by simpa using hi) (h₁:=by simpa using hj') b.ap).mp (by rw [Uo,Uo];exact hrr.symm)
     subst this;exact e rfl
    rw [aq ha]
    unfold bK;rw [if_neg e];exact hl.o
  ·rw [(hn' x0).2.2.1,(hn' x0).2.2.2,aq (b.ao x0 h0),aq (λz=>by have h3:=hl.l;rw [z,lo] at h3;cases h3)];exact hl.l
 ·show ((L.cs.map (bK c.n L.t)).map Cf.r).Nodup
  rw [dn (λx=>(hn' x).2.2.1)];exact b.ap
 ·obtain ⟨x0,h0,rfl⟩:=Ti.mp hx
  rw [(hn' x0).2.2.1];exact b.ao x0 h0
 ·have own':∀a,Ln.own { L with cs:=L.cs.map (bK c.n L.t),row:=L.row.filter λx=>decide (x≠c.n) } p a→L.own p a:=λa h=>by
   rcases h with h | h | h | ⟨x,hx,h⟩
   ·exact .inl h
   ·exact .inr (.inl h)
   ·exact .inr (.inr (.inl h))
   ·obtain ⟨c0,h0,rfl⟩:=Ti.mp hx
    rw [(hn' c0).2.1,(hn' c0).2.2.1] at h
    exact .inr (.inr (.inr ⟨c0,h0,h⟩))
  refine (gJ (S':=L.own p) (.inr (.inr (.inr ⟨c,hc,.inl rfl⟩))) λa h=>.inl h).trans (gJ (.inr (.inr (.inl rfl))) λa h=>.inl (own' a h))
abbrev n8:Stmt:=(top 53)
abbrev fU:List Str:=["_law_cell_here","_law_many"]
theorem fw:L2.aw ["_law_cell_here","_law_many","_law_signs","_law_row","_law_some","_law_body","_law_at_here","_law_out","_law_k"] ["_law_cell_here","_law_many"] (L2.aj n8):=d7
def Cp:Sp:=λvs H Q _=>∃c m:Int,vs=[.int c,.int m]∧0≤m∧m≤36∧∀(r:Addr) (H':Hp) (xs:List Str),H r=none→bJ H H'→H' r=some (.lst (xs.map V.str))→(xs.length:Int)=m→xs.Nodup→(∀x∈xs,good x=true)→Q (.ref r) H'
def menu:List Str:=["m","ab","a","zebra9","b0","0","abc","9zz","q7q7q7q7","aa","z","a1b2c3d4"]
def dm:Str:="abcdefghijklmnopqrstuvwxyz0123456789"
theorem HZ:menu.Nodup:=by decide +kernel
theorem Ex:dm.cps.toList.Nodup:=by decide +kernel
theorem lD:dm.cps.toList.length=36:=by decide +kernel
theorem Li {α:Type} {xs:List α} {j:Int} (h0:0≤j) (h1:j < xs.length):dt xs j=some (xs[j.toNat]'(by omega)):=by
 have h:=bx (xs:=xs) (j:=j.toNat) (Tn (by omega))
 rw [show ((j.toNat:Nat):Int)=j by omega] at h
 exact h
def JS {α:Type} (xs:List α) (z:α) (d:Int) (k:Nat):α:=xs.getD ((d + 5 * (k:Int)) % (xs.length:Int)).toNat z
section
variable {α:Type} {xs:List α} {z:α} (d:Int)
theorem rA (h:0 < xs.length) (k:Nat):0≤(d + 5 * (k:Int)) % (xs.length:Int)∧(d + 5 * (k:Int)) % (xs.length:Int) < (xs.length:Int):=⟨Int.emod_nonneg _ (by omega),Int.emod_lt_of_pos _ (by omega)⟩
theorem nj (h:0 < xs.length) (k:Nat):xs[((d + 5 * (k:Int)) % (xs.length:Int)).toNat]?=some (JS xs z d k):=by
 have:=rA d h k
 unfold JS
 rw [List.getD_eq_getElem?_getD,Tn (by omega)]
 rfl
theorem Lq (h:0 < xs.length) (k:Nat):dt xs ((d + 5 * (k:Int)) % (xs.length:Int))=some (JS xs z d k):=by
 have:=bx (nj (z:=z) d h k)
 rwa [Int.toNat_of_nonneg (rA d h k).1] at this
theorem Br (h:0 < xs.length) (k:Nat):JS xs z d k∈xs:=To (nj d h k)
theorem QL {M a b d u v:Int} (g:5 * u=1 + M * v) (a0:0≤a) (a1:a < M) (b0:0≤b) (b1:b < M) (e:(d + 5 * a) % M=(d + 5 * b) % M):a=b:=by
 have h:M ∣ 5 * (a - b):=by
  have:=Int.dvd_of_emod_eq_zero (Int.emod_eq_emod_iff_emod_sub_eq_zero.mp e)
  rwa [show d + 5 * a - (d + 5 * b)=5 * (a - b) by omega] at this
 obtain ⟨c,hc⟩:M ∣ a - b:=by
  obtain ⟨c,hc⟩:=h
  refine ⟨u * c - v * (a - b),?_⟩
  have h1:5 * u * (a - b)=u * (M * c):=by rw [← hc];grind
  rw [g] at h1
  grind
 rcases Int.lt_trichotomy c 0 with k | k | k
 ·have:M * c≤M * (-1):=Int.mul_le_mul_of_nonneg_left (by omega) (by omega)
  omega
 ·subst k;omega
 ·have:M * 1≤M * c:=Int.mul_le_mul_of_nonneg_left (by omega) (by omega)
  omega
theorem Bq (u v:Int) (hn:xs.Nodup) (g:5 * u=1 + (xs.length:Int) * v) {i j:Nat} (hi:i < xs.length) (hj:j < xs.length) (e:JS xs z d i=JS xs z d j):i=j:=by
 have h:0 < xs.length:=by omega
 have a:=nj (z:=z) d h i
 have b:=nj (z:=z) d h j
 rw [e] at a
 obtain ⟨a1,a2⟩:=Tj.mp a
 obtain ⟨b1,b2⟩:=Tj.mp b
 have e1:=(Um hn).mp (a2.trans b2.symm)
 have:=rA d h i
 have:=rA d h j
 exact Int.ofNat.inj (QL g (Int.natCast_nonneg i) (Int.ofNat_lt.mpr hi) (Int.natCast_nonneg j) (Int.ofNat_lt.mpr hj) (show (d + 5 * (i:Int)) % _=(d + 5 * (j:Int)) % _ by omega))
end
theorem Fv:menu.length=12:=by decide +kernel
abbrev pick:Int→Nat→Str:=JS menu ""
theorem II (d:Int) (k:Nat):dt (menu.map V.str) ((d + 5 * (k:Int)) % 12)=some (.str (pick d k)):=by
 have h:=rA (xs:=menu) d (by decide +kernel) k
 have g:=bx (xs:=menu.map V.str) (j:=((d + 5 * (k:Int)) % (menu.length:Int)).toNat) (by rw [Tq,nj (xs:=menu) (z:="") d (by decide +kernel) k];rfl)
 rw [Int.toNat_of_nonneg h.1,Fv] at g
 exact g
theorem FZ (d:Int) {m:Nat} (hm:m≤12):((UG m).map (pick d)).Nodup:=by
 refine List.Pairwise.map (R:=λi j=>i < 12∧j < 12∧i≠j) _ (λi j ⟨a,b,c⟩ e=>c (Bq d 5 2 HZ (by decide +kernel) a b e)) ?_
 refine List.Pairwise.imp_of_mem (R:=λi j=>i≠j) (λ{i j} hi hj ne=>?_) (List.nodup_range)
 rw [U5] at hi hj
 exact ⟨by omega,by omega,ne⟩
theorem Dr:∀x∈menu,good x=true:=by decide +kernel
theorem rj:∀c∈dm.cps.toList,eX cS c=true:=by decide +kernel
theorem DO (d:Int) (k:Nat):good (pick d k)=true:=Dr _ (Br d (by decide +kernel) k)
theorem HN {cs:List Nat} (h0:0 < cs.length) (h1:cs.length≤8) (h:∀c∈cs,eX cS c=true):good ⟨cs.toArray⟩=true:=by
 unfold good
 rw [T4,T4]
 refine ⟨⟨decide_eq_true ?_,decide_eq_true ?_⟩,U8.mpr λc hc=>h c (by simpa using hc)⟩
 ·show 1≤cs.toArray.size;rw [Tu];omega
 ·show cs.toArray.size≤8;rw [Tu];omega
abbrev sign:Int→Nat→Nat:=JS dm.cps.toList 0
theorem Ju (d:Int) (k:Nat):dt dm.cps.toList ((d + 5 * (k:Int)) % 36)=some (sign d k):=by
 have h:=Lq (xs:=dm.cps.toList) (z:=0) d (by decide +kernel) k
 rw [lD] at h
 exact h
theorem DW (d:Int) (k:Nat):eX cS (sign d k)=true:=rj _ (Br d (by decide +kernel) k)
theorem Gy (d:Int) {i j:Nat} (hi:i < 36) (hj:j < 36) (e:sign d i=sign d j):i=j:=Bq d (-7) (-1) Ex (by decide +kernel) (by rw [lD];exact hi) (by rw [lD];exact hj) e
theorem GV {d:Int} {n:Nat} {xs:List Str} (hl:xs.length≤36) (h:∀k x,xs[k]?=some x→x.cps.toList[n]?=some (sign d k)):xs.Nodup:=by
 refine Ub.mpr λi j hi hj hij e=>?_
 have a:=h i _ (Tn hi)
 have b:=h j _ (Tn hj)
 rw [e] at a
 rw [a] at b
 have:=Gy d (by omega) (by omega) (Option.some.inj b)
 omega
theorem EF {xs:List V} {k:Int} (h:0≤k):oI xs none (some k)=xs.take k.toNat:=by
 obtain ⟨j,rfl⟩:∃j:Nat,k=(j:Int):=⟨k.toNat,by omega⟩
 unfold oI
 rw [HT.Gp,HT.wY,Vf,Int.toNat_natCast]
 rcases Nat.le_total j xs.length with e | e
 ·rw [VR e]
  rfl
 ·rw [Nat.min_eq_right e,Nat.sub_zero,Ue (Tr _),Ue e]
theorem FJ (cs:List Nat):((cs.map one).map (·.length)).sum=cs.length:=by
 induction cs with
 | nil=>rfl
 | cons c cs ih =>
  rw [Tt,Tt,List.sum_cons,ih,TU]
  show 1 + cs.length=cs.length + 1
  omega
theorem Px {ds:List Int} (hD:Dig ds [3,36,8,36,36,36,36,36,36,36,36,840]):∃(d0 d1 d2 d11:Int) (es:List Int),dt (ds.map V.int) 0=some (.int d0)∧dt (ds.map V.int) 1=some (.int d1)∧dt (ds.map V.int) 2=some (.int d2)∧dt (ds.map V.int) 11=some (.int d11) ∧
  oI (ds.map V.int) (some 3) (some 11)=es.map V.int∧es.length=8∧(∀e∈es,0≤e∧e < 36)∧0≤d2∧d2 < 8:=by
 obtain ⟨d0,ds,rfl,_,_,hD⟩:=hD.cons
 obtain ⟨d1,ds,rfl,_,_,hD⟩:=hD.cons
 obtain ⟨d2,ds,rfl,d20,d21,hD⟩:=hD.cons
 have key:∀(n:Nat) {ds:List Int},Dig ds (Uw n 36 ++ [840])→∃es d,ds=es ++ [d]∧es.length=n∧∀e∈es,0≤e∧e < 36:=by
  intro n
  induction n with
  | zero=>intro ds h;obtain ⟨d,ds,rfl,_,_,h⟩:=h.cons;cases h.nil;exact ⟨[],d,rfl,rfl,λe he=>by cases he⟩
  | succ n ih =>
   intro ds h
   obtain ⟨d,ds,rfl,h0,h1,h⟩:=h.cons
   obtain ⟨es,x,rfl,hl,he⟩:=ih h
   exact ⟨d :: es,x,rfl,congrArg Nat.succ hl,List.forall_mem_cons.mpr ⟨⟨h0,h1⟩,he⟩⟩
 obtain ⟨es,d11,rfl,hl,he⟩:=key 8 hD
 refine ⟨d0,d1,d2,d11,es,bx (j:=0) rfl,bx (j:=1) rfl,bx (j:=2) rfl,bx (j:=11) ?_,?_,hl,he,d20,d21⟩
 ·rw [Tq,T',T',T',Ur (by omega),hl];rfl
 ·have h11:((d0 :: d1 :: d2 :: (es ++ [d11])).map V.int).length=12:=by simp [hl]
  unfold oI
  rw [show (some (3:Int))=some ((3:Nat):Int) from rfl,show (some (11:Int))=some ((11:Nat):Int) from rfl,HT.wY,HT.wY,h11]
  show List.take 8 ((es ++ [d11]).map V.int)=_
  rw [Ts,List.take_append_of_le_length (by simp [hl]),Ue (by simp [hl])]
theorem HU {p q a b:Prop} [Decidable p] [Decidable q]:(if p then if q then a else b else b)=if p∧q then a else b:=by by_cases hp:p <;> by_cases hq:q <;> simp [hp,hq]
theorem FC {f:Addr} {fd:FuncData} (F:cm K "_law_names" "_law_names" n8 f fd) (Z:D6 mg) (fc:tI P w K mg base 1 "_law_digits" c4 (sU K)):aP P w K mg base qV 2 f fd fU Cp:=by
 refine F.ok fw (λvs H Q E h=>?_) (λcdv A outer s H vs Q E hr h=>?_)
 ·obtain ⟨c,m,rfl,_⟩:=h
  rfl
 obtain ⟨c,m,rfl,m0,m1,q⟩:=h
 refine ⟨_,(QB.run (a_ (dh (i:=2) fw.nd rfl (Or.inr rfl) o6)
   (a_ (dh (i:=3) fw.nd rfl (Or.inr rfl) (yL fc hr (by decide) rfl (a7 (pv 0) (a7 (kI (FQ [.int 3,.int 36,.int 8,.int 36,.int 36,.int 36,.int 36,.int 36,.int 36,.int 36,.int 36,.int 840] rfl)) bS))))
   (a_ (nV (Kw (wQ (dX FK (cD gI (pv 3) aV (λ_ _=>rfl)) aV (fJ _)) (qK (dX Kr (pv 1) aV (fJ _))))) (a_ (dh (i:=4) fw.nd rfl (Or.inr rfl) (kI (FQ [.str "m",.str "ab",.str "a",.str "zebra9",.str "b0",.str "0",.str "abc",.str "9zz",.str "q7q7q7q7",.str "aa",.str "z",.str "a1b2c3d4"] rfl)))
   (bT (d9 (IC (aj n8) ["_law_cell_here","_law_many","_law_signs","_law_row","_law_some","_law_body","_law_at_here","_law_out","_law_k"] [("_law_row",3),("_law_some",4)] rfl rfl rfl (gC rfl Z.range (a7 (pv 1) bS)) (λ_ _ _ _ _ _=>(cD gI (pv 2) (bD gL (bD jE (cD gI (pv 1) aV (λ_ _=>rfl)) (bD cV aV (pv 0))) aV) (λ_ _=>rfl))))))) gu)
   (a_ (IL (i:=5) (aj n8) ["_law_cell_here","_law_many","_law_signs","_law_row","_law_some","_law_body","_law_at_here","_law_out","_law_k"] [("_law_signs",2)] rfl rfl rfl fw.nd rfl (Or.inl rfl) (nJ (kJ xo (pv 3) (lM aV) (lM aV))) (λ_ _ _ _ _ _=>(cD Fe (pv 1) (pv 0) (λ_ _=>rfl))))
   (yN (nV (dX FK (cD gI (pv 3) aV (λ_ _=>rfl)) aV (fJ _)) (bT (dh (i:=5) fw.nd rfl (Or.inl rfl) (kJ xo (pv 5) qH (lM (bD jE (cD gI (pv 3) aV (λ_ _=>rfl)) aV))))) gu)
   (a_ (dh (i:=6) fw.nd rfl (Or.inl rfl) (bD gL (cD gI (pv 3) aV (λ_ _=>rfl)) (eu jv rfl Z.len boot_len (a7 (pv 5) bS))))
   (a_ (dh (i:=7) fw.nd rfl (Or.inl rfl) (kI bS))
   (a_ (o7 PassesOwn.never rfl (gC rfl Z.range (a7 (pv 1) bS)) (lL (i:=8) fw.nd rfl (Or.inl rfl)) (a_ (wI (cD Fe (pv 2) (bD gL (bD jE (cD gI (pv 3) aV (λ_ _=>rfl)) (bD cV aV (pv 8))) aV) (λ_ _=>rfl)) (wD (pv 5) (pv 6) set_list))
   (bT (lN (sj PySem.F.plainAttrs_list PySem.F.slot_list_append PySem.F.type_list_append i7 (pv 7) (a7 (sj PySem.F.plainAttrs_str PySem.F.slot_str_join PySem.F.type_str_join Ic o6 (a7 (pv 5) bS)) bS))))))
   (bT (d9 (pv 7)))))))))))),?_⟩
 refine ⟨_,rfl,(by show 12≤sizeLine;decide),λp hp=>?_⟩
 have ss:=og (ss:=[3,36,8,36,36,36,36,36,36,36,36,840]) (by decide)
 refine ⟨c,p,[3,36,8,36,36,36,36,36,36,36,36,840],rfl,dk.of aK,ss,by decide,λr H1 ds _ g1 hr1 hD=>?_⟩
 obtain ⟨d0,d1,d2,d11,es,at0,at1,at2,at11,hcut,el,be,d20,d21⟩:=Px hD
 clear hD
 generalize ds.map V.int=row at hr1 at0 at1 at2 at11 hcut
 have g1:=(bJ.new hp _).trans g1
 dsimp! [rJoin,hr1,at0,at1]
 rw [HU]
 split
 ·refine ⟨(by show 12≤sizeLine;decide),λp2 hp2=>?_⟩
  have g2:=bJ.new hp2 (.lst (menu.map V.str))
  have h2:(upd H1 p2 (.lst (menu.map V.str))) p2=some (.lst (menu.map V.str)):=aK
  have hr2:=g2 _ _ hr1
  refine ⟨_,rfl,m,rfl,by omega,by omega,λD hD=>?_⟩
  refine Fl (lo:=0) (n:=m.toNat) (λi H'=>bJ (upd H1 p2 (.lst (menu.map V.str))) H'∧H' D=some (.lst (((UG i).map (pick d1)).map V.str))) ⟨bJ.new hD _,aK⟩ ?_ ?_
  ·rintro i H' R hi ⟨g,hd⟩ k
   have hr3:=g _ _ hr2
   have h3:=g _ _ h2
   dsimp! [rJoin,hr3,h3,at1,Int.zero_add]
   refine ⟨.of (Bd.small (by decide) (by decide)) (Bd.small (x:=(i:Int)) (by omega) (by omega)),_,II d1 i,?_⟩
   refine k _ _ _ hd (by rw [Th,Th,Vi];exact a8 (by omega)) ⟨g.Nx hD _,?_⟩
   rw [aK]
   simp [List.range_succ]
  ·rintro H' ⟨g,hd⟩
   exact q D H' _ (g1.free (g2.free hD)) (g1.trans (g2.trans g)) hd (by rw [Th,Vi];omega) (FZ d1 (by omega)) (λx hx=>by obtain ⟨k,_,rfl⟩:=Ti.mp hx;exact DO d1 k)
 refine ⟨_,rfl,3,rfl,11,rfl,r,_,rfl,dk.of hr1,λp2 hp2=>⟨p2,rfl,⟨_,dk.of aK⟩,λD hD=>?_⟩⟩
 rw [hcut] at hD ⊢
 have g2:=bJ.new hp2 (.lst (es.map V.int))
 have hr2:=g2 _ _ hr1
 have h2:(upd H1 p2 (.lst (es.map V.int))) p2=some (.lst (es.map V.int)):=aK
 have al:=lD
 have al2:dm.length≤sizeLine:=by decide +kernel
 refine HW (K:=K) (a:=p2) (xs:=es.map V.int) (λi H'=>bJ (upd H1 p2 (.lst (es.map V.int))) H'∧∃cs:List Nat,cs.length=i∧(∀c∈cs,eX cS c=true)∧H' D=some (.lst ((cs.map one).map V.str)))
  ⟨bJ.new hD _,[],rfl,(λc hc=>by cases hc),aK⟩ (λi H' _ ⟨g,_⟩=>dk.of (g _ _ h2)) ?_ ?_
 ·rintro i y H' R hi ⟨g,cs,hcs,hca,hd⟩ k
  have hil:=(Tj.mp hi).1
  obtain ⟨z,rfl,hz⟩:=rO hi
  obtain ⟨z0,z1⟩:=be z (To hz)
  have at1:=Li (xs:=dm.cps.toList) z0 (by rw [al];exact z1)
  dsimp! [rJoin]
  refine ⟨al2,_,at1,?_⟩
  refine k _ _ _ hd (by rw [Th,Th,hcs];rw [Th] at hil;exact a8 (by omega)) ⟨g.Nx hD _,cs ++ [dm.cps.toList[z.toNat]'(by rw [al];omega)],by rw [TN,hcs];rfl,?_,?_⟩
  ·intro c hc
   rcases Tv.mp hc with hc | hc
   ·exact hca c hc
   ·rw [Tx] at hc;subst hc;exact rj _ (TY _)
  rw [aK,Ts,Ts]
  rfl
 rintro H2 ⟨g,cs,hcs,hca,hd⟩
 have hr3:=g _ _ hr2
 have g:=g1.trans (g2.trans g)
 have hcs:cs.length=8:=hcs.trans ((Th _).trans el)
 obtain ⟨M,hM⟩:∃M:L2.St→Hp→Prop,∀σ' H',M σ' H'↔∃(D:Addr) (cs:List Nat),σ'=[some (.int c),some (.int m),some (.str dm),some (.ref r),none,some (.ref D),none,none,none]∧bJ H H'∧H D=none∧H' r=some (.lst row)∧D≠r∧0 < cs.length∧cs.length≤8∧(∀c∈cs,eX cS c=true)∧H' D=some (.lst ((cs.map one).map V.str)):=⟨_,λ_ _=>Iff.rfl⟩
 have fD:H D=none:=g1.free (g2.free hD)
 have nDr:D≠r:=(cA hr2 hD).symm
 refine ⟨M,?_,?_⟩
 ·dsimp! [rJoin,hr3,at0,at2]
  split
  ·refine ⟨_,dk.of hd,λp4 hp4=>(hM _ _).mpr ⟨p4,cs.take (d2 + 1).toNat,rfl,g.trans (bJ.new hp4 _),g.free hp4,?_,?_,?_,?_,(λc hc=>hca c (T8 hc)),?_⟩⟩
   ·exact (bJ.new hp4 _) _ _ hr3
   ·exact (cA hr3 hp4).symm
   ·rw [TX];omega
   ·rw [TX];omega
   ·rw [aK,EF (by omega),Uv,Uv]
  ·exact (hM _ _).mpr ⟨D,cs,rfl,g,fD,hr3,nDr,by omega,by omega,hca,hd⟩
 clear hca hd hr3 g fD nDr hcs
 intro σ5 H5 hm
 obtain ⟨D,cs,rfl,g,fD,hr3,nDr,l0,l1,hca,hd⟩:=(hM _ _).mp hm
 clear hm hM M
 have e0s:(Str.ofString "").length=0:=by decide +kernel
 have hl:((cs.map one).map V.str).length=cs.length:=by rw [Th,Th]
 have hlp:(0:Int) < (((cs.map one).map V.str).length:Nat):=by rw [hl];omega
 have a0:=Int.emod_nonneg d11 (show (((cs.map one).map V.str).length:Int)≠0 by omega)
 have a1:=Int.emod_lt_of_pos d11 hlp
 refine ⟨_,rfl,r,_,11,_,rfl,rfl,hr3,at11,_,rfl,D,rfl,_,.inl (dk.of hd),_,_,rfl,rfl,hlp,?_⟩
 generalize hat:d11 % (((cs.map one).map V.str).length:Int)=at' at a0 a1
 rw [hl] at a1
 refine ⟨T3 _,λO hO=>?_⟩
 have gO:=bJ.new hO (.lst [])
 have nOD:O≠D:=(cA hd hO).symm
 have nOr:O≠r:=(cA hr3 hO).symm
 have fO:H O=none:=g.free hO
 refine ⟨_,rfl,m,rfl,by omega,by omega,uW (lo:=0) (n:=m.toNat) (λi σ H'=>∃(v:Option V) (cs':List Nat) (xs:List Str),σ=[some (.int c),some (.int m),some (.str dm),some (.ref r),none,some (.ref D),some (.int at'),some (.ref O),v] ∧
  bJ H H'∧H' r=some (.lst row)∧cs'.length=cs.length∧(∀c∈cs',eX cS c=true)∧H' D=some (.lst ((cs'.map one).map V.str))∧H' O=some (.lst (xs.map V.str))∧xs.length=i∧(∀x∈xs,good x=true)∧∀k x,xs[k]?=some x→x.cps.toList[at'.toNat]?=some (sign d1 k)) ?_ ?_ ?_⟩
 ·exact ⟨none,cs,[],by rw [← hat];rfl,g.trans gO,gO _ _ hr3,rfl,hca,gO _ _ hd,aK,rfl,(λx hx=>by cases hx),λk x e=>by cases e⟩
 ·rintro i σ H' hi ⟨v,cs',xs,rfl,g',hr',hl',hca',hd',ho',hx,hxl,hs⟩
  have al2:dm.length≤sizeLine:=by decide +kernel
  have sg:=Ju d1 i
  refine ⟨_,rfl,_,rfl,r,_,1,_,rfl,rfl,hr',at1,_,rfl,_,_,rfl,rfl,.of (Bd.small (by decide) (by decide)) (Bd.small (x:=0 + (i:Int)) (by omega) (by omega)),_,_,rfl,rfl,_,_,rfl,rfl,(show (0:Int) < 36 by decide),_,_,_,rfl,rfl,al2,(by rw [Int.zero_add];exact sg),?_⟩
  have ix:D8 ((cs'.map one).map V.str).length at'=some at'.toNat:=by
   unfold D8
   rw [if_pos a0,if_pos (by rw [Th,Th,hl'];exact a1)]
  refine ⟨_,rfl,_,rfl,D,_,at',_,rfl,rfl,hd',ix,?_⟩
  have es:((cs'.map one).map V.str).set at'.toNat (.str ⟨#[sign d1 i]⟩)=((cs'.set at'.toNat (sign d1 i)).map one).map V.str:=by
   rw [List.map_set,List.map_set]
   rfl
  have gD:=bJ.Nx fD g' (.lst (((cs'.map one).map V.str).set at'.toNat (.str ⟨#[sign d1 i]⟩)))
  have hD2:(upd H' D (.lst (((cs'.map one).map V.str).set at'.toNat (.str ⟨#[sign d1 i]⟩)))) D=some (.lst (((cs'.set at'.toNat (sign d1 i)).map one).map V.str)):=by rw [aK,es]
  have hr2:(upd H' D (.lst (((cs'.map one).map V.str).set at'.toNat (.str ⟨#[sign d1 i]⟩)))) r=_:=(aW nDr.symm).trans hr'
  have ho2:(upd H' D (.lst (((cs'.map one).map V.str).set at'.toNat (.str ⟨#[sign d1 i]⟩)))) O=_:=(aW nOD).trans ho'
  have lc:(cs'.set at'.toNat (sign d1 i)).length=cs.length:=by rw [UR,hl']
  have hcn:∀c∈cs'.set at'.toNat (sign d1 i),eX cS c=true:=λc hc=>by
   rcases List.mem_or_eq_of_mem_set hc with h | h
   ·exact hca' c h
   ·rw [h];exact DW d1 i
  refine ⟨_,rfl,.inl ⟨rfl,_,dk.of ho2⟩,rfl,_,rfl,_,D,(cs'.set at'.toNat (sign d1 i)).map one,rfl,rfl,dk.of hD2,?_,O,_,_,rfl,rfl,ho2,?_,?_⟩
  ·rw [FJ,Th,lc,e0s]
   omega
  ·rw [Th,hx]
   exact a8 (by omega)
  ·rw [join_ones]
   refine ⟨_,cs'.set at'.toNat (sign d1 i),xs ++ [⟨(cs'.set at'.toNat (sign d1 i)).toArray⟩],rfl,gD.Nx fO _,(aW nOr.symm).trans hr2,lc,hcn,(aW nOD.symm).trans hD2,?_,by rw [TN,hx];rfl,?_,?_⟩
   ·rw [aK,Ts]
    rfl
   ·intro x hx2
    rcases Tv.mp hx2 with h | h
    ·exact hxl x h
    ·simp only [TC,TZ,or_false] at h
     subst h
     exact HN (by rw [lc];exact l0) (by rw [lc];exact l1) hcn
   ·intro k x e
    rcases Nat.lt_or_ge k xs.length with hk | hk
    ·rw [Ux hk] at e
     exact hs k x e
    ·rw [Ur hk] at e
     have ek:k=i:=by
      cases hz:k - xs.length with
      | zero=>omega
      | succ z=>rw [hz] at e;cases e
     rw [show k - xs.length=0 by omega] at e
     have ex:=Option.some.inj e
     subst ex
     rw [ek]
     show (cs'.set at'.toNat (sign d1 i))[at'.toNat]?=some (sign d1 i)
     rw [Ud (by omega)]
 ·rintro σ H' ⟨v,cs',xs,rfl,g',hr',hl',hca',hd',ho',hx,hxl,hs⟩
  exact ⟨_,rfl,q O H' xs fO g' ho' (by omega) (GV (by omega) hs) hxl⟩
def zd:cM:=λxs J Q _=>∃c m:Int,xs=[.int c,.int m]∧0≤m∧m≤36∧∀ns:List Str,(ns.length:Int)=m→ns.Nodup→(∀x∈ns,good x=true)→Q (.fl (ns.map .str)) J
theorem vg {K:PySem.W.Frag} {J:Hq} {H:Hp}:∀ns:List Str,aS K J H (ns.map PV.str) (ns.map V.str)
 | []=>rfl
 | n :: ns=>⟨_,_,rfl,rfl,vg ns⟩
theorem zY (C:tI P w K mg base 2 "_law_names" fU Cp):bq P w K mg base 2 "_law_names" fU zd:=C.lift λxs J vs H Q2 E2 Q E rs r ⟨c,m,ex,h0,h1,q⟩ kn=>by
 subst ex
 obtain ⟨v,u,rfl,r1,r2⟩:=jV rs
 cases r1;cases r2
 exact ⟨c,m,rfl,h0,h1,λp H' ns hp s e hl nd lx=>kn (.fl (ns.map .str)) J (.ref p) H' ⟨p,_,rfl,.inl ⟨r.free hp,.inl e⟩,vg ns⟩ (r.same s) (.same s) (q ns hl nd lx)⟩
abbrev xf:Stmt:=(top 46)
abbrev iI:List Str:=["_law_found"]
theorem Gw:L2.aw ["_law_found"] ["_law_found"] (L2.aj xf):=d7
def jl:cM:=λxs J Q _=>∃i:Int,xs=[.int i]∧Q (.bl true) J
theorem DE {f:Addr} {fd:FuncData} (F:cm K "_law_whole" "_law_whole" xf f fd) (Z:bV mg):aP P w K mg base (c8 P w) 1 f fd iI (dC K jl):=by
 simp_arith [Gw,(ar (ay (AK (aJ gG rfl Z.isinstance boot_isinstance (af (rv 0) (af (kZ rfl Z.int boot_int) ah))) (wV (MJ (aJ gG rfl Z.isinstance boot_isinstance (af (rv 0) (af (kZ rfl Z.bool boot_bool) ah))))))))]
 ·obtain ⟨i,rfl,_⟩:=h;rfl
 obtain ⟨i,rfl,q⟩:=h
 refine hX ?_
 simp_arith! [bX]
 exact q
abbrev AQ:Stmt:=(top 48)
abbrev gq:List Str:=["_law_found","_law_due_here"]
theorem Jo:L2.aw ["_law_found","_law_due_here"] ["_law_found","_law_due_here"] (L2.aj AQ):=d7
def jS:cM:=λxs J Q _=>∃a:Rat,xs=[fr a,fr a]∧Q (.bl true) J
theorem FH {f:Addr} {fd:FuncData} (F:cm K "_law_part" "_law_part" AQ f fd) (Z:bV mg) (qw:bq P w K mg base 1 "_law_whole" iI jl):aP P w K mg base (c8 P w) 2 f fd gq (dC K jS):=by
 simp_arith [Jo,(ai (aT (c7 (gj (bU (bt (aJ gG rfl Z.isinstance boot_isinstance (af (rv 0) (af (kZ rfl Z.tuple boot_tuple) ah))))) (fu (aE (ia hr.aU) (aJ bN rfl Z.len boot_len (af (rv 0) ah)) ag)))) (ar (ay dN)) aF)
   (ai (aT (c7 (gj (bU (bt (aO qw B hr (af (au av (rv 0) ag) ah)))) (fu (bU (bt (aO qw B hr (af (au av (rv 0) ag) ah))))))) (ar (ay dN)) aF)
   (ar (ay (fP (cI hr.aU) (rv 0) (rv 1))))))]
 ·obtain ⟨a,rfl,_⟩:=h;rfl
 obtain ⟨a,rfl,q⟩:=h
 refine hX ?_
 simp_arith! [bX,jl]
 exact q
abbrev sH:Stmt:=(top 54)
abbrev kM:List Str:=["_law_number","_law_mode"]
theorem DT:L2.aw ["_law_number","_law_mode"] ["_law_number","_law_mode"] (L2.aj sH):=d7
def vn:cM:=λxs J Q _=>∃n m:Int,xs=[.int n,.int m]∧0≤n∧∀v:Int,v.natAbs≤1000000→Q (.int v) J
theorem Aj {f:Addr} {fd:FuncData} (F:cm K "_law_placed" "_law_placed" sH f fd) (Z:bV mg):aP P w K mg base (c8 P w) 1 f fd kM (dC K vn):=by
 simp_arith [DT,(ai (aT (aE gM (rv 1) ag) (ar (ay (aM d8 (aM fK (rv 0) ag) ag))) aF)
   (ai (aT (aE (cI hr.aU) (rv 1) ag) (ar (ay (aM d8 (aM fK (rv 0) ag) ag))) aF)
   (ar (ay (aM d8 (aM fK (rv 0) ag) ag)))))]
 ·obtain ⟨n,m,rfl,_⟩:=h;rfl
 obtain ⟨n,m,rfl,n0,q⟩:=h
 refine hX ?_
 simp_all! []
 split
 ·simp_all! [];exact ⟨by decide,q _ (by omega)⟩
 simp_all! []
 split
 ·simp_all! [];exact ⟨by decide,q _ (by omega)⟩
 ·simp_all! [];exact ⟨by decide,q _ (by omega)⟩
abbrev xa:Stmt:=(top 55)
abbrev l_:List Str:=["_law_number","_law_mode"]
theorem Gu:L2.aw ["_law_number","_law_mode"] ["_law_number","_law_mode"] (L2.aj xa):=d7
def ze:cM:=λxs J Q _=>∃n m:Int,xs=[.int n,.int m]∧0≤n∧n < 2001∧∀v:Int,v.natAbs≤1000→Q (.int v) J
theorem DD {f:Addr} {fd:FuncData} (F:cm K "_law_paced" "_law_paced" xa f fd) (Z:bV mg):aP P w K mg base (c8 P w) 1 f fd l_ (dC K ze):=by
 simp_arith [Gu,(ai (aT (aE gM (rv 1) ag) (ar (ay (aM d8 (aM fK (rv 0) ag) ag))) aF)
   (ai (aT (aE (cI hr.aU) (rv 1) ag) (ar (ay (aM d8 (aM fK (rv 0) ag) ag))) aF)
   (ar (ay (aM d8 (aM fK (rv 0) ag) ag)))))]
 ·obtain ⟨n,m,rfl,_⟩:=h;rfl
 obtain ⟨n,m,rfl,n0,n1,q⟩:=h
 refine hX ?_
 simp_all! []
 split
 ·simp_all! [];exact ⟨by decide,q _ (by omega)⟩
 simp_all! []
 split
 ·simp_all! [];exact ⟨by decide,q _ (by omega)⟩
 ·simp_all! [];exact ⟨by decide,q _ (by omega)⟩
abbrev MT:Stmt:=(top 58)
abbrev fL:List Str:=["_law_leg","_law_moment"]
theorem yZ:L2.aw ["_law_leg","_law_moment","_law_begun","_law_place","_law_way","_law_under"] ["_law_leg","_law_moment"] (L2.aj MT):=d7
theorem Ma {f:Addr} {fd:FuncData} (F:cm K "_law_at" "_law_at" MT f fd) (Z:bV mg) (mV:bq P w K mg base 1 "_law_low" dJ jR):aP P w K mg base (c8 P w) 2 f fd fL (dC K me):=by
 simp_arith [yZ,(ai (aA (i:=2) yZ.nd (au av (rv 0) ag))
   (ai (aA (i:=3) yZ.nd (au av (rv 0) ag))
   (ai (aA (i:=4) yZ.nd (aM bL (au av (rv 0) ag) (aM d8 (aM bL (au av (rv 1) ag) (au av (rv 2) ag)) (aM bL (au av (rv 2) ag) (au av (rv 1) ag)))))
   (ai (aA (i:=5) yZ.nd (aM bL (au av (rv 1) ag) (au av (rv 2) ag)))
   (ar (ay (aO mV B hr (af (aM cY (aM bL (au av (rv 3) ag) (rv 5)) (aM bL (rv 4) (au av (rv 3) ag))) (af (aM bL (au av (rv 3) ag) (rv 5)) ah)))))))))]
 ·obtain ⟨l,t,rfl,_⟩:=h;rfl
 obtain ⟨l,m,rfl,sb,sp,sm,bv,q⟩:=h
 refine hX ?_
 simp_all! [rV,Fd,hZ]
 have bn:Bd 1801 (m.num * l.m.den - l.m.num * m.den):=.sub (.mul sm.num sb.den (Tr _)) (.mul sb.num sm.den (Tr _))
 have bu:Bd 1800 ((m.den:Int) * l.m.den):=.mul sm.den sb.den
 have bw:Bd 1900 (l.v * (m.num * l.m.den - l.m.num * m.den)):=.mul bv bn
 refine ⟨.of sm.num sb.den,.of sb.num sm.den,.of bv bn,?_⟩
 simp_all! []
 refine ⟨.of sm.den sb.den,?_⟩
 simp_all! [jR]
 refine ⟨.of sp.num bu,.of bw sp.den,.of sp.den bu,Int.mul_pos (d6 _) (Int.mul_pos (d6 _) (d6 _)),.mul sp.den bu,?_⟩
 rw [NS]
 exact q
abbrev w8:Stmt:=(top 56)
abbrev iG:List Str:=["_law_clock","_law_number","_law_bottom","_law_mode"]
theorem oa:L2.aw ["_law_clock","_law_number","_law_bottom","_law_mode","_law_under","_law_steps"] ["_law_clock","_law_number","_law_bottom","_law_mode"] (L2.aj w8):=d7
def xx:cM:=λxs J Q _=>∃(c:Rat) (n b m:Int),xs=[fr c,.int n,.int b,.int m]∧0≤n∧0≤b∧0≤m∧m < 4∧n < 2 ^ 60∧Sz 900 c∧∀q,Later c q→Q (fr q) J
theorem DA {f:Addr} {fd:FuncData} (F:cm K "_law_later" "_law_later" w8 f fd) (Z:bV mg) (mV:bq P w K mg base 1 "_law_low" dJ jR):aP P w K mg base (c8 P w) 2 f fd iG (dC K xx):=by
 simp_arith [oa,(ai (aT (aE (cI hr.aU) (aM fK (rv 1) ag) ag) (ar (ay (rv 0))) aF)
   (ai (aA (i:=4) oa.nd (aM cY ag (aM fK (rv 2) (au av (vf (AJ [.int 4,.int 6,.int 60,.int 60] rfl [.int 4,.int 6,.int 60,.int 60] rfl)) (rv 3)))))
   (ai (aA (i:=5) oa.nd (aM cY ag (aM fK (aM nH (rv 1) ag) (aM bL ag (rv 4)))))
   (cW (aT (aE (cI hr.aU) (rv 3) ag) (ar (aA (i:=5) oa.nd (aM cY ag (aM fK (aM nH (rv 1) ag) (aM bL ag (rv 4)))))) aF)
   (ar (ay (aO mV B hr (af (aM cY (aM nH (aM bL (au av (rv 0) ag) (rv 4)) (au av (rv 0) ag)) (rv 5)) (af (rv 4) ah)))))))))]
 ·obtain ⟨c,n,b,m,rfl,_⟩:=h;rfl
 obtain ⟨c,n,b,m,rfl,n0,b0,m0,m1,n2,sc,q⟩:=h
 refine hX ?_
 simp_all! []
 refine ⟨by decide,?_⟩
 split
 ·simp_all! []
  exact q c (.inl rfl)
 obtain ⟨x,hx,x0,x1⟩:∃x:Int,dt [PV.int 4,PV.int 6,PV.int 60,PV.int 60] m=some (.int x)∧1≤x∧x≤60:=by
  rcases (by omega:m=0∨m=1∨m=2∨m=3) with e | e | e | e <;> subst e
  ·exact ⟨4,d5 _ _,by decide,by decide⟩
  ·exact ⟨6,fz _ _ _,by decide,by decide⟩
  ·exact ⟨60,jW _ _ _ _,by decide,by decide⟩
  ·exact ⟨60,Ez _ _ _ _ _,by decide,by decide⟩
 have u0:0≤b % x:=Int.emod_nonneg _ (by omega)
 have u1:b % x < x:=Int.emod_lt_of_pos _ (by omega)
 have bu:Bd 64 (1 + b % x):=.small (by omega) (by omega)
 have b8:Bd 9000 8:=(Bd.small (x:=8) (by decide) (by decide)).mono (by decide)
 simp_all! [hx]
 refine ⟨by omega,?_⟩
 simp_all! []
 refine ⟨⟨by decide,b8⟩,.of (.small (x:=2) (by decide) (by decide)) bu,by omega,?_⟩
 generalize hu:1 + b % x=u at *
 have k0:0≤n.fdiv 8:=by rw [Int.fdiv_eq_ediv_of_nonneg _ (by decide)];exact Int.ediv_nonneg n0 (by decide)
 obtain ⟨M,hM⟩:∃M:Sr→Hq→Prop,∀τ' J',M τ' J'↔∃s:Int,τ'=[some (fr c),some (.int n),some (.int b),some (.int m),some (.int u),some (.int s)]∧J'=J∧1≤s∧s≤500 * u:=⟨_,λ_ _=>Iff.rfl⟩
 simp_all! []
 refine ⟨M,?_,?_⟩
 ·simp_arith! [bX]
  have h2:0≤n.fdiv 8 % (2 * u):=Int.emod_nonneg _ (by omega)
  have h3:n.fdiv 8 % (2 * u) < 2 * u:=Int.emod_lt_of_pos _ (by omega)
  have h4:0≤n.fdiv 8 % (500 * u):=Int.emod_nonneg _ (by omega)
  have h5:n.fdiv 8 % (500 * u) < 500 * u:=Int.emod_lt_of_pos _ (by omega)
  split
  ·refine ⟨⟨by decide,b8⟩,.of (.small (x:=500) (by decide) (by decide)) bu,by omega,(hM _ _).mpr ⟨_,rfl,rfl,by omega,by omega⟩⟩
  ·exact (hM _ _).mpr ⟨_,rfl,rfl,by omega,by omega⟩
 ·intro τ' J' hm
  obtain ⟨s,rfl,rfl,s0,s1⟩:=(hM _ _).mp hm
  clear hm hM M
  simp_arith! [bX,jR]
  refine ⟨.of sc.num bu,⟨fE c,sc.den.mono (by decide)⟩,by omega,bu.mono (by decide),?_⟩
  obtain ⟨u',rfl⟩:=Int.eq_ofNat_of_zero_le (show 0≤u by omega)
  obtain ⟨s',rfl⟩:=Int.eq_ofNat_of_zero_le (show 0≤s by omega)
  exact q _ (.inr ⟨u',s',by omega,by omega,by omega,by omega,rfl⟩)
theorem oP {α:Type} {V:α→PV} {lt:α→α→Bool} {ys:List α} {b:α} {r:Addr} {sp:cM} {E2:Addr→Hq→Prop} {D:En} {τ:Sr} {J:Hq} {iO iA iR:Nat}
  (hO:τ[iO]?=some (some (.ref r))) (hR:τ[iR]?=some (some (V b))) (hA:τ[iA]?=some (some (.int 0))) (nO:iA≠iO) (nR:iA≠iR) (hJ:J r=some (.lst (ys.map V)))
  (hb:∀y∈ys,∀R:PV→Hq→Prop,R (.bl (lt y b)) J→sp [V y,V b] J R E2)
  (high:∀{i j:Nat} {x y:α},ys[i]?=some x→ys[j]?=some y→i≤j→lt x b=false→lt y b=false)
  (fin:∀j:Nat,j≤ys.length→(∀(k:Nat) y,k < j→ys[k]?=some y→lt y b=true)→(∀(k:Nat) y,j≤k→ys[k]?=some y→lt y b=false)→D.nx (τ.set iA (some (.int j))) J) :
  Gg (IT (rB (AI (F8 λi j=>.bl (decide (i < j))) (sy iA) (O8 MD (yQ (sy iO) AH)))) (rB (Gb sp E2 (yQ (AI Nw (sy iO) (sy iA)) (yQ (sy iR) AH))))) (uz (AI (F8 λi j=>.int (i + j)) (sy iA) (rC (.int 1))) (HJ iA)) D τ J:=by
 have hl:iA < τ.length:=(Tj.mp hA).1
 have sO:∀x,(τ.set iA x)[iO]?=some (some (.ref r)):=λx=>by rw [Uy nO];exact hO
 have sR:∀x,(τ.set iA x)[iR]?=some (some (V b)):=λx=>by rw [Uy nR];exact hR
 have sA:∀x,(τ.set iA x)[iA]?=some x:=λx=>Ud hl
 refine ⟨λm τ' J'=>∃j:Nat,j≤ys.length∧m=ys.length - j∧τ'=τ.set iA (some (.int j))∧J'=J∧∀(k:Nat) y,k < j→ys[k]?=some y→lt y b=true,⟨ys.length,0,T3 _,rfl,?_,rfl,λk y hk=>by omega⟩,?_⟩
 ·have h2:=List.set_getElem_self hl
  rw [(Tj.mp hA).2] at h2
  exact h2.symm
 rintro m τ' J' ⟨j,hj,rfl,rfl,rfl,hlow⟩
 simp_all! [sO,sA,hJ,Th]
 by_cases c0:j < ys.length
 ·rw [if_pos (by omega)]
  obtain ⟨y,hy⟩:∃y,ys[j]?=some y:=⟨_,Tn c0⟩
  have ha:dt (ys.map V) (j:Int)=some (V y):=bx (by rw [Tq,hy];rfl)
  simp_all! [sO,sA,sR,hJ,ha]
  refine hb y (To hy) _ ?_
  refine Am rfl ?_
  cases hc:lt y b with
  | true =>
   rw [if_pos rfl]
   obtain ⟨N,hN⟩:∃N:Sr→Hq→Prop,∀τ' J'',N τ' J''↔∃i:Nat,i≤ys.length∧ys.length - (j + 1)=ys.length - i∧τ'=τ.set iA (some (.int i))∧J''=J'∧∀(k:Nat) y,k < i→ys[k]?=some y→lt y b=true:=⟨_,λ_ _=>Iff.rfl⟩
   refine ⟨N,λτ'' J'' h=>⟨ys.length - (j + 1),by omega,(hN _ _).mp h⟩,?_⟩
   simp_arith! [bX,sA]
   refine (hN _ _).mpr ⟨j + 1,by omega,rfl,by rw [List.set_set,Int.natCast_succ],rfl,λk z hk e=>?_⟩
   rcases U0 (Nat.lt_succ_iff.mp hk) with h | h
   ·exact hlow k z h e
   ·subst h;rw [hy] at e;cases e;exact hc
  | false =>
   rw [if_neg (by decide)]
   exact fin j hj hlow λk z hk e=>high hy e hk hc
 ·rw [if_neg (by omega)]
  exact fin j hj hlow λk z hk e=>by rw [Ut (by omega)] at e;cases e
section
variable {X:Cx}
theorem m6.or {f:Value→Value→Sem Value} {q q':m7} (h:m6 X f q) (h':m6 X f q'):m6 X f (λx y J Q=>q x y J Q∨q' x y J Q):=by
 obtain ⟨r,a,lr⟩:=h
 obtain ⟨r',a',lr'⟩:=h'
 refine ⟨λx y H Q=>r x y H Q∨r' x y H Q,λpins s σ H x y v u Q I rx ry h=>?_,λJ H x y v w Q2 Q rx ry rr h k=>?_⟩
 ·rcases h with h | h
  ·exact a pins s σ H x y v u Q I rx ry h
  ·exact a' pins s σ H x y v u Q I rx ry h
 ·rcases h with h | h
  ·exact .inl (lr J H x y v w Q2 Q rx ry rr h k)
  ·exact .inr (lr' J H x y v w Q2 Q rx ry rr h k)
end
def Ky.V (k:Ky):PV:=.tup [fr k.p,.int k.v,.str k.n]
theorem N7 (J:Hq) (k:Ky):fA J k.V (.int 0)=some (fr k.p):=d5 _ _
theorem N8 (J:Hq) (k:Ky):fA J k.V (.int 1)=some (.int k.v):=fz _ _ _
theorem JY (J:Hq) (k:Ky):fA J k.V (.int 2)=some (.str k.n):=jW _ _ _ _
theorem PX (p:Rat) (v:Int) (n:Str):PV.tup [fr p,.int v,.str n]=(Ky.mk p v n).V:=rfl
theorem oG (p q:Rat):(p.num * (q.den:Int) < q.num * (p.den:Int))=(p < q):=propext (Rat.lt_iff p q).symm
abbrev sF:Stmt:=(top 61)
abbrev fk:List Str:=["_law_one","_law_two"]
theorem pD:L2.aw ["_law_one","_law_two","_law_here","_law_there"] ["_law_one","_law_two"] (L2.aj sF):=d7
def oi:cM:=λxs J Q _=>(∃a b:Ky,xs=[a.V,b.V]∧Sz 9000 a.p∧Sz 9000 b.p∧Q (.bl (a.lt b)) J)∨(∃a b:aB,xs=[a.v,b.v]∧Sz 9000 a.m∧Sz 9000 b.m∧Q (.bl (a.lt b)) J)
theorem Ai {f:Addr} {fd:FuncData} (F:cm K "_law_before" "_law_before" sF f fd) (Z:bV mg):aP P w K mg base (c8 P w) 1 f fd fk (dC K oi):=by
 simp_arith [pD,(ai (aA (i:=2) pD.nd (aM bL (au av (au av (rv 0) ag) ag) (au av (au av (rv 1) ag) ag)))
   (ai (aA (i:=3) pD.nd (aM bL (au av (au av (rv 1) ag) ag) (au av (au av (rv 0) ag) ag)))
   (ai (aT (aE (ia hr.aU) (rv 2) (rv 3)) (ar (ay (fP gM (rv 2) (rv 3)))) aF)
   (ai (aT (aE (ia hr.aU) (au av (rv 0) ag) (au av (rv 1) ag)) (ar (ay (fP (m6.or gM As) (au av (rv 0) ag) (au av (rv 1) ag)))) aF)
   (ar (ay (fP As (au av (rv 0) ag) (au av (rv 1) ag))))))))]
 ·rcases h with ⟨a,b,rfl,_⟩ | ⟨a,b,rfl,_⟩ <;> rfl
 refine hX ?_
 rcases h with ⟨a,b,rfl,sa,sb,q⟩ | ⟨a,b,rfl,sa,sb,q⟩
 ·simp_arith! [bX,N7,N8,JY]
  refine ⟨.of sa.num sb.den,.of sb.num sa.den,?_⟩
  unfold Ky.lt at q
  by_cases e:a.p=b.p
  ·rw [if_pos e] at q
   rw [if_pos ((lF _ _).mpr e)]
   by_cases k:a.v=b.v
   ·rw [if_pos k] at q ⊢;exact q
   ·rw [if_neg k] at q ⊢;exact .inl q
  ·rw [if_neg e] at q
   rw [if_neg (λz=>e ((lF _ _).mp z))]
   simp only [oG]
   exact q
 ·simp_arith! [bX,E_,Fb,Fc]
  refine ⟨.of sa.num sb.den,.of sb.num sa.den,?_⟩
  unfold aB.lt at q
  by_cases e:a.m=b.m
  ·rw [if_pos e] at q
   rw [if_pos ((lF _ _).mpr e)]
   by_cases k:a.h=b.h
   ·rw [if_pos k] at q ⊢;exact q
   ·rw [if_neg k] at q ⊢;exact .inr q
  ·rw [if_neg e] at q
   rw [if_neg (λz=>e ((lF _ _).mp z))]
   simp only [oG]
   exact q
abbrev qN:Stmt:=(top 62)
abbrev iH:List Str:=["_law_legs","_law_moment"]
theorem jj:L2.aw ["_law_legs","_law_moment","_law_out","_law_name","_law_row","_law_at_here"] ["_law_legs","_law_moment"] (L2.aj qN):=d7
def tj:cM:=λxs J Q _=>∃(D:Addr) (fs:List (Str × aQ)) (ep:Nat) (t:Rat),xs=[.ref D,fr t]∧J D=some (.dct (bI fs) ep)∧(fs.map (·.1)).Nodup∧fs.length≤100∧Sz 900 t∧(∀x∈fs,lV 900 x.2)∧Q (.fl ((cf t fs).map .str)) J
theorem DC {f:Addr} {fd:FuncData} (F:cm K "_law_order" "_law_order" qN f fd) (Z:bV mg) (p8:bq P w K mg base 2 "_law_at" fL me) (j_:bq P w K mg base 1 "_law_before" fk oi):aP P w K mg base (c8 P w) 3 f fd iH (dC K tj):=by
 simp_arith [jj,(ai (aA (i:=2) jj.nd (mC ah))
   (ai (dw bQ rfl (ig (rv 0)) (bz (i:=3) jj.nd) (ai (aA (i:=4) jj.nd (bO (af (aO p8 B hr (af (au bY (rv 0) (rv 3)) (af (rv 1) ah))) (af (au av (au bY (rv 0) (rv 3)) ag) (af (rv 3) ah)))))
   (ai (aA (i:=5) jj.nd ag)
   (ai (jh bQ (c7 (ft (aE gM (rv 5) (aJ bN rfl Z.len boot_len (af (rv 2) ah))) (dY (bt (aO j_ B hr (af (au av (rv 2) (rv 5)) (af (rv 4) ah))))))) (ar (aA (i:=5) jj.nd (aM cY (rv 5) ag))))
   (ar (aX (ie PySem.F.plainAttrs_list PySem.F.slot_list_insert PySem.F.type_list_insert i6 (rv 2) (af (rv 5) (af (rv 4) ah)))))))))
   (ar (ay (Pt (L2.aj qN) ["_law_legs","_law_moment","_law_out","_law_name","_law_row","_law_at_here"] [] rfl rfl rfl (gx (rv 2)) (λ_ _ _ _ _ _=>(au av (rv 0) ag))))))),F]
 ·obtain ⟨D,fs,ep,t,rfl,_⟩:=h;rfl
 obtain ⟨D,fs,ep,t,rfl,hD,hnd,hlen,st,sl,q⟩:=h
 refine hX ?_
 simp_all! []
 intro r hr'
 have nDr:D≠r:=by intro e;subst e;rw [hD] at hr';cases hr'
 simp_all! [aq nDr,hD]
 have hkv:(bI fs).map (λkv=>PV.str kv.1)=fs.map λx=>PV.str x.1:=by unfold bI;rw [Tw];rfl
 rw [hkv]
 obtain ⟨Inv,hInv⟩:∃Inv:Nat→Sr→Hq→Prop,∀i τ J',Inv i τ J'↔∃(u3 u4 u5:Option PV),τ=[some (.ref D),some (fr t),some (.ref r),u3,u4,u5]∧J'=put J r (.lst ((cK ((fs.take i).map (key t))).map Ky.V)):=⟨_,λ_ _ _=>Iff.rfl⟩
 refine eV Inv ((hInv _ _ _).mpr ⟨_,_,_,rfl,rfl⟩) (λi τ J' h=>?_) ?_ ?_
 ·obtain ⟨_,_,_,_,rfl⟩:=(hInv _ _ _).mp h
  rw [aq nDr];exact hD
 ·intro i x τ J' hx hv
  obtain ⟨u3,u4,u5,rfl,rfl⟩:=(hInv _ _ _).mp hv
  clear hv
  have hi:i < fs.length:=by have:=(Tj.mp hx).1;simpa using this
  rw [Tq,Tn hi] at hx
  cases hx
  rcases hfi:fs[i] with ⟨n,l⟩
  have hmem:(n,l)∈fs:=by rw [← hfi];exact TY hi
  have et:fs.take (i + 1)=fs.take i ++ [(n,l)]:=by rw [TR,Tn hi,hfi];rfl
  have hndt:((fs.take i).map (·.1)).Nodup:=by rw [Uv];exact hnd.sublist (Up _ _)
  obtain ⟨ys,hys⟩:∃ys,cK ((fs.take i).map (key t))=ys:=⟨_,rfl⟩
  have srt:oF Ky.lt ys:=by rw [← hys];exact cZ (by rw [cO];exact hndt)
  have hyl:ys.length=i:=by rw [← hys,i9,Th,TX];omega
  have hym:∀y∈ys,Sz 9000 y.p:=λy hy=>by
   rw [← hys,bB,Ti] at hy
   obtain ⟨x',hx',rfl⟩:=hy
   exact (ki (sl x' (T8 hx')) st).mono (by decide)
  have en:cK ((fs.take (i + 1)).map (key t))=qi Ky.lt (key t (n,l)) ys:=by rw [et,Ts,Tt,Uc,i_,hys]
  rw [hys]
  have hvn:j3 (bI fs) n=some l.V:=fS (f:=aQ.V) hnd hmem
  have sll:=sl _ hmem
  simp_all! [aq nDr,hD,hvn]
  refine ⟨l,t,rfl,sll.m,sll.p,st,sll.v,?_⟩
  simp_all! [aq nDr,hD,hvn,hZ,PX]
  have ek:(Ky.mk (l.at t) l.v n)=key t (n,l):=rfl
  rw [ek]
  have skn:Sz 9000 (key t (n,l)).p:=(ki sll st).mono (by decide)
  generalize key t (n,l)=kn at en skn ⊢
  refine oP (V:=Ky.V) (lt:=Ky.lt) (ys:=ys) (b:=kn) (iO:=2) (iA:=5) (iR:=4) rfl rfl rfl (by decide) (by decide) ak (λy hy R hR=>.inl ⟨y,kn,rfl,hym y hy,skn,hR⟩) (λhx hy h k=>DX (lt:=Ky.lt) Ky.tr srt hx hy h k) λj hj hlow hhigh=>?_
  simp_all! [ak]
  refine ⟨_,j,rfl,rfl,by rw [Th];exact hj,a8 (by rw [Th];omega),by omega,?_⟩
  rw [bM]
  refine (hInv _ _ _).mpr ⟨_,_,_,rfl,?_⟩
  rw [en,← BJ hj hlow hhigh,Ts,Tt,Uv,U2]
 ·intro τ J' hv
  obtain ⟨u3,u4,u5,rfl,rfl⟩:=(hInv _ _ _).mp hv
  rw [Th,T1]
  simp_all! [yR,ak]
  refine ⟨λ_=>true,(λx=>match x with | .tup [_,_,n]=>n | _=>.non),⟨a8 (by rw [Th,i9,Th];omega),λJ2 hs=>⟨hs _ _ ak,λx hx=>⟨⟨rfl,rfl⟩,λ_=>?_⟩⟩⟩,?_⟩
  ·obtain ⟨y,hy,rfl⟩:=Ti.mp hx
   simp_arith! [bX,JY]
   rfl
  ·rw [Ui.mpr λ_ _=>rfl,Tw]
   have e:(cf t fs).map PV.str=(cK (fs.map (key t))).map ((λx=>match x with | .tup [_,_,n]=>n | _=>.non) ∘ Ky.V):=by unfold cf;rw [Tw];rfl
   rw [e] at q
   exact Fg.less (fg hr') q
abbrev xg:Stmt:=(top 49)
abbrev iJ:List Str:=["_law_found","_law_due_here"]
theorem y0:L2.aw ["_law_found","_law_due_here","_law_one"] ["_law_found","_law_due_here"] (L2.aj xg):=d7
def xy:cM:=λxs J Q _=>∃ss:List Str,xs=[.fl (ss.map .str),.fl (ss.map .str)]∧ss.length≤900∧Q (.bl true) J
theorem F3 (ss:List Str):lY (ss.map PV.str)=true:=by
 induction ss with
 | nil=>rfl
 | cons x ss ih=>rw [Tt,pd,wO,ih];rfl
theorem EH (ss:List Str):eh (gQ (ss.map PV.str))≤1:=by
 induction ss with
 | nil=>simp [gQ,eh]
 | cons x ss ih=>simp only [Tt,gQ,gw,eh,dep];omega
theorem Bo (ss:List Str):G8 (.fl (ss.map .str)):=⟨by unfold nX;exact F3 ss,by
 have:=EH ss
 simp only [gw,dep];omega⟩
theorem DF {f:Addr} {fd:FuncData} (F:cm K "_law_words" "_law_words" xg f fd) (Z:bV mg):aP P w K mg base (c8 P w) 1 f fd iJ (dC K xy):=by
 simp_arith [y0,(ai (aT (c7 (gj (bU (bt (aJ gG rfl Z.isinstance boot_isinstance (af (rv 0) (af (kZ rfl Z.list boot_list) ah))))) (fu (aE (ia hr.aU) (aJ bN rfl Z.len boot_len (af (rv 0) ah)) (aJ bN rfl Z.len boot_len (af (rv 1) ah)))))) (ar (ay dN)) aF)
   (ai (dw bQ rfl (gx (rv 0)) (bz (i:=2) y0.nd) (ar (aT (bU (bt (aJ gG rfl Z.isinstance boot_isinstance (af (rv 2) (af (kZ rfl Z.str boot_str) ah))))) (ar (ay dN)) aF)))
   (ar (ay (fP (cI hr.aU) (rv 0) (rv 1))))))]
 ·obtain ⟨ss,rfl,_⟩:=h;rfl
 obtain ⟨ss,rfl,hl,q⟩:=h
 refine hX ?_
 simp_all! [Th]
 obtain ⟨Inv,hInv⟩:∃Inv:Nat→Sr→Hq→Prop,∀i τ J',Inv i τ J'↔∃u:Option PV,τ=[some (.fl (ss.map .str)),some (.fl (ss.map .str)),u]∧J'=J:=⟨_,λ_ _ _=>Iff.rfl⟩
 refine eV Inv ((hInv _ _ _).mpr ⟨_,rfl,rfl⟩) (λ_ _ _ _=>trivial) ?_ ?_
 ·intro i x τ J' hx hv
  obtain ⟨u,rfl,rfl⟩:=(hInv _ _ _).mp hv
  obtain ⟨y,_,rfl⟩:=Ti.mp (To hx)
  simp_all! []
  exact (hInv _ _ _).mpr ⟨_,rfl,rfl⟩
 ·intro τ J' hv
  obtain ⟨u,rfl,rfl⟩:=(hInv _ _ _).mp hv
  simp_all! []
  refine ⟨Bo ss,(Bo ss).1,?_⟩
  rw [eq_self];exact q
abbrev pz:Stmt:=(top 50)
abbrev j1:List Str:=["_law_found","_law_due_here"]
theorem AS:L2.aw ["_law_found","_law_due_here"] ["_law_found","_law_due_here"] (L2.aj pz):=d7
def pI:cM:=λxs J Q _=>∃a:aB,xs=[a.v,a.v]∧Q (.bl true) J
theorem yB {f:Addr} {fd:FuncData} (F:cm K "_law_passrow" "_law_passrow" pz f fd) (Z:bV mg) (oz:bq P w K mg base 2 "_law_part" gq jS):aP P w K mg base (c8 P w) 3 f fd j1 (dC K pI):=by
 simp_arith [AS,(ai (aT (c7 (gj (bU (bt (aJ gG rfl Z.isinstance boot_isinstance (af (rv 0) (af (kZ rfl Z.tuple boot_tuple) ah))))) (fu (aE (ia hr.aU) (aJ bN rfl Z.len boot_len (af (rv 0) ah)) ag)))) (ar (ay dN)) aF)
   (ai (aT (c7 (gj (bU (bt (aJ gG rfl Z.isinstance boot_isinstance (af (au av (rv 0) ag) (af (kZ rfl Z.str boot_str) ah))))) (fu (bU (bt (aJ gG rfl Z.isinstance boot_isinstance (af (au av (rv 0) ag) (af (kZ rfl Z.str boot_str) ah)))))))) (ar (ay dN)) aF)
   (ar (ay (AK (aO oz B hr (af (au av (rv 0) ag) (af (au av (rv 1) ag) ah))) (wV (fP (cI hr.aU) (rv 0) (rv 1))))))))]
 ·obtain ⟨a,rfl,_⟩:=h;rfl
 obtain ⟨a,rfl,q⟩:=h
 refine hX ?_
 simp_arith! [bX,jS,E_,Fb,Fc,RX,Oa,QH,Kv,QK]
 exact q
abbrev mI:Stmt:=(top 51)
abbrev fM:List Str:=["_law_found","_law_due_here"]
theorem p6:L2.aw ["_law_found","_law_due_here","_law_k"] ["_law_found","_law_due_here"] (L2.aj mI):=d7
def mP:cM:=λxs J Q _=>∃(rows:List aB) (x:PV),xs=[x,.fl (rows.map aB.v)]∧my J x=some (rows.map aB.v)∧rows.length≤900∧Q (.bl true) J
theorem wx {f:Addr} {fd:FuncData} (F:cm K "_law_passrows" "_law_passrows" mI f fd) (Z:bV mg) (CG:bq P w K mg base 3 "_law_passrow" j1 pI):aP P w K mg base (c8 P w) 4 f fd fM (dC K mP):=by
 simp_arith [p6,(ai (aT (c7 (gj (bU (bt (aJ gG rfl Z.isinstance boot_isinstance (af (rv 0) (af (kZ rfl Z.list boot_list) ah))))) (fu (aE (ia hr.aU) (aJ bN rfl Z.len boot_len (af (rv 0) ah)) (aJ bN rfl Z.len boot_len (af (rv 1) ah)))))) (ar (ay dN)) aF)
   (ai (dw bQ rfl (lO rfl Z.range (af (aJ bN rfl Z.len boot_len (af (rv 1) ah)) ah)) (bz (i:=2) p6.nd) (ar (aT (bU (bt (aO CG B hr (af (au av (rv 0) (rv 2)) (af (au av (rv 1) (rv 2)) ah))))) (ar (ay dN)) aF)))
   (ar (ay dN))))]
 ·obtain ⟨rows,x,rfl,_⟩:=h;rfl
 obtain ⟨rows,x,rfl,hx,hl,q⟩:=h
 refine hX ?_
 simp_arith! [bX,Th,Kh hx,Aa hx]
 refine ⟨by omega,by omega,vU (λi τ J'=>∃u:Option PV,τ=[some x,some (.fl (rows.map aB.v)),u]∧J'=J) ⟨none,rfl,rfl⟩ ?_ ?_⟩
 ·rintro i τ J' hi ⟨u,rfl,rfl⟩
  have hi:i < rows.length:=by omega
  have ha:dt (rows.map aB.v) (0 + (i:Int))=some (rows[i].v):=by rw [Int.zero_add];exact EA (Tn hi)
  simp_arith! [bX,BP hx,ha,pI]
  exact ⟨_,rfl,rfl⟩
 ·rintro τ J' ⟨u,rfl,rfl⟩
  exact q
theorem xH {t p q:Rat} {v:Int} (hv:0 < v):Rat.divInt (t.num * ((p.den:Int) * (q.den:Int) * v) + (q.num * (p.den:Int) - p.num * (q.den:Int)) * (t.den:Int)) ((t.den:Int) * ((p.den:Int) * (q.den:Int) * v))=t + (q - p) / (v:Rat):=by
 have a:=cast_eq t
 have b:=cast_eq p
 have c:=cast_eq q
 have d:=eg t
 have e:=eg p
 have f:=eg q
 have k:(v:Rat)≠0:=pT (by omega)
 rw [Rat.divInt_eq_div]
 simp only [Rat.intCast_mul,Rat.intCast_add,Rat.intCast_sub,a,b,c]
 generalize (((t.den:Int)):Rat)=x at d ⊢
 generalize (((p.den:Int)):Rat)=y at e ⊢
 generalize (((q.den:Int)):Rat)=z at f ⊢
 generalize (v:Rat)=w at k ⊢
 have h1:y * z≠0:=λh=>by rcases Rat.mul_eq_zero.mp h with h | h <;> contradiction
 have h2:y * z * w≠0:=λh=>by rcases Rat.mul_eq_zero.mp h with h | h <;> contradiction
 have h3:x * (y * z * w)≠0:=λh=>by rcases Rat.mul_eq_zero.mp h with h | h <;> contradiction
 grind
theorem lV.pP {l:aQ} (h:lV 240 l) {t:Rat} (st:Sz 240 t):Sz 790 (l.at t):=by
 have s1:Sz 481 (t - l.m):=st.sub h.m
 have s2:Sz 545 ((t - l.m) * (l.v:Rat)):=s1.mul h.v
 exact h.p.add s2
theorem qT {t p q:Rat} {v:Int} (st:Sz 240 t) (sp:Sz 790 p) (sq:Sz 790 q) (bv:Bd 70 v) (hv:0 < v):Bd 1650 ((p.den:Int) * (q.den:Int) * v)∧Bd 1590 (q.num * (p.den:Int) - p.num * (q.den:Int))∧Bd 1900 ((t.den:Int) * ((p.den:Int) * (q.den:Int) * v))∧Sz 9000 (t + (q - p) / (v:Rat)):=by
 have h1:Bd 1650 ((p.den:Int) * (q.den:Int) * v):=.mul (.mul (k:=1580) sp.den sq.den) bv
 have h2:Bd 1590 (q.num * (p.den:Int) - p.num * (q.den:Int)):=.sub (Bd.mul (k:=1580) sq.num sp.den) (Bd.mul (k:=1580) sp.num sq.den)
 have h3:Bd 1900 ((t.den:Int) * ((p.den:Int) * (q.den:Int) * v)):=.mul st.den h1
 refine ⟨h1,h2,h3,?_⟩
 rw [← xH hv]
 have hd:0 < (t.den:Int) * ((p.den:Int) * (q.den:Int) * v):=Int.mul_pos (d6 _) (Int.mul_pos (Int.mul_pos (d6 _) (d6 _)) hv)
 exact (Sz.div (n:=1901) (.add (Bd.mul (k:=1900) st.num h1) (Bd.mul (k:=1900) h2 st.den)) (h3.mono (by decide)) (by omega)).mono (by decide)
theorem CA (p q:Rat):(0 < q.num * (p.den:Int) - p.num * (q.den:Int))=(p < q):=by
 rw [← oG p q];exact propext (by omega)
abbrev Gq:Stmt:=(top 63)
abbrev pY:List Str:=["_law_legs","_law_clock","_law_moment"]
theorem fR:L2.aw ["_law_legs","_law_clock","_law_moment","_law_out","_law_fast","_law_here","_law_slow","_law_pace","_law_there","_law_top","_law_under","_law_when","_law_row","_law_at_here"] ["_law_legs","_law_clock","_law_moment"] (L2.aj Gq):=d7
def KP:cM:=λxs J Q _=>∃(D:Addr) (fs:List (Str × aQ)) (ep:Nat) (t m:Rat),xs=[.ref D,fr t,fr m]∧J D=some (.dct (bI fs) ep)∧(fs.map (·.1)).Nodup∧fs.length≤20∧Sz 240 t∧Sz 900 m∧(∀x∈fs,lV 240 x.2)∧Q (.fl ((e_ t (fs.map (key t)) m).map aB.v)) J
theorem Io {f:Addr} {fd:FuncData} (F:cm K "_law_due" "_law_due" Gq f fd) (Z:bV mg) (p8:bq P w K mg base 2 "_law_at" fL me) (mV:bq P w K mg base 1 "_law_low" dJ jR) (j_:bq P w K mg base 1 "_law_before" fk oi):aP P w K mg base (c8 P w) 3 f fd pY (dC K KP):=by
 simp_arith [fR,(ai (aA (i:=3) fR.nd (mC ah))
   (ai (dw bQ rfl (ig (rv 0)) (bz (i:=4) fR.nd) (ai (aA (i:=5) fR.nd (aO p8 B hr (af (au bY (rv 0) (rv 4)) (af (rv 1) ah))))
   (ar (dw bQ rfl (ig (rv 0)) (bz (i:=6) fR.nd) (ai (aA (i:=7) fR.nd (aM d8 (au av (au bY (rv 0) (rv 4)) ag) (au av (au bY (rv 0) (rv 6)) ag)))
   (ai (aA (i:=8) fR.nd (aO p8 B hr (af (au bY (rv 0) (rv 6)) (af (rv 1) ah))))
   (ai (aA (i:=9) fR.nd (aM d8 (aM bL (au av (rv 8) ag) (au av (rv 5) ag)) (aM bL (au av (rv 5) ag) (au av (rv 8) ag))))
   (ar (aT (c7 (ft (aE kG (rv 7) ag) (dY (aE kG (rv 9) ag)))) (ai (aA (i:=10) fR.nd (aM bL (aM bL (au av (rv 5) ag) (au av (rv 8) ag)) (rv 7)))
   (ai (aA (i:=11) fR.nd (aO mV B hr (af (aM cY (aM bL (au av (rv 1) ag) (rv 10)) (aM bL (rv 9) (au av (rv 1) ag))) (af (aM bL (au av (rv 1) ag) (rv 10)) ah))))
   (ai (aA (i:=12) fR.nd (bO (af (rv 11) (af (rv 4) (af (rv 6) ah)))))
   (ai (aA (i:=13) fR.nd ag)
   (ai (jh bQ (c7 (ft (aE gM (rv 13) (aJ bN rfl Z.len boot_len (af (rv 3) ah))) (dY (bt (aO j_ B hr (af (au av (rv 3) (rv 13)) (af (rv 12) ah))))))) (ar (aA (i:=13) fR.nd (aM cY (rv 13) ag))))
   (ar (aT (aE FO (aM bL (au av (rv 11) ag) (au av (rv 2) ag)) (aM bL (au av (rv 2) ag) (au av (rv 11) ag))) (ar (aX (ie PySem.F.plainAttrs_list PySem.F.slot_list_insert PySem.F.type_list_insert i6 (rv 3) (af (rv 13) (af (rv 12) ah))))) aF))))))) aF)))))))))
   (ar (ay (rv 3))))),F]
 ·obtain ⟨D,fs,ep,t,m,rfl,_⟩:=h;rfl
 obtain ⟨D,fs,ep,t,m,rfl,hD,hnd,hlen,st,sm,sl,q⟩:=h
 refine hX ?_
 simp_all! []
 intro r hr'
 have nDr:D≠r:=by intro e;subst e;rw [hD] at hr';cases hr'
 simp_all! [aq nDr,hD]
 have hkv:(bI fs).map (λkv=>PV.str kv.1)=fs.map λx=>PV.str x.1:=by unfold bI;rw [Tw];rfl
 rw [hkv]
 obtain ⟨ks,hks⟩:∃ks,fs.map (key t)=ks:=⟨_,rfl⟩
 have hkn:(ks.map Ky.n).Nodup:=by rw [← hks,cO];exact hnd
 have hkl:ks.length=fs.length:=by rw [← hks,Th]
 have hkd:ks.Nodup:=List.Pairwise.of_map Ky.n (λa b h e=>h (by rw [e])) hkn
 have hkm:∀i (h:i < fs.length),ks[i]?=some (key t fs[i]):=λi h=>by rw [← hks,Tq,Tn h];rfl
 have hmz:∀a∈ks,∀b∈ks,b.v < a.v→Sz 9000 (dq t a b):=λa ha b hb h=>by
  rw [← hks] at ha hb
  obtain ⟨x,hx,rfl⟩:=Ti.mp ha
  obtain ⟨y,hy,rfl⟩:=Ti.mp hb
  exact (qT (v:=x.2.v - y.2.v) st ((sl x hx).pP st) ((sl y hy).pP st) (((sl x hx).v.sub (k:=66) (sl y hy).v).mono (by decide)) (by have:y.2.v < x.2.v:=h;omega)).2.2.2
 have hup:∀{ps:List (Ky × Ky)},(∀p∈ps,p.1∈ks∧p.2∈ks)→∀x∈bA t (b_ t m) ps,Sz 9000 x.m:=λhp x hx=>by
  obtain ⟨p,hp',hc,rfl⟩:=gB _ hx
  exact hmz _ (hp p hp').1 _ (hp p hp').2 (of_decide_eq_true hc).1
 have hnew:∀{i:Nat} {l:List Ky} {y:Ky},l.Nodup→l[i]?=some y→y ∉ l.take i:=λ{i l y} hl hy hm=>by
  obtain ⟨j,hj⟩:=TM.mp hm
  rw [VG] at hj
  split at hj
  ·rename_i hji
   obtain ⟨h1,e1⟩:=Tj.mp hj
   obtain ⟨h2,e2⟩:=Tj.mp hy
   have:=(Um hl).mp (e1.trans e2.symm)
   omega
  ·cases hj
 have pin:∀{i j:Nat} {a:Ky},a∈ks→∀p∈((ks.take i).flatMap λa=>ks.map λb=>(a,b)) ++ (ks.take j).map (λb=>(a,b)),p.1∈ks∧p.2∈ks:=λ{i j a} ha p hp=>by
  rcases Tv.mp hp with hp | hp
  ·obtain ⟨x,hx,hp⟩:=UO.mp hp
   obtain ⟨y,hy,rfl⟩:=Ti.mp hp
   exact ⟨T8 hx,hy⟩
  ·obtain ⟨y,hy,rfl⟩:=Ti.mp hp
   exact ⟨ha,T8 hy⟩
 obtain ⟨Inv,hInv⟩:∃Inv:Nat→Sr→Hq→Prop,∀i τ J',Inv i τ J'↔∃(u4 u5 u6 u7 u8 u9 u10 u11 u12 u13:Option PV),τ=[some (.ref D),some (fr t),some (fr m),some (.ref r),u4,u5,u6,u7,u8,u9,u10,u11,u12,u13]∧J'=put J r (.lst ((bA t (b_ t m) ((ks.take i).flatMap λa=>ks.map λb=>(a,b))).map aB.v))∧(bA t (b_ t m) ((ks.take i).flatMap λa=>ks.map λb=>(a,b))).length≤20 * i:=⟨_,λ_ _ _=>Iff.rfl⟩
 refine eV Inv ((hInv _ _ _).mpr ⟨_,_,_,_,_,_,_,_,_,_,rfl,rfl,Tr _⟩) (λi τ J' h=>?_) ?_ ?_
 ·obtain ⟨_,_,_,_,_,_,_,_,_,_,_,rfl,_⟩:=(hInv _ _ _).mp h
  rw [aq nDr];exact hD
 ·intro i x τ J' hx hv
  obtain ⟨u4,u5,u6,u7,u8,u9,u10,u11,u12,u13,rfl,rfl,hle⟩:=(hInv _ _ _).mp hv
  clear hv
  have hi:i < fs.length:=by have:=(Tj.mp hx).1;simpa using this
  rw [Tq,Tn hi] at hx
  cases hx
  have ha:=hkm i hi
  rcases hfi:fs[i] with ⟨n,l⟩
  have hmem:(n,l)∈fs:=by rw [← hfi];exact TY hi
  rw [hfi] at ha
  have hvn:j3 (bI fs) n=some l.V:=fS (f:=aQ.V) hnd hmem
  have sll:=sl _ hmem
  have sla:=sll.pP st
  simp_all! [aq nDr,hD,hvn]
  refine ⟨l,t,rfl,sll.m.mono (by decide),sll.p.mono (by decide),st.mono (by decide),sll.v,?_⟩
  simp_all! [aq nDr,hD,hkv]
  have hak:key t (n,l)∈ks:=To ha
  have eio:((ks.take (i + 1)).flatMap λa=>ks.map λb=>(a,b))=((ks.take i).flatMap λa=>ks.map λb=>(a,b)) ++ ks.map λb=>(key t (n,l),b):=by
   rw [TR,ha,List.flatMap_append];simp
  obtain ⟨In2,hIn2⟩:∃In2:Nat→Sr→Hq→Prop,∀j τ J',In2 j τ J'↔∃(u6 u7 u8 u9 u10 u11 u12 u13:Option PV),τ=[some (.ref D),some (fr t),some (fr m),some (.ref r),some (.str n),some (fr (l.at t)),u6,u7,u8,u9,u10,u11,u12,u13]∧J'=put J r (.lst ((bA t (b_ t m) (((ks.take i).flatMap λa=>ks.map λb=>(a,b)) ++ (ks.take j).map λb=>(key t (n,l),b))).map aB.v))∧(bA t (b_ t m) (((ks.take i).flatMap λa=>ks.map λb=>(a,b)) ++ (ks.take j).map λb=>(key t (n,l),b))).length≤20 * i + j:=⟨_,λ_ _ _=>Iff.rfl⟩
  refine eV In2 ((hIn2 _ _ _).mpr ⟨_,_,_,_,_,_,_,_,rfl,by simp,by simpa using hle⟩) (λj τ J' h=>?_) ?_ ?_
  ·obtain ⟨_,_,_,_,_,_,_,_,_,rfl,_⟩:=(hIn2 _ _ _).mp h
   rw [aq nDr];exact hD
  ·intro j x τ J2 hx hv
   obtain ⟨u6,u7,u8,u9,u10,u11,u12,u13,rfl,rfl,hle2⟩:=(hIn2 _ _ _).mp hv
   clear hv
   have hj:j < fs.length:=by have:=(Tj.mp hx).1;simpa using this
   rw [Tq,Tn hj] at hx
   cases hx
   have hb:=hkm j hj
   rcases hfj:fs[j] with ⟨n',l'⟩
   have hmem':(n',l')∈fs:=by rw [← hfj];exact TY hj
   rw [hfj] at hb
   have hvn':j3 (bI fs) n'=some l'.V:=fS (f:=aQ.V) hnd hmem'
   have sll':=sl _ hmem'
   have sla':=sll'.pP st
   have hbk:key t (n',l')∈ks:=To hb
   have ejo:ks.take (j + 1)=ks.take j ++ [key t (n',l')]:=by rw [TR,hb];rfl
   have ef2:bA t (b_ t m) (((ks.take i).flatMap λa=>ks.map λb=>(a,b)) ++ (ks.take (j + 1)).map λb=>(key t (n,l),b))=f_ t (b_ t m) (bA t (b_ t m) (((ks.take i).flatMap λa=>ks.map λb=>(a,b)) ++ (ks.take j).map λb=>(key t (n,l),b))) (key t (n,l),key t (n',l')):=by
    rw [ejo,Ts,← Vl];exact dG _ _ _ _
   have srt:=fF t (b_ t m) (((ks.take i).flatMap λa=>ks.map λb=>(a,b)) ++ (ks.take j).map λb=>(key t (n,l),b))
   have szs:=hup (pin (i:=i) (j:=j) hak)
   have hdr:cX n n' (bA t (b_ t m) (((ks.take i).flatMap λa=>ks.map λb=>(a,b)) ++ (ks.take j).map λb=>(key t (n,l),b)))=bA t (b_ t m) (((ks.take i).flatMap λa=>ks.map λb=>(a,b)) ++ (ks.take j).map λb=>(key t (n,l),b)):=by
    refine uV (p:=(key t (n,l),key t (n',l'))) (ub.of hkn λp hp=>?_) λhm=>?_
    ·rcases Tv.mp hp with hp | hp
     ·exact pin hak p hp
     ·rw [Tx] at hp;subst hp;exact ⟨hak,hbk⟩
    ·rcases Tv.mp hm with hm | hm
     ·obtain ⟨x,hx,hp⟩:=UO.mp hm
      obtain ⟨y,hy,e⟩:=Ti.mp hp
      cases e
      exact hnew hkd ha hx
     ·obtain ⟨y,hy,e⟩:=Ti.mp hm
      have:y=key t (n',l'):=(Prod.mk.inj e).2
      subst this
      exact hnew hkd hb hy
   generalize bA t (b_ t m) (((ks.take i).flatMap λa=>ks.map λb=>(a,b)) ++ (ks.take j).map λb=>(key t (n,l),b))=rows at hle2 ef2 srt szs hdr ⊢
   have mQ:b_ t m (key t (n,l),key t (n',l'))=false→∀{v6 v7 v8 v9 v10 v11 v12 v13},In2 (j + 1) [some (.ref D),some (fr t),some (fr m),some (.ref r),some (.str n),some (fr (l.at t)),v6,v7,v8,v9,v10,v11,v12,v13] (put J r (.lst (rows.map aB.v))):=λhc _ _ _ _ _ _ _ _=>by
    have e:f_ t (b_ t m) rows (key t (n,l),key t (n',l'))=rows:=by unfold f_;rw [if_neg (by rw [hc];decide)]
    exact (hIn2 _ _ _).mpr ⟨_,_,_,_,_,_,_,_,rfl,by rw [ef2,e],by rw [ef2,e];omega⟩
   simp_all! [aq nDr,hD,hvn,hvn',hZ]
   refine ⟨l',t,rfl,sll'.m.mono (by decide),sll'.p.mono (by decide),st.mono (by decide),sll'.v,?_⟩
   simp_all! [CA]
   refine ⟨.of sla'.num sla.den,.of sla.num sla'.den,?_⟩
   try (refine hNq _ _ ?_;clear hNq Nq;simp_all! [CA])
   by_cases c1n:¬ 0 < l.v - l'.v
   ·rw [if_neg c1n]
    exact mQ (decide_eq_false (λz=>by have:l'.v < l.v:=z.1;omega))
   have c1:=Decidable.not_not.mp c1n
   rw [if_pos c1]
   by_cases c2n:¬ l.at t < l'.at t
   ·rw [if_neg c2n]
    exact mQ (decide_eq_false (λz=>c2n z.2.1))
   have c2:=Decidable.not_not.mp c2n
   rw [if_pos c2]
   have bv:Bd 70 (l.v - l'.v):=(sll.v.sub (k:=66) sll'.v).mono (by decide)
   obtain ⟨z1,z2,z3,z4⟩:=qT st sla sla' bv c1
   have ew:t + (l'.at t - l.at t) / ((l.v - l'.v:Int):Rat)=dq t (key t (n,l)) (key t (n',l')):=rfl
   have hd:0 < (t.den:Int) * (((l.at t).den:Int) * ((l'.at t).den:Int) * (l.v - l'.v)):=Int.mul_pos (d6 _) (Int.mul_pos (Int.mul_pos (d6 _) (d6 _)) c1)
   simp_all! []
   refine ⟨.of sla.den sla'.den,.of (Bd.mul (k:=1580) sla.den sla'.den) bv,?_⟩
   simp_all! [jR]
   refine ⟨.of st.num z1,.of z2 st.den,.of st.den z1,hd,z3.mono (by decide),?_⟩
   rw [xH c1,ew]
   rw [ew] at z4
   have hcp:∀b:Bool,b_ t m (key t (n,l),key t (n',l'))=b↔decide (dq t (key t (n,l)) (key t (n',l'))≤m)=b:=λb=>by
    have:b_ t m (key t (n,l),key t (n',l'))=decide (dq t (key t (n,l)) (key t (n',l'))≤m):=decide_eq_decide.mpr ⟨λz=>z.2.2,λz=>⟨by show l'.v < l.v;omega,c2,z⟩⟩
    rw [this]
   have eput:f_ t (b_ t m) rows (key t (n,l),key t (n',l'))=if b_ t m (key t (n,l),key t (n',l'))=true then i4 ⟨dq t (key t (n,l)) (key t (n',l')),n,n'⟩ rows else rows:=by
    unfold f_
    split
    ·show i4 _ (cX n n' rows)=_;rw [hdr];rfl
    ·rfl
   generalize dq t (key t (n,l)) (key t (n',l'))=wh at z4 hcp eput ⊢
   simp_all! [GW]
   obtain ⟨row,hrow⟩:∃row:aB,aB.mk wh n n'=row:=⟨_,rfl⟩
   have erm:row.m=wh:=by rw [← hrow]
   rw [hrow] at eput ⊢
   refine oP (V:=aB.v) (lt:=aB.lt) (ys:=rows) (b:=row) (iO:=3) (iA:=13) (iR:=12) rfl rfl rfl (by decide) (by decide) ak (λx hx R hR=>.inr ⟨x,row,rfl,szs x hx,by rw [erm];exact z4,hR⟩) (λhx hy h k=>tu srt hx hy h k) λh hj hlow hhigh=>?_
   have cle:(wh.num * (m.den:Int)≤m.num * (wh.den:Int))=(wh≤m):=propext (Rat.le_iff wh m).symm
   have stop:¬ wh≤m→b_ t m (key t (n,l),key t (n',l'))=false:=λz=>(hcp false).mpr (decide_eq_false z)
   simp_all! [ak,cle]
   refine ⟨.of z4.num sm.den,.of sm.num z4.den,?_⟩
   by_cases c6:wh≤m
   ·rw [if_pos c6]
    rw [if_pos ((hcp true).mpr (decide_eq_true c6))] at eput
    simp_all! [ak]
    refine ⟨_,h,rfl,rfl,by rw [Th];exact hj,a8 (by rw [Th];omega),by omega,?_⟩
    rw [bM]
    refine (hIn2 _ _ _).mpr ⟨_,_,_,_,_,_,_,_,rfl,?_,by rw [ef2,eput,rM];omega⟩
    rw [ef2,eput,← vW hj hlow hhigh,Ts,Tt,Uv,U2]
   ·rw [if_neg c6]
    exact mQ (stop c6)
  ·intro τ J2 hv
   obtain ⟨u6,u7,u8,u9,u10,u11,u12,u13,rfl,rfl,hle2⟩:=(hIn2 _ _ _).mp hv
   rw [Th,← hkl,T1,← eio] at hle2 ⊢
   exact (hInv _ _ _).mpr ⟨_,_,_,_,_,_,_,_,_,_,rfl,rfl,by omega⟩
 ·intro τ J' hv
  obtain ⟨u4,u5,u6,u7,u8,u9,u10,u11,u12,u13,rfl,rfl,hle⟩:=(hInv _ _ _).mp hv
  rw [Th,← hkl,T1,xU hkn,← hks]
  simp_all! []
  exact Fg.oN (fg hr') ak hr' q
theorem cq.C6 {L:Ln} (ok:cq L):L.fs.length≤12:=by
 have:=ok.rl
 rw [ok.row,sf] at this;exact this
theorem rq (t:Rat) (ks:List Ky) (h:(ks.map Ky.n).Nodup):(eS t ks).length≤ks.length:=by
 rw [← tH h]
 have h1:=lI t cU ((cK ks).zip (cK ks).tail)
 rw [UY,i9] at h1
 omega
def Es (t:Rat) (fs gs:List (Str × aQ)):Prop:=∀x,x∈fs.map (key t)↔x∈gs.map (key t)
abbrev pA:Stmt:=(top 65)
abbrev j2:List Str:=["_law_legs","_law_clock"]
theorem bZ:L2.aw ["_law_legs","_law_clock","_law_row","_law_out","_law_k","_law_here","_law_there","_law_pace","_law_top","_law_under","_law_when","_law_bell","_law_at_here"] ["_law_legs","_law_clock"] (L2.aj pA):=d7
def GH:cM:=λxs J Q _=>∃(D:Addr) (fs:List (Str × aQ)) (ep:Nat) (t:Rat),xs=[.ref D,fr t]∧J D=some (.dct (bI fs) ep)∧(fs.map (·.1)).Nodup∧fs.length≤20∧Sz 240 t∧(∀x∈fs,lV 240 x.2)∧Q (.fl ((eS t (fs.map (key t))).map aB.v)) J
theorem yC {f:Addr} {fd:FuncData} (F:cm K "_law_ringdue" "_law_ringdue" pA f fd) (Z:bV mg) (vF:bq P w K mg base 3 "_law_order" iH tj) (p8:bq P w K mg base 2 "_law_at" fL me) (mV:bq P w K mg base 1 "_law_low" dJ jR) (j_:bq P w K mg base 1 "_law_before" fk oi):aP P w K mg base (c8 P w) 4 f fd j2 (dC K GH):=by
 simp_arith [bZ,(ai (aA (i:=2) bZ.nd (aO vF B hr (af (rv 0) (af (rv 1) ah))))
   (ai (aA (i:=3) bZ.nd (mC ah))
   (ai (dw bQ rfl (lO rfl Z.range (af (aM d8 (aJ bN rfl Z.len boot_len (af (rv 2) ah)) ag) ah)) (bz (i:=4) bZ.nd) (ai (aA (i:=5) bZ.nd (aO p8 B hr (af (au bY (rv 0) (au av (rv 2) (rv 4))) (af (rv 1) ah))))
   (ai (aA (i:=6) bZ.nd (aO p8 B hr (af (au bY (rv 0) (au av (rv 2) (aM cY (rv 4) ag))) (af (rv 1) ah))))
   (ai (aA (i:=7) bZ.nd (aM d8 (au av (au bY (rv 0) (au av (rv 2) (rv 4))) ag) (au av (au bY (rv 0) (au av (rv 2) (aM cY (rv 4) ag))) ag)))
   (ar (aT (aE kG (rv 7) ag) (ai (aA (i:=8) bZ.nd (aM d8 (aM bL (au av (rv 6) ag) (au av (rv 5) ag)) (aM bL (au av (rv 5) ag) (au av (rv 6) ag))))
   (ai (aA (i:=9) bZ.nd (aM bL (aM bL (au av (rv 5) ag) (au av (rv 6) ag)) (rv 7)))
   (ai (aA (i:=10) bZ.nd (aO mV B hr (af (aM cY (aM bL (au av (rv 1) ag) (rv 9)) (aM bL (rv 8) (au av (rv 1) ag))) (af (aM bL (au av (rv 1) ag) (rv 9)) ah))))
   (ai (aA (i:=11) bZ.nd (bO (af (rv 10) (af (au av (rv 2) (rv 4)) (af (au av (rv 2) (aM cY (rv 4) ag)) ah)))))
   (ai (aA (i:=12) bZ.nd ag)
   (ai (jh bQ (c7 (ft (aE gM (rv 12) (aJ bN rfl Z.len boot_len (af (rv 3) ah))) (dY (bt (aO j_ B hr (af (au av (rv 3) (rv 12)) (af (rv 11) ah))))))) (ar (aA (i:=12) bZ.nd (aM cY (rv 12) ag))))
   (ar (aX (ie PySem.F.plainAttrs_list PySem.F.slot_list_insert PySem.F.type_list_insert i6 (rv 3) (af (rv 12) (af (rv 11) ah))))))))))) aF))))))
   (ar (ay (rv 3)))))),F]
 ·obtain ⟨D,fs,ep,t,rfl,_⟩:=h;rfl
 obtain ⟨D,fs,ep,t,rfl,hD,hnd,hlen,st,sl,q⟩:=h
 refine hX ?_
 simp_all! []
 refine ⟨D,fs,ep,t,rfl,hD,hnd,by omega,st.mono (by decide),λx hx=>(sl x hx).mono (by decide),?_⟩
 simp_all! []
 intro r hr'
 have nDr:D≠r:=by intro e;subst e;rw [hD] at hr';cases hr'
 obtain ⟨ks,hks⟩:∃ks,cK (fs.map (key t))=ks:=⟨_,rfl⟩
 have hrow:(cf t fs).map PV.str=ks.map λk=>PV.str k.n:=by unfold cf;rw [hks,Tw];rfl
 have hkn0:((fs.map (key t)).map Ky.n).Nodup:=by rw [cO];exact hnd
 have hks':oF Ky.lt ks:=by rw [← hks];exact cZ hkn0
 have hkn:(ks.map Ky.n).Nodup:=by rw [← hks];exact lS (cZ hkn0) (λx hx y hy e=>i8 hkn0 x ((bB _ _).mp hx) y ((bB _ _).mp hy) e)
 have hkd:ks.Nodup:=List.Pairwise.of_map Ky.n (λa b h e=>h (by rw [e])) hkn
 have hkl:ks.length=fs.length:=by rw [← hks,i9,Th]
 have hkf:∀a∈ks,∃l,(a.n,l)∈fs∧a=key t (a.n,l):=λa ha=>by
  rw [← hks,bB] at ha
  obtain ⟨x,hx,rfl⟩:=Ti.mp ha
  exact ⟨x.2,hx,rfl⟩
 have hmz:∀a∈ks,∀b∈ks,b.v < a.v→Sz 9000 (dq t a b):=λa ha b hb h=>by
  obtain ⟨l,hl,ea⟩:=hkf a ha
  obtain ⟨l',hl',eb⟩:=hkf b hb
  have hv:l'.v < l.v:=by rw [ea,eb] at h;exact h
  rw [ea,eb]
  exact (qT (v:=l.v - l'.v) st ((sl _ hl).pP st) ((sl _ hl').pP st) (((sl _ hl).v.sub (k:=66) (sl _ hl').v).mono (by decide)) (by omega)).2.2.2
 rw [hrow]
 simp_all! [aq nDr,hD,Th]
 generalize hps:ks.zip ks.tail=ps
 have hpl:ps.length=ks.length - 1:=by rw [← hps,UY,List.length_tail];omega
 have hpm:∀x∈ps,x.1∈ks∧x.2∈ks:=λx hx=>by
  rw [← hps] at hx
  obtain ⟨i,h3,h4⟩:=dj.mp (show (x.1,x.2)∈_ from hx)
  exact ⟨To h3,To h4⟩
 have hup:∀i,∀x∈bA t cU (ps.take i),Sz 9000 x.m:=λi x hx=>by
  obtain ⟨p,hp',hc,rfl⟩:=gB _ hx
  have:=hpm p (T8 hp')
  exact hmz _ this.1 _ this.2 (of_decide_eq_true hc)
 refine ⟨by omega,by omega,?_⟩
 have hrn:((ks.length:Int) - 1).toNat=ps.length:=by omega
 rw [hrn]
 obtain ⟨Inv,hInv⟩:∃Inv:Nat→Sr→Hq→Prop,∀i τ J',Inv i τ J'↔∃(u4 u5 u6 u7 u8 u9 u10 u11 u12:Option PV),τ=[some (.ref D),some (fr t),some (.fl (ks.map λk=>PV.str k.n)),some (.ref r),u4,u5,u6,u7,u8,u9,u10,u11,u12]∧J'=put J r (.lst ((bA t cU (ps.take i)).map aB.v)):=⟨_,λ_ _ _=>Iff.rfl⟩
 refine vU Inv ((hInv _ _ _).mpr ⟨_,_,_,_,_,_,_,_,_,rfl,rfl⟩) ?_ ?_
 ·intro i τ J' hi hv
  obtain ⟨u4,u5,u6,u7,u8,u9,u10,u11,u12,rfl,rfl⟩:=(hInv _ _ _).mp hv
  clear hv
  have hpi:ps[i]?=some ps[i]:=Tn hi
  have et:ps.take (i + 1)=ps.take i ++ [ps[i]]:=by rw [TR,hpi];rfl
  rcases hab:ps[i] with ⟨a,y⟩
  rw [hab] at hpi et
  have hpi0:=hpi
  rw [← hps] at hpi
  obtain ⟨ha,hb⟩:=Ua.mp hpi
  rw [U1] at hb
  simp only at ha hb
  have hak:=To ha
  have hbk:=To hb
  have srt:=fF t cU (ps.take i)
  have szs:=hup i
  have hle:=lI t cU (ps.take i)
  rw [TX] at hle
  have ef2:bA t cU (ps.take (i + 1))=f_ t cU (bA t cU (ps.take i)) (a,y):=by rw [et];exact dG _ _ _ _
  have hdr:cX a.n y.n (bA t cU (ps.take i))=bA t cU (ps.take i):=by
   refine uV (p:=(a,y)) (ub.of hkn λp hp=>?_) λhm=>?_
   ·rcases Tv.mp hp with hp | hp
    ·exact hpm p (T8 hp)
    ·rw [Tx] at hp;subst hp;exact ⟨hak,hbk⟩
   ·obtain ⟨j,hj⟩:=TM.mp hm
    rw [VG] at hj
    split at hj
    ·rename_i hji
     rw [← hps] at hj
     obtain ⟨h1,_⟩:=Ua.mp hj
     simp only at h1
     obtain ⟨k1,e1⟩:=Tj.mp h1
     obtain ⟨k2,e2⟩:=Tj.mp ha
     have:=(Um hkd).mp (e1.trans e2.symm)
     omega
    ·cases hj
  generalize bA t cU (ps.take i)=rows at hle ef2 srt szs hdr ⊢
  obtain ⟨l,hmem,ea⟩:=hkf a hak
  obtain ⟨l',hmem',eb⟩:=hkf y hbk
  have hvn:j3 (bI fs) a.n=some l.V:=fS (f:=aQ.V) hnd hmem
  have hvn':j3 (bI fs) y.n=some l'.V:=fS (f:=aQ.V) hnd hmem'
  have sll:=sl _ hmem
  have sla:=sll.pP st
  have sll':=sl _ hmem'
  have sla':=sll'.pP st
  have h1:dt (ks.map λk=>PV.str k.n) (0 + (i:Int))=some (.str a.n):=by rw [Int.zero_add];exact bx (by rw [Tq,ha];rfl)
  have h2:dt (ks.map λk=>PV.str k.n) (0 + (i:Int) + 1)=some (.str y.n):=by rw [Int.zero_add,show (i:Int) + 1=((i + 1:Nat):Int) by omega];exact bx (by rw [Tq,hb];rfl)
  have eav:a.v=l.v:=by rw [ea];rfl
  have ebv:y.v=l'.v:=by rw [eb];rfl
  simp_all! [h1,aq nDr,hD,hvn]
  refine ⟨l,t,rfl,sll.m.mono (by decide),sll.p.mono (by decide),st.mono (by decide),sll.v,?_⟩
  simp_all! [h2,aq nDr,hD,hvn']
  refine ⟨l',t,rfl,sll'.m.mono (by decide),sll'.p.mono (by decide),st.mono (by decide),sll'.v,?_⟩
  simp_all! [h1,h2,aq nDr,hD,hvn,hvn',hZ]
  by_cases c1n:¬ 0 < l.v - l'.v
  ·rw [if_neg c1n]
   have hc:cU (a,y)=false:=decide_eq_false (λz=>by have:y.v < a.v:=z;omega)
   have e:f_ t cU rows (a,y)=rows:=by unfold f_;rw [if_neg (by rw [hc];decide)]
   exact (hInv _ _ _).mpr ⟨_,_,_,_,_,_,_,_,_,rfl,by rw [ef2,e]⟩
  have c1:=Decidable.not_not.mp c1n
  rw [if_pos c1]
  have bv:Bd 70 (l.v - l'.v):=(sll.v.sub (k:=66) sll'.v).mono (by decide)
  obtain ⟨z1,z2,z3,z4⟩:=qT st sla sla' bv c1
  have ew:t + (l'.at t - l.at t) / ((l.v - l'.v:Int):Rat)=dq t a y:=by rw [ea,eb];rfl
  have hd:0 < (t.den:Int) * (((l.at t).den:Int) * ((l'.at t).den:Int) * (l.v - l'.v)):=Int.mul_pos (d6 _) (Int.mul_pos (Int.mul_pos (d6 _) (d6 _)) c1)
  simp_all! []
  refine ⟨.of sla'.num sla.den,.of sla.num sla'.den,?_⟩
  simp_all! []
  refine ⟨.of sla.den sla'.den,.of (Bd.mul (k:=1580) sla.den sla'.den) bv,?_⟩
  simp_all! [jR]
  refine ⟨.of st.num z1,.of z2 st.den,.of st.den z1,hd,z3.mono (by decide),?_⟩
  rw [xH c1,ew]
  rw [ew] at z4
  have hcp:cU (a,y)=true:=decide_eq_true (by show y.v < a.v;omega)
  have eput:f_ t cU rows (a,y)=i4 ⟨dq t a y,a.n,y.n⟩ rows:=by
   unfold f_
   rw [if_pos hcp]
   show i4 _ (cX a.n y.n rows)=_;rw [hdr];rfl
  generalize dq t a y=wh at z4 eput ⊢
  simp_all! [h1,h2,GW]
  obtain ⟨row,hrow'⟩:∃row:aB,aB.mk wh a.n y.n=row:=⟨_,rfl⟩
  have erm:row.m=wh:=by rw [← hrow']
  rw [hrow'] at eput ⊢
  refine oP (V:=aB.v) (lt:=aB.lt) (ys:=rows) (b:=row) (iO:=3) (iA:=12) (iR:=11) rfl rfl rfl (by decide) (by decide) ak (λx hx R hR=>.inr ⟨x,row,rfl,szs x hx,by rw [erm];exact z4,hR⟩) (λhx hy h k=>tu srt hx hy h k) λj hj hlow hhigh=>?_
  simp_all! [ak]
  refine ⟨_,j,rfl,rfl,by rw [Th];exact hj,a8 (by rw [Th];omega),by omega,?_⟩
  rw [bM]
  refine (hInv _ _ _).mpr ⟨_,_,_,_,_,_,_,_,_,rfl,?_⟩
  rw [ef2,eput,← vW hj hlow hhigh,Ts,Tt,Uv,U2]
 ·intro τ J' hv
  obtain ⟨u4,u5,u6,u7,u8,u9,u10,u11,u12,rfl,rfl⟩:=(hInv _ _ _).mp hv
  rw [T1,← hps,← hks,tH hkn0]
  simp_all! []
  exact Fg.oN (fg hr') ak hr' q
abbrev sJ:Stmt:=(top 66)
abbrev kO:List Str:=["_law_lane","_law_legs","_law_clock"]
theorem DU:L2.aw ["_law_lane","_law_legs","_law_clock"] ["_law_lane","_law_legs","_law_clock"] (L2.aj sJ):=d7
def zf (cN cL:Addr):cM:=λxs J Q _=>∃p L D ep gs,xs=[.ref p,.ref D,fr L.t]∧ba cN cL J p L∧cq L∧J D=some (.dct (bI gs) ep)∧(gs.map (·.1)).Nodup∧gs.length≤20∧(∀x∈gs,lV 240 x.2)∧Es L.t L.fs gs∧Q (.bl true) J
theorem Ak {cN cL f:Addr} {fd:FuncData} (F:cm K "_law_stands" "_law_stands" sJ f fd) (Z:bV mg) (oz:bq P w K mg base 2 "_law_part" gq jS) (qx:bq P w K mg base 1 "_law_words" iJ xy) (vF:bq P w K mg base 3 "_law_order" iH tj) (mh:bq P w K mg base 4 "_law_passrows" fM mP) (CH:bq P w K mg base 4 "_law_ringdue" j2 GH)
  (jA:cG P w K mg base cN 1 "clock" l6 (y9 cN cL)) (cR:cG P w K mg base cN 1 "order" iE (sZ cN cL)) (df:cG P w K mg base cN 7 "bells" iB (sX cN cL)):aP P w K mg base (c8 P w) 8 f fd kO (dC K (zf cN cL)):=by
 simp_arith [DU,(ai (aT (bU (bt (aO oz B hr (af (cj (pl:=_) jA B hr (rv 0)) (af (rv 2) ah))))) (ar (ay dN)) aF)
   (ai (aT (bU (bt (aO qx B hr (af (cj (pl:=_) cR B hr (rv 0)) (af (aO vF B hr (af (rv 1) (af (rv 2) ah))) ah))))) (ar (ay dN)) aF)
   (ar (ay (aO mh B hr (af (cj (pl:=_) df B hr (rv 0)) (af (aO CH B hr (af (rv 1) (af (rv 2) ah))) ah)))))))]
 ·obtain ⟨p,L,D,ep,gs,rfl,_⟩:=h;rfl
 obtain ⟨p,L,D,ep,gs,rfl,b,ok,hD,hnd,hgl,sg,same,q⟩:=h
 have bo:=b.ob
 have st:Sz 240 L.t:=(pW ok.ts).mono (by decide)
 have e1:cf L.t gs=L.row:=by rw [ok.row];exact yH hnd ok.JU λx=>(same x).symm
 have e2:eS L.t (gs.map (key L.t))=eS L.t (L.fs.map (key L.t)):=zJ (by rw [cO];exact hnd) ok.knd λx=>(same x).symm
 have hrl:=ok.rl
 have hbl:=rq L.t (L.fs.map (key L.t)) ok.knd
 rw [Th] at hbl
 have hfl:=ok.C6
 refine hX ?_
 simp_all! [bo]
 refine ⟨dB _ _ _ _,p,L,rfl,b,L.t,rfl,?_⟩
 simp_all! [bo]
 refine ⟨dB _ _ _ _,p,L,rfl,b,.inl ?_⟩
 refine ⟨D,gs,ep,L.t,rfl,hD,hnd,by omega,st.mono (by decide),λx hx=>(sg x hx).mono (by decide),?_⟩
 rw [e1]
 refine ⟨L.row,rfl,by omega,?_⟩
 simp_all! [bo]
 refine ⟨dB _ _ _ _,p,L,rfl,b,ok,.inl ?_⟩
 refine ⟨D,gs,ep,L.t,rfl,hD,hnd,hgl,st,sg,?_⟩
 rw [e2]
 exact ⟨_,_,rfl,rfl,by omega,q⟩
def xN:List aQ→Prop
 | a :: b :: r=>b.p=a.at b.m∧xN (b :: r)
 | _=>True
theorem lE:∀(ls:List aQ) (l:aQ),xN (ls ++ [l])↔xN ls∧∀k,ls.getLast?=some k→l.p=k.at l.m
 | [],l=>⟨λ_=>⟨trivial,λk h=>nomatch h⟩,λ_=>trivial⟩
 | [a],l=>⟨λh=>⟨trivial,λk e=>by cases e;exact h.1⟩,λh=>⟨h.2 a rfl,trivial⟩⟩
 | a :: b :: r,l=>by
  have ih:=lE (b :: r) l
  show (b.p=a.at b.m∧xN ((b :: r) ++ [l]))↔_
  rw [ih,List.getLast?_cons_cons]
  constructor
  ·rintro ⟨h1,h2,h3⟩;exact ⟨⟨h1,h2⟩,h3⟩
  ·rintro ⟨⟨h1,h2⟩,h3⟩;exact ⟨h1,h2,h3⟩
def iW (l l':aQ):Prop:=l.v=l'.v∧∀t,l.at t=l'.at t
theorem iW.key {l l':aQ} (h:iW l l') (n:Str) (t:Rat):key t (n,l)=key t (n,l'):=by unfold Ov.key;simp only;rw [h.1,h.2 t]
theorem HB (l:aQ):l.at l.m=l.p:=by unfold aQ.at;grind
theorem B7 {l l':aQ} {t:Rat} (hv:l.v=l'.v) (h:l.at t=l'.at t):iW l l':=⟨hv,λs=>by
 unfold aQ.at at h ⊢
 rw [hv] at h ⊢
 generalize (l'.v:Rat)=x at h ⊢
 grind⟩
theorem lp {rows:List aQ} {t:Rat} {v:Int} (h:xN rows) (ne:rows≠[]):xN (turned rows t v)∧∀l,rows.getLast?=some l→∀l',(turned rows t v).getLast?=some l'→iW ⟨t,l.at t,v⟩ l':=by
 obtain ⟨ls,l,rfl⟩:∃ls l,rows=ls ++ [l]:=⟨rows.dropLast,rows.getLast ne,(T9 ne).symm⟩
 obtain ⟨h1,h2⟩:=(lE ls l).mp h
 have new:∀{q:List aQ},(q ++ [aQ.mk t (l.at t) v]).getLast?=some (aQ.mk t (l.at t) v):=λ{q}=>T2 ..
 rw [ip]
 simp only [T2,Option.some.injEq]
 split
 ·rename_i e
  have el:l.at t=l.p:=by rw [← e];exact HB l
  split
  ·rename_i ev
   refine ⟨h1,λl0 h0 l' h'=>?_⟩
   subst h0
   rw [h'] at ev
   have hv:l'.v=v:=Option.some.inj ev
   have hp:=h2 l' h'
   rw [e] at hp
   refine B7 (t:=t) hv.symm ?_
   show l.at t + (t - t) * (v:Rat)=_
   rw [← hp,el];grind
  ·refine ⟨(lE _ _).mpr ⟨h1,λk hk=>?_⟩,λl0 h0 l' h'=>?_⟩
   ·show l.at t=k.at t
    rw [el,h2 k hk,e]
   ·subst h0
    rw [new] at h';cases h';exact ⟨rfl,λ_=>rfl⟩
 ·split
  ·rename_i ev
   refine ⟨h,λl0 h0 l' h'=>?_⟩
   subst h0
   rw [T2] at h';cases h'
   refine B7 (t:=t) ev.symm ?_
   show l.at t + (t - t) * (v:Rat)=_
   grind
  ·refine ⟨(lE _ _).mpr ⟨h,λk hk=>?_⟩,λl0 h0 l' h'=>?_⟩
   ·rw [T2] at hk;cases hk;rfl
   ·subst h0
    rw [new] at h';cases h';exact ⟨rfl,λ_=>rfl⟩
structure Rl (L:Ln) (gs:List (Str × aQ)):Prop where
 nm:gs.map (·.1)=L.fs.map (·.1)
 ln:∀n l l',(n,l)∈gs→(n,l')∈L.fs→iW l l'
 ck:∀x∈gs,tM x.2
 le:∀x∈gs,x.2.m≤L.t
 ct:∀c∈L.cs,xN c.w
theorem Rl.same {L:Ln} {gs:List (Str × aQ)} (h:Rl L gs) (t:Rat):Es t L.fs gs:=λx=>by
 have other:∀{as bs:List (Str × aQ)},as.map (·.1)=bs.map (·.1)→∀{n l},(n,l)∈as→∃l',(n,l')∈bs:=λ{as bs} e {n l} hm=>by
  have:n∈bs.map (·.1):=by rw [← e];exact Ti.mpr ⟨_,hm,rfl⟩
  obtain ⟨y,hy,e'⟩:=Ti.mp this
  exact ⟨y.2,by rw [← e'];exact hy⟩
 rw [Ti,Ti]
 constructor
 ·rintro ⟨⟨n,l⟩,hm,rfl⟩
  obtain ⟨l',hl'⟩:=other h.nm.symm hm
  exact ⟨(n,l'),hl',(h.ln n l' l hl' hm).key n t⟩
 ·rintro ⟨⟨n,l⟩,hm,rfl⟩
  obtain ⟨l',hl'⟩:=other h.nm hm
  exact ⟨(n,l'),hl',((h.ln n l l' hm hl').key n t).symm⟩
theorem Rl.sz {L:Ln} {gs:List (Str × aQ)} (h:Rl L gs):∀x∈gs,lV 240 x.2:=λx hx=>by
 have hk:=h.ck x hx
 exact ⟨hk.Rc.mono (by decide),hk.Rr.mono (by decide),.small (by have:=hk.v;omega) (by have:=hk.v;omega)⟩
theorem Rl.nd {L:Ln} {gs:List (Str × aQ)} (h:Rl L gs) (ok:bh L):(gs.map (·.1)).Nodup:=by rw [h.nm];exact ok.JU
theorem Rl.len {L:Ln} {gs:List (Str × aQ)} (h:Rl L gs):gs.length=L.fs.length:=by have:=congrArg UP h.nm;rw [Th,Th] at this;exact this
theorem F1 {fs:List (Str × aQ)} {n:Str} {l:aQ} (hm:n∈fs.map (·.1)):oy (bI fs) n l.V=bI (fs.map λx=>if x.1=n then (x.1,l) else x):=by
 unfold oy bI
 rw [if_pos,Tw,Tw]
 ·refine TL λx _=>?_
  show (if x.1=n then (x.1,l.V) else (x.1,x.2.V))=_
  show _=((if x.1=n then (x.1,l) else x).1,(if x.1=n then (x.1,l) else x).2.V)
  split <;> rfl
 ·obtain ⟨x,hx,e⟩:=Ti.mp hm
  rw [Vp]
  exact ⟨(x.1,x.2.V),Ti.mpr ⟨x,hx,rfl⟩,decide_eq_true e⟩
def vq (n:Str) (t:Rat) (v:Int) (gs:List (Str × aQ)):List (Str × aQ):=gs.map λx=>if x.1=n then (x.1,⟨t,x.2.at t,v⟩) else x
def kg (t:Rat) (gs:List (Str × aQ)):List (Str × aQ):=gs.map λx=>(x.1,⟨t,x.2.at t,-x.2.v⟩)
theorem ER {L:Ln} {f:Cf→Cf} (hn:∀c,(f c).n=c.n∧(f c).a=c.a∧(f c).r=c.r∧(f c).g=c.g) {L':Ln} (e:L'.cs=L.cs.map f):L'.fs=L.DQ.map λc=>(c.n,(f c).cur):=by
 unfold Ln.fs Ln.DQ
 rw [e,Uk,Tw]
 have e1:(λc:Cf=>c.g.isNone) ∘ f=λc=>c.g.isNone:=by funext c;show (f c).g.isNone=_;rw [(hn c).2.2.2]
 rw [e1]
 exact TL λc _=>by show ((f c).n,(f c).cur)=_;rw [(hn c).1]
theorem x5 {c:Cf} {t:Rat} {v:Int} (h:xN c.w) (ne:c.w≠[]):iW ⟨t,c.cur.at t,v⟩ (c.turn t v).cur:=by
 have h1:=(Cf.jx ne).1
 have h2:=(Cf.jx (c:=c.turn t v) (vt ne)).1
 exact (lp h ne).2 _ h1 _ h2
theorem iW.turn {l l':aQ} (h:iW l l') (t:Rat) (v:Int):iW ⟨t,l.at t,v⟩ ⟨t,l'.at t,v⟩:=by rw [h.2 t];exact ⟨rfl,λ_=>rfl⟩
theorem iW.trans {l l' l'':aQ} (h:iW l l') (k:iW l' l''):iW l l'':=⟨h.1.trans k.1,λt=>(h.2 t).trans (k.2 t)⟩
theorem Rl.turn {L L':Ln} {gs:List (Str × aQ)} (h:Rl L gs) (ok:bh L) {n:Str} {v:Int} (hv:v.natAbs≤1000) (e:L'.cs=L.cs.map (c9 n L.t v)) (et:L'.t=L.t):Rl L' (vq n L.t v gs):=by
 have hn:=gA n L.t v
 have hfs:=ER hn e
 have nm:(vq n L.t v gs).map (·.1)=gs.map (·.1):=by
  unfold vq;rw [Tw];exact TL λx _=>by show (if x.1=n then (x.1,_) else x).1=x.1;split <;> rfl
 refine ⟨?_,?_,?_,?_,?_⟩
 ·rw [nm,h.nm,hfs];unfold Ln.fs;rw [Tw,Tw];rfl
 ·intro m l l' hl hl'
  obtain ⟨x,hx,ex⟩:=Ti.mp hl
  rw [hfs] at hl'
  obtain ⟨c,hc,ec⟩:=Ti.mp hl'
  have hcs:=(Ln.dW.mp hc).1
  have hold:(c.n,c.cur)∈L.fs:=Ti.mpr ⟨c,hc,rfl⟩
  cases ec
  by_cases z:x.1=n
  ·rw [if_pos z] at ex
   have ex1:x.1=c.n:=(Prod.mk.inj ex).1
   have ex2:aQ.mk L.t (x.2.at L.t) v=l:=(Prod.mk.inj ex).2
   subst ex2
   have hs:=h.ln x.1 x.2 c.cur hx (by rw [ex1];exact hold)
   have zc:c.n=n:=by rw [← z];exact ex1.symm
   unfold c9
   rw [if_pos zc]
   exact (hs.turn L.t v).trans (x5 (h.ct c hcs) (ok.ne c hcs))
  ·rw [if_neg z] at ex
   subst ex
   have zc:¬ c.n=n:=z
   unfold c9
   rw [if_neg zc]
   exact h.ln c.n l c.cur hx hold
 ·intro x hx
  obtain ⟨y,hy,rfl⟩:=Ti.mp hx
  split
  ·exact (h.ck y hy).at (h.le y hy) ok.ts hv
  ·exact h.ck y hy
 ·intro x hx
  rw [et]
  obtain ⟨y,hy,rfl⟩:=Ti.mp hx
  split
  ·exact Rat.le_refl
  ·exact h.le y hy
 ·intro c hc
  rw [e] at hc
  obtain ⟨c0,h0,rfl⟩:=Ti.mp hc
  unfold c9
  split
  ·exact (lp (h.ct c0 h0) (ok.ne c0 h0)).1
  ·exact h.ct c0 h0
theorem kb (t:Rat) (c:Cf):(eQ t c).n=c.n∧(eQ t c).a=c.a∧(eQ t c).r=c.r∧(eQ t c).g=c.g:=by unfold eQ;split <;> exact ⟨rfl,rfl,rfl,rfl⟩
theorem Rl.about {L L':Ln} {gs:List (Str × aQ)} (h:Rl L gs) (ok:bh L) (e:L'.cs=L.cs.map (eQ L.t)) (et:L'.t=L.t):Rl L' (kg L.t gs):=by
 have hn:=kb L.t
 have hfs:=ER hn e
 have nm:(kg L.t gs).map (·.1)=gs.map (·.1):=by
  unfold kg;rw [Tw];rfl
 refine ⟨?_,?_,?_,?_,?_⟩
 ·rw [nm,h.nm,hfs];unfold Ln.fs;rw [Tw,Tw];rfl
 ·intro m l l' hl hl'
  obtain ⟨x,hx,ex⟩:=Ti.mp hl
  rw [hfs] at hl'
  obtain ⟨c,hc,ec⟩:=Ti.mp hl'
  have hcs:=Ln.dW.mp hc
  have hold:(c.n,c.cur)∈L.fs:=Ti.mpr ⟨c,hc,rfl⟩
  cases ec
  obtain ⟨xn,xl⟩:=x
  cases ex
  have hs:=h.ln c.n xl c.cur hx hold
  have ea:eQ L.t c=c.turn L.t (-c.cur.v):=by unfold eQ;rw [if_pos (by rw [hcs.2];rfl)]
  rw [ea,hs.1]
  exact (hs.turn L.t _).trans (x5 (h.ct c hcs.1) (ok.ne c hcs.1))
 ·intro x hx
  obtain ⟨y,hy,rfl⟩:=Ti.mp hx
  exact (h.ck y hy).at (h.le y hy) ok.ts (by have:=(h.ck y hy).v;omega)
 ·intro x hx
  rw [et]
  obtain ⟨y,hy,rfl⟩:=Ti.mp hx
  exact Rat.le_refl
 ·intro c hc
  rw [e] at hc
  obtain ⟨c0,h0,rfl⟩:=Ti.mp hc
  unfold eQ
  split
  ·exact (lp (h.ct c0 h0) (ok.ne c0 h0)).1
  ·exact h.ct c0 h0
theorem Rl.join {L L':Ln} {gs:List (Str × aQ)} (h:Rl L gs) (ok':bh L') {n:Str} {x v:Int} (hv:v.natAbs≤1000) (hx:x.natAbs≤1000000) (j:L.joined n x v L') (t0:0≤L.t) (ts:Sc iq MM L.t) (hnew:n ∉ L.fs.map (·.1)):Rl L' (gs ++ [(n,⟨L.t,(x:Rat),v⟩)]):=by
 obtain ⟨a,r,ecs,et⟩:=j
 have efs:L'.fs=L.fs ++ [(n,⟨L.t,(x:Rat),v⟩)]:=BA L ecs rfl
 refine ⟨?_,?_,?_,?_,?_⟩
 ·rw [efs,Ts,Ts,h.nm]
 ·intro m l l' hl hl'
  rw [efs] at hl'
  have h1:∀{k},(n,k)∈gs→False:=λhk=>hnew (by rw [← h.nm];exact Ti.mpr ⟨_,hk,rfl⟩)
  have h2:∀{k},(n,k)∈L.fs→False:=λhk=>hnew (Ti.mpr ⟨_,hk,rfl⟩)
  rcases Tv.mp hl with hl | hl <;> rcases Tv.mp hl' with hl' | hl'
  ·exact h.ln m l l' hl hl'
  ·rw [Tx] at hl';cases hl';exact (h1 hl).elim
  ·rw [Tx] at hl;cases hl;exact (h2 hl').elim
  ·rw [Tx] at hl hl';cases hl;cases hl';exact ⟨rfl,λ_=>rfl⟩
 ·intro y hy
  rcases Tv.mp hy with hy | hy
  ·exact h.ck y hy
  ·rw [Tx] at hy;subst hy;exact tM.new t0 ts hx hv
 ·intro y hy
  rw [et]
  rcases Tv.mp hy with hy | hy
  ·exact h.le y hy
  ·rw [Tx] at hy;subst hy;exact Rat.le_refl
 ·intro c hc
  rw [ecs] at hc
  rcases Tv.mp hc with hc | hc
  ·exact h.ct c hc
  ·rw [Tx] at hc;subst hc;exact trivial
def oR (n:Str) (gs:List (Str × aQ)):List (Str × aQ):=gs.filter λx=>decide (x.1≠n)
theorem Rl.leave {L L':Ln} {gs:List (Str × aQ)} (h:Rl L gs) {n:Str} (e:L'.cs=L.cs.map (bK n L.t)) (et:L'.t=L.t):Rl L' (oR n gs):=by
 have hfs:L'.fs=L.fs.filter λx=>decide (x.1≠n):=yh e
 have hf:∀l:List (Str × aQ),(l.filter λx=>decide (x.1≠n)).map (·.1)=(l.map (·.1)).filter λy=>decide (y≠n):=λl=>by rw [Uk];rfl
 refine ⟨?_,?_,?_,?_,?_⟩
 ·unfold oR;rw [hf,hfs,hf,h.nm]
 ·intro m l l' hl hl'
  rw [hfs] at hl'
  exact h.ln m l l' (TB.mp hl).1 (TB.mp hl').1
 ·intro x hx;exact h.ck x (TB.mp hx).1
 ·intro x hx;rw [et];exact h.le x (TB.mp hx).1
 ·intro c hc
  rw [e] at hc
  obtain ⟨c0,h0,rfl⟩:=Ti.mp hc
  rw [(dH n L.t c0).2.2.2];exact h.ct c0 h0
abbrev wZ:Stmt:=(top 59)
abbrev l8:List Str:=["_law_legs","_law_clock","_law_deed_here"]
theorem yY:L2.aw ["_law_legs","_law_clock","_law_deed_here","_law_name"] ["_law_legs","_law_clock","_law_deed_here"] (L2.aj wZ):=d7
def fB (n:Str) (x v:Int):PV:=.tup [.str "join",.str n,.int x,.int v]
def gY (n:Str) (v:Int):PV:=.tup [.str "turn",.str n,.int v]
def gF:PV:=.tup [.str "about"]
def gd (n:Str):PV:=.tup [.str "leave",.str n]
def JW (m:Rat):PV:=.tup [.str "go",fr m]
def B9:cM:=λxs J Q _=>∃(D:Addr) (gs:List (Str × aQ)) (ep:Nat) (t:Rat) (dv:PV),xs=[.ref D,fr t,dv]∧J D=some (.dct (bI gs) ep)∧(gs.map (·.1)).Nodup∧gs.length≤100∧Sz 900 t∧(∀x∈gs,lV 900 x.2) ∧
 ((∃n x v,dv=fB n x v∧n ∉ gs.map (·.1)∧∀ep',Q (fr t) (put J D (.dct (bI (gs ++ [(n,⟨t,(x:Rat),v⟩)])) ep'))) ∨
  (∃n v,dv=gY n v∧n∈gs.map (·.1)∧∀ep',Q (fr t) (put J D (.dct (bI (vq n t v gs)) ep'))) ∨
  (dv=gF∧∀ep',Q (fr t) (put J D (.dct (bI (kg t gs)) ep'))) ∨
  (∃n,dv=gd n∧n∈gs.map (·.1)∧∀ep',Q (fr t) (put J D (.dct (bI (oR n gs)) ep'))) ∨
  (∃m,dv=JW m∧Q (fr m) J))
theorem KU:(("join":Str)="go")=False:=eq_false (by decide +kernel)
theorem KY:(("turn":Str)="go")=False:=eq_false (by decide +kernel)
theorem KS:(("about":Str)="go")=False:=eq_false (by decide +kernel)
theorem Lp {c:lZ} {a u:jm} {D:En} {τ:Sr} {J:Hq} (hc:∀R:Bool→Hq→Prop,R false J→c τ J R) (hu:u D τ J):IU (DS c a ve) u D τ J :=
 ⟨λτ' J'=>τ'=τ∧J'=J,hc _ (by rw [if_neg (by decide)];exact ⟨rfl,rfl⟩),λτ' J' h=>by obtain ⟨rfl,rfl⟩:=h;exact hu⟩
theorem eJ {c:lZ} {a u:jm} {D:En} {τ:Sr} {J:Hq} (M:Sr→Hq→Prop) (hc:∀R:Bool→Hq→Prop,R true J→c τ J R) (ha:a { D with nx:=M } τ J) (hu:∀τ' J',M τ' J'→u D τ' J'):IU (DS c a ve) u D τ J :=
 ⟨M,hc _ (by rw [if_pos rfl];exact ha),hu⟩
theorem CC {x y:Str} {i:Nat} {dv:PV} {τ:Sr} {J:Hq} (h:τ[i]?=some (some dv)) (h0:fA J dv (.int 0)=some (.str x)) (R:Bool→Hq→Prop) (hr:R (decide (x=y)) J):rB (AI (MB id) (AI Nw (sy i) (rC (.int 0))) (rC (.str y))) τ J R :=
 Mb h (kF h0 ⟨⟨rfl,by simp [gw,dep]⟩,rfl,Am rfl (by rw [eq_str];exact hr)⟩)
theorem cu {x y:Str} {i:Nat} {dv:PV} {τ:Sr} {J:Hq} {a u:jm} {D:En} (h:τ[i]?=some (some dv)) (h0:fA J dv (.int 0)=some (.str x)) (n:decide (x=y)=false) (hu:u D τ J):IU (DS (rB (AI (MB id) (AI Nw (sy i) (rC (.int 0))) (rC (.str y)))) a ve) u D τ J:=Lp (λR hr'=>CC h h0 R (by rw [n];exact hr')) hu
theorem qk {x:Str} {i:Nat} {dv:PV} {τ:Sr} {J:Hq} (h:τ[i]?=some (some dv)) (h0:fA J dv (.int 0)=some (.str x)) (R:Bool→Hq→Prop) (hr:R true J):rB (AI (MB id) (AI Nw (sy i) (rC (.int 0))) (rC (.str x))) τ J R:=CC h h0 R (by rw [decide_eq_true rfl];exact hr)
def fC (t:Rat) (gs:List (Str × aQ)) (i:Nat):List (Str × aQ):=kg t (gs.take i) ++ gs.drop i
theorem uL (t:Rat) (gs:List (Str × aQ)) (i:Nat):(fC t gs i).map (·.1)=gs.map (·.1):=by
 unfold fC kg
 rw [Ts,Tw]
 have:((gs.take i).map ((λx:Str × aQ=>x.1) ∘ λx=>(x.1,(⟨t,x.2.at t,-x.2.v⟩:aQ))))=(gs.take i).map (·.1):=TL λ_ _=>rfl
 rw [this,← Ts,U7]
theorem xT (t:Rat) (gs:List (Str × aQ)) (hnd:(gs.map (·.1)).Nodup) (i:Nat) (h:i < gs.length):(fC t gs i).map (λx=>if x.1=gs[i].1 then (x.1,(⟨t,gs[i].2.at t,-gs[i].2.v⟩:aQ)) else x)=fC t gs (i + 1):=by
 have hd:gs.drop i=gs[i] :: gs.drop (i + 1):=UM h
 have ht:gs.take (i + 1)=gs.take i ++ [gs[i]]:=by rw [TR,Tn h];rfl
 have hn2:(gs.map (·.1))=(gs.take i).map (·.1) ++ (gs[i].1 :: (gs.drop (i + 1)).map (·.1)):=by
  rw [← Tt (f:=λx:Str × aQ=>x.1),← hd,← Ts,U7]
 rw [hn2,Uq] at hnd
 unfold fC kg
 rw [hd,ht,Ts,Ts,Tt,if_pos rfl,Vl]
 congr 1
 ·rw [Tw]
  refine TL λx hx=>?_
  show (if x.1=gs[i].1 then _ else _)=_
  rw [if_neg (hnd.2.2 x.1 (Ti.mpr ⟨x,hx,rfl⟩) gs[i].1 (by simp))]
 ·show _ :: _=_ :: _
  congr 1
  have hno:=(UB.mp hnd.2.1).1
  have:∀x∈gs.drop (i + 1),(if x.1=gs[i].1 then (x.1,(⟨t,gs[i].2.at t,-gs[i].2.v⟩:aQ)) else x)=x:=λx hx=>if_neg λz=>hno (by rw [← z];exact Ti.mpr ⟨x,hx,rfl⟩)
  rw [TL this,Ve]
  rfl
theorem KW:(("leave":Str)="go")=False:=eq_false (by decide +kernel)
theorem Dz {f:Addr} {fd:FuncData} (F:cm K "_law_acted" "_law_acted" wZ f fd) (Z:bV mg) (p8:bq P w K mg base 2 "_law_at" fL me):aP P w K mg base (c8 P w) 3 f fd l8 (dC K B9):=by
 simp_arith [yY,(cW (aT (aE (cI hr.aU) (au av (rv 2) ag) bF) (ar (k6 il (rv 0) (au av (rv 2) ag) (bO (af (rv 1) (af (bO (af (au av (rv 2) ag) (af ag ah))) (af (au av (rv 2) ag) ah)))))) aF)
   (cW (aT (aE (cI hr.aU) (au av (rv 2) ag) bF) (ar (aX (ie PySem.F.plainAttrs_dict PySem.F.slot_dict_pop PySem.F.type_dict_pop Ib (rv 0) (af (au av (rv 2) ag) ah)))) aF)
   (cW (aT (aE (cI hr.aU) (au av (rv 2) ag) bF) (ar (k6 il (rv 0) (au av (rv 2) ag) (bO (af (rv 1) (af (aO p8 B hr (af (au bY (rv 0) (au av (rv 2) ag)) (af (rv 1) ah))) (af (au av (rv 2) ag) ah)))))) aF)
   (cW (aT (aE (cI hr.aU) (au av (rv 2) ag) bF) (ar (dw bQ rfl (gx (fN (x4 rfl) rfl Z.list boot_list (af (rv 0) ah))) (bz (i:=3) yY.nd) (ar (k6 il (rv 0) (rv 3) (bO (af (rv 1) (af (aO p8 B hr (af (au bY (rv 0) (rv 3)) (af (rv 1) ah))) (af (pZ ly (au av (au bY (rv 0) (rv 3)) ag)) ah)))))))) aF)
   (ai (aT (aE (cI hr.aU) (au av (rv 2) ag) bF) (ar (ay (au av (rv 2) ag))) aF)
   (ar (ay (rv 1))))))))]
 ·obtain ⟨D,gs,ep,t,dv,rfl,_⟩:=h;rfl
 obtain ⟨D,gs,ep,t,dv,rfl,hD,hnd,hlen,st,sl,h⟩:=h
 refine hX ?_
 rcases h with ⟨n,x,v,rfl,hn,q⟩ | ⟨n,v,rfl,hn,q⟩ | ⟨rfl,q⟩ | ⟨n,rfl,hn,q⟩ | ⟨m,rfl,q⟩
 ·have i0:∀J,fA J (fB n x v) (.int 0)=some (.str "join"):=λJ=>d5 _ _
  have i1:∀J,fA J (fB n x v) (.int 1)=some (.str n):=λJ=>fz _ _ _
  have i2:∀J,fA J (fB n x v) (.int 2)=some (.int x):=λJ=>jW _ _ _ _
  have i3:∀J,fA J (fB n x v) (.int 3)=some (.int v):=λJ=>rfl
  refine eJ (λτ' J'=>∃ep',τ'=[some (.ref D),some (fr t),some (fB n x v),none]∧J'=put J D (.dct (bI (gs ++ [(n,⟨t,(x:Rat),v⟩)])) ep')) (qk rfl (i0 _)) ?_ ?_
  ·simp_all! [i1,i2,i3,hD,Lz,tE]
   refine ⟨a8 (by unfold bI;rw [Th];omega),λep'=>⟨ep',?_⟩⟩
   have epu:oy (bI gs) n (aQ.mk t (x:Rat) v).V=bI (gs ++ [(n,⟨t,(x:Rat),v⟩)]):=o_ (f:=aQ.V) (l:=⟨t,(x:Rat),v⟩) hn
   rw [epu]
  rintro τ' J' ⟨ep',rfl,rfl⟩
  refine cu rfl (i0 _) (by decide +kernel) ?_
  refine cu rfl (i0 _) (by decide +kernel) ?_
  refine cu rfl (i0 _) (by decide +kernel) ?_
  simp_all! [i0,KU,if_false]
  exact q ep'
 ·have i0:∀J,fA J (gY n v) (.int 0)=some (.str "turn"):=λJ=>d5 _ _
  have i1:∀J,fA J (gY n v) (.int 1)=some (.str n):=λJ=>fz _ _ _
  have i2:∀J,fA J (gY n v) (.int 2)=some (.int v):=λJ=>jW _ _ _ _
  refine cu rfl (i0 _) (by decide +kernel) ?_
  refine cu rfl (i0 _) (by decide +kernel) ?_
  refine eJ (λτ' J'=>∃ep',τ'=[some (.ref D),some (fr t),some (gY n v),none]∧J'=put J D (.dct (bI (vq n t v gs)) ep')) (qk rfl (i0 _)) ?_ ?_
  ·obtain ⟨l,hl,hvl⟩:=xG (f:=aQ.V) hnd hn
   have hvl:j3 (bI gs) n=some l.V:=hvl
   have sll:=sl _ hl
   simp_all! [i1,i2,hD,hvl]
   refine ⟨l,t,rfl,sll.m,sll.p,st,sll.v,?_⟩
   simp_all! [i1,i2,hD,tE]
   refine ⟨a8 (by unfold bI;rw [Th];omega),λep'=>⟨ep',?_⟩⟩
   rw [F1 hn]
   have:(gs.map λx=>if x.1=n then (x.1,(⟨t,l.at t,v⟩:aQ)) else x)=vq n t v gs:=TL λx hx=>by
    by_cases z:x.1=n
    ·have hx':j3 (bI gs) n=some x.2.V:=fS (f:=aQ.V) hnd (by rw [← z];exact hx)
     rw [hvl] at hx'
     have ex:l=x.2:=by have:=Option.some.inj hx';rw [NK] at this;exact this
     rw [if_pos z,if_pos z,ex]
    ·rw [if_neg z,if_neg z]
   rw [this]
  rintro τ' J' ⟨ep',rfl,rfl⟩
  refine cu rfl (i0 _) (by decide +kernel) ?_
  simp_all! [i0,KY,if_false]
  exact q ep'
 ·have i0:∀J,fA J gF (.int 0)=some (.str "about"):=λJ=>d5 _ _
  refine cu rfl (i0 _) (by decide +kernel) ?_
  refine cu rfl (i0 _) (by decide +kernel) ?_
  refine cu rfl (i0 _) (by decide +kernel) ?_
  refine eJ (λτ' J'=>∃u ep',τ'=[some (.ref D),some (fr t),some gF,u]∧J'=put J D (.dct (bI (kg t gs)) ep')) (qk rfl (i0 _)) ?_ ?_
  ·simp_all! [hD]
   have hkv:(bI gs).map (λkv=>PV.str kv.1)=gs.map λx=>PV.str x.1:=by unfold bI;rw [Tw];rfl
   rw [hkv]
   obtain ⟨Inv,hInv⟩:∃Inv:Nat→Sr→Hq→Prop,∀i τ J',Inv i τ J'↔∃(u:Option PV) (ep':Nat),τ=[some (.ref D),some (fr t),some gF,u]∧J'=put J D (.dct (bI (fC t gs i)) ep'):=⟨_,λ_ _ _=>Iff.rfl⟩
   refine eV Inv ((hInv _ _ _).mpr ⟨_,ep,rfl,by show J=put J D (.dct (bI gs) ep);rw [AG hD]⟩) (λ_ _ _ _=>trivial) ?_ ?_
   ·intro i x τ J' hx hv
    obtain ⟨u,ep',rfl,rfl⟩:=(hInv _ _ _).mp hv
    clear hv
    have hi:i < gs.length:=by have:=(Tj.mp hx).1;simpa using this
    rw [Tq,Tn hi] at hx
    cases hx
    have hnd':((fC t gs i).map (·.1)).Nodup:=by rw [uL];exact hnd
    have hmem:gs[i]∈fC t gs i:=by unfold fC;rw [UM hi];exact Tv.mpr (.inr T6)
    have hva:j3 (bI (fC t gs i)) gs[i].1=some gs[i].2.V:=fS (f:=aQ.V) hnd' hmem
    have hstep:=xT t gs hnd i hi
    have hin:gs[i].1∈(fC t gs i).map (·.1):=Ti.mpr ⟨_,hmem,rfl⟩
    have hlen':(fC t gs i).length=gs.length:=by have:=congrArg UP (uL t gs i);rw [Th,Th] at this;exact this
    have sll:=sl _ (TY hi)
    generalize gs[i]=y at hva hstep hin sll ⊢
    simp_all! [ak,hva]
    refine ⟨y.2,t,rfl,sll.m,sll.p,st,sll.v,?_⟩
    simp_all! [ak,hva,hZ,tE]
    refine ⟨a8 (by unfold bI;rw [Th];omega),λep2=>(hInv _ _ _).mpr ⟨_,ep2,rfl,?_⟩⟩
    rw [bM,F1 hin,hstep]
   ·intro τ J' hv
    obtain ⟨u,ep',rfl,rfl⟩:=(hInv _ _ _).mp hv
    refine ⟨u,rfl,ep',?_⟩
    rw [Th]
    unfold fC
    rw [T1,List.drop_length,Uj]
  rintro τ' J' ⟨u,ep',rfl,rfl⟩
  simp_all! [i0,KS,if_false]
  exact q ep'
 ·have i0:∀J,fA J (gd n) (.int 0)=some (.str "leave"):=λJ=>d5 _ _
  have i1:∀J,fA J (gd n) (.int 1)=some (.str n):=λJ=>fz _ _ _
  refine cu rfl (i0 _) (by decide +kernel) ?_
  refine eJ (λτ' J'=>∃ep',τ'=[some (.ref D),some (fr t),some (gd n),none]∧J'=put J D (.dct (bI (oR n gs)) ep')) (qk rfl (i0 _)) ?_ ?_
  ·obtain ⟨l,hl,hvl⟩:=xG (f:=aQ.V) hnd hn
   have hvl:j3 (bI gs) n=some l.V:=hvl
   simp_all! [i1,hD,hvl]
   have edr:C2 (bI gs) n=bI (oR n gs):=by unfold C2 bI oR;rw [Uk];rfl
   intro ep'
   exact ⟨ep',by rw [edr]⟩
  rintro τ' J' ⟨ep',rfl,rfl⟩
  refine cu rfl (i0 _) (by decide +kernel) ?_
  refine cu rfl (i0 _) (by decide +kernel) ?_
  simp_all! [i0,KW,if_false]
  exact q ep'
 ·have i0:∀J,fA J (JW m) (.int 0)=some (.str "go"):=λJ=>d5 _ _
  have i1:∀J,fA J (JW m) (.int 1)=some (fr m):=λJ=>fz _ _ _
  refine cu rfl (i0 _) (by decide +kernel) ?_
  refine cu rfl (i0 _) (by decide +kernel) ?_
  refine cu rfl (i0 _) (by decide +kernel) ?_
  refine cu rfl (i0 _) (by decide +kernel) ?_
  simp_all! [i0,i1,if_true]
  exact q
abbrev AN:Stmt:=(top 60)
abbrev nS:List Str:=["_law_lane","_law_deed_here"]
theorem Jm:L2.aw ["_law_lane","_law_deed_here"] ["_law_lane","_law_deed_here"] (L2.aj AN):=d7
def GA (cN cL T:Addr):cM:=λxs J Q _=>∃p L dv,xs=[.ref p,dv]∧ba cN cL J p L∧cq L ∧
 ((∃n x v,dv=fB n x v∧J T=some .tab∧good n=true∧Nn x v∧n ∉ L.cs.map Cf.n∧L.row.length < 12∧L.cs.length < 100∧n.length≤sizeLine∧∀J' L',ba cN cL J' p L'→cq L'→L.joined n x v L'→Mv J J' (L.own p) (L'.own p)→Q (.fl []) J') ∨
  (∃n v,dv=gY n v∧n∈L.row∧v.natAbs≤1000∧(∀c∈L.cs,c.w.length < 200)∧∀J' L',ba cN cL J' p L'→cq L'→L'.cs=L.cs.map (c9 n L.t v)→L'.t=L.t→Mv J J' (L.own p) (L'.own p)→Q (.fl []) J') ∨
  (dv=gF∧(∀c∈L.cs,c.w.length < 200)∧∀J' L',ba cN cL J' p L'→cq L'→L'.cs=L.cs.map (eQ L.t)→L'.t=L.t→Mv J J' (L.own p) (L'.own p)→Q (.fl []) J') ∨
  (∃n,dv=gd n∧n∈L.row∧∀J' L',ba cN cL J' p L'→cq L'→L'.cs=L.cs.map (bK n L.t)→L'.t=L.t→Mv J J' (L.own p) (L'.own p)→Q (.fl []) J') ∨
  (∃m:Rat,dv=JW m∧hE m.num m.den=true∧L.t≤m∧∀J' o',ba cN cL J' p { L with t:=m,o:=o',row:=cf m L.fs }→cq { L with t:=m,o:=o',row:=cf m L.fs }→Mv J J' (L.own p) (Ln.own { L with t:=m,o:=o',row:=cf m L.fs } p)→Q (.fl ((e_ L.t (L.fs.map (key L.t)) m).map aB.v)) J'))
theorem FG {cN cL T eB eF eT eU eC eM eP f:Addr} {fd:FuncData} (F:cm K "_law_done" "_law_done" AN f fd) (Z:bV mg) (kA:cG P w K mg base cN 8 "join" nK (Cn cN cL T eB eF eT eU)) (jB:cG P w K mg base cN 2 "leave" l7 (y_ cN cL eC)) (kB:cG P w K mg base cN 8 "turn" nL (Co cN cL eC eF)) (jz:cG P w K mg base cN 8 "about" l5 (y8 cN cL)) (dS:cG P w K mg base cN 8 "go_to" iC (GG cN cL eM eP)):aP P w K mg base (c8 P w) 9 f fd nS (dC K (GA cN cL T)):=by
 simp_arith [Jm,(cW (aT (aE (cI hr.aU) (au av (rv 1) ag) bF) (ar (aX (bp (pl:=_) kA B hr (rv 0) (af (au av (rv 1) ag) (af (au av (rv 1) ag) (af (au av (rv 1) ag) ah)))))) aF)
   (cW (aT (aE (cI hr.aU) (au av (rv 1) ag) bF) (ar (aX (bp (pl:=_) jB B hr (rv 0) (af (au av (rv 1) ag) ah)))) aF)
   (cW (aT (aE (cI hr.aU) (au av (rv 1) ag) bF) (ar (aX (bp (pl:=_) kB B hr (rv 0) (af (au av (rv 1) ag) (af (au av (rv 1) ag) ah))))) aF)
   (cW (aT (aE (cI hr.aU) (au av (rv 1) ag) bF) (ar (aX (cj (pl:=_) jz B hr (rv 0)))) aF)
   (ai (aT (aE (cI hr.aU) (au av (rv 1) ag) bF) (ar (ay (bp (pl:=_) dS B hr (rv 0) (af (au av (rv 1) ag) ah)))) aF)
   (ar (ay (vf ah))))))))]
 ·obtain ⟨p,L,dv,rfl,_⟩:=h;rfl
 obtain ⟨p,L,dv,rfl,b,ok,h⟩:=h
 have bo:=b.ob
 refine hX ?_
 rcases h with ⟨n,x,v,rfl,hT,hg,hb,hn,hr12,hc,hl,q⟩ | ⟨n,v,rfl,hn,hv,hw,q⟩ | ⟨rfl,hw,q⟩ | ⟨n,rfl,hn,q⟩ | ⟨m,rfl,hg,hm,q⟩
 ·have i0:∀J,fA J (fB n x v) (.int 0)=some (.str "join"):=λJ=>d5 _ _
  have i1:∀J,fA J (fB n x v) (.int 1)=some (.str n):=λJ=>fz _ _ _
  have i2:∀J,fA J (fB n x v) (.int 2)=some (.int x):=λJ=>jW _ _ _ _
  have i3:∀J,fA J (fB n x v) (.int 3)=some (.int v):=λJ=>rfl
  refine eJ (λτ' J'=>τ'=[some (.ref p),some (fB n x v)]∧Q (.fl []) J') (qk rfl (i0 _)) ?_ ?_
  ·simp_all! [bo,i1,i2,i3]
   exact ⟨dB _ _ _ _,p,L,n,x,v,rfl,b,ok,hT,hl,hc,(λz=>by rw [hg] at z;cases z),(λ_ z=>absurd hb z),(λ_ _ z=>absurd z hn),(λ_ _ _ z=>by omega),λ_ _ _ _ J1 L1 b1 ok1 jn mv=>q J1 L1 b1 ok1 jn mv⟩
  rintro τ' J' ⟨rfl,hq⟩
  refine cu rfl (i0 _) (by decide +kernel) ?_
  refine cu rfl (i0 _) (by decide +kernel) ?_
  refine cu rfl (i0 _) (by decide +kernel) ?_
  simp_all! [i0,KU,if_false]
  exact hq
 ·have i0:∀J,fA J (gY n v) (.int 0)=some (.str "turn"):=λJ=>d5 _ _
  have i1:∀J,fA J (gY n v) (.int 1)=some (.str n):=λJ=>fz _ _ _
  have i2:∀J,fA J (gY n v) (.int 2)=some (.int v):=λJ=>jW _ _ _ _
  refine cu rfl (i0 _) (by decide +kernel) ?_
  refine cu rfl (i0 _) (by decide +kernel) ?_
  refine eJ (λτ' J'=>τ'=[some (.ref p),some (gY n v)]∧Q (.fl []) J') (qk rfl (i0 _)) ?_ ?_
  ·simp_all! [bo,i1,i2]
   exact ⟨dB _ _ _ _,p,L,n,v,rfl,b,ok,hw,λz=>absurd hn z,λ_ z=>absurd hv z,λ_ _ J1 L1 b1 ok1 e t1 mv=>q J1 L1 b1 ok1 e t1 mv⟩
  rintro τ' J' ⟨rfl,hq⟩
  refine cu rfl (i0 _) (by decide +kernel) ?_
  simp_all! [i0,KY,if_false]
  exact hq
 ·have i0:∀J,fA J gF (.int 0)=some (.str "about"):=λJ=>d5 _ _
  refine cu rfl (i0 _) (by decide +kernel) ?_
  refine cu rfl (i0 _) (by decide +kernel) ?_
  refine cu rfl (i0 _) (by decide +kernel) ?_
  refine eJ (λτ' J'=>τ'=[some (.ref p),some (gF)]∧Q (.fl []) J') (qk rfl (i0 _)) ?_ ?_
  ·simp_all! [bo]
   exact ⟨dB _ _ _ _,p,L,rfl,b,ok,hw,λJ1 L1 b1 ok1 e t1 mv=>q J1 L1 b1 ok1 e t1 mv⟩
  rintro τ' J' ⟨rfl,hq⟩
  simp_all! [i0,KS,if_false]
  exact hq
 ·have i0:∀J,fA J (gd n) (.int 0)=some (.str "leave"):=λJ=>d5 _ _
  have i1:∀J,fA J (gd n) (.int 1)=some (.str n):=λJ=>fz _ _ _
  refine cu rfl (i0 _) (by decide +kernel) ?_
  refine eJ (λτ' J'=>τ'=[some (.ref p),some (gd n)]∧Q (.fl []) J') (qk rfl (i0 _)) ?_ ?_
  ·simp_all! [bo,i1]
   exact ⟨dB _ _ _ _,p,L,n,rfl,b,ok,λz=>absurd hn z,λ_ J1 L1 b1 ok1 e t1 mv=>q J1 L1 b1 ok1 e t1 mv⟩
  rintro τ' J' ⟨rfl,hq⟩
  refine cu rfl (i0 _) (by decide +kernel) ?_
  refine cu rfl (i0 _) (by decide +kernel) ?_
  simp_all! [i0,KW,if_false]
  exact hq
 ·have i0:∀J,fA J (JW m) (.int 0)=some (.str "go"):=λJ=>d5 _ _
  have i1:∀J,fA J (JW m) (.int 1)=some (fr m):=λJ=>fz _ _ _
  refine cu rfl (i0 _) (by decide +kernel) ?_
  refine cu rfl (i0 _) (by decide +kernel) ?_
  refine cu rfl (i0 _) (by decide +kernel) ?_
  refine cu rfl (i0 _) (by decide +kernel) ?_
  simp_all! [i0,i1,if_true,bo]
  refine ⟨dB _ _ _ _,p,L,m.num,m.den,rfl,b,ok,(λz=>by rw [hg] at z;cases z),λm' e1 e2 _=>?_⟩
  obtain rfl:m'=m:=Rat.ext e1 (by omega)
  exact ⟨λz=>absurd z (Rat.not_lt.mpr hm),λ_=>.inl λJ1 o1 b1 ok1 mv1=>q J1 o1 b1 ok1 mv1⟩
abbrev w6:Stmt:=(top 57)
abbrev nQ:List Str:=["_law_row","_law_mode","_law_names_here","_law_used","_law_legs","_law_clock"]
theorem qO:L2.aw ["_law_row","_law_mode","_law_names_here","_law_used","_law_legs","_law_clock","_law_there","_law_fresh","_law_name"] ["_law_row","_law_mode","_law_names_here","_law_used","_law_legs","_law_clock"] (L2.aj w6):=d7
def K_ (names used:List Str) (gs:List (Str × aQ)) (t:Rat) (dv:PV):Prop :=
 (∃n x v,dv=fB n x v∧n∈names∧n ∉ used∧gs.length < 12∧x.natAbs≤1000000∧v.natAbs≤1000) ∨
 (∃n v,dv=gY n v∧n∈gs.map (·.1)∧v.natAbs≤1000)∨dv=gF∨(∃n,dv=gd n∧n∈gs.map (·.1))∨∃m,dv=JW m∧Later t m
def Gz:cM:=λxs J Q _=>∃(r0 r1 r2 r3 r4 r5 m:Int) (names used:List Str) (U D:Addr) (gs:List (Str × aQ)) (ep:Nat) (t:Rat) (kvU:List (Str × PV)) (epU:Nat),xs=[.fl [.int r0,.int r1,.int r2,.int r3,.int r4,.int r5],.int m,.fl (names.map .str),.ref U,.ref D,fr t]∧J U=some (.dct kvU epU)∧kvU.map (·.1)=used∧J D=some (.dct (bI gs) ep)∧names.length≤40∧gs.length≤100 ∧
 0≤r1∧0≤r2∧0≤r3∧r3 < 2001∧0≤r4∧r4 < 2 ^ 60∧0≤r5∧0≤m∧m < 4∧Sz 900 t∧∀dv,K_ names used gs t dv→Q dv J
theorem A9 {kv:List (Str × PV)} {k:Str}:(j3 kv k).isSome=decide (k∈kv.map (·.1)):=by
 induction kv with
 | nil=>rfl
 | cons p r ih =>
  rw [L2.lz,Tt]
  by_cases h:p.1=k
  ·rw [if_pos h,decide_eq_true (by rw [h];exact T6)];rfl
  ·rw [if_neg h,ih];exact decide_eq_decide.mpr ⟨λz=>TQ _ z,λz=>by rcases TC.mp z with e | z;exact absurd e.symm h;exact z⟩
theorem vV {c:lZ} {a u:jm} {D:En} {τ:Sr} {J:Hq} (b:Prop) [Decidable b] (hc:∀R:Bool→Hq→Prop,R (decide b) J→c τ J R) (h1:b→∀N,a { D with nx:=N } τ J) (h2:¬ b→u D τ J):bX (DS c a ve) u D τ J:=by
 refine hc _ ?_
 by_cases h:b
 ·rw [decide_eq_true h,if_pos rfl];exact h1 h _
 ·rw [decide_eq_false h,if_neg (by decide)];exact h2 h
theorem IZ {R:Bool→Hq→Prop} {b c:Bool} {J:Hq} (h:R b J) (e:b=true↔c=true):R c J:=by rw [← UA.mpr e];exact h
theorem wG {xs:List Str} {r:Int} (h0:0≤r) (hl:0 < xs.length):∃n∈xs,dt (xs.map PV.str) (r % (xs.length:Int))=some (.str n):=by
 obtain ⟨j,hj⟩:∃j:Nat,r % (xs.length:Int)=j:=⟨(r % (xs.length:Int)).toNat,by have:=Int.emod_nonneg r (b:=(xs.length:Int)) (by omega);omega⟩
 have hjl:j < xs.length:=by have:=Int.emod_lt_of_pos r (b:=(xs.length:Int)) (by omega);omega
 exact ⟨xs[j],TY hjl,by rw [hj];exact bx (by rw [Tq,Tn hjl];rfl)⟩
theorem FF {f:Addr} {fd:FuncData} (F:cm K "_law_deed" "_law_deed" w6 f fd) (Z:bV mg) (D':bq P w K mg base 1 "_law_placed" kM vn) (A_:bq P w K mg base 1 "_law_paced" l_ ze) (vD:bq P w K mg base 2 "_law_later" iG xx):aP P w K mg base (c8 P w) 3 f fd nQ (dC K Gz):=by
 simp_arith [qO,(ai (aA (i:=6) qO.nd (fN (x4 rfl) rfl Z.list boot_list (af (rv 4) ah)))
   (ai (MP (i:=7) (L2.aj w6) ["_law_row","_law_mode","_law_names_here","_law_used","_law_legs","_law_clock","_law_there","_law_fresh","_law_name"] [("_law_used",3)] rfl rfl rfl qO.nd rfl (Or.inl rfl) (gx (rv 2)) (λ_ _ _ _ _ _=>(rv 0)) (λ_ _ _ _ _ _=>(aE BU (rv 0) (rv 1))))
   (ai (aT (c7 (ft (aE kG (aJ bN rfl Z.len boot_len (af (rv 7) ah)) ag) (ft (aE gM (aJ bN rfl Z.len boot_len (af (rv 6) ah)) ag) (dY (c7 (gj (aE gM (au av (rv 0) ag) ag) (fu (c7 (ft (aE gM (aJ bN rfl Z.len boot_len (af (rv 6) ah)) ag) (dY (aE gM (au av (rv 0) ag) ag))))))))))) (ai (aA (i:=8) qO.nd (au av (rv 7) (aM fK (au av (rv 0) ag) (aJ bN rfl Z.len boot_len (af (rv 7) ah)))))
   (ar (ay (bO (af bF (af (rv 8) (af (aO D' B hr (af (au av (rv 0) ag) (af (rv 1) ah))) (af (aO A_ B hr (af (au av (rv 0) ag) (af (rv 1) ah))) ah)))))))) aF)
   (ai (aT (c7 (ft (aE Mq (au av (rv 0) ag) (bO (af ag (af ag ah)))) (dY (aE kG (aJ bN rfl Z.len boot_len (af (rv 6) ah)) ag)))) (ar (ay (bO (af bF (af (au av (rv 6) (aM fK (au av (rv 0) ag) (aJ bN rfl Z.len boot_len (af (rv 6) ah)))) (af (aO A_ B hr (af (au av (rv 0) ag) (af (rv 1) ah))) ah)))))) aF)
   (ai (aT (c7 (ft (aE (cI hr.aU) (au av (rv 0) ag) ag) (dY (aE kG (aJ bN rfl Z.len boot_len (af (rv 6) ah)) ag)))) (ar (ay (bO (af bF (af (au av (rv 6) (aM fK (au av (rv 0) ag) (aJ bN rfl Z.len boot_len (af (rv 6) ah)))) ah))))) aF)
   (ai (aT (aE (cI hr.aU) (au av (rv 0) ag) ag) (ar (ay (bO (af bF ah)))) aF)
   (ar (ay (bO (af bF (af (aO vD B hr (af (rv 5) (af (au av (rv 0) ag) (af (au av (rv 0) ag) (af (rv 1) ah))))) ah)))))))))))]
 ·obtain ⟨r0,r1,r2,r3,r4,r5,m,names,used,U,D,gs,ep,t,kvU,epU,rfl,_⟩:=h;rfl
 obtain ⟨r0,r1,r2,r3,r4,r5,m,names,used,U,D,gs,ep,t,kvU,epU,rfl,hU,hkU,hD,hnl,hgl,r10,r20,r30,r31,r40,r41,r50,m0,m1,st,q⟩:=h
 have hkv:(bI gs).map (λkv=>PV.str kv.1)=(gs.map (·.1)).map PV.str:=by unfold bI;rw [Tw,Tw];rfl
 refine hX ?_
 simp_all! [hD,hkv,yR]
 obtain ⟨pn,hpn⟩:∃pn:Str→Bool,∀x,pn x=!decide (x∈used):=⟨_,λ_=>rfl⟩
 refine ⟨λx=>match x with | .str s=>pn s | _=>false,id,⟨by rw [Th];exact Ul hnl (by decide),λJ' sub=>⟨trivial,λx hx=>?_⟩⟩,?_⟩
 ·obtain ⟨s,hs,rfl⟩:=Ti.mp hx
  have hU':=sub _ _ hU
  simp_all! [qv,hU',A9,hkU]
  exact ⟨(hpn s).symm,λ_=>trivial⟩
 have ef:((names.map PV.str).filter λx=>match x with | .str s=>pn s | _=>false).map id=(names.filter pn).map PV.str:=by rw [List.map_id,Uk];rfl
 rw [ef]
 have hfr:∀n∈names.filter pn,n∈names∧n ∉ used:=λn hn=>by
  obtain ⟨h1,h2⟩:=TB.mp hn
  rw [hpn] at h2
  exact ⟨h1,by simpa using h2⟩
 generalize names.filter pn=fresh at hfr ⊢
 have gl:(gs.map (·.1)).length=gs.length:=Th _
 generalize hgn:gs.map (·.1)=gn at gl q ⊢
 refine hNq _ _ ?_
 clear hNq Nq
 refine vV (0 < fresh.length∧gs.length < 12∧(r0 < 3∨gs.length < 2∧r0 < 8)) (λR hR=>?_) (λhb N=>?_) (λhb=>?_)
 ·simp_arith! [bX,Th]
  (repeat' (first | split | simp_arith! [bX,Th])) <;> exact IZ hR (by simp only [decide_eq_true_eq,TJ,eq_self,iff_true,iff_false];omega)
 ·obtain ⟨n,hn,ha⟩:=wG r10 hb.1
  simp_all! [Th,ha]
  refine ⟨by omega,?_⟩
  simp_all! []
  refine ⟨r2,m,rfl,r20,λx hx=>⟨r3,m,rfl,r30,r31,λv hv=>?_⟩⟩
  exact q _ (.inl ⟨n,x,v,rfl,(hfr n hn).1,(hfr n hn).2,hb.2.1,hx,hv⟩)
 refine vV ((r0=3∨r0=4)∧0 < gs.length) (λR hR=>?_) (λhb N=>?_) (λhb=>?_)
 ·simp_all! [Th]
  refine ⟨r0,[3,4],rfl,rfl,Am rfl ?_⟩
  (repeat' (first | split | simp_arith! [bX,Th])) <;> exact IZ hR (by simp only [decide_eq_true_eq,TJ,id_eq,TC,TZ,or_false,eq_self,iff_true,iff_false] at *;omega)
 ·obtain ⟨n,hn,ha⟩:=wG (xs:=gn) r10 (by omega)
  simp_all! [Th,ha]
  refine ⟨by omega,?_⟩
  simp_all! []
  refine ⟨r3,m,rfl,r30,r31,λv hv=>?_⟩
  exact q _ (.inr (.inl ⟨n,v,rfl,by rw [hgn];exact hn,hv⟩))
 refine vV (r0=5∧2 < gs.length) (λR hR=>?_) (λhb N=>?_) (λhb=>?_)
 ·simp_arith! [bX,Th]
  (repeat' (first | split | simp_arith! [bX,Th])) <;> exact IZ hR (by simp only [decide_eq_true_eq,TJ,eq_self,iff_true,iff_false];omega)
 ·obtain ⟨n,hn,ha⟩:=wG (xs:=gn) r10 (by omega)
  simp_all! [Th,ha]
  exact ⟨by omega,q _ (.inr (.inr (.inr (.inl ⟨n,rfl,by rw [hgn];exact hn⟩))))⟩
 refine vV (r0=6) (λR hR=>?_) (λhb N=>?_) (λhb=>?_)
 ·simp_arith! [bX]
  exact IZ hR (by simp only [decide_eq_true_eq,TJ])
 ·simp_all! []
  exact q _ (.inr (.inr (.inl rfl)))
 simp_all! []
 exact ⟨t,r4,r5,m,rfl,r40,r50,m0,m1,r41,st,λm' hm'=>q _ (.inr (.inr (.inr (.inr ⟨m',rfl,hm'⟩))))⟩
theorem DM (t m:Rat) (ks:List Ky) (h:(ks.map Ky.n).Nodup) (hl:ks.length≤12):(e_ t ks m).length≤900:=by
 rw [← xU h]
 have h1:=lI t (b_ t m) (ks.flatMap λa=>ks.map λb=>(a,b))
 have h2:(ks.flatMap λa=>ks.map λb=>(a,b)).length=ks.length * ks.length:=by
  rw [List.length_flatMap]
  have:(ks.map λa=>(ks.map λb=>(a,b)).length)=Uw ks.length ks.length:=by
   rw [List.eq_replicate_iff]
   refine ⟨by rw [Th],λb hb=>?_⟩
   obtain ⟨_,_,rfl⟩:=Ti.mp hb
   rw [Th]
  rw [this,List.sum_replicate_nat]
 have h3:ks.length * ks.length≤12 * 12:=Nat.mul_le_mul hl hl
 omega
theorem yb {m:Rat} (h0:0≤m) (hd:m.den≤60) (h1:m.num≤1000000 * (m.den:Int)):hE m.num m.den=true:=by
 refine decide_eq_true ⟨by omega,by have:=m.den_pos;omega,?_,Rat.num_nonneg.mpr h0,h1⟩
 have:=m.reduced
 unfold Int.gcd
 exact this
theorem uZ {c q:Rat} (h:Later c q) (hc:c.den≤60):q.den≤60:=by
 rcases h with rfl | ⟨u,s,u0,u1,s0,s1,rfl⟩
 ·exact hc
 ·have:=vS (t:=(c.num * (u:Int)).fdiv (c.den:Int) + (s:Int)) (b:=(u:Int)) (by omega)
  omega
theorem Fm {q:Rat}:q.num≤1000000 * (q.den:Int)↔q≤1000000:=by
 rw [Rat.le_iff]
 have h3:(1000000:Rat).num=1000000:=rfl
 have h4:((1000000:Rat).den:Int)=1:=rfl
 rw [h3,h4]
 omega
structure Wk (cN cL:Addr) (J0:Hq) (S0:Addr→Prop) (J:Hq) (p:Addr) (L:Ln) (D U:Addr) (gs:List (Str × aQ)) (ep:Nat) (used:List Str) (k:Nat):Prop where
 b:ba cN cL J p L
 ok:cq L
 rl:Rl L gs
 hD:J D=some (.dct (bI gs) ep)
 hU:J U=some (.lst (used.map .str))
 nD:¬ L.own p D
 nU:¬ L.own p U
 mv:Mv J0 J S0 (λa=>L.own p a∨a=D∨a=U)
 td:L.t.den≤60
 tl:L.t≤((500 * k:Nat):Rat)
 wl:∀c∈L.cs,c.w.length≤1 + k
theorem Rl.go {L:Ln} {gs:List (Str × aQ)} (h:Rl L gs) {m:Rat} (hm:L.t≤m) {o:Addr} {row:List Str}:Rl { L with t:=m,o:=o,row:=row } gs:=⟨h.nm,h.ln,h.ck,λx hx=>Rat.le_trans (h.le x hx) hm,h.ct⟩
theorem yf {c q:Rat} (h:Later c q) (c0:0≤c):q≤c + 500:=by
 rcases h with rfl | ⟨u,s,u0,u1,s0,s1,rfl⟩
 ·grind
 rw [Rat.divInt_eq_div]
 have hu:(0:Rat) < ((u:Int):Rat):=by exact_mod_cast (show (0:Int) < u by omega)
 have h1:((s:Int):Rat)≤500 * ((u:Int):Rat):=by exact_mod_cast (show (s:Int)≤500 * u by omega)
 have hd:(0:Rat) < ((c.den:Int):Rat):=by exact_mod_cast (show (0:Int) < c.den by have:=c.den_pos;omega)
 have h2:((((c.num * (u:Int)).fdiv (c.den:Int)):Int):Rat)≤c * ((u:Int):Rat):=by
  have e1:(c.num * (u:Int)).fdiv (c.den:Int) * (c.den:Int)≤c.num * u:=by
   rw [Int.fdiv_eq_ediv_of_nonneg _ (by omega)]
   exact Int.ediv_mul_le _ (by have:=c.den_pos;omega)
  have e2:((((c.num * (u:Int)).fdiv (c.den:Int)):Int):Rat) * ((c.den:Int):Rat)≤(c.num:Rat) * ((u:Int):Rat):=by
   rw [← Rat.intCast_mul,← Rat.intCast_mul];exact Rat.intCast_le_intCast.mpr e1
  have e3:(c.num:Rat)=c * ((c.den:Int):Rat):=cast_eq c
  rw [e3] at e2
  generalize ((((c.num * (u:Int)).fdiv (c.den:Int)):Int):Rat)=x at e2 ⊢
  generalize ((c.den:Int):Rat)=y at e2 hd
  generalize ((u:Int):Rat)=z at e2 ⊢
  by_cases k:c * z < x
  ·have:0 < (x - c * z) * y:=Rat.mul_pos (by grind) hd
   grind
  ·grind
 rw [Rat.intCast_add]
 generalize ((((c.num * (u:Int)).fdiv (c.den:Int)):Int):Rat)=a at h2 ⊢
 generalize ((s:Int):Rat)=x at h1 ⊢
 generalize ((u:Int):Rat)=y at h1 h2 hu ⊢
 have e:(a + x) / y * y=a + x:=by grind
 generalize (a + x) / y=z at e ⊢
 by_cases k:c + 500 < z
 ·have:0 < (z - (c + 500)) * y:=Rat.mul_pos (by grind) hu
  grind
 ·grind
section
variable {cN cL:Addr} {J0 J:Hq} {S0:Addr→Prop} {p:Addr} {L:Ln} {D U:Addr} {gs:List (Str × aQ)} {ep:Nat} {used:List Str} {k:Nat}
theorem Wk.ne (h:Wk cN cL J0 S0 J p L D U gs ep used k):U≠D:=λe=>by have:=h.hU;rw [e,h.hD] at this;cases this
theorem Wk.kept (h:Wk cN cL J0 S0 J p L D U gs ep used k) {T:Addr} {o:HQ} (hT:J0 T=some o) (nT:¬ S0 T):J T=some o:=h.mv.keep _ _ hT nT
theorem Wk.next (h:Wk cN cL J0 S0 J p L D U gs ep used k) {J1:Hq} {L1:Ln} {gs1:List (Str × aQ)} {k1:Nat} (b1:ba cN cL J1 p L1) (ok1:cq L1) (mv:Mv J J1 (L.own p) (L1.own p)) (rl1:Rl L1 gs1) (td:L1.t.den≤60) (tl:L1.t≤((500 * k1:Nat):Rat)) (wl:∀c∈L1.cs,c.w.length≤1 + k1) (ep':Nat):Wk cN cL J0 S0 (put J1 D (.dct (bI gs1) ep')) p L1 D U gs1 ep' used k1:=by
 have new:∀{x o},J x=some o→¬ L.own p x→¬ L1.own p x:=λhx nx z=>by
  rcases mv.own _ z with q | q
  ·exact nx q
  ·rw [hx] at q;cases q
 have nD1:=new h.hD h.nD
 have hD1:=mv.keep _ _ h.hD h.nD
 have hU1:=mv.keep _ _ h.hU h.nU
 have mv1:Mv J J1 (λa=>L.own p a∨a=D∨a=U) (λa=>L1.own p a∨a=D∨a=U) :=
  ⟨λa o e n=>mv.keep a o e λz=>n (.inl z),λa z=>z.elim (λz=>(mv.own a z).imp .inl id) (λz=>.inl (.inr z)),mv.mono⟩
 refine ⟨b1.keep λa u ow e=>?_,ok1,rl1,ak,?_,nD1,new h.hU h.nU,(h.mv.trans mv1).trans (gJ (.inr (.inl rfl)) λa z=>.inl z),td,tl,wl⟩
 ·rw [aq (λz=>by subst z;exact nD1 ow)];exact e
 ·rw [aq h.ne];exact hU1
theorem Wk.push (h:Wk cN cL J0 S0 J p L D U gs ep used k) (n:Str):Wk cN cL J0 S0 (put J U (.lst ((used ++ [n]).map .str))) p L D U gs ep (used ++ [n]) k:=by
 refine ⟨h.b.keep λa u ow e=>?_,h.ok,h.rl,?_,ak,h.nD,h.nU,h.mv.trans (gJ (.inr (.inr rfl)) λa z=>.inl z),h.td,h.tl,h.wl⟩
 ·rw [aq (λz=>by subst z;exact h.nU ow)];exact e
 ·rw [aq (λe=>h.ne e.symm)];exact h.hD
theorem Wk.up (h:Wk cN cL J0 S0 J p L D U gs ep used k):Sz 900 L.t∧(gs.map (·.1)).Nodup∧gs.length≤12∧∀x∈gs,lV 900 x.2 :=
 ⟨h.ok.JH,h.rl.nd h.ok.tobh,by rw [h.rl.len];exact h.ok.C6,λx hx=>(h.rl.sz x hx).mono (by decide)⟩
end
theorem rZ {q:Rat} {k:Nat} (hk:k≤2000) (h:q≤((500 * k:Nat):Rat)):q≤1000000:=by
 refine Rat.le_trans h ?_
 have:((500 * k:Nat):Rat)≤((1000000:Nat):Rat):=by exact_mod_cast (show 500 * k≤1000000 by omega)
 exact this
theorem xA {a b:Rat} {k:Nat} (h:b≤a + 500) (ha:a≤((500 * k:Nat):Rat)):b≤((500 * (k + 1):Nat):Rat):=by
 have e:((500 * (k + 1):Nat):Rat)=((500 * k:Nat):Rat) + 500:=by
  rw [show 500 * (k + 1)=500 * k + 500 by omega];exact Rat.natCast_add _ _
 rw [e];grind
theorem Jv {a:Rat} {k:Nat} (ha:a≤((500 * k:Nat):Rat)):a≤((500 * (k + 1):Nat):Rat):=xA (a:=a) (by grind) ha
abbrev sL:Stmt:=(top 64)
abbrev kP:List Str:=["_law_rows","_law_moment","_law_pace"]
theorem lQ:L2.aw ["_law_rows","_law_moment","_law_pace","_law_out","_law_last","_law_here"] ["_law_rows","_law_moment","_law_pace"] (L2.aj sL):=d7
def vo:cM:=λxs J Q _=>∃(rows:List aQ) (t:Rat) (v:Int),xs=[.fl (rows.map aQ.V),fr t,.int v]∧rows≠[]∧rows.length≤900∧Sz 900 t∧(∀l∈rows,lV 900 l)∧Q (.fl ((turned rows t v).map aQ.V)) J
theorem Al {f:Addr} {fd:FuncData} (F:cm K "_law_turned" "_law_turned" sL f fd) (Z:bV mg) (p8:bq P w K mg base 2 "_law_at" fL me):aP P w K mg base (c8 P w) 3 f fd kP (dC K vo):=by
 simp_arith [lQ,(ai (aA (i:=3) lQ.nd (fN ni rfl Z.list boot_list (af (rv 0) ah)))
   (ai (aA (i:=4) lQ.nd (au av (rv 3) (pZ ly ag)))
   (ai (aA (i:=5) lQ.nd (aO p8 B hr (af (rv 4) (af (rv 1) ah))))
   (cW (aT (aE (cI hr.aU) (au av (rv 4) ag) (rv 1)) (ar (aX (kX PySem.F.plainAttrs_list PySem.F.slot_list_pop PySem.F.type_list_pop Fw (rv 3)))) aF)
   (cW (aT (c7 (gj (aE (cI hr.aU) (aJ bN rfl Z.len boot_len (af (rv 3) ah)) ag) (fu (aE (ia hr.aU) (au av (au av (rv 3) (pZ ly ag)) ag) (rv 2))))) (ar (aX (ie PySem.F.plainAttrs_list PySem.F.slot_list_append PySem.F.type_list_append fH (rv 3) (af (bO (af (rv 1) (af (rv 5) (af (rv 2) ah)))) ah)))) aF)
   (ar (ay (rv 3)))))))),F]
 ·obtain ⟨rows,t,v,rfl,_⟩:=h;rfl
 obtain ⟨rows,t,v,rfl,hne,hl,st,sl,q⟩:=h
 obtain ⟨ls,l,rfl⟩:∃ls l,rows=ls ++ [l]:=⟨rows.dropLast,rows.getLast hne,(T9 hne).symm⟩
 have sl':=sl l (by simp)
 have hla:dt ((ls ++ [l]).map aQ.V) (-1)=some l.V:=by rw [Ts];exact qy _ _
 refine hX ?_
 simp_arith! [bX]
 intro o ho
 simp_arith! [bX,hla]
 refine ⟨l,t,rfl,sl'.m,sl'.p,st,sl'.v,?_⟩
 obtain ⟨M,hM⟩:∃M:Sr→Hq→Prop,∀τ' J',M τ' J'↔τ'=[some (.fl ((ls ++ [l]).map aQ.V)),some (fr t),some (.int v),some (.ref o),some l.V,some (fr (l.at t))]∧J'=put J o (.lst ((if l.m=t then ls else ls ++ [l]).map aQ.V)):=⟨_,λ_ _=>Iff.rfl⟩
 refine ⟨M,?_,?_⟩
 ·simp_arith! [bX,rV]
  split
  ·rename_i e
   refine ⟨l.V,by simp,(hM _ _).mpr ⟨rfl,?_⟩⟩
   rw [if_pos e,Ts,Tt,Uc,Uz,bM]
  ·rename_i e
   exact (hM _ _).mpr ⟨rfl,by rw [if_neg e]⟩
 intro τ' J' hm
 obtain ⟨rfl,rfl⟩:=(hM _ _).mp hm
 clear hm hM M
 have et:turned (ls ++ [l]) t v=if (if l.m=t then ls else ls ++ [l]).getLast?.map aQ.v=some v then (if l.m=t then ls else ls ++ [l]) else (if l.m=t then ls else ls ++ [l]) ++ [⟨t,l.at t,v⟩]:=by
  unfold turned
  simp only [T2,Uz]
 have hrl:(if l.m=t then ls else ls ++ [l]).length≤900:=by
  split
  ·rw [TN] at hl;omega
  ·exact hl
 rw [et] at q
 generalize (if l.m=t then ls else ls ++ [l])=rest at q hrl ⊢
 obtain ⟨M,hM⟩:∃M:Sr→Hq→Prop,∀τ' J',M τ' J'↔τ'=[some (.fl ((ls ++ [l]).map aQ.V)),some (fr t),some (.int v),some (.ref o),some l.V,some (fr (l.at t))]∧J'=put J o (.lst ((if rest.getLast?.map aQ.v=some v then rest else rest ++ [⟨t,l.at t,v⟩]).map aQ.V)):=⟨_,λ_ _=>Iff.rfl⟩
 refine ⟨M,?_,?_⟩
 ·simp_arith! [bX,bM,tE,Th]
  rcases Vx rest with rfl | ⟨ks,k,rfl⟩
  ·rw [if_pos (by rfl)]
   exact ⟨a8 (by decide),(hM _ _).mpr ⟨rfl,rfl⟩⟩
  ·rw [Vy] at *
   have hk:dt ((ks ++ [k]).map aQ.V) (-1)=some k.V:=by rw [Ts];exact qy _ _
   rw [if_neg (by simp;omega)]
   simp_arith! [bX,hk,hZ]
   rw [T2,U9] at hM
   by_cases e:k.v=v
   ·rw [if_pos e];exact (hM _ _).mpr ⟨rfl,by rw [if_pos (congrArg some e)]⟩
   ·rw [if_neg e];exact ⟨a8 (by rw [Th];omega),(hM _ _).mpr ⟨rfl,by rw [if_neg (λz=>e (Option.some.inj z))];simp only [Ts,Tt,Uc,bM]⟩⟩
 intro τ' J' hm
 obtain ⟨rfl,rfl⟩:=(hM _ _).mp hm
 clear hm hM M
 simp_arith! [bX]
 exact Fg.oN (fg ho) ak ho q
abbrev w9:Stmt:=(top 67)
abbrev l9:List Str:=["_law_lane","_law_names_here","_law_cells","_law_mode"]
theorem eE:L2.aw ["_law_lane","_law_names_here","_law_cells","_law_mode","_law_legs","_law_rows","_law_gone","_law_clock","_law_cell_here","_law_row","_law_deed_here","_law_name"] ["_law_lane","_law_names_here","_law_cells","_law_mode"] (L2.aj w9):=d7
def dO (c:Cf):Str × PV:=(c.n,.fl (c.w.map aQ.V))
def pS (gone:List (Str × Rat)):List (Str × PV):=gone.map λx=>(x.1,fr x.2)
theorem qM {cs:List Cf} (nd:(cs.map Cf.n).Nodup) {c:Cf} (hc:c∈cs):j3 (cs.map dO) c.n=some (.fl (c.w.map aQ.V)):=by
 have e:cs.map dO=((cs.map λc=>(c.n,c.w)).map λx=>(x.1,PV.fl (x.2.map aQ.V))):=by rw [Tw];rfl
 rw [e]
 exact fS (f:=λw:List aQ=>PV.fl (w.map aQ.V)) (by rw [Tw];exact nd) (Ti.mpr ⟨c,hc,rfl⟩)
theorem Ji (cs:List Cf):(cs.map dO).map (·.1)=cs.map Cf.n:=by rw [Tw];rfl
theorem Gm {cs:List Cf} {c:Cf} (hn:c.n ∉ cs.map Cf.n):oy (cs.map dO) c.n (.fl (c.w.map aQ.V))=(cs ++ [c]).map dO:=by
 have e:cs.map dO=((cs.map λc=>(c.n,c.w)).map λx=>(x.1,PV.fl (x.2.map aQ.V))):=by rw [Tw];rfl
 rw [e,o_ (f:=λw:List aQ=>PV.fl (w.map aQ.V)) (l:=c.w) (by rw [Tw];exact hn),Ts,Ts,Tw];rfl
theorem B6 {cs:List Cf} {n:Str} {w:List aQ} {f:Cf→Cf} (hm:n∈cs.map Cf.n) (h1:∀c∈cs,(f c).n=c.n) (h2:∀c∈cs,c.n=n→(f c).w=w) (h3:∀c∈cs,c.n≠n→(f c).w=c.w):oy (cs.map dO) n (.fl (w.map aQ.V))=(cs.map f).map dO:=by
 unfold L2.oy
 rw [if_pos,Tw,Tw]
 ·refine TL λc hc=>?_
  show (if c.n=n then (c.n,PV.fl (w.map aQ.V)) else (c.n,.fl (c.w.map aQ.V)))=((f c).n,PV.fl ((f c).w.map aQ.V))
  by_cases e:c.n=n
  ·rw [if_pos e,h1 c hc,h2 c hc e]
  ·rw [if_neg e,h1 c hc,h3 c hc e]
 ·obtain ⟨c,hc,e⟩:=Ti.mp hm
  rw [Vp]
  exact ⟨dO c,Ti.mpr ⟨c,hc,rfl⟩,decide_eq_true e⟩
theorem EX {n:Str} (hg:good n=true):n.length≤sizeLine:=by
 have h8:n.cps.size≤8:=by
  unfold good at hg
  rw [T4,T4] at hg
  exact of_decide_eq_true hg.1.2
 exact TK h8 (by decide)
theorem Du {l:List Str} {n:Str} (h:l.Nodup) (hn:n ∉ l):(l ++ [n]).Nodup:=by
 rw [Uq]
 refine ⟨h,by simp,λa ha b hb e=>hn ?_⟩
 rw [Tx] at hb
 rw [← hb,← e];exact ha
theorem Dq {α:Type} {f:α→α} {xs:List α} (h:∀x∈xs,f x=x):xs.map f=xs:=by
 rw [TL h,Ve]
structure Lv (cN cL:Addr) (J0:Hq) (S0:Addr→Prop) (J:Hq) (p:Addr) (L:Ln) (D R G:Addr) (gs:List (Str × aQ)) (gone:List (Str × Rat)) (k:Nat):Prop where
 b:ba cN cL J p L
 ok:cq L
 rl:Rl L gs
 hD:∃e,J D=some (.dct (bI gs) e)
 hR:∃e,J R=some (.dct (L.cs.map dO) e)
 hG:∃e,J G=some (.dct (pS gone) e)
 nD:¬ L.own p D
 nR:¬ L.own p R
 nG:¬ L.own p G
 dr:D≠R
 dg:D≠G
 rg:R≠G
 mv:Mv J0 J S0 (λa=>L.own p a∨a=D∨a=R∨a=G)
 td:L.t.den≤60
 tl:L.t≤((500 * k:Nat):Rat)
 wl:∀c∈L.cs,c.w.length≤1 + k
 g1:∀c∈L.cs,∀q,c.g=some q↔(c.n,q)∈gone
 g2:(gone.map (·.1)).Nodup
 g3:∀x∈gone,x.1∈L.cs.map Cf.n
section
variable {cN cL:Addr} {J0 J:Hq} {S0:Addr→Prop} {p:Addr} {L:Ln} {D R G:Addr} {gs:List (Str × aQ)} {gone:List (Str × Rat)} {k:Nat}
theorem Lv.next (h:Lv cN cL J0 S0 J p L D R G gs gone k) {J1 JF:Hq} {L1:Ln} {gs1:List (Str × aQ)} {gone1:List (Str × Rat)} (b1:ba cN cL J1 p L1) (ok1:cq L1) (mv:Mv J J1 (L.own p) (L1.own p)) (rl1:Rl L1 gs1) (td:L1.t.den≤60) (tl:L1.t≤((500 * (k + 1):Nat):Rat)) (wl:∀c∈L1.cs,c.w.length≤1 + (k + 1))
  (g1:∀c∈L1.cs,∀q,c.g=some q↔(c.n,q)∈gone1) (g2:(gone1.map (·.1)).Nodup) (g3:∀x∈gone1,x.1∈L1.cs.map Cf.n) (hD:∃e,JF D=some (.dct (bI gs1) e)) (hR:∃e,JF R=some (.dct (L1.cs.map dO) e)) (hG:∃e,JF G=some (.dct (pS gone1) e))
  (off:∀a,a≠D→a≠R→a≠G→JF a=J1 a):Lv cN cL J0 S0 JF p L1 D R G gs1 gone1 (k + 1):=by
 have new:∀{x},(∃kv e,J x=some (.dct kv e))→¬ L.own p x→¬ L1.own p x:=λ⟨kv,e,hx⟩ nx z=>by
  rcases mv.own _ z with q | q
  ·exact nx q
  ·rw [hx] at q;cases q
 have aD:∃kv e,J D=some (.dct kv e):=⟨_,h.hD⟩
 have aR:∃kv e,J R=some (.dct kv e):=⟨_,h.hR⟩
 have aG:∃kv e,J G=some (.dct kv e):=⟨_,h.hG⟩
 have nD1:=new aD h.nD
 have nR1:=new aR h.nR
 have nG1:=new aG h.nG
 have k1:∀{x},(∃kv e,J x=some (.dct kv e))→J x≠none:=λ⟨kv,e,hx⟩ z=>by rw [z] at hx;cases hx
 refine ⟨b1.keep λa o ow e=>by rw [off a (λz=>by subst z;exact nD1 ow) (λz=>by subst z;exact nR1 ow) (λz=>by subst z;exact nG1 ow)];exact e,ok1,rl1,hD,hR,hG,nD1,nR1,nG1,h.dr,h.dg,h.rg,h.mv.trans ⟨λa o e n=>?_,λa z=>?_,λa z=>?_⟩,td,tl,wl,g1,g2,g3⟩
 ·rw [off a (λz=>n (.inr (.inl z))) (λz=>n (.inr (.inr (.inl z)))) (λz=>n (.inr (.inr (.inr z))))]
  exact mv.keep a o e λz=>n (.inl z)
 ·rcases z with z | z
  ·exact (mv.own a z).imp .inl id
  ·exact .inl (.inr z)
 ·by_cases zD:a=D
  ·subst zD;obtain ⟨e,he⟩:=hD;rw [he] at z;cases z
  by_cases zR:a=R
  ·subst zR;obtain ⟨e,he⟩:=hR;rw [he] at z;cases z
  by_cases zG:a=G
  ·subst zG;obtain ⟨e,he⟩:=hG;rw [he] at z;cases z
  rw [off a zD zR zG] at z
  exact mv.mono a z
end
def Cg (cN cL T:Addr):cM:=λxs J Q _=>∃(p:Addr) (L0:Ln) (names:List Str) (cells:List Int) (m:Int),xs=[.ref p,.fl (names.map .str),.fl (cells.map .int),.int m]∧ba cN cL J p L0∧cq L0∧L0.cs=[]∧L0.t=0∧J T=some .tab∧names.length≤40∧(∀n∈names,good n=true)∧cells.length≤60∧0≤m∧m < 4 ∧
 ∀J' L D R G gs gone,Lv cN cL J (L0.own p) J' p L D R G gs gone cells.length→(∀n∈L.cs.map Cf.n,n∈names)→Q (.tup [.ref D,.ref R,.ref G,fr L.t]) J'
theorem DB {cN cL T f:Addr} {fd:FuncData} (F:cm K "_law_lived" "_law_lived" w9 f fd) (Z:bV mg) (fc:bq P w K mg base 1 "_law_digits" c4 AX) (K2:bq P w K mg base 3 "_law_deed" nQ Gz) (K3:bq P w K mg base 9 "_law_done" nS (GA cN cL T)) (xM:bq P w K mg base 3 "_law_turned" kP vo) (Hc:bq P w K mg base 3 "_law_acted" l8 B9):aP P w K mg base (c8 P w) 10 f fd l9 (dC K (Cg cN cL T)):=by
 simp_arith [eE,(ai (aA (i:=4) eE.nd qL)
   (ai (aA (i:=5) eE.nd qL)
   (ai (aA (i:=6) eE.nd qL)
   (ai (aA (i:=7) eE.nd (bO (af ag (af ag ah))))
   (ai (dw bQ rfl (gx (rv 2)) (bz (i:=8) eE.nd) (ai (aA (i:=9) eE.nd (aO fc B hr (af (rv 8) (af (vf (AJ [.int 10,.int 97,.int 2000001,.int 2001,.int 400000,.int 60] rfl [.int 10,.int 97,.int 2000001,.int 2001,.int 400000,.int 60] rfl)) ah))))
   (ai (aA (i:=10) eE.nd (aO K2 B hr (af (rv 9) (af (rv 3) (af (rv 1) (af (rv 5) (af (rv 4) (af (rv 7) ah))))))))
   (ai (aX (aO K3 B hr (af (rv 0) (af (rv 10) ah))))
   (cW (aT (aE (cI hr.aU) (au av (rv 10) ag) bF) (ar (k6 il (rv 5) (au av (rv 10) ag) (vf (af (bO (af (rv 7) (af (bO (af (au av (rv 10) ag) (af ag ah))) (af (au av (rv 10) ag) ah)))) ah)))) aF)
   (cW (aT (aE (cI hr.aU) (au av (rv 10) ag) bF) (ar (k6 il (rv 5) (au av (rv 10) ag) (aO xM B hr (af (au bY (rv 5) (au av (rv 10) ag)) (af (rv 7) (af (au av (rv 10) ag) ah)))))) aF)
   (cW (aT (aE (cI hr.aU) (au av (rv 10) ag) bF) (ar (k6 il (rv 6) (au av (rv 10) ag) (rv 7))) aF)
   (cW (aT (aE (cI hr.aU) (au av (rv 10) ag) bF) (ar (dw bQ rfl (ig (rv 4)) (bz (i:=11) eE.nd) (ar (k6 il (rv 5) (rv 11) (aO xM B hr (af (au bY (rv 5) (rv 11)) (af (rv 7) (af (pZ ly (au av (au bY (rv 4) (rv 11)) ag)) ah)))))))) aF)
   (ar (aA (i:=7) eE.nd (aO Hc B hr (af (rv 4) (af (rv 7) (af (rv 10) ah))))))))))))))
   (ar (ay (bO (af (rv 4) (af (rv 5) (af (rv 6) (af (rv 7) ah))))))))))))]
 ·obtain ⟨p,L0,names,cells,m,rfl,_⟩:=h;rfl
 obtain ⟨p,L0,names,cells,m,rfl,b,ok,cs0,t0,hT,hnl,hng,hcl,m0,m1,q⟩:=h
 refine hX ?_
 simp_all! []
 intro D hD eD
 refine hNq _ _ ?_
 clear hNq Nq
 simp_all! []
 intro R hR eR
 refine hNq _ _ ?_
 clear hNq Nq
 simp_all! []
 intro Gd hG eG
 have nDR:D≠R:=λe=>by subst e;rw [ak] at hR;cases hR
 have nRG:R≠Gd:=λe=>by subst e;rw [ak] at hG;cases hG
 have nDG:D≠Gd:=λe=>by subst e;rw [aq nDR,ak] at hG;cases hG
 have hRn:J R=none:=by rw [aq (Ne.symm nDR)] at hR;exact hR
 have hGn:J Gd=none:=by rw [aq (Ne.symm nRG),aq (Ne.symm nDG)] at hG;exact hG
 have w0:Lv cN cL J (L0.own p) (put (put (put J D (.dct [] eD)) R (.dct [] eR)) Gd (.dct [] eG)) p L0 D R Gd [] [] 0:=by
  refine ⟨((b.fresh hD).fresh hR).fresh hG,ok,⟨by unfold Ln.fs Ln.DQ;rw [cs0];rfl,(by simp),(by simp),(by simp),(by rw [cs0];simp)⟩,⟨eD,by rw [aq nDG,aq nDR];exact ak⟩,⟨eR,by rw [aq nRG,cs0];exact ak⟩,⟨eG,ak⟩,λz=>b.some z hD,λz=>b.some z hRn,λz=>b.some z hGn,nDR,nDG,nRG,?_,by rw [t0];decide,by rw [t0];decide,by rw [cs0];simp,by rw [cs0];simp,VB,(by simp)⟩
  have hh:=((Mv.yr (S:=L0.own p) (o:=.dct [] eD) hD).trans (Mv.yr (o:=.dct [] eR) hR)).trans (Mv.yr (o:=.dct [] eG) hG)
  exact ⟨hh.keep,λa z=>hh.own a (z.elim (λz=>.inl (.inl (.inl z))) λz=>z.elim (λz=>.inl (.inl (.inr z))) λz=>z.elim (λz=>.inl (.inr z)) .inr),hh.mono⟩
 generalize put (put (put J D (.dct [] eD)) R (.dct [] eR)) Gd (.dct [] eG)=J1 at w0 ⊢
 clear hG hR hRn hGn
 refine hNq _ _ ?_
 clear hNq Nq
 simp_all! []
 obtain ⟨Inv,hInv⟩:∃Inv:Nat→Sr→Hq→Prop,∀i τ J',Inv i τ J'↔∃(L:Ln) (gs:List (Str × aQ)) (gone:List (Str × Rat)) (u8 u9 u10 u11:Option PV),τ=[some (.ref p),some (.fl (names.map .str)),some (.fl (cells.map .int)),some (.int m),some (.ref D),some (.ref R),some (.ref Gd),some (fr L.t),u8,u9,u10,u11]∧Lv cN cL J (L0.own p) J' p L D R Gd gs gone i∧(∀n∈L.cs.map Cf.n,n∈names)∧L.cs.length≤i:=⟨_,λ_ _ _=>Iff.rfl⟩
 refine eV Inv ((hInv _ _ _).mpr ⟨L0,[],[],_,_,_,_,by rw [t0];rfl,w0,(by rw [cs0];simp),by rw [cs0];exact Tr _⟩) (λ_ _ _ _=>trivial) ?_ ?_
 ·intro i x τ J' hx hv
  obtain ⟨L,gs,gone,u8,u9,u10,u11,rfl,lv,hus,hul⟩:=(hInv _ _ _).mp hv
  clear hv
  have hi:i < cells.length:=by have:=(Tj.mp hx).1;simpa using this
  rw [Tq,Tn hi] at hx
  cases hx
  generalize cells[i]=c
  simp_all! []
  refine ⟨c,[10,97,2000001,2001,400000,60],rfl,og (by decide),by decide,λds hG=>?_⟩
  obtain ⟨r0,ds,rfl,_,_,hG⟩:=hG.cons
  obtain ⟨r1,ds,rfl,r10,_,hG⟩:=hG.cons
  obtain ⟨r2,ds,rfl,r20,_,hG⟩:=hG.cons
  obtain ⟨r3,ds,rfl,r30,r31,hG⟩:=hG.cons
  obtain ⟨r4,ds,rfl,r40,r41,hG⟩:=hG.cons
  obtain ⟨r5,ds,rfl,r50,_,hG⟩:=hG.cons
  cases hG.nil
  have st:Sz 900 L.t:=lv.ok.JH
  have gnd:=lv.rl.nd lv.ok.tobh
  have gl:gs.length≤12:=by rw [lv.rl.len];exact lv.ok.C6
  have gsz:∀x∈gs,lV 900 x.2:=λx hx=>(lv.rl.sz x hx).mono (by decide)
  obtain ⟨eD',hD⟩:=lv.hD
  obtain ⟨eR',hR⟩:=lv.hR
  obtain ⟨eG',hG⟩:=lv.hG
  simp_all! []
  refine ⟨r0,r1,r2,r3,r4,r5,m,names,L.cs.map Cf.n,R,D,gs,eD',L.t,L.cs.map dO,eR',rfl,hR,Ji _,hD,hnl,by omega,r10,r20,r30,r31,r40,by omega,r50,m0,m1,st,λdv hdv=>?_⟩
  refine hNq _ _ ?_
  clear hNq Nq
  have hT':J' T=some .tab:=lv.mv.keep _ _ hT (b.L8 hT)
  have hw200:∀c∈L.cs,c.w.length < 200:=λc hc=>by have:=lv.wl c hc;omega
  have tl1:L.t≤((500 * (i + 1):Nat):Rat):=Jv lv.tl
  have hrow:∀n,n∈gs.map (·.1)→n∈L.row:=λn hn=>(lv.ok.rm n).mpr (by rw [← lv.rl.nm];exact hn)
  have cnd:=lv.ok.tobh.nd
  have szc:∀c∈L.cs,c.w≠[]∧c.w.length≤900∧∀l∈c.w,lV 900 l:=λc hc=>⟨lv.ok.ne c hc,by have:=lv.wl c hc;omega,λl hl=>(lv.ok.ck c hc l hl).D9⟩
  have nRD:=Ne.symm lv.dr
  have nGD:=Ne.symm lv.dg
  have nGR:=Ne.symm lv.rg
  have hRl:(L.cs.map dO).length < 200:=by rw [Th];omega
  have keepD:∀{J3:Hq} {L3:Ln},Mv J' J3 (L.own p) (L3.own p)→J3 D=some (.dct (bI gs) eD')∧J3 R=some (.dct (L.cs.map dO) eR')∧J3 Gd=some (.dct (pS gone) eG'):=λmv=>⟨mv.keep _ _ hD lv.nD,mv.keep _ _ hR lv.nR,mv.keep _ _ hG lv.nG⟩
  rcases hdv with ⟨n,x,v,rfl,hn,hnu,hgl,hx,hv⟩ | ⟨n,v,rfl,hn,hv⟩ | rfl | ⟨n,rfl,hn⟩ | ⟨m',rfl,hm'⟩
  ·have i0:∀J,fA J (fB n x v) (.int 0)=some (.str "join"):=λJ=>d5 _ _
   have i1:∀J,fA J (fB n x v) (.int 1)=some (.str n):=λJ=>fz _ _ _
   have i2:∀J,fA J (fB n x v) (.int 2)=some (.int x):=λJ=>jW _ _ _ _
   have i3:∀J,fA J (fB n x v) (.int 3)=some (.int v):=λJ=>rfl
   have hnf:n ∉ L.fs.map (·.1):=λz=>hnu (by
    rw [f9,Ti] at z
    obtain ⟨c',hc',e'⟩:=z
    exact Ti.mpr ⟨c',(Ln.dW.mp hc').1,e'⟩)
   simp_all! []
   refine ⟨p,L,_,rfl,lv.b,lv.ok,.inl ⟨n,x,v,rfl,hT',hng n hn,⟨hx,hv⟩,hnu,by rw [lv.ok.row,sf];have:=lv.rl.len;omega,by omega,EX (hng n hn),λJ3 L3 b3 ok3 jn mv3=>?_⟩⟩
   have rl3:=lv.rl.join ok3.tobh hv hx jn lv.ok.t0 lv.ok.ts hnf
   obtain ⟨a,r,ecs,et⟩:=jn
   obtain ⟨hD3,hR3,hG3⟩:=keepD mv3
   have epu:oy (L.cs.map dO) n (.fl ([aQ.mk L.t (x:Rat) v].map aQ.V))=L3.cs.map dO:=by rw [ecs];exact Gm (c:=⟨n,a,r,[⟨L.t,(x:Rat),v⟩],none⟩) hnu
   refine hNq _ _ ?_
   clear hNq Nq
   refine eJ (λτ' J2=>τ'=[some (.ref p),some (.fl (names.map .str)),some (.fl (cells.map .int)),some (.int m),some (.ref D),some (.ref R),some (.ref Gd),some (fr L.t),some (.int c),some (.fl [.int r0,.int r1,.int r2,.int r3,.int r4,.int r5]),some (fB n x v),u11]∧∃e,J2=put J3 R (.dct (L3.cs.map dO) e)) (qk rfl (i0 _)) ?_ ?_
   ·simp_all! [i1,i2,i3,hR3]
    refine ⟨TF hRl (by decide),λep'=>⟨ep',?_⟩⟩
    rw [← epu];rfl
   rintro τ' J2 ⟨rfl,e2,rfl⟩
   refine cu rfl (i0 _) (by decide +kernel) ?_
   refine cu rfl (i0 _) (by decide +kernel) ?_
   refine cu rfl (i0 _) (by decide +kernel) ?_
   simp_all! []
   refine ⟨D,gs,eD',L.t,_,rfl,by rw [aq lv.dr];exact hD3,gnd,by omega,st,gsz,.inl ⟨n,x,v,rfl,by rw [lv.rl.nm];exact hnf,λep'=>?_⟩⟩
   refine (hInv _ _ _).mpr ⟨L3,_,gone,_,_,_,_,by rw [et],lv.next b3 ok3 mv3 rl3 (by rw [et];exact lv.td) (by rw [et];exact tl1) (λc hc=>?_) (λc hc q=>?_) lv.g2 (λy hy=>by rw [ecs,Ts];exact UL _ (lv.g3 y hy)) ⟨ep',ak⟩ ⟨e2,by rw [aq nRD];exact ak⟩ ⟨eG',by rw [aq nGD,aq nGR];exact hG3⟩ (λa h1 h2 _=>by rw [aq h1,aq h2]),λy hy=>?_,?_⟩
   ·rw [ecs] at hc
    rcases Tv.mp hc with hc | hc
    ·have:=lv.wl c hc;omega
    ·rw [Tx] at hc;subst hc;show 1≤_;omega
   ·rw [ecs] at hc
    rcases Tv.mp hc with hc | hc
    ·exact lv.g1 c hc q
    ·rw [Tx] at hc;subst hc
     exact ⟨λz=>(nomatch z),λz=>absurd (lv.g3 _ z) hnu⟩
   ·rw [ecs,Ts] at hy
    rcases Tv.mp hy with hy | hy
    ·exact hus y hy
    ·simp only [Tt,Uc,Tx] at hy;subst hy;exact hn
   ·rw [ecs,TN];show L.cs.length + 1≤_;omega
  ·have i0:∀J,fA J (gY n v) (.int 0)=some (.str "turn"):=λJ=>d5 _ _
   have i1:∀J,fA J (gY n v) (.int 1)=some (.str n):=λJ=>fz _ _ _
   have i2:∀J,fA J (gY n v) (.int 2)=some (.int v):=λJ=>jW _ _ _ _
   obtain ⟨c0,h0,hcn,hcg⟩:=lv.ok.found (hrow n hn)
   have hva:=qM cnd h0
   rw [hcn] at hva
   simp_all! []
   refine ⟨p,L,_,rfl,lv.b,lv.ok,.inr (.inl ⟨n,v,rfl,hrow n hn,hv,hw200,λJ3 L3 b3 ok3 e t1 mv3=>?_⟩)⟩
   obtain ⟨hD3,hR3,hG3⟩:=keepD mv3
   have epu:oy (L.cs.map dO) n (.fl ((turned c0.w L.t v).map aQ.V))=L3.cs.map dO:=by
    rw [e]
    refine B6 (Ti.mpr ⟨c0,h0,hcn⟩) (λc1 _=>(gA n L.t v c1).1) (λc1 h1 e1=>?_) (λc1 _ e1=>?_)
    ·have:c1=c0:=lv.ok.uniq h1 h0 (e1.trans hcn.symm)
     subst this
     unfold c9;rw [if_pos e1];rfl
    ·unfold c9;rw [if_neg e1]
   refine hNq _ _ ?_
   clear hNq Nq
   refine cu rfl (i0 _) (by decide +kernel) ?_
   refine eJ (λτ' J2=>τ'=[some (.ref p),some (.fl (names.map .str)),some (.fl (cells.map .int)),some (.int m),some (.ref D),some (.ref R),some (.ref Gd),some (fr L.t),some (.int c),some (.fl [.int r0,.int r1,.int r2,.int r3,.int r4,.int r5]),some (gY n v),u11]∧∃e,J2=put J3 R (.dct (L3.cs.map dO) e)) (qk rfl (i0 _)) ?_ ?_
   ·simp_all! [i1,i2,hR3,hva]
    refine ⟨c0.w,L.t,v,rfl,(szc c0 h0).1,(szc c0 h0).2.1,st,(szc c0 h0).2.2,?_⟩
    simp_all! [i1,hR3]
    exact ⟨TF hRl (by decide),λep'=>⟨ep',by rw [← epu]⟩⟩
   rintro τ' J2 ⟨rfl,e2,rfl⟩
   refine cu rfl (i0 _) (by decide +kernel) ?_
   refine cu rfl (i0 _) (by decide +kernel) ?_
   simp_all! []
   refine ⟨D,gs,eD',L.t,_,rfl,by rw [aq lv.dr];exact hD3,gnd,by omega,st,gsz,.inr (.inl ⟨n,v,rfl,hn,λep'=>?_⟩)⟩
   refine (hInv _ _ _).mpr ⟨L3,_,gone,_,_,_,_,by rw [t1],lv.next b3 ok3 mv3 (lv.rl.turn lv.ok.tobh hv e t1) (by rw [t1];exact lv.td) (by rw [t1];exact tl1) (λc1 hc=>?_) (λc1 hc q=>?_) lv.g2 (λy hy=>by rw [e,dn (λc=>(gA n L.t v c).1)];exact lv.g3 y hy) ⟨ep',ak⟩ ⟨e2,by rw [aq nRD];exact ak⟩ ⟨eG',by rw [aq nGD,aq nGR];exact hG3⟩ (λa h1 h2 _=>by rw [aq h1,aq h2]),by rw [e,dn (λc=>(gA n L.t v c).1)];exact hus,by rw [e,Th];omega⟩
   ·rw [e] at hc
    obtain ⟨c2,h2,rfl⟩:=Ti.mp hc
    have:=lv.wl c2 h2
    unfold c9
    split
    ·have:=mS c2.w L.t v
     show (turned c2.w L.t v).length≤_
     omega
    ·omega
   ·rw [e] at hc
    obtain ⟨c2,h2,rfl⟩:=Ti.mp hc
    rw [(gA n L.t v c2).2.2.2,(gA n L.t v c2).1]
    exact lv.g1 c2 h2 q
  ·have i0:∀J,fA J gF (.int 0)=some (.str "about"):=λJ=>d5 _ _
   simp_all! []
   refine ⟨p,L,_,rfl,lv.b,lv.ok,.inr (.inr (.inl ⟨rfl,hw200,λJ3 L3 b3 ok3 e t1 mv3=>?_⟩))⟩
   obtain ⟨hD3,hR3,hG3⟩:=keepD mv3
   refine hNq _ _ ?_
   clear hNq Nq
   refine cu rfl (i0 _) (by decide +kernel) ?_
   refine cu rfl (i0 _) (by decide +kernel) ?_
   refine cu rfl (i0 _) (by decide +kernel) ?_
   refine eJ (λτ' J2=>∃u,τ'=[some (.ref p),some (.fl (names.map .str)),some (.fl (cells.map .int)),some (.int m),some (.ref D),some (.ref R),some (.ref Gd),some (fr L.t),some (.int c),some (.fl [.int r0,.int r1,.int r2,.int r3,.int r4,.int r5]),some (gF),u]∧∃e,J2=put J3 R (.dct (L3.cs.map dO) e)) (qk rfl (i0 _)) ?_ ?_
   ·simp_all! [hD3]
    obtain ⟨W,hW⟩:∃W:Nat→Sr→Hq→Prop,∀i τ J',W i τ J'↔∃u e,τ=[some (.ref p),some (.fl (names.map .str)),some (.fl (cells.map .int)),some (.int m),some (.ref D),some (.ref R),some (.ref Gd),some (fr L.t),some (.int c),some (.fl [.int r0,.int r1,.int r2,.int r3,.int r4,.int r5]),some (gF),u]∧J'=put J3 R (.dct ((L.cs.map (bj L.t ((gs.map (·.1)).take i))).map dO) e):=⟨_,λ_ _ _=>Iff.rfl⟩
    have e0:∀e',put J3 R (.dct ((L.cs.map (bj L.t ((gs.map (·.1)).take 0))).map dO) e')=put J3 R (.dct (L.cs.map dO) e'):=λe'=>by
     rw [Dq λc1 _=>show bj L.t ((gs.map (·.1)).take 0) c1=c1 by unfold bj;simp]
    refine eV W ((hW _ _ _).mpr ⟨_,eR',rfl,by rw [e0,AG hR3]⟩) (λj τ J4 hv=>?_) ?_ ?_
    ·obtain ⟨u,e',rfl,rfl⟩:=(hW _ _ _).mp hv
     rw [aq lv.dr];exact hD3
    ·intro j y τ J4 hy hv
     obtain ⟨u,e',rfl,rfl⟩:=(hW _ _ _).mp hv
     have hj:j < gs.length:=by have:=(Tj.mp hy).1;simpa [bI] using this
     have hgj:=TY hj
     have et:(gs.map (·.1)).take (j + 1)=(gs.map (·.1)).take j ++ [gs[j].1]:=by rw [TR,Tq,Tn hj];rfl
     have hy':y=.str gs[j].1:=by
      unfold bI at hy
      rw [Tq,Tq,Tn hj] at hy
      exact (Option.some.inj hy).symm
     subst hy'
     have hnd:((gs.map (·.1)).take (j + 1)).Nodup:=gnd.sublist (Up _ _)
     rw [et] at hnd
     have hnot:=(fI hnd).2
     generalize gs[j]=g0 at hgj et hnot
     obtain ⟨n,l⟩:=g0
     simp only at et hnot
     obtain ⟨c0,h0,hcn,hcg⟩:=lv.ok.found (hrow n (Ti.mpr ⟨_,hgj,rfl⟩))
     have hc0:bj L.t ((gs.map (·.1)).take j) c0=c0:=by unfold bj;rw [if_neg (by rw [hcn];exact hnot)]
     have mem':c0∈L.cs.map (bj L.t ((gs.map (·.1)).take j)):=Ti.mpr ⟨c0,h0,hc0⟩
     have nm':(L.cs.map (bj L.t ((gs.map (·.1)).take j))).map Cf.n=L.cs.map Cf.n:=dn (λc=>(iX L.t ((gs.map (·.1)).take j) c).1) L.cs
     have hva:=qM (by rw [nm'];exact cnd) mem'
     rw [hcn] at hva
     have hvl:j3 (bI gs) n=some l.V:=fS (f:=aQ.V) gnd hgj
     have sl:l.v=c0.cur.v:=(lv.rl.ln n l c0.cur hgj (Ti.mpr ⟨c0,Ln.dW.mpr ⟨h0,hcg⟩,by rw [hcn]⟩)).1
     have epu:oy ((L.cs.map (bj L.t ((gs.map (·.1)).take j))).map dO) n (.fl ((turned c0.w L.t (-l.v)).map aQ.V))=(L.cs.map (bj L.t ((gs.map (·.1)).take (j + 1)))).map dO:=by
      rw [B6 (f:=λc1=>if c1.n=n then { c1 with w:=turned c0.w L.t (-l.v) } else c1) (by rw [nm'];exact Ti.mpr ⟨c0,h0,hcn⟩) (λc1 _=>by show (if c1.n=n then _ else c1).n=_;split <;> rfl) (λc1 _ e1=>by show (if c1.n=n then _ else c1).w=_;rw [if_pos e1]) (λc1 _ e1=>by show (if c1.n=n then _ else c1).w=_;rw [if_neg e1])]
      refine congrArg (UU dO) ?_
      rw [Tw]
      refine TL λc1 h1=>?_
      show (if (bj L.t ((gs.map (·.1)).take j) c1).n=n then _ else bj L.t ((gs.map (·.1)).take j) c1)=_
      rw [(iX L.t _ c1).1,et]
      by_cases e1:c1.n=n
      ·have:c1=c0:=lv.ok.uniq h1 h0 (e1.trans hcn.symm)
       subst this
       rw [if_pos e1,hc0]
       unfold bj
       rw [if_pos (Tz _ (by rw [e1];exact List.mem_singleton_self n)),sl];rfl
      ·rw [if_neg e1]
       unfold bj
       by_cases z:c1.n∈(gs.map (·.1)).take j
       ·rw [if_pos z,if_pos (UL _ z)]
       ·rw [if_neg z,if_neg (λy=>(Tv.mp y).elim z λy=>e1 (Tx.mp y))]
     have hD4:put J3 R (.dct ((L.cs.map (bj L.t ((gs.map (·.1)).take j))).map dO) e') D=some (.dct (bI gs) eD'):=by rw [aq lv.dr];exact hD3
     have hR4:put J3 R (.dct ((L.cs.map (bj L.t ((gs.map (·.1)).take j))).map dO) e') R=some (.dct ((L.cs.map (bj L.t ((gs.map (·.1)).take j))).map dO) e'):=ak
     simp_all! [hR4,hD4,hva,hvl,hZ]
     refine ⟨c0.w,L.t,-l.v,rfl,(szc c0 h0).1,(szc c0 h0).2.1,st,(szc c0 h0).2.2,?_⟩
     simp_all! [hR4]
     refine ⟨TF (show _ < 200 by rw [Th,Th];omega) (by decide),λep'=>(hW _ _ _).mpr ⟨_,ep',rfl,?_⟩⟩
     rw [epu,bM]
    ·intro τ J4 hv
     obtain ⟨u,e',rfl,rfl⟩:=(hW _ _ _).mp hv
     refine ⟨u,rfl,e',?_⟩
     rw [e,← iY lv.ok.tobh]
     congr 3
     refine TL λc1 _=>?_
     have hm:c1.n∈(gs.map (·.1)).take ((bI gs).map λkv=>PV.str kv.1).length↔c1.n∈L.row:=by
      rw [Ue (by simp [bI]),lv.rl.nm];exact (lv.ok.rm c1.n).symm
     unfold bj
     by_cases z:c1.n∈L.row
     ·rw [if_pos z,if_pos (hm.mpr z)]
     ·rw [if_neg z,if_neg (λy=>z (hm.mp y))]
   rintro τ' J2 ⟨u,rfl,e2,rfl⟩
   simp_all! []
   refine ⟨D,gs,eD',L.t,_,rfl,by rw [aq lv.dr];exact hD3,gnd,by omega,st,gsz,.inr (.inr (.inl ⟨rfl,λep'=>?_⟩))⟩
   refine (hInv _ _ _).mpr ⟨L3,_,gone,_,_,_,_,by rw [t1],lv.next b3 ok3 mv3 (lv.rl.about lv.ok.tobh e t1) (by rw [t1];exact lv.td) (by rw [t1];exact tl1) (λc1 hc=>?_) (λc1 hc q=>?_) lv.g2 (λy hy=>by rw [e,dn (λc=>(kb L.t c).1)];exact lv.g3 y hy) ⟨ep',ak⟩ ⟨e2,by rw [aq nRD];exact ak⟩ ⟨eG',by rw [aq nGD,aq nGR];exact hG3⟩ (λa h1 h2 _=>by rw [aq h1,aq h2]),by rw [e,dn (λc=>(kb L.t c).1)];exact hus,by rw [e,Th];omega⟩
   ·rw [e] at hc
    obtain ⟨c2,h2,rfl⟩:=Ti.mp hc
    have:=lv.wl c2 h2
    unfold eQ
    split
    ·have:=mS c2.w L.t (-c2.cur.v)
     show (turned c2.w L.t (-c2.cur.v)).length≤_
     omega
    ·omega
   ·rw [e] at hc
    obtain ⟨c2,h2,rfl⟩:=Ti.mp hc
    rw [(kb L.t c2).2.2.2,(kb L.t c2).1]
    exact lv.g1 c2 h2 q
  ·have i0:∀J,fA J (gd n) (.int 0)=some (.str "leave"):=λJ=>d5 _ _
   have i1:∀J,fA J (gd n) (.int 1)=some (.str n):=λJ=>fz _ _ _
   obtain ⟨c0,h0,hcn,hcg⟩:=lv.ok.found (hrow n hn)
   have hng':n ∉ gone.map (·.1):=λz=>by
    obtain ⟨y,hy,e⟩:=Ti.mp z
    have:=(lv.g1 c0 h0 y.2).mpr (by rw [hcn,← e];exact hy)
    rw [hcg] at this;cases this
   have gle:gone.length≤L.cs.length:=by
    have h1:=List.Nodup.length_le_of_subset lv.g2 (λy hy=>by
     obtain ⟨z,hz,e⟩:=Ti.mp hy
     rw [← e];exact lv.g3 z hz)
    simpa using h1
   have epu:oy (pS gone) n (fr L.t)=pS (gone ++ [(n,L.t)]):=o_ (f:=fr) (l:=L.t) hng'
   simp_all! []
   refine ⟨p,L,_,rfl,lv.b,lv.ok,.inr (.inr (.inr (.inl ⟨n,rfl,hrow n hn,λJ3 L3 b3 ok3 e t1 mv3=>?_⟩)))⟩
   obtain ⟨hD3,hR3,hG3⟩:=keepD mv3
   refine hNq _ _ ?_
   clear hNq Nq
   refine cu rfl (i0 _) (by decide +kernel) ?_
   refine cu rfl (i0 _) (by decide +kernel) ?_
   refine eJ (λτ' J2=>τ'=[some (.ref p),some (.fl (names.map .str)),some (.fl (cells.map .int)),some (.int m),some (.ref D),some (.ref R),some (.ref Gd),some (fr L.t),some (.int c),some (.fl [.int r0,.int r1,.int r2,.int r3,.int r4,.int r5]),some (gd n),u11]∧∃e,J2=put J3 Gd (.dct (pS (gone ++ [(n,L.t)])) e)) (qk rfl (i0 _)) ?_ ?_
   ·simp_all! [i1,hG3]
    exact ⟨TF (show (pS gone).length < 200 by unfold pS;rw [Th];omega) (by decide),λep'=>⟨ep',by rw [← epu]⟩⟩
   rintro τ' J2 ⟨rfl,e2,rfl⟩
   refine cu rfl (i0 _) (by decide +kernel) ?_
   simp_all! []
   refine ⟨D,gs,eD',L.t,_,rfl,by rw [aq lv.dg];exact hD3,gnd,by omega,st,gsz,.inr (.inr (.inr (.inl ⟨n,rfl,hn,λep'=>?_⟩)))⟩
   have erow:L3.cs.map dO=L.cs.map dO:=by
    rw [e,Tw]
    refine TL λc1 _=>?_
    show ((bK n L.t c1).n,PV.fl ((bK n L.t c1).w.map aQ.V))=_
    rw [(dH n L.t c1).1,(dH n L.t c1).2.2.2];rfl
   have hnm:L3.cs.map Cf.n=L.cs.map Cf.n:=by rw [e,dn (λc=>(dH n L.t c).1)]
   refine (hInv _ _ _).mpr ⟨L3,_,gone ++ [(n,L.t)],_,_,_,_,by rw [t1],lv.next b3 ok3 mv3 (lv.rl.leave e t1) (by rw [t1];exact lv.td) (by rw [t1];exact tl1) (λc1 hc=>?_) (λc1 hc q=>?_) (by rw [Ts];exact Du lv.g2 hng') (λy hy=>?_) ⟨ep',ak⟩ ⟨eR',by rw [aq nRD,aq lv.rg,erow];exact hR3⟩ ⟨e2,by rw [aq nGD];exact ak⟩ (λa h1 _ h2=>by rw [aq h1,aq h2]),by rw [hnm];exact hus,by rw [e,Th];omega⟩
   ·rw [e] at hc
    obtain ⟨c2,h2,rfl⟩:=Ti.mp hc
    have:=lv.wl c2 h2
    rw [(dH n L.t c2).2.2.2];omega
   ·rw [e] at hc
    obtain ⟨c2,h2,rfl⟩:=Ti.mp hc
    rw [(dH n L.t c2).1]
    by_cases e1:c2.n=n
    ·have:c2=c0:=lv.ok.uniq h2 h0 (e1.trans hcn.symm)
     subst this
     unfold bK
     rw [if_pos e1]
     show some L.t=some q↔_
     rw [Tv,Tx]
     constructor
     ·intro z;cases z;exact .inr (by rw [e1])
     ·rintro (z | z)
      ·exact absurd (Ti.mpr ⟨_,z,e1⟩) hng'
      ·have:=congrArg Prod.snd z;exact congrArg some this.symm
    ·unfold bK
     rw [if_neg e1,lv.g1 c2 h2 q,Tv,Tx]
     exact ⟨.inl,λz=>z.elim id λz=>absurd (congrArg Prod.fst z) e1⟩
   ·rw [hnm]
    rcases Tv.mp hy with hy | hy
    ·exact lv.g3 y hy
    ·rw [Tx] at hy;subst hy;exact Ti.mpr ⟨c0,h0,hcn⟩
  ·have i0:∀J,fA J (JW m') (.int 0)=some (.str "go"):=λJ=>d5 _ _
   have tl3:=xA (yf hm' lv.ok.t0) lv.tl
   have td3:=uZ hm' lv.td
   have hg:hE m'.num m'.den=true:=yb (Rat.le_trans lv.ok.t0 (hm'.le)) td3 (Fm.mpr (rZ (by omega) tl3))
   simp_all! []
   refine ⟨p,L,_,rfl,lv.b,lv.ok,.inr (.inr (.inr (.inr ⟨m',rfl,hg,hm'.le,λJ3 o3 b3 ok3 mv3=>?_⟩)))⟩
   obtain ⟨hD3,hR3,hG3⟩:=keepD mv3
   refine hNq _ _ ?_
   clear hNq Nq
   refine cu rfl (i0 _) (by decide +kernel) ?_
   refine cu rfl (i0 _) (by decide +kernel) ?_
   refine cu rfl (i0 _) (by decide +kernel) ?_
   refine cu rfl (i0 _) (by decide +kernel) ?_
   simp_all! []
   refine ⟨D,gs,eD',L.t,_,rfl,hD3,gnd,by omega,st,gsz,.inr (.inr (.inr (.inr ⟨m',rfl,?_⟩)))⟩
   exact (hInv _ _ _).mpr ⟨_,gs,gone,_,_,_,_,rfl,lv.next b3 ok3 mv3 (lv.rl.go hm'.le) td3 tl3 (λc hc=>by have:=lv.wl c hc;omega) lv.g1 lv.g2 lv.g3 ⟨eD',hD3⟩ ⟨eR',hR3⟩ ⟨eG',hG3⟩ (λa _ _ _=>rfl),hus,(by show L.cs.length≤i + 1;omega)⟩
 ·intro τ J' hv
  obtain ⟨L,gs,gone,u8,u9,u10,u11,rfl,lv,hus,hul⟩:=(hInv _ _ _).mp hv
  refine hNq _ _ ?_
  simp_all! []
  rw [Th] at lv
  exact q J' L D R Gd gs gone lv hus
def xY (ns:List Int) (k:Int):Int:=if k < (ns.length:Int) then ns.getD k.toNat 0 else 5 + 17 * k
def B':cM:=λxs J Q _=>∃(ns:List Int) (k:Int),xs=[.fl (ns.map .int),.int k]∧0≤k∧k < 1000∧Q (.int (xY ns k)) J
theorem FE {f:Addr} {fd:FuncData} (F:cm K "_law_cell" "_law_cell" AM f fd) (Z:bV mg):aP P w K mg base (c8 P w) 1 f fd nN (dC K B'):=by
 simp_arith [Jl,(ai (aT (aE gM (rv 1) (aJ bN rfl Z.len boot_len (af (rv 0) ah))) (ar (ay (au av (rv 0) (rv 1)))) aF)
   (ar (ay (aM cY ag (aM bL ag (rv 1))))))]
 ·obtain ⟨ns,k,rfl,_⟩:=h;rfl
 obtain ⟨ns,k,rfl,h0,h1,q⟩:=h
 unfold xY at q
 refine hX ?_
 simp_arith! [bX,Th]
 split
 ·rename_i c
  rw [if_pos c] at q
  obtain ⟨j,rfl⟩:=Int.eq_ofNat_of_zero_le h0
  have hj:j < ns.length:=by omega
  refine kF (x:=.int ns[j]) (bx (by rw [Tq,Tn hj];rfl)) ?_
  simpa [Wf,hj] using q
 ·rename_i c
  rw [if_neg c] at q
  exact ⟨.of (.small (x:=17) (by decide) (by decide)) (.small (x:=k) (by omega) (by omega)),q⟩
def Qz:PV→Int
 | .int i=>i
 | _=>0
abbrev iM:Stmt:=(L2.inClass (top 42) 21)
abbrev kK:List Str:=["self","name"]
theorem sP:L2.aw ["self","name"] ["self","name"] (L2.aj iM):=d7
def za (cN cL eC:Addr):cM:=λxs J Q E=>∃p L n,xs=[.ref p,.str n]∧ba cN cL J p L∧bh L∧(∀c∈L.cs,c.n=n→Q (.ref c.a) J)∧(n ∉ L.cs.map Cf.n→E eC J)
theorem r_ {cN cL eC f:Addr} {fd:FuncData} (F:cm K "log_of" "Lane.log_of" iM f fd) (Z:bV mg) (ax:d_ K mg "Lane" cN) (aH:aL K cN "logs") (eY:Own K mg "NoCraft" eC):aP P w K mg base (c8 P w) 1 f fd kK (dC K (za cN cL eC)):=by
 simp_arith [sP,(ai (aT (aE BU (rv 1) (aY ax.cl aH (rv 0))) (ar (dP eY rfl cy B.kn rfl (af bF ah))) aF)
   (ar (ay (au bY (aY ax.cl aH (rv 0)) (rv 1)))))]
 ·obtain ⟨p,L,n,rfl,_⟩:=h;rfl
 obtain ⟨p,L,n,rfl,b,ok,q,qe⟩:=h
 have bo:=b.ob
 have bd:=b.dc
 refine hX ?_
 simp_all! [bo,rY,bd,ok.SX]
 by_cases c:n∈L.cs.map Cf.n
 ·rw [if_pos (by simpa using c)]
  obtain ⟨c0,hc,rfl⟩:=Ti.mp c
  simp_all! [bo,rY,bd,ok.va hc]
  exact q c0 hc rfl
 ·rw [if_neg (by simpa using c)]
  simp_all! [fo]
  exact qe c
abbrev gR:Stmt:=(L2.inClass (top 42) 16)
abbrev jY:List Str:=["self","name"]
theorem qr:L2.aw ["self","name"] ["self","name"] (L2.aj gR):=d7
def Ck (cN cL eC:Addr):cM:=λxs J Q E=>∃p L n,xs=[.ref p,.str n]∧ba cN cL J p L∧bh L∧(∀c∈L.cs,c.n=n→Q (.fl (c.w.map aQ.V)) J∨∀l,J l=none→Q (.ref l) (put J l (.lst (c.w.map aQ.V))))∧(n ∉ L.cs.map Cf.n→E eC J)
theorem ql {cN cL eC f:Addr} {fd:FuncData} (F:cm K "history" "Lane.history" gR f fd) (Z:bV mg) (ax:d_ K mg "Lane" cN) (iu:cG P w K mg base cN 1 "log_of" kK (za cN cL eC)) (mz:cG P w K mg base cL 1 "legs" pX (Ce cL)):aP P w K mg base (c8 P w) 2 f fd jY (dC K (Ck cN cL eC)):=by
 simp_arith [qr,(ar (ay (cj (pl:=_) mz B hr (bp (pl:=_) iu B hr (rv 0) (af (rv 1) ah)))))]
 ·obtain ⟨p,L,n,rfl,_⟩:=h;rfl
 obtain ⟨p,L,n,rfl,b,ok,q,qe⟩:=h
 have bo:=b.ob
 refine hX ?_
 simp_all! [bo]
 refine ⟨dB _ _ _ _,p,L,n,rfl,b,ok,λc hc e=>?_,qe⟩
 have lo:=(b.lg c hc).o
 simp_all! [lo]
 exact ⟨Q9 _ _,c.a,c.r,c.w,c.g,rfl,b.lg c hc,q c hc e⟩
theorem Cf.EW {L:Ln} (ok:bh L) {c:Cf} (hc:c∈L.cs) (hg:c.g≠none):there c.w c.g L.t=false:=by
 obtain ⟨q,e⟩:=Option.ne_none_iff_exists'.mp hg
 obtain ⟨l,ls,ew⟩:=UK (ok.ne c hc)
 rw [e,ew]
 unfold there
 have h:=(ok.gz c hc q e).2
 simp only [U',NT]
 rw [decide_eq_false (Rat.not_lt.mpr h),U6]
def gi (cs:List Cf) (t:Rat):List (Str × aQ):=cs.filterMap λc=>if Ov.there c.w c.g t=true then (h_ c.w t).map λl=>(c.n,l) else none
theorem vB (cs:List Cf) (c:Cf) (t:Rat):gi (cs ++ [c]) t=gi cs t ++ (if Ov.there c.w c.g t=true then (h_ c.w t).map λl=>(c.n,l) else none).toList:=by
 unfold gi
 rw [List.filterMap_append]
 refine congrArg (_ ++ ·) ?_
 rw [Ug]
 cases (if Ov.there c.w c.g t=true then (h_ c.w t).map λl=>(c.n,l) else none) <;> rfl
theorem G4 {cs:List Cf} {c:Cf} {t:Rat} {l:aQ} (h:there c.w c.g t=true) (hl:h_ c.w t=some l):gi (cs ++ [c]) t=gi cs t ++ [(c.n,l)]:=by rw [vB,if_pos h,hl];rfl
theorem JO {cs:List Cf} {c:Cf} {t:Rat} (h:there c.w c.g t=false):gi (cs ++ [c]) t=gi cs t:=by rw [vB,if_neg (by rw [h];decide)];exact Uj _
theorem G3 {cs:List Cf} {t:Rat} {x:Str × aQ} (h:x∈gi cs t):∃c∈cs,there c.w c.g t=true∧x.1=c.n∧h_ c.w t=some x.2:=by
 obtain ⟨c,hc,e⟩:=UQ.mp h
 by_cases q:there c.w c.g t=true
 ·rw [if_pos q] at e
  obtain ⟨l,hl,e2⟩:=Vq.mp e
  subst e2
  exact ⟨c,hc,q,rfl,hl⟩
 ·rw [if_neg q] at e;cases e
theorem zj (cs:List Cf) (t:Rat):((gi cs t).map (·.1)).Sublist (cs.map Cf.n):=by
 induction cs with
 | nil=>exact List.Sublist.refl _
 | cons c cs ih =>
  have e:gi (c :: cs) t=(if Ov.there c.w c.g t=true then (h_ c.w t).map λl=>(c.n,l) else none).toList ++ gi cs t:=by
   unfold gi
   rw [Ug]
   cases (if Ov.there c.w c.g t=true then (h_ c.w t).map λl=>(c.n,l) else none) <;> rfl
  rw [e,Ts,Tt]
  by_cases q:there c.w c.g t=true
  ·rw [if_pos q]
   cases hl:h_ c.w t with
   | none=>exact (ih.cons _)
   | some l=>exact ih.cons₂ _
  ·rw [if_neg q];exact ih.cons _
theorem JN {cs:List Cf} {t:Rat} (h:(cs.map Cf.n).Nodup):((gi cs t).map (·.1)).Nodup:=h.sublist (zj cs t)
theorem tF (cs:List Cf) (t:Rat):(gi cs t).length≤cs.length:=List.length_filterMap_le _ _
theorem G1 {cs:List Cf} {t:Rat} {n:Nat} (h:∀c∈cs,∀l∈c.w,lV n l):∀x∈gi cs t,lV n x.2:=λx hx=>by
 obtain ⟨c,hc,hb,_,hl⟩:=G3 hx
 obtain ⟨l,h1,h2,_⟩:=zi hb
 rw [hl] at h1;cases h1
 exact h c hc _ h2
theorem bh.M' {L:Ln} (ok:bh L):gi L.cs L.t=L.fs:=by
 unfold Ln.fs Ln.DQ gi
 have h:∀cs:List Cf,(∀c∈cs,c∈L.cs)→(cs.filterMap λc=>if Ov.there c.w c.g L.t=true then (h_ c.w L.t).map λl=>(c.n,l) else none)=(cs.filter λc=>c.g.isNone).map λc=>(c.n,c.cur):=λcs=>by
  induction cs with
  | nil=>intro _;rfl
  | cons c cs ih =>
   intro hs
   have hc:=hs c (T6 ..)
   have ih:=ih λc hc=>hs c (TQ _ hc)
   rw [Ug,T5]
   by_cases hg:c.g=none
   ·rw [if_pos (ok.there hc hg),ok.SG hc,if_pos (by rw [hg];rfl),Tt,← ih];rfl
   ·rw [if_neg (by rw [Cf.EW ok hc hg];decide),if_neg (by rw [Option.isNone_iff_eq_none];exact hg),← ih]
 exact h _ λ_ h=>h
theorem Dh {J:Hq} {p o:Addr} {a b:HQ} (hp:J p=none) (ho:J o=none):m3 J (put (put J p a) o b):=λx=>by
 by_cases e:x=o
 ·subst e;exact .inr ho
 ·by_cases e2:x=p
  ·subst e2;exact .inr hp
  ·rw [aq e,aq e2];exact .inl rfl
abbrev eL:Stmt:=(L2.inClass (top 42) 19)
abbrev je:List Str:=["self","moment"]
theorem ji:L2.aw ["self","moment","legs"] ["self","moment"] (L2.aj eL):=d7
def s_ (cN cL eN:Addr):cM:=λxs J Q E=>∃(p:Addr) (L:Ln) (t:Rat),xs=[.ref p,fr t]∧ba cN cL J p L∧bh L∧Sz 900 t∧(t < 0∨L.t < t→E eN J)∧(0≤t→t≤L.t→Q (.fl ((cf t (gi L.cs t)).map .str)) J∨∀l,J l=none→Q (.ref l) (put J l (.lst ((cf t (gi L.cs t)).map .str))))
theorem oX {cN cL eN f:Addr} {fd:FuncData} (F:cm K "order_at" "Lane.order_at" eL f fd) (Z:bV mg) (N:oE K mg) (ax:d_ K mg "Lane" cN) (az:aL K cN "now") (aH:aL K cN "logs") (dD:Own K mg "NotThere" eN) (e9:cG P w K mg base cL 2 "there" jG (sW cL)) (dU:cG P w K mg base cL 3 "leg_at" iF (sV cL eN)) (du:bq P w K mg base 1 "less" fV di) (mf:bq P w K mg base 6 "in_order" kR pH):aP P w K mg base (c8 P w) 7 f fd je (dC K (s_ cN cL eN)):=by
 obtain ⟨aN,gN,sN⟩:=N
 have rN:∀(J:Hq) (H:Hp),cH K J H (fr 0) (.ref aN):=λJ H=>⟨aN,_,rfl,sN H,⟨_,_,rfl,rfl,_,_,rfl,rfl,rfl⟩⟩
 simp_arith [ji,(ai (aT (c7 (gj (bt (aO du B hr (af (rv 1) (af (fW (v:=.ref aN) (fr 0) rfl gN rfl rN) ah)))) (fu (bt (aO du B hr (af (aY ax.cl az (rv 0)) (af (rv 1) ah))))))) (ar (dP dD rfl cy B.kn rfl (af bF ah))) aF)
   (ai (MO (i:=2) (L2.aj eL) ["self","moment","legs"] [("self",0),("moment",1)] rfl rfl rfl ji.nd rfl (Or.inl rfl) (ig (aY ax.cl aH (rv 0))) (λ_ _ _ _ _ _=>(rv 0)) (λ_ _ _ _ _ _=>(bp (pl:=_) dU HH hr (au bY (aY ax.cl aH (rv 1)) (rv 0)) (af (rv 2) ah))) (λ_ _ _ _ _ _=>(bt (bp (pl:=_) e9 HH hr (au bY (aY ax.cl aH (rv 1)) (rv 0)) (af (rv 2) ah)))))
   (ar (ay (aO mf B hr (af (rv 2) (af (rv 1) ah))))))),F]
 ·obtain ⟨p,L,t,rfl,_⟩:=h;rfl
 obtain ⟨p,L,t,rfl,b,ok,st,qe,q⟩:=h
 have bo:=b.ob
 have bd:=b.dc
 have s0:Sz 9000 (0:Rat):=⟨⟨by decide⟩,⟨by decide⟩⟩
 refine hX ?_
 simp_all! [di,bo,rX]
 refine ⟨st.mono (by decide),s0,?_⟩
 by_cases c1:t < 0
 ·rw [if_pos c1]
  simp_all! [fo]
  exact qe (.inl c1)
 rw [if_neg c1]
 refine ⟨ok.JH.mono (by decide),st.mono (by decide),?_⟩
 by_cases c2:L.t < t
 ·rw [if_pos c2]
  simp_all! [fo]
  exact qe (.inr c2)
 rw [if_neg c2]
 have q:=q (Rat.not_lt.mp c1) (Rat.not_lt.mp c2)
 refine hNq _ _ ?_
 clear hNq Nq
 simp_all! [O9,bo,rY,bd]
 intro D hD ep
 have bf:∀e2 kvs,ba cN cL (put J D (.dct kvs e2)) p L:=λe2 kvs=>b.fresh hD
 have D9:∀c∈L.cs,∀l∈c.w,lV 900 l:=λc hc l hl=>(ok.ck c hc l hl).D9
 refine ⟨λi J2=>∃e2,J2=put J D (.dct (bI (gi (L.cs.take i) t)) e2),⟨ep,rfl⟩,?_,?_,?_⟩
 ·rintro i J2 ⟨e2,rfl⟩;exact (bf e2 _).dc
 ·rintro i x J2 hx ⟨e2,rfl⟩
  have hi:i < L.cs.length:=by have:=(Tj.mp hx).1;simpa using this
  rw [Tq,Tq,Tn hi] at hx
  cases hx
  have hc:=TY hi
  have et:L.cs.take (i + 1)=L.cs.take i ++ [L.cs[i]]:=by rw [TR,Tn hi];rfl
  generalize L.cs[i]=c at hc et
  have hnot:c.n ∉ (gi (L.cs.take i) t).map (·.1):=λz=>by
   have hnd:((L.cs.take (i + 1)).map Cf.n).Nodup:=ok.nd.sublist ((Up _ _).map _)
   rw [et,Ts] at hnd
   exact (fI hnd).2 ((zj _ t).subset z)
  have b2:=bf e2 (bI (gi (L.cs.take i) t))
  have bo2:=b2.ob
  have bd2:=b2.dc
  have hva:=ok.va hc
  have lo:=(b2.lg c hc).o
  have gsz:∀u,c.g=some u→Sz 900 u:=λu hu=>(pW (ok.gz c hc u hu).1).mono (by decide)
  simp_all! [bo2,rY,bd2,hva,lo]
  refine ⟨Ow _ _,c.a,c.r,c.w,c.g,t,rfl,b2.lg c hc,ok.ne c hc,st,D9 c hc,gsz,?_⟩
  rcases hb:there c.w c.g t with _ | _
  ·refine ⟨e2,?_⟩
   rw [et,JO hb]
  ·simp_all! [bo2,rY,bd2,hva,lo]
   refine ⟨Ox _ _,c.a,c.r,c.w,c.g,t,rfl,b2.lg c hc,ok.ne c hc,TK (ok.len c hc) (by decide),st,D9 c hc,gsz,λ_ l hl=>?_,λz=>absurd (z.symm.trans hb) (by decide)⟩
   refine ⟨_,e2,ak,a8 (by have:=tF (L.cs.take i) t;rw [TX] at this;have:=ok.many;simp only [bI,Th];omega),λep'=>⟨ep',?_⟩⟩
   rw [bM,et,G4 hb hl]
   congr 2
   exact o_ (f:=aQ.V) (l:=l) hnot
 ·rintro J2 ⟨e2,rfl⟩
  rw [Th,Th,T1]
  refine hNq _ _ ?_
  clear hNq Nq
  simp_all! []
  refine ⟨D,_,e2,t,rfl,ak,JN ok.nd,TK (tF _ _) ok.many,st,G1 D9,λo ho=>?_⟩
  have hoJ:J o=none:=by rw [aq (λz=>by subst z;rw [ak] at ho;cases ho)] at ho;exact ho
  rcases q with q | q
  ·exact Fg.oN (Dh hD hoJ) ak hoJ q
  ·exact Fg.less (oT (fg hD)) (q o hoJ)
abbrev pq:Stmt:=(top 52)
abbrev j0:List Str:=["_law_found","_law_due_here"]
theorem mM:L2.aw ["_law_found","_law_due_here","_law_k","_law_row"] ["_law_found","_law_due_here"] (L2.aj pq):=d7
def vm:cM:=λxs J Q _=>∃(rows:List aQ) (x:PV),xs=[x,.fl (rows.map aQ.V)]∧my J x=some (rows.map aQ.V)∧rows.length≤900∧Q (.bl true) J
theorem yz {f:Addr} {fd:FuncData} (F:cm K "_law_legrows" "_law_legrows" pq f fd) (Z:bV mg) (qw:bq P w K mg base 1 "_law_whole" iI jl) (oz:bq P w K mg base 2 "_law_part" gq jS):aP P w K mg base (c8 P w) 3 f fd j0 (dC K vm):=by
 simp_arith [mM,(ai (aT (c7 (gj (bU (bt (aJ gG rfl Z.isinstance boot_isinstance (af (rv 0) (af (kZ rfl Z.list boot_list) ah))))) (fu (aE (ia hr.aU) (aJ bN rfl Z.len boot_len (af (rv 0) ah)) (aJ bN rfl Z.len boot_len (af (rv 1) ah)))))) (ar (ay dN)) aF)
   (ai (dw bQ rfl (lO rfl Z.range (af (aJ bN rfl Z.len boot_len (af (rv 1) ah)) ah)) (bz (i:=2) mM.nd) (ai (aA (i:=3) mM.nd (au av (rv 0) (rv 2)))
   (ai (aT (c7 (gj (bU (bt (aJ gG rfl Z.isinstance boot_isinstance (af (rv 3) (af (kZ rfl Z.tuple boot_tuple) ah))))) (gj (aE (ia hr.aU) (aJ bN rfl Z.len boot_len (af (rv 3) ah)) ag) (fu (bU (bt (aO qw B hr (af (au av (rv 3) ag) ah)))))))) (ar (ay dN)) aF)
   (ar (aT (c7 (gj (bU (bt (aO oz B hr (af (au av (rv 3) ag) (af (au av (au av (rv 1) (rv 2)) ag) ah))))) (gj (bU (bt (aO oz B hr (af (au av (rv 3) ag) (af (au av (au av (rv 1) (rv 2)) ag) ah))))) (fu (aE (ia hr.aU) (rv 3) (au av (rv 1) (rv 2))))))) (ar (ay dN)) aF)))))
   (ar (ay dN))))]
 ·obtain ⟨rows,x,rfl,_⟩:=h;rfl
 obtain ⟨rows,x,rfl,hx,hl,q⟩:=h
 refine hX ?_
 simp_all! [Th,Kh hx,Aa hx]
 refine ⟨by omega,by omega,vU (λi τ J'=>∃u u':Option PV,τ=[some x,some (.fl (rows.map aQ.V)),u,u']∧J'=J) ⟨none,none,rfl,rfl⟩ ?_ ?_⟩
 ·rintro i τ J' hi ⟨u,u',rfl,rfl⟩
  have hi:i < rows.length:=by omega
  have ha:dt (rows.map aQ.V) (0 + (i:Int))=some (rows[i].V):=by rw [Int.zero_add];exact So (Tn hi)
  simp_all! [BP hx,ha,jl,jS,P0,Kc,rV,Fd,hZ,NY,F2,Lw]
  rw [if_pos (show ((3:Nat):Int)=3 from rfl)]
  refine hNq _ _ ?_
  clear hNq Nq
  simp_all! [BP hx,ha,jl,jS,P0,Kc,rV,Fd,hZ,NY,F2,Lw]
 ·rintro τ J' ⟨u,u',rfl,rfl⟩
  refine hNq _ _ ?_
  simp_all! []
  exact q
abbrev yW:Stmt:=(top 68)
abbrev Mz:List Str:=["_law_script"]
theorem dy:L2.aw ["_law_script","_law_head","_law_names_here","_law_lane","_law_cells","_law_legs","_law_rows","_law_gone","_law_clock","_law_k","_law_name","_law_told","_law_first","_law_kept","_law_row","_law_moment"] ["_law_script"] (L2.aj yW):=d7
theorem Ip {cN cL T eM eP eC eN f:Addr} {fd:FuncData} (F:cm K "law" "law" yW f fd) (Z:bV mg) (vC:bq P w K mg base 1 "_law_cell" nN B') (fc:bq P w K mg base 1 "_law_digits" c4 AX) (vE:bq P w K mg base 2 "_law_names" fU zd) (Hd:bq P w K mg base 10 "_law_lived" l9 (Cg cN cL T)) (zC:zE P w K mg base cN 1 "Lane" jb (Cm cN cL)) (vD:bq P w K mg base 2 "_law_later" iG xx) (NB:bq P w K mg base 3 "_law_due" pY KP) (mh:bq P w K mg base 4 "_law_passrows" fM mP) (uH:bq P w K mg base 3 "_law_legrows" j0 vm) (qx:bq P w K mg base 1 "_law_words" iJ xy) (xK:bq P w K mg base 8 "_law_stands" kO (zf cN cL)) (fh:cG P w K mg base cN 2 "history" jY (Ck cN cL eC)) (cR:cG P w K mg base cN 1 "order" iE (sZ cN cL)) (df:cG P w K mg base cN 7 "bells" iB (sX cN cL)) (cP:cG P w K mg base cN 7 "order_at" je (s_ cN cL eN)) (dS:cG P w K mg base cN 8 "go_to" iC (GG cN cL eM eP)) :
  aP P w K mg base (c8 P w) 11 f fd Mz (dC K (AY [T])):=by
 simp_arith [dy,(ai (aA (i:=1) dy.nd (aO fc B hr (af (aO vC B hr (af (rv 0) (af ag ah))) (af (vf (AJ [.int 21,.int 7,.int 4,.int 8] rfl [.int 21,.int 7,.int 4,.int 8] rfl)) ah))))
   (ai (aA (i:=2) dy.nd (aO vE B hr (af (aO vC B hr (af (rv 0) (af ag ah))) (af (aM cY ag (au av (rv 1) ag)) ah))))
   (ai (aA (i:=3) dy.nd (sC zC B hr))
   (ai (Pz (i:=4) (L2.aj yW) ["_law_script","_law_head","_law_names_here","_law_lane","_law_cells","_law_legs","_law_rows","_law_gone","_law_clock","_law_k","_law_name","_law_told","_law_first","_law_kept","_law_row","_law_moment"] [("_law_script",0)] rfl rfl rfl dy.nd rfl (Or.inl rfl) (lO rfl Z.range (af (aM cY (au av (rv 1) ag) (aM bL ag (aM nH (au av (rv 1) ag) ag))) ah)) (λ_ _ _ _ _ _=>(aO vC HH hr (af (rv 1) (af (aM cY ag (rv 0)) ah)))))
   (ai (wX (aO Hd B hr (af (rv 3) (af (rv 2) (af (rv 4) (af (au av (rv 1) ag) ah))))) (sE (n:=4) rfl (c5 (bz (i:=5) dy.nd) (c5 (bz (i:=6) dy.nd) (c5 (bz (i:=7) dy.nd) (c5 (bz (i:=8) dy.nd) nZ))))))
   (ai (dw bQ rfl (ML (bO (af ag (af ag ah)))) (bz (i:=9) dy.nd) (ai (aT (bU (bt (aO xK B hr (af (rv 3) (af (rv 5) (af (rv 8) ah)))))) (ar (ay dN)) aF)
   (ai (dw bQ rfl (ig (rv 6)) (bz (i:=10) dy.nd) (ai (aA (i:=11) dy.nd (bp (pl:=_) fh B hr (rv 3) (af (rv 10) ah)))
   (ai (aT (bU (bt (aO uH B hr (af (rv 11) (af (au bY (rv 6) (rv 10)) ah))))) (ar (ay dN)) aF)
   (ar (aT (aE (cI hr.aU) (rv 9) ag) (ar (aX (kX PySem.F.plainAttrs_list PySem.F.slot_list_clear PySem.F.type_list_clear kE (rv 11)))) (ar (aX (ie PySem.F.plainAttrs_list PySem.F.slot_list_append PySem.F.type_list_append fH (rv 11) (af (bO (af (bO (af ag (af ag ah))) (af (bO (af ag (af ag ah))) (af ag ah)))) ah)))))))))
   (ai (aX (ie PySem.F.plainAttrs_list PySem.F.slot_list_append PySem.F.type_list_append fH (cj (pl:=_) cR B hr (rv 3)) (af bF ah)))
   (ai (aX (kX PySem.F.plainAttrs_list PySem.F.slot_list_clear PySem.F.type_list_clear kE (cj (pl:=_) cR B hr (rv 3))))
   (ai (aX (ie PySem.F.plainAttrs_list PySem.F.slot_list_append PySem.F.type_list_append fH (cj (pl:=_) df B hr (rv 3)) (af (bO (af (bO (af ag (af ag ah))) (af bF (af bF ah)))) ah)))
   (ai (aX (kX PySem.F.plainAttrs_list PySem.F.slot_list_clear PySem.F.type_list_clear kE (cj (pl:=_) df B hr (rv 3))))
   (ai (aX (kX PySem.F.plainAttrs_list PySem.F.slot_list_clear PySem.F.type_list_clear kE (bp (pl:=_) cP B hr (rv 3) (af (rv 8) ah))))
   (ai (aA (i:=12) dy.nd (bp (pl:=_) cP B hr (rv 3) (af (bO (af ag (af ag ah))) ah)))
   (ai (aA (i:=13) dy.nd (fN ED rfl Z.list boot_list (af (rv 12) ah)))
   (ai (aX (kX PySem.F.plainAttrs_list PySem.F.slot_list_reverse PySem.F.type_list_reverse Af (rv 12)))
   (ai (aX (ie PySem.F.plainAttrs_list PySem.F.slot_list_append PySem.F.type_list_append fH (rv 12) (af bF ah)))
   (ai (aT (bU (bt (aO qx B hr (af (bp (pl:=_) cP B hr (rv 3) (af (bO (af ag (af ag ah))) ah)) (af (rv 13) ah))))) (ar (ay dN)) aF)
   (ar (aT (bU (bt (aO qx B hr (af (bp (pl:=_) cP B hr (rv 3) (af (rv 8) ah)) (af (cj (pl:=_) cR B hr (rv 3)) ah))))) (ar (ay dN)) aF)))))))))))))))
   (ai (aA (i:=14) dy.nd (aO fc B hr (af (aO vC B hr (af (rv 0) (af ag ah))) (af (vf (af ag (af ag ah))) ah))))
   (ai (aA (i:=15) dy.nd (aO vD B hr (af (rv 8) (af (au av (rv 14) ag) (af (au av (rv 14) ag) (af (au av (rv 1) ag) ah))))))
   (ai (aA (i:=11) dy.nd (bp (pl:=_) dS B hr (rv 3) (af (rv 15) ah)))
   (ai (aT (bU (bt (aO mh B hr (af (rv 11) (af (aO NB B hr (af (rv 5) (af (rv 8) (af (rv 15) ah)))) ah))))) (ar (ay dN)) aF)
   (ai (aX (kX PySem.F.plainAttrs_list PySem.F.slot_list_clear PySem.F.type_list_clear kE (rv 11)))
   (ai (dw bQ rfl (ig (rv 6)) (bz (i:=10) dy.nd) (ar (aT (bU (bt (aO uH B hr (af (bp (pl:=_) fh B hr (rv 3) (af (rv 10) ah)) (af (au bY (rv 6) (rv 10)) ah))))) (ar (ay dN)) aF)))
   (ar (ay (aO xK B hr (af (rv 3) (af (rv 5) (af (rv 15) ah))))))))))))))))))]
 ·obtain ⟨ns,rfl,_⟩:=h;rfl
 obtain ⟨ns,rfl,hl,hT,hJ,q⟩:=h
 have hT:J T=some .tab:=hT T (by simp)
 refine hX ?_
 simp_all! []
 refine ⟨ns,0,rfl,by decide,by decide,_,[21,7,4,8],rfl,og (by decide),by decide,λds hD=>?_⟩
 obtain ⟨d0,ds,rfl,d00,d01,hD⟩:=hD.cons
 obtain ⟨d1,ds,rfl,d10,d11,hD⟩:=hD.cons
 obtain ⟨d2,ds,rfl,d20,d21,hD⟩:=hD.cons
 obtain ⟨d3,ds,rfl,d30,d31,hD⟩:=hD.cons
 cases hD.nil
 simp_all! []
 refine ⟨ns,1,rfl,by decide,by decide,_,2 + d1,rfl,by omega,by omega,λnames nl nd ng=>?_⟩
 simp_all! []
 intro p hp
 refine ⟨p,rfl,ak,λJ1 d e o b mv=>?_⟩
 have mvJ:Mv J J1 (λ_=>False) (Ln.own ⟨0,d,e,o,[],[]⟩ p):=by
  refine (Mv.yr (S:=λ_=>False) hp).trans ⟨λa u h n=>mv.keep a u h λz=>n (.inr z),λa z=>(mv.own a z).imp .inr id,mv.mono⟩
 have ok0:cq ⟨0,d,e,o,[],[]⟩:=⟨⟨VB,(by simp),(by simp),(by simp),(by simp),(by simp),Rat.le_refl,Te _,(by show 0≤100;decide),(by intro n;simp [Ln.fs,Ln.DQ]),VB,(by show 0≤12;decide)⟩,rfl⟩
 have hT1:J1 T=some .tab:=mvJ.keep _ _ hT λz=>z
 have q3:d3.fdiv 7≤1∧0≤d3.fdiv 7:=by rw [Int.fdiv_eq_ediv_of_nonneg _ (by decide)];omega
 simp_all! [yR]
 have c64:∀n:Int,-(2 ^ 60)≤n→n≤2 ^ 60→Bd 64 n:=λn h1 h2=>.small (by omega) (by omega)
 refine ⟨⟨by decide,(c64 7 (by decide) (by decide)).mono (by decide)⟩,.of (c64 30 (by decide) (by decide)) (c64 _ (by omega) (by omega)),by omega,by omega,λ_=>true,λx=>.int (xY ns (8 + Qz x)),⟨by rw [i5];exact a8 (by omega),λJ' _=>⟨trivial,λx hx=>⟨⟨rfl,rfl⟩,λ_=>?_⟩⟩⟩,?_⟩
 ·obtain ⟨i,hi⟩:=TM.mp hx
  obtain ⟨i1,rfl⟩:=(rR _ _ _ _).mp hi
  simp_all! []
  exact ⟨ns,_,rfl,by omega,by omega,rfl,rfl⟩
 obtain ⟨cs,hcs,hcl⟩:∃cs:List Int,((rQ 0 (d0 + 30 * d3.fdiv 7).toNat).filter λ_=>true).map (λx=>PV.int (xY ns (8 + Qz x)))=cs.map .int∧cs.length≤51:=⟨((rQ 0 (d0 + 30 * d3.fdiv 7).toNat).filter λ_=>true).map (λx=>xY ns (8 + Qz x)),by rw [Tw];rfl,by
  rw [Th]
  exact TK (Uu _ _) (by rw [i5];omega)⟩
 rw [hcs]
 refine hNq _ _ ?_
 clear hNq Nq hcs
 simp_all! []
 refine ⟨p,_,names,cs,d2,rfl,b,ok0,rfl,rfl,hT1,by omega,ng,by omega,d20,d21,λJ2 L D R Gd gs gone lv hus=>?_⟩
 have hT2:J2 T=some .tab:=lv.mv.keep _ _ hT1 (b.L8 hT1)
 have st2:Sz 240 L.t:=(pW lv.ok.ts).mono (by decide)
 have cnd:=lv.ok.tobh.nd
 have cl:L.cs.length≤60:=by
  have:=List.Nodup.length_le_of_subset cnd (λy hy=>hus y hy)
  rw [Th] at this
  omega
 have gle:gone.length≤60:=by
  have h1:=List.Nodup.length_le_of_subset lv.g2 (λy hy=>by
   obtain ⟨z,hz,e⟩:=Ti.mp hy
   rw [← e];exact lv.g3 z hz)
  simp only [Th] at h1
  omega
 have gsz:∀x∈gone,Sz 240 x.2:=λx hx=>by
  obtain ⟨c,hc,e⟩:=Ti.mp (lv.g3 x hx)
  exact (pW (lv.ok.gz c hc x.2 ((lv.g1 c hc x.2).mpr (by rw [e];exact hx))).1).mono (by decide)
 have D9:∀c∈L.cs,∀l∈c.w,lV 240 l:=λc hc l hl=>by
  have h:=lv.ok.ck c hc l hl
  exact ⟨h.Rc.mono (by decide),h.Rr.mono (by decide),.small (by have:=h.v;omega) (by have:=h.v;omega)⟩
 obtain ⟨eR,hR⟩:=lv.hR
 obtain ⟨eG,hG⟩:=lv.hG
 simp_all! []
 obtain ⟨eD,hD⟩:=lv.hD
 have gnd:=lv.rl.nd lv.ok.tobh
 have gl:gs.length≤12:=by rw [lv.rl.len];exact lv.ok.C6
 have sml:∀{n:Nat},n≤900→n < sizeLine:=λh=>a8 (by omega)
 have e0:PV.tup [.int 0,.int 1]=fr 0:=rfl
 obtain ⟨Inv,hInv⟩:∃Inv:Nat→Sr→Hq→Prop,∀i τ J',Inv i τ J'↔∃u9 u10 u11 u12 u13 u14 u15:Option PV,τ=[some (.fl (ns.map .int)),some (.fl [.int d0,.int d1,.int d2,.int d3]),some (.fl (names.map .str)),some (.ref p),some (.fl (cs.map .int)),some (.ref D),some (.ref R),some (.ref Gd),some (fr L.t),u9,u10,u11,u12,u13,u14,u15]∧Sub J2 J':=⟨_,λ_ _ _=>Iff.rfl⟩
 refine eV Inv ((hInv _ _ _).mpr ⟨_,_,_,_,_,_,_,rfl,Sub.refl _⟩) (λ_ _ _ _=>trivial) ?_ ?_
 ·intro i x τ J' hx hv
  obtain ⟨u9,u10,u11,u12,u13,u14,u15,rfl,sb⟩:=(hInv _ _ _).mp hv
  clear hv
  obtain ⟨k,rfl⟩:∃k:Int,x=.int k:=by
   have:=To hx
   simp only [TC,TZ,or_false] at this
   rcases this with h | h <;> exact ⟨_,h⟩
  have b3:ba cN cL J' p L:=lv.b.keep λa o _ e=>sb a o e
  simp_all! []
  refine ⟨p,L,D,eD,gs,rfl,b3,lv.ok,sb _ _ hD,gnd,by omega,lv.rl.sz,lv.rl.same _,?_⟩
  refine hNq _ _ ?_
  clear hNq Nq
  simp_all! [sb _ _ hR]
  obtain ⟨W,hW⟩:∃W:Nat→Sr→Hq→Prop,∀j τ Ja,W j τ Ja↔∃u10 u11:Option PV,τ=[some (.fl (ns.map .int)),some (.fl [.int d0,.int d1,.int d2,.int d3]),some (.fl (names.map .str)),some (.ref p),some (.fl (cs.map .int)),some (.ref D),some (.ref R),some (.ref Gd),some (fr L.t),some (.int k),u10,u11,u12,u13,u14,u15]∧Sub J2 Ja:=⟨_,λ_ _ _=>Iff.rfl⟩
  refine eV W ((hW _ _ _).mpr ⟨_,_,rfl,sb⟩) (λj τ Ja hv=>?_) ?_ ?_
  ·obtain ⟨u10,u11,rfl,sb⟩:=(hW _ _ _).mp hv;exact sb _ _ hR
  ·intro j y τ Ja hy hv
   obtain ⟨u10,u11,rfl,sb4⟩:=(hW _ _ _).mp hv
   clear hv
   have hi:j < L.cs.length:=by have:=(Tj.mp hy).1;simpa using this
   rw [Tq,Tq,Tn hi] at hy
   cases hy
   have hc:=TY hi
   generalize L.cs[j]=c0 at hc
   have hva:=qM cnd hc
   have hk:(dO c0).1=c0.n:=rfl
   have b4:ba cN cL Ja p L:=lv.b.keep λa o _ e=>sb4 a o e
   have hno:c0.n∈L.cs.map Cf.n:=Ti.mpr ⟨c0,hc,rfl⟩
   simp_all! [hk,b4.ob]
   refine ⟨dB _ _ _ _,p,L,c0.n,rfl,b4,lv.ok.tobh,λc h e=>.inr λl hl=>?_,λz=>absurd hno z⟩
   obtain rfl:c=c0:=lv.ok.uniq h hc e
   have sb5:∀o,Sub J2 (put Ja l o):=λo a u e=>(Sub.put hl) a u (sb4 a u e)
   refine hNq _ _ ?_
   clear hNq Nq
   simp_all! [sb5 _ _ _ hR,hva]
   refine ⟨_,_,rfl,by show (match put Ja l (.lst (c.w.map aQ.V)) l with | some (.lst xs)=>some xs | _=>none)=_;rw [ak],TK (lv.ok.len c hc) (by decide),?_⟩
   refine hNq _ _ ?_
   clear hNq Nq
   have ck:G8 (.int k):=⟨by rw [wN],by simp [gw,dep]⟩
   simp_all! [ak,ck,bM]
   split
   ·exact (hW _ _ _).mpr ⟨_,_,rfl,sb5 _⟩
   ·exact ⟨sml (by rw [Th];exact TK (lv.ok.len c hc) (by decide)),(hW _ _ _).mpr ⟨_,_,rfl,sb5 _⟩⟩
  intro τ Ja hv
  obtain ⟨u10,u11,rfl,sb4⟩:=(hW _ _ _).mp hv
  clear hv
  have b4:ba cN cL Ja p L:=lv.b.keep λa o _ e=>sb4 a o e
  refine hNq _ _ ?_
  clear hNq Nq
  simp_all! [b4.ob]
  refine ⟨dB _ _ _ _,p,L,rfl,b4,.inr λl hl=>?_⟩
  simp_all! [ak,bM,Th]
  refine ⟨sml (TK lv.ok.rl (by decide)),hNq _ _ ?_⟩
  clear hNq Nq
  have sbl:∀{Jx:Hq} {l:Addr},Sub J2 Jx→Jx l=none→∀o,Sub J2 (put Jx l o):=λs hl o a u e=>(Sub.put hl) a u (s a u e)
  have bsb:∀{Jx:Hq},Sub J2 Jx→ba cN cL Jx p L:=λs=>lv.b.keep λa o _ e=>s a o e
  have sb5:=sbl sb4 hl (.lst (UU PV.str L.row ++ [PV.str (Str.ofString "x")]))
  generalize put Ja l (.lst (UU PV.str L.row ++ [PV.str (Str.ofString "x")]))=Jb at sb5 ⊢
  have b5:=bsb sb5
  simp_all! [b5.ob]
  refine ⟨dB _ _ _ _,p,L,rfl,b5,.inr λl hl=>?_⟩
  simp_all! [ak,bM,Th]
  try (refine hNq _ _ ?_;clear hNq Nq)
  have sb6:=sbl sb5 hl (.lst [])
  generalize put Jb l (.lst [])=Jc at sb6 ⊢
  have b6:=bsb sb6
  simp_all! [b6.ob]
  refine ⟨dB _ _ _ _,p,L,rfl,b6,lv.ok,.inr λl hl=>?_⟩
  simp_all! [ak,bM,Th]
  have hbl:=rq L.t (L.fs.map (key L.t)) lv.ok.knd
  have hfl:=lv.ok.C6
  rw [Th] at hbl
  refine ⟨sml (by omega),hNq _ _ ?_⟩
  clear hNq Nq
  have sb7:=sbl sb6 hl (.lst (UU aB.v (eS L.t (UU (key L.t) L.fs)) ++ [PV.tup [PV.tup [PV.int 0,PV.int 1],PV.str (Str.ofString "x"),PV.str (Str.ofString "y")]]))
  generalize put Jc l (.lst (UU aB.v (eS L.t (UU (key L.t) L.fs)) ++ [PV.tup [PV.tup [PV.int 0,PV.int 1],PV.str (Str.ofString "x"),PV.str (Str.ofString "y")]]))=Jd at sb7 ⊢
  have b7:=bsb sb7
  simp_all! [b7.ob]
  refine ⟨dB _ _ _ _,p,L,rfl,b7,lv.ok,.inr λl hl=>?_⟩
  simp_all! [ak,bM,Th]
  try (refine hNq _ _ ?_;clear hNq Nq)
  have sb8:=sbl sb7 hl (.lst [])
  generalize put Jd l (.lst [])=Je at sb8 ⊢
  have st9:Sz 900 L.t:=st2.mono (by decide)
  have s09:Sz 900 (0:Rat):=⟨⟨by decide⟩,⟨by decide⟩⟩
  have wlen:∀t,(cf t (gi L.cs t)).length≤900:=λt=>by rw [sf];have:=tF L.cs t;omega
  have b8:=bsb sb8
  simp_all! [b8.ob]
  refine ⟨dB _ _ _ _,p,L,L.t,rfl,b8,lv.ok.tobh,st9,λz=>z.elim (λz=>absurd z (Rat.not_lt.mpr lv.ok.t0)) λz=>absurd z (Rat.not_lt.mpr Rat.le_refl),λ_ _=>.inr λl hl=>?_⟩
  simp_all! [ak,bM]
  try (refine hNq _ _ ?_;clear hNq Nq)
  have sb9:=sbl sb8 hl (.lst [])
  generalize put Je l (.lst [])=Jf at sb9 ⊢
  have b9:=bsb sb9
  simp_all! [b9.ob]
  refine ⟨dB _ _ _ _,p,L,0,rfl,b9,lv.ok.tobh,s09,λz=>z.elim (λz=>absurd z (Rat.not_lt.mpr Rat.le_refl)) λz=>absurd z (Rat.not_lt.mpr lv.ok.t0),λ_ _=>.inr λl hl=>?_⟩
  try (refine hNq _ _ ?_;clear hNq Nq)
  simp_all! [ak,bM,Th]
  refine ⟨l,_,rfl,rfl,ak,?_⟩
  refine hNq _ _ ?_
  clear hNq Nq
  simp_all! [ak,bM,VC,Th]
  refine ⟨sml (wlen 0),hNq _ _ ?_⟩
  clear hNq Nq
  have sb10:=sbl sb9 hl (.lst ((UU PV.str (cf 0 (gi L.cs 0))).reverse ++ [PV.str (Str.ofString "x")]))
  generalize put Jf l (.lst ((UU PV.str (cf 0 (gi L.cs 0))).reverse ++ [PV.str (Str.ofString "x")]))=Jg at sb10 ⊢
  have b10:=bsb sb10
  simp_all! [b10.ob]
  refine ⟨dB _ _ _ _,p,L,0,rfl,b10,lv.ok.tobh,s09,λz=>z.elim (λz=>absurd z (Rat.not_lt.mpr Rat.le_refl)) λz=>absurd z (Rat.not_lt.mpr lv.ok.t0),λ_ _=>.inl ?_⟩
  refine ⟨_,rfl,wlen 0,?_⟩
  try (refine hNq _ _ ?_;clear hNq Nq)
  simp_all! [b10.ob]
  refine ⟨dB _ _ _ _,p,L,L.t,rfl,b10,lv.ok.tobh,st9,λz=>z.elim (λz=>absurd z (Rat.not_lt.mpr lv.ok.t0)) λz=>absurd z (Rat.not_lt.mpr Rat.le_refl),λ_ _=>.inl ?_⟩
  rw [lv.ok.tobh.M',← lv.ok.row]
  simp_all! [b10.ob]
  refine ⟨dB _ _ _ _,p,L,rfl,b10,.inl ⟨_,rfl,TK lv.ok.rl (by decide),?_⟩⟩
  exact (hInv _ _ _).mpr ⟨_,_,_,_,_,_,_,rfl,sb10⟩
 intro τ J' hv
 obtain ⟨u9,u10,u11,u12,u13,u14,u15,rfl,sb⟩:=(hInv _ _ _).mp hv
 clear hv
 have b3:ba cN cL J' p L:=lv.b.keep λa o _ e=>sb a o e
 refine hNq _ _ ?_
 clear hNq Nq
 simp_all! []
 refine ⟨ns,2,rfl,by decide,by decide,_,[400000,60],rfl,og (by decide),by decide,λds hQ=>?_⟩
 obtain ⟨e0',ds,rfl,e00,e01,hQ⟩:=hQ.cons
 obtain ⟨e1,ds,rfl,e10,e11,hQ⟩:=hQ.cons
 cases hQ.nil
 refine hNq _ _ ?_
 clear hNq Nq
 simp_all! []
 have st:Sz 900 L.t:=st2.mono (by decide)
 refine ⟨L.t,e0',e1,d2,rfl,e00,e10,d20,d21,by omega,st,λm1 hm1=>?_⟩
 have tl1:=xA (yf hm1 lv.ok.t0) lv.tl
 have td1:=uZ hm1 lv.td
 have m10:0≤m1:=Rat.le_trans lv.ok.t0 hm1.le
 have g1:hE m1.num m1.den=true:=yb m10 td1 (Fm.mpr (rZ (by omega) tl1))
 have s1:Sz 240 m1:=(pW (rL g1).1).mono (by decide)
 have plen:(e_ L.t (L.fs.map (key L.t)) m1).length≤900:=DM L.t m1 _ (by rw [cO];exact lv.ok.JU) (by rw [Th];exact lv.ok.C6)
 refine hNq _ _ ?_
 clear hNq Nq
 simp_all! [b3.ob]
 refine ⟨dB _ _ _ _,p,L,m1.num,m1.den,rfl,b3,lv.ok,(λz=>by rw [g1] at z;cases z),λm' h1 h2 _=>?_⟩
 obtain rfl:m'=m1:=Rat.ext h1 (by omega)
 refine ⟨λz=>absurd z (Rat.not_lt.mpr hm1.le),λ_=>.inr λJ3 o3 l b5 ok3 hl3 nl3 mv3=>?_⟩
 have nown:∀{a u},J2 a=some u→¬ L.own p a→J3 a=some u∧¬ Ln.own { L with t:=m',o:=o3,row:=cf m' L.fs } p a:=λ{a u} e n=>⟨mv3.keep _ _ (sb _ _ e) n,λz=>by
  rcases mv3.own _ (.inl z) with z | z
  ·exact n z
  ·rw [sb _ _ e] at z;cases z⟩
 have hD3:=(nown hD lv.nD).1
 have hR3:=(nown hR lv.nR).1
 have hT3:=(nown hT2 (lv.b.L8 hT2)).1
 have nlD:D≠l:=λz=>by
  subst z
  rw [hD3] at hl3;cases hl3
 have nlR:R≠l:=λz=>by
  subst z
  rw [hR3] at hl3;cases hl3
 have nlT:T≠l:=λz=>by
  subst z
  rw [hT3] at hl3;cases hl3
 refine hNq _ _ ?_
 clear hNq Nq
 simp_all! []
 refine ⟨D,gs,eD,L.t,m',rfl,hD3,gnd,by omega,st2,s1.mono (by decide),lv.rl.sz,?_⟩
 rw [DL λx=>(lv.rl.same L.t x).symm]
 refine ⟨_,_,rfl,by show (match J3 l with | some (.lst xs)=>some xs | _=>none)=_;rw [hl3],plen,?_⟩
 refine hNq _ _ ?_
 clear hNq Nq
 simp_all! [hl3]
 have hD4:put J3 l (.lst []) D=some (.dct (bI gs) eD):=by rw [aq nlD];exact hD3
 have hR4:put J3 l (.lst []) R=some (.dct (L.cs.map dO) eR):=by rw [aq nlR];exact hR3
 have hT4:put J3 l (.lst []) T=some .tab:=by rw [aq nlT];exact hT3
 have b6:ba cN cL (put J3 l (.lst [])) p { L with t:=m',o:=o3,row:=cf m' L.fs }:=b5.keep λa o ow e=>by rw [aq (λz=>nl3 (by rw [← z];exact ow))];exact e
 generalize put J3 l (.lst [])=J4 at hD4 hR4 hT4 b6 ⊢
 simp_all! [hR4]
 obtain ⟨W,hW⟩:∃W:Nat→Sr→Hq→Prop,∀j τ Ja,W j τ Ja↔∃u10:Option PV,τ=[some (.fl (ns.map .int)),some (.fl [.int d0,.int d1,.int d2,.int d3]),some (.fl (names.map .str)),some (.ref p),some (.fl (cs.map .int)),some (.ref D),some (.ref R),some (.ref Gd),some (fr L.t),u9,u10,some (.ref l),u12,u13,some (.fl [.int e0',.int e1]),some (fr m')]∧Ja=J4:=⟨_,λ_ _ _=>Iff.rfl⟩
 refine eV W ((hW _ _ _).mpr ⟨_,rfl,rfl⟩) (λj τ Ja hv=>?_) ?_ ?_
 ·obtain ⟨u10,rfl,rfl⟩:=(hW _ _ _).mp hv;exact hR4
 ·intro j y τ Ja hy hv
  obtain ⟨u10,rfl,rfl⟩:=(hW _ _ _).mp hv
  clear hv
  have hi:j < L.cs.length:=by have:=(Tj.mp hy).1;simpa using this
  rw [Tq,Tq,Tn hi] at hy
  cases hy
  have hc:=TY hi
  generalize L.cs[j]=c0 at hc
  have hva:=qM cnd hc
  have hk:(dO c0).1=c0.n:=rfl
  have hno:c0.n∈L.cs.map Cf.n:=Ti.mpr ⟨c0,hc,rfl⟩
  simp_all! [hk,b6.ob]
  refine ⟨dB _ _ _ _,p,_,c0.n,rfl,b6,ok3.tobh,λc h e=>.inl ?_,λz=>absurd hno z⟩
  obtain rfl:c=c0:=lv.ok.uniq h hc e
  simp_all! [hR4,hk,hva]
  refine ⟨_,_,rfl,rfl,TK (lv.ok.len c hc) (by decide),?_⟩
  exact (hW _ _ _).mpr ⟨_,rfl,rfl⟩
 intro τ Ja hv
 obtain ⟨u10,rfl,rfl⟩:=(hW _ _ _).mp hv
 clear hv
 refine hNq _ _ ?_
 clear hNq Nq
 simp_all! []
 exact ⟨p,{ L with t:=m',o:=o3,row:=cf m' L.fs },D,eD,gs,rfl,b6,ok3,hD4,gnd,by omega,lv.rl.sz,(show Es m' L.fs gs from lv.rl.same m'),q _ (by simpa using hT4)⟩
end
theorem Lf {P:Program} {w:World} {K:PySem.W.Frag} {mg:Str→Option Value} (Z:bV mg) (N:oE K mg) {jU:Tok} (gH:mg "FARTHEST"=some (.int 1000000 jU)) {gE:Tok} (eZ:mg "FASTEST"=some (.int 1000 gE)) {ot:Tok} (ko:mg "FINEST"=some (.int 60 ot)) {ou:Tok} (kq:mg "LATEST"=some (.int 1000000 ou)) {lT:Tok} (iZ:mg "LONGEST"=some (.int 8 lT)) {xE:Tok} (rJ:mg "MOST"=some (.int 12 xE)) {qR:Tok} (nq:mg "SIGNS"=some (.str "abcdefghijklmnopqrstuvwxyz0123456789" qR)) {pR:Addr} (fZ:Own K mg "BadMoment" pR) {uR:Addr} (iV:Own K mg "BadName" uR) {EI:Addr} (rb:Own K mg "Full" EI) {uS:Addr} (eY:Own K mg "NoCraft" uS) {rE:Addr} (dD:Own K mg "NotThere" rE) {EJ:Addr} (rh:Own K mg "Past" EJ) {Bw:Addr} (m5:Own K mg "Taken" Bw) {x8:Addr} (f6:Own K mg "TooFar" x8) (X_Log:∃C,d_ K mg "Log" C∧aL K C "rows"∧aL K C "gone"∧ed K C "__init__" "Log.__init__" gS∧ed K C "turn" "Log.turn" mF∧ed K C "leave" "Log.leave" k_∧ed K C "legs" "Log.legs" mE∧ed K C "there" "Log.there" lh∧ed K C "leg_at" "Log.leg_at" jQ) (X_Lane:∃C,d_ K mg "Lane" C∧aL K C "now"∧aL K C "logs"∧aL K C "row"∧ed K C "__init__" "Lane.__init__" gg∧ed K C "must_be_there" "Lane.must_be_there" dQ∧ed K C "leg_of" "Lane.leg_of" iL∧ed K C "settle" "Lane.settle" fY∧ed K C "join" "Lane.join" k8∧ed K C "clock" "Lane.clock" jL∧ed K C "order" "Lane.order" jP∧ed K C "log_of" "Lane.log_of" iM∧ed K C "history" "Lane.history" gR∧ed K C "order_at" "Lane.order_at" eL∧ed K C "meets" "Lane.meets" jO∧ed K C "foretold" "Lane.foretold" gh∧ed K C "go_to" "Lane.go_to" jM∧ed K C "bells" "Lane.bells" jK∧ed K C "turn" "Lane.turn" k9∧ed K C "about" "Lane.about" jJ∧ed K C "leave" "Lane.leave" jN) (X_Bells:∃C,d_ K mg "Bells" C∧aL K C "rows"∧ed K C "__init__" "Bells.__init__" fQ∧ed K C "drop" "Bells.drop" gy∧ed K C "put" "Bells.put" k7∧ed K C "told" "Bells.told" jI) (K4:Def K mg "_law_cell" AM) (Ec:Def K mg "_law_digits" sG) (Ee:Def K mg "shared" sI) (zq:Def K mg "fraction" mG) (NF:Def K mg "_law_low" Gr) (K7:Def K mg "less" AO) (K9:Def K mg "plus" AR) (Hh:Def K mg "minus" w_) (Hl:Def K mg "times" xb) {g9:Addr} (g8:zw K mg "good_name" ij g9) (Hi:Def K mg "_law_names" n8) (zu:Def K mg "place_on" mJ) (CI:Def K mg "last_by" pj) (tR:Def K mg "lies_behind" iP) (zr:Def K mg "in_order" mH) (tS:Def K mg "rings_ahead" iQ) (CK:Def K mg "meeting" pw) (mY:Def K mg "in_lowest_terms" fv) (tQ:Def K mg "good_moment" iN) (Hm:Def K mg "_law_whole" xf) (K8:Def K mg "_law_part" AQ) (Hn:Def K mg "_law_words" xg) (CJ:Def K mg "_law_legrows" pq) (CL:Def K mg "_law_passrow" pz) (zt:Def K mg "_law_passrows" mI) (Ed:Def K mg "_law_placed" sH) (Hk:Def K mg "_law_paced" xa) (Qq:Def K mg "_law_at" MT) (Eb:Def K mg "_law_before" sF) (Hj:Def K mg "_law_order" qN) (Hf:Def K mg "_law_later" w8) (CN:Def K mg "_law_ringdue" pA) (Ef:Def K mg "_law_stands" sJ) (NC:Def K mg "_law_due" Gq) (Eg:Def K mg "_law_turned" sL) (He:Def K mg "_law_acted" wZ) (K6:Def K mg "_law_done" AN) (K5:Def K mg "_law_deed" w6) (Hg:Def K mg "_law_lived" w9) {f:Addr} {fd:FuncData} (F:cm K "law" "law" yW f fd) (base:Heap) (Bm:BMain mg base) :
  aP P w K mg base (c8 P w) 11 f fd ["_law_script"] (dC K (AY [g9])):=by
 obtain ⟨xW,bG,aZ,cn,qd,xR,vK,xQ,vL,ua⟩:=X_Log
 obtain ⟨QD,ax,az,aH,aI,oA,j4,q9,ra,vI,t4,t_,q_,qa,oC,t9,oB,t6,tZ,vJ,tY,t8⟩:=X_Lane
 obtain ⟨Qb,bP,a9,m4,tW,vH,tX⟩:=X_Bells
 have La:=K4.ff (P:=P) (w:=w) (base:=base) (λ_ _ F=>FE F Z) λ_ _ _ _ _ _=>ju λ_ _=>rfl
 have fc:=Ec.EB (P:=P) (w:=w) (base:=base) (λ_ _ F=>Dx F Z.toD6) λ_ _ _ _ _ _=>ju λ_ _=>rfl
 have xO:=yi fc
 have iU:=Ee.EB (P:=P) (w:=w) (base:=base) (λ_ _ F=>Dy F Z.toD6) λ_ _ _ _ _ _=>ju λ_ _=>rfl
 have El:=yj iU
 have cg:=zq.EB (λ_ _ F=>yx F Z.toD6 iU) λ_ _ _ _ _ _=>ju λ_ _=>rfl
 have zA:=ug cg
 have mV:=NF.EB (P:=P) (w:=w) (base:=base) (λ_ _ F=>L_ F Z.toD6) λ_ _ _ _ _ _=>ju λ_ _=>rfl
 have Bc:=Fp mV
 have du:=K7.EB (P:=P) (w:=w) (base:=base) (λ_ _ F=>Il F Z.toD6) λ_ _ _ _ _ _=>ju λ_ _=>rfl
 have mi:=Di du
 have zp:=K9.EB (λ_ _ F=>Im F Z.toD6 cg) λ_ _ _ _ _ _=>ju λ_ _=>rfl
 have mW:=Hh.EB (λ_ _ F=>FA F Z.toD6 cg) λ_ _ _ _ _ _=>ju λ_ _=>rfl
 have vG:=Hl.EB (λ_ _ F=>FD F Z.toD6 cg) λ_ _ _ _ _ _=>ju λ_ _=>rfl
 have Ld:=Dj zp
 have Be:=zX mW
 have Hw:=zZ vG
 have ka:=g8.EB (P:=P) (w:=w) (base:=base) (λ_ _ _ F=>wt F Z.toD6 Bm iZ nq) λ_ _ _ _ _ _=>Bj λ_=>rfl
 have xP:=rW ka
 have vE:=Hi.EB (λ_ _ F=>FC F Z.toD6 fc) λ_ _ _ _ _ _=>ju λ_ _=>rfl
 have Hu:=zY vE
 have mj:=zu.ff (λ_ _ F=>wy F Z Ld Be Hw) λ_ _ _ _ _ _=>ju λ_ _=>rfl
 have CO:=CI.ff (λ_ _ F=>yy F Z mi) λ_ _ _ _ _ _=>ju λ_ _=>rfl
 have tU:=tR.ff (λ_ _ F=>qo F Z mj mi) λ_ _ _ _ _ _=>Sn λ_ _ _ _ _=>rfl
 have qY:=zr.ff (λ_ _ F=>wu F Z tU) λ_ _ _ _ _ _=>ju λ_ _=>rfl
 have Ep:=qd.Rb (P:=P) (w:=w) (base:=base) bG (λ_ _ F=>yu F bG aZ cn) λ_ _ _ _ _ _=>Nk λ_ _ _ _=>rfl
 have fG:=xR.qD (mg:=mg) bG.cl (λ_ _ F=>yw F Z bG aZ mj) λ_ _ _ _ _ _=>HA λ_ _ _=>rfl
 have kC:=vK.qD (P:=P) (w:=w) (base:=base) (mg:=mg) bG.cl (λ_ _ F=>wo F Z bG cn) λ_ _ _ _ _ _=>ju λ_ _=>rfl
 have mz:=xQ.qD (P:=P) (w:=w) (base:=base) (mg:=mg) bG.cl (λ_ _ F=>yv F Z bG aZ) λ_ _ _ _ _ _=>Bj λ_=>rfl
 have e9:=vL.qD (mg:=mg) bG.cl (λ_ _ F=>wq F Z bG aZ cn mi) λ_ _ _ _ _ _=>ju λ_ _=>rfl
 have dU:=ua.qD (mg:=mg) bG.cl (λ_ _ F=>ux F Z bG aZ dD e9 CO) λ_ _ _ _ _ _=>ju λ_ _=>rfl
 have zC:=oA.Rb (P:=P) (w:=w) (base:=base) ax (λ_ _ F=>wj F (cL:=xW) N ax az aH aI) λ_ _ _ _ _ _=>Bj λ_=>rfl
 have bc:=j4.qD (P:=P) (w:=w) (base:=base) (mg:=mg) ax.cl (λ_ _ F=>j8 F Z (cL:=xW) ax aI eY) λ_ _ _ _ _ _=>ju λ_ _=>rfl
 have bR:=q9.qD (mg:=mg) ax.cl (λ_ _ F=>r8 F Z ax aH az bc dU) λ_ _ _ _ _ _=>ju λ_ _=>rfl
 have bC:=ra.qD (mg:=mg) ax.cl (λ_ _ F=>sd F Z ax aI az bR qY) λ_ _ _ _ _ _=>Bj λ_=>rfl
 have kA:=vI.qD (mg:=mg) ax.cl (λ_ _ F=>wk F Z ax aI az aH gH eZ rJ iV f6 m5 rb xP Ep bC) λ_ _ _ _ _ _=>Nk λ_ _ _ _=>rfl
 have jA:=t4.qD (P:=P) (w:=w) (base:=base) (mg:=mg) ax.cl (λ_ _ F=>uq F Z (cL:=xW) ax az) λ_ _ _ _ _ _=>Bj λ_=>rfl
 have cR:=t_.qD (P:=P) (w:=w) (base:=base) (mg:=mg) ax.cl (λ_ _ F=>uw F Z (cL:=xW) ax aI) λ_ _ _ _ _ _=>Bj λ_=>rfl
 have iu:=q_.qD (P:=P) (w:=w) (base:=base) (mg:=mg) ax.cl (λ_ _ F=>r_ F Z (cL:=xW) ax aH eY) λ_ _ _ _ _ _=>ju λ_ _=>rfl
 have fh:=qa.qD (mg:=mg) ax.cl (λ_ _ F=>ql F Z ax iu mz) λ_ _ _ _ _ _=>ju λ_ _=>rfl
 have cP:=oC.qD (mg:=mg) ax.cl (λ_ _ F=>oX F Z N ax az aH dD e9 dU mi qY) λ_ _ _ _ _ _=>ju λ_ _=>rfl
 have tV:=tS.ff (λ_ _ F=>qp F Z mi) λ_ _ _ _ _ _=>ju λ_ _=>rfl
 have lB:=m4.Rb (P:=P) (w:=w) (base:=base) bP (λ_ _ F=>uj F bP a9) λ_ _ _ _ _ _=>Bj λ_=>rfl
 have jy:=tW.qD (P:=P) (w:=w) (base:=base) (mg:=mg) bP.cl (λ_ _ F=>ui F Z bP a9) λ_ _ _ _ _ _=>HA λ_ _ _=>rfl
 have e8:=vH.qD (mg:=mg) bP.cl (λ_ _ F=>wg F Z bP a9 jy tV) λ_ _ _ _ _ _=>Nk λ_ _ _ _=>rfl
 have dR:=tX.qD (P:=P) (w:=w) (base:=base) (mg:=mg) bP.cl (λ_ _ F=>uk F Z bP a9) λ_ _ _ _ _ _=>Bj λ_=>rfl
 have CS:=CK.ff (λ_ _ F=>yA F Z N mj Be zA) λ_ _ _ _ _ _=>ju λ_ _=>rfl
 have dT:=t9.qD (mg:=mg) ax.cl (λ_ _ F=>uv F Z ax az bR CS mi) λ_ _ _ _ _ _=>HA λ_ _ _=>rfl
 have mZ:=mY.ff (λ_ _ F=>lW F Z El) λ_ _ _ _ _ _=>Bj λ_=>rfl
 have tT:=tQ.ff (λ_ _ F=>qm F Z ko kq mZ) λ_ _ _ _ _ _=>Bj λ_=>rfl
 have gf:=oB.qD (mg:=mg) ax.cl (λ_ _ F=>oW F Z ax az aI fZ rh tT mi lB dT e8 dR) λ_ _ _ _ _ _=>ju λ_ _=>rfl
 have dS:=t6.qD (mg:=mg) ax.cl (λ_ _ F=>ur F Z ax az gf bC) λ_ _ _ _ _ _=>ju λ_ _=>rfl
 have df:=tZ.qD (mg:=mg) ax.cl (λ_ _ F=>uo F Z ax aI lB dT e8 dR) λ_ _ _ _ _ _=>Bj λ_=>rfl
 have kB:=vJ.qD (mg:=mg) ax.cl (λ_ _ F=>wm F Z ax aH az eZ f6 bc fG bC) λ_ _ _ _ _ _=>HA λ_ _ _=>rfl
 have jz:=tY.qD (mg:=mg) ax.cl (λ_ _ F=>um F Z ax aI aH az bR fG bC) λ_ _ _ _ _ _=>Bj λ_=>rfl
 have jB:=t8.qD (mg:=mg) ax.cl (λ_ _ F=>uu F Z ax aH az aI bc kC) λ_ _ _ _ _ _=>ju λ_ _=>rfl
 have Bg:=Hm.ff (P:=P) (w:=w) (base:=base) (λ_ _ F=>DE F Z) λ_ _ _ _ _ _=>Bj λ_=>rfl
 have zB:=K8.ff (λ_ _ F=>FH F Z Bg) λ_ _ _ _ _ _=>ju λ_ _=>rfl
 have Bh:=Hn.ff (P:=P) (w:=w) (base:=base) (λ_ _ F=>DF F Z) λ_ _ _ _ _ _=>ju λ_ _=>rfl
 have CP:=CJ.ff (λ_ _ F=>yz F Z Bg zB) λ_ _ _ _ _ _=>ju λ_ _=>rfl
 have CT:=CL.ff (λ_ _ F=>yB F Z zB) λ_ _ _ _ _ _=>ju λ_ _=>rfl
 have qZ:=zt.ff (λ_ _ F=>wx F Z CT) λ_ _ _ _ _ _=>ju λ_ _=>rfl
 have Ek:=Ed.ff (P:=P) (w:=w) (base:=base) (λ_ _ F=>Aj F Z) λ_ _ _ _ _ _=>ju λ_ _=>rfl
 have Hv:=Hk.ff (P:=P) (w:=w) (base:=base) (λ_ _ F=>DD F Z) λ_ _ _ _ _ _=>ju λ_ _=>rfl
 have Ej:=Qq.ff (λ_ _ F=>Ma F Z Bc) λ_ _ _ _ _ _=>ju λ_ _=>rfl
 have qX:=Eb.ff (P:=P) (w:=w) (base:=base) (λ_ _ F=>Ai F Z) λ_ _ _ _ _ _=>ju λ_ _=>rfl
 have Bf:=Hj.ff (λ_ _ F=>DC F Z Ej qX) λ_ _ _ _ _ _=>ju λ_ _=>rfl
 have Bb:=Hf.ff (λ_ _ F=>DA F Z Bc) λ_ _ _ _ _ _=>Nk λ_ _ _ _=>rfl
 have CU:=CN.ff (λ_ _ F=>yC F Z Bf Ej Bc qX) λ_ _ _ _ _ _=>ju λ_ _=>rfl
 have Em:=Ef.ff (λ_ _ F=>Ak F Z zB Bh Bf qZ CU jA cR df) λ_ _ _ _ _ _=>HA λ_ _ _=>rfl
 have NG:=NC.ff (λ_ _ F=>Io F Z Ej Bc qX) λ_ _ _ _ _ _=>HA λ_ _ _=>rfl
 have Eo:=Eg.ff (λ_ _ F=>Al F Z Ej) λ_ _ _ _ _ _=>HA λ_ _ _=>rfl
 have Hs:=He.ff (λ_ _ F=>Dz F Z Ej) λ_ _ _ _ _ _=>HA λ_ _ _=>rfl
 have Lc:=K6.ff (λ_ _ F=>FG F Z kA jB kB jz dS) λ_ _ _ _ _ _=>ju λ_ _=>rfl
 have Lb:=K5.ff (λ_ _ F=>FF F Z Ek Hv Bb) λ_ _ _ _ _ _=>S4 λ_ _ _ _ _ _=>rfl
 have Ht:=Hg.ff (λ_ _ F=>DB F Z xO Lb Lc Eo Hs) λ_ _ _ _ _ _=>Nk λ_ _ _ _=>rfl
 exact Ip F Z La xO Hu Ht zC Bb NG qZ CP Bh Em fh cR df cP dS
end Ov
namespace PySem.W.Fast
def tw13891660114862291005:=0
def tw13261806102554722200:=0
def tw9121923106720568523:=0
def tw2338779221605001184:=0
def tw13580297780197214707:=0
def tw9915425143192264326:=0
def tw1328972032979014205:=0
def tw1114981616044875712:=0
def tw8116247759503878122:=0
def tw11706550574101465686:=0
def tw9521145231150091404:=0
def tw17839182424641080382:=0
def tw8300295828500666979:=0
def tw10069582321680911692:=0
def tw123036546779209370:=0
def tw6653450607366693346:=0
def tw2136969012776912833:=0
def tw3827517882714931104:=0
def tw8261261014588055187:=0
def tw12526449264327184879:=0
def tw10254036352752849219:=0
def tw15782216918818417550:=0
def tw6096864353003691681:=0
def tw14179633340505311598:=0
def tw11927221072859802888:=0
def tw72850094315548209:=0
def tw9886328898921983085:=0
def tw15416294773307549977:=0
def tw13645672635920662867:=0
def tw10607630370875406878:=0
def tw3842156805251898507:=0
def tw9764144772503825544:=0
def tw13111218452300243971:=0
def tw15629119823482119729:=0
def tw17884293917126508071:=0
def tw3105981237336466427:=0
def tw18406239824770405941:=0
def tw10425448388627756723:=0
def tw1491580841730471058:=0
def tw14119997129319454378:=0
def tw17059161309671126765:=0
def tw12766511965195108801:=0
def tw8448013533789933809:=0
def tw17137806810904971983:=0
def tw17466275456117336761:=0
def tw15096027701231425867:=0
def tw1490977861436243785:=0
def tw14230898623851181559:=0
def tw8143742466096777203:=0
def tw6280942448294025118:=0
def tw11201623396896998045:=0
def tw8060749340394943078:=0
def tw10900075961076958378:=0
def tw16071004735836860734:=0
def tw15102224201160748457:=0
def tw10370621286044933176:=0
def tw10520998461544579643:=0
def tw981647988523993211:=0
def tw1951268362712494520:=0
def tw14719702185845211585:=0
def tw7561195837276953626:=0
def tw4708433398655772850:=0
def tw9894738816862248702:=0
def tw9620819355559286539:=0
def tw9592971507994813776:=0
def tw7622609540883387505:=0
def tw1107812350314105667:=0
def tw16724171567032678903:=0
def tw3609788673624171286:=0
def tw6206737278790505916:=0
def tw18244078885342692842:=0
def tw10170500819411198287:=0
def tw10727243685727233091:=0
def tw6156423291184999799:=0
def tw11513216214767864803:=0
def tw13828919685729741350:=0
def tw10431419202878605282:=0
def tw9054427760135406730:=0
def tw581340097429437019:=0
def tw18386245276604729899:=0
def tw17525921622540025949:=0
def tw14507674334840288936:=0
def tw8899091829991948292:=0
def tw4805138183269130985:=0
def tw6796319904283210177:=0
def tw700004887919731314:=0
def tw15078353609358106429:=0
def tw3779134295565881281:=0
def tw9371690700892410637:=0
def tw1305599236133815857:=0
def tw12719133648646933584:=0
def tw4441309017263997773:=0
def tw7805125050483238088:=0
def tw14759699862350035212:=0
def tw11296640819937434077:=0
def tw15403961528265113354:=0
def tw6041441958470551341:=0
def tw16533171760085600535:=0
def tw15023212862825573672:=0
def tw4114447746438182752:=0
def tw13295701548879214674:=0
def tw6752876616310516559:=0
def tw2834107877698665531:=0
def tw12375747276443550781:=0
def tw8599378031578970124:=0
def tw4255986126428110171:=0
def tw10087334279525452437:=0
def tw18359895681544593535:=0
def tw10923394577879326981:=0
def tw16026568247376964151:=0
def tw4373666195817900100:=0
def tw6096732782671877982:=0
def tw6687112068638286700:=0
def tw18323813743554154014:=0
def tw14846463312094185699:=0
def tw13835979172415387566:=0
def tw3118158464901545020:=0
def tw12833114058214075389:=0
def tw16081540006385305581:=0
def tw12787387978056079468:=0
def tw988548148354813604:=0
def tw15644316123341281196:=0
def tw17759281181830076983:=0
def tw8775815567220422575:=0
def tw13621268474313319909:=0
def tw16444540415174080007:=0
def tw10064255623786997414:=0
def tw20840435699667382:=0
def tw13265704428173026775:=0
def tw14496777964298329746:=0
def tw5079045031402772305:=0
def tw4212543970631531460:=0
def tw1423846890083202269:=0
def tw4875454231354423584:=0
def tw3560408716842772525:=0
def tw7839603885477477144:=0
def tw2480987539893943267:=0
def tw1154757605183147460:=0
def tw5403993955537695789:=0
def tw13278042526654067796:=0
def tw9657504620844520375:=0
def tw12036816515040175777:=0
def tw13446261562683748781:=0
def tw15335185091908920860:=0
def tw9164501604463301760:=0
def tw14885780529492508424:=0
def tw12782820902109949997:=0
def tw15198404556052874011:=0
def tw14295243398125179936:=0
def tw9317156448335243328:=0
def tw13833583184609272551:=0
def tw1129855097245653428:=0
def tw4551064496421496779:=0
def tw14557232672991408775:=0
def tw10885865678125993187:=0
def tw7282001089469929424:=0
def tw9221891714992457132:=0
def tw16059966708155580098:=0
def tw16575188785389902412:=0
def tw12524189754278821207:=0
def tw5602715264467908934:=0
def tw18421278328703738966:=0
def tw6657863746812686285:=0
def tw4359227755333043292:=0
def tw1380147324299837216:=0
def tw4475246062523645284:=0
def tw8978344749724313631:=0
def tw5120295588220423459:=0
def tw1772661689888805126:=0
def tw3038538919358688397:=0
def tw7508968458920051815:=0
def tw3687536815429564867:=0
def tw893027298686398712:=0
def tw1934315082790276385:=0
def tw7292152258529530877:=0
def tw4587409488260797991:=0
def tw3686645566649580905:=0
def tw12240855255620988614:=0
def tw11480272686852329298:=0
def tw6674522594075797208:=0
def tw11506734066343913764:=0
def tw7610365540153019096:=0
def tw4059216652610053913:=0
def tw11908285767423944660:=0
def tw15944557382165956071:=0
def tw11555094958821552641:=0
def tw6214484710495394303:=0
def tw6962980125799826134:=0
def tw10974222335810125084:=0
def tw15307327427249439874:=0
def tw16266691331756192954:=0
def tw1197202177918300203:=0
def tw15917494886141580962:=0
def tw1759541071745421268:=0
def tw6386861127013698521:=0
def tw1657972652192703149:=0
def tw11997560859596436995:=0
def tw15795741137304192372:=0
def tw18401410696761791502:=0
def tw9664240205461689387:=0
def tw14608991680446504821:=0
def tw12415404892111147086:=0
def tw1162826979421264572:=0
def tw13903941338479102963:=0
def tw12176832039376356108:=0
def tw13687534589610297888:=0
def tw6883000975542115582:=0
def tw12324629277591600362:=0
def tw16157050791214081342:=0
def tw11284480432513389780:=0
def tw10739524021104515735:=0
def tw13258368129295418534:=0
def tw12933593251891329922:=0
def tw15067155442022437746:=0
def tw17880956097242325965:=0
def tw14390633259964230092:=0
def tw6688513655206393834:=0
def tw5340034107104581176:=0
def tw14721156661222133624:=0
def tw8411165126174539640:=0
def tw14684317932444460673:=0
def tw2493713389548745844:=0
def tw3417419211835826141:=0
def tw5747970406786178283:=0
def tw11948547143107579453:=0
def tw13320593972694934702:=0
def tw13480690215813233457:=0
def tw15591836196308159629:=0
def tw10070735913191982285:=0
def tw6491385512451650276:=0
def tw18386505364577666376:=0
def tw15001950923981387524:=0
def tw836531498578250402:=0
def tw4764704908338057160:=0
def tw902268574760850685:=0
def tw8399781147693376287:=0
def tw6569743751954978885:=0
def tw17222630108785425845:=0
def tw2647592347293961740:=0
def tw3901350362427290216:=0
def tw2695817729112582291:=0
def tw9302624249276657795:=0
def tw16664965159174510532:=0
def tw12934244513947725318:=0
def tw2583550604106567258:=0
def tw318095739500711964:=0
def tw10794724069955389932:=0
def tw9057601744793747139:=0
def tw3657887260607822091:=0
def tw17297990446700775621:=0
def tw12182962559489584757:=0
def tw1144554728091097537:=0
def tw11420473429208708080:=0
def tw11365638970669960641:=0
def tw9445438121783059310:=0
def tw17558160481034917337:=0
def tw2722553898282736568:=0
def tw2436901354591254705:=0
def tw17634570131158349459:=0
def tw7539320110643264431:=0
def tw15321305056498847263:=0
def tw15208762213583022214:=0
def tw16627553439470138868:=0
def tw13075433656335460718:=0
def tw2404576609185462648:=0
def tw17213159479779002672:=0
def tw7057926503876469427:=0
def tw12301397195086981958:=0
def tw7070853330898542445:=0
def tw18097981917292318298:=0
def tw16837700906132785316:=0
def tw7416271689704478650:=0
def tw11576375348219517620:=0
def tw13221443080396631526:=0
def tw7416414474766548492:=0
def tw12670665780228151335:=0
def tw7274570166349970828:=0
def tw12396446337031076709:=0
def tw86507366181457643:=0
def tw18098375014101805235:=0
def tw13151917092006717420:=0
def tw16588322488949095910:=0
def tw2781746505651752357:=0
def tw12506444770109827529:=0
def tw13142947989242390143:=0
def tw3348116645509609943:=0
end PySem.W.Fast
open PySem PySem.W PyProof.Rows
set_option hygiene false
local macro_rules | `(tactic| simp_arith)=>`(tactic| (dsimp only [L2.p_];refine' Ov.Lr KX G ?a ?l ?c ?k;(case a=>k_is);(case l=>k_is);(case c=>k_is);(case k=>k_is)))
set_option maxRecDepth 100000 in
set_option maxHeartbeats 0 in
theorem PySem.Challenge.cw_overhaul_k31_what_a_lane_told_holds : PySem.Challenge.rw_overhaul_k31_what_a_lane_told.Holds := by
 w_on;o_law;k_head;(case hw=>w_witness2)
 k_fill
 refine Ov.G0 (l:=PySem.Challenge.rw_overhaul_k31_what_a_lane_told) (n:=63) (k:=11) (x:="_law_script") (sp:=Ov.GC) ["good_name"] rfl (by decide) rfl ⟨rfl,by decide,by decide⟩ (λw h Y=>PySem.W.kIn_of Y) ?Nm ?F (λtabs K H a ns hl hT hS hA hK=>⟨a,ns,rfl,hS,hl,hT,hA,hK,λ_ e=>⟨rfl,e⟩⟩)
 case Nm=>decide +kernel
 case F =>
  intro w mg fa h KX G hmg
  obtain ⟨g9,g8⟩:∃T,Ov.zw (L2.p_ KX) mg "good_name" Ov.ij T:=by
   dsimp only [L2.p_]
   refine' ⟨_,Ov.HD KX G ?ga ?gl ?gc ?gk ?gt ?gp ?gb ?ge ?go⟩
   (case ga=>k_is);(case gl=>k_is);(case gc=>k_is);(case gk=>k_is);(case gt=>k_is);(case gp=>rfl);(case gb=>kernel_rfl);(case ge=>decide);(case go=>kernel_rfl)
  have ND:Ov.Def (L2.p_ KX) mg "law" Ov.yW:=by simp_arith
  have Z:Ov.bV mg:=by
   refine' ⟨Ov.D6.mk (PySem.W.mg_none_of KX G ?z0) (PySem.W.mg_none_of KX G ?z1) (PySem.W.mg_none_of KX G ?z2) (PySem.W.mg_none_of KX G ?z3) (PySem.W.mg_none_of KX G ?z4) (PySem.W.mg_none_of KX G ?z5) (PySem.W.mg_none_of KX G ?z6) (PySem.W.mg_none_of KX G ?z7) (PySem.W.mg_none_of KX G ?z8) (PySem.W.mg_none_of KX G ?z9),PySem.W.mg_none_of KX G ?w0,PySem.W.mg_none_of KX G ?w1,PySem.W.mg_none_of KX G ?w2,PySem.W.mg_none_of KX G ?w3,PySem.W.mg_none_of KX G ?w4⟩
   (case z0=>k_is);(case z1=>k_is);(case z2=>k_is);(case z3=>k_is);(case z4=>k_is);(case z5=>k_is);(case z6=>k_is);(case z7=>k_is);(case z8=>k_is);(case z9=>k_is);(case w0=>k_is);(case w1=>k_is);(case w2=>k_is);(case w3=>k_is);(case w4=>k_is)
  have N:Ov.oE (L2.p_ KX) mg:=by
   dsimp only [L2.p_]
   refine' Ov.Dv KX G ?a ?l
   (case a=>k_is);(case l=>k_is)
  obtain ⟨pR,fZ⟩:∃C,Ov.Own (L2.p_ KX) mg "BadMoment" C:=by
   dsimp only [L2.p_]
   refine' ⟨_,Ov.kH KX G ?a ?b⟩
   (case a=>k_is);(case b=>kernel_rfl)
  obtain ⟨uR,iV⟩:∃C,Ov.Own (L2.p_ KX) mg "BadName" C:=by
   dsimp only [L2.p_]
   refine' ⟨_,Ov.kH KX G ?a ?b⟩
   (case a=>k_is);(case b=>kernel_rfl)
  obtain ⟨EI,rb⟩:∃C,Ov.Own (L2.p_ KX) mg "Full" C:=by
   dsimp only [L2.p_]
   refine' ⟨_,Ov.kH KX G ?a ?b⟩
   (case a=>k_is);(case b=>kernel_rfl)
  obtain ⟨uS,eY⟩:∃C,Ov.Own (L2.p_ KX) mg "NoCraft" C:=by
   dsimp only [L2.p_]
   refine' ⟨_,Ov.kH KX G ?a ?b⟩
   (case a=>k_is);(case b=>kernel_rfl)
  obtain ⟨rE,dD⟩:∃C,Ov.Own (L2.p_ KX) mg "NotThere" C:=by
   dsimp only [L2.p_]
   refine' ⟨_,Ov.kH KX G ?a ?b⟩
   (case a=>k_is);(case b=>kernel_rfl)
  obtain ⟨EJ,rh⟩:∃C,Ov.Own (L2.p_ KX) mg "Past" C:=by
   dsimp only [L2.p_]
   refine' ⟨_,Ov.kH KX G ?a ?b⟩
   (case a=>k_is);(case b=>kernel_rfl)
  obtain ⟨Bw,m5⟩:∃C,Ov.Own (L2.p_ KX) mg "Taken" C:=by
   dsimp only [L2.p_]
   refine' ⟨_,Ov.kH KX G ?a ?b⟩
   (case a=>k_is);(case b=>kernel_rfl)
  obtain ⟨x8,f6⟩:∃C,Ov.Own (L2.p_ KX) mg "TooFar" C:=by
   dsimp only [L2.p_]
   refine' ⟨_,Ov.kH KX G ?a ?b⟩
   (case a=>k_is);(case b=>kernel_rfl)
  obtain ⟨jU,gH⟩:∃t,mg "FARTHEST"=some (.int 1000000 t):=by
   refine' Ov.const_int KX G ?cz ?cw
   (case cz=>k_is);(case cw=>kernel_rfl)
  obtain ⟨gE,eZ⟩:∃t,mg "FASTEST"=some (.int 1000 t):=by
   refine' Ov.const_int KX G ?cz ?cw
   (case cz=>k_is);(case cw=>kernel_rfl)
  obtain ⟨ot,ko⟩:∃t,mg "FINEST"=some (.int 60 t):=by
   refine' Ov.const_int KX G ?cz ?cw
   (case cz=>k_is);(case cw=>kernel_rfl)
  obtain ⟨ou,kq⟩:∃t,mg "LATEST"=some (.int 1000000 t):=by
   refine' Ov.const_int KX G ?cz ?cw
   (case cz=>k_is);(case cw=>kernel_rfl)
  obtain ⟨lT,iZ⟩:∃t,mg "LONGEST"=some (.int 8 t):=by
   refine' Ov.const_int KX G ?cz ?cw
   (case cz=>k_is);(case cw=>kernel_rfl)
  obtain ⟨xE,rJ⟩:∃t,mg "MOST"=some (.int 12 t):=by
   refine' Ov.const_int KX G ?cz ?cw
   (case cz=>k_is);(case cw=>kernel_rfl)
  obtain ⟨qR,nq⟩:∃t,mg "SIGNS"=some (.str "abcdefghijklmnopqrstuvwxyz0123456789" t):=by
   refine' Ov.C1 KX G ?cz ?cw
   (case cz=>k_is);(case cw=>kernel_rfl)
  obtain ⟨fd,F,hb⟩:=Ov.LQ ND hmg (λ_ _ _ _ _ _ _=>rfl)
  exact ⟨fd,[g9],hb,(λT hT=>by simp only [TC,TZ,or_false] at hT;rcases hT with rfl <;> first | exact ⟨_,by simp,_,g8⟩),λbase _ _ Bm=>Ov.Df (Ov.Lf Z N gH eZ ko kq iZ rJ nq fZ iV rb eY dD rh m5 f6 (by dsimp only [L2.p_];refine' ⟨_,Ov.vY KX G ?a ?pg ?hd ?po ?sa ?mk ?kc,?n0,?n1,Ov.bE ?m0a ?m0i ?m0l ?m0c ?m0k,Ov.bE ?m1a ?m1i ?m1l ?m1c ?m1k,Ov.bE ?m2a ?m2i ?m2l ?m2c ?m2k,Ov.bE ?m3a ?m3i ?m3l ?m3c ?m3k,Ov.bE ?m4a ?m4i ?m4l ?m4c ?m4k,Ov.bE ?m5a ?m5i ?m5l ?m5c ?m5k⟩;(case a=>k_is);(case pg=>k_is);(case hd=>k_is);(case po=>k_is);(case sa=>k_is);(case mk=>k_is);(case kc=>k_is);(case n0=>(show PySem.W.findIn _ _ _=_;k_is));(case n1=>(show PySem.W.findIn _ _ _=_;k_is));(case m0a=>k_is);(case m0i=>k_is);(case m0l=>k_is);(case m0c=>k_is);(case m0k=>k_is);(case m1a=>k_is);(case m1i=>k_is);(case m1l=>k_is);(case m1c=>k_is);(case m1k=>k_is);(case m2a=>k_is);(case m2i=>k_is);(case m2l=>k_is);(case m2c=>k_is);(case m2k=>k_is);(case m3a=>k_is);(case m3i=>k_is);(case m3l=>k_is);(case m3c=>k_is);(case m3k=>k_is);(case m4a=>k_is);(case m4i=>k_is);(case m4l=>k_is);(case m4c=>k_is);(case m4k=>k_is);(case m5a=>k_is);(case m5i=>k_is);(case m5l=>k_is);(case m5c=>k_is);(case m5k=>k_is)) (by dsimp only [L2.p_];refine' ⟨_,Ov.vY KX G ?a ?pg ?hd ?po ?sa ?mk ?kc,?n0,?n1,?n2,Ov.bE ?m0a ?m0i ?m0l ?m0c ?m0k,Ov.bE ?m1a ?m1i ?m1l ?m1c ?m1k,Ov.bE ?m2a ?m2i ?m2l ?m2c ?m2k,Ov.bE ?m3a ?m3i ?m3l ?m3c ?m3k,Ov.bE ?m4a ?m4i ?m4l ?m4c ?m4k,Ov.bE ?m5a ?m5i ?m5l ?m5c ?m5k,Ov.bE ?m6a ?m6i ?m6l ?m6c ?m6k,Ov.bE ?m7a ?m7i ?m7l ?m7c ?m7k,Ov.bE ?m8a ?m8i ?m8l ?m8c ?m8k,Ov.bE ?m9a ?m9i ?m9l ?m9c ?m9k,Ov.bE ?m10a ?m10i ?m10l ?m10c ?m10k,Ov.bE ?m11a ?m11i ?m11l ?m11c ?m11k,Ov.bE ?m12a ?m12i ?m12l ?m12c ?m12k,Ov.bE ?m13a ?m13i ?m13l ?m13c ?m13k,Ov.bE ?m14a ?m14i ?m14l ?m14c ?m14k,Ov.bE ?m15a ?m15i ?m15l ?m15c ?m15k,Ov.bE ?m16a ?m16i ?m16l ?m16c ?m16k⟩;(case a=>k_is);(case pg=>k_is);(case hd=>k_is);(case po=>k_is);(case sa=>k_is);(case mk=>k_is);(case kc=>k_is);(case n0=>(show PySem.W.findIn _ _ _=_;k_is));(case n1=>(show PySem.W.findIn _ _ _=_;k_is));(case n2=>(show PySem.W.findIn _ _ _=_;k_is));(case m0a=>k_is);(case m0i=>k_is);(case m0l=>k_is);(case m0c=>k_is);(case m0k=>k_is);(case m1a=>k_is);(case m1i=>k_is);(case m1l=>k_is);(case m1c=>k_is);(case m1k=>k_is);(case m2a=>k_is);(case m2i=>k_is);(case m2l=>k_is);(case m2c=>k_is);(case m2k=>k_is);(case m3a=>k_is);(case m3i=>k_is);(case m3l=>k_is);(case m3c=>k_is);(case m3k=>k_is);(case m4a=>k_is);(case m4i=>k_is);(case m4l=>k_is);(case m4c=>k_is);(case m4k=>k_is);(case m5a=>k_is);(case m5i=>k_is);(case m5l=>k_is);(case m5c=>k_is);(case m5k=>k_is);(case m6a=>k_is);(case m6i=>k_is);(case m6l=>k_is);(case m6c=>k_is);(case m6k=>k_is);(case m7a=>k_is);(case m7i=>k_is);(case m7l=>k_is);(case m7c=>k_is);(case m7k=>k_is);(case m8a=>k_is);(case m8i=>k_is);(case m8l=>k_is);(case m8c=>k_is);(case m8k=>k_is);(case m9a=>k_is);(case m9i=>k_is);(case m9l=>k_is);(case m9c=>k_is);(case m9k=>k_is);(case m10a=>k_is);(case m10i=>k_is);(case m10l=>k_is);(case m10c=>k_is);(case m10k=>k_is);(case m11a=>k_is);(case m11i=>k_is);(case m11l=>k_is);(case m11c=>k_is);(case m11k=>k_is);(case m12a=>k_is);(case m12i=>k_is);(case m12l=>k_is);(case m12c=>k_is);(case m12k=>k_is);(case m13a=>k_is);(case m13i=>k_is);(case m13l=>k_is);(case m13c=>k_is);(case m13k=>k_is);(case m14a=>k_is);(case m14i=>k_is);(case m14l=>k_is);(case m14c=>k_is);(case m14k=>k_is);(case m15a=>k_is);(case m15i=>k_is);(case m15l=>k_is);(case m15c=>k_is);(case m15k=>k_is);(case m16a=>k_is);(case m16i=>k_is);(case m16l=>k_is);(case m16c=>k_is);(case m16k=>k_is)) (by dsimp only [L2.p_];refine' ⟨_,Ov.vY KX G ?a ?pg ?hd ?po ?sa ?mk ?kc,?n0,Ov.bE ?m0a ?m0i ?m0l ?m0c ?m0k,Ov.bE ?m1a ?m1i ?m1l ?m1c ?m1k,Ov.bE ?m2a ?m2i ?m2l ?m2c ?m2k,Ov.bE ?m3a ?m3i ?m3l ?m3c ?m3k⟩;(case a=>k_is);(case pg=>k_is);(case hd=>k_is);(case po=>k_is);(case sa=>k_is);(case mk=>k_is);(case kc=>k_is);(case n0=>(show PySem.W.findIn _ _ _=_;k_is));(case m0a=>k_is);(case m0i=>k_is);(case m0l=>k_is);(case m0c=>k_is);(case m0k=>k_is);(case m1a=>k_is);(case m1i=>k_is);(case m1l=>k_is);(case m1c=>k_is);(case m1k=>k_is);(case m2a=>k_is);(case m2i=>k_is);(case m2l=>k_is);(case m2c=>k_is);(case m2k=>k_is);(case m3a=>k_is);(case m3i=>k_is);(case m3l=>k_is);(case m3c=>k_is);(case m3k=>k_is)) (by simp_arith) (by simp_arith) (by simp_arith) (by simp_arith) (by simp_arith) (by simp_arith) (by simp_arith) (by simp_arith) (by simp_arith) g8 (by simp_arith) (by simp_arith) (by simp_arith) (by simp_arith) (by simp_arith) (by simp_arith) (by simp_arith) (by simp_arith) (by simp_arith) (by simp_arith) (by simp_arith) (by simp_arith) (by simp_arith) (by simp_arith) (by simp_arith) (by simp_arith) (by simp_arith) (by simp_arith) (by simp_arith) (by simp_arith) (by simp_arith) (by simp_arith) (by simp_arith) (by simp_arith) (by simp_arith) (by simp_arith) (by simp_arith) (by simp_arith) (by simp_arith) F base Bm)⟩
