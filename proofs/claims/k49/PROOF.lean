import PyProof.Rows.All
import Wide.All
import OpenK.AllK
import Wide.FinOn
import Lean
import PyProof.EqAt
import PyProof.EqKinds
import PyProof.TupleCall
import PyProof.NeKinds
import PyProof.CompFree
import PyProof.CompMap
import PyProof.ListRange
import PyProof.Rows.SortWalk
import PyProof.ExcArgsOwn
import PyProof.ExcAttrAll.ValueError
import KE.KTryMore
import PyProof.GenCompD
import PyProof.StrWalks
import PyProof.ConsumeS
import PyProof.StrOps2
import KE.KRevIter
import PyProof.ZipIter
import PyProof.DictWalks
import PyProof.DictCompW
import PyProof.DictRoads
import PyProof.MeetsDictList
import KE.KDictList
import PyProof.EnumFor
import PyProof.EnumMake
import PyProof.WalksEnum
import KE.KDictOf
import KE.KRevSl
import PySem.Challenge.RW_overhaul_k49_about_is_each_turned
noncomputable section
set_option compiler.extract_closed false
set_option Elab.async false
set_option linter.all false
set_option maxRecDepth 100000
open List renaming length_map→Tx,getElem?_eq_getElem→Tz,mem_map→TB,getElem?_eq_some_iff→TC,mem_of_getElem?→TH,size_toArray→TJ,map_map→TK,map_cons→TL,map_append→TM,getElem?_map→TN,mem_append→TQ,mem_singleton→TR,mem_filter→TU,mem_append_right→TV,mem_cons→TX,map_congr_left→TZ,getLast?_concat→T1,mem_iff_getElem?→T5,length_append→T7,length_cons→T8,mem_cons_of_mem→T9,dropLast_concat_getLast→T_,length_take→T',not_mem_nil→Ua,take_add_one→Ub,take_length→Uc,lookup_cons→Ug,filter_cons→Uh,mem_cons_self→Ui,getElem_of_mem→Uj,getElem_mem→Uk,getElem?_cons_succ→Ul,pairwise_iff_getElem→Um,filter_map→Uo,replicate→Up,append_nil→Uq,getElem?_set_self→Ur,drop_eq_getElem_cons→Ut,length_filter_le→Uu,getElem_map→Uw,map_nil→Ux,take_sublist→Uy,nodup_append→Uz,filter_eq_self→UA,take_of_length_le→UB,getElem?_append_right→UC,getElem?_eq_none→UE,length→UG,getElem?_append_left→UH,getElem?_zip_eq_some→UI,getElem?_set_ne→UJ,mem_of_mem_take→UK,nodup_cons→UM,getElem_inj→UO,length_drop→UP,range→UR,cons_lt_cons_iff→UT,reverse_cons→UU,map_take→UW,exists_cons_of_ne_nil→UX,mem_append_left→UY,filterMap_cons→U0,replicate_succ→U1,length_set→U2,any_cons→U3,getElem?_cons_zero→U4,filter_append→U5,length_nil→U8,pairwise_cons→U9,lookup→Va,flatten_cons→Vb,eraseIdxIfInBounds_toArray→Vc,append_assoc→Vd,mem_range→Ve,drop_zero→Vf,dropLast_eq_take→Vg,take_append_drop→Vh,all_eq_true→Vi,getLast?_eq_some_getLast→Vj,dropLast_concat→Vk,length_zip→Vm,mem_map_of_mem→Vn,filter_sublist→Vo,mem_filterMap→Vq,getElem?_tail→Vr,getElem?_drop→Vs,getElem?_eq_none_iff→Vu,take_zero→Vv,length_range→Vx,foldl_append→Vy,eraseIdx_cons_succ→VA,lookup_eq_some_iff→VB,map_drop→VD,getLast?_cons_cons→VE,any_eq_true→VF,drop_length→VG,filter_eq_nil_iff→VH,of_mem_zip→VJ,filter_nil→VM,head?_cons→VO,map_id'→VP,length_dropLast→VQ,pairwise_append→VS,dropLast_subset→VT,nodup_nil→VU,getElem?_range→VV,all_cons→VW,map→VX,zip_cons_cons→VY,nil_lt_cons→V4,mem_flatMap→V5,forIn_cons→V9,getD→Wu
open Nat renaming le_refl→TF,lt_of_lt_of_le→T3,le_trans→T4,ne_of_lt→T6,zero_le→Ue,lt_of_le_of_lt→Uv,lt_irrefl→UD,le_add_right→UQ,lt_succ_self→UZ,lt_or_eq_of_le→U_,not_lt_zero→Vl,le_of_lt→Vp,mul_div_cancel_left→VC,ne_of_gt→VI,lt_trichotomy→V0,min_self→V2,succ_le_succ→V7,le_succ→V8,min_eq_left→V_
open Bool renaming false_ne_true→TY,false_eq_true→T2,and_eq_true→Ud,eq_iff_iff→UL,and_true→UN,decide_and→US,and_false→Vt,eq_false_iff→Vz,beq_eq_decide_eq→VN,and_eq_true_iff→VR,not_eq_true'→VZ
open Option renaming some→Us,map_eq_some_iff→U',isSome_iff_exists→Vw,map_some→VL,getD_none→V3
namespace L2
open PySem PySem.Spec PyProof.Rows
abbrev Key:=Sum Int Str
def Ka:Key→Value→Bool
 | .inl k,v=>Value.isInt k v
 | .inr x,v=>Value.isStrOf x v
def Rf (w:World):Key→Int
 | .inl k=>hashInt k
 | .inr x=>hashStr w x
theorem cA:∀{k:Key} {v:Value},Ka k v=true→(∃i t,k=Sum.inl i∧v=Value.int i t)∨(∃x t,k=Sum.inr x∧v=Value.str x t)
 | .inl i,v,h=>by
  obtain ⟨t,e⟩:=Value.isInt_shape (k:=i) (v:=v) h
  exact .inl ⟨i,t,rfl,e⟩
 | .inr x,v,h=>by
  obtain ⟨t,e⟩:=Value.isStrOf_shape (x:=x) (v:=v) h
  exact .inr ⟨x,t,rfl,e⟩
theorem LU (a b:Int):decide ((Sum.inl a:Key)=Sum.inl b)=(a == b):=by
 by_cases e:a=b
 ·subst e;simp
 ·have h:¬ (Sum.inl a:Key)=Sum.inl b:=λq=>e (Sum.inl.inj q)
  rw [decide_eq_false h]
  exact (beq_eq_false_iff_ne.mpr e).symm
theorem LX (a b:Str):decide ((Sum.inr a:Key)=Sum.inr b)=decide (a=b):=by
 by_cases e:a=b
 ·subst e;simp
 ·have h:¬ (Sum.inr a:Key)=Sum.inr b:=λq=>e (Sum.inr.inj q)
  rw [decide_eq_false h,decide_eq_false e]
theorem LV (a:Int) (b:Str):decide ((Sum.inl a:Key)=Sum.inr b)=false:=decide_eq_false (λq=>nomatch q)
theorem LW (a:Str) (b:Int):decide ((Sum.inr a:Key)=Sum.inl b)=false:=decide_eq_false (λq=>nomatch q)
def Iq (prog:Program) (w:World):PySem.KeyKind prog w Key where
 is:=Ka
 hash:=Rf w
 inj:=λv a b ha hb=>by
  rcases cA ha with ⟨i,t,rfl,rfl⟩ | ⟨x,t,rfl,rfl⟩
  ·rcases cA hb with ⟨j,u,rfl,e⟩ | ⟨y,u,rfl,e⟩
   ·injection e with e1 _;rw [e1]
   ·exact nomatch e
  ·rcases cA hb with ⟨j,u,rfl,e⟩ | ⟨y,u,rfl,e⟩
   ·exact nomatch e
   ·injection e with e1 _;rw [e1]
 byValue:=λk v h=>by
  rcases cA h with ⟨i,t,rfl,rfl⟩ | ⟨x,t,rfl,rfl⟩ <;> rfl
 pyHash:=λhv h=>by
  rcases cA hv with ⟨i,t,rfl,rfl⟩ | ⟨x,t,rfl,rfl⟩
  ·exact wpAny_pyHash_int h
  ·exact wpAny_pyHash_str h
 eqBool:=λhu hv h=>by
  rcases cA hu with ⟨i,t,rfl,rfl⟩ | ⟨x,t,rfl,rfl⟩
  ·rcases cA hv with ⟨j,u,rfl,rfl⟩ | ⟨y,u,rfl,rfl⟩
   ·rw [LU] at h;exact wpAny_eqBool_int h
   ·rw [LV] at h;exact SeqAt.EqAt.int_str i t y u _ _ _ _ h
  ·rcases cA hv with ⟨j,u,rfl,rfl⟩ | ⟨y,u,rfl,rfl⟩
   ·rw [LW] at h;exact SeqAt.EqAt.str_int x t j u _ _ _ _ h
   ·rw [LX] at h;exact wpAny_eqBool_str h
 «strs»:=λk x t v h=>by
  rcases cA h with ⟨i,u,rfl,e⟩ | ⟨y,u,rfl,e⟩
  ·exact nomatch e
  ·injection e with e1 _
   subst e1
   cases v <;> rfl
end L2
namespace L2
open PySem PySem.Spec PyProof.Rows
inductive V where
 | non | bl (b:Bool) | int (i:Int) | str (x:Str) | byt (b:Array UInt8) | flt (b:UInt64) | ref (a:Addr) | ty (n:String)
 deriving DecidableEq
def RelV:V→Value→Prop
 | .non,u=>u=Value.none
 | .bl b,u=>u=Value.bool b
 | .int i,u=>∃t,u=Value.int i t
 | .str x,u=>∃t,u=Value.str x t
 | .byt b,u=>∃t,u=Value.bytes b t
 | .flt b,u=>∃t,u=Value.float b t
 | .ref a,u=>u=Value.ref a
 | .ty n,u=>u=Value.type n
abbrev Vals:List V→List Value→Prop:=Paired RelV
theorem Vals.length {xs:List V} {us:List Value} (r:Vals xs us):xs.length=us.length:=Paired.length r
theorem Vals.get:∀{xs:List V} {us:List Value} {i:Nat} {x:V},Vals xs us→xs[i]?=some x→∃u,us[i]?=some u∧RelV x u
 | _,_,_,_,.nil,e=>by simp at e
 | _,_,0,_,.cons r _,e=>by simp at e;subst e;exact ⟨_,rfl,r⟩
 | _,_,i + 1,x,.cons _ t,e=>by
  obtain ⟨u,h1,h2⟩:=Vals.get (i:=i) (x:=x) t (by simpa using e)
  exact ⟨u,by simpa using h1,h2⟩
theorem Vals.set {x:V} {u:Value} (r:RelV x u):∀{xs:List V} {us:List Value} (i:Nat),Vals xs us→Vals (xs.set i x) (us.set i u)
 | _,_,_,.nil=>.nil
 | _,_,0,.cons _ t=>.cons r t
 | _,_,i + 1,.cons q t=>.cons q (Vals.set r i t)
theorem Vals.append:∀{xs ys:List V} {us ws:List Value},Vals xs us→Vals ys ws→Vals (xs ++ ys) (us ++ ws)
 | _,_,_,_,.nil,s=>s
 | _,_,_,_,.cons r t,s=>.cons r (Vals.append t s)
theorem Vals.take:∀{xs:List V} {us:List Value} (n:Nat),Vals xs us→Vals (xs.take n) (us.take n)
 | _,_,0,_=>.nil
 | _,_,_ + 1,.nil=>.nil
 | _,_,n + 1,.cons r t=>.cons r (Vals.take n t)
theorem Vals.drop:∀{xs:List V} {us:List Value} (n:Nat),Vals xs us→Vals (xs.drop n) (us.drop n)
 | _,_,0,r=>r
 | _,_,_ + 1,.nil=>.nil
 | _,_,n + 1,.cons _ t=>Vals.drop n t
def tH:Option V→Option Value→Prop
 | some v,some u=>RelV v u
 | none,none=>True
 | _,_=>False
def KV {κ:Type}:List (κ × V)→List (κ × Value)→Prop:=Paired λ(p:κ × V) (q:κ × Value)=>p.1=q.1∧RelV p.2 q.2
def kV:Key→V
 | .inl i=>.int i
 | .inr x=>.str x
inductive HO where
 | lst (xs:List V)
 | tup (xs:List V)
 | dK (kvs:List (Key × V)) | dE (kvs:List (Str × V)) (ep:Nat)
 | set (S:Int→Bool) (n:Nat)
 | ins (C dx:Addr) (fs:List (Str × V))
 | own (x:Addr)
 | xd (fs:List (Str × V))
 | met (f x:Addr)
 | NI (lo hi:Int)
 | qQ (o:Obj) (u:HO)
 | tbl (ps:Array Value)
 | ext (φ:Heap→Prop)
abbrev Hp:=Addr→Option HO
def upd (H:Hp) (a:Addr) (o:HO):Hp:=λb=>if b=a then some o else H b
theorem aE {H:Hp} {a:Addr} {o:HO}:upd H a o a=some o:=by unfold upd;rw [if_pos rfl]
theorem aO {H:Hp} {a b:Addr} {o:HO} (h:b≠a):upd H a o b=H b:=by unfold upd;rw [if_neg h]
theorem cb {H:Hp} {a b:Addr} {o:HO} (h:H a=some o) (h':H b=none):a≠b:=by
 intro e;subst e;rw [h] at h';cases h'
section
variable (P:Program) (w:World)
def c_ (H:Hp) (h:Heap) (a:Addr):HO→Prop
 | .lst xs=>xs.length≤sizeLine∧∃(its:List Value) (n:Nat),Vals xs its∧h.get? a=some { cls:=.type "list",data:=.seq its.toArray n }
 | .tup xs=>xs.length≤sizeLine∧∃its:List Value,Vals xs its∧IsTup h a its.toArray
 | .dK kvs=>kvs.length≤sizeLine∧(a == sysModules)=false∧∃vs,KV kvs vs∧h.DictOf (Iq P w) a vs
 | .dE kvs ep=>kvs.length≤sizeLine∧(a == sysModules)=false∧∃vs,KV kvs vs∧h.DictAt (strKind P w) a vs ep
 | .set S n=>h.SetOf (intKind P w) a S n
 | .ins C dx fs=>H dx=some (.own a)∧fs.length≤1000∧dx≠a∧h.get? a=some (PySem.W.instObj C dx) ∧
   ∃mA,h.Ns1 dx mA∧(∀f,tH (fs.lookup f) (mA f))∧PySem.Within mA (fs.map (·.1))
 | .own _=>∃o,h.get? a=some o
 | .xd fs=>∃mA,h.Ns1 a mA∧∀f,tH (fs.lookup f) (mA f)
 | .NI lo hi=>∃t u v,h.get? a=some { cls:=.type "range",data:=.fields #[.int lo t,.int hi u,.int 1 v] }
 | .qQ o u=>h.get? a=some o∧c_ H h a u
 | .tbl ps=>h.get? a=some { cls:=.none,data:=.fields ps }
 | .met f x=>h.get? a=some (PySem.W.methodObj (.ref f) (.ref x))
 | .ext φ=>φ h∧(∃o,h.get? a=some o)∧∀h1 h2:Heap,φ h1→(∀o,h1.get? a=some o→h2.get? a=some o)→φ h2
def mJ (H:Hp) (h:Heap):Prop:=∀a o,H a=some o→c_ P w H h a o
end
section
variable {P:Program} {w:World} {H H':Hp} {h h':Heap} {a:Addr} {o:HO}
theorem c_.lt (x:c_ P w H h a o):a < h.objs.size:=by
 cases o with
 | lst xs=>obtain ⟨_,_,_,_,e⟩:=x;exact Heap.lt_size e
 | tup xs=>obtain ⟨_,_,_,p⟩:=x;exact p.lt
 | dK kvs=>obtain ⟨_,_,_,_,o,_,_,e,_⟩:=x;exact Heap.lt_size e
 | dE kvs ep=>obtain ⟨_,_,_,_,o,_,e,_⟩:=x;exact Heap.lt_size e
 | set S n=>obtain ⟨o,_,_,_,e,_⟩:=x;exact Heap.lt_size e
 | ins C dx fs=>obtain ⟨_,_,_,e,_⟩:=x;exact Heap.lt_size e
 | own y=>obtain ⟨_,e⟩:=x;exact Heap.lt_size e
 | xd fs=>obtain ⟨_,⟨_,_,_,e,_⟩,_⟩:=x;exact Heap.lt_size e
 | NI lo hi=>obtain ⟨_,_,_,e⟩:=x;exact Heap.lt_size e
 | qQ ob u=>obtain ⟨e,_⟩:=x;exact Heap.lt_size e
 | tbl ps=>exact Heap.lt_size (show h.get? a=some _ from x)
 | met f y=>exact Heap.lt_size (show h.get? a=some _ from x)
 | ext φ=>obtain ⟨_,⟨_,e⟩,_⟩:=x;exact Heap.lt_size e
theorem c_.sv (x:c_ P w H h a o) (k:∀b u,(b=a∨H b=some (.own a))→h.get? b=some u→h'.get? b=some u)
  (ho:∀b,H b=some (.own a)→H' b=some (.own a)) (ht:∀b xs,H b=some (.tup xs)→H' b=some (.tup xs)):c_ P w H' h' a o:=by
 induction o with
 | lst xs=>obtain ⟨z,its,n,r,e⟩:=x;exact ⟨z,its,n,r,k _ _ (.inl rfl) e⟩
 | tup xs=>obtain ⟨z,its,r,ob,e,c⟩:=x;exact ⟨z,its,r,ob,k _ _ (.inl rfl) e,c⟩
 | dK kvs=>obtain ⟨z,y,vs,r,ob,es,ep,e,c⟩:=x;exact ⟨z,y,vs,r,ob,es,ep,k _ _ (.inl rfl) e,c⟩
 | dE kvs ep=>obtain ⟨z,y,vs,r,ob,es,e,c⟩:=x;exact ⟨z,y,vs,r,ob,es,k _ _ (.inl rfl) e,c⟩
 | set S n=>obtain ⟨ob,es,ep,t,e,c⟩:=x;exact ⟨ob,es,ep,t,k _ _ (.inl rfl) e,c⟩
 | ins C dx fs =>
  obtain ⟨d,z,ne,e,mA,⟨od,es,ep,e2,c⟩,r⟩:=x
  exact ⟨ho _ d,z,ne,k _ _ (.inl rfl) e,mA,⟨od,es,ep,k _ _ (.inr d) e2,c⟩,r⟩
 | own y=>obtain ⟨ob,e⟩:=x;exact ⟨ob,k _ _ (.inl rfl) e⟩
 | xd fs=>obtain ⟨mA,⟨od,es,ep,e,c⟩,r⟩:=x;exact ⟨mA,⟨od,es,ep,k _ _ (.inl rfl) e,c⟩,r⟩
 | NI lo hi=>obtain ⟨t,u,v,e⟩:=x;exact ⟨t,u,v,k _ _ (.inl rfl) e⟩
 | qQ ob u ih=>obtain ⟨e,q⟩:=x;exact ⟨k _ _ (.inl rfl) e,ih q⟩
 | tbl ps =>
  have e:h.get? a=some { cls:=.none,data:=.fields ps }:=x
  show h'.get? a=some { cls:=.none,data:=.fields ps }
  exact k a _ (.inl rfl) e
 | met f y =>
  have e:h.get? a=some (PySem.W.methodObj (.ref f) (.ref y)):=x
  show h'.get? a=some (PySem.W.methodObj (.ref f) (.ref y))
  exact k a _ (.inl rfl) e
 | ext φ=>obtain ⟨p,⟨o,e⟩,st⟩:=x;exact ⟨st _ _ p λo q=>k _ _ (.inl rfl) q,⟨o,k _ _ (.inl rfl) e⟩,st⟩
theorem mJ.lt (x:mJ P w H h) (e:H a=some o):a < h.objs.size:=(x a o e).lt
theorem mJ.fresh (x:mJ P w H h) (e:h.objs.size≤a):H a=none:=by
 cases q:H a with
 | none=>rfl
 | some u=>exact absurd (T3 (x.lt q) e) (UD _)
theorem mJ.kept (x:mJ P w H h) (k:∀b u,h.get? b=some u→h'.get? b=some u):mJ P w H h':=λa o e =>
 (x a o e).sv (λb u _ q=>k b u q) (λ_ q=>q) λ_ _ q=>q
theorem mJ.laid (x:mJ P w H h) (k:∀b u,h.get? b=some u→h'.get? b=some u) (hp:h.objs.size≤a) (new:c_ P w (upd H a o) h' a o):mJ P w (upd H a o) h':=λb u e=>by
 have hn:=x.fresh hp
 by_cases hb:b=a
 ·subst hb;rw [aE] at e;cases e;exact new
 ·rw [aO hb] at e
  exact (x b u e).sv (λc v _ q=>k c v q) (λc q=>by rw [aO (cb q hn)];exact q) λc xs q=>by rw [aO (cb q hn)];exact q
end
def Rd (H:Hp) (a:Addr) (u:HO):Prop:=H a=some u∨∃o,H a=some (.qQ o u)
theorem Rd.ok {P:Program} {w:World} {H:Hp} {h:Heap} {a:Addr} {u:HO} (r:Rd H a u) (x:mJ P w H h):c_ P w H h a u:=by
 rcases r with r | ⟨o,r⟩
 ·exact x a u r
 ·obtain ⟨_,q⟩:=x a _ r
  exact q
def Qd:Option HO→Prop
 | some (.lst _)=>True
 | some (.dK _)=>True
 | some (.dE _ _)=>True
 | some (.set _ _)=>True
 | some (.ins _ _ _)=>True
 | some (.ext _)=>True
 | _=>False
section
variable {P:Program} {w:World} {H:Hp} {h h':Heap} {x e:Addr} {o':HO}
theorem mJ.write (ok:mJ P w H h) (mu:Qd (H x)) (he:e=x∨H e=some (.own x)) (k:∀b u,b≠e→h.get? b=some u→h'.get? b=some u) (heo:∃u,h'.get? e=some u)
  (new:c_ P w (upd H x o') h' x o'):mJ P w (upd H x o') h':=λb u q=>by
 have nown:∀c y,H c=some (.own y)→c≠x:=λc y r z=>by subst z;rw [r] at mu;exact mu
 have ntup:∀c xs,H c=some (.tup xs)→c≠x:=λc xs r z=>by subst z;rw [r] at mu;exact mu
 by_cases hb:b=x
 ·subst hb;rw [aE] at q;cases q;exact new
 ·rw [aO hb] at q
  by_cases hbe:b=e
  ·have q':H b=some (.own x):=by
    rcases he with z | z
    ·exact absurd (hbe.trans z) hb
    ·rw [hbe];exact z
   rw [q] at q';cases q'
   obtain ⟨v,hv⟩:=heo
   exact ⟨v,by rw [hbe];exact hv⟩
  ·refine (ok b u q).sv (λc v hc r=>k c v ?_ r) (λc r=>by rw [aO (nown c b r)];exact r) λc xs r=>by rw [aO (ntup c xs r)];exact r
   rcases hc with rfl | hc
   ·exact hbe
   ·rintro rfl
    rcases he with z | z
    ·exact nown c b hc z
    ·rw [hc] at z;cases z;exact hb rfl
end
structure Un (fs ex:List Addr) (H H':Hp) (h h':Heap):Prop where
 keep:∀b o,h.get? b=some o→H b=none→b ∉ fs→b ∉ ex→h'.get? b=some o
 slot:∀b o,h.get? b=some o→H b=none→b∈fs→b ∉ ex→∃sl,h'.get? b=some { o with slots:=sl }
 free:∀b o,h.get? b=some o→H b=none→b ∉ ex→H' b=none
 there:∀b o,h.get? b=some o→b ∉ ex→∃o',h'.get? b=some o'
 tups:∀b xs,H b=some (.tup xs)→H' b=some (.tup xs)
 frzs:∀b o u,H b=some (.qQ o u)→H' b=some (.qQ o u)
 tbls:∀b ps,H b=some (.tbl ps)→∃more,H' b=some (.tbl (ps ++ more))
section
variable {fs fs' ex ex':List Addr} {H H1 H2:Hp} {h h1 h2 h':Heap} {a x e:Addr} {o:HO}
theorem Un.any (u:Un fs ex H H1 h h1) {b:Addr} {ob:Obj} (q:h.get? b=some ob) (n:H b=none) (hx:b ∉ ex):∃sl,h1.get? b=some { ob with slots:=sl }:=by
 by_cases hb:b∈fs
 ·exact u.slot b ob q n hb hx
 ·exact ⟨ob.slots,u.keep b ob q n hb hx⟩
theorem Un.kept (k:∀b u,h.get? b=some u→h'.get? b=some u):Un fs ex H H h h' :=
 ⟨λb ob q _ _ _=>k b ob q,λb ob q _ _ _=>⟨ob.slots,k b ob q⟩,λ_ _ _ n _=>n,λb ob q _=>⟨ob,k b ob q⟩,λ_ _ q=>q,λ_ _ _ q=>q,λ_ ps q=>⟨#[],by rw [q];simp⟩⟩
theorem Un.refl:Un fs ex H H h h:=Un.kept λ_ _ q=>q
theorem Un.laid (k:∀b u,h.get? b=some u→h'.get? b=some u) (hp:h.objs.size≤a) (hn:H a=none):Un fs ex H (upd H a o) h h' where
 keep:=λb u q _ _ _=>k b u q
 slot:=λb u q _ _ _=>⟨u.slots,k b u q⟩
 free:=λb u q n _=>by rw [aO (T6 (T3 (Heap.lt_size q) hp))];exact n
 there:=λb u q _=>⟨u,k b u q⟩
 tups:=λb xs q=>by rw [aO (cb q hn)];exact q
 frzs:=λb u xs q=>by rw [aO (cb q hn)];exact q
 tbls:=λb ps q=>⟨#[],by rw [aO (cb q hn),q];simp⟩
theorem Un.write (mu:Qd (H x)) (he:e=x∨H e=some (.own x)) (k:∀b u,b≠e→h.get? b=some u→h'.get? b=some u) (heo:∃u,h'.get? e=some u):Un fs ex H (upd H x o) h h':=by
 have hx:∀b,H b=none→b≠x:=λb n z=>by subst z;rw [n] at mu;exact mu
 have hb:∀b,H b=none→b≠e:=λb n z=>by
  subst z
  rcases he with r | r
  ·exact hx b n r
  ·rw [n] at r;cases r
 have hm:∀b u,H b=some u→¬ Qd (some u)→b≠x:=λb u q nm z=>by subst z;rw [q] at mu;exact nm mu
 refine ⟨λb u q n _ _=>k b u (hb b n) q,λb u q n _ _=>⟨u.slots,k b u (hb b n) q⟩,λb u q n _=>by rw [aO (hx b n)];exact n,λb u q _=>?_,
  λb xs q=>by rw [aO (hm b _ q λz=>z)];exact q,λb u xs q=>by rw [aO (hm b _ q λz=>z)];exact q,λb ps q=>⟨#[],by rw [aO (hm b _ q λz=>z),q];simp⟩⟩
 by_cases hbe:b=e
 ·subst hbe;exact heo
 ·exact ⟨u,k b u hbe q⟩
end
def Qu (h:Heap) (H:Hp):List Addr:=(UR h.objs.size).filter λa=>(H a).isSome
def tK (h:Heap) (H:Hp):Heap:=PySem.W.hideAll h (Qu h H)
theorem Dl (h:Heap) (H:Hp):(tK h H).objs.size=h.objs.size:=PySem.W.hideAll_size _ _
theorem Fc {h:Heap} {H:Hp} {b:Addr} {o:Obj} (e:h.get? b=some o) (n:H b=none):(tK h H).get? b=some o :=
 PySem.W.hideAll_get _ e λhm=>by
  have q:(H b).isSome=true:=(TU.mp hm).2
  rw [n] at q;simp at q
theorem ID {h:Heap} {H:Hp} {b:Addr} {o:Obj} (e:(tK h H).get? b=some o):h.get? b=some o∧H b=none:=by
 have e':h.get? b=some o:=PySem.W.of_hideAll (Qu h H) e
 refine ⟨e',?_⟩
 cases q:H b with
 | none=>rfl
 | some x =>
  have hm:b∈Qu h H:=TU.mpr ⟨Ve.mpr (Heap.lt_size e'),by simp [q]⟩
  have z:(tK h H).get? b=none:=PySem.W.hideAll_none (Qu h H) hm
  rw [z] at e;cases e
def HH (g h:Heap) (L:Addr):List (Addr × Obj):=(UR h.objs.size).filterMap λa=>if a=L∨(g.get? a).isSome=true then none else (h.get? a).map λo=>(a,o)
def rest (g h:Heap) (L d:Addr):List (Addr × Obj):=(HH g h L).filter λp=>decide (p.1≠d)
end L2
namespace L2
open PySem PySem.Spec PyProof.Rows
structure Mod (K:PySem.W.Frag) (mg:Str→Option Value) (base:Heap):Prop where
 kin:K.In base
 glob:base.Ns mainGlobals mg
 blt:∃mb,base.Ns builtinsNs mb∧∀x:Str,x≠"__name__"→mb x=bootBuiltins x
 nolimit:base.NoLimit
structure Cx where
 prog:Program
 w:World
 K:PySem.W.Frag
 mg:Str→Option Value
 base:Heap
 A:Around
 N:List Str
 s₀:Shared
 H₀:Hp
 env:Env
 outer:List Env
 stack:List Env
 ex:List Addr
 fn:Str→Bool
 calm:Bool
 pn:List (Addr × Obj)
 xe:Value→Shared→Prop
def jQ (l:List Env):List Addr:=l.filterMap (·.frame)
abbrev Cx.fs (X:Cx):List Addr:=jQ X.outer
def xD (sc:Scope) (x:Str):Prop:=sc.names.lookup x=some .local∨sc.names.lookup x=some .cell∨sc.names.lookup x=some .free
def Loc (sc:Scope) (x:Str):Prop:=sc.names.lookup x=some .local∨sc.names.lookup x=some .cell
def Look (env:Env) (h:Heap) (m:Str→Option Value) (x:Str) (u:Value):Prop :=
 (env.kindOf x=some .local∧m x=some u)∨((env.kindOf x=some .cell∨env.kindOf x=some .free)∧∃c,env.cells.lookup x=some c∧h.IsCell c (some u))
structure Cx.Ok (X:Cx):Prop where
 mod:Mod X.K X.mg X.base
 kind:X.env.scope.kind=.function
 glob:X.env.globals=mainGlobals
 blt:X.env.builtins=builtinsNs
 above:X.s₀.heap.objs.size≤X.env.locals
 inj:∀x y c,X.env.cells.lookup x=some c→X.env.cells.lookup y=some c→x=y
 has:∀x,(X.env.kindOf x=some .cell∨X.env.kindOf x=some .free)→∃c,X.env.cells.lookup x=some c
 cab:∀x c,X.fn x=true→X.env.cells.lookup x=some c→X.s₀.heap.objs.size≤c
 hd:X.calm=true→X.A.handled=none
 frames:X.A.frames=some X.stack
 stk:X.stack=X.outer∨(X.stack=X.env :: X.outer∧X.env.frame=some X.env.locals)
 exf:∀b∈X.ex,b≠X.env.locals∧∀x c,X.env.cells.lookup x=some c→c≠b
 bs:∀b o,X.base.get? b=some o→X.s₀.heap.get? b=some o∧X.H₀ b=none
 bsz:X.base.objs.size≤X.s₀.heap.objs.size
 noex:∀b o,X.base.get? b=some o→b ∉ X.ex
 exfs:∀b∈X.ex,b ∉ X.fs
 ou:X.s₀.heap.FunFrames X.base X.outer
 frf:∀b∈X.fs,X.H₀ b=none
structure Inv (X:Cx) (pins:List (Addr × Obj)) (σ:List (Option V)) (H:Hp) (s:Shared):Prop where
 ok:X.Ok
 os:s.os=X.s₀.os
 bare:AllBare s.gens
 base:Un X.fs X.ex X.H₀ H X.s₀.heap s.heap
 loc:∃m,s.heap.Ns X.env.locals m∧∀(i:Nat) (x:Str) (v:V),X.N[i]?=some x→σ[i]?=some (some v)→xD X.env.scope x→∃u,RelV v u∧Look X.env s.heap m x u
 cell:∀x c,X.env.cells.lookup x=some c→∃v,s.heap.IsCell c v
 free:H X.env.locals=none
 freeC:∀x c,X.env.cells.lookup x=some c→H c=none
 pin:∀p∈X.pn ++ pins,s.heap.get? p.1=some p.2∧H p.1=none∧p.1≠X.env.locals∧p.1 ∉ X.fs∧∀v,p.2.data≠.cell v
 hok:mJ X.prog X.w H s.heap
 len:σ.length=X.N.length
section
variable {X:Cx} {pins:List (Addr × Obj)} {σ:List (Option V)} {H H':Hp} {s:Shared} {h':Heap}
theorem Cx.Ok.Rt (ok:X.Ok) {b:Addr} {o:Obj} (e:X.base.get? b=some o):b ∉ X.fs:=λhb=>by
 have:=(ok.ou.mem hb).1
 rw [e] at this;cases this
theorem Inv.bs (I:Inv X pins σ H s):∀b o,X.base.get? b=some o→s.heap.get? b=some o∧H b=none:=λb o e =>
 ⟨I.base.keep b o (I.ok.bs b o e).1 (I.ok.bs b o e).2 (I.ok.Rt e) (I.ok.noex b o e),I.base.free b o (I.ok.bs b o e).1 (I.ok.bs b o e).2 (I.ok.noex b o e)⟩
theorem Inv.bk (I:Inv X pins σ H s):∀b o,X.base.get? b=some o→s.heap.get? b=some o:=λb o e=>(I.bs b o e).1
theorem Inv.mod (I:Inv X pins σ H s):Mod X.K X.mg X.base:=I.ok.mod
theorem Inv.m7 (I:Inv X pins σ H s):X.K.In s.heap:=I.ok.mod.kin.keeps I.bk
theorem Inv.nolimit (I:Inv X pins σ H s):s.heap.NoLimit:=I.ok.mod.nolimit.keeps I.bk
theorem Inv.fr (I:Inv X pins σ H s):∃m,Fr X.base X.env.locals s.heap m :=
 let ⟨m,hn,_⟩:=I.loc
 ⟨m,hn,I.bk,T4 I.ok.bsz I.ok.above⟩
theorem Inv.lt (I:Inv X pins σ H s):X.env.locals < s.heap.objs.size:=let ⟨_,hn,_⟩:=I.loc;hn.lt
theorem Inv.sz (I:Inv X pins σ H s):X.s₀.heap.objs.size≤s.heap.objs.size:=T4 I.ok.above (Vp I.lt)
theorem Inv.Ru (I:Inv X pins σ H s) {a:Addr} (h:s.heap.objs.size≤a):a ∉ X.fs:=λhb=>by
 obtain ⟨_,o,ho,_⟩:=I.ok.ou.mem hb
 exact absurd (T3 (Heap.lt_size ho) (T4 I.sz h)) (UD _)
theorem Inv.Lx (I:Inv X pins σ H s):∀x c,X.env.cells.lookup x=some c→c≠X.env.locals:=λx c e z=>by
 obtain ⟨v,o,ho,hd⟩:=I.cell x c e
 obtain ⟨m,⟨o',es,ep,ho',hd',_⟩,_⟩:=I.loc
 rw [z,ho'] at ho;cases ho;rw [hd'] at hd;cases hd
theorem Inv.ou (I:Inv X pins σ H s):s.heap.FunFrames X.base X.outer:=by
 have all:∀(l:List Env),(∀b∈jQ l,b∈X.fs)→X.s₀.heap.FunFrames X.base l→s.heap.FunFrames X.base l:=by
  intro l
  induction l with
  | nil=>intro _ _;trivial
  | cons env r ih =>
   intro hs hl
   obtain ⟨hk,⟨L,o,hf,hn,ho,hd⟩,hr⟩:=hl
   have hL:L∈X.fs:=hs L (by unfold jQ;rw [U0,hf];exact Ui)
   obtain ⟨sl,e⟩:=I.base.slot L o ho (I.ok.frf L hL) hL λz=>I.ok.exfs L z hL
   exact ⟨hk,⟨L,_,hf,hn,e,hd⟩,ih (λb hb=>hs b (by unfold jQ;rw [U0,hf];exact T9 _ hb)) hr⟩
 exact all X.outer (λ_ hb=>hb) I.ok.ou
theorem Inv.stack (I:Inv X pins σ H s):s.heap.FunFrames X.base X.stack:=by
 rcases I.ok.stk with e | ⟨e,hf⟩
 ·rw [e];exact I.ou
 ·rw [e]
  obtain ⟨m,hn,_⟩:=I.loc
  refine .cons (by rw [I.ok.kind];decide) hf hn ?_ I.ou
  exact Heap.get?_none_of_le (T4 I.ok.bsz I.ok.above)
theorem Inv.o7 (I:Inv X pins σ H s):∀b∈jQ X.stack,b∈X.env.locals :: X.fs:=λb hb=>by
 rcases I.ok.stk with e | ⟨e,hf⟩
 ·rw [e] at hb;exact T9 _ hb
 ·rw [e] at hb
  unfold jQ at hb
  rw [U0,hf] at hb
  exact hb
theorem Inv.xq (I:Inv X pins σ H s):∀b∈jQ X.stack,H b=none:=λb hb=>by
 rcases TX.mp (I.o7 b hb) with e | hb
 ·rw [e];exact I.free
 ·obtain ⟨_,o,ho,_⟩:=I.ok.ou.mem hb
  exact I.base.free b o ho (I.ok.frf b hb) λz=>I.ok.exfs b z hb
theorem Inv.step {g':Array GenState} {t':Nat} {d':Drawn} {ch:List Addr} (I:Inv X pins σ H s)
  (hch:∀b∈ch,(b∈X.ex∨X.s₀.heap.objs.size≤b)∧b≠X.env.locals∧(∀x c,X.env.cells.lookup x=some c→c≠b)∧∀p∈X.pn ++ pins,p.1≠b)
  (keep:∀b o,b≠X.env.locals→b ∉ X.fs→b ∉ ch→s.heap.get? b=some o→H b=none→h'.get? b=some o)
  (slot:∀b o,b≠X.env.locals→b∈X.fs→b ∉ ch→s.heap.get? b=some o→H b=none→∃sl,h'.get? b=some { o with slots:=sl }) (free:∀b o,b ∉ ch→s.heap.get? b=some o→H b=none→H' b=none)
  (there:∀b o,b ∉ ch→s.heap.get? b=some o→∃o',h'.get? b=some o')
  (tups:∀b xs,H b=some (.tup xs)→H' b=some (.tup xs)) (frzs:∀b o u,H b=some (.qQ o u)→H' b=some (.qQ o u)) (tbls:∀b ps,H b=some (.tbl ps)→∃more,H' b=some (.tbl (ps ++ more)))
  (ns:∀m,s.heap.Ns X.env.locals m→h'.Ns X.env.locals m) (hok:mJ X.prog X.w H' h') (hg:AllBare g') :
  Inv X pins σ H' { s with heap:=h',gens:=g',drawn:=d',toks:=t' }:=by
 have neL:∀b o,X.s₀.heap.get? b=some o→b≠X.env.locals:=λb o e=>T6 (T3 (Heap.lt_size e) I.ok.above)
 have neC:∀b o,X.s₀.heap.get? b=some o→b ∉ X.ex→b ∉ ch:=λb o e hx hb=>by
  rcases (hch b hb).1 with z | z
  ·exact hx z
  ·exact absurd (T3 (Heap.lt_size e) z) (UD _)
 have cellK:∀x c,X.env.cells.lookup x=some c→∀v,s.heap.IsCell c v→h'.IsCell c v:=λx c e v ⟨o,ho,hd⟩=>by
  have nch:c ∉ ch:=λz=>(hch c z).2.2.1 x c e rfl
  by_cases hc:c∈X.fs
  ·obtain ⟨sl,q⟩:=slot c o (I.Lx x c e) hc nch ho (I.freeC x c e)
   exact ⟨_,q,hd⟩
  ·exact ⟨o,keep c o (I.Lx x c e) hc nch ho (I.freeC x c e),hd⟩
 refine ⟨I.ok,I.os,hg,⟨λb o e n hb hx=>?_,λb o e n hb hx=>?_,λb o e n hx=>?_,λb o e hx=>?_,λb xs e=>tups b xs (I.base.tups b xs e),λb o xs e=>frzs b o xs (I.base.frzs b o xs e),λb ps e=>?_⟩,?_,λx c e=>?_,?_,λx c e=>?_,λp hp=>?_,hok,I.len⟩
 ·exact keep b o (neL b o e) hb (neC b o e hx) (I.base.keep b o e n hb hx) (I.base.free b o e n hx)
 ·obtain ⟨sl,e1⟩:=I.base.slot b o e n hb hx
  obtain ⟨sl',e2⟩:=slot b _ (neL b o e) hb (neC b o e hx) e1 (I.base.free b o e n hx)
  exact ⟨sl',e2⟩
 ·obtain ⟨o',e1⟩:=I.base.there b o e hx
  exact free b o' (neC b o e hx) e1 (I.base.free b o e n hx)
 ·obtain ⟨o',e1⟩:=I.base.there b o e hx
  exact there b o' (neC b o e hx) e1
 ·obtain ⟨m1,e1⟩:=I.base.tbls b ps e
  obtain ⟨m2,e2⟩:=tbls b _ e1
  exact ⟨m1 ++ m2,by rw [e2,Array.append_assoc]⟩
 ·obtain ⟨m,hn,hl⟩:=I.loc
  refine ⟨m,ns m hn,λi x v e1 e2 e3=>?_⟩
  obtain ⟨u,r,l⟩:=hl i x v e1 e2 e3
  refine ⟨u,r,?_⟩
  rcases l with l | ⟨k,c,e,z⟩
  ·exact .inl l
  ·exact .inr ⟨k,c,e,cellK x c e _ z⟩
 ·obtain ⟨v,z⟩:=I.cell x c e
  exact ⟨v,cellK x c e v z⟩
 ·obtain ⟨m,⟨o,_,_,ho,_⟩,_⟩:=I.loc
  exact free _ o (λz=>(hch _ z).2.1 rfl) ho I.free
 ·obtain ⟨v,o,ho,hd⟩:=I.cell x c e
  exact free c o (λz=>(hch c z).2.2.1 x c e rfl) ho (I.freeC x c e)
 ·obtain ⟨e,n,ne,nf,d⟩:=I.pin p hp
  have nch:p.1 ∉ ch:=λz=>(hch p.1 z).2.2.2 p hp rfl
  exact ⟨keep p.1 p.2 ne nf nch e n,free p.1 p.2 nch e n,ne,nf,d⟩
theorem Inv.un {t':Nat} (I:Inv X pins σ H s) (u:Un X.fs [] H H' s.heap h') (hok:mJ X.prog X.w H' h'):Inv X pins σ H' { s with heap:=h',toks:=t' }:=by
 obtain ⟨m,⟨o,es,ep,ho,r⟩,_⟩:=id I.loc
 obtain ⟨sl,hL⟩:=u.any ho I.free (by simp)
 exact I.step (g':=s.gens) (d':=s.drawn) (ch:=[]) (λ_ z=>nomatch z) (λb o _ hb _ e n=>u.keep b o e n hb (by simp)) (λb o _ hb _ e n=>u.slot b o e n hb (by simp)) (λb o _ e n=>u.free b o e n (by simp)) (λb o _ e=>u.there b o e (by simp)) u.tups u.frzs u.tbls (λm' hm=>by
  obtain ⟨o',es',ep',ho',r'⟩:=hm
  rw [ho] at ho';cases ho'
  exact ⟨_,es',ep',hL,r'⟩) hok I.bare
theorem Inv.call {g':Array GenState} {t':Nat} {d':Drawn} {ch:List Addr} (I:Inv X pins σ H s) (u:Un (jQ X.stack) ch H H' s.heap h') (hok:mJ X.prog X.w H' h') (hg:AllBare g')
  (hch:∀b∈ch,(b∈X.ex∨X.s₀.heap.objs.size≤b)∧b≠X.env.locals∧(∀x c,X.env.cells.lookup x=some c→c≠b)∧∀p∈X.pn ++ pins,p.1≠b) :
  Inv X pins σ H' { s with heap:=h',gens:=g',drawn:=d',toks:=t' }:=by
 obtain ⟨m,⟨o,es,ep,ho,r⟩,_⟩:=id I.loc
 obtain ⟨sl,hL⟩:=u.any ho I.free λz=>(hch _ z).2.1 rfl
 exact I.step (ch:=ch) hch (λb o hL hb hc e n=>u.keep b o e n (λz=>(TX.mp (I.o7 b z)).elim hL hb) hc) (λb o _ _ hc e n=>u.any e n hc) (λb o hc e n=>u.free b o e n hc) (λb o hc e=>u.there b o e hc) u.tups u.frzs u.tbls (λm' hm=>by
  obtain ⟨o',es',ep',ho',r'⟩:=hm
  rw [ho] at ho';cases ho'
  exact ⟨_,es',ep',hL,r'⟩) hok hg
theorem Inv.turned {t':Nat} {it:Addr} (I:Inv X pins σ H s) (k:∀b o,b≠it→s.heap.get? b=some o→h'.get? b=some o) (hn:H it=none) (hL:it≠X.env.locals)
  (h1:it∈X.ex∨X.s₀.heap.objs.size≤it) (h2:∀x c,X.env.cells.lookup x=some c→c≠it) (h3:∀p∈X.pn ++ pins,p.1≠it):Inv X pins σ H { s with heap:=h',toks:=t' }:=by
 have nit:∀b u,H b=some u→b≠it:=λb u e z=>by rw [z,hn] at e;cases e
 refine I.step (g':=s.gens) (d':=s.drawn) (ch:=[it]) (λb hb=>?_) (λb o _ _ hc e _=>k b o (λz=>hc (by simp [z])) e) (λb o _ _ hc e _=>⟨o.slots,k b o (λz=>hc (by simp [z])) e⟩) (λ_ _ _ _ n=>n)
  (λb o hc e=>⟨o,k b o (λz=>hc (by simp [z])) e⟩) (λ_ _ e=>e) (λ_ _ _ e=>e) (λb ps e=>⟨#[],by rw [e];simp⟩) (λm hm=>?_) (λb u e=>?_) I.bare
 ·have e:b=it:=by simpa using hb
  subst e
  exact ⟨h1,hL,h2,h3⟩
 ·obtain ⟨o,es,ep,ho,r⟩:=hm
  exact ⟨o,es,ep,k _ o (Ne.symm hL) ho,r⟩
 ·refine (I.hok b u e).sv (λc v hc q=>k c v ?_ q) (λ_ q=>q) λ_ _ q=>q
  rcases hc with z | z
  ·rw [z];exact nit b u e
  ·exact nit c _ z
theorem Inv.tok (I:Inv X pins σ H s) (t:Nat):Inv X pins σ H { s with toks:=t }:=I.un (h':=s.heap) (t':=t) Un.refl I.hok
theorem Inv.kept {t':Nat} (I:Inv X pins σ H s) (k:∀b u,s.heap.get? b=some u→h'.get? b=some u):Inv X pins σ H { s with heap:=h',toks:=t' }:=I.un (Un.kept k) (I.hok.kept k)
theorem Inv.laid {a:Addr} {o:HO} {t':Nat} (I:Inv X pins σ H s) (k:∀b u,s.heap.get? b=some u→h'.get? b=some u) (hp:s.heap.objs.size≤a) (new:c_ X.prog X.w (upd H a o) h' a o) :
  Inv X pins σ (upd H a o) { s with heap:=h',toks:=t' }:=I.un (Un.laid k hp (I.hok.fresh hp)) (I.hok.laid k hp new)
theorem Inv.write {x e:Addr} {o:HO} {t':Nat} (I:Inv X pins σ H s) (mu:Qd (H x)) (he:e=x∨H e=some (.own x)) (k:∀b u,b≠e→s.heap.get? b=some u→h'.get? b=some u) (heo:∃u,h'.get? e=some u)
  (new:c_ X.prog X.w (upd H x o) h' x o):Inv X pins σ (upd H x o) { s with heap:=h',toks:=t' }:=I.un (Un.write mu he k heo) (I.hok.write mu he k heo new)
theorem Inv.B8 {pins':List (Addr × Obj)} (I:Inv X pins σ H s) (h:∀p∈pins',s.heap.get? p.1=some p.2∧H p.1=none∧p.1≠X.env.locals∧p.1 ∉ X.fs∧∀v,p.2.data≠.cell v):Inv X pins' σ H s :=
 ⟨I.ok,I.os,I.bare,I.base,I.loc,I.cell,I.free,I.freeC,λp hp=>(TQ.mp hp).elim (λz=>I.pin p (UY _ z)) (h p),I.hok,I.len⟩
theorem yu {N:List Str} (hN:N.Nodup) {i j:Nat} {x:Str} (a:N[i]?=some x) (b:N[j]?=some x):i=j:=by
 obtain ⟨h1,e1⟩:=TC.mp a
 obtain ⟨h2,e2⟩:=TC.mp b
 exact (UO hN).mp (e1.trans e2.symm)
theorem uY {M:Model} {A:Around} {E:Value→Shared→Prop} {i:Nat} {x:Str} {v:V} {u:Value} {Q:Unit→Shared→Prop} (I:Inv X pins σ H s) (hN:X.N.Nodup) (hi:X.N[i]?=some x) (hx:Loc X.env.scope x) (r:RelV v u)
  (h:∀s',Inv X pins (σ.set i (some v)) H s'→(∃a,Heap.SameBut a s.heap s'.heap∧(a=X.env.locals∨X.env.cells.lookup x=some a))→Q () s') (hf:X.fn x=true∨X.env.scope.names.lookup x=some .local:=by first | exact .inl rfl | exact .inr rfl | assumption):wpAny M A (storeName X.env x u) Q E s:=by
 obtain ⟨m,hn,hl⟩:=id I.loc
 have hcls:(X.env.scope.kind == .class || (X.env.scope.kind == .module && X.env.locals != X.env.globals))=false:=by rw [I.ok.kind];rfl
 have hiσ:i < σ.length:=by rw [I.len];exact (TC.mp hi).1
 have Lx:=I.Lx
 have tracked:∀{a:Addr} {h':Heap},(∃o,s.heap.get? a=some o∧H a=none)→Heap.SameBut a s.heap h'→mJ X.prog X.w H h':=λ{a h'} ha hs b ob e=>by
  obtain ⟨_,_,hfree⟩:=ha
  refine (I.hok b ob e).sv (λc w' hc q=>(hs.2 c ?_).trans q) (λ_ q=>q) λ_ _ q=>q
  rintro rfl
  rcases hc with rfl | hc
  ·rw [hfree] at e;cases e
  ·rw [hfree] at hc;cases hc
 rcases hx with hk | hk
 ·refine wpAny_storeName_local hk hn (λh' hn' hs=>?_) hcls
  obtain ⟨oL,_,_,hoL,_⟩:=id hn
  refine h _ ⟨I.ok,I.os,I.bare,⟨λb o e n hb hx=>?_,λb o e n hb hx=>?_,I.base.free,λb o e hx=>?_,I.base.tups,I.base.frzs,I.base.tbls⟩,⟨_,hn',λj y v' e1 e2 e3=>?_⟩,λy c e=>?_,I.free,I.freeC,λp hp=>?_,tracked ⟨oL,hoL,I.free⟩ hs,by simpa using I.len⟩ ⟨_,hs,.inl rfl⟩
  ·exact (hs.2 b (T6 (T3 (Heap.lt_size e) I.ok.above))).trans (I.base.keep b o e n hb hx)
  ·obtain ⟨sl,e1⟩:=I.base.slot b o e n hb hx
   exact ⟨sl,(hs.2 b (T6 (T3 (Heap.lt_size e) I.ok.above))).trans e1⟩
  ·obtain ⟨o',e1⟩:=I.base.there b o e hx
   exact ⟨o',(hs.2 b (T6 (T3 (Heap.lt_size e) I.ok.above))).trans e1⟩
  ·by_cases hj:j=i
   ·subst hj
    rw [hi] at e1;cases e1
    rw [Ur hiσ] at e2
    cases e2
    exact ⟨u,r,.inl ⟨hk,by simp⟩⟩
   ·rw [UJ (Ne.symm hj)] at e2
    obtain ⟨u',r',q⟩:=hl j y v' e1 e2 e3
    refine ⟨u',r',?_⟩
    rcases q with ⟨k,e⟩ | ⟨k,c,e,z⟩
    ·refine .inl ⟨k,?_⟩
     have:y≠x:=λe=>hj (yu hN e1 (e ▸ hi))
     simp [this,e]
    ·exact .inr ⟨k,c,e,z.sameBut hs (Lx y c e)⟩
  ·obtain ⟨w',z⟩:=I.cell y c e
   exact ⟨w',z.sameBut hs (Lx y c e)⟩
  ·obtain ⟨e,n,ne,nf,d⟩:=I.pin p hp
   exact ⟨(hs.2 p.1 ne).trans e,n,ne,nf,d⟩
 ·have hfn:X.fn x=true:=by
   rcases hf with z | z
   ·exact z
   ·rw [z] at hk;cases hk
  obtain ⟨c,hc⟩:=I.ok.has x (.inl hk)
  obtain ⟨w',z⟩:=I.cell x c hc
  refine wpAny_storeName_cell I.ok.kind hk hc z (λh' hc' hs=>?_)
  obtain ⟨oc,hoc,hocd⟩:=id z
  refine h { s with heap:=h' } ⟨I.ok,I.os,I.bare,⟨λb o e n hb hx=>?_,λb o e n hb hx=>?_,I.base.free,λb o e hx=>?_,I.base.tups,I.base.frzs,I.base.tbls⟩,⟨m,hn.sameBut hs (Ne.symm (Lx x c hc)),λj y v' e1 e2 e3=>?_⟩,λy c' e=>?_,I.free,I.freeC,λp hp=>?_,tracked ⟨oc,hoc,I.freeC x c hc⟩ hs,by simpa using I.len⟩ ⟨c,hs,.inr hc⟩
  ·exact (hs.2 b (T6 (T3 (Heap.lt_size e) (I.ok.cab x c hfn hc)))).trans (I.base.keep b o e n hb hx)
  ·obtain ⟨sl,e1⟩:=I.base.slot b o e n hb hx
   exact ⟨sl,(hs.2 b (T6 (T3 (Heap.lt_size e) (I.ok.cab x c hfn hc)))).trans e1⟩
  ·obtain ⟨o',e1⟩:=I.base.there b o e hx
   exact ⟨o',(hs.2 b (T6 (T3 (Heap.lt_size e) (I.ok.cab x c hfn hc)))).trans e1⟩
  ·by_cases hj:j=i
   ·subst hj
    rw [hi] at e1;cases e1
    rw [Ur hiσ] at e2
    cases e2
    exact ⟨u,r,.inr ⟨.inl hk,c,hc,hc'⟩⟩
   ·rw [UJ (Ne.symm hj)] at e2
    obtain ⟨u',r',q⟩:=hl j y v' e1 e2 e3
    refine ⟨u',r',?_⟩
    rcases q with q | ⟨k,c',e,z'⟩
    ·exact .inl q
    ·refine .inr ⟨k,c',e,z'.sameBut hs ?_⟩
     rintro rfl
     exact hj (yu hN e1 (I.ok.inj _ _ _ e hc ▸ hi))
  ·by_cases hcc:c'=c
   ·subst hcc;exact ⟨_,hc'⟩
   ·obtain ⟨w2,z2⟩:=I.cell y c' e
    exact ⟨w2,z2.sameBut hs hcc⟩
  ·obtain ⟨e,n,ne,nf,d⟩:=I.pin p hp
   refine ⟨(hs.2 p.1 ?_).trans e,n,ne,nf,d⟩
   intro q
   rw [q,hoc] at e
   have q':oc=p.2:=Option.some.inj e
   exact d w' (by rw [← q'];exact hocd)
theorem gH {M:Model} {A:Around} {E:Value→Shared→Prop} {i:Nat} {x:Str} {v:V} {u:Value} {Q:Unit→Shared→Prop} (I:Inv X pins σ H s) (hN:X.N.Nodup) (hi:X.N[i]?=some x) (hx:Loc X.env.scope x) (r:RelV v u)
  (h:∀s',Inv X pins (σ.set i (some v)) H s'→Q () s') (hf:X.fn x=true∨X.env.scope.names.lookup x=some .local:=by first | exact .inl rfl | exact .inr rfl | assumption):wpAny M A (storeName X.env x u) Q E s :=
 uY I hN hi hx r (λs' I' _=>h s' I') hf
theorem Inv.N0 {s':Shared} {ch:List Addr} (I:Inv X pins σ H s) (ho:s'.os=s.os) (u:Un (jQ X.stack) ch H H' s.heap s'.heap) (hok:mJ X.prog X.w H' s'.heap) (hg:AllBare s'.gens)
  (hch:∀b∈ch,(b∈X.ex∨X.s₀.heap.objs.size≤b)∧b≠X.env.locals∧(∀x c,X.env.cells.lookup x=some c→c≠b)∧∀p∈X.pn ++ pins,p.1≠b):Inv X pins σ H' s':=by
 obtain ⟨h',g',d',t',o'⟩:=s'
 have e:o'=s.os:=ho
 subst e
 exact I.call (g':=g') (t':=t') (d':=d') u hok hg hch
end
abbrev XK:=Value→Option Addr→Hp→Prop
abbrev St:=List (Option V)
abbrev VK:=V→Hp→Prop
abbrev TE:=St→Hp→VK→Prop
abbrev TT:=St→Hp→(Bool→Hp→Prop)→Prop
abbrev TA:=St→Hp→(List V→Hp→Prop)→Prop
structure Ends where
 nx:St→Hp→Prop
 rt:VK
 bk:St→Hp→Prop:=λ_ _=>False
 ct:St→Hp→Prop:=λ_ _=>False
abbrev TS:=Ends→St→Hp→Prop
def EP (X:Cx) (pins:List (Addr × Obj)) (σ:St) (Q:VK) (u:Value) (s':Shared):Prop:=∃v H',Inv X pins σ H' s'∧RelV v u∧Q v H'
def TP (X:Cx) (pins:List (Addr × Obj)) (σ:St) (Q:Bool→Hp→Prop) (b:Bool) (s':Shared):Prop:=∃H',Inv X pins σ H' s'∧Q b H'
def AP (X:Cx) (pins:List (Addr × Obj)) (σ:St) (Q:List V→Hp→Prop) (us:List Value) (s':Shared):Prop:=∃vs H',Inv X pins σ H' s'∧Vals vs us∧Q vs H'
def SP (X:Cx) (pins:List (Addr × Obj)) (D:Ends) (f:Flow) (s':Shared):Prop :=
 match f with
 | .next=>∃σ' H',Inv X pins σ' H' s'∧D.nx σ' H'
 | .brk=>∃σ' H',Inv X pins σ' H' s'∧D.bk σ' H'
 | .cont=>∃σ' H',Inv X pins σ' H' s'∧D.ct σ' H'
 | .ret u=>∃v σ' H',Inv X pins σ' H' s'∧RelV v u∧D.rt v H'
def PE (X:Cx) (e:Expr) (t:TE):Prop :=
 ∀(pins:List (Addr × Obj)) (s:Shared) (σ:St) (H:Hp) (Q:VK),Inv X pins σ H s→t σ H Q→wpAny (model X.prog X.w) X.A (eval e X.env) (EP X pins σ Q) X.xe s
def PT (X:Cx) (e:Expr) (t:TT):Prop :=
 ∀(pins:List (Addr × Obj)) (s:Shared) (σ:St) (H:Hp) (Q:Bool→Hp→Prop),Inv X pins σ H s→t σ H Q→wpAny (model X.prog X.w) X.A (isTrue e X.env (eval e X.env)) (TP X pins σ Q) X.xe s
def PW (X:Cx) (e:Expr) (t:TT):Prop :=
 ∀(whole:Sem Value) (pins:List (Addr × Obj)) (s:Shared) (σ:St) (H:Hp) (Q:Bool→Hp→Prop),Inv X pins σ H s→t σ H Q→wpAny (model X.prog X.w) X.A (isTrue e X.env whole) (TP X pins σ Q) X.xe s
theorem PW.pt {X:Cx} {e:Expr} {t:TT} (h:PW X e t):PT X e t:=h _
def PA (X:Cx) (es:List Expr) (t:TA):Prop :=
 ∀(pos:Pos) (pins:List (Addr × Obj)) (s:Shared) (σ:St) (H:Hp) (Q:List V→Hp→Prop),Inv X pins σ H s→t σ H Q→wpAny (model X.prog X.w) X.A (spliced (backTo pos (starEach es X.env))) (AP X pins σ Q) X.xe s
def PS (X:Cx) (st:Stmt) (t:TS):Prop :=
 ∀(pins:List (Addr × Obj)) (s:Shared) (σ:St) (H:Hp) (D:Ends),Inv X pins σ H s→t D σ H→wpAny (model X.prog X.w) X.A (exec st X.env) (SP X pins D) X.xe s
def uu (X:Cx) (st:List Stmt) (t:TS):Prop :=
 ∀(pins:List (Addr × Obj)) (s:Shared) (σ:St) (H:Hp) (D:Ends),Inv X pins σ H s→t D σ H→wpAny (model X.prog X.w) X.A (execs st X.env) (SP X pins D) X.xe s
theorem cq {α:Type} {t:Sem α} {Q Q':α→Shared→Prop} {M:Model} {A:Around} {E:Value→Shared→Prop} {s:Shared} (h:wpAny M A t Q E s) (hQ:∀a s,Q a s→Q' a s):wpAny M A t Q' E s:=wpAny_mono h hQ λ_ _ x=>x
end L2
namespace L2
open PySem PySem.Spec PyProof.Rows
section
variable {X:Cx}
def D8 (i:Nat):TE:=λσ H Q=>∃v,σ[i]?=some (some v)∧Q v H
def tC (v:V):TE:=λ_ H Q=>Q v H
theorem AF {i:Nat} {x:Str} {pos:Pos} (hN:X.N[i]?=some x) (hv:xD X.env.scope x) (hd:(x == ("__debug__":Str))=false:=by decide) (hcd:(x == ("__classdict__":Str))=false:=by decide):PE X (.Name x pos) (D8 i):=by
 intro pins s σ H Q I h
 obtain ⟨v,e,h⟩:=h
 obtain ⟨m,hn,hl⟩:=I.loc
 obtain ⟨u,r,l⟩:=hl i x v hN e hv
 have fin:EP X pins σ Q u s:=⟨v,H,I,r,h⟩
 rcases l with ⟨hk,hm⟩ | ⟨hk,c,hc,hcell⟩
 ·exact wpAny_Name (wpAny_loadName_local I.ok.kind hk hn hm fin) hd
 ·rcases hk with hk | hk
  ·exact wpAny_Name (wpAny_loadName_cell I.ok.kind hk hc hcell fin) hd
  ·exact wpAny_Name (wpAny_loadName_free I.ok.kind hk hc hcell fin hcd) hd
theorem aM {i j pos}:PE X (.Constant (.int i) j pos) (tC (.int i)):=λ_ _ _ H _ I h=>wpAny_Constant_int ⟨.int i,H,I.tok _,⟨_,rfl⟩,h⟩
theorem yK {b j pos}:PE X (.Constant (.bool b) j pos) (tC (.bl b)):=λ_ _ _ H _ I h=>Constant_bool ⟨.bl b,H,I,rfl,h⟩
theorem AB {j pos}:PE X (.Constant .none j pos) (tC .non):=λ_ _ _ H _ I h=>Constant_none ⟨.non,H,I,rfl,h⟩
theorem oI {x j pos}:PE X (.Constant (.str x) j pos) (tC (.str x)):=λ_ _ _ H _ I h=>Calls.Constant_str ⟨.str x,H,I.tok _,⟨_,rfl⟩,h⟩
def Gl (X:Cx) (x:Str):Prop:=X.env.kindOf x=some .globalImplicit
theorem m8 {E:Value→Shared→Prop} {pins:List (Addr × Obj)} {s:Shared} {σ:St} {H:Hp} {x:Str} {u:Value} {pos:Pos} {Q:Value→Shared→Prop} (I:Inv X pins σ H s) (hg:Gl X x) (hm:X.mg x=some u) (h:Q u s)
  (hd:(x == ("__debug__":Str))=false:=by decide):wpAny (model X.prog X.w) X.A (eval (.Name x pos) X.env) Q E s :=
 Calls.Name_function_global I.ok.kind hg (Calls.loadGlobal_global (by rw [I.ok.glob];exact I.mod.glob.keeps I.bk) hm h) hd
theorem mf {E:Value→Shared→Prop} {pins:List (Addr × Obj)} {s:Shared} {σ:St} {H:Hp} {x:Str} {u:Value} {pos:Pos} {Q:Value→Shared→Prop} (I:Inv X pins σ H s) (hg:Gl X x) (hm:X.mg x=none) (hv:bootBuiltins x=some u) (h:Q u s)
  (hn:x≠"__name__":=by decide) (hd:(x == ("__debug__":Str))=false:=by decide):wpAny (model X.prog X.w) X.A (eval (.Name x pos) X.env) Q E s:=by
 obtain ⟨mb,h1,h2⟩:=I.mod.blt
 exact Calls.Name_function_global I.ok.kind hg (Calls.loadGlobal_builtin (by rw [I.ok.glob];exact I.mod.glob.keeps I.bk) hm (by rw [I.ok.blt];exact h1.keeps I.bk) ((h2 x hn).trans hv) h) hd
theorem qd {x:Str} {v:V} {u:Value} {pos:Pos} (hg:Gl X x) (hm:X.mg x=some u) (r:RelV v u) (hd:(x == ("__debug__":Str))=false:=by decide):PE X (.Name x pos) (tC v) :=
 λ_ _ _ H _ I h=>m8 I hg hm ⟨v,H,I,r,h⟩ hd
theorem wd {x:Str} {v:V} {u:Value} {pos:Pos} (hg:Gl X x) (hm:X.mg x=none) (hv:bootBuiltins x=some u) (r:RelV v u) (hn:x≠"__name__":=by decide) (hd:(x == ("__debug__":Str))=false:=by decide):PE X (.Name x pos) (tC v) :=
 λ_ _ _ H _ I h=>mf I hg hm hv ⟨v,H,I,r,h⟩ hn hd
variable {a b:Expr} {ta tb:TE} {pos:Pos}
def tB (t:TE):TT:=λσ H Q=>t σ H λx H1=>∃c,x=.bl c∧Q c H1
theorem AL {e:Expr} {t:TE} (h:PE X e t) (he:∀whole,isTrue e X.env whole=(do let v ← whole;standAt e.pos;holding [v] (truthy v)):=by intro _;rfl):PT X e (tB t):=by
 intro pins s σ H Q I hw
 refine isTrue_plain (cq (h pins s σ H _ I hw) λv s1 ⟨x,H1,I1,r1,q1⟩=>?_) (he _)
 obtain ⟨d,rfl,q⟩:=q1
 cases r1
 exact wpAny_truthy_bool ⟨H1,I1,q⟩
variable {tA tB':TT} {rest:List Expr}
def G0 (t u:TT):TT:=λσ H Q=>t σ H λc H1=>if c=true then u σ H1 Q else Q false H1
def PU (t u:TT):TT:=λσ H Q=>t σ H λc H1=>if c=true then Q true H1 else u σ H1 Q
def JE (t:TT):TT:=λσ H Q=>t σ H λc H1=>Q (!c) H1
theorem qi (ha:PT X a tA):PW X (.BoolOp .And [a] pos) tA:=by
 intro wh pins s σ H Q I h
 refine isTrue_and (cq (ha pins s σ H Q I h) λc s1 e=>?_)
 cases c with
 | true=>exact isTrue_and_nil e
 | false=>exact e
theorem wA (ha:PT X a tA):PW X (.BoolOp .Or [a] pos) tA:=by
 intro wh pins s σ H Q I h
 refine isTrue_or (cq (ha pins s σ H Q I h) λc s1 e=>?_)
 cases c with
 | false=>exact isTrue_or_nil e
 | true=>exact e
theorem wz (ha:PT X a tA) (hb:PW X (.BoolOp .And (b :: rest) pos) tB'):PW X (.BoolOp .And (a :: b :: rest) pos) (G0 tA tB'):=by
 intro wh pins s σ H Q I h
 refine isTrue_and (cq (ha pins s σ H _ I h) λc s1 ⟨H1,I1,q1⟩=>?_)
 cases c with
 | true=>exact hb wh pins s1 σ H1 Q I1 q1
 | false=>exact ⟨H1,I1,q1⟩
theorem Ce (ha:PT X a tA) (hb:PW X (.BoolOp .Or (b :: rest) pos) tB'):PW X (.BoolOp .Or (a :: b :: rest) pos) (PU tA tB'):=by
 intro wh pins s σ H Q I h
 refine isTrue_or (cq (ha pins s σ H _ I h) λc s1 ⟨H1,I1,q1⟩=>?_)
 cases c with
 | true=>exact ⟨H1,I1,q1⟩
 | false=>exact hb wh pins s1 σ H1 Q I1 q1
theorem AK (ha:PT X a tA):PT X (.UnaryOp .Not a pos) (JE tA):=by
 intro pins s σ H Q I h
 exact isTrue_not (ha pins s σ H (λc H1=>Q (!c) H1) I h)
def CL (ta tb:TE):TE:=λσ H Q=>ta σ H λx H1=>∃c,x=.bl c∧if c=true then tb σ H1 Q else Q (.bl false) H1
def JF (ta tb:TE):TE:=λσ H Q=>ta σ H λx H1=>∃c,x=.bl c∧if c=true then Q (.bl true) H1 else tb σ H1 Q
def CP (ta:TE):TE:=λσ H Q=>ta σ H λx H1=>∃c,x=.bl c∧Q (.bl (!c)) H1
theorem AE {op} {t:TE} (h:PE X a t):PE X (.BoolOp op [a] pos) t:=λpins s σ H Q I hw=>BoolOp_one (h pins s σ H Q I hw)
theorem AA (ha:PE X a ta) (hb:PE X (.BoolOp .And (b :: rest) pos) tb):PE X (.BoolOp .And (a :: b :: rest) pos) (CL ta tb):=by
 intro pins s σ H Q I h
 refine BoolOp_and (cq (ha pins s σ H _ I h) λv s1 ⟨x,H1,I1,r1,q1⟩=>?_)
 obtain ⟨c,rfl,q1⟩:=q1
 cases r1
 refine wpAny_truthy_bool ?_
 cases c with
 | true=>exact hb pins s1 σ H1 Q I1 q1
 | false=>exact ⟨.bl false,H1,I1,rfl,q1⟩
theorem Gf (ha:PE X a ta) (hb:PE X (.BoolOp .Or (b :: rest) pos) tb):PE X (.BoolOp .Or (a :: b :: rest) pos) (JF ta tb):=by
 intro pins s σ H Q I h
 refine BoolOp_or (cq (ha pins s σ H _ I h) λv s1 ⟨x,H1,I1,r1,q1⟩=>?_)
 obtain ⟨c,rfl,q1⟩:=q1
 cases r1
 refine wpAny_truthy_bool ?_
 cases c with
 | false=>exact hb pins s1 σ H1 Q I1 q1
 | true=>exact ⟨.bl true,H1,I1,rfl,q1⟩
theorem AD (ha:PE X a ta):PE X (.UnaryOp .Not a pos) (CP ta):=by
 intro pins s σ H Q I h
 refine UnaryOp_ (cq (ha pins s σ H _ I h) λv s1 ⟨x,H1,I1,r1,q1⟩=>?_)
 obtain ⟨c,rfl,q1⟩:=q1
 cases r1
 exact not_of (wpAny_truthy_bool ⟨.bl (!c),H1,I1,rfl,q1⟩)
def Qq (t:TT) (ta tb:TE):TE:=λσ H Q=>t σ H λc H1=>if c=true then ta σ H1 Q else tb σ H1 Q
theorem rF {c:Expr} (hc:PT X c tA) (ha:PE X a ta) (hb:PE X b tb):PE X (.IfExp c a b pos) (Qq tA ta tb):=by
 intro pins s σ H Q I h
 refine wpAny_IfExp (cq (hc pins s σ H _ I h) λd s1 ⟨H1,I1,q1⟩=>?_)
 cases d with
 | true=>exact ha pins s1 σ H1 Q I1 q1
 | false=>exact hb pins s1 σ H1 Q I1 q1
end
end L2
namespace L2
open PySem PySem.Spec PyProof.Rows
def cW (K:PySem.W.Frag) (H:Hp) (a:Addr) (xs:List V):Prop :=
 Rd H a (.lst xs) ∨
  ∃(o:Obj) (its:Array Value) (n:Nat),K.lookup a=some o∧o.cls=.type "list"∧o.dict=none∧o.data=.seq its n∧its.size≤sizeLine∧Vals xs its.toList
def gK (K:PySem.W.Frag) (H:Hp) (a:Addr) (xs:List V):Prop :=
 Rd H a (.tup xs) ∨
  ∃(o:Obj) (its:Array Value) (n:Nat),K.lookup a=some o∧o.cls=.type "tuple"∧o.data=.seq its n∧its.size≤sizeLine∧Vals xs its.toList
def QK:Value→Option V
 | .none=>some .non
 | .bool b=>some (.bl b)
 | .int i _=>some (.int i)
 | .str x _=>some (.str x)
 | .bytes b _=>some (.byt b)
 | .float b _=>some (.flt b)
 | .ref a=>some (.ref a)
 | .type n=>some (.ty n)
 | _=>none
theorem RelV.abs {x:V} {u:Value} (r:RelV x u):QK u=some x:=by
 cases x with
 | non=>cases r;rfl
 | bl _=>cases r;rfl
 | int _=>obtain ⟨t,rfl⟩:=r;rfl
 | str _=>obtain ⟨t,rfl⟩:=r;rfl
 | byt _=>obtain ⟨t,rfl⟩:=r;rfl
 | flt _=>obtain ⟨t,rfl⟩:=r;rfl
 | ref _=>cases r;rfl
 | ty _=>cases r;rfl
theorem RelV.inj {x y:V} {u:Value} (r:RelV x u) (q:RelV y u):x=y:=Option.some.inj (r.abs.symm.trans q.abs)
theorem Vals.inj:∀{xs ys:List V} {us:List Value},Vals xs us→Vals ys us→xs=ys
 | _,_,_,.nil,.nil=>rfl
 | _,_,_,.cons r t,.cons r' t'=>by rw [r.inj r',Vals.inj t t']
section
variable {X:Cx} {pins:List (Addr × Obj)} {σ:St} {H:Hp} {s:Shared} {a:Addr} {xs ys:List V}
theorem cW.of {K:PySem.W.Frag} (h:H a=some (.lst xs)):cW K H a xs:=.inl (.inl h)
theorem gK.of {K:PySem.W.Frag} (h:H a=some (.tup xs)):gK K H a xs:=.inl (.inl h)
theorem Inv.list (I:Inv X pins σ H s) (h:cW X.K H a xs):∃its:List Value,Vals xs its∧PlainL s.heap a its.toArray∧xs.length≤sizeLine:=by
 rcases h with h | ⟨o,its,n,hk,hc,hd,hs,hz,r⟩
 ·obtain ⟨z,its,n,r,e⟩:=h.ok I.hok
  exact ⟨its,r,⟨_,n,e,rfl,rfl,rfl⟩,z⟩
 ·refine ⟨its.toList,r,⟨o,n,I.m7 a o hk,hc,hd,by simpa using hs⟩,?_⟩
  have e:=r.length
  simp only [Array.length_toList] at e
  omega
theorem Inv.tuple (I:Inv X pins σ H s) (h:gK X.K H a xs):∃its:List Value,Vals xs its∧IsTup s.heap a its.toArray∧xs.length≤sizeLine:=by
 rcases h with h | ⟨o,its,n,hk,hc,hs,hz,r⟩
 ·obtain ⟨z,its,r,p⟩:=h.ok I.hok
  exact ⟨its,r,p,z⟩
 ·refine ⟨its.toList,r,⟨o,I.m7 a o hk,hc,n,by simpa using hs⟩,?_⟩
  have e:=r.length
  simp only [Array.length_toList] at e
  omega
theorem Inv.j8 (I:Inv X pins σ H s) (h:cW X.K H a xs) (h':cW X.K H a ys):xs=ys:=by
 obtain ⟨its,r,⟨o,n,e,_,_,d⟩,_⟩:=I.list h
 obtain ⟨its',r',⟨o',n',e',_,_,d'⟩,_⟩:=I.list h'
 rw [e] at e';cases e'
 rw [d] at d'
 injection d' with d1 _
 have:its=its':=by simpa using congrArg Array.toList d1
 subst this
 exact r.inj r'
theorem Inv.D9 (I:Inv X pins σ H s) (h:gK X.K H a xs) (h':gK X.K H a ys):xs=ys:=by
 obtain ⟨its,r,⟨o,e,_,n,d⟩,_⟩:=I.tuple h
 obtain ⟨its',r',⟨o',e',_,n',d'⟩,_⟩:=I.tuple h'
 rw [e] at e';cases e'
 rw [d] at d'
 injection d' with d1 _
 have:its=its':=by simpa using congrArg Array.toList d1
 subst this
 exact r.inj r'
end
abbrev Cx.sE (X:Cx) (E:Value→Shared→Prop):Cx:={ X with xe:=E }
abbrev Cx.Mh (X:Cx):Cx:=X.sE λ_ _=>False
theorem Cx.Ok.sE {X:Cx} (ok:X.Ok) (E:Value→Shared→Prop):(X.sE E).Ok :=
 ⟨ok.mod,ok.kind,ok.glob,ok.blt,ok.above,ok.inj,ok.has,ok.cab,ok.hd,ok.frames,ok.stk,ok.exf,ok.bs,ok.bsz,ok.noex,ok.exfs,ok.ou,ok.frf⟩
theorem Cx.Ok.kY {X:Cx} {E:Value→Shared→Prop} (ok:(X.sE E).Ok):X.Ok :=
 ⟨ok.mod,ok.kind,ok.glob,ok.blt,ok.above,ok.inj,ok.has,ok.cab,ok.hd,ok.frames,ok.stk,ok.exf,ok.bs,ok.bsz,ok.noex,ok.exfs,ok.ou,ok.frf⟩
section
variable {X:Cx} {pins:List (Addr × Obj)} {σ:St} {H:Hp} {s:Shared} {E:Value→Shared→Prop}
theorem Inv.sE (I:Inv X pins σ H s) (E:Value→Shared→Prop):Inv (X.sE E) pins σ H s:=⟨I.ok.sE E,I.os,I.bare,I.base,I.loc,I.cell,I.free,I.freeC,I.pin,I.hok,I.len⟩
theorem Inv.kY (I:Inv (X.sE E) pins σ H s):Inv X pins σ H s:=⟨I.ok.kY,I.os,I.bare,I.base,I.loc,I.cell,I.free,I.freeC,I.pin,I.hok,I.len⟩
theorem SP.kY {D:Ends} {f:Flow} {s':Shared} (h:SP (X.sE E) pins D f s'):SP X pins D f s':=by
 cases f with
 | next=>obtain ⟨σ',H',I,q⟩:=h;exact ⟨σ',H',I.kY,q⟩
 | brk=>obtain ⟨σ',H',I,q⟩:=h;exact ⟨σ',H',I.kY,q⟩
 | cont=>obtain ⟨σ',H',I,q⟩:=h;exact ⟨σ',H',I.kY,q⟩
 | ret u=>obtain ⟨v,σ',H',I,r,q⟩:=h;exact ⟨v,σ',H',I.kY,r,q⟩
theorem uu.Mh {st:List Stmt} {t:TS} (h:uu X.Mh st t):uu X st t:=λpins s σ H D I hw =>
 wpAny_mono (h pins s σ H D (I.sE _) hw) (λ_ _ q=>q.kY) λ_ _ z=>False.elim z
end
section
variable {X:Cx} {st:Stmt} {rest:List Stmt} {t u:TS} {e:Expr} {te:TE} {pos:Pos}
def CO:TS:=λD σ H=>D.nx σ H
def JI (t u:TS):TS:=λD σ H=>t { D with nx:=u D } σ H
theorem fU:uu X [] CO:=λ_ _ σ H _ I h=>wpAny_execs_nil ⟨σ,H,I,h⟩
theorem aW (h1:PS X st t) (h2:uu X rest u):uu X (st :: rest) (JI t u):=by
 intro pins s σ H D I h
 refine wpAny_execs_cons (cq (h1 pins s σ H { D with nx:=u D } I h) λf s1 q=>?_)
 cases f with
 | next =>
  obtain ⟨σ',H',I',q⟩:=q
  exact h2 pins s1 σ' H' D I' q
 | ret v=>exact q
 | brk=>exact q
 | cont=>exact q
theorem bI (h1:PS X st t):uu X [st] t:=by
 intro pins s σ H D I h
 refine wpAny_execs_cons (cq (h1 pins s σ H D I h) λf s1 q=>?_)
 cases f with
 | next=>exact wpAny_execs_nil q
 | ret v=>exact q
 | brk=>exact q
 | cont=>exact q
def M':TS:=λD σ H=>D.bk σ H
def PM:TS:=λD σ H=>D.ct σ H
theorem Inv.quiet {pins:List (Addr × Obj)} {σ:St} {H:Hp} {s:Shared} (I:Inv X pins σ H s):interactive X.env=false:=by simp [interactive,I.ok.kind]
def CN (te:TE):TS:=λD σ H=>te σ H λ_ H1=>D.nx σ H1
theorem lz (he:PE X e te) (hs:swapsWith e none pos.line X.env=pure false:=by rfl):PS X (.Expr e pos) (CN te):=by
 intro pins s σ H D I h
 exact wpAny_Expr_any (cq (he pins s σ H _ I h) λv s1 ⟨x,H1,I1,r1,q1⟩=>⟨σ,H1,I1,q1⟩) I.quiet hs
def JH (te:TE):TS:=λD σ H=>te σ H D.rt
theorem dH (he:PE X e te):PS X (.Return (some e) pos) (JH te):=by
 intro pins s σ H D I h
 exact wpAny_Return_some (cq (he pins s σ H _ I h) λv s1 ⟨x,H1,I1,r1,q1⟩=>⟨x,σ,H1,I1,r1,q1⟩)
def CT:TS:=λD _ H=>D.rt .non H
theorem wt:PS X (.Return none pos) CT:=λ_ _ σ H _ I h=>wpAny_Return_none ⟨.non,σ,H,I,rfl,h⟩
def JC (c:TT) (t u:TS):TS:=λD σ H=>c σ H λb H1=>if b=true then t D σ H1 else u D σ H1
theorem nB {c:Expr} {a b:List Stmt} {tc:TT} (hc:PT X c tc) (ha:uu X a t) (hb:uu X b u):PS X (.If c a b pos) (JC tc t u):=by
 intro pins s σ H D I h
 refine wpAny_If (cq (hc pins s σ H _ I h) λd s1 ⟨H1,I1,q1⟩=>?_)
 cases d with
 | true=>exact ha pins s1 σ H1 D I1 q1
 | false=>exact hb pins s1 σ H1 D I1 q1
def Bb:TS:=λ_ _ _=>False
theorem oM {sts:List Stmt}:uu X sts Bb:=λ_ _ _ _ _ _ h=>h.elim
end
abbrev TG:=V→St→Hp→(St→Hp→Prop)→Prop
abbrev pY:=List V→St→Hp→(St→Hp→Prop)→Prop
def PG (X:Cx) (target:Expr) (t:TG):Prop :=
 ∀(pins:List (Addr × Obj)) (s:Shared) (σ:St) (H:Hp) (v:V) (u:Value) (Q:St→Hp→Prop),Inv X pins σ H s→RelV v u→t v σ H Q →
  wpAny (model X.prog X.w) X.A (assign target X.env u) (λ_ s'=>∃σ' H',Inv X pins σ' H' s'∧Q σ' H') X.xe s
def JT (X:Cx) (ts:List Expr) (t:pY):Prop :=
 ∀(pins:List (Addr × Obj)) (s:Shared) (σ:St) (H:Hp) (vs:List V) (us:List Value) (Q:St→Hp→Prop),Inv X pins σ H s→Vals vs us→t vs σ H Q →
  wpAny (model X.prog X.w) X.A (assignInOrder ((assignEach ts X.env).map (·.2)) us) (λ_ s'=>∃σ' H',Inv X pins σ' H' s'∧Q σ' H') X.xe s
abbrev jX:=V→V→V→Hp→(Hp→Prop)→Prop
def jW (X:Cx) (t:jX):Prop :=
 ∀(pins:List (Addr × Obj)) (s:Shared) (σ:St) (H:Hp) (o i v:V) (ov iv u:Value) (Q:Hp→Prop),Inv X pins σ H s→RelV o ov→RelV i iv→RelV v u→t o i v H Q →
  wpAny (model X.prog X.w) X.A (setItem ov iv u) (λ_ s'=>∃H',Inv X pins σ H' s'∧Q H') X.xe s
abbrev Qg:=V→V→Hp→VK→Prop
def QD (X:Cx) (op:Operator) (t:Qg):Prop :=
 ∀(pins:List (Addr × Obj)) (s:Shared) (σ:St) (H:Hp) (x y:V) (v u:Value) (Q:VK),Inv X pins σ H s→RelV x v→RelV y u→t x y H Q →
  wpAny (model X.prog X.w) X.A (inplaceOp op v u) (EP X pins σ Q) X.xe s
section
variable {X:Cx} {pos:Pos}
def qR (i:Nat):TG:=λv σ H Q=>Q (σ.set i (some v)) H
theorem lq {i:Nat} {x:Str} (hN:X.N.Nodup) (hi:X.N[i]?=some x) (hx:Loc X.env.scope x) (hf:X.fn x=true∨X.env.scope.names.lookup x=some .local:=by first | exact .inl rfl | exact .inr rfl | assumption):PG X (.Name x pos) (qR i):=by
 intro pins s σ H v u Q I r h
 exact wpAny_assign_Name (gH I hN hi hx r (λs' I'=>⟨_,H,I',h⟩) hf)
def HU:pY:=λvs σ H Q=>vs=[]∧Q σ H
def BL (t:TG) (u:pY):pY:=λvs σ H Q=>∃v r,vs=v :: r∧t v σ H λσ' H'=>u r σ' H' Q
theorem wg:JT X [] HU:=by
 intro pins s σ H vs us Q I r h
 obtain ⟨e,h⟩:=h
 subst e
 cases r
 exact assignInOrder_nil ⟨σ,H,I,h⟩
theorem rH {e:Expr} {es:List Expr} {t:TG} {u:pY} (h1:PG X e t) (h2:JT X es u)
  (hs:(assignEach (e :: es) X.env).map (·.2)=assign e X.env :: (assignEach es X.env).map (·.2):=by rfl):JT X (e :: es) (BL t u):=by
 intro pins s σ H vs us Q I r h
 obtain ⟨v,vr,e1,h⟩:=h
 subst e1
 cases r with
 | cons r rr =>
  rw [hs]
  refine assignInOrder_cons (cq (h1 pins s σ H _ _ _ I r h) λ_ s1 ⟨σ1,H1,I1,q1⟩=>?_)
  exact h2 pins s1 σ1 H1 _ _ Q I1 rr q1
def HX (K:PySem.W.Frag) (n:Nat) (t:pY):TG:=λv σ H Q=>∃a xs,v=.ref a∧gK K H a xs∧xs.length=n∧t xs σ H Q
theorem AG {es:List Expr} {k:Nat} {t:pY} {n:Nat} (hc:X.calm=true) (h:JT X es t)
  (hn:(assignEach es X.env).length=n:=by rfl) (hst:(assignEach es X.env).findIdx? (·.1)=none:=by rfl):PG X (.Tuple es k pos) (HX X.K n t):=by
 intro pins s σ H v u Q I r hw
 obtain ⟨a,xs,e1,hq,hl,hw⟩:=hw
 subst e1
 cases r
 obtain ⟨its,rv,ht,hz⟩:=I.tuple hq
 refine assign_Tuple_tuple (I.ok.hd hc) ht (by simp [hn,← hl,rv.length]) hst λh' hx=>?_
 have I1:Inv X pins σ H { s with heap:=h' }:=I.kept (t':=s.toks) λb o e=>hx b o (T6 (Heap.lt_size e)) e
 exact h pins _ σ H xs _ Q I1 (by simpa using rv) hw
def HW (to ti:TE) (t:jX):TG:=λv σ H Q=>to σ H λo H1=>ti σ H1 λi H2=>t o i v H2 λH3=>Q σ H3
theorem we {o i:Expr} {to ti:TE} {t:jX} (ho:PE X o to) (hi:PE X i ti) (hs:jW X t)
  (ha:∀v,assign (.Subscript o i pos) X.env v=(do
   let ov ← holding [v] (eval o X.env)
   let iv ← holding [v,ov] (eval i X.env)
   standAt pos
   holding [v,ov,iv] (setItem ov iv v)
   release [v,ov,iv] []):=by intro _;rfl):PG X (.Subscript o i pos) (HW to ti t):=by
 intro pins s σ H v u Q I r h
 rw [ha]
 refine wpAny_bind (wpAny_holding (cq (ho pins s σ H _ I h) λov s1 ⟨x,H1,I1,r1,q1⟩=>?_))
 refine wpAny_bind (wpAny_holding (cq (hi pins s1 σ H1 _ I1 q1) λiv s2 ⟨y,H2,I2,r2,q2⟩=>?_))
 refine wpAny_bind (wpAny_standAt (wpAny_bind (wpAny_holding (cq (hs pins s2 σ H2 x y v ov iv u _ I2 r1 r2 r q2) λ_ s3 ⟨H3,I3,q3⟩=>?_))))
 exact wpAny_release ⟨σ,H3,I3,q3⟩
def Ba (te:TE) (g:TG):TS:=λD σ H=>te σ H λx H1=>g x σ H1 D.nx
theorem wq {tg e:Expr} {te:TE} {g:TG} (he:PE X e te) (hg:PG X tg g) (hs:swapsWithSole [tg] e pos.line X.env=pure false:=by rfl) (hw:swappedStores [tg] e X.env=pure none:=by rfl)
  (h1:(assignEach [tg] X.env).map (·.2)=[assign tg X.env]:=by rfl):PS X (.Assign [tg] e pos) (Ba te g):=by
 intro pins s σ H D I h
 refine wpAny_Assign_stores (cq (he pins s σ H _ I h) λv s1 ⟨x,H1,I1,r1,q1⟩=>?_) hs hw
 rw [h1]
 exact cq (hg pins s1 σ H1 x v _ I1 r1 q1) λ_ s2 q=>q
theorem cU {i:Nat} {x:Str} {e:Expr} {te:TE} {pos':Pos} (hN:X.N.Nodup) (hi:X.N[i]?=some x) (hx:Loc X.env.scope x) (he:PE X e te) (hs:swapsWith e (some (.Name x pos')) pos.line X.env=pure false:=by rfl) (hf:X.fn x=true∨X.env.scope.names.lookup x=some .local:=by first | exact .inl rfl | exact .inr rfl | assumption) :
  PS X (.Assign [.Name x pos'] e pos) (Ba te (qR i)):=by
 intro pins s σ H D I h
 refine wpAny_Assign_Name (cq (he pins s σ H _ I h) λv s1 ⟨y,H1,I1,r1,q1⟩=>?_) hs
 exact gH I1 hN hi hx r1 (λs2 I2=>⟨_,H1,I2,q1⟩) hf
def JG (i j:Nat) (ta:TA):TS:=λD σ H=>ta σ H λvs H1=>∃v w,vs=[v,w]∧D.nx ((σ.set i (some v)).set j (some w)) H1
theorem oK {i j:Nat} {x y:Str} {a b:Expr} {ta:TA} {px py pt:Pos} {kt k2 pt2} (hc:X.calm=true) (hN:X.N.Nodup) (hi:X.N[i]?=some x) (hj:X.N[j]?=some y) (hij:i≠j)
  (hx:X.env.scope.names.lookup x=some .local) (hy:X.env.scope.names.lookup y=some .local) (ha:PA X [a,b] ta)
  (hw:swappedStores [.Tuple [.Name x px,.Name y py] kt pt] (.Tuple [a,b] k2 pt2) X.env=pure (some [x,y]))
  (hs:swapsWithSole [.Tuple [.Name x px,.Name y py] kt pt] (.Tuple [a,b] k2 pt2) pos.line X.env=pure false:=by rfl) :
  PS X (.Assign [.Tuple [.Name x px,.Name y py] kt pt] (.Tuple [a,b] k2 pt2) pos) (JG i j ta):=by
 intro pins s σ H D I h
 rw [exec_Assign_arm]
 refine wpAny_bind (wpAny_standAt ?_)
 rw [hs]
 refine wpAny_bind (wpAny_pure ?_)
 rw [if_neg (by decide)]
 refine wpAny_bind (Tuple_ (cq (ha _ pins s σ H _ I h) λus s1 ⟨vs,H1,I1,r1,q1⟩=>?_))
 obtain ⟨v,w,e1,q1⟩:=q1
 subst e1
 obtain ⟨u1,u2,rfl,rv,rw'⟩:∃u1 u2,us=[u1,u2]∧RelV v u1∧RelV w u2:=by
  cases r1 with
  | cons p q =>
   cases q with
   | cons p' q' =>
    cases q'
    exact ⟨_,_,rfl,p,p'⟩
 refine wpAny_newObj_type ?_ (by show 2≤sizeLine;decide)
 have I2:Inv X pins σ H1 { s1 with heap:=s1.heap.push { cls:=.type "tuple",data:=.seq [u1,u2].toArray } }:=I1.kept (t':=s1.toks) λb o e=>Heap.get?_push_of_some _ e
 rw [hw]
 refine wpAny_bind (wpAny_pure ?_)
 show wpAny (model X.prog X.w) X.A (do rule "assign.swapped-stores";let items ← unpackItems (.ref s1.heap.objs.size) 2 none;assignInOrder [λv=>bindName X.env y v,λv=>bindName X.env x v] items.reverse;pure Flow.next) _ _ _
 refine wpAny_bind (wpAny_rule (wpAny_bind (unpackItems_tuple (items:=#[u1,u2]) (I.ok.hd hc) (IsTup.new s1.heap _) λh' hx'=>?_)))
 have I3:=I2.kept (h':=h') (t':=s1.toks) λb o e=>hx' b o (T6 (Heap.lt_size e)) e
 show wpAny _ _ (assignInOrder [λv=>bindName X.env y v,λv=>bindName X.env x v] [u2,u1] >>= λ_=>pure Flow.next) _ _ _
 refine wpAny_bind (assignInOrder_cons (wpAny_bindName (gH I3 hN hj (.inl hy) rw' (λs2 I4=>?_) (.inr hy))))
 refine assignInOrder_cons (wpAny_bindName (gH I4 hN hi (.inl hx) rv (λs3 I5=>assignInOrder_nil (wpAny_pure ?_)) (.inr hx)))
 rw [List.set_comm _ _ (Ne.symm hij)] at I5
 exact ⟨_,H1,I5,q1⟩
def R3 (i:Nat) (te:TE) (ti:Qg):TS:=λD σ H=>∃x,σ[i]?=some (some x)∧te σ H λy H1=>ti x y H1 λz H2=>D.nx (σ.set i (some z)) H2
theorem MH {i:Nat} {x:Str} {e:Expr} {te:TE} {op:Operator} {ti:Qg} {pos':Pos} (hN:X.N.Nodup) (hi:X.N[i]?=some x) (hx:Loc X.env.scope x) (he:PE X e te) (ho:QD X op ti) (hf:X.fn x=true∨X.env.scope.names.lookup x=some .local:=by first | exact .inl rfl | exact .inr rfl | assumption) :
  PS X (.AugAssign (.Name x pos') op e pos) (R3 i te ti):=by
 intro pins s σ H D I h
 obtain ⟨v,e1,h⟩:=h
 obtain ⟨m,hn,hl⟩:=I.loc
 have vis:xD X.env.scope x:=by rcases hx with k | k;exact .inl k;exact .inr (.inl k)
 obtain ⟨u,r,l⟩:=hl i x v hi e1 vis
 refine wpAny_AugAssign_Name ?_
 have go:wpAny (model X.prog X.w) X.A (eval e X.env) (λw s₂=>wpAny (model X.prog X.w) X.A (inplaceOp op u w) (λr s₃=>wpAny (model X.prog X.w) X.A (storeName X.env x r) (λ_=>SP X pins D .next) X.xe s₃) X.xe s₂) X.xe s:=by
  refine cq (he pins s σ H _ I h) λw s1 ⟨y,H1,I1,r1,q1⟩=>?_
  refine cq (ho pins s1 σ H1 v y u w _ I1 r r1 q1) λz s2 ⟨zv,H2,I2,r2,q2⟩=>?_
  exact gH I2 hN hi hx r2 (λs3 I3=>⟨_,H2,I3,q2⟩) hf
 rcases l with ⟨hk,hm⟩ | ⟨hk,c,hc,hcell⟩
 ·exact wpAny_loadName_local I.ok.kind hk hn hm go
 ·rcases hk with hk | hk
  ·exact wpAny_loadName_cell I.ok.kind hk hc hcell go
  ·rcases hx with k | k
   ·have:X.env.scope.names.lookup x=some .free:=hk
    rw [k] at this;cases this
   ·have:X.env.scope.names.lookup x=some .free:=hk
    rw [k] at this;cases this
def Ti (f:Int→Int→Int):Qg:=λx y H Q=>∃i j,x=.int i∧y=.int j∧Q (.int (f i j)) H
theorem LM:QD X .Sub (Ti λi j=>i - j):=by
 intro pins s σ H x y v u Q I r1 r2 h
 obtain ⟨i,j,e1,e2,q⟩:=h
 subst e1;subst e2
 obtain ⟨t,rfl⟩:=r1
 obtain ⟨t',rfl⟩:=r2
 exact isub_int ⟨.int _,H,I.tok _,⟨_,rfl⟩,q⟩
end
section
variable {X:Cx} {pos:Pos}
def xt (c:TT) (tb:TS):TS:=λD σ H=>∃W:Nat→St→Hp→Prop,(∃m,W m σ H)∧∀m σ H,W m σ H →
 c σ H λb H1=>if b=true then ∃N:St→Hp→Prop,(∀σ' H',N σ' H'→∃m',m' < m∧W m' σ' H')∧tb { D with nx:=N,ct:=N,bk:=D.nx } σ H1 else D.nx σ H1
theorem kI {c:Expr} {body:List Stmt} {tc:TT} {tb:TS} (hp:PassesOwn (model X.prog X.w) X.A X.env X.xe) (hc:PT X c tc) (hb:uu X body tb):PS X (.While c body [] pos) (xt tc tb):=by
 intro pins s σ H D I h
 obtain ⟨W,⟨m0,w0⟩,turn⟩:=h
 refine wpAny_While (codeAny_whileLoop (λn s'=>∃σ' H',Inv X pins σ' H' s'∧W n σ' H') ?_ m0 ⟨σ,H,I,w0⟩)
 rintro n s1 ⟨σ1,H1,I1,w1⟩
 refine wpAny_passesOwn hp (cq (hc pins s1 σ1 H1 _ I1 (turn n σ1 H1 w1)) λb s2 ⟨H2,I2,q2⟩=>?_)
 cases b with
 | true =>
  obtain ⟨N,hN,q2⟩:=q2
  rw [if_pos rfl]
  refine wpAny_passesOwn hp (cq (hb pins s2 σ1 H2 _ I2 q2) λf s3 q3=>?_)
  cases f with
  | next =>
   obtain ⟨σ3,H3,I3,n3⟩:=q3
   obtain ⟨m',hm,w3⟩:=hN σ3 H3 n3
   exact ⟨m',hm,σ3,H3,I3,w3⟩
  | cont =>
   obtain ⟨σ3,H3,I3,n3⟩:=q3
   obtain ⟨m',hm,w3⟩:=hN σ3 H3 n3
   exact ⟨m',hm,σ3,H3,I3,w3⟩
  | brk=>exact q3
  | ret v=>exact q3
 | false =>
  rw [if_neg TY]
  exact wpAny_execs_nil ⟨σ1,H2,I2,q2⟩
end
structure It where
 go:Nat→Hp→Prop
 yld:Nat→Hp→V→Hp→Prop
 stop:Nat→Hp→Prop
def lI (X:Cx) (pins:List (Addr × Obj)) (H:Hp) (b:Addr):Prop :=
 H b=none∧b≠X.env.locals∧b ∉ X.fs∧(b∈X.ex∨X.s₀.heap.objs.size≤b)∧(∀x c,X.env.cells.lookup x=some c→c≠b)∧∀p∈X.pn ++ pins,p.1≠b
theorem Inv.E4 {X:Cx} {pins:List (Addr × Obj)} {σ:St} {H H':Hp} {s:Shared} {b:Addr} (I:Inv X pins σ H s) (hb:s.heap.objs.size≤b) (hn:H' b=none):lI X pins H' b:=by
 refine ⟨hn,VI (T3 I.lt hb),I.Ru hb,.inr (T4 I.sz hb),λx c e z=>?_,λp hp z=>?_⟩
 ·obtain ⟨v,q⟩:=I.cell x c e
  exact absurd (T3 q.lt (by rw [z];exact hb)) (UD _)
 ·exact absurd (T3 (Heap.lt_size (I.pin p hp).1) (by rw [z];exact hb)) (UD _)
structure Turn (P:Program) (w:World) (K:PySem.W.Frag) (tg:Expr) (J:It) (fp:List Addr) (it:Addr) (tn:Nat→Heap→Prop):Prop where
 mem:it∈fp
 obj:∀i h,tn i h→∀b∈fp,∃o,h.get? b=some o∧∀v,o.data≠.cell v
 keep:∀i h h',tn i h→(∀b∈fp,∀o,h.get? b=some o→h'.get? b=some o)→tn i h'
 item:∀(X:Cx),X.prog=P→X.w=w→X.K=K→X.calm=true→∀(i:Nat) (pins:List (Addr × Obj)) (s:Shared) (σ:St) (H:Hp) (E:Value→Shared→Prop),Inv X pins σ H s→(∀b∈fp,lI X pins H b)→tn i s.heap→J.go i H →
  wpAny (model P w) X.A (pyNext (.ref it)) (λr s1=>∃u,r=some u ∧
   wpAny (model P w) X.A (letOwnedTupleGo tg (.ref it) u) (λ_ s2=>∃x H',Inv X pins σ H' s2∧RelV x u∧J.yld i H x H'∧tn (i + 1) s2.heap∧∀b∈fp,H' b=none) E s1) E s
 done:∀(X:Cx),X.prog=P→X.w=w→X.K=K→X.calm=true→∀(i:Nat) (pins:List (Addr × Obj)) (s:Shared) (σ:St) (H:Hp) (E:Value→Shared→Prop),Inv X pins σ H s→(∀b∈fp,lI X pins H b)→tn i s.heap→J.stop i H →
  wpAny (model P w) X.A (pyNext (.ref it)) (λr s1=>r=none∧Inv X pins σ H s1) E s
 self:∀(A:Around) (i:Nat) (s:Shared) (Q:Value→Shared→Prop) (E:Value→Shared→Prop),tn i s.heap→Q (.ref it) s→wpAny (model P w) A (pyIter (.ref it)) Q E s
abbrev TI:=St→Hp→(It→Hp→Prop)→Prop
def SA (X:Cx) (pins:List (Addr × Obj)) (σ:St) (tg:Expr) (R:It→Hp→Prop) (itv:Value) (s2:Shared):Prop :=
 ∃(it:Addr) (fp:List Addr) (tn:Nat→Heap→Prop) (J:It) (H':Hp),itv=.ref it∧Inv X pins σ H' s2∧Turn X.prog X.w X.K tg J fp it tn∧tn 0 s2.heap∧(∀b∈fp,lI X pins H' b)∧R J H'
def PI (X:Cx) (tg iter:Expr) (wi:TI):Prop :=
 ∀(pins:List (Addr × Obj)) (s:Shared) (σ:St) (H:Hp) (R:It→Hp→Prop),Inv X pins σ H s→wi σ H R →
  wpAny (model X.prog X.w) X.A (eval iter X.env) (λv s1=>wpAny (model X.prog X.w) X.A (pyIter v) (SA X pins σ tg R) X.xe s1) X.xe s
theorem E_ {M:Model} {A:Around} {E:Value→Shared→Prop} {s:Shared} {tg:Expr} {it:Addr} {u:Value} {o:Obj} {n:String} {vs:Array Value} {Q:Unit→Shared→Prop} (ho:s.heap.get? it=some o) (hc:o.cls=.type n) (hd:o.data=.fields vs)
  (hn:["enumerate","zip","dict_itemiterator","dict_reverseitemiterator","odict_iterator","itertools.zip_longest","itertools.pairwise"].contains n=false) (hQ:Q () s):wpAny M A (letOwnedTupleGo tg (.ref it) u) Q E s:=by
 unfold letOwnedTupleGo
 cases tg <;> first
  | exact wpAny_pure hQ
  | (cases u <;> first
    | exact wpAny_pure hQ
    | (refine wpAny_bind (wpAny_load ho ?_)
       rw [hc,hd]
       show wpAny M A (if (["enumerate","zip","dict_itemiterator","dict_reverseitemiterator","odict_iterator","itertools.zip_longest","itertools.pairwise"].contains n && vs[0]? == some (rawInt _))=true then _ else _) Q E s
       rw [if_neg (by intro h;rw [hn,Bool.false_and] at h;cases h)]
       exact wpAny_pure hQ))
def Hw (K:PySem.W.Frag) (a:Addr):It :=
 ⟨λi H=>∃xs x,cW K H a xs∧xs[i]?=some x,λi H x H'=>H'=H∧∀xs,cW K H a xs→xs[i]?=some x,λi H=>∃xs,cW K H a xs∧xs.length≤i⟩
def S9 (K:PySem.W.Frag) (a:Addr):It :=
 ⟨λi H=>∃xs x,gK K H a xs∧xs[i]?=some x,λi H x H'=>H'=H∧∀xs,gK K H a xs→xs[i]?=some x,λi H=>∃xs,gK K H a xs∧xs.length≤i⟩
def Ew (lo:Int) (n:Nat):It:=⟨λi _=>i < n,λi H x H'=>H'=H∧x=.int (lo + i),λi _=>n≤i⟩
theorem Ea {P:Program} {w:World} {K:PySem.W.Frag} {tg:Expr} (a it:Addr):Turn P w K tg (Hw K a) [it] it (λi h=>h.IsListIter it a i) where
 mem:=by simp
 obj:=λi h st b hb=>by
  have e:b=it:=by simpa using hb
  subst e
  obtain ⟨o,e,c,d⟩:=st
  exact ⟨o,e,λv z=>by rw [d] at z;cases z⟩
 keep:=λi h h' st k=>st.at λo e=>k it (by simp) o e
 item:=by
  intro X hP hw hK hc i pins s σ H E I hf st hg
  subst hP hw hK
  obtain ⟨xs,x,hq,hx⟩:=hg
  obtain ⟨its,rv,p,hz⟩:=I.list hq
  obtain ⟨u,hu,ru⟩:=rv.get hx
  obtain ⟨f0,f1,f2,f3,f4,f5⟩:=hf it (by simp)
  refine wpAny_pyNext_list_item st p.isList (x:=u) (by simpa using hu) λh' st' sb=>?_
  have I1:Inv X pins σ H { s with heap:=h' }:=I.turned (t':=s.toks) (λb o hb e=>(sb.2 b hb).trans e) f0 f1 f3 f4 f5
  obtain ⟨o,e,c,d⟩:=id st'
  exact ⟨u,rfl,E_ (s:={ s with heap:=h' }) e c d (by decide) ⟨x,H,I1,ru,⟨rfl,λys hy=>by rw [I.j8 hy hq];exact hx⟩,st',λb hb=>(hf b hb).1⟩⟩
 done:=by
  intro X hP hw hK hc i pins s σ H E I hf st hg
  subst hP hw hK
  obtain ⟨xs,hq,hx⟩:=hg
  obtain ⟨its,rv,p,hz⟩:=I.list hq
  obtain ⟨f0,f1,f2,f3,f4,f5⟩:=hf it (by simp)
  have hl:=rv.length
  exact wpAny_pyNext_list_end (I.ok.hd hc) st p.isList (by simp;omega) λh' eb=>⟨rfl,I.turned (t':=s.toks) (λb o hb e=>eb b o hb e) f0 f1 f3 f4 f5⟩
 self:=λ_ _ _ _ _ st h=>wpAny_pyIter_listiter st h
theorem Bf {P:Program} {w:World} {K:PySem.W.Frag} {tg:Expr} (it:Addr) (lo:Int) (n:Nat):Turn P w K tg (Ew lo n) [it] it (λi h=>IsRangeIter h it (lo + (i:Nat) * 1) ((n:Int) - (i:Nat)) 1) where
 mem:=by simp
 obj:=λi h st b hb=>by
  have e:b=it:=by simpa using hb
  subst e
  exact ⟨_,st,λv z=>by
   have z':Data.fields _=Data.cell v:=z
   cases z'⟩
 keep:=λi h h' st k=>k it (by simp) _ st
 item:=by
  intro X hP hw hK hc i pins s σ H E I hf st hg
  subst hP hw hK
  obtain ⟨f0,f1,f2,f3,f4,f5⟩:=hf it (by simp)
  have W:=Walks.range (prog:=X.prog) (w:=X.w) (I.ok.hd hc) it lo 1 n
  refine W.item i s _ _ hg st λv h' tk hv st' kk=>?_
  obtain ⟨t,rfl⟩:=hv
  have I1:Inv X pins σ H { s with heap:=h',toks:=tk }:=I.turned (λb o hb e=>kk b o (by simpa using hb) e) f0 f1 f3 f4 f5
  refine ⟨_,rfl,E_ (s:={ s with heap:=h',toks:=tk }) (n:="range_iterator") st' rfl rfl (by decide) ⟨.int (lo + i),H,I1,⟨t,?_⟩,⟨rfl,rfl⟩,st',λb hb=>(hf b hb).1⟩⟩
  rw [Int.mul_one]
 done:=by
  intro X hP hw hK hc i pins s σ H E I hf st hg
  subst hP hw hK
  obtain ⟨f0,f1,f2,f3,f4,f5⟩:=hf it (by simp)
  exact wpAny_pyNext_range_end (I.ok.hd hc) st (by have:n≤i:=hg;omega) λh' eb=>⟨rfl,I.turned (t':=s.toks) (λb o hb e=>eb b o hb e) f0 f1 f3 f4 f5⟩
 self:=λ_ _ _ _ _ st h=>wpAny_pyIter_rangeiter st h
end L2
namespace L2
open PySem PySem.Spec PyProof.Rows
section
variable {X:Cx} {tg:Expr}
def BQ (K:PySem.W.Frag) (tl:TE):TI:=λσ H R=>tl σ H λx H1=>∃a,x=.ref a∧(∃xs,cW K H1 a xs)∧R (Hw K a) H1
def QZ (K:PySem.W.Frag) (tl:TE):TI:=λσ H R=>tl σ H λx H1=>∃a,x=.ref a∧(∃xs,gK K H1 a xs)∧R (S9 K a) H1
theorem ni {l:Expr} {tl:TE} (hl:PE X l tl):PI X tg l (BQ X.K tl):=by
 intro pins s σ H R I h
 refine cq (hl pins s σ H _ I h) λv s1 ⟨x,H1,I1,r1,q1⟩=>?_
 obtain ⟨a,e,⟨xs,hq⟩,q⟩:=q1
 subst e
 cases r1
 obtain ⟨its,rv,p,hz⟩:=I1.list hq
 refine wpAny_pyIter_list p.isList ?_
 refine ⟨s1.heap.objs.size,[s1.heap.objs.size],_,_,H1,rfl,I1.kept (t':=s1.toks) λb o e=>Heap.get?_push_of_some _ e,Ea a _,⟨_,Heap.get?_push_size _ rfl,rfl,rfl⟩,λb hb=>?_,q⟩
 have e:b=s1.heap.objs.size:=by simpa using hb
 subst e
 exact I1.E4 (TF _) (I1.hok.fresh (TF _))
theorem Gx {pins:List (Addr × Obj)} {σ:St} {H:Hp} {s:Shared} {R:It→Hp→Prop} {E:Value→Shared→Prop} {lo hi:Int} {t u v:Tok} {tk:Nat} (I:Inv X pins σ H s) (h1:-(2 ^ 62)≤lo) (h2:lo < 2 ^ 62) (h3:-(2 ^ 62)≤hi) (h4:hi < 2 ^ 62)
  (q:R (Ew lo (hi - lo).toNat) H):wpAny (model X.prog X.w) X.A (pyIter (.ref s.heap.objs.size)) (SA X pins σ tg R) E { s with heap:=s.heap.push { cls:=.type "range",data:=.fields #[.int lo t,.int hi u,.int 1 v] },toks:=tk }:=by
 refine wpAny_pyIter_range (IsRange.new ..) (small_one h1 h2 h3 h4) ?_
 have I1:Inv X pins σ H { s with heap:=s.heap.push { cls:=.type "range",data:=.fields #[.int lo t,.int hi u,.int 1 v] },toks:=tk }:=I.kept λb o e=>Heap.get?_push_of_some _ e
 refine ⟨(s.heap.push { cls:=.type "range",data:=.fields #[.int lo t,.int hi u,.int 1 v] }).objs.size,[(s.heap.push { cls:=.type "range",data:=.fields #[.int lo t,.int hi u,.int 1 v] }).objs.size],_,_,H,rfl,
  I1.kept (t':=tk) λb o e=>Heap.get?_push_of_some _ e,Bf _ lo (hi - lo).toNat,?_,λb hb=>?_,q⟩
 ·have e1:lo + ((0:Nat):Int) * 1=lo:=by simp
  have e2:(((hi - lo).toNat:Nat):Int) - ((0:Nat):Int)=Builtin.Range.rangeSize lo hi 1:=by rw [rangeSize_one];split <;> omega
  show IsRangeIter _ _ (lo + ((0:Nat):Int) * 1) ((((hi - lo).toNat:Nat):Int) - ((0:Nat):Int)) 1
  rw [e1,e2]
  exact Heap.get?_push_size _ rfl
 ·have e:b=(s.heap.push { cls:=.type "range",data:=.fields #[.int lo t,.int hi u,.int 1 v] }).objs.size:=by simpa using hb
  subst e
  exact I1.E4 (TF _) (I1.hok.fresh (TF _))
def BR (ta:TA):TI:=λσ H R=>ta σ H λvs H1=>∃j:Int,vs=[.int j]∧-(2 ^ 62)≤j∧j < 2 ^ 62∧R (Ew 0 j.toNat) H1
def JY (ta:TA):TI:=λσ H R=>ta σ H λvs H1=>∃i j:Int,vs=[.int i,.int j]∧(-(2 ^ 62)≤i∧i < 2 ^ 62∧-(2 ^ 62)≤j∧j < 2 ^ 62)∧R (Ew i (j - i).toNat) H1
theorem fY {a:Expr} {ta:TA} {p pos:Pos} (hg:Gl X "range") (hm:X.mg "range"=none) (ha:PA X [a] ta) (hs:starEach [a] X.env=[(false,eval a X.env)]:=by rfl):PI X tg (.Call (.Name "range" p) [a] [] pos) (BR ta):=by
 intro pins s σ H R I h
 refine Call_ (mf I hg hm boot_range (PyProof.Rows.callWith_type1 (cq (ha pos pins s σ H _ I h) λus s1 ⟨vs,H1,I1,r1,q1⟩=>?_) hs rfl))
 obtain ⟨j,e,q1,q2,q⟩:=q1
 subst e
 cases r1 with
 | cons r rr =>
  cases rr
  obtain ⟨t,rfl⟩:=r
  exact call_range_1 (Gx I1 (by omega) (by omega) q1 q2 (by simpa using q))
def Na (wi:TI) (g:TG) (tb:TS):TS:=λD σ H=>wi σ H λJ H1=>∃W:Nat→Nat→St→Hp→Prop,(∃m,W 0 m σ H1)∧∀i m σ H,W i m σ H →
 (J.stop i H∧D.nx σ H)∨(J.go i H∧∃N:St→Hp→Prop,(∀σ' H',N σ' H'→∃m',m' < m∧W (i + 1) m' σ' H')∧∀x H',J.yld i H x H'→g x σ H' λσ2 H2=>tb { D with nx:=N,ct:=N,bk:=D.nx } σ2 H2)
def wm (fp:List Addr) (h:Heap):List (Addr × Obj):=fp.filterMap λb=>(h.get? b).map λo=>(b,o)
theorem cI {fp:List Addr} {h:Heap} {b:Addr} {o:Obj} (hb:b∈fp) (e:h.get? b=some o):(b,o)∈wm fp h:=Vq.mpr ⟨b,hb,by rw [e];rfl⟩
theorem DF {fp:List Addr} {h:Heap} {p:Addr × Obj} (hp:p∈wm fp h):p.1∈fp∧h.get? p.1=some p.2:=by
 obtain ⟨b,hb,e⟩:=Vq.mp hp
 cases q:h.get? b with
 | none=>rw [q] at e;cases e
 | some o =>
  rw [q] at e
  have e':(b,o)=p:=Option.some.inj e
  subst e'
  exact ⟨hb,q⟩
theorem Inv.pinned {pins:List (Addr × Obj)} {σ:St} {H:Hp} {s:Shared} {fp:List Addr} (I:Inv X pins σ H s) (hf:∀b∈fp,lI X pins H b) (ho:∀b∈fp,∃o,s.heap.get? b=some o∧∀v,o.data≠.cell v):Inv X (pins ++ wm fp s.heap) σ H s :=
 I.B8 λp hp=>(TQ.mp hp).elim (λz=>I.pin p (TV _ z)) λz=>by
  obtain ⟨hb,e⟩:=DF z
  obtain ⟨f0,f1,f2,_⟩:=hf p.1 hb
  obtain ⟨o,e',d⟩:=ho p.1 hb
  rw [e] at e';cases e'
  exact ⟨e,f0,f1,f2,d⟩
theorem Inv.gI {pins pl:List (Addr × Obj)} {σ:St} {H:Hp} {s:Shared} (I:Inv X (pins ++ pl) σ H s):Inv X pins σ H s:=I.B8 λp hp=>I.pin p (TV _ (UY _ hp))
theorem oJ {iter:Expr} {body:List Stmt} {wi:TI} {g:TG} {tb:TS} {pos:Pos} (hp:PassesOwn (model X.prog X.w) X.A X.env X.xe) (hc:X.calm=true) (hi:PI X tg iter wi) (hg:PG X tg g) (hb:uu X body tb)
  (hs:∀x,foldedSetIterable iter X.env x=pure x:=by intro _;rfl):PS X (.For tg iter body [] pos) (Na wi g tb):=by
 intro pins s σ H D I h
 refine wpAny_For (cq (hi pins s σ H _ I h) λv s1 h1=>cq h1 λitv s2 h2=>?_) hs
 obtain ⟨it,fp,tn,J,H2,e,I2,T,st2,f2,W,⟨m0,w0⟩,turn⟩:=h2
 subst e
 have stat:∀{H':Hp},(∀b∈fp,H' b=none)→∀b∈fp,lI X pins H' b:=λhn b hb=>⟨hn b hb,(f2 b hb).2⟩
 refine codeAny_forLoop_any (λn s'=>∃i σ' H',Inv X pins σ' H' s'∧tn i s'.heap∧(∀b∈fp,H' b=none)∧W i n σ' H') ?_ m0 ⟨0,σ,H2,I2,st2,λb hb=>(f2 b hb).1,w0⟩
 rintro n s3 ⟨i,σ3,H3,I3,st3,fr3,w3⟩
 rcases turn i n σ3 H3 w3 with ⟨stop,qn⟩ | ⟨go,N,hN,step⟩
 ·refine wpAny_passesOwn hp (cq (T.done X rfl rfl rfl hc i pins s3 σ3 H3 X.xe I3 (stat fr3) st3 stop) λr s4 ⟨hr,I4⟩=>?_)
  subst hr
  exact wpAny_execs_nil ⟨σ3,H3,I4,qn⟩
 ·refine wpAny_passesOwn hp (cq (T.item X rfl rfl rfl hc i pins s3 σ3 H3 X.xe I3 (stat fr3) st3 go) λr s4 ⟨u,hr,h4⟩=>?_)
  subst hr
  refine wpAny_passesOwn hp (cq h4 λ_ s5 ⟨x,H5,I5,r5,y5,st5,fr5⟩=>?_)
  have I5':=I5.pinned (stat fr5) (T.obj _ _ st5)
  refine wpAny_passesOwn hp (cq (hg _ s5 σ3 H5 x u _ I5' r5 (step x H5 y5)) λ_ s6 ⟨σ6,H6,I6,q6⟩=>?_)
  refine wpAny_passesOwn hp (cq (hb _ s6 σ6 H6 _ I6 q6) λf s7 q7=>?_)
  have again:∀{σ7:St} {H7:Hp},Inv X (pins ++ wm fp s5.heap) σ7 H7 s7→N σ7 H7→∃m,m < n∧∃i σ' H',Inv X pins σ' H' s7∧tn i s7.heap∧(∀b∈fp,H' b=none)∧W i m σ' H':=λ{σ7 H7} I7 n7=>by
   obtain ⟨m',hm,w7⟩:=hN σ7 H7 n7
   refine ⟨m',hm,i + 1,σ7,H7,I7.gI,T.keep _ _ _ st5 λb hb o e=>(I7.pin (b,o) (TV _ (TV _ (cI hb e)))).1,λb hb=>?_,w7⟩
   obtain ⟨o,e,d⟩:=T.obj _ _ st5 b hb
   exact (I7.pin (b,o) (TV _ (TV _ (cI hb e)))).2.1
  cases f with
  | next=>obtain ⟨σ7,H7,I7,n7⟩:=q7;exact again I7 n7
  | cont=>obtain ⟨σ7,H7,I7,n7⟩:=q7;exact again I7 n7
  | brk=>obtain ⟨σ7,H7,I7,q7⟩:=q7;exact ⟨σ7,H7,I7.gI,q7⟩
  | ret v=>obtain ⟨x7,σ7,H7,I7,r7,q7⟩:=q7;exact ⟨x7,σ7,H7,I7.gI,r7,q7⟩
end
theorem E3 {K:PySem.W.Frag} {a:Addr} {xs:List V} {g:TG} {tb:TS} {D:Ends} {σ:St} {H:Hp} (Pv:Nat→St→Hp→Prop) (h0:Pv 0 σ H) (hl:∀i σ H,i≤xs.length→Pv i σ H→cW K H a xs)
  (hs:∀i x σ H,xs[i]?=some x→Pv i σ H→g x σ H λσ2 H2=>tb { D with nx:=Pv (i + 1),ct:=Pv (i + 1),bk:=D.nx } σ2 H2) (hd:∀σ H,Pv xs.length σ H→D.nx σ H) :
  ∃W:Nat→Nat→St→Hp→Prop,(∃m,W 0 m σ H)∧∀i m σ H,W i m σ H →
   ((Hw K a).stop i H∧D.nx σ H)∨((Hw K a).go i H∧∃N:St→Hp→Prop,(∀σ' H',N σ' H'→∃m',m' < m∧W (i + 1) m' σ' H')∧∀x H',(Hw K a).yld i H x H'→g x σ H' λσ2 H2=>tb { D with nx:=N,ct:=N,bk:=D.nx } σ2 H2):=by
 refine ⟨λi m σ H=>m=xs.length - i∧i≤xs.length∧Pv i σ H,⟨xs.length,by simp,Ue _,h0⟩,?_⟩
 rintro i m σ H ⟨rfl,hi,p⟩
 have q:=hl i σ H hi p
 by_cases hlt:i < xs.length
 ·refine .inr ⟨⟨xs,xs[i],q,by simp [hlt]⟩,Pv (i + 1),λσ' H' p'=>⟨xs.length - (i + 1),by omega,rfl,hlt,p'⟩,λx H' y=>?_⟩
  obtain ⟨e,y⟩:=y
  subst e
  exact hs i x σ _ (y xs q) p
 ·have e:i=xs.length:=by omega
  subst e
  exact .inl ⟨⟨xs,q,TF _⟩,hd σ H p⟩
theorem uI {lo:Int} {n:Nat} {g:TG} {tb:TS} {D:Ends} {σ:St} {H:Hp} (Pv:Nat→St→Hp→Prop) (h0:Pv 0 σ H)
  (hs:∀i σ H,i < n→Pv i σ H→g (.int (lo + i)) σ H λσ2 H2=>tb { D with nx:=Pv (i + 1),ct:=Pv (i + 1),bk:=D.nx } σ2 H2) (hd:∀σ H,Pv n σ H→D.nx σ H) :
  ∃W:Nat→Nat→St→Hp→Prop,(∃m,W 0 m σ H)∧∀i m σ H,W i m σ H →
   ((Ew lo n).stop i H∧D.nx σ H)∨((Ew lo n).go i H∧∃N:St→Hp→Prop,(∀σ' H',N σ' H'→∃m',m' < m∧W (i + 1) m' σ' H')∧∀x H',(Ew lo n).yld i H x H'→g x σ H' λσ2 H2=>tb { D with nx:=N,ct:=N,bk:=D.nx } σ2 H2):=by
 refine ⟨λi m σ H=>m=n - i∧i≤n∧Pv i σ H,⟨n,by simp,Ue _,h0⟩,?_⟩
 rintro i m σ H ⟨rfl,hi,p⟩
 by_cases hlt:i < n
 ·refine .inr ⟨hlt,Pv (i + 1),λσ' H' p'=>⟨n - (i + 1),by omega,rfl,hlt,p'⟩,λx H' y=>?_⟩
  obtain ⟨e,y⟩:=y
  subst e y
  exact hs i σ _ hlt p
 ·have e:i=n:=by omega
  subst e
  exact .inl ⟨TF _,hd σ H p⟩
theorem zt {c:TT} {tb:TS} {D:Ends} {σ:St} {H:Hp} (Pv:St→Hp→Prop) (μ:St→Hp→Nat) (h0:Pv σ H)
  (hs:∀σ H,Pv σ H→c σ H λb H1=>if b=true then tb { D with nx:=λσ' H'=>Pv σ' H'∧μ σ' H' < μ σ H,ct:=λσ' H'=>Pv σ' H'∧μ σ' H' < μ σ H,bk:=D.nx } σ H1 else D.nx σ H1)
  (mono:∀σ H Q Q',(∀b H1,Q b H1→Q' b H1)→c σ H Q→c σ H Q'):xt c tb D σ H:=by
 refine ⟨λm σ H=>m=μ σ H∧Pv σ H,⟨_,rfl,h0⟩,?_⟩
 rintro m σ H ⟨rfl,p⟩
 refine mono σ H _ _ (λb H1 q=>?_) (hs σ H p)
 cases b with
 | true=>exact ⟨_,λσ' H' ⟨p',l⟩=>⟨_,l,rfl,p'⟩,q⟩
 | false=>exact q
end L2
namespace L2
open PySem PySem.Spec PyProof.Rows
abbrev R2:=V→V→Hp→VK→Prop
def fm (X:Cx) (f:Value→Value→Sem Value) (r:R2):Prop :=
 ∀(pins:List (Addr × Obj)) (s:Shared) (σ:St) (H:Hp) (x y:V) (v u:Value) (Q:VK),Inv X pins σ H s→RelV x v→RelV y u→r x y H Q →
  wpAny (model X.prog X.w) X.A (f v u) (EP X pins σ Q) X.xe s
def xO (X:Cx) (f:Value→Sem Value) (r:V→Hp→VK→Prop):Prop :=
 ∀(pins:List (Addr × Obj)) (s:Shared) (σ:St) (H:Hp) (x:V) (v:Value) (Q:VK),Inv X pins σ H s→RelV x v→r x H Q →
  wpAny (model X.prog X.w) X.A (f v) (EP X pins σ Q) X.xe s
def bY (X:Cx) (f:Value) (r:List V→Hp→VK→Prop):Prop :=
 ∀(pins:List (Addr × Obj)) (s:Shared) (σ:St) (H:Hp) (xs:List V) (us:List Value) (Q:VK),Inv X pins σ H s→Vals xs us→r xs H Q →
  wpAny (model X.prog X.w) X.A (call f us) (EP X pins σ Q) X.xe s
def QJ (X:Cx) (r:V→Hp→(Bool→Hp→Prop)→Prop):Prop :=
 ∀(pins:List (Addr × Obj)) (s:Shared) (σ:St) (H:Hp) (x:V) (v:Value) (Q:Bool→Hp→Prop),Inv X pins σ H s→RelV x v→r x H Q →
  wpAny (model X.prog X.w) X.A (truthy v) (TP X pins σ Q) X.xe s
def G6 (r:R2) (ta tb:TE):TE:=λσ H Q=>ta σ H λx H1=>tb σ H1 λy H2=>r x y H2 Q
def Qt (r:V→Hp→VK→Prop) (ta:TE):TE:=λσ H Q=>ta σ H λx H1=>r x H1 Q
def rI (C:Int→Int→Prop) (g:Int→Int→V):R2:=λx y H Q=>∃i j,x=.int i∧y=.int j∧C i j∧Q (g i j) H
def Hf (g:Int→Int→V):R2:=λx y H Q=>∃i j,x=.int i∧y=.int j∧Q (g i j) H
def rU (g:Int→V):V→Hp→VK→Prop:=λx H Q=>∃i,x=.int i∧Q (g i) H
section
variable {X:Cx} {a b c:Expr} {ta tb tc:TE} {pos:Pos}
theorem Ls (ha:PE X a ta) (hb:PE X b tb) {pins:List (Addr × Obj)} {s:Shared} {σ:St} {H:Hp} {R:V→V→Hp→Prop} (I:Inv X pins σ H s)
  (h:ta σ H λx H1=>tb σ H1 λy H2=>R x y H2) {Q:Value→Shared→Prop} {f:Value→Value→Sem Value}
  (hf:∀v u s2 x y H2,Inv X pins σ H2 s2→RelV x v→RelV y u→R x y H2→wpAny (model X.prog X.w) X.A (f v u) Q X.xe s2) :
  wpAny (model X.prog X.w) X.A (eval a X.env) (λv s₁=>wpAny (model X.prog X.w) X.A (eval b X.env) (λu s₂=>wpAny (model X.prog X.w) X.A (f v u) Q X.xe s₂) X.xe s₁) X.xe s:=by
 refine cq (ha pins s σ H _ I h) λv s1 ⟨x,H1,I1,r1,q1⟩=>?_
 refine cq (hb pins s1 σ H1 _ I1 q1) λu s2 ⟨y,H2,I2,r2,q2⟩=>?_
 exact hf v u s2 x y H2 I2 r1 r2 q2
theorem bj {op:Operator} {r:R2} (ho:fm X (binaryOp op) r) (ha:PE X a ta) (hb:PE X b tb):PE X (.BinOp a op b pos) (G6 r ta tb):=by
 intro pins s σ H Q I h
 exact wpAny_BinOp (Ls ha hb I h λv u s2 x y H2 I2 rx ry q=>ho pins s2 σ H2 x y v u Q I2 rx ry q)
theorem B7 {op:UnaryOp} {r:V→Hp→VK→Prop} (ho:xO X (unaryOp op) r) (ha:PE X a ta):PE X (.UnaryOp op a pos) (Qt r ta):=by
 intro pins s σ H Q I h
 exact UnaryOp_ (cq (ha pins s σ H _ I h) λv s1 ⟨x,H1,I1,r1,q1⟩=>ho pins s1 σ H1 x v Q I1 r1 q1)
theorem Qm {f:Value→Value→Sem Value} {C:Int→Int→Prop} {g:Int→Int→Int}
  (rule:∀(i j:Int) (t u:Tok) (s:Shared) (Q:Value→Shared→Prop) (E:Value→Shared→Prop),C i j→Q (.int (g i j) s.toks) { s with toks:=s.toks + 1 }→wpAny (model X.prog X.w) X.A (f (.int i t) (.int j u)) Q E s) :
  fm X f (rI C λi j=>.int (g i j)):=by
 intro pins s σ H x y v u Q I rx ry h
 obtain ⟨i,j,rfl,rfl,hc,q⟩:=h
 obtain ⟨t,rfl⟩:=rx
 obtain ⟨t',rfl⟩:=ry
 exact rule i j t t' s _ _ hc ⟨.int (g i j),H,I.tok _,⟨_,rfl⟩,q⟩
theorem OV {f:Value→Value→Sem Value} {g:Int→Int→Int}
  (rule:∀(i j:Int) (t u:Tok) (s:Shared) (Q:Value→Shared→Prop) (E:Value→Shared→Prop),Q (.int (g i j) s.toks) { s with toks:=s.toks + 1 }→wpAny (model X.prog X.w) X.A (f (.int i t) (.int j u)) Q E s) :
  fm X f (Hf λi j=>.int (g i j)):=by
 intro pins s σ H x y v u Q I rx ry h
 obtain ⟨i,j,rfl,rfl,q⟩:=h
 obtain ⟨t,rfl⟩:=rx
 obtain ⟨t',rfl⟩:=ry
 exact rule i j t t' s _ _ ⟨.int (g i j),H,I.tok _,⟨_,rfl⟩,q⟩
theorem II {f:Value→Value→Sem Value} {g:Int→Int→Bool}
  (rule:∀(i j:Int) (t u:Tok) (s:Shared) (Q:Value→Shared→Prop) (E:Value→Shared→Prop),Q (.bool (g i j)) s→wpAny (model X.prog X.w) X.A (f (.int i t) (.int j u)) Q E s) :
  fm X f (Hf λi j=>.bl (g i j)):=by
 intro pins s σ H x y v u Q I rx ry h
 obtain ⟨i,j,rfl,rfl,q⟩:=h
 obtain ⟨t,rfl⟩:=rx
 obtain ⟨t',rfl⟩:=ry
 exact rule i j t t' s _ _ ⟨.bl (g i j),H,I,rfl,q⟩
def Qw (i j:Int):Prop:=0≤j∧j≤1000000∧i.natAbs < 2 ^ 64
theorem jf:fm X (binaryOp .Add) (Hf λi j=>.int (i + j)):=OV λ_ _ _ _ _ _ _ q=>add_int q
theorem Ay:fm X (binaryOp .Sub) (Hf λi j=>.int (i - j)):=OV λ_ _ _ _ _ _ _ q=>sub_int q
theorem gr:fm X (binaryOp .Mod) (rI (λ_ j=>0 < j) λi j=>.int (i % j)):=Qm λi j _ _ _ _ _ hc q=>by
 have h1:(0:Int) < j:=hc
 exact mod_int' (by omega) (by rw [Int.fmod_eq_emod_of_nonneg i (by omega)];exact q)
theorem F5:fm X (binaryOp .Pow) (rI Qw λi j=>.int (i ^ j.toNat)):=Qm λ_ _ _ _ _ _ _ hc q=>pow_int_small hc.1 hc.2.1 hc.2.2 q
theorem Tw {f:Value→Sem Value} {g:Int→Int}
  (rule:∀(i:Int) (t:Tok) (s:Shared) (Q:Value→Shared→Prop) (E:Value→Shared→Prop),Q (.int (g i) s.toks) { s with toks:=s.toks + 1 }→wpAny (model X.prog X.w) X.A (f (.int i t)) Q E s) :
  xO X f (rU λi=>.int (g i)):=by
 intro pins s σ H x v Q I rx h
 obtain ⟨i,rfl,q⟩:=h
 obtain ⟨t,rfl⟩:=rx
 exact rule i t s _ _ ⟨.int (g i),H,I.tok _,⟨_,rfl⟩,q⟩
theorem G':xO X (unaryOp .USub) (rU λi=>.int (-i)):=Tw λ_ _ _ _ _ q=>neg_int q
end
def GJ:V→V→Bool
 | .non,.non=>true | .non,.int _=>true | .int _,.non=>true | .non,.bl _=>true | .bl _,.non=>true | .non,.str _=>true | .str _,.non=>true
 | .int _,.int _=>true | .bl _,.bl _=>true | .str _,.str _=>true | .byt _,.byt _=>true
 | .int _,.str _=>true | .str _,.int _=>true | .bl _,.str _=>true | .str _,.bl _=>true
 | _,_=>false
def S1:R2:=λx y H Q=>GJ x y=true∧Q (.bl (decide (x=y))) H
def S5:R2:=λx y H Q=>GJ x y=true∧Q (.bl (!decide (x=y))) H
theorem BB {i j:Int}:decide (V.int i=V.int j)=(i == j):=by
 rw [UL]
 simp
theorem ET {i j:Bool}:decide (V.bl i=V.bl j)=(i == j):=by
 rw [UL]
 simp
theorem BC {i j:Str}:decide (V.str i=V.str j)=(i == j):=by
 rw [UL]
 simp
theorem BA {i j:Array UInt8}:decide (V.byt i=V.byt j)=(i.toList == j.toList):=by
 rw [UL]
 cases i
 cases j
 simp
section
variable {X:Cx} {a b c:Expr} {ta tb tc:TE} {pos:Pos}
theorem bt {pins:List (Addr × Obj)} {σ:St} {H:Hp} {s:Shared} {Q:VK} {k k':Bool} (I:Inv X pins σ H s) (q:Q (.bl k) H) (e:k=k'):EP X pins σ Q (.bool k') s:=by
 subst e
 exact ⟨.bl k,H,I,rfl,q⟩
theorem F4:fm X (compareOp .Eq) S1:=by
 intro pins s σ H x y v u Q I rx ry h
 obtain ⟨hs,q⟩:=h
 cases x with
 | non =>
  cases rx
  cases y with
  | non=>cases ry;exact PySem.EqNone.eq_none_none (bt I q (by simp))
  | bl j=>cases ry;exact PySem.EqNone.eq_none_bool (bt I q (by simp))
  | int j=>obtain ⟨t',rfl⟩:=ry;exact PySem.EqNone.eq_none_int (bt I q (by simp))
  | str j=>obtain ⟨t',rfl⟩:=ry;exact PySem.EqNone.eq_none_str (bt I q (by simp))
  | _=>exact absurd (show false=true from hs) TY
 | bl i =>
  cases rx
  cases y with
  | non=>cases ry;exact PySem.EqNone.eq_bool_none (bt I q (by simp))
  | bl j=>cases ry;exact eq_bool (bt I q ET)
  | str j=>obtain ⟨t',rfl⟩:=ry;exact PySem.EqMixed.eq_bool_str (bt I q (by simp))
  | _=>exact absurd (show false=true from hs) TY
 | int i =>
  obtain ⟨t,rfl⟩:=rx
  cases y with
  | non=>cases ry;exact PySem.EqNone.eq_int_none (bt I q (by simp))
  | int j=>obtain ⟨t',rfl⟩:=ry;exact eq_int (bt I q BB)
  | str j=>obtain ⟨t',rfl⟩:=ry;exact PySem.EqMixed.eq_int_str (bt I q (by simp))
  | _=>exact absurd (show false=true from hs) TY
 | str i =>
  obtain ⟨t,rfl⟩:=rx
  cases y with
  | non=>cases ry;exact PySem.EqNone.eq_str_none (bt I q (by simp))
  | bl j=>cases ry;exact PySem.EqMixed.eq_str_bool (bt I q (by simp))
  | int j=>obtain ⟨t',rfl⟩:=ry;exact PySem.EqMixed.eq_str_int (bt I q (by simp))
  | str j=>obtain ⟨t',rfl⟩:=ry;exact eq_str (bt I q BC)
  | _=>exact absurd (show false=true from hs) TY
 | byt i =>
  obtain ⟨t,rfl⟩:=rx
  cases y with
  | byt j=>obtain ⟨t',rfl⟩:=ry;exact PySem.W.eq_bytes (bt I q BA)
  | _=>exact absurd (show false=true from hs) TY
 | _=>cases y <;> exact absurd (show false=true from hs) TY
theorem Ks:fm X (compareOp .NotEq) S5:=by
 intro pins s σ H x y v u Q I rx ry h
 obtain ⟨hs,q⟩:=h
 cases x with
 | non =>
  cases rx
  cases y with
  | non=>cases ry;exact PySem.EqNone.ne_none_none (bt I q (by simp))
  | bl j=>cases ry;exact PySem.EqNone.ne_none_bool (bt I q (by simp))
  | int j=>obtain ⟨t',rfl⟩:=ry;exact PySem.EqNone.ne_none_int (bt I q (by simp))
  | str j=>obtain ⟨t',rfl⟩:=ry;exact PySem.EqNone.ne_none_str (bt I q (by simp))
  | _=>exact absurd (show false=true from hs) TY
 | bl i =>
  cases rx
  cases y with
  | non=>cases ry;exact PySem.EqNone.ne_bool_none (bt I q (by simp))
  | bl j=>cases ry;exact ne_bool (bt I q (congrArg not ET))
  | str j=>obtain ⟨t',rfl⟩:=ry;exact PySem.EqMixed.ne_bool_str (bt I q (by simp))
  | _=>exact absurd (show false=true from hs) TY
 | int i =>
  obtain ⟨t,rfl⟩:=rx
  cases y with
  | non=>cases ry;exact PySem.EqNone.ne_int_none (bt I q (by simp))
  | int j=>obtain ⟨t',rfl⟩:=ry;exact ne_int (bt I q (congrArg not BB))
  | str j=>obtain ⟨t',rfl⟩:=ry;exact PySem.EqMixed.ne_int_str (bt I q (by simp))
  | _=>exact absurd (show false=true from hs) TY
 | str i =>
  obtain ⟨t,rfl⟩:=rx
  cases y with
  | non=>cases ry;exact PySem.EqNone.ne_str_none (bt I q (by simp))
  | bl j=>cases ry;exact PySem.EqMixed.ne_str_bool (bt I q (by simp))
  | int j=>obtain ⟨t',rfl⟩:=ry;exact PySem.EqMixed.ne_str_int (bt I q (by simp))
  | str j=>obtain ⟨t',rfl⟩:=ry;exact ne_str (bt I q (congrArg not BC))
  | _=>exact absurd (show false=true from hs) TY
 | byt i =>
  obtain ⟨t,rfl⟩:=rx
  cases y with
  | byt j=>obtain ⟨t',rfl⟩:=ry;exact PySem.W.ne_bytes (bt I q (congrArg not BA))
  | _=>exact absurd (show false=true from hs) TY
 | _=>cases y <;> exact absurd (show false=true from hs) TY
theorem B4:fm X (compareOp .Lt) (Hf λi j=>.bl (decide (i < j))):=II λ_ _ _ _ _ _ _ q=>lt_int q
theorem Kr:fm X (compareOp .LtE) (Hf λi j=>.bl (decide (i≤j))):=II λ_ _ _ _ _ _ _ q=>le_int q
theorem Kq:fm X (compareOp .Gt) (Hf λi j=>.bl (decide (j < i))):=II λ_ _ _ _ _ _ _ q=>gt_int q
theorem Kp:fm X (compareOp .GtE) (Hf λi j=>.bl (decide (j≤i))):=II λ_ _ _ _ _ _ _ q=>ge_int q
theorem DQ:fm X (compareOp .Lt) (λx y H Q=>∃i j,x=.str i∧y=.str j∧Q (.bl (decide (i.cps.toList < j.cps.toList))) H):=by
 intro pins s σ H x y v u Q I rx ry h
 obtain ⟨i,j,rfl,rfl,q⟩:=h
 obtain ⟨t,rfl⟩:=rx
 obtain ⟨t',rfl⟩:=ry
 exact lt_str (bt I q rfl)
theorem My:fm X (compareOp .Is) (λx y H Q=>y=.non∧Q (.bl (decide (x=.non))) H):=by
 intro pins s σ H x y v u Q I rx ry h
 obtain ⟨rfl,q⟩:=h
 cases ry
 refine is_none_gen (bt I q ?_)
 cases x <;> first
  | (cases rx;rfl)
  | (obtain ⟨t,rfl⟩:=rx;rfl)
theorem IK:fm X (compareOp .IsNot) (λx y H Q=>y=.non∧Q (.bl (!decide (x=.non))) H):=by
 intro pins s σ H x y v u Q I rx ry h
 obtain ⟨rfl,q⟩:=h
 cases ry
 refine isnot_none_gen (bt I q ?_)
 cases x <;> first
  | (cases rx;rfl)
  | (obtain ⟨t,rfl⟩:=rx;rfl)
theorem fm.or {f:Value→Value→Sem Value} {r r':R2} (h:fm X f r) (h':fm X f r'):fm X f (λx y H Q=>r x y H Q∨r' x y H Q):=by
 intro pins s σ H x y v u Q I rx ry q
 rcases q with q | q
 ·exact h pins s σ H x y v u Q I rx ry q
 ·exact h' pins s σ H x y v u Q I rx ry q
theorem eY (b:Expr) {op:CmpOp} (h:op≠.In:=by decide) (h2:op≠.NotIn:=by decide):behindInMarks op b=false:=by
 have e1:(op == CmpOp.In)=false:=by cases op <;> first | rfl | exact absurd rfl h
 have e2:(op == CmpOp.NotIn)=false:=by cases op <;> first | rfl | exact absurd rfl h2
 cases b <;> simp [behindInMarks,e1,e2]
theorem qa {op:CmpOp} {r:R2} (ho:fm X (compareOp op) r) (ha:PE X a ta) (hb:PE X b tb) (hm:behindInMarks op b=false):PE X (.Compare a [op] [b] pos) (G6 r ta tb):=by
 intro pins s σ H Q I h
 exact wpAny_Compare1 (Ls ha hb I h λv u s2 x y H2 I2 rx ry q=>ho pins s2 σ H2 x y v u Q I2 rx ry q) hm
def CU (t:TE):TT:=λσ H Q=>t σ H λx H'=>∃k,x=.bl k∧Q k H'
theorem du {op:CmpOp} {r:R2} (ho:fm X (compareOp op) r) (ha:PE X a ta) (hb:PE X b tb) (hm:behindInMarks op b=false):PT X (.Compare a [op] [b] pos) (CU (G6 r ta tb)):=by
 intro pins s σ H Q I h
 refine wpAny_isTrue_Compare1 (cq (ha pins s σ H _ I h) λv s1 ⟨x,H1,I1,r1,q1⟩=>cq (hb pins s1 σ H1 _ I1 q1) λu s2 ⟨y,H2,I2,r2,q2⟩ =>
  cq (ho pins s2 σ H2 x y v u _ I2 r1 r2 q2) λc s3 ⟨z,H3,I3,r3,k,e,q3⟩=>?_) hm
 subst e
 cases r3
 exact wpAny_truthy_bool ⟨H3,I3,q3⟩
def G1 (r r':R2) (ta tb tc:TE):TE:=λσ H Q=>ta σ H λx H1=>tb σ H1 λy H2=>r x y H2 λz H3=>∃k,z=.bl k ∧
 (if k=true then tc σ H3 λw' H4=>r' y w' H4 Q else Q (.bl false) H3)
theorem Ga {op op':CmpOp} {r r':R2} (ho:fm X (compareOp op) r) (ho':fm X (compareOp op') r') (ha:PE X a ta) (hb:PE X b tb) (hc:PE X c tc)
  (hm:lastMarks [op,op'] [b,c]=false:=by with_unfolding_all rfl):PE X (.Compare a [op,op'] [b,c] pos) (G1 r r' ta tb tc):=by
 intro pins s σ H Q I h
 refine Compare_chain (cq (ha pins s σ H _ I h) λv s1 ⟨x,H1,I1,r1,q1⟩=>chain_link (cq (hb pins s1 σ H1 _ I1 q1) λu s2 ⟨y,H2,I2,r2,q2⟩ =>
  cq (ho pins s2 σ H2 x y v u _ I2 r1 r2 q2) λd s3 ⟨z,H3,I3,r3,k,e,q3⟩=>?_)) hm
 subst e
 cases r3
 refine wpAny_truthy_bool ?_
 cases k with
 | false=>exact ite_ff ⟨.bl false,H3,I3,rfl,q3⟩
 | true=>exact ite_tt (chain_last (cq (hc pins s3 σ H3 _ I3 q3) λw' s4 ⟨z',H4,I4,r4,q4⟩=>ho' pins s4 σ H4 y z' u w' Q I4 r2 r4 q4))
def Lk (K:PySem.W.Frag) (x:V) (H:Hp) (k:Bool):Prop :=
 match x with
 | .non=>k=false
 | .bl b=>k=b
 | .int i=>k=(i != 0)
 | .str y=>y.length≤sizeLine∧k=((y.length:Int) != 0)
 | .byt y=>y.size≤sizeLine∧k=((y.size:Int) != 0)
 | .ref p=>(∃xs,cW K H p xs∧k=!xs.isEmpty)∨(∃xs,gK K H p xs∧k=!xs.isEmpty)∨∃kvs ep,H p=some (.dE kvs ep)∧k=!kvs.isEmpty
 | _=>False
theorem Ag {κ:Type} {kvs:List (κ × V)} {vs:List (κ × Value)} (r:KV kvs vs):(!vs.isEmpty)=!kvs.isEmpty:=by
 cases r <;> rfl
theorem qW {xs:List V} {its:List Value} (r:Vals xs its):(!its.toArray.isEmpty)=!xs.isEmpty:=by
 cases r <;> simp
theorem mi:(sizeLine:Nat) < 2 ^ 63:=by rw [sizeLine_eq];decide
theorem Nf:QJ X (λx H Q=>∃k,Lk X.K x H k∧Q k H):=by
 intro pins s σ H x v Q I rx h
 obtain ⟨k,e,q⟩:=h
 have hl:=mi
 have hs:sizeLine=16777216:=sizeLine_eq
 cases x with
 | non =>
  cases rx
  have e':k=false:=e
  subst e'
  exact truthy_none ⟨H,I,q⟩
 | bl b =>
  cases rx
  have e':k=b:=e
  subst e'
  exact wpAny_truthy_bool ⟨H,I,q⟩
 | int i =>
  obtain ⟨t,rfl⟩:=rx
  have e':k=(i != 0):=e
  subst e'
  exact PySem.P.truthy_int ⟨H,I,q⟩
 | str y =>
  obtain ⟨t,rfl⟩:=rx
  obtain ⟨hy,e'⟩:y.length≤sizeLine∧k=((y.length:Int) != 0):=e
  subst e'
  exact PySem.P.truthy_str (by omega) ⟨H,I.tok _,q⟩
 | byt y =>
  obtain ⟨t,rfl⟩:=rx
  obtain ⟨hy,e'⟩:y.size≤sizeLine∧k=((y.size:Int) != 0):=e
  subst e'
  exact PySem.W.truthy_bytes (by omega) ⟨H,I.tok _,q⟩
 | ref p =>
  cases rx
  have e':(∃xs,cW X.K H p xs∧k=!xs.isEmpty)∨(∃xs,gK X.K H p xs∧k=!xs.isEmpty)∨∃kvs ep,H p=some (.dE kvs ep)∧k=!kvs.isEmpty:=e
  rcases e' with ⟨xs,hx,e'⟩ | ⟨xs,hx,e'⟩ | ⟨kvs,ep,hx,e'⟩
  ·subst e'
   obtain ⟨its,r,pl,hz⟩:=I.list hx
   have hlen:=r.length
   exact wpAny_truthy_list pl.isList (by simp only [TJ];omega) ⟨H,I.tok _,by rw [qW r];exact q⟩
  ·subst e'
   obtain ⟨its,r,pl,hz⟩:=I.tuple hx
   have hlen:=r.length
   exact truthy_tuple pl (by simp only [TJ];omega) ⟨H,I.tok _,by rw [qW r];exact q⟩
  ·subst e'
   obtain ⟨hz,hS,vs,r,m⟩:kvs.length≤sizeLine∧(p == sysModules)=false∧∃vs,KV kvs vs∧s.heap.DictAt (strKind X.prog X.w) p vs ep:=I.hok p _ hx
   have hlen:kvs.length=vs.length:=Paired.length r
   exact wpAny_truthy_dict hS m.dictOf (by omega) ⟨H,I.tok _,by rw [Ag r];exact q⟩
 | _=>exact (show False from e).elim
theorem Gi (ha:PE X a ta) (he:∀whole,isTrue a X.env whole=(do let v ← whole;standAt a.pos;holding [v] (truthy v))) :
  PT X a (λσ H Q=>ta σ H λx H'=>∃k,Lk X.K x H' k∧Q k H'):=by
 intro pins s σ H Q I h
 exact isTrue_plain (cq (ha pins s σ H _ I h) λv s1 ⟨x,H1,I1,r1,q1⟩=>Nf pins s1 σ H1 x v Q I1 r1 q1) (he _)
theorem vals1 {x:V} {us:List Value} (r:Vals [x] us):∃u,us=[u]∧RelV x u:=by
 cases r with
 | cons r1 r2=>cases r2;exact ⟨_,rfl,r1⟩
theorem vals2 {x y:V} {us:List Value} (r:Vals [x,y] us):∃u w',us=[u,w']∧RelV x u∧RelV y w':=by
 cases r with
 | cons r1 r2 =>
  cases r2 with
  | cons r3 r4=>cases r4;exact ⟨_,_,rfl,r1,r3⟩
theorem mW:bY X (.builtin "abs") (λxs H Q=>∃i,xs=[.int i]∧Q (.int (if i < 0 then -i else i)) H):=by
 intro pins s σ H xs us Q I r h
 obtain ⟨i,rfl,q⟩:=h
 obtain ⟨u,rfl,t,rfl⟩:=vals1 r
 exact call_abs_int λu tk=>⟨.int (if i < 0 then -i else i),H,I.tok _,⟨_,rfl⟩,q⟩
end
end L2
namespace L2
open PySem PySem.Spec PyProof.Rows
structure zP (h:Heap) (x dx C:Addr) (mA:Str→Option Value):Prop where
 obj:h.get? x=some (PySem.W.instObj C dx)
 ns:h.Ns1 dx mA
 ne:dx≠x
theorem Dz {h:Heap} {dx:Addr} {mA:Str→Option Value} (n:h.Ns1 dx mA):∃od,h.get? dx=some od∧∀name,PySem.W.lookIn name od=some (mA name):=by
 obtain ⟨o,es,ep,ho,hd,hk,_,hm⟩:=n
 refine ⟨o,ho,λname=>?_⟩
 have e:=hm name
 unfold nsFind findBy at e
 rw [← Array.find?_toList] at e
 unfold PySem.W.lookIn
 rw [hd]
 dsimp only
 split
 ·rename_i y q
  rw [q] at e
  exact congrArg some e
 ·rename_i q
  rw [q] at e
  have a:es.toList.any (·.refKey)=false:=by
   rw [List.any_eq_false]
   intro y hy
   obtain ⟨z,t,hkey⟩:=hk y (Array.mem_toList_iff.mp hy)
   simp [DictEntry.refKey,hkey]
  have a':¬ es.toList.any (·.refKey)=true:=by rw [a];exact TY
  rw [if_neg a']
  exact congrArg some e
theorem zP.look {h:Heap} {x dx C:Addr} {mA:Str→Option Value} (I:zP h x dx C mA):∃od,PySem.W.InstAt h x (PySem.W.instObj C dx) C (some od)∧∀name,PySem.W.lookIn name od=some (mA name) :=
 let ⟨od,ho,hl⟩:=Dz I.ns
 ⟨od,⟨I.obj,rfl,rfl,ho⟩,hl⟩
section
variable {prog:Program} {w:World} {A:Around} {E:Value→Shared→Prop} {s:Shared} {K:PySem.W.Frag} {x dx C f:Addr} {mA:Str→Option Value} {name:Str} {v:Value}
theorem get_map {expr:Bool} {Q:Value→Shared→Prop} (X:K.In s.heap) (I:zP s.heap x dx C mA) (hg:PySem.W.plainGet K C name=true) (hh:PySem.W.hasDictIn K C=true)
  (ha:PySem.W.findIn K (.ref C) name=some none) (hv:mA name=some v) (hv':PySem.W.handedIn v=true) (h:Q v { s with toks:=s.toks + 1 }) :
  wpAny (model prog w) A (getAttr (.ref x) name expr) Q E s:=by
 obtain ⟨od,J,hl⟩:=I.look
 exact PySem.W.get_value X J (PySem.W.plainGet_of hg).1 (PySem.W.findObj_own hh ha rfl (by rw [hl,hv])) hv' h
theorem E9 {pl:Sem Bool} {Q:Value × List Value→Shared→Prop} (X:K.In s.heap) (I:zP s.heap x dx C mA) (hg:PySem.W.plainGet K C name=true)
  (hf:PySem.W.findIn K (.ref C) name=some (some (.ref f))) (ht:PySem.W.isFn K (.ref f)=true) (hv:mA name=none) (h:Q (.ref f,[.ref x]) s) :
  wpAny (model prog w) A (getMethod (.ref x) name pl) Q E s:=by
 obtain ⟨od,J,hl⟩:=I.look
 exact PySem.W.method_fn X J (PySem.W.plainGet_of hg).1 (PySem.W.plainGet_of hg).2 hf (beq_iff_eq.mp ht) (by show (PySem.W.lookIn name od).map (·.isSome)=some false;rw [hl,hv];rfl) h
theorem Jz {ns:List Str} {Q:Unit→Shared→Prop} (X:K.In s.heap) (I:zP s.heap x dx C mA)
  (hs:PySem.W.findIn K (.ref C) "__setattr__"=some (some (.builtin "object.__setattr__"))) (hp:PySem.W.plainOver K C=true) (ht:PySem.W.takerIn K C name=some none) (hh:PySem.W.hasDictIn K C=true)
  (hw:PySem.Within mA ns) (hsz:ns.length≤sizeLine)
  (h:∀h',zP h' x dx C (λy=>if y=name then some v else mA y)→Heap.SameBut dx s.heap h'→Q () { s with heap:=h',toks:=s.toks + 2 }) :
  wpAny (model prog w) A (setAttr (.ref x) name v) Q E s:=by
 obtain ⟨od,J,hl⟩:=I.look
 refine PySem.W.set_plain X J hs (PySem.W.osa_open (s:={ s with toks:=s.toks + 1 }) (r:=none) X J hp ht λb=>?_)
 obtain ⟨cd,hc,hd'⟩:=PySem.W.any_some hh
 have hx:s.heap.get? x=some ⟨.ref C,some dx,.plain,#[]⟩:=I.obj
 refine wpAny_bind (wpAny_pure (wpAny_bind (wpAny_bind (wpAny_loadPart hx (wpAny_bind (PySem.W.Looks.here (s:={ s with toks:=s.toks + 1 }) (PySem.W.looks_clsIn X hc) ?_))))))
 rw [hd']
 refine wpAny_pure (a:=some dx) (wpAny_bind (wpAny_pure (wpAny_bind ?_)))
 refine wpAny_nsSet1 (s:={ s with toks:=s.toks + 1 }) I.ns λh' hn2 hs2=>?_
 obtain ⟨oD,esD,epD,hoD,hdD,hcD⟩:=hn2.count (PySem.Within.cons name v hw)
 refine wpAny_bind (wpAny_lookBehind hoD (by rw [hdD];exact pastItsLine_dict (T4 hcD (by rw [T8];omega))) ?_)
 exact wpAny_pure (h _ ⟨(hs2.2 _ (Ne.symm I.ne)).trans I.obj,hn2,I.ne⟩ hs2)
theorem FH {R:Result→Shared→Prop} {vs:List Value} {kw:List (Str × Value)} (X:K.In s.heap) (hm:PySem.W.makesIn K C=true)
  (hi:PySem.W.findIn K (.ref C) "__init__"=some (some (.ref f))) (hf:PySem.W.typeIn K (.ref f)=some (.type "function"))
  (h:codeAny (model prog w) (A.under (.builtin "type.__call__" ⟨.ref C :: vs,kw⟩)) (.call (.ref f) ⟨.ref (s.heap.objs.size + 1) :: vs,kw⟩) (PySem.W.InitBack (s.heap.objs.size + 1) R)
   { s with heap:=(s.heap.push PySem.W.emptyDict).push (PySem.W.instObj C s.heap.objs.size) }) :
  codeAny (model prog w) A (.call (.ref C) ⟨vs,kw⟩) R s:=by
 obtain ⟨hh,g,d,t,os⟩:=s
 exact PySem.W.make_core (PySem.W.makes_of X hm) (PySem.W.looks_findIn X hi) (λself=>PySem.W.bind_fn X self hf) (.inl rfl) h
end
def eO (f:Str) (v:V):List (Str × V)→List (Str × V)
 | []=>[(f,v)]
 | (g,x) :: r=>if g=f then (g,v) :: r else (g,x) :: eO f v r
theorem pf (f g:Str) (v:V):∀fs:List (Str × V),(eO f v fs).lookup g=if g=f then some v else fs.lookup g
 | []=>by
  show Va g [(f,v)]=_
  by_cases h:g=f
  ·have hb:(g == f)=true:=beq_iff_eq.mpr h
   simp only [Va,hb,if_pos h]
  ·have hb:(g == f)=false:=beq_eq_false_iff_ne.mpr h
   simp only [Va,hb,if_neg h]
 | (k,x) :: r=>by
  have ih:=pf f g v r
  rw [show eO f v ((k,x) :: r)=(if k=f then (k,v) :: r else (k,x) :: eO f v r) from rfl]
  by_cases hk:k=f
  ·rw [if_pos hk]
   by_cases h:g=k
   ·have hb:(g == k)=true:=beq_iff_eq.mpr h
    simp only [Va,hb,if_pos (h.trans hk)]
   ·have hb:(g == k)=false:=beq_eq_false_iff_ne.mpr h
    simp only [Va,hb,if_neg (λe:g=f=>h (e.trans hk.symm))]
  ·rw [if_neg hk]
   by_cases h:g=k
   ·have hb:(g == k)=true:=beq_iff_eq.mpr h
    simp only [Va,hb,if_neg (λe:g=f=>hk (h.symm.trans e))]
   ·have hb:(g == k)=false:=beq_eq_false_iff_ne.mpr h
    simp only [Va,hb]
    exact ih
theorem oy (f:Str) (v:V):∀fs:List (Str × V),f∈(eO f v fs).map (·.1)∧∀g,g∈fs.map (·.1)→g∈(eO f v fs).map (·.1)
 | []=>⟨by simp [eO],λg h=>by simp at h⟩
 | (k,x) :: r=>by
  obtain ⟨i1,i2⟩:=oy f v r
  rw [show eO f v ((k,x) :: r)=(if k=f then (k,v) :: r else (k,x) :: eO f v r) from rfl]
  by_cases hk:k=f
  ·rw [if_pos hk]
   subst hk
   exact ⟨by simp,λg h=>by simpa using h⟩
  ·rw [if_neg hk]
   refine ⟨?_,λg h=>?_⟩
   ·rw [TL]
    exact T9 _ i1
   ·rw [TL] at h ⊢
    rcases TX.mp h with e | e
    ·exact TX.mpr (.inl e)
    ·exact T9 _ (i2 g e)
theorem pe (f:Str) (v:V):∀fs:List (Str × V),(eO f v fs).length≤fs.length + 1
 | []=>by simp [eO]
 | (k,x) :: r=>by
  have ih:=pe f v r
  rw [show eO f v ((k,x) :: r)=(if k=f then (k,v) :: r else (k,x) :: eO f v r) from rfl]
  by_cases hk:k=f
  ·rw [if_pos hk,T8,T8];omega
  ·rw [if_neg hk,T8,T8];omega
theorem tH.some_of {v:V} {o:Option Value} (r:tH (some v) o):∃u,o=some u∧RelV v u:=by
 cases o with
 | none=>exact (show False from r).elim
 | some u=>exact ⟨u,rfl,r⟩
theorem tH.none_of {o:Option Value} (r:tH none o):o=none:=by
 cases o with
 | none=>rfl
 | some u=>exact (show False from r).elim
theorem Dk {v:V} {u:Value} (r:RelV v u):PySem.W.handedIn u=true:=by
 cases v with
 | non=>cases (show u=Value.none from r);rfl
 | bl b=>cases (show u=Value.bool b from r);rfl
 | int i=>obtain ⟨t,e⟩:=(show ∃t,u=Value.int i t from r);cases e;rfl
 | str x=>obtain ⟨t,e⟩:=(show ∃t,u=Value.str x t from r);cases e;rfl
 | byt b=>obtain ⟨t,e⟩:=(show ∃t,u=Value.bytes b t from r);cases e;rfl
 | flt b=>obtain ⟨t,e⟩:=(show ∃t,u=Value.float b t from r);cases e;rfl
 | ref a=>cases (show u=Value.ref a from r);rfl
 | ty n=>cases (show u=Value.type n from r);rfl
section
variable {P:Program} {w:World} {H H':Hp} {h h':Heap} {a C dx:Addr} {fs fs':List (Str × V)}
theorem p6 (hok:mJ P w H h) (e:H a=some (.ins C dx fs)):∃mA,zP h a dx C mA∧(∀f,tH (fs.lookup f) (mA f))∧PySem.Within mA (fs.map (·.1))∧fs.length≤1000∧H dx=some (.own a):=by
 obtain ⟨d,z,ne,ob,mA,n,r,q⟩:=(show c_ P w H h a (.ins C dx fs) from hok a _ e)
 exact ⟨mA,⟨ob,n,ne⟩,r,q,z,d⟩
end
structure pG (K:PySem.W.Frag) (C:Addr):Prop where
 pg:PySem.W.plainGet K C Str.empty=true
 hd:PySem.W.hasDictIn K C=true
 po:PySem.W.plainOver K C=true
 sa:PySem.W.findIn K (.ref C) "__setattr__"=some (some (.builtin "object.__setattr__"))
theorem pG.get {K:PySem.W.Frag} {C:Addr} (c:pG K C) (f:Str):PySem.W.plainGet K C f=true:=c.pg
def aD (K:PySem.W.Frag) (C:Addr) (f:Str):Prop:=PySem.W.findIn K (.ref C) f=some none
theorem aD.PX {K:PySem.W.Frag} {C:Addr} {f:Str} (n:aD K C f):PySem.W.takerIn K C f=some none:=by
 unfold PySem.W.takerIn
 rw [show PySem.W.findIn K (.ref C) f=some none from n]
 rfl
structure Meth (K:PySem.W.Frag) (C:Addr) (m:Str) (f:Addr):Prop where
 at_:PySem.W.findIn K (.ref C) m=some (some (.ref f))
 fn:PySem.W.isFn K (.ref f)=true
 kp:PySem.W.keepIn K (.ref f)=true
section
variable {X:Cx} {pins:List (Addr × Obj)} {σ:St} {H:Hp} {s:Shared} {a C dx:Addr} {fs:List (Str × V)} {f:Str} {v:V} {A:Around} {E:Value→Shared→Prop}
theorem Ad {b:Bool} {Q:Value→Shared→Prop} (I:Inv X pins σ H s) (e:H a=some (.ins C dx fs)) (c:pG X.K C) (n:aD X.K C f) (l:fs.lookup f=some v)
  (h:∀u s',Inv X pins σ H s'→RelV v u→Q u s'):wpAny (model X.prog X.w) A (getAttr (.ref a) f b) Q E s:=by
 obtain ⟨mA,O,r,_,_,_⟩:=p6 I.hok e
 obtain ⟨u,hu,ru⟩:=tH.some_of (v:=v) (o:=mA f) (by rw [← l];exact r f)
 exact get_map I.m7 O (c.get f) c.hd n hu (Dk ru) (h u _ (I.tok _) ru)
theorem qT {m:Str} {g:Addr} {pl:Sem Bool} {Q:Value × List Value→Shared→Prop} (I:Inv X pins σ H s) (e:H a=some (.ins C dx fs)) (c:pG X.K C) (k:Meth X.K C m g) (l:fs.lookup m=none)
  (h:Q (.ref g,[.ref a]) s):wpAny (model X.prog X.w) A (getMethod (.ref a) m pl) Q E s:=by
 obtain ⟨mA,O,r,_,_,_⟩:=p6 I.hok e
 have hn:mA m=none:=tH.none_of (by rw [← l];exact r m)
 exact E9 I.m7 O (c.get m) k.at_ k.fn hn h
theorem A5 {y:V} {u:Value} {Q:Unit→Shared→Prop} (I:Inv X pins σ H s) (e:H a=some (.ins C dx fs)) (c:pG X.K C) (n:aD X.K C f) (hl:fs.length < 1000) (ry:RelV y u)
  (h:∀s',Inv X pins σ (upd H a (.ins C dx (eO f y fs))) s'→Q () s'):wpAny (model X.prog X.w) A (setAttr (.ref a) f u) Q E s:=by
 obtain ⟨mA,O,r,wi,_,ho⟩:=p6 I.hok e
 have hz:(fs.map (·.1)).length≤sizeLine:=by rw [Tx,sizeLine_eq];omega
 refine Jz I.m7 O c.sa c.po n.PX c.hd wi hz λh' O' sb=>h _ ?_
 have hd:∃o,h'.get? dx=some o:=let ⟨o,_,_,e',_⟩:=O'.ns;⟨o,e'⟩
 refine I.write (x:=a) (e:=dx) (by rw [e];exact True.intro) (.inr ho) (λb q hb z=>(sb.2 b hb).trans z) hd ?_
 refine ⟨by rw [aO O.ne];exact ho,?_,O.ne,O'.obj,_,O'.ns,λg=>?_,λg hg=>?_⟩
 ·have:=pe f y fs;omega
 ·show tH ((eO f y fs).lookup g) (if g=f then some u else mA g)
  rw [pf]
  by_cases q:g=f
  ·rw [if_pos q,if_pos q];exact ry
  ·rw [if_neg q,if_neg q];exact r g
 ·by_cases q:g=f
  ·rw [q];exact (oy f y fs).1
  ·refine (oy f y fs).2 g (wi g λz=>hg ?_)
   show (if g=f then some u else mA g)=none
   rw [if_neg q];exact z
theorem Inv.made (I:Inv X pins σ H s):Inv X pins σ (upd (upd H s.heap.objs.size (.own (s.heap.objs.size + 1))) (s.heap.objs.size + 1) (.ins C s.heap.objs.size []))
  { s with heap:=(s.heap.push PySem.W.emptyDict).push (PySem.W.instObj C s.heap.objs.size) }:=by
 have e1:(s.heap.push PySem.W.emptyDict).get? s.heap.objs.size=some PySem.W.emptyDict:=Heap.get?_push_size s.heap rfl
 have e2:((s.heap.push PySem.W.emptyDict).push (PySem.W.instObj C s.heap.objs.size)).get? (s.heap.objs.size + 1)=some (PySem.W.instObj C s.heap.objs.size):=by
  have:=Heap.get?_push_size (s.heap.push PySem.W.emptyDict) (o:=PySem.W.instObj C s.heap.objs.size) rfl
  rwa [Heap.size_push] at this
 have e3:(s.heap.push PySem.W.emptyDict).Ns s.heap.objs.size (λ_=>none):=⟨PySem.W.emptyDict,#[],_,e1,rfl,(λe he=>absurd he (by simp)),λ_=>rfl⟩
 have I1:=I.laid (a:=s.heap.objs.size) (o:=.own (s.heap.objs.size + 1)) (h':=s.heap.push PySem.W.emptyDict) (t':=s.toks) (λb u q=>Heap.get?_push_of_some _ q) (TF _) ⟨_,e1⟩
 refine I1.laid (a:=s.heap.objs.size + 1) (o:=.ins C s.heap.objs.size []) (t':=s.toks) (λb u q=>Heap.get?_push_of_some _ q) (Nat.le_of_eq (Heap.size_push _ _)) ?_
 have ne:s.heap.objs.size≠s.heap.objs.size + 1:=T6 (UZ _)
 refine ⟨by rw [aO ne,aE],Ue _,ne,e2,λ_=>none,(Heap.Ns1.of_empty e3).at λo q=>Heap.get?_push_of_some _ q,λ_=>True.intro,λy hy=>absurd rfl hy⟩
theorem HI {prog:Program} {w:World} {env:Env} {e:Expr} {f:Str} {pos:Pos} {s:Shared} {Q:Value→Shared→Prop} (hb:attributeBase e f env (eval e env)=eval e env)
  (h:wpAny (model prog w) A (eval e env) (λo s₁=>wpAny (model prog w) A (getAttr o f true) Q E s₁) E s):wpAny (model prog w) A (eval (.Attribute e f pos) env) Q E s :=
 Attribute_any_ h (by rw [arm_eval_Attribute,hb])
end
def R5 (K:PySem.W.Frag) (ta:TE) (f:Str):TE:=λσ H Q=>ta σ H λx H1=>∃a C dx fs v,x=.ref a∧H1 a=some (.ins C dx fs)∧pG K C∧aD K C f∧fs.lookup f=some v∧Q v H1
def R1 (K:PySem.W.Frag) (ta tv:TE) (f:Str):TS:=λD σ H=>tv σ H λy H1=>ta σ H1 λx H2=>∃a C dx fs,x=.ref a∧H2 a=some (.ins C dx fs)∧pG K C∧aD K C f∧fs.length < 1000 ∧
 D.nx σ (upd H2 a (.ins C dx (eO f y fs)))
section
variable {X:Cx} {o e value:Expr} {f:Str} {pos pos' tpos:Pos} {ta tv:TE}
theorem ME (he:PE X e ta) (hb:attributeBase e f X.env (eval e X.env)=eval e X.env):PE X (.Attribute e f pos) (R5 X.K ta f):=by
 intro pins s σ H Q I h
 refine HI hb (cq (he pins s σ H _ I h) λu s1 ⟨x,H1,I1,rx,a,C,dx,fs,v,ex,ea,c,n,l,q⟩=>?_)
 subst ex
 obtain rfl:u=Value.ref a:=rx
 exact Ad I1 ea c n l λu' s2 I2 ru=>⟨v,H1,I2,ru,q⟩
theorem MI (ha:PE X o ta) (hv:PE X value tv) (hs:swapsWith value (some (.Attribute o f pos')) pos.line X.env=pure false):PS X (.Assign [.Attribute o f pos'] value pos) (R1 X.K ta tv f):=by
 intro pins s σ H D I h
 refine plainObj_wpAny_Assign_Attribute (cq (hv pins s σ H _ I h) λu s1 ⟨y,H1,I1,ry,q⟩=>cq (ha pins s1 σ H1 _ I1 q) λov s2 ⟨x,H2,I2,rx,a,C,dx,fs,ex,ea,c,n,l,q2⟩=>?_) hs
 subst ex
 obtain rfl:ov=Value.ref a:=rx
 exact A5 I2 ea c n l ry λs3 I3=>⟨σ,_,I3,q2⟩
end
section
variable {X:Cx} {pins:List (Addr × Obj)} {σ:St} {H:Hp} {s:Shared} {A:Around} {E:Value→Shared→Prop} {Q:Value→Shared→Prop} {c:Value} {b:Bool}
inductive f9 (K:PySem.W.Frag) (H:Hp):V→Value→Prop where
 | non:f9 K H .non (.type "NoneType")
 | bl (x:Bool):f9 K H (.bl x) (.type "bool")
 | int (i:Int):f9 K H (.int i) (.type "int")
 | str (x:Str):f9 K H (.str x) (.type "str")
 | flt (x:UInt64):f9 K H (.flt x) (.type "float")
 | lst {a:Addr} {xs:List V} (e:H a=some (.lst xs)):f9 K H (.ref a) (.type "list")
 | qQ {a:Addr} {o:Obj} {xs:List V} (e:H a=some (.qQ o (.lst xs))):f9 K H (.ref a) (.type "list")
 | tup {a:Addr} {xs:List V} (e:H a=some (.tup xs)):f9 K H (.ref a) (.type "tuple")
 | dK {a:Addr} {kvs:List (Key × V)} (e:H a=some (.dK kvs)):f9 K H (.ref a) (.type "dict")
 | dE {a:Addr} {kvs:List (Str × V)} {ep:Nat} (e:H a=some (.dE kvs ep)):f9 K H (.ref a) (.type "dict")
 | ins {a C dx:Addr} {fs:List (Str × V)} (e:H a=some (.ins C dx fs)) (cl:pG K C) (ha:PySem.W.findIn K (.ref C) "__class__"=some (some (.builtin "object.__class__")))
   (hn:PySem.W.specialIn K (.builtin "object.__class__") "__get__"=some (some (.builtin "getset_descriptor.__get__"))) (htk:PySem.W.takesIn K (.builtin "object.__class__")=some true)
   (hm:PySem.W.mroIn K C (.type "object")=some true):f9 K H (.ref a) (.ref C)
theorem Dq {x:V} {u t:Value} (I:Inv X pins σ H s) (rx:RelV x u) (ty:f9 X.K H x t) (e:PySem.W.kitOne X.K t c=some b) (h:∀tk,Q (.bool b) { s with toks:=tk }) :
  wpAny (model X.prog X.w) A (call (.builtin "isinstance") [u,c]) Q E s:=by
 cases ty with
 | non=>cases (show u=Value.none from rx);exact PySem.W.kia_one PySem.W.kitx_none I.m7 True.intro e (λz=>nomatch z) h
 | bl y=>cases (show u=Value.bool y from rx);exact PySem.W.kia_one PySem.W.kitx_bool I.m7 True.intro e (λz=>nomatch z) h
 | int i=>obtain ⟨t,q⟩:=(show ∃t,u=Value.int i t from rx);cases q;exact PySem.W.kia_one PySem.W.kitx_int I.m7 True.intro e (λz=>nomatch z) h
 | str y=>obtain ⟨t,q⟩:=(show ∃t,u=Value.str y t from rx);cases q;exact PySem.W.kia_one PySem.W.kitx_str I.m7 True.intro e (λz=>nomatch z) h
 | flt y=>obtain ⟨t,q⟩:=(show ∃t,u=Value.float y t from rx);cases q;exact PySem.W.kia_one PySem.W.kitx_float I.m7 True.intro e (λz=>nomatch z) h
 | @lst a xs ea =>
  cases (show u=Value.ref a from rx)
  obtain ⟨_,_,n,_,h1⟩:=(show c_ X.prog X.w H s.heap a (.lst xs) from I.hok a _ ea)
  exact PySem.W.kia_one PySem.W.kitx_list I.m7 ⟨_,h1,rfl⟩ e (λz=>nomatch z) h
 | @qQ a ob xs ea =>
  cases (show u=Value.ref a from rx)
  obtain ⟨_,_,_,n,_,h1⟩:=(show c_ X.prog X.w H s.heap a (.qQ ob (.lst xs)) from I.hok a _ ea)
  exact PySem.W.kia_one PySem.W.kitx_list I.m7 ⟨_,h1,rfl⟩ e (λz=>nomatch z) h
 | @tup a xs ea =>
  cases (show u=Value.ref a from rx)
  obtain ⟨_,_,_,p⟩:=(show c_ X.prog X.w H s.heap a (.tup xs) from I.hok a _ ea)
  obtain ⟨o,h1,h2,_⟩:=p
  exact PySem.W.kia_one PySem.W.kitx_tuple I.m7 ⟨o,h1,h2⟩ e (λz=>nomatch z) h
 | @dK a kvs ea =>
  cases (show u=Value.ref a from rx)
  obtain ⟨_,_,vs,_,p⟩:=(show c_ X.prog X.w H s.heap a (.dK kvs) from I.hok a _ ea)
  obtain ⟨o,es,ep,h1,h2,_⟩:=p
  exact PySem.W.kia_one PySem.W.kitx_dict I.m7 ⟨o,h1,h2.1⟩ e (λz=>nomatch z) h
 | @dE a kvs ep ea =>
  cases (show u=Value.ref a from rx)
  obtain ⟨_,_,vs,_,o,es,h1,h2,_⟩:=(show c_ X.prog X.w H s.heap a (.dE kvs ep) from I.hok a _ ea)
  exact PySem.W.kia_one PySem.W.kitx_dict I.m7 ⟨o,h1,h2.1⟩ e (λz=>nomatch z) h
 | @ins a C dx fs ea cl ha hn htk hm =>
  cases (show u=Value.ref a from rx)
  obtain ⟨mA,O,_⟩:=p6 I.hok ea
  obtain ⟨od,J,_⟩:=O.look
  exact PySem.W.kia_one (PySem.W.kitx_own (cl.get _) cl.hd ha hn htk hm) I.m7 J e (λz=>nomatch z) h
end
end L2
namespace L2
open PySem PySem.Spec PyProof.Rows
structure bK (k:Nat) (A:Around):Prop where
 hd:A.handled=none
 dp:A.depth + 3 * k + 5 < recursionLimit
 un:A.units + 16 * k + 200 < cLine
theorem bK.mono {j k:Nat} {A:Around} (r:bK k A) (h:j≤k):bK j A:=⟨r.hd,by have:=r.dp;omega,by have:=r.un;omega⟩
theorem bK.deeper {k:Nat} {A:Around} (r:bK (k + 1) A) (env:Env):bK k (A.deeper env) :=
 ⟨r.hd,by have:=r.dp;show A.depth + 1 + 3 * k + 5 < _;omega,by have:=r.un;show A.units + 3 + 16 * k + 200 < _;omega⟩
theorem Am {A:Around} {C:Addr} {us:List Value} {kw:List (Str × Value)}:(A.under (.builtin "type.__call__" ⟨.ref C :: us,kw⟩)).depth=A.depth + 1:=by
 first | rfl | simp [Around.under,Code.weight,Code.isCreation,Code.isGuard,Code.isCaller,Code.frames,Code.isFrame,guardIds]
theorem An {A:Around} {C:Addr} {us:List Value} {kw:List (Str × Value)}:(A.under (.builtin "type.__call__" ⟨.ref C :: us,kw⟩)).units=A.units + 1:=by
 first | rfl | simp [Around.under,Code.cUnits,Code.frames,Code.isFrame]
theorem bK.make {k:Nat} {A:Around} (r:bK (k + 1) A) (C:Addr) (us:List Value) (kw:List (Str × Value)):bK k (A.under (.builtin "type.__call__" ⟨.ref C :: us,kw⟩)) :=
 ⟨r.hd,by have:=r.dp;rw [Am];omega,by have:=r.un;rw [An];omega⟩
theorem bK.depth {k:Nat} {A:Around} (r:bK k A):A.depth < recursionLimit:=by have:=r.dp;omega
theorem bK.Nk {k:Nat} {A:Around} (r:bK k A):A.units < cLine:=by have:=r.un;omega
def Bc:TA:=λ_ H Q=>Q [] H
def zo (ta:TE) (tr:TA):TA:=λσ H Q=>ta σ H λx H1=>tr σ H1 λxs H2=>Q (x :: xs) H2
section
variable {X:Cx} {e:Expr} {es:List Expr} {te:TE} {t:TA} {pos:Pos}
theorem bH:PA X [] Bc:=λ_ _ _ _ H Q I h=>Calls.spliced_nil ⟨[],H,I,.nil,h⟩
theorem aT (ha:PE X e te) (hr:PA X es t) (hs:starEach (e :: es) X.env=(false,eval e X.env) :: starEach es X.env:=by rfl):PA X (e :: es) (zo te t):=by
 intro pos pins s σ H Q I h
 rw [hs]
 show wpAny _ _ (spliced ((false,eval e X.env) :: backTo pos (starEach es X.env))) _ _ s
 refine Calls.spliced_cons (cq (ha pins s σ H _ I h) λu s1 ⟨x,H1,I1,r1,q1⟩=>?_)
 exact cq (hr pos pins s1 σ H1 _ I1 q1) λus s2 ⟨xs,H2,I2,r2,q2⟩=>⟨x :: xs,H2,I2,.cons r1 r2,q2⟩
def JJ (t:TA):TE:=λσ H Q=>t σ H λxs H1=>xs.length≤sizeLine∧∀p,H1 p=none→Q (.ref p) (upd H1 p (.tup xs))
def G3 (t:TA):TE:=λσ H Q=>t σ H λxs H1=>xs.length≤sizeLine∧∀p,H1 p=none→Q (.ref p) (upd H1 p (.lst xs))
theorem rG {x1} (h:PA X es t):PE X (.Tuple es x1 pos) (JJ t):=by
 intro pins s σ H Q I hq
 refine wpAny_Tuple_spliced (cq (h pos pins s σ H _ I hq) λus s1 ⟨xs,H1,I1,r,z,q⟩=>⟨by rw [← r.length];exact z,?_⟩)
 have hf:H1 s1.heap.objs.size=none:=I1.hok.fresh (TF _)
 refine ⟨.ref s1.heap.objs.size,upd H1 s1.heap.objs.size (.tup xs),I1.laid (t':=s1.toks) (λb u e=>Heap.get?_push_of_some _ e) (TF _) ?_,rfl,q _ hf⟩
 exact ⟨z,us,r,⟨_,Heap.get?_push_size _ rfl,rfl,_,rfl⟩⟩
theorem kr (h:PA X es t):PE X (.List es pos) (G3 t):=by
 intro pins s σ H Q I hq
 refine wpAny_List_spliced (cq (h pos pins s σ H _ I hq) λus s1 ⟨xs,H1,I1,r,z,q⟩=>⟨by rw [← r.length];exact z,?_⟩)
 have hf:H1 s1.heap.objs.size=none:=I1.hok.fresh (TF _)
 refine ⟨.ref s1.heap.objs.size,upd H1 s1.heap.objs.size (.lst xs),I1.laid (t':=s1.toks) (λb u e=>Heap.get?_push_of_some _ e) (TF _) ?_,rfl,q _ hf⟩
 exact ⟨z,us,0,r,Heap.get?_push_size _ rfl⟩
end
abbrev Sp:=List V→Hp→VK→XK→Prop
abbrev sF:=List Env→Hp→Shared→XK→Value→Shared→Prop
structure zL (P:Program) (w:World) (K:PySem.W.Frag) (mg:Str→Option Value) (base:Heap) (A:Around) (outer:List Env) (s:Shared) (H:Hp):Prop where
 frames:A.frames=some outer
 mod:Mod K mg base
 bs:∀b o,base.get? b=some o→s.heap.get? b=some o∧H b=none
 bsz:base.objs.size≤s.heap.objs.size
 ou:s.heap.FunFrames base outer
 frf:∀b∈jQ outer,H b=none
 hok:mJ P w H s.heap
 bare:AllBare s.gens
def CE (outer:List Env) (P:Program) (w:World) (H:Hp) (s:Shared) (Q:VK) (u:Value) (s':Shared):Prop :=
 ∃v H',s'.os=s.os∧AllBare s'.gens∧Un (jQ outer) [] H H' s.heap s'.heap∧mJ P w H' s'.heap∧RelV v u∧Q v H'
def CR (CX:sF) (outer:List Env) (P:Program) (w:World) (H:Hp) (s:Shared) (Q:VK) (E:XK) (r:Result) (s':Shared):Prop :=
 match r with
 | .ok (.ret u)=>CE outer P w H s Q u s'
 | .ok _=>False
 | .error e=>CX outer H s E e s'
structure aL (P:Program) (w:World) (K:PySem.W.Frag) (mg:Str→Option Value) (base:Heap) (CX:sF) (k:Nat) (f:Addr) (fd:FuncData) (ps:List Str) (sp:Sp):Prop where
 len:∀vs H Q E,sp vs H Q E→vs.length=ps.length
 run:∀(A:Around) (outer:List Env) (s:Shared) (H:Hp) (args:Args) (us:List Value) (vs:List V) (Q:VK) (E:XK),bK k A→zL P w K mg base A outer s H→BindsTo s fd args (ps.zip us)→Vals vs us→sp vs H Q E →
  codeAny (model P w) A (.call (.ref f) args) (CR CX outer P w H s Q E) s
theorem aL.imp {P:Program} {w:World} {K:PySem.W.Frag} {mg:Str→Option Value} {base:Heap} {CX:sF} {k:Nat} {f:Addr} {fd:FuncData} {ps:List Str} {sp sp':Sp} (F:aL P w K mg base CX k f fd ps sp)
  (h:∀vs H Q E,sp' vs H Q E→sp vs H Q E):aL P w K mg base CX k f fd ps sp' :=
 ⟨λvs H Q E q=>F.len vs H Q E (h _ _ _ _ q),λA outer s H args us vs Q E hr he hb hv hs=>F.run A outer s H args us vs Q E hr he hb hv (h _ _ _ _ hs)⟩
theorem zL.make {P:Program} {w:World} {K:PySem.W.Frag} {mg:Str→Option Value} {base:Heap} {A:Around} {outer:List Env} {s:Shared} {H:Hp} (e:zL P w K mg base A outer s H) (C:Addr) (us:List Value) (kw:List (Str × Value)) :
  zL P w K mg base (A.under (.builtin "type.__call__" ⟨.ref C :: us,kw⟩)) outer s H:=⟨by first | exact e.frames | (simpa [Around.under,Code.envs,Code.isFrame,pushEnvs] using e.frames),e.mod,e.bs,e.bsz,e.ou,e.frf,e.hok,e.bare⟩
section
variable {X:Cx} {pins:List (Addr × Obj)} {σ:St} {H:Hp} {s s':Shared}
theorem Inv.N4 (I:Inv X pins σ H s):zL X.prog X.w X.K X.mg X.base X.A X.stack s H :=
 ⟨I.ok.frames,I.ok.mod,I.bs,T4 I.ok.bsz I.sz,I.stack,I.xq,I.hok,I.bare⟩
theorem Inv.after {Q:VK} {u:Value} (I:Inv X pins σ H s) (h:CE X.stack X.prog X.w H s Q u s'):EP X pins σ Q u s':=by
 obtain ⟨v,H',os,bare,un,hok,r,q⟩:=h
 obtain ⟨hh,g,d,t,os'⟩:=s'
 obtain rfl:os'=s.os:=os
 exact ⟨v,H',I.call (h':=hh) (g':=g) (d':=d) (t':=t) (ch:=[]) un hok bare (λb z=>absurd z (by simp)),r,q⟩
end
def sy (sp:Sp) (dvs:List V) (E:XK) (t:TA):TE:=λσ H Q=>t σ H λvs H1=>sp (vs ++ dvs) H1 Q E
def G5 (C:Addr) (m:Str) (sp:Sp) (dvs:List V) (E:XK) (ta:TE) (t:TA):TE:=λσ H Q=>ta σ H λx H1=>∃a dx fs,x=.ref a∧H1 a=some (.ins C dx fs)∧fs.lookup m=none ∧
 t σ H1 λvs H2=>sp (x :: (vs ++ dvs)) H2 Q E
def G4 (C:Addr) (sp:Sp) (dvs:List V) (E:XK) (t:TA):TE:=λσ H Q=>t σ H λvs H1=>∀x dx,H1 x=none→H1 dx=none→dx≠x →
 sp (.ref x :: (vs ++ dvs)) (upd (upd H1 dx (.own x)) x (.ins C dx [])) (λv H2=>v=.non∧Q (.ref x) H2) E
def Binds (K:PySem.W.Frag) (fd:FuncData) (ps:List Str) (ds:List Value):Prop :=
 ∀(s:Shared) (us:List Value),K.In s.heap→(us ++ ds).length=ps.length→BindsTo s fd ⟨us,[]⟩ (ps.zip (us ++ ds))
theorem Binds.all {K:PySem.W.Frag} {fd:FuncData} {ps:List Str} (h:∀us:List Value,us.length=ps.length→bindArgs fd ⟨us,[]⟩=pure (ps.zip us)):Binds K fd ps []:=λs us _ hl=>by
 rw [Uq] at hl ⊢
 exact .of_eq (h us hl)
def Passes (CX:sF) (X:Cx) (E:XK):Prop:=∀(pins:List (Addr × Obj)) (σ:St) (H:Hp) (s:Shared) (e:Value) (s':Shared),Inv X pins σ H s→CX X.stack H s E e s'→X.xe e s'
section
variable {X:Cx} {CX:sF} {k:Nat} {f C:Addr} {fd:FuncData} {ps:List Str} {sp:Sp} {dvs:List V} {ds:List Value} {E:XK} {x m:Str} {p pos apos:Pos} {e o:Expr} {es:List Expr} {ta:TE} {t:TA}
theorem AU {pins:List (Addr × Obj)} {σ:St} {H:Hp} {s:Shared} {Q:VK} {us:List Value} {vs:List V} (F:aL X.prog X.w X.K X.mg X.base CX k f fd ps sp) (hr:bK k X.A) (hb:Binds X.K fd ps ds) (hd:Vals dvs ds) (hx:Passes CX X E)
  (I:Inv X pins σ H s) (r:Vals vs us) (h:sp (vs ++ dvs) H Q E):wpAny (model X.prog X.w) X.A (call (.ref f) us) (EP X pins σ Q) X.xe s:=by
 have r2:Vals (vs ++ dvs) (us ++ ds):=r.append hd
 have hl:(us ++ ds).length=ps.length:=by rw [← r2.length];exact F.len _ _ _ _ h
 refine wpAny_call (codeAny_mono (F.run X.A X.stack s H ⟨us,[]⟩ (us ++ ds) (vs ++ dvs) Q E hr I.N4 (hb s us I.m7 hl) r2 h) λr s' hq=>?_)
 cases r with
 | error e=>exact hx pins σ H s e s' I hq
 | ok fl =>
  cases fl with
  | ret u=>exact I.after hq
  | next=>exact False.elim hq
  | brk=>exact False.elim hq
  | cont=>exact False.elim hq
theorem B6 (F:aL X.prog X.w X.K X.mg X.base CX k f fd ps sp) (hr:bK k X.A) (hg:Gl X x) (hm:X.mg x=some (.ref f)) (hk:PySem.W.keepIn X.K (.ref f)=true) (hb:Binds X.K fd ps ds) (hd:Vals dvs ds) (hx:Passes CX X E)
  (ha:PA X (e :: es) t) (hdb:(x == ("__debug__":Str))=false:=by decide) (he:starEach (e :: es) X.env=(false,eval e X.env) :: starEach es X.env:=by rfl) (hpl:(backTo pos (starEach es X.env)).any (·.1)=false:=by rfl) :
  PE X (.Call (.Name x p) (e :: es) [] pos) (sy sp dvs E t):=by
 intro pins s σ H Q I h
 refine wpAny_Call_Name_kw (m8 I hg hm ?_ hdb)
 refine PySem.W.callWith_K (h₀:=X.base) I.ok.mod.kin hk (cq (ha pos pins s σ H _ I h) λus s1 ⟨vs,H1,I1,r,q⟩=>⟨I1.m7,?_⟩) he hpl
 exact AU F hr hb hd hx I1 r q
theorem IW {pl:Sem Bool} (he:PE X o ta) (c:pG X.K C) (hm:Meth X.K C m f) (F:aL X.prog X.w X.K X.mg X.base CX k f fd ps sp) (hr:bK k X.A) (hb:Binds X.K fd ps ds) (hd:Vals dvs ds) (hx:Passes CX X E) (ha:PA X (e :: es) t)
  (hst:starEach (e :: es) X.env=(false,eval e X.env) :: starEach es X.env:=by rfl) (hpl:(backTo pos (starEach es X.env)).any (·.1)=false:=by rfl)
  (ht:eval (.Call (.Attribute o m apos) (e :: es) [] pos) X.env=(do
   let ov ← eval o X.env
   standAt apos.atName
   let (f,first) ← holding [ov] (getMethod ov m pl)
   callWith pos f first (backTo pos (starEach (e :: es) X.env)) (backToKw pos (keywordEach [] X.env))):=by rfl) :
  PE X (.Call (.Attribute o m apos) (e :: es) [] pos) (G5 C m sp dvs E ta t):=by
 intro pins s σ H Q I h
 refine PySem.W.methodCall_KW (pl:=pl) (cq (he pins s σ H _ I h) λu s1 ⟨x,H1,I1,rx,a,dx,fs,ex,ea,l,q⟩=>?_) ht
 subst ex
 obtain rfl:u=Value.ref a:=rx
 refine qT I1 ea c hm l ?_
 refine PySem.W.callWith_K (first:=[.ref a]) (h₀:=X.base) I.ok.mod.kin hm.kp (cq (ha pos pins s1 σ H1 _ I1 q) λus s2 ⟨vs,H2,I2,r,q2⟩=>⟨I2.m7,?_⟩) hst hpl
 exact AU (us:=.ref a :: us) (vs:=.ref a :: vs) F hr hb hd hx I2 (.cons rfl r) q2
theorem Ge {pl:Sem Bool} (he:PE X o ta) (c:pG X.K C) (hm:Meth X.K C m f) (F:aL X.prog X.w X.K X.mg X.base CX k f fd ps sp) (hr:bK k X.A) (hb:Binds X.K fd ps ds) (hd:Vals dvs ds) (hx:Passes CX X E)
  (ht:eval (.Call (.Attribute o m apos) [] [] pos) X.env=(do
   let ov ← eval o X.env
   standAt apos.atName
   let (f,first) ← holding [ov] (getMethod ov m pl)
   callWith pos f first (backTo pos (starEach [] X.env)) (backToKw pos (keywordEach [] X.env))):=by rfl) :
  PE X (.Call (.Attribute o m apos) [] [] pos) (G5 C m sp dvs E ta Bc):=by
 intro pins s σ H Q I h
 refine PySem.W.methodCall_KW (pl:=pl) (cq (he pins s σ H _ I h) λu s1 ⟨x,H1,I1,rx,a,dx,fs,ex,ea,l,q⟩=>?_) ht
 subst ex
 obtain rfl:u=Value.ref a:=rx
 refine qT I1 ea c hm l ?_
 exact PySem.W.callWith_K0 (first:=[.ref a]) I1.m7 hm.kp (AU (us:=[.ref a]) (vs:=[.ref a]) F hr hb hd hx I1 (.cons rfl .nil) q)
structure Mk (K:PySem.W.Frag) (C f:Addr):Prop where
 makes:PySem.W.makesIn K C=true
 init:PySem.W.findIn K (.ref C) "__init__"=some (some (.ref f))
 fn:PySem.W.isFn K (.ref f)=true
 kp:PySem.W.keepIn K (.ref C)=true
theorem yV {pins:List (Addr × Obj)} {σ:St} {H:Hp} {s:Shared} {Q:VK} {us:List Value} {vs:List V} (M:Mk X.K C f) (F:aL X.prog X.w X.K X.mg X.base CX k f fd ps sp) (hr:bK (k + 1) X.A) (hb:Binds X.K fd ps ds) (hd:Vals dvs ds)
  (hx:Passes CX X E) (I:Inv X pins σ H s) (r:Vals vs us)
  (h:∀x dx,H x=none→H dx=none→dx≠x→sp (.ref x :: (vs ++ dvs)) (upd (upd H dx (.own x)) x (.ins C dx [])) (λv H2=>v=.non∧Q (.ref x) H2) E) :
  wpAny (model X.prog X.w) X.A (call (.ref C) us) (EP X pins σ Q) X.xe s:=by
 have hq:=h (s.heap.objs.size + 1) s.heap.objs.size (I.hok.fresh (V8 _)) (I.hok.fresh (TF _)) (T6 (UZ _))
 have I2:=Inv.made (C:=C) I
 have r2:Vals (V.ref (s.heap.objs.size + 1) :: (vs ++ dvs)) (Value.ref (s.heap.objs.size + 1) :: (us ++ ds)):=.cons rfl (r.append hd)
 have hl:(Value.ref (s.heap.objs.size + 1) :: us ++ ds).length=ps.length:=by
  have e:=r2.length
  rw [F.len _ _ _ _ hq] at e
  exact e.symm
 refine wpAny_call (FH (f:=f) I.m7 M.makes M.init (beq_iff_eq.mp M.fn) (codeAny_mono (F.run _ X.stack _ _ ⟨Value.ref (s.heap.objs.size + 1) :: us,[]⟩ (Value.ref (s.heap.objs.size + 1) :: (us ++ ds)) _ _ E (hr.make C us [])
  (I2.N4.make C us []) (hb _ (Value.ref (s.heap.objs.size + 1) :: us) I2.m7 hl) r2 hq) λr s' hq'=>?_))
 cases r with
 | error e=>exact hx pins σ _ _ e s' I2 hq'
 | ok fl =>
  cases fl with
  | ret u =>
   obtain ⟨v,H',I3,rv,ev,q3⟩:=I2.after hq'
   subst ev
   exact ⟨rv,⟨V.ref (s.heap.objs.size + 1),H',I3,rfl,q3⟩⟩
  | next=>exact False.elim hq'
  | brk=>exact False.elim hq'
  | cont=>exact False.elim hq'
theorem IV (M:Mk X.K C f) (F:aL X.prog X.w X.K X.mg X.base CX k f fd ps sp) (hr:bK (k + 1) X.A) (hg:Gl X x) (hm:X.mg x=some (.ref C)) (hb:Binds X.K fd ps ds) (hd:Vals dvs ds) (hx:Passes CX X E)
  (ha:PA X (e :: es) t) (hdb:(x == ("__debug__":Str))=false:=by decide) (he:starEach (e :: es) X.env=(false,eval e X.env) :: starEach es X.env:=by rfl) (hpl:(backTo pos (starEach es X.env)).any (·.1)=false:=by rfl) :
  PE X (.Call (.Name x p) (e :: es) [] pos) (G4 C sp dvs E t):=by
 intro pins s σ H Q I h
 refine wpAny_Call_Name_kw (m8 I hg hm ?_ hdb)
 refine PySem.W.callWith_K (h₀:=X.base) I.ok.mod.kin M.kp (cq (ha pos pins s σ H _ I h) λus s1 ⟨vs,H1,I1,r,q⟩=>⟨I1.m7,?_⟩) he hpl
 exact yV M F hr hb hd hx I1 r q
theorem Gb (M:Mk X.K C f) (F:aL X.prog X.w X.K X.mg X.base CX k f fd ps sp) (hr:bK (k + 1) X.A) (hg:Gl X x) (hm:X.mg x=some (.ref C)) (hb:Binds X.K fd ps ds) (hd:Vals dvs ds) (hx:Passes CX X E)
  (hdb:(x == ("__debug__":Str))=false:=by decide):PE X (.Call (.Name x p) [] [] pos) (G4 C sp dvs E Bc):=by
 intro pins s σ H Q I h
 refine wpAny_Call_Name_kw (m8 I hg hm ?_ hdb)
 exact PySem.W.callWith_K0 I.m7 M.kp (yV (us:=[]) M F hr hb hd hx I .nil h)
end
section
variable {X:Cx} {CX:sF} {k:Nat} {f C:Addr} {fd:FuncData} {ps ks:List Str} {sp:Sp} {E:XK} {x m:Str} {p pos apos kpos:Pos} {e o:Expr} {es:List Expr} {kws:List Keyword} {te ta:TE} {t tk:TA} {nm:Option Str}
variable {g:List Value→List Value→List Value} {gV:List V→List V→List V}
end
structure aw (N P:List Str) (sc:Scope):Prop where
 kind:sc.kind=.function
 co:sc.isCoroutine=false
 gen:sc.isGenerator=false
 nd:N.Nodup
 pre:N.take P.length=P
 par:∀x∈P,sc.names.lookup x=some .local∨sc.names.lookup x=some .cell
 nofree:∀y∈sc.names,y.2≠.free
theorem uz {kindOf:Str→Option NameKind} {x:Str}:∀{binds:List (Str × Value)} {m:Str→Option Value},(∀v,(x,v) ∉ binds)→bindL kindOf binds m x=m x
 | [],_,_=>rfl
 | (n,v) :: r,m,h=>by
  unfold bindL
  rw [uz λw hw=>h w (T9 _ hw)]
  split
  ·have:x≠n:=by rintro rfl;exact h v Ui
   simp [this]
  ·rfl
theorem ux {kindOf:Str→Option NameKind} {x:Str}:∀{binds:List (Str × Value)} {m:Str→Option Value},(∀v,(x,v) ∉ binds)→bindC kindOf binds m x=m x
 | [],_,_=>rfl
 | (n,v) :: r,m,h=>by
  unfold bindC
  rw [ux λw hw=>h w (T9 _ hw)]
  split
  ·rfl
  ·have:x≠n:=by rintro rfl;exact h v Ui
   simp [this]
theorem uy {kindOf:Str→Option NameKind} {x:Str} {v:Value}:∀{P:List Str} {vs:List Value} {i:Nat} {m:Str→Option Value},P.Nodup→P[i]?=some x→vs[i]?=some v→kindOf x=some .local →
  bindL kindOf (P.zip vs) m x=some v
 | [],_,_,_,_,h,_,_=>by simp at h
 | _ :: _,[],_,_,_,_,h,_=>by simp at h
 | p :: P,w :: vs,0,m,nd,h1,h2,hk=>by
  simp at h1 h2;subst h1;subst h2
  show bindL kindOf ((p,w) :: P.zip vs) m p=_
  unfold bindL
  rw [uz λv hv=>(UM.mp nd).1 (VJ hv).1,if_pos hk]
  simp
 | p :: P,w :: vs,i + 1,m,nd,h1,h2,hk=>by
  show bindL kindOf ((p,w) :: P.zip vs) m x=_
  unfold bindL
  exact uy (i:=i) (UM.mp nd).2 (by simpa using h1) (by simpa using h2) hk
theorem uw {kindOf:Str→Option NameKind} {x:Str} {v:Value}:∀{P:List Str} {vs:List Value} {i:Nat} {m:Str→Option Value},P.Nodup→P[i]?=some x→vs[i]?=some v→kindOf x≠some .local →
  bindC kindOf (P.zip vs) m x=some v
 | [],_,_,_,_,h,_,_=>by simp at h
 | _ :: _,[],_,_,_,_,h,_=>by simp at h
 | p :: P,w :: vs,0,m,nd,h1,h2,hk=>by
  simp at h1 h2;subst h1;subst h2
  show bindC kindOf ((p,w) :: P.zip vs) m p=_
  unfold bindC
  rw [ux λv hv=>(UM.mp nd).1 (VJ hv).1,if_neg hk]
  simp
 | p :: P,w :: vs,i + 1,m,nd,h1,h2,hk=>by
  show bindC kindOf ((p,w) :: P.zip vs) m x=_
  unfold bindC
  exact uw (i:=i) (UM.mp nd).2 (by simpa using h1) (by simpa using h2) hk
def start (N:List Str) (vs:List V):St:=vs.map some ++ Up (N.length - vs.length) none
def vD (CX:sF) (P:Program) (w:World) (K:PySem.W.Frag) (mg:Str→Option Value) (base:Heap) (N:List Str) (qual:Str) (scope:Scope) (f:Addr) (cd:Value) (A:Around) (outer:List Env) (s:Shared) (H:Hp) (E:XK):Cx where
 prog:=P
 w:=w
 K:=K
 mg:=mg
 base:=base
 A:=A.deeper (envOfC qual scope s.heap.objs.size f cd)
 N:=N
 s₀:=s
 H₀:=H
 env:=envOfC qual scope s.heap.objs.size f cd
 outer:=outer
 stack:=envOfC qual scope s.heap.objs.size f cd :: outer
 ex:=[]
 calm:=true
 fn:=λ_=>true
 pn:=[]
 xe:=λe s'=>wpAny (model P w) (A.deeper (envOfC qual scope s.heap.objs.size f cd)) (leaving (envOfC qual scope s.heap.objs.size f cd) e) (λ_ s''=>CX outer H s E e s'') (λe' s''=>CX outer H s E e' s'') s'
theorem xX {sc:Scope} {n:Nat} {x:Str} (h:sc.names.lookup x=some .cell):∃c,(cellsFrom n sc.names []).lookup x=some c:=by
 have q:=PySem.W.cellsFrom_some sc.names n [] (.inl h)
 exact Vw.mp q
theorem Dp {CX:sF} {P:Program} {w:World} {K:PySem.W.Frag} {mg:Str→Option Value} {base:Heap} {N ps:List Str} {qual:Str} {scope:Scope} {f:Addr} {cd:Value} {A:Around} {outer:List Env} {s s1:Shared} {H:Hp} {E:XK} {us:List Value} {vs:List V}
  (S:aw N ps scope) (hd:A.handled=none) (e0:zL P w K mg base A outer s H) (hl:vs.length=ps.length) (r:Vals vs us)
  (x:InCallC s s.heap.objs.size (bindL (envOfC qual scope s.heap.objs.size f cd).kindOf (ps.zip us) λ_=>none) (cellsFrom (s.heap.objs.size + 1) scope.names []) (bindC (envOfC qual scope s.heap.objs.size f cd).kindOf (ps.zip us) λ_=>none) s1) :
  Inv (vD CX P w K mg base N qual scope f cd A outer s H E) [] (start N vs) H s1:=by
 have hpl:ps.length≤N.length:=by have:=congrArg UG S.pre;rw [T'] at this;omega
 obtain ⟨h1,tk,rfl,hk⟩:=x.done
 have noA:∀b:Addr,b ∉ (vD CX P w K mg base N qual scope f cd A outer s H E).ex:=λb z=>absurd (show b∈([]:List Addr) from z) (by simp)
 refine ⟨⟨e0.mod,S.kind,rfl,rfl,TF _,λy z c h1 h2=>?_,λy hy=>?_,λy c _ h=>?_,λ_=>hd,Around.frames_deeper e0.frames,.inr ⟨rfl,rfl⟩,λb z=>absurd z (noA b),e0.bs,e0.bsz,λb _ _=>noA b,λb z=>absurd z (noA b),e0.ou,e0.frf⟩,
  rfl,e0.bare,Un.kept hk,⟨_,x.toInCall.ns,λi y v h1 h2 h3=>?_⟩,λy c h=>⟨_,x.cell y c h⟩,e0.hok.fresh (TF _),λy c h=>?_,λp hp=>absurd (show p∈([]:List (Addr × Obj)) from hp) (by simp),e0.hok.kept hk,?_⟩
 ·exact name_of_addr x.apart (PySem.mem_of_lookup h1) (PySem.mem_of_lookup h2)
 ·have hy:scope.names.lookup y=some .cell∨scope.names.lookup y=some .free:=hy
  rcases hy with hy | hy
  ·exact xX hy
  ·exact absurd rfl (S.nofree _ (PySem.mem_of_lookup hy))
 ·exact Vp (x.above y c (PySem.mem_of_lookup h))
 ·have hi:i < vs.length:=by
   unfold start at h2
   by_cases hi:i < vs.length
   ·exact hi
   ·rw [UC (by simpa using hi)] at h2
    rw [List.getElem?_replicate] at h2
    split at h2 <;> cases h2
  have ha:vs[i]?=some v:=by
   unfold start at h2
   rw [UH (by simpa using hi),TN] at h2
   cases e:vs[i]? with
   | none=>rw [e] at h2;cases h2
   | some a=>rw [e] at h2;cases h2;rfl
  obtain ⟨u,hu,rv⟩:=r.get ha
  have hp:ps[i]?=some y:=by
   rw [← S.pre,List.getElem?_take_of_lt (by omega)];exact h1
  have ndP:ps.Nodup:=by rw [← S.pre];exact S.nd.sublist (Uy _ _)
  refine ⟨u,rv,?_⟩
  rcases S.par y (TH hp) with k | k
  ·exact .inl ⟨k,uy ndP hp hu k⟩
  ·obtain ⟨c,e⟩:=xX (n:=s.heap.objs.size + 1) k
   refine .inr ⟨.inl k,c,e,?_⟩
   have q:=x.cell y c e
   rw [uw ndP hp hu (by show scope.names.lookup y≠_;rw [k];decide)] at q
   exact q
 ·exact e0.hok.fresh (Vp (x.above y c (PySem.mem_of_lookup h)))
 ·unfold start
  show _=N.length
  rw [T7,Tx,List.length_replicate]
  omega
theorem E1 {CX:sF} {P:Program} {w:World} {K:PySem.W.Frag} {mg:Str→Option Value} {base:Heap} {k:Nat} {f:Addr} {name qual:Str} {params:Arguments} {body:List Stmt} {scope:Scope} {dV kV doc pm cdv ct oc:Value} {an od:Option Addr}
  {osl:Array (Option Value)} {N ps:List Str} {sp:Sp} (lk:K.lookup f=some ⟨oc,od,.func (PySem.W.fnOf name qual params body scope dV kV doc pm an cdv ct),osl⟩) (hcd:PySem.W.codeIn K cdv qual=true) (S:aw N ps scope)
  (len:∀vs H Q E,sp vs H Q E→vs.length=ps.length)
  (hbody:∀(A:Around) (outer:List Env) (s:Shared) (H:Hp) (vs:List V) (Q:VK) (E:XK),bK k (A.deeper (envOfC qual scope s.heap.objs.size f cdv))→sp vs H Q E →
   ∃t,uu (vD CX P w K mg base N qual scope f cdv A outer s H E) body t∧t { nx:=λ_ H'=>Q .non H',rt:=Q } (start N vs) H) :
  aL P w K mg base CX (k + 1) f (PySem.W.fnOf name qual params body scope dV kV doc pm an cdv ct) ps sp:=by
 refine ⟨len,λA outer s H args us vs Q E hr e0 hb r hsp=>?_⟩
 have hl:=len _ _ _ _ hsp
 have KX:K.In s.heap:=e0.mod.kin.keeps λb o e=>(e0.bs b o e).1
 have lim:s.heap.NoLimit:=e0.mod.nolimit.keeps λb o e=>(e0.bs b o e).1
 have hkind:∀y∈ps.zip us,scope.names.lookup y.1=some .local∨(scope.names.lookup y.1=some .cell∧((cellsFrom (s.heap.objs.size + 1) scope.names []).lookup y.1).isSome=true):=λ⟨n,v⟩ hy=>by
  rcases S.par n (VJ hy).1 with q | q
  ·exact .inl q
  ·exact .inr ⟨q,PySem.W.cellsFrom_some _ _ _ (.inl q)⟩
 refine codeAny_call_function hr.depth (KX _ _ lk) rfl S.co S.gen rfl (PySem.W.codeRec_of KX hcd) (hb _ _ _ _ ?_)
 refine wpAny_newFunctionEnv_cells S.kind hkind λenv he s1 x=>?_
 subst he
 refine ⟨lim.keeps x.toInCall.keep,codeAny_func ?_⟩
 obtain ⟨t,ht,hq⟩:=hbody A outer s H vs Q E (hr.deeper _) hsp
 have I:Inv (vD CX P w K mg base N qual scope f cdv A outer s H E) [] (start N vs) H s1:=Dp S hr.hd e0 hl r x
 refine wpAny_mono (ht [] s1 (start N vs) H _ I hq) (λfl s' hs=>?_) λe s' hs=>hs
 have fin:∀{σ':St} {H':Hp} {v:V} {u:Value},Inv (vD CX P w K mg base N qual scope f cdv A outer s H E) [] σ' H' s'→RelV v u→Q v H'→CE outer P w H s Q u s' :=
  λ{σ' H' v u} J rv q=>⟨v,H',J.os,J.bare,J.base,J.hok,rv,q⟩
 cases fl with
 | ret u =>
  obtain ⟨v,σ',H',J,rv,q⟩:=hs
  exact fin J rv q
 | next =>
  obtain ⟨σ',H',J,q⟩:=hs
  exact fin (v:=V.non) (u:=Value.none) J rfl q
 | brk =>
  obtain ⟨_,_,_,q⟩:=hs
  exact False.elim q
 | cont =>
  obtain ⟨_,_,_,q⟩:=hs
  exact False.elim q
end L2
namespace L2
open PySem PySem.Spec PyProof.Rows
section
variable {X:Cx} {x:Str} {p pos:Pos} {e:Expr} {es:List Expr} {t:TA} {id T:String} {r:List V→Hp→VK→Prop}
def K3 (r:List V→Hp→VK→Prop) (t:TA):TE:=λσ H Q=>t σ H λvs H1=>r vs H1 Q
theorem dP (hc:bY X (.builtin id) r) (hg:Gl X x) (hm:X.mg x=none) (hv:bootBuiltins x=some (.builtin id)) (ha:PA X (e :: es) t) (hn:x≠"__name__":=by decide) (hdb:(x == ("__debug__":Str))=false:=by decide)
  (he:starEach (e :: es) X.env=(false,eval e X.env) :: starEach es X.env:=by rfl) (hpl:(backTo pos (starEach es X.env)).any (·.1)=false:=by rfl):PE X (.Call (.Name x p) (e :: es) [] pos) (K3 r t):=by
 intro pins s σ H Q I h
 refine wpAny_Call_Name_kw (mf I hg hm hv ?_ hn hdb)
 exact PyProof.Rows.callWith_builtin1 (cq (ha pos pins s σ H _ I h) λus s1 ⟨vs,H1,I1,r1,q1⟩=>hc pins s1 σ H1 vs us Q I1 r1 q1) he hpl
theorem oH (hc:bY X (.type T) r) (hg:Gl X x) (hm:X.mg x=none) (hv:bootBuiltins x=some (.type T)) (ha:PA X (e :: es) t) (hn:x≠"__name__":=by decide) (hdb:(x == ("__debug__":Str))=false:=by decide)
  (he:starEach (e :: es) X.env=(false,eval e X.env) :: starEach es X.env:=by rfl) (hpl:(backTo pos (starEach es X.env)).any (·.1)=false:=by rfl):PE X (.Call (.Name x p) (e :: es) [] pos) (K3 r t):=by
 intro pins s σ H Q I h
 refine wpAny_Call_Name_kw (mf I hg hm hv ?_ hn hdb)
 exact PyProof.Rows.callWith_type1 (cq (ha pos pins s σ H _ I h) λus s1 ⟨vs,H1,I1,r1,q1⟩=>hc pins s1 σ H1 vs us Q I1 r1 q1) he hpl
end
end L2
namespace HT
open PySem PyProof.Rows
def lexLt:List Int→List Int→Bool
 | [],[]=>false
 | [],_ :: _=>true
 | _ :: _,[]=>false
 | x :: xs,y :: ys=>if x=y then lexLt xs ys else decide (x < y)
section
open PySem.SeqAt
open PySem.AutoSeq1 (wpAny_loadPart')
open PySem.MeetsSeq PySem.MeetsSeq2 PySem.MeetsSeq3
end
section
variable {prog:Program} {w:World} {A:Around} {E:Value→Shared→Prop} {s:Shared}
def d5 (n d:Nat):Option Int→Nat
 | none=>d
 | some v=>if v < 0 then (v + (n:Int)).toNat else min v.toNat n
theorem yW (n d:Nat):d5 n d none=d:=rfl
theorem wJ (n d k:Nat):d5 n d (some (k:Int))=min k n:=by
 show (if (k:Int) < 0 then ((k:Int) + (n:Int)).toNat else min (k:Int).toNat n)=min k n
 rw [if_neg (by omega),Int.toNat_natCast]
theorem M3 (n d:Nat) (hd:d≤n) (o:Option Int):d5 n d o≤n:=by
 cases o with
 | none=>exact hd
 | some v =>
  show (if v < 0 then (v + (n:Int)).toNat else min v.toNat n)≤n
  by_cases hv:v < 0
  ·rw [if_pos hv];omega
  ·rw [if_neg hv];exact Nat.min_le_right _ _
theorem Bv (v:Int) (n d:Nat):(if v < 0 then max (v + (n:Int)) 0 else min v (n:Int))=((d5 n d (some v):Nat):Int):=by
 show (if v < 0 then max (v + (n:Int)) 0 else min v (n:Int))=(((if v < 0 then (v + (n:Int)).toNat else min v.toNat n):Nat):Int)
 by_cases hv:v < 0
 ·simp only [if_pos hv];omega
 ·simp only [if_neg hv];omega
theorem zS (lo hi:Option Int) (n:Nat):Builtin.Slice.sliceAdjust lo hi 1 (n:Int)=(((d5 n 0 lo:Nat):Int),((d5 n n hi:Nat):Int)):=by
 have h1:¬ ((1:Int) < 0):=by omega
 unfold Builtin.Slice.sliceAdjust
 simp only [h1,if_false]
 refine Prod.ext ?_ ?_
 ·cases lo with
  | none=>rfl
  | some v=>exact Bv v n 0
 ·cases hi with
  | none=>rfl
  | some v=>exact Bv v n n
theorem AH (i j:Nat):Builtin.Slice.slicePlaces (i:Int) (j:Int) 1=j - i:=by
 unfold Builtin.Slice.slicePlaces
 have h1:(1:Int) > 0:=by omega
 simp only [h1,if_true,Int.ediv_one]
 split <;> omega
theorem r8 {v:Value} {o:Option Int} {Q:Option Int→Shared→Prop} (p:IsPart v o) (h:Q o s):wpAny (model prog w) A (Builtin.Slice.slicePartIndex v) Q E s:=by
 cases p with
 | none=>exact slicePart_none h
 | int i t=>exact slicePart_int h
theorem oY {sl:Addr} {vl vu:Value} {lo hi:Option Int} {n:Nat} {Q:Int × Int × Nat→Shared→Prop} (hs:s.heap.IsSliceOf sl vl vu .none) (pl:IsPart vl lo) (pu:IsPart vu hi)
  (h:Q (((d5 n 0 lo:Nat):Int),1,d5 n n hi - d5 n 0 lo) s):wpAny (model prog w) A (Builtin.Slice.sliceApplied (.ref sl) (pure (n:Int))) Q E s:=by
 obtain ⟨os,hos,hcs,hds⟩:=id hs
 unfold Builtin.Slice.sliceApplied Builtin.Slice.sliceFields
 refine wpAny_bind (wpAny_bind (wpAny_field hos hds (x:=vl) rfl (wpAny_bind (wpAny_field hos hds (x:=vu) rfl (wpAny_bind (wpAny_field hos hds (x:=.none) rfl (wpAny_pure ?_)))))))
 refine wpAny_bind (slicePart_none ?_)
 show wpAny _ _ (if ((1:Int) == 0)=true then _ else _) _ _ s
 rw [if_neg (by decide)]
 refine wpAny_bind (r8 pl (wpAny_bind (r8 pu (wpAny_bind (wpAny_pure ?_)))))
 show wpAny _ _ (match Builtin.Slice.sliceAdjust lo hi 1 (n:Int) with | (lo,hi)=>pure (lo,(1:Int),Builtin.Slice.slicePlaces lo hi 1)) _ _ s
 rw [zS lo hi n]
 show wpAny _ _ (pure (((d5 n 0 lo:Nat):Int),(1:Int),Builtin.Slice.slicePlaces ((d5 n 0 lo:Nat):Int) ((d5 n n hi:Nat):Int) 1)) _ _ s
 rw [AH]
 exact wpAny_pure h
theorem Gg (xs:Array Value) (i k:Nat):((UR k).filterMap λ(m:Nat)=>xs[((i:Int) + (m:Int) * 1).toNat]?).toArray=((xs.toList.drop i).take k).toArray:=by
 have e:(λ(m:Nat)=>xs[((i:Int) + (m:Int) * 1).toNat]?)=λm=>xs[i + m]?:=by
  funext m
  have:((i:Int) + (m:Int) * 1).toNat=i + m:=by omega
  rw [this]
 rw [e]
 have:=pick_run xs i k
 rw [List.filterMap_map] at this
 have e2:((λx=>xs[x]?) ∘ λx=>i + x)=λm=>xs[i + m]?:=rfl
 rw [e2] at this
 rw [this]
theorem m5 {t sl:Addr} {items:Array Value} {vl vu:Value} {lo hi:Option Int} {Q:Value→Shared→Prop} (ht:IsTup s.heap t items) (hs:s.heap.IsSliceOf sl vl vu .none) (pl:IsPart vl lo) (pu:IsPart vu hi)
  (hw:¬ (d5 items.size 0 lo=0∧d5 items.size items.size hi=items.size))
  (h:Q (.ref s.heap.objs.size) { s with heap:=s.heap.push { cls:=.type "tuple",data:=.seq ((items.toList.drop (d5 items.size 0 lo)).take (d5 items.size items.size hi - d5 items.size 0 lo)).toArray } })
  (hsz:items.size≤sizeLine):wpAny (model prog w) A (getItem (.ref t) (.ref sl)) Q E s:=by
 have htake:sizeOk (.seq ((items.toList.drop (d5 items.size 0 lo)).take (d5 items.size items.size hi - d5 items.size 0 lo)).toArray):=by
  show ((items.toList.drop (d5 items.size 0 lo)).take (d5 items.size items.size hi - d5 items.size 0 lo)).toArray.size≤sizeLine
  rw [TJ,T',UP,Array.length_toList]
  omega
 have hj:d5 items.size items.size hi≤items.size:=M3 _ _ (TF _) hi
 obtain ⟨os,hos,hcs,hds⟩:=id hs
 have hTs:s.TypeIs (.ref sl) "slice":=⟨os,hos,hcs⟩
 unfold getItem
 try with_reducible refine wpAny_holding ?_
 first | refine wpAny_bind (wpAny_pure ?_) | skip
 refine wpAny_bind (wpAny_sequenceKey ht.typeIs (by decide) ?_)
 refine wpAny_bind (wpAny_callSpecial?_slot (name:=Str.ofString "__getitem__") ht.typeIs PyProof.Rows.slot_tuple_getitem
  (wpAny_call_entry PyProof.Rows.slot_tuple_getitem ht.typeIs entry_tuple_getitem ?_ (args_tuple_getitem _ _)))
 show wpAny _ _ (Builtin.Tuple.tupleItemsOf (.ref t) >>= _) _ _ s
 refine wpAny_bind (tupleItemsOf_ ht ?_)
 refine wpAny_bind (wpAny_typeOf hTs ?_)
 rw [if_pos (by decide)]
 refine wpAny_bind (oY hs pl pu ?_)
 have hno:¬ ((((d5 items.size 0 lo:Nat):Int) == 0 && (1:Int) == 1 && (d5 items.size items.size hi - d5 items.size 0 lo) == items.size)=true):=by
  intro q
  rw [Ud,Ud] at q
  have q1:((d5 items.size 0 lo:Nat):Int)=0:=eq_of_beq q.1.1
  have q2:d5 items.size items.size hi - d5 items.size 0 lo=items.size:=eq_of_beq q.2
  exact hw ⟨by omega,by omega⟩
 show wpAny _ _ (if (((d5 items.size 0 lo:Nat):Int) == 0 && (1:Int) == 1 && (d5 items.size items.size hi - d5 items.size 0 lo) == items.size)=true then _ else _) _ _ s
 rw [if_neg hno,Gg]
 first
  | exact wpAny_bind (m:=Builtin.Tuple.tupleExact _) (wpAny_newObj_type (wpAny_pure ⟨_,rfl,wpAny_pure h⟩) htake)
  | exact wpAny_bind (m:=Builtin.Tuple.tupleExact _) (wpAny_newObj_type (wpAny_bind (wpAny_pure (wpAny_pure ⟨_,rfl,wpAny_pure h⟩))) htake)
  | exact wpAny_bind (wpAny_bind (m:=Builtin.Tuple.tupleExact _) (wpAny_newObj_type (wpAny_pure (wpAny_pure ⟨_,rfl,wpAny_pure h⟩)) htake))
  | exact wpAny_bind (wpAny_bind (m:=Builtin.Tuple.tupleExact _) (wpAny_newObj_type (wpAny_pure ⟨_,rfl,wpAny_pure h⟩) htake))
end
end HT
namespace L2
open PySem PySem.Spec PyProof.Rows
abbrev TO:=St→Hp→(Option Int→Hp→Prop)→Prop
def PO (X:Cx) (e:Option Expr) (t:TO):Prop :=
 ∀(pins:List (Addr × Obj)) (s:Shared) (σ:St) (H:Hp) (Q:Option Int→Hp→Prop),Inv X pins σ H s→t σ H Q →
  wpAny (model X.prog X.w) X.A (evalPart e X.env) (λu s'=>∃o H',Inv X pins σ H' s'∧IsPart u o∧Q o H') X.xe s
def qp:TO:=λ_ H Q=>Q none H
def CS (t:TE):TO:=λσ H Q=>t σ H λx H1=>∃i,x=.int i∧Q (some i) H1
theorem intsAre_of {ns:List Int}:∀{us:List Value},Vals (ns.map V.int) us→IntsAre us ns:=by
 induction ns with
 | nil=>intro us r;rw [Ux] at r;cases r;exact .nil
 | cons n ns ih =>
  intro us r
  rw [TL] at r
  cases r with
  | cons r1 r2 =>
   obtain ⟨t,e⟩:=r1
   subst e
   exact .cons n t (ih r2)
section
variable {X:Cx} {e:Expr} {te:TE} {lo hi:Option Expr} {tl th:TO} {pos p2:Pos}
theorem qg:PO X none qp:=by
 intro pins s σ H Q I h
 rw [evalPart_none]
 exact wpAny_pure ⟨none,H,I,.none,h⟩
theorem ly (h:PE X e te):PO X (some e) (CS te):=by
 intro pins s σ H Q I hw
 rw [evalPart_some]
 refine cq (h pins s σ H _ I hw) λu s1 ⟨x,H1,I1,r1,q1⟩=>?_
 obtain ⟨i,rfl,q⟩:=q1
 obtain ⟨t,rfl⟩:=r1
 exact ⟨some i,H1,I1,.int i t,q⟩
def tI (X:Cx) (r:V→Option Int→Option Int→Hp→VK→Prop):Prop :=
 ∀(pins:List (Addr × Obj)) (s:Shared) (σ:St) (H:Hp) (x:V) (v vl vu:Value) (lo hi:Option Int) (sl:Addr) (Q:VK),Inv X pins σ H s→RelV x v→s.heap.IsSliceOf sl vl vu .none→IsPart vl lo→IsPart vu hi→r x lo hi H Q →
  ∃T id,typeLookup (.type T) "__getitem__"=pure (some (.builtin id))∧s.TypeIs v T∧wpAny (model X.prog X.w) X.A (getItem v (.ref sl)) (EP X pins σ Q) X.xe s
theorem tI.or {r r':V→Option Int→Option Int→Hp→VK→Prop} (h:tI X r) (h':tI X r'):tI X (λx lo hi H Q=>r x lo hi H Q∨r' x lo hi H Q):=by
 intro pins s σ H x v vl vu lo hi sl Q I rx hs pl pu q
 rcases q with q | q
 ·exact h pins s σ H x v vl vu lo hi sl Q I rx hs pl pu q
 ·exact h' pins s σ H x v vl vu lo hi sl Q I rx hs pl pu q
def Qs (r:V→Option Int→Option Int→Hp→VK→Prop) (te:TE) (tl th:TO):TE:=λσ H Q=>te σ H λx H1=>tl σ H1 λl H2=>th σ H2 λu H3=>r x l u H3 Q
theorem ku {r:V→Option Int→Option Int→Hp→VK→Prop} (hr:tI X r) (he:PE X e te) (hl:PO X lo tl) (hu:PO X hi th):PE X (.Subscript e (.Slice lo hi none p2) pos) (Qs r te tl th):=by
 intro pins s σ H Q I h
 refine Subscript_ (cq (he pins s σ H _ I h) λv s1 ⟨x,H1,I1,r1,q1⟩=>?_)
 refine wpAny_Slice (cq (hl pins s1 σ H1 _ I1 q1) λvl s2 ⟨l,H2,I2,pl,q2⟩=>cq (hu pins s2 σ H2 _ I2 q2) λvu s3 ⟨u,H3,I3,pu,q3⟩=>?_)
 rw [evalPart_none]
 refine wpAny_pure ?_
 have I4:Inv X pins σ H3 { s3 with heap:=s3.heap.push { cls:=.type "slice",data:=.fields #[vl,vu,.none] } }:=I3.kept (t':=s3.toks) λb ob q=>Heap.get?_push_of_some _ q
 obtain ⟨T,id,hT,ht,hg⟩:=hr pins { s3 with heap:=s3.heap.push { cls:=.type "slice",data:=.fields #[vl,vu,.none] } } σ H3 x v vl vu l u s3.heap.objs.size Q I4 r1 (Heap.IsSliceOf.new ..) pl pu q3
 show wpAny (model X.prog X.w) X.A (subscriptTail e (.Slice lo hi none p2) v (.ref s3.heap.objs.size)) (EP X pins σ Q) X.xe { s3 with heap:=s3.heap.push { cls:=.type "slice",data:=.fields #[vl,vu,.none] } }
 exact tail_any (ops:=[.ref s3.heap.objs.size,v]) ht hT hg (by with_unfolding_all rfl)
def oj (xs:List V) (lo hi:Option Int):List V:=(xs.drop (HT.d5 xs.length 0 lo)).take (HT.d5 xs.length xs.length hi - HT.d5 xs.length 0 lo)
theorem o_ (xs:List V) (lo hi:Option Int):(oj xs lo hi).length≤xs.length:=by
 unfold oj
 rw [T',UP]
 omega
def RX (K:PySem.W.Frag):V→Option Int→Option Int→Hp→VK→Prop:=λx lo hi H Q=>∃a xs,x=.ref a∧gK K H a xs ∧
 ¬ (HT.d5 xs.length 0 lo=0∧HT.d5 xs.length xs.length hi=xs.length)∧∀p,H p=none→Q (.ref p) (upd H p (.tup (oj xs lo hi)))
theorem M8:tI X (RX X.K):=by
 intro pins s σ H x v vl vu lo hi sl Q I rx hs pl pu h
 obtain ⟨a,xs,rfl,hx,hw,q⟩:=h
 cases rx
 obtain ⟨its,r,ht,hz⟩:=I.tuple hx
 have hlen:its.toArray.size=xs.length:=by rw [TJ];exact r.length.symm
 refine ⟨"tuple",_,PyProof.Rows.slot_tuple_getitem.lookup,ht.typeIs,?_⟩
 refine HT.m5 ht hs pl pu (by rw [hlen];exact hw) ?_ (by rw [hlen];exact hz)
 rw [hlen]
 refine ⟨.ref s.heap.objs.size,_,I.laid (t':=s.toks) (o:=.tup (oj xs lo hi)) (λb ob q=>Heap.get?_push_of_some _ q) (TF _) ?_,rfl,q _ (I.hok.fresh (TF _))⟩
 exact ⟨T4 (o_ xs lo hi) hz,_,(r.drop (HT.d5 xs.length 0 lo)).take (HT.d5 xs.length xs.length hi - HT.d5 xs.length 0 lo),IsTup.new _ _⟩
end
end L2
namespace L2
open PySem PySem.Spec PyProof.Rows
def Eh (n:Nat) (i:Int):Option Nat:=if 0≤i then (if i < n then some i.toNat else none) else if -(n:Int)≤i then some (i + n).toNat else none
def de {α:Type} (xs:List α) (i:Int):Option α:=(Eh xs.length i).bind λj=>xs[j]?
theorem BW {n:Nat} {i:Int} {j:Nat} (h:Eh n i=some j):seqIndex? i n=some j∧j < n∧-(n:Int)≤i∧i < n:=by
 unfold Eh at h
 by_cases h0:0≤i
 ·rw [if_pos h0] at h
  by_cases h1:i < n
  ·rw [if_pos h1] at h
   have e:i.toNat=j:=Option.some.inj h
   exact ⟨by rw [seqIndex_of h0 h1,e],by omega,by omega,h1⟩
  ·rw [if_neg h1] at h;cases h
 ·rw [if_neg h0] at h
  by_cases h1:-(n:Int)≤i
  ·rw [if_pos h1] at h
   have e:(i + n).toNat=j:=Option.some.inj h
   exact ⟨by rw [seqIndex_neg (by omega) h1,e],by omega,h1,by omega⟩
  ·rw [if_neg h1] at h;cases h
theorem vt {α:Type} {xs:List α} {i:Int} {v:α} (h:de xs i=some v):∃j,seqIndex? i xs.length=some j∧xs[j]?=some v∧j < xs.length∧-(xs.length:Int)≤i∧i < xs.length:=by
 unfold de at h
 cases e:Eh xs.length i with
 | none=>rw [e] at h;cases h
 | some j =>
  rw [e] at h
  obtain ⟨h1,h2,h3,h4⟩:=BW e
  exact ⟨j,h1,h,h2,h3,h4⟩
theorem bq {α:Type} {xs:List α} {j:Nat} {v:α} (h:xs[j]?=some v):de xs (j:Int)=some v:=by
 have hj:j < xs.length:=(TC.mp h).1
 have e:Eh xs.length (j:Int)=some j:=by
  unfold Eh
  rw [if_pos (by omega),if_pos (by omega)];simp
 unfold de;rw [e];exact h
def c5 (b:Expr):Prop:=∀o i,subscripted b false o i=operate [o,i] (getItem o i)
def pW (X:Cx) (r:R2):Prop :=
 ∀(value slice:Expr) (pins:List (Addr × Obj)) (s:Shared) (σ:St) (H:Hp) (x y:V) (v u:Value) (Q:VK),Inv X pins σ H s→RelV x v→RelV y u→r x y H Q →
  subscripted slice false v u=operate [v,u] (getItem v u)→wpAny (model X.prog X.w) X.A (subscriptTail value slice v u) (EP X pins σ Q) X.xe s
def pX (X:Cx) (id:String) (r:V→List V→Hp→VK→Prop):Prop :=
 ∀(pins:List (Addr × Obj)) (s:Shared) (σ:St) (H:Hp) (x:V) (xs:List V) (v:Value) (us:List Value) (Q:VK),Inv X pins σ H s→RelV x v→Vals xs us→r x xs H Q →
  wpAny (model X.prog X.w) X.A (call (.builtin id) (v :: us)) (EP X pins σ Q) X.xe s
section
variable {X:Cx} {a b:Expr} {ta tb:TE} {pos:Pos}
theorem pW.or {r r':R2} (h:pW X r) (h':pW X r'):pW X (λx y H Q=>r x y H Q∨r' x y H Q):=by
 intro value slice pins s σ H x y v u Q I rx ry q hs
 rcases q with q | q
 ·exact h value slice pins s σ H x y v u Q I rx ry q hs
 ·exact h' value slice pins s σ H x y v u Q I rx ry q hs
theorem pX.or {id:String} {r r':V→List V→Hp→VK→Prop} (h:pX X id r) (h':pX X id r'):pX X id (λx xs H Q=>r x xs H Q∨r' x xs H Q):=by
 intro pins s σ H x xs v us Q I rx rs q
 rcases q with q | q
 ·exact h pins s σ H x xs v us Q I rx rs q
 ·exact h' pins s σ H x xs v us Q I rx rs q
theorem cg {r:R2} (hr:pW X r) (ha:PE X a ta) (hb:PE X b tb) (hs:c5 b):PE X (.Subscript a b pos) (G6 r ta tb):=by
 intro pins s σ H Q I h
 exact Subscript_ (Ls ha hb I h λv u s2 x y H2 I2 rx ry q=>hr a b pins s2 σ H2 x y v u Q I2 rx ry q (hs _ _))
def Ph (K:PySem.W.Frag):R2:=λx y H Q=>∃p xs i v,x=.ref p∧y=.int i∧cW K H p xs∧de xs i=some v∧Q v H
def Pk (K:PySem.W.Frag):R2:=λx y H Q=>∃p xs i v,x=.ref p∧y=.int i∧gK K H p xs∧de xs i=some v∧Q v H
def Pj:R2:=λx y H Q=>∃z i c,x=.str z∧y=.int i∧z.length≤sizeLine∧de z.cps.toList i=some c∧Q (.str ⟨#[c]⟩) H
theorem vI:pW X (Ph X.K):=by
 intro value slice pins s σ H x y v u Q I rx ry h hs
 obtain ⟨p,xs,i,z,rfl,rfl,hq,he,q⟩:=h
 cases rx
 obtain ⟨t,rfl⟩:=ry
 obtain ⟨its,r,pl,hz⟩:=I.list hq
 obtain ⟨j,h1,h2,h3,h4,h5⟩:=vt he
 obtain ⟨w,ew,rw'⟩:=r.get h2
 have hl:=r.length
 have hn:=mi
 have fin:EP X pins σ Q w s:=⟨z,H,I,rw',q⟩
 by_cases h0:0≤i
 ·have hj:i.toNat=j:=by
   rw [seqIndex_of h0 h5] at h1
   exact Option.some.inj h1
  exact item_listR pl.isList h0 (by omega) (by rw [hj];simpa using ew) fin hs
 ·have hj:(i + (its.toArray.size:Int)).toNat=j:=by
   rw [seqIndex_neg (by omega) h4] at h1
   rw [TJ,← hl]
   exact Option.some.inj h1
  exact subscriptTail_builtinR (x:=w) pl.isList.typeIs slot_list_getitem.lookup
   (wpAny_getItem_list_neg (Q:=λr s'=>r=w∧EP X pins σ Q r s') pl.isList (by omega) (by rw [TJ] <;> omega) (by omega) (by rw [hj];simpa using ew) ⟨rfl,fin⟩) hs
theorem cS:pW X (Pk X.K):=by
 intro value slice pins s σ H x y v u Q I rx ry h hs
 obtain ⟨p,xs,i,z,rfl,rfl,hq,he,q⟩:=h
 cases rx
 obtain ⟨t,rfl⟩:=ry
 obtain ⟨its,r,pl,hz⟩:=I.tuple hq
 obtain ⟨j,h1,h2,h3,h4,h5⟩:=vt he
 obtain ⟨w,ew,rw'⟩:=r.get h2
 have hl:=r.length
 have hn:=mi
 have fin:EP X pins σ Q w s:=⟨z,H,I,rw',q⟩
 exact subscriptTail_builtinR (x:=w) pl.typeIs slot_tuple_getitem.lookup
  (getItem_tuple (j:=j) (Q:=λr s'=>r=w∧EP X pins σ Q r s') pl (by omega) (by omega) (by rw [TJ,← hl];exact h1) (by simpa using ew) ⟨rfl,fin⟩) hs
theorem Ft:pW X Pj:=by
 intro value slice pins s σ H x y v u Q I rx ry h hs
 obtain ⟨z,i,c,rfl,rfl,hz,he,q⟩:=h
 obtain ⟨t,rfl⟩:=rx
 obtain ⟨t',rfl⟩:=ry
 obtain ⟨j,h1,h2,h3,h4,h5⟩:=vt he
 have hl:z.cps.toList.length=z.length:=by simp [Str.length]
 rw [hl] at h1 h4 h5
 have hn:=mi
 exact tail_any (typeIs_str s z t) slot_str_getitem.lookup (getItem_str (c:=c) (by
  have e1:decide (i < -(2 ^ 63:Int))=false:=decide_eq_false (by omega)
  have e2:decide (i ≥ 2 ^ 63)=false:=decide_eq_false (by omega)
  rw [e1,e2,Bool.or_false]) (by rw [h1];simpa using h2) ⟨.str ⟨#[c]⟩,H,I.tok _,⟨_,rfl⟩,q⟩) hs
theorem Ao (its:List Value) (n j:Nat) (u:Value):Obj.mapSeq (·.setIfInBounds j u) { cls:=.type "list",data:=.seq its.toArray n }={ cls:=.type "list",data:=.seq (its.set j u).toArray n }:=by
 simp [Obj.mapSeq]
theorem Inv.lst {pins:List (Addr × Obj)} {σ:St} {H:Hp} {s:Shared} {p:Addr} {xs:List V} (I:Inv X pins σ H s) (h:H p=some (.lst xs)) :
  ∃(its:List Value) (n:Nat),Vals xs its∧s.heap.get? p=some { cls:=.type "list",data:=.seq its.toArray n }∧xs.length≤sizeLine:=by
 obtain ⟨z,its,n,r,e⟩:=I.hok p _ h
 exact ⟨its,n,r,e,z⟩
theorem Inv.Md {pins:List (Addr × Obj)} {σ:St} {H:Hp} {s:Shared} {p:Addr} {xs ys:List V} {its its':List Value} {n n':Nat} {f:Obj→Obj} (I:Inv X pins σ H s) (h:H p=some (.lst xs))
  (ho:s.heap.get? p=some { cls:=.type "list",data:=.seq its.toArray n }) (hf:f { cls:=.type "list",data:=.seq its.toArray n }={ cls:=.type "list",data:=.seq its'.toArray n' }) (r:Vals ys its') (hz:ys.length≤sizeLine) (t:Nat) :
  Inv X pins σ (upd H p (.lst ys)) { s with heap:=s.heap.update p f,toks:=t }:=by
 have e:(s.heap.update p f).get? p=some { cls:=.type "list",data:=.seq its'.toArray n' }:=by
  rw [Heap.get?_update_self f ho (by rw [hf] <;> rfl),hf]
 refine I.write (x:=p) (e:=p) (by rw [h];trivial) (.inl rfl) (λb u hb q=>(Heap.get?_update_other _ _ (Ne.symm hb)).trans q) ⟨_,e⟩ ?_
 exact ⟨hz,its',n',r,e⟩
def KR:V→V→V→Hp→(Hp→Prop)→Prop:=λo i v H Q=>∃p xs k j,o=.ref p∧i=.int k∧H p=some (.lst xs)∧Eh xs.length k=some j∧Q (upd H p (.lst (xs.set j v)))
theorem set_list:jW X KR:=by
 intro pins s σ H o i v ov iv u Q I ro ri rv h
 obtain ⟨p,xs,k,j,rfl,rfl,hp,hj,q⟩:=h
 cases ro
 obtain ⟨t,rfl⟩:=ri
 obtain ⟨its,n,r,ho,hz⟩:=I.lst hp
 obtain ⟨h1,h2,h3,h4⟩:=BW hj
 have hl:=r.length
 have hn:=mi
 have I':Inv X pins σ (upd H p (.lst (xs.set j v))) { s with heap:=s.heap.update p (Obj.mapSeq (·.setIfInBounds j u)) } :=
  I.Md hp ho (Ao its n j u) (r.set rv j) (by rw [U2];exact hz) s.toks
 by_cases h0:0≤k
 ·have hk:k.toNat=j:=by
   rw [seqIndex_of h0 h4] at h1
   exact Option.some.inj h1
  exact PySem.W.ki_setAt ho h0 (by omega) (by rw [TJ,← hl];exact h4) (by rw [hk];exact ⟨_,I',q⟩)
 ·have hk:(k + (its.toArray.size:Int)).toNat=j:=by
   rw [seqIndex_neg (by omega) h3] at h1
   rw [TJ,← hl]
   exact Option.some.inj h1
  exact PySem.W.ki_setBack ho (by omega) (by rw [TJ,← hl];exact h3) (by omega) (by rw [hk];exact ⟨_,I',q⟩)
theorem w9 (lo hi:Option Int) (n:Nat):(sliceBounds lo hi none n).1=((HT.d5 n 0 lo:Nat):Int)∧(sliceBounds lo hi none n).2.1=((HT.d5 n n hi:Nat):Int)∧(sliceBounds lo hi none n).2.2=1:=by
 refine ⟨?_,?_,rfl⟩
 ·cases lo with
  | none=>simp [sliceBounds,HT.d5]
  | some i =>
   simp only [sliceBounds,HT.d5,V3,show (1:Int) > 0 by decide,if_true]
   by_cases h:i < 0
   ·simp only [h,if_true] <;> omega
   ·simp only [h,if_false] <;> omega
 ·cases hi with
  | none=>simp [sliceBounds,HT.d5]
  | some i =>
   simp only [sliceBounds,HT.d5,V3,show (1:Int) > 0 by decide,if_true]
   by_cases h:i < 0
   ·simp only [h,if_true] <;> omega
   ·simp only [h,if_false] <;> omega
theorem ui (its:List Value) (lo hi:Option Int):slicePick its.toArray lo hi none=((its.drop (HT.d5 its.length 0 lo)).take (HT.d5 its.length its.length hi - HT.d5 its.length 0 lo)).toArray:=by
 obtain ⟨h1,h2,h3⟩:=w9 lo hi its.toArray.size
 unfold slicePick
 rw [h1,h2,h3]
 simp only [sliceRange_one,pick_run,TJ] <;> rfl
def Pu (K:PySem.W.Frag):V→Option Int→Option Int→Hp→VK→Prop:=λx lo hi H Q=>∃a xs,x=.ref a∧cW K H a xs∧∀p,H p=none→Q (.ref p) (upd H p (.lst (oj xs lo hi)))
theorem w8:tI X (Pu X.K):=by
 intro pins s σ H x v vl vu lo hi sl Q I rx hs pl pu h
 obtain ⟨a,xs,rfl,hx,q⟩:=h
 cases rx
 obtain ⟨its,r,ht,hz⟩:=I.list hx
 have hlen:=r.length
 refine ⟨"list",_,slot_list_getitem.lookup,ht.isList.typeIs,?_⟩
 refine wpAny_getItem_list_slice ht.isList hs pl pu .none (by simp) ?_ (by rw [TJ] <;> omega)
 rw [ui,← hlen]
 refine ⟨.ref s.heap.objs.size,_,I.laid (t':=s.toks) (o:=.lst (oj xs lo hi)) (λb ob q=>Heap.get?_push_of_some _ q) (TF _) ?_,rfl,q _ (I.hok.fresh (TF _))⟩
 exact ⟨T4 (o_ xs lo hi) hz,_,0,(r.drop (HT.d5 xs.length 0 lo)).take (HT.d5 xs.length xs.length hi - HT.d5 xs.length 0 lo),Heap.get?_push_size _ rfl⟩
def jL:V→Bool
 | .non=>true
 | .bl _=>true
 | .int _=>true
 | .str _=>true
 | _=>false
def Hc:V→V→Bool
 | .non,.non=>true
 | .bl a,.bl b=>a == b
 | .bl a,.int b=>(if a then 1 else 0) == b
 | .int a,.bl b=>a == (if b then 1 else 0)
 | .int a,.int b=>a == b
 | .str a,.str b=>a == b
 | _,_=>false
theorem LD {A:Around} {s:Shared} {y x:V} {u v:Value} (ry:RelV y u) (rx:RelV x v) (fy:jL y=true) (fx:jL x=true):SeqAt.EqAt A s u v (Hc y x):=by
 cases y with
 | non =>
  cases ry
  cases x with
  | non=>cases rx;exact SeqAt.EqAt.same _
  | bl b=>cases rx;exact SeqAt.EqAt.none_bool b
  | int b=>obtain ⟨t,rfl⟩:=rx;exact SeqAt.EqAt.none_int b t
  | str b=>obtain ⟨t,rfl⟩:=rx;exact SeqAt.EqAt.none_str b t
  | _=>exact absurd (show false=true from fx) TY
 | bl a =>
  cases ry
  cases x with
  | non=>cases rx;exact SeqAt.EqAt.bool_none a
  | bl b=>cases rx;exact SeqAt.EqAt.bool_bool a b
  | int b=>obtain ⟨t,rfl⟩:=rx;exact SeqAt.EqAt.bool_int a b t
  | str b=>obtain ⟨t,rfl⟩:=rx;exact SeqAt.EqAt.bool_str a b t
  | _=>exact absurd (show false=true from fx) TY
 | int a =>
  obtain ⟨t',rfl⟩:=ry
  cases x with
  | non=>cases rx;exact SeqAt.EqAt.int_none a t'
  | bl b=>cases rx;exact SeqAt.EqAt.int_bool a t' b
  | int b=>obtain ⟨t,rfl⟩:=rx;exact SeqAt.EqAt.int_int a t' b t
  | str b=>obtain ⟨t,rfl⟩:=rx;exact SeqAt.EqAt.int_str a t' b t
  | _=>exact absurd (show false=true from fx) TY
 | str a =>
  obtain ⟨t',rfl⟩:=ry
  cases x with
  | non=>cases rx;exact SeqAt.EqAt.str_none a t'
  | bl b=>cases rx;exact SeqAt.EqAt.str_bool a t' b
  | int b=>obtain ⟨t,rfl⟩:=rx;exact SeqAt.EqAt.str_int a t' b t
  | str b=>obtain ⟨t,rfl⟩:=rx;exact SeqAt.EqAt.str_str a t' b t
  | _=>exact absurd (show false=true from fx) TY
 | _=>exact absurd (show false=true from fy) TY
def Aa (x:V) (u:Value):Bool:=match u with
 | .none=>Hc .non x
 | .bool b=>Hc (.bl b) x
 | .int i _=>Hc (.int i) x
 | .str z _=>Hc (.str z) x
 | _=>false
theorem EY {x y:V} {u:Value} (r:RelV y u) (f:jL y=true):Aa x u=Hc y x:=by
 cases y with
 | non=>cases r;rfl
 | bl b=>cases r;rfl
 | int i=>obtain ⟨t,rfl⟩:=r;rfl
 | str z=>obtain ⟨t,rfl⟩:=r;rfl
 | _=>exact absurd (show false=true from f) TY
theorem mV {x:V}:∀{xs:List V} {us:List Value},Vals xs us→xs.all jL=true→us.any (Aa x)=xs.any λy=>Hc y x
 | _,_,.nil,_=>rfl
 | y :: xs,u :: us,.cons r t,f=>by
  rw [VW,Ud] at f
  rw [U3,U3,EY r f.1,mV t f.2]
theorem kg {A:Around} {s:Shared} {x:V} {v:Value} (rx:RelV x v) (fx:jL x=true):∀{xs:List V} {us:List Value},Vals xs us→xs.all jL=true→∀u∈us,SeqAt.EqAt A s u v (Aa x u)
 | _,_,.nil,_=>λu hu=>by cases hu
 | y :: xs,u :: us,.cons r t,f=>λu' hu=>by
  rw [VW,Ud] at f
  rcases TX.mp hu with rfl | hu
  ·rw [EY r f.1];exact LD r rx f.1 fx
  ·exact kg rx fx t f.2 u' hu
def NB (x:V) (xs:List V):Bool:=xs.any λy=>Hc y x
def S4 (K:PySem.W.Frag) (neg:Bool):R2:=λx y H Q=>∃p xs,y=.ref p∧(cW K H p xs∨gK K H p xs)∧jL x=true∧xs.all jL=true∧Q (.bl (if neg then !NB x xs else NB x xs)) H
theorem DP:fm X (compareOp .In) (S4 X.K false):=by
 intro pins s σ H x y v u Q I rx ry h
 obtain ⟨p,xs,rfl,hq,fx,fs,q⟩:=h
 cases ry
 rcases hq with hq | hq
 ·obtain ⟨its,r,pl,hz⟩:=I.list hq
  refine SeqAt.in_listAt (Aa x) pl.isList (λw hw=>kg rx fx r fs w (by simpa using hw)) ⟨.bl _,H,I,rfl,?_⟩
  rw [show its.toArray.any (Aa x)=its.any (Aa x) by simp,mV r fs]
  exact q
 ·obtain ⟨its,r,pl,hz⟩:=I.tuple hq
  refine SeqAt.in_tupleAt (Aa x) pl (λw hw=>kg rx fx r fs w (by simpa using hw)) ⟨.bl _,H,I,rfl,?_⟩
  rw [show its.toArray.any (Aa x)=its.any (Aa x) by simp,mV r fs]
  exact q
theorem wa:fm X (compareOp .NotIn) (S4 X.K true):=by
 intro pins s σ H x y v u Q I rx ry h
 obtain ⟨p,xs,rfl,hq,fx,fs,q⟩:=h
 cases ry
 rcases hq with hq | hq
 ·obtain ⟨its,r,pl,hz⟩:=I.list hq
  refine SeqAt.notIn_listAt (Aa x) pl.isList (λw hw=>kg rx fx r fs w (by simpa using hw)) ⟨.bl _,H,I,rfl,?_⟩
  rw [show its.toArray.any (Aa x)=its.any (Aa x) by simp,mV r fs]
  exact q
 ·obtain ⟨its,r,pl,hz⟩:=I.tuple hq
  refine SeqAt.notIn_tupleAt (Aa x) pl (λw hw=>kg rx fx r fs w (by simpa using hw)) ⟨.bl _,H,I,rfl,?_⟩
  rw [show its.toArray.any (Aa x)=its.any (Aa x) by simp,mV r fs]
  exact q
theorem i5:bY X (.builtin "len") (λxs H Q=>∃p ys,xs=[.ref p]∧(cW X.K H p ys∨gK X.K H p ys)∧Q (.int ys.length) H):=by
 intro pins s σ H xs us Q I r h
 obtain ⟨p,ys,rfl,hq,q⟩:=h
 obtain ⟨u,rfl,rx⟩:=vals1 r
 cases rx
 have hn:=mi
 rcases hq with hq | hq
 ·obtain ⟨its,r',pl,hz⟩:=I.list hq
  have hlen:=r'.length
  exact Calls.call_len_list pl.isList (by simp only [TJ] <;> omega) ⟨.int ys.length,H,I.tok _,⟨s.toks + 1,by rw [TJ,hlen]⟩,q⟩
 ·obtain ⟨its,r',pl,hz⟩:=I.tuple hq
  have hlen:=r'.length
  exact len_tuple pl (by simp only [TJ] <;> omega) ⟨.int ys.length,H,I.tok _,⟨s.toks + 1,by rw [TJ,hlen]⟩,q⟩
theorem mY:bY X (.builtin "len") (λxs H Q=>∃z,xs=[.str z]∧z.length≤sizeLine∧Q (.int z.length) H):=by
 intro pins s σ H xs us Q I r h
 obtain ⟨z,rfl,hz,q⟩:=h
 obtain ⟨u,rfl,t,rfl⟩:=vals1 r
 have hn:=mi
 exact len_str (by omega) ⟨.int z.length,H,I.tok _,⟨_,rfl⟩,q⟩
theorem bY.or {f:Value} {r r':List V→Hp→VK→Prop} (h:bY X f r) (h':bY X f r'):bY X f (λxs H Q=>r xs H Q∨r' xs H Q):=by
 intro pins s σ H xs us Q I rs q
 rcases q with q | q
 ·exact h pins s σ H xs us Q I rs q
 ·exact h' pins s σ H xs us Q I rs q
theorem vB:bY X (.type "list") (λxs H Q=>∃p ys,xs=[.ref p]∧(cW X.K H p ys∨gK X.K H p ys)∧∀l,H l=none→Q (.ref l) (upd H l (.lst ys))):=by
 intro pins s σ H xs us Q I r h
 obtain ⟨p,ys,rfl,hq,q⟩:=h
 obtain ⟨u,rfl,rx⟩:=vals1 r
 cases rx
 have fin:∀(its:List Value),Vals ys its→ys.length≤sizeLine→∀(h':Heap) (c':Nat),(∀b o',s.heap.get? b=some o'→h'.get? b=some o') →
   h'.get? s.heap.objs.size=some { cls:=.type "list",dict:=none,data:=.seq its.toArray c',slots:=#[] }→EP X pins σ Q (.ref s.heap.objs.size) { s with heap:=h' }:=λits r' hz h' c' kp e =>
  ⟨.ref s.heap.objs.size,_,I.laid (t':=s.toks) kp (TF _) (show c_ X.prog X.w _ h' _ (.lst ys) from ⟨hz,its,c',r',e⟩),rfl,q _ (I.hok.fresh (TF _))⟩
 rcases hq with hq | hq
 ·obtain ⟨its,r',pl,hz⟩:=I.list hq
  have hlen:=r'.length
  obtain ⟨o,ho,hc,n,hd⟩:=pl.isList
  exact call_list_seq p (.inl rfl) ho hc hd (λh' c' kp e=>fin its r' hz h' c' kp e) (by simp only [TJ] <;> omega)
 ·obtain ⟨its,r',pl,hz⟩:=I.tuple hq
  have hlen:=r'.length
  obtain ⟨o,ho,hc,n,hd⟩:=pl
  exact call_list_seq p (.inr rfl) ho hc hd (λh' c' kp e=>fin its r' hz h' c' kp e) (by simp only [TJ] <;> omega)
def Qv (K:PySem.W.Frag) (T:String) (x:V) (H:Hp):Prop:=match x with
 | .str _=>T="str"
 | .int _=>T="int"
 | .ref p=>(T="list"∧∃xs,cW K H p xs)∨(T="tuple"∧∃o,K.lookup p=some o∧o.cls=.type "tuple"∧o.dict=none) ∨
   (T="dict"∧((∃kvs,H p=some (.dK kvs))∨∃kvs ep,H p=some (.dE kvs ep)))∨(T="set"∧∃S n,H p=some (.set S n))
 | _=>False
theorem G_ {pins:List (Addr × Obj)} {σ:St} {H:Hp} {s:Shared} {T:String} {x:V} {v:Value} (I:Inv X pins σ H s) (r:RelV x v) (ty:Qv X.K T x H) :
  s.TypeIs v T∧∀a,v=.ref a→∃ob,s.heap.get? a=some ob∧ob.dict=none:=by
 cases x with
 | str z =>
  obtain ⟨t,rfl⟩:=r
  cases (show T="str" from ty)
  exact ⟨typeIs_str s z t,λ_ e=>nomatch e⟩
 | int i =>
  obtain ⟨t,rfl⟩:=r
  cases (show T="int" from ty)
  exact ⟨typeIs_int s i t,λ_ e=>nomatch e⟩
 | ref p =>
  cases r
  rcases ty with ⟨rfl,xs,hq⟩ | ⟨rfl,o,hk,hc,hd⟩ | ⟨rfl,hk⟩ | ⟨rfl,S,n,hk⟩
  ·obtain ⟨its,_,pl,_⟩:=I.list hq
   refine ⟨pl.isList.typeIs,λa e=>?_⟩
   cases e
   obtain ⟨o,n,e,c,hd,_⟩:=pl
   exact ⟨o,e,hd⟩
  ·refine ⟨⟨o,I.m7 p o hk,hc⟩,λa e=>?_⟩
   cases e
   exact ⟨o,I.m7 _ o hk,hd⟩
  ·have z:∃o,s.heap.get? p=some o∧o.ExactDict:=by
    rcases hk with ⟨kvs,hk⟩ | ⟨kvs,ep,hk⟩
    ·obtain ⟨_,_,_,_,o,_,_,e,ex,_⟩:=I.hok p _ hk
     exact ⟨o,e,ex⟩
    ·obtain ⟨_,_,_,_,o,_,e,ex,_⟩:=I.hok p _ hk
     exact ⟨o,e,ex⟩
   obtain ⟨o,e,ex⟩:=z
   refine ⟨⟨o,e,ex.1⟩,λa e2=>?_⟩
   cases e2
   exact ⟨o,e,ex.2.1⟩
  ·obtain ⟨o,_,_,_,e,ex,_⟩:=I.hok p _ hk
   refine ⟨⟨o,e,ex.1⟩,λa e2=>?_⟩
   cases e2
   exact ⟨o,e,ex.2.1⟩
 | _=>exact False.elim ty
def R4 (K:PySem.W.Frag) (T:String) (r:V→List V→Hp→VK→Prop) (to:TE):TE:=λσ H Q=>to σ H λx H1=>Qv K T x H1∧r x [] H1 Q
def Qp (K:PySem.W.Frag) (T:String) (r:V→List V→Hp→VK→Prop) (to:TE) (t:TA):TE:=λσ H Q=>to σ H λx H1=>Qv K T x H1∧t σ H1 λxs H2=>r x xs H2 Q
variable {o e:Expr} {es:List Expr} {to:TE} {t:TA} {name:Str} {apos cpos:Pos} {T id:String} {r:V→List V→Hp→VK→Prop}
theorem MC (pa:PlainAttrs T) (slot:Slot T name id) (hty:typeOf (.builtin id)=pure (.type "method_descriptor")) (hm:pX X id r) (ho:PE X o to)
  (hbase:attributeBase o name X.env (eval o X.env)=eval o X.env:=by rfl) (hline:(apos.endLine == cpos.line)=true:=by rfl):PE X (.Call (.Attribute o name apos) [] [] cpos) (R4 X.K T r to):=by
 intro pins s σ H Q I h
 refine wpAny_Call_method0_late hbase hline (cq (ho pins s σ H _ I h) λv s1 ⟨x,H1,I1,r1,ty,q1⟩=>?_)
 obtain ⟨h1,h2⟩:=G_ I1 r1 ty
 exact ⟨T,id,pa,slot,hty,h1,h2,Calls.callWith_builtin rfl (PySem.evalArgs_none (hm pins s1 σ H1 x [] v [] Q I1 r1 .nil q1))⟩
theorem rE (pa:PlainAttrs T) (slot:Slot T name id) (hty:typeOf (.builtin id)=pure (.type "method_descriptor")) (hm:pX X id r) (ho:PE X o to) (ha:PA X (e :: es) t)
  (hbase:attributeBase o name X.env (eval o X.env)=eval o X.env:=by rfl)
  (hfew:((backTo cpos (starEach (e :: es) X.env)).all (λx=>!x.1) && (backToKw cpos (keywordEach [] X.env)).all (λx=>x.1.isSome)
   && decide ((e :: es).length + ([]:List Keyword).length + (if ([]:List Keyword).isEmpty then 0 else 1) < 30))=true:=by rfl)
  (hline:(apos.endLine == cpos.line)=true:=by rfl) (hs:starEach (e :: es) X.env=(false,eval e X.env) :: starEach es X.env:=by rfl) (hplain:(backTo cpos (starEach es X.env)).any (·.1)=false:=by rfl) :
  PE X (.Call (.Attribute o name apos) (e :: es) [] cpos) (Qp X.K T r to t):=by
 intro pins s σ H Q I h
 refine wpAny_Call_method_late hbase hfew hline rfl (cq (ho pins s σ H _ I h) λv s1 ⟨x,H1,I1,r1,ty,q1⟩=>?_)
 obtain ⟨h1,h2⟩:=G_ I1 r1 ty
 refine ⟨T,id,pa,slot,hty,h1,h2,?_⟩
 have hA:=ha cpos pins s1 σ H1 _ I1 q1
 rw [hs] at hA ⊢
 refine Calls.callWith_builtin (by show (false || (backTo cpos (starEach es X.env)).any (·.1))=false;rw [hplain] <;> rfl) (Calls.evalArgs_plain ?_)
 exact cq hA λus s2 ⟨vs,H2,I2,r2,q2⟩=>hm pins s2 σ H2 x vs v us Q I2 r1 r2 q2
end
end L2
namespace L2
open PySem PySem.Spec PyProof.Rows
def Sy (X:Cx) (id:String) (r:V→List V→Hp→VK→Prop):Prop :=
 ∀(pins:List (Addr × Obj)) (s:Shared) (σ:St) (H:Hp) (x:V) (xs:List V) (v:Value) (us:List Value) (Q:VK),Inv X pins σ H s→RelV x v→Vals xs us→r x xs H Q →
  wpAny (model X.prog X.w) X.A (call (.builtin id) (v :: us)) (EP X pins σ Q) X.xe s
theorem Vals.one {x:V} {us:List Value} (r:Vals [x] us):∃u,us=[u]∧RelV x u:=vals1 r
theorem Vals.two {x y:V} {us:List Value} (r:Vals [x,y] us):∃u v,us=[u,v]∧RelV x u∧RelV y v:=vals2 r
theorem Vals.zero:∀{us:List Value},Vals [] us→us=[]
 | _,.nil=>rfl
theorem Vals.dropLast {xs:List V} {us:List Value} (h:Vals xs us):Vals xs.dropLast us.dropLast:=by
 induction h with
 | nil=>exact .nil
 | cons r t ih =>
  cases t with
  | nil=>exact .nil
  | cons q t'=>exact .cons r ih
theorem Vals.eraseIdx:∀{xs:List V} {us:List Value} (i:Nat),Vals xs us→Vals (xs.eraseIdx i) (us.eraseIdx i)
 | _,_,_,.nil=>.nil
 | _,_,0,.cons _ t=>t
 | _,_,i + 1,.cons r t=>.cons r (Vals.eraseIdx i t)
theorem Vals.reverse {xs:List V} {us:List Value} (h:Vals xs us):Vals xs.reverse us.reverse:=by
 induction h with
 | nil=>exact .nil
 | cons r t ih=>rw [UU,UU];exact Vals.append ih (.cons r .nil)
theorem Vals.rep {xs:List V} {us:List Value} (h:Vals xs us):∀k:Nat,Vals (Up k xs).flatten (Up k us).flatten
 | 0=>.nil
 | k + 1=>by
  rw [U1,U1,Vb,Vb]
  exact Vals.append h (Vals.rep h k)
theorem Ab {α:Type} (l:List α):l.eraseIdx (l.length - 1)=l.dropLast:=by
 induction l with
 | nil=>rfl
 | cons a r ih =>
  cases r with
  | nil=>rfl
  | cons b r =>
   have e:(a :: b :: r).length - 1=((b :: r).length - 1) + 1:=by
    have h1:(a :: b :: r).length=r.length + 2:=rfl
    have h2:(b :: r).length=r.length + 1:=rfl
    omega
   rw [e,VA,ih]
   all_goals rfl
section
variable {X:Cx} {pins:List (Addr × Obj)} {σ:St} {H:Hp} {s:Shared} {l b:Addr} {xs ys zs:List V}
theorem Inv.Ik {its its':List Value} {n:Nat} {f:Array Value→Array Value} {t':Nat} (I:Inv X pins σ H s) (hH:H l=some (.lst xs))
  (e:s.heap.get? l=some { cls:=.type "list",data:=.seq its.toArray n }) (hf:f its.toArray=its'.toArray) (hv:Vals ys its') (hz:ys.length≤sizeLine) :
  Inv X pins σ (upd H l (.lst ys)) { s with heap:=s.heap.update l (Obj.mapSeq f),toks:=t' }:=by
 have q:=PySem.IsL.update e f
 rw [hf] at q
 refine I.write (x:=l) (e:=l) (by rw [hH];exact trivial) (.inl rfl) (λb' u hb hu=>(Heap.get?_update_other s.heap (Obj.mapSeq f) (Ne.symm hb)).trans hu) ⟨_,q⟩ ?_
 exact ⟨hz,its',_,hv,q⟩
theorem Inv.fresh (I:Inv X pins σ H s):H s.heap.objs.size=none:=I.hok.fresh (TF _)
theorem Inv.Il (I:Inv X pins σ H s) (hH:H l=some (.lst xs)):xs.length≤sizeLine∧∃(its:List Value) (n:Nat),Vals xs its∧xs.length=its.length∧s.heap.get? l=some { cls:=.type "list",data:=.seq its.toArray n }:=by
 obtain ⟨z,its,n,r,e⟩:=I.hok l _ hH
 exact ⟨z,its,n,r,r.length,e⟩
end
section
variable {X:Cx}
def Cj:V→List V→Hp→VK→Prop:=λx vs H Q=>∃l xs y,x=.ref l∧vs=[y]∧H l=some (.lst xs)∧xs.length < sizeLine∧Q .non (upd H l (.lst (xs ++ [y])))
theorem iJ:Sy X "list.append" Cj:=by
 intro pins s σ H x vs v us Q I rx rv h
 obtain ⟨l,xs,y,rfl,rfl,hH,hz,q⟩:=h
 cases rx
 obtain ⟨u,rfl,ru⟩:=rv.one
 obtain ⟨z,its,n,r,hl,e⟩:=I.Il hH
 refine call_meets F.slot_list_append ⟨_,e,rfl⟩ F.entry_list_append (F.args_list_append_2 _ _) (PySem.list_append l its.toArray n u (by rw [TJ];omega)) ⟨e,?_⟩
 refine ⟨.non,_,I.Ik (its':=its ++ [u]) hH e (by simp) (r.append (.cons ru .nil)) ?_,rfl,q⟩
 rw [T7,List.length_singleton]
 omega
def RV:V→List V→Hp→VK→Prop:=λx vs H Q=>∃l xs y,x=.ref l∧vs=[]∧H l=some (.lst xs)∧xs[xs.length - 1]?=some y∧Q y (upd H l (.lst xs.dropLast))
theorem Mg:Sy X "list.pop" RV:=by
 intro pins s σ H x vs v us Q I rx rv h
 obtain ⟨l,xs,y,rfl,rfl,hH,hy,q⟩:=h
 cases rx
 have hus:=rv.zero
 subst hus
 obtain ⟨z,its,n,r,hl,e⟩:=I.Il hH
 obtain ⟨u,hu,ru⟩:=r.get hy
 have hy':its.toArray[its.toArray.size - 1]?=some u:=by
  show its.toArray[its.length - 1]?=some u
  rw [← Array.getElem?_toList,← hl]
  exact hu
 refine call_meets F.slot_list_pop ⟨_,e,rfl⟩ F.entry_list_pop (F.args_list_pop_1 _) (MeetsSeq.list_pop_last l its.toArray n u hy' (by rw [TJ];omega)) ⟨e,?_⟩
 refine ⟨y,_,I.Ik (its':=its.dropLast) hH e ?_ r.dropLast ?_,ru,q⟩
 ·show its.toArray.eraseIdxIfInBounds (its.toArray.size - 1)=its.dropLast.toArray
  rw [TJ,Vc,Ab]
 ·rw [VQ]
  omega
end
section
variable {prog:Program} {w:World} {A:Around} {E:Value→Shared→Prop} {s:Shared}
end
section
variable {X:Cx}
end
end L2
namespace Att
open PySem PySem.W PySem.Calls PyProof.Rows
theorem pN {P:Params} {h:Heap}:∀(ns:List Int) (vs:List Value),WellAll P h vs (ns.map WData.int)→IntsAre vs ns:=by
 intro ns
 induction ns with
 | nil =>
  intro vs w
  rw [Ux] at w
  cases w
  exact .nil
 | cons n ns ih =>
  intro vs w
  rw [TL] at w
  cases w with
  | cons a b =>
   cases a
   exact .cons _ _ (ih _ b)
theorem D3 {l:OpenLaw} {n:Nat} (hn:l.most=some n) {P:Params} {h:Heap} {args:List WData} {vals:List Value}
  (hpre:l.row.toRowW.claim.pre args=true) (hwl:WellAll P h vals args) :
  ∃a vs ns,vals=[Value.ref a]∧args=[WData.list (ns.map WData.int)]∧h.get? a=some { cls:=.type "list",data:=.seq vs.toArray }∧IntsAre vs ns∧ns.length≤n:=by
 have hsh:WShape.hasAll [] args [.list .int]=true:=(pre_splitW hpre).1
 have hc:l.pre.holds [] { args:=args }=true:=(pre_splitW hpre).2
 obtain ⟨d,r,rfl,h1,h2⟩:=hasAllW_cons hsh
 obtain rfl:=hasAllW_nil h2
 obtain ⟨xs,rfl,h3⟩:=hasW_list h1
 obtain ⟨ns,rfl⟩:=items_int h3
 have hlen:ns.length≤n:=by
  unfold OpenLaw.pre at hc
  have h4:(WTm.not (.lt (.lit (.int (n:Int))) (.len (.arg 0)))).holds [] { args:=[.list (ns.map .int)] }=true:=by
   have h4:=(holds_andW hc).1
   rw [hn] at h4
   exact h4
  have h5:=condW_of h4 (w_not (w_lt w_lit (w_len_list (w_arg rfl))))
  rw [Tx] at h5
  refine Nat.le_of_not_lt λq=>?_
  have q':(n:Int) < ((ns.length:Nat):Int):=by omega
  first
   | (rw [decide_eq_true q'] at h5;exact absurd h5 (by decide))
   | (simp at h5;omega)
 cases hwl with
 | cons w1 w2 =>
  cases w2
  cases w1 with
  | list ho hall=>exact ⟨_,_,ns,rfl,rfl,ho,pN ns _ hall,hlen⟩
theorem DW (l:OpenLaw) (args:List WData):l.row.toRowW.claim.post args (.bool true) args=true :=
 postW_of (r:=l.row.toRowW) (X:=(true == true))
  (show WShape.has [] (.bool true) .bool=true by first | rfl | decide | simp [WShape.has,WShape.arms,WShape.armsAll])
  (show (WTm.eq .res (.lit (.bool true))).value [] { args:=args,res:=some (.bool true),after:=args }=some (.bool (true == true)) from w_eq_bool (w_res rfl) w_lit) rfl
theorem xT {l:OpenLaw} {n:Nat} {q:Program} {loose:List Str} {XP:(Str→Option Value)→Heap→Prop} {YP:World→Heap→Prop} {d:DefRec}
  (hn:l.most=some n) (hdf:d.params.defaults=[])
  (call:∀(w:World) (s₀ s₁:Shared) (mg mb:Str→Option Value) (fa:Addr) (o:Obj) (pm cd doc:Value) (a:Addr) (vs:List Value) (ns:List Int),
   Ground q loose [] XP w s₀ mg mb s₁.heap→YP w s₁.heap →
   s₁.heap.get? fa=some o→o.data=.func (docDef d.name d.params d.body d.scope pm cd doc)→s₁.heap.CodeRec cd d.name→mg d.name=some (.ref fa) →
   s₁.heap.get? a=some { cls:=.type "list",data:=.seq vs.toArray }→IntsAre vs ns→ns.length≤n→s₁.gens=#[] →
   codeAny (model l.prog w) callerA (.call (.ref fa) ⟨[.ref a],[]⟩) (λr s'=>r=.ok (.ret (.bool true))∧OldK s₁.heap s'.heap∧s'.os=s₁.os∧AllBare s'.gens) s₁) :
  WalkO q loose XP YP l.row.toRowW d [] (λf vs=>PySem.call f vs):=by
 intro w s₀ s₁ mg mb G Y fa o pm cd doc dV kV ho hd hcd hD hmg hg args vals as hpre hlay hrd hwl hlo
 obtain rfl:dV=.none:=Dflts.none hD hdf
 obtain rfl:kV=.none:=Dflts.noKw hD
 obtain ⟨a,vs,ns,rfl,rfl,hobj,hints,hlen⟩:=D3 hn hpre hwl
 refine enter_call (codeAny_mono (call w s₀ s₁ mg mb fa o pm cd doc a vs ns G Y ho (fd_plain hd) hcd hmg hobj hints hlen hg) λr s' hq=>?_)
 obtain ⟨rfl,h2,h3,h4⟩:=hq
 exact ⟨.inl ⟨.bool true,.bool true,[],rfl,λ_=>rfl,.bool true,DW l _,λ_=>⟨List.Pairwise.nil,λ_ hm=>(nomatch hm)⟩⟩,h2,h3,h4⟩
section
variable {prog:Program} {w:World} {A:Around} {E:Value→Shared→Prop} {s:Shared} {K:Frag}
end
end Att
namespace L2
open PySem PySem.Spec PyProof.Rows
theorem vb:∀{vs:List Value} {ns:List Int},IntsAre vs ns→Vals (ns.map V.int) vs
 | _,_,.nil=>.nil
 | _,_,.cons n t h=>.cons ⟨t,rfl⟩ (vb h)
end L2
namespace L2
open PySem PySem.Spec PyProof.Rows
abbrev pH {K:PySem.W.Frag} {h:Heap} (_:K.In h):PySem.W.Frag:=K
end L2
namespace L2
open PySem PySem.Spec PyProof.Rows
def inClass (s:Stmt) (j:Nat):Stmt:=match s with
 | .ClassDef _ _ _ body _ _ _ _ _ _ _=>body.getD j (.Pass ⟨0,0,0,0⟩)
 | _=>.Pass ⟨0,0,0,0⟩
def c6 (s:Stmt):Arguments:=match s with
 | .FunctionDef _ a _ _ _ _ _ _ _ _=>a
 | _=>{ posonlyargs:=[],args:=[],vararg:=none,kwonlyargs:=[],kw_defaults:=[],kwarg:=none,defaults:=[] }
def bQ (s:Stmt):List Stmt:=match s with
 | .FunctionDef _ _ b _ _ _ _ _ _ _=>b
 | _=>[]
def aj (s:Stmt):Scope:=match s with
 | .FunctionDef _ _ _ _ _ _ sc _ _ _=>sc
 | _=>{ kind:=.function,names:=[],isGenerator:=false,isCoroutine:=false }
abbrev qw:sF:=λ_ _ _ _ _ _=>False
abbrev E0:XK:=λ_ _ _=>False
theorem OX {X:Cx}:Passes qw X E0:=λ_ _ _ _ _ _ _ h=>h.elim
structure bZ (K:PySem.W.Frag) (x qual:Str) (st:Stmt) (f:Addr) (fd:FuncData):Prop where
 ex:∃(oc:Value) (od:Option Addr) (kV doc pm:Value) (an:Option Addr) (cdv ct:Value) (osl:Array (Option Value)),
  fd=PySem.W.fnOf x qual (c6 st) (bQ st) (aj st) .none kV doc pm an cdv ct∧K.lookup f=some ⟨oc,od,.func fd,osl⟩∧PySem.W.codeIn K cdv qual=true
 kp:PySem.W.keepIn K (.ref f)=true
section
variable {P:Program} {w:World} {K:PySem.W.Frag} {mg:Str→Option Value} {base:Heap}
theorem bZ.ok {x qual:Str} {st:Stmt} {f:Addr} {fd:FuncData} {N ps:List Str} {k:Nat} {sp:Sp} (F:bZ K x qual st f fd) (S:aw N ps (aj st)) (len:∀vs H Q E,sp vs H Q E→vs.length=ps.length)
  (hbody:∀(cdv:Value) (A:Around) (outer:List Env) (s:Shared) (H:Hp) (vs:List V) (Q:VK) (E:XK),bK k (A.deeper (envOfC qual (aj st) s.heap.objs.size f cdv))→sp vs H Q E →
   ∃t,uu (vD qw P w K mg base N qual (aj st) f cdv A outer s H E).Mh (bQ st) t∧t { nx:=λ_ H'=>Q .non H',rt:=Q } (start N vs) H):aL P w K mg base qw (k + 1) f fd ps sp:=by
 obtain ⟨oc,od,kV,doc,pm,an,cdv,ct,osl,rfl,lk,hcd⟩:=F.ex
 refine E1 lk hcd S len λA outer s H vs Q E hr hsp=>?_
 obtain ⟨t,h,q⟩:=hbody cdv A outer s H vs Q E hr hsp
 exact ⟨t,h.Mh,q⟩
theorem bZ.binds {x qual:Str} {st:Stmt} {f:Addr} {fd:FuncData} {ps:List Str} (F:bZ K x qual st f fd)
  (h:∀(kV doc pm:Value) (an:Option Addr) (cdv ct:Value) (us:List Value),us.length=ps.length→bindArgs (PySem.W.fnOf x qual (c6 st) (bQ st) (aj st) .none kV doc pm an cdv ct) ⟨us,[]⟩=pure (ps.zip us)):Binds K fd ps []:=by
 obtain ⟨oc,od,kV,doc,pm,an,cdv,ct,osl,rfl,lk,hcd⟩:=F.ex
 exact .all (h kV doc pm an cdv ct)
theorem Ac {x qual:Str} {st:Stmt} {f:Addr} {oc:Value} {od an:Option Addr} {osl:Array (Option Value)} {kV doc pm cdv ct:Value} (l:K.lookup f=some ⟨oc,od,.func (PySem.W.fnOf x qual (c6 st) (bQ st) (aj st) .none kV doc pm an cdv ct),osl⟩)
  (c:PySem.W.codeIn K cdv qual=true) (k:PySem.W.keepIn K (.ref f)=true):bZ K x qual st f (PySem.W.fnOf x qual (c6 st) (bQ st) (aj st) .none kV doc pm an cdv ct):=⟨⟨oc,od,kV,doc,pm,an,cdv,ct,osl,rfl,l,c⟩,k⟩
end
theorem a_ {n:Nat} (h:n≤1000):n < sizeLine:=Uv h (by decide)
section
variable {X:Cx}
theorem pv (i:Nat) {x:Str} {pos:Pos} (hN:X.N[i]?=some x:=by rfl) (hv:xD X.env.scope x:=by first | exact Or.inl rfl | exact Or.inr (Or.inl rfl) | exact Or.inr (Or.inr rfl)) (hd:(x == ("__debug__":Str))=false:=by decide)
  (hcd:(x == ("__classdict__":Str))=false:=by decide):PE X (.Name x pos) (D8 i):=AF hN hv hd hcd
end
theorem Fn {c A B:Prop} [Decidable c] (h1:c→A) (h2:¬ c→B):if c then A else B:=by
 by_cases h:c
 ·rw [if_pos h]
  exact h1 h
 ·rw [if_neg h]
  exact h2 h
def bB (H H':Hp):Prop:=∀b o,H b=some o→H' b=some o
theorem bB.trans {H H1 H2:Hp} (a:bB H H1) (b:bB H1 H2):bB H H2:=λc o h=>b c o (a c o h)
theorem bB.free {H H':Hp} (e:bB H H') {l:Addr} (h:H' l=Option.none):H l=Option.none:=by
 cases q:H l with
 | none=>rfl
 | some o =>
  rw [e l o q] at h
  cases h
theorem bB.seq {K:PySem.W.Frag} {H H':Hp} {a:Addr} {xs:List V} (e:bB H H') (h:cW K H a xs):cW K H' a xs:=by
 rcases h with (h | ⟨o,h⟩) | h
 ·exact .inl (.inl (e _ _ h))
 ·exact .inl (.inr ⟨o,e _ _ h⟩)
 ·exact .inr h
end L2
namespace Ov
theorem x9 {a b:Int} (h:b≠0):Int.gcd b (a % b)=Int.gcd a b:=by
 have e:a=b * (a / b) + a % b:=(Int.mul_ediv_add_emod a b).symm
 have d1:((Int.gcd b (a % b):Nat):Int) ∣ a:=by
  rw [e]
  exact Int.dvd_add (Int.dvd_trans (Int.gcd_dvd_left ..) (Int.dvd_mul_right ..)) (by rw [← e];exact Int.gcd_dvd_right ..)
 have d2:((Int.gcd a b:Nat):Int) ∣ a % b:=by
  have e2:a % b=a - b * (a / b):=by omega
  rw [e2]
  exact Int.dvd_sub (Int.gcd_dvd_left ..) (Int.dvd_trans (Int.gcd_dvd_right ..) (Int.dvd_mul_right ..))
 exact Nat.dvd_antisymm (Int.dvd_gcd d1 (Int.gcd_dvd_left ..)) (Int.dvd_gcd (Int.gcd_dvd_right ..) d2)
theorem BM {a:Int} (h:0≤a):((Int.gcd a 0:Nat):Int)=a:=by
 rw [Int.gcd_zero_right];omega
theorem HY (a b:Int):Int.gcd (if a < 0 then -a else a) (if b < 0 then -b else b)=Int.gcd a b:=by
 split <;> split <;> simp [Int.gcd_neg,Int.neg_gcd]
theorem E6 (a b:Int):Int.gcd (if a < 0 then -a else a) b=Int.gcd a b:=by
 split <;> simp [Int.gcd_neg,Int.neg_gcd]
theorem BN {t b:Int} (h:b≠0):0 < ((Int.gcd t b:Nat):Int):=by
 have:0 < Int.gcd t b:=Int.gcd_pos_of_ne_zero_right t h
 omega
theorem LL {t b:Int} (h:b≠0):Int.gcd t b≤b.natAbs:=Nat.le_of_dvd (by omega) (Int.ofNat_dvd.mp (by rw [Int.dvd_natAbs];exact Int.gcd_dvd_right ..))
theorem vS {t b:Int} (h:0 < b):t.fdiv ((Int.gcd t b:Nat):Int)=(Rat.divInt t b).num:=by
 rw [Rat.num_divInt,Int.sign_eq_one_of_pos h,Int.one_mul,Int.gcd_comm b t,Int.fdiv_eq_ediv_of_nonneg _ (Int.natCast_nonneg _)]
theorem den_pos {t b:Int} (h:0 < b):b.fdiv ((Int.gcd t b:Nat):Int)=((Rat.divInt t b).den:Int):=by
 rw [Rat.den_divInt,if_neg (by omega),Int.gcd_comm b t,Int.fdiv_eq_ediv_of_nonneg _ (Int.natCast_nonneg _)]
 rw [Int.natCast_ediv]
 congr 1
 omega
theorem B1 {t b:Int} (h:b < 0):t.fdiv (-((Int.gcd t b:Nat):Int))=(Rat.divInt t b).num:=by
 have e:t.fdiv (-((Int.gcd t b:Nat):Int))=(-t).fdiv ((Int.gcd t b:Nat):Int):=by
  have:=Int.neg_fdiv_neg (a:=-t) (b:=((Int.gcd t b:Nat):Int))
  rw [← this];simp
 rw [e,Rat.num_divInt,Int.sign_eq_neg_one_of_neg h,Int.gcd_comm b t,Int.fdiv_eq_ediv_of_nonneg _ (Int.natCast_nonneg _)]
 congr 1
 omega
theorem HM {t b:Int} (h:b < 0):b.fdiv (-((Int.gcd t b:Nat):Int))=((Rat.divInt t b).den:Int):=by
 have e:b.fdiv (-((Int.gcd t b:Nat):Int))=(-b).fdiv ((Int.gcd t b:Nat):Int):=by
  have:=Int.neg_fdiv_neg (a:=-b) (b:=((Int.gcd t b:Nat):Int))
  rw [← this];simp
 rw [e,Rat.den_divInt,if_neg (by omega),Int.gcd_comm b t,Int.fdiv_eq_ediv_of_nonneg _ (Int.natCast_nonneg _)]
 rw [Int.natCast_ediv]
 congr 1
 omega
theorem B0 (t b:Int):(Rat.divInt t b).num.natAbs≤t.natAbs:=by
 rcases Int.lt_trichotomy b 0 with h | h | h
 ·rw [← B1 h]
  exact Int.natAbs_fdiv_le_natAbs ..
 ·subst h;simp
 ·rw [← vS h,Int.fdiv_eq_ediv_of_nonneg _ (Int.natCast_nonneg _)]
  exact Int.natAbs_ediv_le_natAbs ..
theorem vE {t b:Int} (h:b≠0):(((Rat.divInt t b).den:Int)).natAbs≤b.natAbs:=by
 rw [Rat.den_divInt,if_neg h]
 exact Nat.div_le_self ..
theorem lF (p:Rat):Rat.divInt p.num p.den=p:=Rat.num_divInt_den p
theorem eS (p:Rat):(p.den:Int)≠0:=by have:=p.den_pos;omega
theorem me (p:Rat):(0:Int) < p.den:=by have:=p.den_pos;omega
theorem add_eq (p q:Rat):Rat.divInt (p.num * q.den + q.num * p.den) (p.den * q.den)=p + q:=by
 rw [← Rat.divInt_add_divInt _ _ (eS p) (eS q),lF,lF]
theorem sub_eq (p q:Rat):Rat.divInt (p.num * q.den - q.num * p.den) (p.den * q.den)=p - q:=by
 rw [← Rat.divInt_sub_divInt _ _ (eS p) (eS q),lF,lF]
theorem mul_eq (p:Rat) (m:Int):Rat.divInt (p.num * m) p.den=p * m:=by
 have:=Rat.divInt_mul_divInt p.num m (d₁:=p.den) (d₂:=1)
 rw [lF,Int.mul_one] at this
 rw [← this,Rat.divInt_eq_div]
 congr 1
 grind
theorem cast_eq (p:Rat):(p.num:Rat)=p * (p.den:Int):=by
 have h:((p.den:Int):Rat)≠0:=by
  intro e
  exact eS p (by exact_mod_cast e)
 have e:=lF p
 rw [Rat.divInt_eq_div] at e
 grind
theorem gf (p:Rat):((p.den:Int):Rat)≠0:=λe=>eS p (by exact_mod_cast e)
theorem NZ (b p m:Rat) (v:Int):Rat.divInt (p.num * (m.den * b.den) + v * (m.num * b.den - b.num * m.den) * p.den) (p.den * (m.den * b.den))=p + (m - b) * v:=by
 have h:=gf p
 have g:=gf b
 have k:=gf m
 simp only [Rat.divInt_eq_div,Rat.intCast_add,Rat.intCast_sub,Rat.intCast_mul,cast_eq p,cast_eq b,cast_eq m]
 generalize ((p.den:Int):Rat)=d at h ⊢
 generalize ((b.den:Int):Rat)=e at g ⊢
 generalize ((m.den:Int):Rat)=f at k ⊢
 generalize (v:Rat)=v
 grind
theorem yd {n:Int} (h:n≠0):(n:Rat)≠0:=λe=>h (by exact_mod_cast e)
theorem MR (g:Rat) (n:Int) (h:n≠0):Rat.divInt g.num (g.den * n)=g / n:=by
 have k:=gf g
 have l:=yd h
 simp only [Rat.divInt_eq_div,Rat.intCast_mul,cast_eq g]
 generalize ((g.den:Int):Rat)=d at k ⊢
 generalize (n:Rat)=n at l ⊢
 grind
end Ov
namespace Ov
open PySem PySem.Spec PyProof.Rows L2
structure Bd (n:Nat) (x:Int):Prop where
 lt:x.natAbs < 2 ^ n
theorem Bd.bits {n:Nat} {x:Int} (h:Bd n x):Builtin.Int.intBits x≤n:=intBits_le_iff.mpr h.lt
theorem Bd.of {n:Nat} {x:Int} (h:Builtin.Int.intBits x≤n):Bd n x:=⟨intBits_le_iff.mp h⟩
theorem Bd.mono {m n:Nat} {x:Int} (h:Bd m x) (hmn:m≤n):Bd n x:=.of (T4 h.bits hmn)
theorem Bd.neg {n:Nat} {x:Int} (h:Bd n x):Bd n (-x):=.of (intBits_neg_le h.bits)
theorem Bd.add {m n k:Nat} {x y:Int} (h:Bd m x) (g:Bd n y) (hk:max m n + 1≤k:=by decide):Bd k (x + y):=(Bd.of (intBits_add_le h.bits g.bits)).mono hk
theorem Bd.sub {m n k:Nat} {x y:Int} (h:Bd m x) (g:Bd n y) (hk:max m n + 1≤k:=by decide):Bd k (x - y):=(Bd.of (intBits_sub_le h.bits g.bits)).mono hk
theorem Bd.mul {m n k:Nat} {x y:Int} (h:Bd m x) (g:Bd n y) (hk:m + n≤k:=by decide):Bd k (x * y):=(Bd.of (intBits_mul_le h.bits g.bits)).mono hk
theorem Bd.le {n:Nat} {x y:Int} (g:Bd n y) (h:x.natAbs≤y.natAbs):Bd n x:=⟨Uv h g.lt⟩
theorem Bd.small {x:Int} (h1:-(2 ^ 64) < x) (h2:x < 2 ^ 64):Bd 64 x:=.of (intBits_le_64 h1 h2)
theorem Bd.log {n:Nat} {x:Int} (h:Bd n x) (hn:n≤9000) (h0:x≠0):x.natAbs.log2 < 9000 :=
 T3 ((Nat.log2_lt (by omega)).mpr h.lt) hn
section
variable {X:Cx}
def CM (i j:Int):Prop:=∃m n,Bd m i∧Bd n j∧m + n≤134217728
theorem CM.of {m n:Nat} {i j:Int} (h:Bd m i) (g:Bd n j) (hk:m + n≤134217728:=by decide):CM i j:=⟨m,n,h,g,hk⟩
theorem cM:fm X (binaryOp .Mult) (rI CM λi j=>.int (i * j)):=Qm λ_ _ _ _ _ _ _ hc q=>by
 obtain ⟨m,n,h,g,hk⟩:=hc
 exact mul_int q (IntMulOk.of_le h.bits g.bits hk)
def CQ (_ j:Int):Prop:=j≠0∧Bd 9000 j
theorem gq:fm X (binaryOp .FloorDiv) (rI CQ λi j=>.int (i.fdiv j)):=Qm λ_ _ _ _ _ _ _ hc q =>
 floordiv_int hc.1 q (.inl (PyProof.noPylong_of_log2 (hc.2.log (TF _) hc.1)))
def Tt (f:Bool→Bool):R2:=λx y H Q=>∃(p q:Addr) (a b c d:Int),x=.ref p∧y=.ref q∧H p=some (.tup [.int a,.int b])∧H q=some (.tup [.int c,.int d])∧Q (.bl (f (decide (a=c∧b=d)))) H
def PN (t u:TS):TS:=λD σ H=>∃M:L2.St→Hp→Prop,t { D with nx:=M } σ H∧∀σ' H',M σ' H'→u D σ' H'
theorem Jb {st:Stmt} {rest:List Stmt} {t u:TS} (h1:PS X st t) (h2:uu X rest u):uu X (st :: rest) (PN t u):=by
 intro pins s σ H D I h
 obtain ⟨M,h,k⟩:=h
 refine wpAny_execs_cons (cq (h1 pins s σ H { D with nx:=M } I h) λf s1 q=>?_)
 cases f with
 | next =>
  obtain ⟨σ',H',I',q⟩:=q
  exact h2 pins s1 σ' H' D I' (k _ _ q)
 | ret v=>exact q
 | brk=>exact q
 | cont=>exact q
end
section
variable {X:Cx}
def KL:R2:=λx y H Q=>∃p xs i v,x=.ref p∧y=.int i∧H p=some (.lst xs)∧de xs i=some v∧Q v H
def Pl:R2:=λx y H Q=>∃p xs i v,x=.ref p∧y=.int i∧H p=some (.tup xs)∧de xs i=some v∧Q v H
theorem gh:pW X KL:=λvalue slice pins s σ H x y v u Q I rx ry ⟨p,xs,i,z,e1,e2,h,e3,q⟩ hs =>
 vI value slice pins s σ H x y v u Q I rx ry ⟨p,xs,i,z,e1,e2,cW.of h,e3,q⟩ hs
end
theorem dC {α:Type} (x:α) (xs:List α):de (x :: xs) 0=some x:=bq (j:=0) rfl
theorem fM {α:Type} (x y:α) (xs:List α):de (x :: y :: xs) 1=some y:=bq (j:=1) rfl
theorem jY {α:Type} (x y z:α) (xs:List α):de (x :: y :: z :: xs) 2=some z:=bq (j:=2) rfl
theorem EJ {α:Type} (x y z u:α) (xs:List α):de (x :: y :: z :: u :: xs) 3=some u:=bq (j:=3) rfl
theorem Jx (i j:Int):GJ (.int i) (.int j)=true:=rfl
theorem Jw (i j:Bool):GJ (.bl i) (.bl j)=true:=rfl
theorem Jy (i j:Str):GJ (.str i) (.str j)=true:=rfl
def sG (P:Program) (w:World) (K:PySem.W.Frag) (mg:Str→Option Value) (base:Heap) (k:Nat) (x:Str) (ps:List Str) (sp:Sp):Prop :=
 ∃f fd,aL P w K mg base qw k f fd ps sp∧Binds K fd ps []∧PySem.W.keepIn K (.ref f)=true∧mg x=some (.ref f)
theorem MD {X:Cx} {k k':Nat} {x:Str} {ps:List Str} {sp:Sp} {p pos:Pos} {e:Expr} {es:List Expr} {t:TA} (C:sG X.prog X.w X.K X.mg X.base k x ps sp) (hr:bK k' X.A) (hk:k≤k') (hg:Gl X x) (ha:PA X (e :: es) t)
  (hdb:(x == ("__debug__":Str))=false:=by decide) (he:starEach (e :: es) X.env=(false,eval e X.env) :: starEach es X.env:=by rfl) (hpl:(backTo pos (starEach es X.env)).any (·.1)=false:=by rfl) :
  PE X (.Call (.Name x p) (e :: es) [] pos) (sy sp [] E0 t):=by
 obtain ⟨f,fd,F,b,kp,m⟩:=C
 exact B6 F (hr.mono hk) hg m kp b .nil OX ha hdb he hpl
theorem dN {N P:List Str} {sc:Scope} (a:sc.kind=.function:=by rfl) (b:sc.isCoroutine=false:=by rfl) (c:sc.isGenerator=false:=by rfl) (d:N.Nodup:=by decide +kernel) (e:N.take P.length=P:=by rfl) (f:∀x∈P,sc.names.lookup x=some .local∨sc.names.lookup x=some .cell:=by decide +kernel) (g:∀y∈sc.names,y.2≠.free:=by decide +kernel):aw N P sc:=⟨a,b,c,d,e,f,g⟩
def Def (K:PySem.W.Frag) (mg:Str→Option Value) (x:Str) (st:Stmt):Prop:=∃f fd,bZ K x x st f fd∧mg x=some (.ref f)
theorem LB {K:PySem.W.Frag} {h:Heap} {mg:Str→Option Value} {x:Str} {st:Stmt} (X:K.In h) (G:h.Ns mainGlobals mg) {f:Addr} {od an:Option Addr} {sl:Array (Option Value)} {oc kV dc pm cd ct:Value}
  (a:PySem.W.nsIn K mainGlobals x=some (some (.ref f))) (l:K.lookup f=some ⟨oc,od,.func (PySem.W.fnOf x x (c6 st) (bQ st) (aj st) .none kV dc pm an cd ct),sl⟩) (c:PySem.W.codeIn K cd x=true) (k:PySem.W.keepIn K (.ref f)=true) :
  Def K mg x st:=⟨f,_,Ac l c k,PySem.W.mg_of X G a⟩
theorem Def.EL {P:Program} {w:World} {K:PySem.W.Frag} {mg:Str→Option Value} {base:Heap} {x:Str} {st:Stmt} {k:Nat} {ps:List Str} {sp:Sp} (D:Def K mg x st)
  (h:∀f fd,bZ K x x st f fd→aL P w K mg base qw k f fd ps sp)
  (hb:∀(kV doc pm:Value) (an:Option Addr) (cdv ct:Value) (us:List Value),us.length=ps.length→bindArgs (PySem.W.fnOf x x (c6 st) (bQ st) (aj st) .none kV doc pm an cdv ct) ⟨us,[]⟩=pure (ps.zip us)) :
  sG P w K mg base k x ps sp:=by
 obtain ⟨f,fd,F,m⟩:=D
 exact ⟨f,fd,h f fd F,F.binds hb,F.kp,m⟩
theorem LY {K:PySem.W.Frag} {mg:Str→Option Value} {st:Stmt} {fa:Addr} {p:Str} (D:Def K mg "law" st) (hfa:mg "law"=some (.ref fa))
  (hb:∀(kV doc pm:Value) (an:Option Addr) (cdv ct:Value) (u:Value),bindArgs (PySem.W.fnOf "law" "law" (c6 st) (bQ st) (aj st) .none kV doc pm an cdv ct) ⟨[u],[]⟩=pure [(p,u)]) :
  ∃fd,bZ K "law" "law" st fa fd∧∀(s:Shared) (u:Value),BindsTo s fd ⟨[u],[]⟩ [(p,u)]:=by
 obtain ⟨f,fd,F,m⟩:=D
 have e:=m.symm.trans hfa
 cases e
 obtain ⟨oc,od,kV,doc,pm,an,cdv,ct,osl,rfl,lk,hcd⟩:=F.ex
 exact ⟨_,F,λs u=>.of_eq (hb kV doc pm an cdv ct u)⟩
structure Ed (mg:Str→Option Value):Prop where
 abs:mg "abs"=none
 len:mg "len"=none
 isinstance:mg "isinstance"=none
 range:mg "range"=none
 int:mg "int"=none
 bool:mg "bool"=none
 tuple:mg "tuple"=none
 list:mg "list"=none
 sorted:mg "sorted"=none
 all:mg "all"=none
theorem _root_.L2.bB.tup {K:PySem.W.Frag} {H H':Hp} {a:Addr} {xs:List V} (e:bB H H') (h:gK K H a xs):gK K H' a xs:=by
 rcases h with (h | ⟨o,h⟩) | h
 ·exact .inl (.inl (e _ _ h))
 ·exact .inl (.inr ⟨o,e _ _ h⟩)
 ·exact .inr h
theorem _root_.L2.bB.new {H:Hp} {p:Addr} (h:H p=none) (o:HO):bB H (upd H p o):=λb u q=>by rw [aO (cb q h)];exact q
theorem _root_.L2.bB.NH {H H':Hp} {p:Addr} (h:H p=none) (e:bB H H') (o:HO):bB H (upd H' p o):=λb u q=>by rw [aO (cb q h)];exact e b u q
def Nw (K:PySem.W.Frag) (H:Hp) (a:Addr) (q:Rat):Prop:=gK K H a [.int q.num,.int q.den]
structure Sz (n:Nat) (q:Rat):Prop where
 num:Bd n q.num
 den:Bd n q.den
theorem Sz.mono {m n:Nat} {q:Rat} (h:Sz m q) (k:m≤n):Sz n q:=⟨h.num.mono k,h.den.mono k⟩
theorem Jl (x y:Rat):(x.num=y.num∧(x.den:Int)=(y.den:Int))=(x=y):=propext
 ⟨λh=>Rat.ext h.1 (by have:=h.2;omega),λh=>by subst h;exact ⟨rfl,rfl⟩⟩
theorem j9 (c:Str→NameKind→Bool):∀(names:List (Str × NameKind)) (y:Str),
  (names.map λ(x:Str × NameKind)=>if c x.1 x.2 then (x.1,NameKind.cell) else (x.1,x.2)).lookup y=(names.lookup y).map λk=>if c y k then NameKind.cell else k
 | [],_=>rfl
 | (n,k) :: r,y=>by
  have ih:=j9 c r y
  cases hy:y == n with
  | true =>
   have e:y=n:=by simpa using hy
   subst e
   by_cases h:c y k=true <;> simp [Ug,h]
  | false =>
   by_cases h:c n k=true <;> simp [Ug,h,hy,ih]
theorem kM (sc:Scope) (env:Env) (y:Str):(relabel sc env).names.lookup y=(sc.names.lookup y).map λk=>if (k == .free && env.scope.kind == .function && env.kindOf y == some .cell) then NameKind.cell else k:=by
 have h:=j9 (λn k=>k == .free && env.scope.kind == .function && env.kindOf n == some .cell) sc.names y
 exact h
theorem ma {env:Env}:∀(names:List (Str × NameKind)) (acc:List (Str × Addr)),(∀y∈names,y.2=.free→∃c,env.cells.lookup y.1=some c)→(∀y c,acc.lookup y=some c→env.cells.lookup y=some c) →
  ∃cl,(forIn names acc λ(x:Str × NameKind) (r:List (Str × Addr))=>match x with
   | (name,kind)=>if (kind == NameKind.free)=true then (do let c ← cellOf env name;pure (ForInStep.yield ((name,c) :: r))) else (pure (ForInStep.yield r):Sem (ForInStep (List (Str × Addr)))))=(pure cl:Sem (List (Str × Addr))) ∧
   (∀y c,cl.lookup y=some c→env.cells.lookup y=some c)∧(∀y c,acc.lookup y=some c→∃c,cl.lookup y=some c)∧∀y∈names,y.2=.free→∃c,cl.lookup y.1=some c
 | [],acc,_,ha=>⟨acc,rfl,ha,λy c e=>⟨c,e⟩,λy hy=>by cases hy⟩
 | (n,k) :: r,acc,hn,ha=>by
  by_cases hk:k=.free
  ·subst hk
   obtain ⟨c,hc⟩:=hn (n,.free) Ui rfl
   obtain ⟨cl,e,h1,h2,h3⟩:=ma r ((n,c) :: acc) (λy hy=>hn y (T9 _ hy)) (λy d e=>by
    rw [Ug] at e
    cases hy:y == n with
    | true =>
     rw [hy] at e
     have e1:y=n:=by simpa using hy
     subst e1
     rw [hc]
     exact e
    | false=>rw [hy] at e;exact ha y d e)
   have self:∃d,cl.lookup n=some d:=h2 n c (by simp [Ug])
   refine ⟨cl,?_,h1,λy d q=>?_,λy hy hf=>?_⟩
   ·rw [V9]
    have ec:cellOf env n=pure c:=by unfold cellOf;rw [hc]
    simp only [beq_self_eq_true,if_true,ec,pure_bind]
    exact e
   ·by_cases hy:y=n
    ·subst hy;exact self
    ·exact h2 y d (by rw [List.lookup_cons];have:(y == n)=false:=by simpa using hy
                      rw [this];exact q)
   ·rcases TX.mp hy with rfl | hy
    ·exact self
    ·exact h3 y hy hf
  ·obtain ⟨cl,e,h1,h2,h3⟩:=ma r acc (λy hy=>hn y (T9 _ hy)) ha
   refine ⟨cl,?_,h1,h2,λy hy hf=>?_⟩
   ·rw [V9]
    have hb:(k == NameKind.free)=false:=by simpa using hk
    simp only [hb,T2,if_false,pure_bind]
    exact e
   ·rcases TX.mp hy with rfl | hy
    ·exact absurd hf hk
    ·exact h3 y hy hf
theorem l_ {sc:Scope} {env:Env} (h:∀y∈sc.names,y.2=.free→∃c,env.cells.lookup y.1=some c) :
  ∃cl,closureFor sc env=pure cl∧(∀y c,cl.lookup y=some c→env.cells.lookup y=some c)∧∀y∈sc.names,y.2=.free→∃c,cl.lookup y.1=some c:=by
 obtain ⟨cl,e,h1,_,h3⟩:=ma sc.names [] h (λy c z=>by cases z)
 refine ⟨cl,?_,h1,h3⟩
 unfold closureFor
 have e':=congrArg (λm=>m >>= λr=>(pure r:Sem (List (Str × Addr)))) e
 simp only [pure_bind] at e'
 exact e'
abbrev cR (sc osc:Scope) (N:List Str) (x:Str) (ks:List (Str × Nat)):Prop :=
 sc.kind=.function∧(∀y∈sc.names,y.2≠.cell)∧sc.names.lookup x=some .local∧(∀y∈sc.names,y.2=.local→sc.names.lookup y.1=some .local) ∧
 (∀y∈sc.names,y.2=.free→osc.names.lookup y.1=some .cell)∧(∀p∈ks,N[p.2]?=some p.1∧sc.names.lookup p.1=some .free)∧(x :: ks.map (·.1)).Nodup
def gd (X:Cx) (sc:Scope) (cl:List (Str × Addr)) (C:Addr) (x:Str) (ks:List (Str × Nat)) (s₀:Shared) (H₀:Hp) (fp:List Addr) (pins:List (Addr × Obj)):Cx :=
 { X with N:=x :: ks.map (·.1),s₀:=s₀,H₀:=H₀,env:=compEnvC sc cl C X.env,outer:=X.stack,ex:=fp,fn:=λ_=>false,pn:=X.pn ++ pins,xe:=λ_ _=>False }
def dT (ks:List (Str × Nat)) (σ:L2.St):L2.St:=ks.map λp=>(σ[p.2]?).getD none
section
variable {X:Cx} {pins:List (Addr × Obj)} {σ:L2.St} {H:Hp} {s:Shared} {sc:Scope} {cl:List (Str × Addr)} {x:Str} {ks:List (Str × Nat)} {fp:List Addr}
theorem get_map {α β:Type} (f:α→β) (l:List α) (i:Nat):(l.map f)[i]?=(l[i]?).map f:=TN
theorem ye (I:Inv X pins σ H s) (ok:cR sc X.env.scope X.N x ks) (h1:∀y c,cl.lookup y=some c→X.env.cells.lookup y=some c) (h2:∀y∈sc.names,y.2=.free→∃c,cl.lookup y.1=some c)
  (hfp:∀b∈fp,lI X pins H b∧∃o,s.heap.get? b=some o) {h4:Heap} {m:Str→Option Value} {t':Nat} (hn:h4.Ns s.heap.objs.size m) (kp:∀b o,s.heap.get? b=some o→h4.get? b=some o) :
  Inv (gd X sc cl s.heap.objs.size x ks s H fp pins) [] (none :: dT ks σ) H { s with heap:=h4,toks:=t' }:=by
 obtain ⟨kd,nc,lx,ll,fr,kk,nd⟩:=ok
 have fresh:H s.heap.objs.size=none:=I.hok.fresh (TF _)
 have lt:∀b o,s.heap.get? b=some o→b≠s.heap.objs.size:=λb o e=>T6 (Heap.lt_size e)
 have cellLt:∀y c,X.env.cells.lookup y=some c→c≠s.heap.objs.size:=λy c e=>by
  obtain ⟨v,o,ho,_⟩:=I.cell y c e
  exact lt c o ho
 have sub:∀b∈jQ X.stack,b=X.env.locals∨b∈X.fs:=λb hb=>TX.mp (I.o7 b hb)
 have kof:∀y,(compEnvC sc cl s.heap.objs.size X.env).kindOf y=(relabel sc X.env).names.lookup y:=λy=>rfl
 have ok':(gd X sc cl s.heap.objs.size x ks s H fp pins).Ok:={
  mod:=I.ok.mod
  kind:=kd
  glob:=I.ok.glob
  blt:=I.ok.blt
  above:=TF _
  inj:=λy z c e1 e2=>I.ok.inj y z c (h1 y c e1) (h1 z c e2)
  has:=λy hy=>by
   rw [show (gd X sc cl s.heap.objs.size x ks s H fp pins).env.kindOf y=_ from kof y,kM] at hy
   cases e:sc.names.lookup y with
   | none=>rw [e] at hy;rcases hy with z | z <;> cases z
   | some k =>
    have hm:(y,k)∈sc.names:=by
     have:=VB.mp e
     obtain ⟨l1,l2,q,_⟩:=this
     rw [q]
     simp
    by_cases hk:k=.free
    ·subst hk;exact h2 _ hm rfl
    ·have hb:(k == NameKind.free)=false:=by simpa using hk
     rw [e] at hy
     simp only [VL,hb,Bool.false_and,T2,if_false] at hy
     rcases hy with z | z
     ·exact absurd (Option.some.inj z) (nc _ hm)
     ·exact absurd (Option.some.inj z) hk
  cab:=λ_ _ z=>by cases z
  hd:=λz=>I.ok.hd z
  frames:=I.ok.frames
  stk:=.inl rfl
  exf:=λb hb=>⟨lt b _ (hfp b hb).2.choose_spec,λy c e=>(hfp b hb).1.2.2.2.2.1 y c (h1 y c e)⟩
  bs:=λb o e=>I.bs b o e
  bsz:=T4 I.ok.bsz I.sz
  noex:=λb o e hb=>by
   rcases (hfp b hb).1.2.2.2.1 with z | z
   ·exact I.ok.noex b o e z
   ·exact absurd (T3 (Heap.lt_size e) (T4 I.ok.bsz z)) (UD _)
  exfs:=λb hb z=>by
   rcases sub b z with e | e
   ·exact (hfp b hb).1.2.1 e
   ·exact (hfp b hb).1.2.2.1 e
  ou:=I.stack
  frf:=I.xq }
 obtain ⟨mX,hnX,hlX⟩:=I.loc
 refine ⟨ok',rfl,I.bare,Un.kept kp,⟨m,hn,λi y v e1 e2 e3=>?_⟩,λy c e=>?_,fresh,λy c e=>I.freeC y c (h1 y c e),λp hp=>?_,I.hok.kept kp,by simp [gd,dT]⟩
 ·cases i with
  | zero =>
   rw [U4] at e2
   cases e2
  | succ i =>
   have e1':(ks.map (·.1))[i]?=some y:=by simpa [gd] using e1
   rw [Ul] at e2
   unfold dT at e2
   rw [TN] at e1' e2
   cases ep:ks[i]? with
   | none=>rw [ep] at e1';cases e1'
   | some p =>
    rw [ep] at e1' e2
    have ey:p.1=y:=Option.some.inj e1'
    have ev:(σ[p.2]?).getD none=some v:=Option.some.inj e2
    obtain ⟨kN,kf⟩:=kk p (TH ep)
    have es:σ[p.2]?=some (some v):=by
     cases q:σ[p.2]? with
     | none=>rw [q] at ev;cases ev
     | some w=>rw [q] at ev;exact congrArg some ev
    have hm:(p.1,NameKind.free)∈sc.names:=by
     obtain ⟨l1,l2,q,_⟩:=VB.mp kf
     rw [q]
     simp
    have oc:X.env.scope.names.lookup p.1=some .cell:=fr _ hm rfl
    obtain ⟨u,ru,lu⟩:=hlX p.2 p.1 v kN es (.inr (.inl oc))
    refine ⟨u,ru,.inr ⟨.inl ?_,?_⟩⟩
    ·rw [show (gd X sc cl s.heap.objs.size x ks s H fp pins).env.kindOf y=_ from kof y,kM,← ey,kf]
     have k1:X.env.kindOf p.1=some .cell:=oc
     simp [I.ok.kind,k1]
    ·obtain ⟨c,hc⟩:=h2 _ hm rfl
     have hc:cl.lookup p.1=some c:=hc
     rcases lu with ⟨z,_⟩ | ⟨_,c',hc',z⟩
     ·have z':X.env.scope.names.lookup p.1=some .local:=z
      rw [oc] at z';cases z'
     ·have:=h1 _ _ hc
      rw [hc'] at this
      cases this
      obtain ⟨o,ho,hd⟩:=z
      exact ⟨_,by rw [← ey];exact hc,o,kp _ _ ho,hd⟩
 ·obtain ⟨v,o,ho,hd⟩:=I.cell y c (h1 y c e)
  exact ⟨v,o,kp _ _ ho,hd⟩
 ·rw [Uq] at hp
  obtain ⟨a1,a2,a3,a4,a5⟩:=I.pin p hp
  refine ⟨kp _ _ a1,a2,lt _ _ a1,λz=>?_,a5⟩
  rcases sub p.1 z with e | e
  ·exact a3 e
  ·exact a4 e
end
def HF (X:Cx) (ifs:List Expr) (t:TT):Prop :=
 ∀(pins:List (Addr × Obj)) (s:Shared) (σ:L2.St) (H:Hp) (Q:Bool→Hp→Prop),Inv X pins σ H s→t σ H Q →
  wpAny (model X.prog X.w) X.A (forIn ifs true λc r=>if r=true then do let ok ← isTrue c X.env (eval c X.env);pure (ForInStep.yield ok) else pure (ForInStep.yield r)) (TP X pins σ Q) X.xe s
theorem wu {X:Cx}:HF X [] (λ_ H Q=>Q true H):=λpins s σ H Q I h=>by rw [List.forIn_nil];exact wpAny_pure ⟨H,I,h⟩
theorem B' {X:Cx} {c:Expr} {t:TT} (h:PT X c t):HF X [c] t:=λpins s σ H Q I q=>wpAny_tests_one (h pins s σ H Q I q)
section
variable {prog:Program} {w:World} {A:Around} {R:Result→Shared→Prop} {s:Shared}
theorem DA {elt iter:Expr} {ifs:List Expr} {x:Str} {px:Pos} {sc:Scope} {pos:Pos} {it acc:Value} {env:Env} (I:Nat→Shared→Prop)
  (turn:∀n s,I n s→wpAny (model prog w) A (pyNext it) (λr s₁=>match r with
   | none=>R (.ok .next) s₁
   | some v=>wpAny (model prog w) A (letOwnedTupleGo (.Name x px) it v) (λ_ s₂=>wpAny (model prog w) A (assign (.Name x px) env v) (λ_ s₃=>wpAny (model prog w) A (forIn ifs true λc r=>if r=true then do let ok ← isTrue c env (eval c env);pure (ForInStep.yield ok) else pure (ForInStep.yield r)) (λok s₃=>if ok=true then wpAny (model prog w) A (eval elt env) (λy s₄ =>
     wpAny (model prog w) A (call (.builtin "list.append") [acc,y]) (λ_ s₅=>∃m,m < n∧I m s₅) (λ_ _=>False) s₄) (λ_ _=>False) s₃ else ∃m,m < n∧I m s₃) (λ_ _=>False) s₃) (λ_ _=>False) s₂) (λ_ _=>False) s₁) (λ_ _=>False) s)
  (n:Nat) (h:I n s):codeAny (model prog w) A (.compLoop (.ListComp elt [⟨.Name x px,iter,ifs,0⟩] sc pos) 0 it acc env) R s:=by
 refine codeAny_loop rfl I (λn s hI=>?_) n h
 show wpAny _ _ ((compTurn (.ListComp elt [⟨.Name x px,iter,ifs,0⟩] sc pos) 0 it acc env).onRaise (λx=>do noteFrame x env;theTreesLotGoes x)) _ _ s
 refine wpAny_noted ?_
 rw [compTurn_list]
 have no:∀(e:Value) (s':Shared),False→notedBy (model prog w) A env (λe s'=>R (.error e) s') e s':=λ_ _ z=>z.elim
 refine wpAny_bind (wpAny_standAt (wpAny_bind (wpAny_mono (turn n s hI) (λr s₁ h₁=>?_) no)))
 cases r with
 | none=>exact wpAny_pure h₁
 | some v =>
  refine wpAny_bind (wpAny_mono h₁ (λ_ s₂ h₂=>?_) no)
  refine wpAny_bind (wpAny_mono h₂ (λ_ s₃ h₃=>wpAny_bind (wpAny_mono h₃ (λok s₃' h₃'=>?_) no)) no)
  cases ok with
  | false=>exact wpAny_pure ⟨rfl,h₃'⟩
  | true =>
   exact wpAny_bind (wpAny_bind (wpAny_mono h₃' (λy s₄ h₄=>wpAny_bind (wpAny_mono h₄ (λ_ s₅ h₅=>wpAny_pure (wpAny_pure ⟨rfl,h₅⟩)) no)) no))
end
def JD (wi:TI) (ks:List (Str × Nat)) (tc:TT) (te:TE):TE:=λσ H Q=>wi σ H λJ H1=>∀D,H1 D=none→∃W:Nat→Nat→Hp→Prop,(∃m,W 0 m (upd H1 D (.lst []))) ∧
 ∀i m H2,W i m H2→(J.stop i H2∧Q (.ref D) H2)∨(J.go i H2∧∀v H3,J.yld i H2 v H3→tc (some v :: dT ks σ) H3 λb H4=>if b=true then te (some v :: dT ks σ) H4 λy H5=>∃ys,H5 D=some (.lst ys)∧ys.length < sizeLine∧∃m',m' < m∧W (i + 1) m' (upd H5 D (.lst (ys ++ [y]))) else ∃m',m' < m∧W (i + 1) m' H4)
section
variable {X:Cx}
theorem yU {elt iter:Expr} {ifs:List Expr} {x:Str} {px:Pos} {sc:Scope} {pos:Pos} {te:TE} {tc:TT} {ks:List (Str × Nat)} {cl:List (Str × Addr)} {pins:List (Addr × Obj)} {σ:L2.St} {H:Hp} {s:Shared} {it:Addr} {fp:List Addr} {tn:Nat→Heap→Prop} {J:It} {Q:VK}
  {RR:Value→Addr→Result→Shared→Prop} {E:Value→Shared→Prop}
  (hc:X.calm=true) (ok:cR sc X.env.scope X.N x ks) (h1:∀y c,cl.lookup y=some c→X.env.cells.lookup y=some c) (h2:∀y∈sc.names,y.2=.free→∃c,cl.lookup y.1=some c)
  (he:∀cl C s₀ H₀ fp pins,PE (gd X sc cl C x ks s₀ H₀ fp pins) elt te) (hcn:∀cl C s₀ H₀ fp pins,HF (gd X sc cl C x ks s₀ H₀ fp pins) ifs tc)
  (I:Inv X pins σ H s) (T:Turn X.prog X.w X.K (.Name x px) J fp it tn) (st:tn 0 s.heap) (f:∀b∈fp,lI X pins H b)
  (hw:∀D,H D=none→∃W:Nat→Nat→Hp→Prop,(∃m,W 0 m (upd H D (.lst [])))∧∀i m H2,W i m H2→(J.stop i H2∧Q (.ref D) H2) ∨
   (J.go i H2∧∀v H3,J.yld i H2 v H3→tc (some v :: dT ks σ) H3 λb H4=>if b=true then te (some v :: dT ks σ) H4 λy H5=>∃ys,H5 D=some (.lst ys)∧ys.length < sizeLine∧∃m',m' < m∧W (i + 1) m' (upd H5 D (.lst (ys ++ [y]))) else ∃m',m' < m∧W (i + 1) m' H4))
  (hR:∀(D C:Addr) (s':Shared) (H':Hp) (m:Str→Option Value),Inv X pins σ H' s'→Q (.ref D) H'→s'.heap.Ns C m→H' C=none→C≠X.env.locals→X.s₀.heap.objs.size≤C→(∀y c,X.env.cells.lookup y=some c→c≠C)→(∀p∈X.pn ++ pins,p.1≠C)→RR (.ref D) C (.ok .next) s') :
  wpAny (model X.prog X.w) X.A (newList []) (λacc s₃=>wpAny (model X.prog X.w) X.A (newFunctionEnv sc X.env.globals cl [] X.env.qual none .none (some X.env)) (λcenv s₄ =>
   codeAny (model X.prog X.w) X.A (.compStart (.ListComp elt [⟨.Name x px,iter,ifs,0⟩] sc pos) 0 (.ref it) acc { cenv with scope:=relabel sc X.env }) (RR acc cenv.locals) s₄) E s₃) E s:=by
 have okk:=ok
 obtain ⟨kd,nc,lx,ll,fr,kk,nd⟩:=okk
 have hD0:H s.heap.objs.size=none:=I.hok.fresh (TF _)
 obtain ⟨W,⟨m0,w0⟩,turn⟩:=hw s.heap.objs.size hD0
 refine wpAny_newObj_type ?_
 have I3:Inv X pins σ (upd H s.heap.objs.size (.lst [])) { s with heap:=s.heap.push { cls:=.type "list",dict:=none,data:=.seq ([]:List Value).toArray } } :=
  I.laid (t':=s.toks) (λb u e=>Heap.get?_push_of_some _ e) (TF _) (show c_ X.prog X.w _ _ _ (.lst []) from ⟨Ue _,[],0,.nil,Heap.get?_push_size _ rfl⟩)
 have st3:tn 0 (s.heap.push { cls:=.type "list",dict:=none,data:=.seq ([]:List Value).toArray }):=T.keep 0 _ _ st λb hb o e=>Heap.get?_push_of_some _ e
 generalize hD:s.heap.objs.size=D at *
 generalize hH:upd H D (.lst [])=H3 at *
 generalize hs3:({ s with heap:=s.heap.push { cls:=.type "list",dict:=none,data:=.seq ([]:List Value).toArray } }:Shared)=s3 at *
 have e3:s.heap.push { cls:=.type "list",dict:=none,data:=.seq ([]:List Value).toArray }=s3.heap:=by rw [← hs3]
 rw [e3] at st3
 have fD:∀b∈fp,b≠D:=λb hb z=>by
  obtain ⟨o,ho,_⟩:=T.obj 0 _ st b hb
  have:=Heap.lt_size ho
  rw [z,← hD] at this
  exact UD _ this
 have f3:∀b∈fp,lI X pins H3 b:=λb hb=>⟨by rw [← hH,aO (fD b hb)];exact (f b hb).1,(f b hb).2⟩
 have g3:∀b∈fp,∃o,s3.heap.get? b=some o:=λb hb=>by
  obtain ⟨o,ho,_⟩:=T.obj 0 _ st3 b hb
  exact ⟨o,ho⟩
 refine wpAny_newFunctionEnv nc (by intro y hy;simp at hy) (λh₁ hns hsb=>?_) kd
 have kp:∀b o,s3.heap.get? b=some o→h₁.get? b=some o:=λb o e=>hsb.extBut b o (T6 (Heap.lt_size e)) (Heap.get?_push_of_some _ e)
 have J0:=ye (fp:=fp) (cl:=cl) (t':=s3.toks + ([]:List (Str × Value)).length) I3 ok h1 h2 (λb hb=>⟨f3 b hb,g3 b hb⟩) hns kp
 have st4:tn 0 h₁:=T.keep 0 _ _ st3 λb hb o e=>kp b o e
 have ltC:∀b o,s3.heap.get? b=some o→b≠s3.heap.objs.size:=λb o e=>T6 (Heap.lt_size e)
 have cC:∀y c,X.env.cells.lookup y=some c→c≠s3.heap.objs.size:=λy c e=>by
  obtain ⟨v,o,ho,_⟩:=I3.cell y c e
  exact ltC c o ho
 have pC:∀p∈X.pn ++ pins,p.1≠s3.heap.objs.size:=λp hp=>ltC _ _ (I3.pin p hp).1
 have lC:s3.heap.objs.size≠X.env.locals:=VI I3.lt
 have fX:∀{H':Hp},(∀b∈fp,H' b=none)→∀b∈fp,lI (gd X sc cl s3.heap.objs.size x ks s3 H3 fp pins) [] H' b:=λhn b hb=>by
  obtain ⟨o,ho⟩:=g3 b hb
  obtain ⟨_,q1,q2,q3,q4,q5⟩:=f b hb
  refine ⟨hn b hb,ltC b o ho,λz=>?_,.inl hb,λy c e=>q4 y c (h1 y c e),λp hp=>q5 p (by simpa [gd] using hp)⟩
  rcases TX.mp (I3.o7 b z) with e | e
  ·exact q1 e
  ·exact q2 e
 have back:∀{o:Option V} {H':Hp} {s':Shared},Inv (gd X sc cl s3.heap.objs.size x ks s3 H3 fp pins) [] (o :: dT ks σ) H' s'→Inv X pins σ H' s':=λ{o H' s'} J=>by
  obtain ⟨hh,g,d,t,os'⟩:=s'
  obtain rfl:os'=s3.os:=J.os
  exact I3.call (h':=hh) (g':=g) (d':=d) (t':=t) (ch:=fp) J.base J.hok J.bare λb hb=>⟨(f b hb).2.2.2.1,(f b hb).2.1,(f b hb).2.2.2.2.1,(f b hb).2.2.2.2.2⟩
 have lookX:(relabel sc X.env).names.lookup x=some .local:=lookup_relabel_local lx
 have loop:∀s',(∃(i:Nat) (o:Option V) (H':Hp),Inv (gd X sc cl s3.heap.objs.size x ks s3 H3 fp pins) [] (o :: dT ks σ) H' s'∧tn i s'.heap∧(∀b∈fp,H' b=none)∧W i m0 H') →
   codeAny (model X.prog X.w) X.A (.compLoop (.ListComp elt [⟨.Name x px,iter,ifs,0⟩] sc pos) 0 (.ref it) (.ref D) (compEnvC sc cl s3.heap.objs.size X.env)) (RR (.ref D) s3.heap.objs.size) s':=by
  intro s' hs'
  refine DA (λn s'=>∃(i:Nat) (o:Option V) (H':Hp),Inv (gd X sc cl s3.heap.objs.size x ks s3 H3 fp pins) [] (o :: dT ks σ) H' s'∧tn i s'.heap∧(∀b∈fp,H' b=none)∧W i n H') ?_ m0 hs'
  rintro n s5 ⟨i,o,H5,J5,t5,n5,w5⟩
  rcases turn i n H5 w5 with ⟨stop,hq⟩ | ⟨go,step⟩
  ·refine cq (T.done (gd X sc cl s3.heap.objs.size x ks s3 H3 fp pins) rfl rfl rfl hc i [] s5 _ H5 _ J5 (fX n5) t5 stop) λr s6 ⟨hr,J6⟩=>?_
   subst hr
   obtain ⟨m,hm,_⟩:=J6.loc
   exact hR D _ s6 H5 m (back J6) hq hm J6.free lC I3.sz cC pC
  ·refine cq (T.item (gd X sc cl s3.heap.objs.size x ks s3 H3 fp pins) rfl rfl rfl hc i [] s5 _ H5 _ J5 (fX n5) t5 go) λr s6 ⟨u,hr,h6⟩=>?_
   subst hr
   refine cq h6 λ_ s7 ⟨v,H7,J7,r7,y7,t7,n7⟩=>?_
   have J7':=J7.pinned (fX n7) (T.obj _ _ t7)
   refine wpAny_assign_Name (gH (X:=gd X sc cl s3.heap.objs.size x ks s3 H3 fp pins) (i:=0) J7' nd rfl (.inl lookX) r7 (λs8 J8=>?_) (.inr lookX))
   refine cq (hcn cl s3.heap.objs.size s3 H3 fp pins _ s8 _ H7 _ J8 (step v H7 y7)) λok s8' ⟨H8,J8',q8⟩=>?_
   cases ok with
   | false =>
    simp only [T2,if_false] at q8 ⊢
    obtain ⟨m',hm,w'⟩:=q8
    refine ⟨m',hm,i + 1,_,_,J8'.gI,?_,?_,w'⟩
    ·exact T.keep _ _ _ t7 λb hb o e=>(J8'.pin (b,o) (TV _ (TV _ (cI hb e)))).1
    ·intro b hb
     obtain ⟨o,e,d⟩:=T.obj _ _ t7 b hb
     exact (J8'.pin (b,o) (TV _ (TV _ (cI hb e)))).2.1
   | true =>
    simp only [if_true] at q8 ⊢
    refine cq (he cl s3.heap.objs.size s3 H3 fp pins _ s8' _ H8 _ J8' q8) λy s9 ⟨vy,H9,J9,r9,ys,hys,hz,m',hm,w'⟩=>?_
    refine cq (iJ (X:=gd X sc cl s3.heap.objs.size x ks s3 H3 fp pins) _ s9 _ H9 (.ref D) [vy] (.ref D) [y] (λ_ H'=>H'=upd H9 D (.lst (ys ++ [vy]))) J9 rfl (.cons r9 .nil) ⟨D,ys,vy,rfl,rfl,hys,hz,rfl⟩) λ_ s10 ⟨_,H10,J10,_,eH⟩=>?_
    subst eH
    refine ⟨m',hm,i + 1,_,_,J10.gI,?_,?_,w'⟩
    ·exact T.keep _ _ _ t7 λb hb o e=>(J10.pin (b,o) (TV _ (TV _ (cI hb e)))).1
    ·intro b hb
     obtain ⟨o,e,d⟩:=T.obj _ _ t7 b hb
     exact (J10.pin (b,o) (TV _ (TV _ (cI hb e)))).2.1
 have l0:=loop _ ⟨0,none,H3,J0,st4,λb hb=>(f3 b hb).1,w0⟩
 exact codeAny_compStart_list l0 (T.self _ 0 _ _ _ st4 l0)
theorem rA {sc osc:Scope} {N:List Str} {x:Str} {ks:List (Str × Nat)} (ok:cR sc osc N x ks) {pins:List (Addr × Obj)} {σ:L2.St} {H:Hp} {s:Shared} (I:Inv X pins σ H s) (ho:X.env.scope=osc):∀y∈sc.names,y.2=.free→∃c,X.env.cells.lookup y.1=some c:=λy hy hf =>
 I.ok.has y.1 (.inl (by show X.env.scope.names.lookup y.1=some .cell;rw [ho];exact ok.2.2.2.2.1 y hy hf))
theorem MF {elt iter:Expr} {ifs:List Expr} {x:Str} {px:Pos} {sc:Scope} {pos:Pos} {wi:TI} {te:TE} {tc:TT} (osc:Scope) (N:List Str) (ks:List (Str × Nat)) (hc:X.calm=true) (ho:X.env.scope=osc) (hN:X.N=N) (hi:PI X (.Name x px) iter wi)
  (he:∀cl C s₀ H₀ fp pins,PE (gd X sc cl C x ks s₀ H₀ fp pins) elt te) (hcn:∀cl C s₀ H₀ fp pins,HF (gd X sc cl C x ks s₀ H₀ fp pins) ifs tc) (ok:cR sc osc N x ks:=by decide +kernel) (hs:∀x,foldedSetIterable iter X.env x=pure x:=by intro _;rfl) :
  PE X (.ListComp elt [⟨.Name x px,iter,ifs,0⟩] sc pos) (JD wi ks tc te):=by
 intro pins s σ H Q I hw
 obtain ⟨cl,hcl,h1,h2⟩:=l_ (rA ok I ho)
 have ok':cR sc X.env.scope X.N x ks:=by rw [ho,hN];exact ok
 rw [eval_ListComp]
 refine wpAny_comprehension_free (use:=none) rfl hs hcl ok.1 ok.2.2.2.1 (cq (hi pins s σ H _ I hw) λv s1 h3=>cq h3 λitv s2 h4=>?_)
 obtain ⟨it,fp,tn,J,H2,rfl,I2,T,st2,f2,hR⟩:=h4
 refine yU (RR:=λacc C=>compPost (model X.prog X.w) X.A X.xe none (EP X pins σ Q) acc C) hc ok' h1 h2 he hcn I2 T st2 f2 hR ?_
 intro D C s' H' m J' q hn hC cl' cs cc cp
 refine ⟨m,hn,λh' hsb=>⟨.ref D,H',?_,rfl,q⟩⟩
 exact J'.turned (t':=s'.toks) (it:=C) (λb o ne e=>hsb.extBut b o ne e) hC cl' (.inr cs) cc cp
def PQ (wi:TI) (ks:List (Str × Nat)) (tc:TT) (te:TE) (i:Nat):TS:=λD σ H=>JD wi ks tc te σ H λv H1=>D.nx (σ.set i (some v)) H1
theorem AJ {elt iter:Expr} {ifs:List Expr} {x y:Str} {px py:Pos} {sc:Scope} {pos spos:Pos} {wi:TI} {te:TE} {tc:TT} {i:Nat} (osc:Scope) (N:List Str) (ks:List (Str × Nat)) (hc:X.calm=true) (ho:X.env.scope=osc) (hN:X.N=N) (hnd:X.N.Nodup) (hy:X.N[i]?=some y) (hl:Loc X.env.scope y)
  (hi:PI X (.Name x px) iter wi) (he:∀cl C s₀ H₀ fp pins,PE (gd X sc cl C x ks s₀ H₀ fp pins) elt te) (hcn:∀cl C s₀ H₀ fp pins,HF (gd X sc cl C x ks s₀ H₀ fp pins) ifs tc) (ok:cR sc osc N x ks:=by decide +kernel) (hs:∀x,foldedSetIterable iter X.env x=pure x:=by intro _;rfl)
  (hsw:swapsWith (.ListComp elt [⟨.Name x px,iter,ifs,0⟩] sc pos) (some (.Name y py)) spos.line X.env=pure true:=by rfl) (hf:X.fn y=true∨X.env.scope.names.lookup y=some .local:=by first | exact .inl rfl | exact .inr rfl | assumption) :
  PS X (.Assign [.Name y py] (.ListComp elt [⟨.Name x px,iter,ifs,0⟩] sc pos) spos) (PQ wi ks tc te i):=by
 intro pins s σ H Dn I hw
 obtain ⟨cl,hcl,h1,h2⟩:=l_ (rA ok I ho)
 have ok':cR sc X.env.scope X.N x ks:=by rw [ho,hN];exact ok
 rw [exec_Assign_Name_used _ _ _ _ hsw]
 refine wpAny_bind (wpAny_standAt (wpAny_bind ?_))
 show wpAny _ X.A (do let _ ← comprehension (.ListComp elt [⟨.Name x px,iter,ifs,0⟩] sc pos) sc X.env _ (newList []) false (eval iter X.env) (some (assign (.Name y py) X.env))) _ _ s
 refine wpAny_bind (wpAny_mono (wpAny_comprehension_free (use:=some (assign (.Name y py) X.env)) (Q:=λ_ s'=>SP X pins Dn .next s') rfl hs hcl ok.1 ok.2.2.2.1
  (cq (hi pins s σ H _ I hw) λv s1 h3=>cq h3 λitv s2 h4=>?_)) (λ_ s' hq=>wpAny_pure (wpAny_pure hq)) λ_ _ e=>e)
 obtain ⟨it,fp,tn,J,H2,rfl,I2,T,st2,f2,hR⟩:=h4
 refine yU (Q:=λv H1=>Dn.nx (σ.set i (some v)) H1) (RR:=λacc C=>compPost (model X.prog X.w) X.A X.xe (some (assign (.Name y py) X.env)) (λ_ s'=>SP X pins Dn .next s') acc C) hc ok' h1 h2 he hcn I2 T st2 f2 hR ?_
 intro D C s' H' m J' q hn hC cl' cs cc cp
 show wpAny _ X.A (assign (.Name y py) X.env (.ref D)) _ _ _
 refine wpAny_assign_Name (uY J' hnd hy hl (v:=.ref D) rfl (λs'' J'' ⟨a,hsb,ha⟩=>?_) hf)
 refine ⟨m,hn.sameBut hsb (λz=>?_),λh' hsb'=>⟨_,H',?_,q⟩⟩
 ·rcases ha with e | e
  ·exact cl' (z.trans e)
  ·exact cc _ _ e z.symm
 ·exact J''.turned (t':=s''.toks) (it:=C) (λb o ne e=>hsb'.extBut b o ne e) hC cl' (.inr cs) cc cp
def Qr (wi:TI) (ks:List (Str × Nat)) (te:TE):TE:=λσ H Q=>wi σ H λJ H1=>∀D,H1 D=none→∃W:Nat→Nat→Hp→Prop,(∃m,W 0 m (upd H1 D (.lst []))) ∧
 ∀i m H2,W i m H2→(J.stop i H2∧Q (.ref D) H2)∨(J.go i H2∧∀v H3,J.yld i H2 v H3→te (some v :: dT ks σ) H3 λy H4=>∃ys,H4 D=some (.lst ys)∧ys.length < sizeLine∧∃m',m' < m∧W (i + 1) m' (upd H4 D (.lst (ys ++ [y]))))
theorem Ku {elt iter:Expr} {x:Str} {px:Pos} {sc:Scope} {pos:Pos} {wi:TI} {te:TE} (osc:Scope) (N:List Str) (ks:List (Str × Nat)) (hc:X.calm=true) (ho:X.env.scope=osc) (hN:X.N=N) (hi:PI X (.Name x px) iter wi)
  (he:∀cl C s₀ H₀ fp pins,PE (gd X sc cl C x ks s₀ H₀ fp pins) elt te) (ok:cR sc osc N x ks:=by decide +kernel) (hs:∀x,foldedSetIterable iter X.env x=pure x:=by intro _;rfl) :
  PE X (.ListComp elt [⟨.Name x px,iter,[],0⟩] sc pos) (Qr wi ks te):=λpins s σ H Q I hw=>MF osc N ks hc ho hN hi he (λ_ _ _ _ _ _=>wu) ok hs pins s σ H Q I hw
def Nb (wi:TI) (ks:List (Str × Nat)) (te:TE) (i:Nat):TS:=λD σ H=>Qr wi ks te σ H λv H1=>D.nx (σ.set i (some v)) H1
theorem Kv {elt iter:Expr} {x y:Str} {px py:Pos} {sc:Scope} {pos spos:Pos} {wi:TI} {te:TE} {i:Nat} (osc:Scope) (N:List Str) (ks:List (Str × Nat)) (hc:X.calm=true) (ho:X.env.scope=osc) (hN:X.N=N) (hnd:X.N.Nodup) (hy:X.N[i]?=some y) (hl:Loc X.env.scope y)
  (hi:PI X (.Name x px) iter wi) (he:∀cl C s₀ H₀ fp pins,PE (gd X sc cl C x ks s₀ H₀ fp pins) elt te) (ok:cR sc osc N x ks:=by decide +kernel) (hs:∀x,foldedSetIterable iter X.env x=pure x:=by intro _;rfl)
  (hsw:swapsWith (.ListComp elt [⟨.Name x px,iter,[],0⟩] sc pos) (some (.Name y py)) spos.line X.env=pure true:=by rfl) (hf:X.fn y=true∨X.env.scope.names.lookup y=some .local:=by first | exact .inl rfl | exact .inr rfl | assumption) :
  PS X (.Assign [.Name y py] (.ListComp elt [⟨.Name x px,iter,[],0⟩] sc pos) spos) (Nb wi ks te i):=λpins s σ H D I hw=>AJ osc N ks hc ho hN hnd hy hl hi he (λ_ _ _ _ _ _=>wu) ok hs hsw hf pins s σ H D I hw
end
theorem Ih {K:PySem.W.Frag} {a D:Addr} {xs:List V} {H:Hp} {te:TE} {ks:List (Str × Nat)} {σ:L2.St} {q:Hp→Prop} (Pv:Nat→Hp→Prop) (h0:Pv 0 (upd H D (.lst []))) (hl:∀i H,i≤xs.length→Pv i H→cW K H a xs)
  (hs:∀i x H (R:VK),xs[i]?=some x→Pv i H→(∀y H4 ys,H4 D=some (.lst ys)→ys.length < sizeLine→Pv (i + 1) (upd H4 D (.lst (ys ++ [y])))→R y H4)→te (some x :: dT ks σ) H R) (hd:∀H,Pv xs.length H→q H) :
  ∃W:Nat→Nat→Hp→Prop,(∃m,W 0 m (upd H D (.lst [])))∧∀i m H2,W i m H2→((Hw K a).stop i H2∧q H2) ∨
   ((Hw K a).go i H2∧∀v H3,(Hw K a).yld i H2 v H3→te (some v :: dT ks σ) H3 λy H4=>∃ys,H4 D=some (.lst ys)∧ys.length < sizeLine∧∃m',m' < m∧W (i + 1) m' (upd H4 D (.lst (ys ++ [y])))):=by
 refine ⟨λi m H=>m=xs.length - i∧i≤xs.length∧Pv i H,⟨xs.length,by simp,Ue _,h0⟩,?_⟩
 rintro i m H2 ⟨rfl,hi,p⟩
 have hq:=hl i H2 hi p
 by_cases hlt:i < xs.length
 ·refine .inr ⟨⟨xs,xs[i],hq,by simp [hlt]⟩,λv H3 y=>?_⟩
  obtain ⟨e,y⟩:=y
  subst e
  exact hs i v _ _ (y xs hq) p λy H4 ys e1 e2 e3=>⟨ys,e1,e2,xs.length - (i + 1),by omega,rfl,hlt,e3⟩
 ·have e:i=xs.length:=by omega
  subst e
  exact .inl ⟨⟨xs,hq,TF _⟩,hd H2 p⟩
theorem Fz {lo:Int} {n:Nat} {D:Addr} {H:Hp} {te:TE} {ks:List (Str × Nat)} {σ:L2.St} {q:Hp→Prop} (Pv:Nat→Hp→Prop) (h0:Pv 0 (upd H D (.lst [])))
  (hs:∀i H (R:VK),i < n→Pv i H→(∀y H4 ys,H4 D=some (.lst ys)→ys.length < sizeLine→Pv (i + 1) (upd H4 D (.lst (ys ++ [y])))→R y H4)→te (some (.int (lo + i)) :: dT ks σ) H R) (hd:∀H,Pv n H→q H) :
  ∃W:Nat→Nat→Hp→Prop,(∃m,W 0 m (upd H D (.lst [])))∧∀i m H2,W i m H2→((Ew lo n).stop i H2∧q H2) ∨
   ((Ew lo n).go i H2∧∀v H3,(Ew lo n).yld i H2 v H3→te (some v :: dT ks σ) H3 λy H4=>∃ys,H4 D=some (.lst ys)∧ys.length < sizeLine∧∃m',m' < m∧W (i + 1) m' (upd H4 D (.lst (ys ++ [y])))):=by
 refine ⟨λi m H=>m=n - i∧i≤n∧Pv i H,⟨n,by simp,Ue _,h0⟩,?_⟩
 rintro i m H2 ⟨rfl,hi,p⟩
 by_cases hlt:i < n
 ·refine .inr ⟨hlt,λv H3 y=>?_⟩
  obtain ⟨e,y⟩:=y
  subst e y
  exact hs i _ _ hlt p λy H4 ys e1 e2 e3=>⟨ys,e1,e2,n - (i + 1),by omega,rfl,hlt,e3⟩
 ·have e:i=n:=by omega
  subst e
  exact .inl ⟨TF _,hd H2 p⟩
def one (c:Nat):Str:=⟨#[c]⟩
theorem uK:∀(cs:List Nat) (acc:Array Nat),(cs.map one).foldl (λacc (p:Str)=>acc ++ (Str.ofString "").cps ++ p.cps) acc=acc ++ cs.toArray
 | [],acc=>by simp
 | c :: cs,acc=>by
  have e:(Str.ofString "").cps=#[]:=by decide +kernel
  rw [TL,List.foldl_cons,uK cs]
  rw [e]
  show (acc ++ #[] ++ #[c]) ++ cs.toArray=_
  simp
theorem join_ones (cs:List Nat):Txt.join (Str.ofString "") (cs.map one)=⟨cs.toArray⟩:=by
 unfold Txt.join Builtin.Str.glued
 cases cs with
 | nil=>rfl
 | cons c cs =>
  simp only [TL,List.drop_succ_cons,Vf,List.headD_cons]
  rw [uK]
  show (⟨#[c] ++ cs.toArray⟩:Str)=_
  simp
theorem jF:∀{ys:List Str} {us:List Value},Vals (ys.map V.str) us→StrsAre us ys
 | [],_,.nil=>.nil
 | y :: ys,_,.cons r rr=>by
  obtain ⟨t,rfl⟩:=r
  exact .cons y t (jF rr)
section
variable {X:Cx}
def rJoin (K:PySem.W.Frag):V→List V→Hp→VK→Prop:=λx vs H Q=>∃z p ys,x=.str z∧vs=[.ref p]∧cW K H p (ys.map V.str)∧(ys.map (·.length)).sum + ys.length * z.length≤16777216∧Q (.str (Txt.join z ys)) H
theorem Iu:pX X "str.join" (rJoin X.K):=by
 intro pins s σ H x vs v us Q I rx rv h
 obtain ⟨z,p,ys,rfl,rfl,hp,hz,q⟩:=h
 obtain ⟨t,rfl⟩:=rx
 obtain ⟨u,rfl,ru⟩:=vals1 rv
 cases ru
 obtain ⟨its,r,pl,_⟩:=I.list hp
 exact join_list pl.isList (by simpa using jF r) hz λt' k=>⟨.str _,H,I.tok _,⟨_,rfl⟩,q⟩
end
def vC:Expr→Option V
 | .Constant (.int i) _ _=>some (.int i)
 | .Constant (.str x) _ _=>some (.str x)
 | .Constant (.bool b) _ _=>some (.bl b)
 | _=>none
theorem rD {X:Cx}:∀{es:List Expr} (vs:List V),es.map vC=vs.map some→PA X es (λ_ H Q=>Q vs H)
 | [],[],_=>λ_ _ _ _ H Q I h=>Calls.spliced_nil ⟨[],H,I,.nil,h⟩
 | [],_ :: _,h=>by cases h
 | _ :: _,[],h=>by cases h
 | e :: es,v :: vs,h=>by
  rw [TL,TL] at h
  injection h with h1 h2
  have ih:=rD (X:=X) (es:=es) vs h2
  have hs:starEach (e :: es) X.env=(false,eval e X.env) :: starEach es X.env:=by
   cases e <;> first | rfl | cases h1
  have he:PE X e (tC v):=by
   cases e with
   | Constant c j pos =>
    cases c with
    | int i=>cases h1;exact aM
    | str x=>cases h1;exact oI
    | bool b=>cases h1;exact yK
    | _=>cases h1
   | _=>cases h1
  exact λpos pins s σ H Q I hq=>aT he ih hs pos pins s σ H Q I hq
end Ov
namespace Ov
open PySem PySem.Spec PyProof.Rows
open L2 (V HO Hp Inv Cx St VK TE TT TA TS TG pY TI TO jX Ends xD Loc Gl Rd RelV Vals fm xO bY pW tI pX jW R2 D8 tC G6 Qt CU tB G0 PU JE CL JF CP Qq JJ G3 Bc zo K3 sy Qp Ba JG qR HU BL HX HW JC xt Na BQ QZ BR JY JH CT CN PM M' CO JI Bb qp CS Qs upd E0 bK c5)
structure QE (X:Cx) (e:Expr) (t:TE):Prop where
 run:L2.PE X e t
structure QT (X:Cx) (e:Expr) (t:TT):Prop where
 run:L2.PT X e t
structure QW (X:Cx) (e:Expr) (t:TT):Prop where
 run:L2.PW X e t
structure QA (X:Cx) (es:List Expr) (t:TA):Prop where
 run:L2.PA X es t
structure QS (X:Cx) (st:Stmt) (t:TS):Prop where
 run:L2.PS X st t
structure QB (X:Cx) (st:List Stmt) (t:TS):Prop where
 run:L2.uu X st t
structure QG (X:Cx) (e:Expr) (t:TG):Prop where
 run:L2.PG X e t
structure Qe (X:Cx) (es:List Expr) (t:pY):Prop where
 run:L2.JT X es t
structure QI (X:Cx) (tg e:Expr) (t:TI):Prop where
 run:L2.PI X tg e t
structure QO (X:Cx) (e:Option Expr) (t:TO):Prop where
 run:L2.PO X e t
section
variable {X:Cx} {a b c e o:Expr} {es rest:List Expr} {ta tb te tc to:TE} {tA tB':TT} {t:TA} {pos px p p2 apos cpos:Pos} {x:Str} {i j:Nat}
theorem pv (i:Nat) {x:Str} {pos:Pos} (hN:X.N[i]?=some x:=by rfl) (hv:xD X.env.scope x:=by first | exact Or.inl rfl | exact Or.inr (Or.inl rfl) | exact Or.inr (Or.inr rfl)) (hd:(x == ("__debug__":Str))=false:=by decide)
  (hcd:(x == ("__classdict__":Str))=false:=by decide):QE X (.Name x pos) (D8 i):=⟨L2.AF hN hv hd hcd⟩
theorem aM {i:Int} {j pos}:QE X (.Constant (.int i) j pos) (tC (.int i)):=⟨L2.aM⟩
theorem yK {b:Bool} {j pos}:QE X (.Constant (.bool b) j pos) (tC (.bl b)):=⟨L2.yK⟩
theorem AB {j pos}:QE X (.Constant .none j pos) (tC .non):=⟨L2.AB⟩
theorem oI {x:Str} {j pos}:QE X (.Constant (.str x) j pos) (tC (.str x)):=⟨L2.oI⟩
theorem qd {v:V} {u:Value} (hg:Gl X x) (hm:X.mg x=some u) (r:RelV v u) (hd:(x == ("__debug__":Str))=false:=by decide):QE X (.Name x pos) (tC v):=⟨L2.qd hg hm r hd⟩
theorem wd {v:V} {u:Value} (hg:Gl X x) (hm:X.mg x=none) (hv:bootBuiltins x=some u) (r:RelV v u) (hn:x≠"__name__":=by decide) (hd:(x == ("__debug__":Str))=false:=by decide):QE X (.Name x pos) (tC v):=⟨L2.wd hg hm hv r hn hd⟩
theorem bj {op:Operator} {r:R2} (ho:fm X (binaryOp op) r) (ha:QE X a ta) (hb:QE X b tb):QE X (.BinOp a op b pos) (G6 r ta tb):=⟨L2.bj ho ha.run hb.run⟩
theorem B7 {op:UnaryOp} {r:V→Hp→VK→Prop} (ho:xO X (unaryOp op) r) (ha:QE X a ta):QE X (.UnaryOp op a pos) (Qt r ta):=⟨L2.B7 ho ha.run⟩
theorem qa {op:CmpOp} {r:R2} (ho:fm X (compareOp op) r) (ha:QE X a ta) (hb:QE X b tb) (hm:behindInMarks op b=false):QE X (.Compare a [op] [b] pos) (G6 r ta tb):=⟨L2.qa ho ha.run hb.run hm⟩
theorem du {op:CmpOp} {r:R2} (ho:fm X (compareOp op) r) (ha:QE X a ta) (hb:QE X b tb) (hm:behindInMarks op b=false):QT X (.Compare a [op] [b] pos) (CU (G6 r ta tb)):=⟨L2.du ho ha.run hb.run hm⟩
theorem AE {op} (h:QE X a ta):QE X (.BoolOp op [a] pos) ta:=⟨L2.AE h.run⟩
theorem AA (ha:QE X a ta) (hb:QE X (.BoolOp .And (b :: rest) pos) tb):QE X (.BoolOp .And (a :: b :: rest) pos) (CL ta tb):=⟨L2.AA ha.run hb.run⟩
theorem Gf (ha:QE X a ta) (hb:QE X (.BoolOp .Or (b :: rest) pos) tb):QE X (.BoolOp .Or (a :: b :: rest) pos) (JF ta tb):=⟨L2.Gf ha.run hb.run⟩
theorem AD (ha:QE X a ta):QE X (.UnaryOp .Not a pos) (CP ta):=⟨L2.AD ha.run⟩
theorem AK (ha:QT X a tA):QT X (.UnaryOp .Not a pos) (JE tA):=⟨L2.AK ha.run⟩
theorem qi (ha:QT X a tA):QW X (.BoolOp .And [a] pos) tA:=⟨L2.qi ha.run⟩
theorem wA (ha:QT X a tA):QW X (.BoolOp .Or [a] pos) tA:=⟨L2.wA ha.run⟩
theorem wz (ha:QT X a tA) (hb:QW X (.BoolOp .And (b :: rest) pos) tB'):QW X (.BoolOp .And (a :: b :: rest) pos) (G0 tA tB'):=⟨L2.wz ha.run hb.run⟩
theorem Ce (ha:QT X a tA) (hb:QW X (.BoolOp .Or (b :: rest) pos) tB'):QW X (.BoolOp .Or (a :: b :: rest) pos) (PU tA tB'):=⟨L2.Ce ha.run hb.run⟩
theorem Kx (h:QW X e tA):QT X e tA:=⟨h.run.pt⟩
theorem AL (h:QE X e te) (he:∀whole,isTrue e X.env whole=(do let v ← whole;standAt e.pos;holding [v] (truthy v)):=by intro _;rfl):QT X e (tB te):=⟨L2.AL h.run he⟩
theorem rF (hc:QT X c tA) (ha:QE X a ta) (hb:QE X b tb):QE X (.IfExp c a b pos) (Qq tA ta tb):=⟨L2.rF hc.run ha.run hb.run⟩
theorem bH:QA X [] Bc:=⟨L2.bH⟩
theorem aT (ha:QE X e te) (hr:QA X es t) (hs:starEach (e :: es) X.env=(false,eval e X.env) :: starEach es X.env:=by rfl):QA X (e :: es) (zo te t):=⟨L2.aT ha.run hr.run hs⟩
theorem F9 {es:List Expr} (vs:List V) (h:es.map vC=vs.map some):QA X es (λ_ H Q=>Q vs H):=⟨rD vs h⟩
theorem rG {x1} (h:QA X es t):QE X (.Tuple es x1 pos) (JJ t):=⟨L2.rG h.run⟩
theorem kr (h:QA X es t):QE X (.List es pos) (G3 t):=⟨L2.kr h.run⟩
theorem cg {r:R2} (hr:pW X r) (ha:QE X a ta) (hb:QE X b tb) (hs:c5 b):QE X (.Subscript a b pos) (G6 r ta tb):=⟨L2.cg hr ha.run hb.run hs⟩
theorem qg:QO X none qp:=⟨L2.qg⟩
theorem ly (h:QE X e te):QO X (some e) (CS te):=⟨L2.ly h.run⟩
theorem ku {lo hi:Option Expr} {tl th:TO} {r:V→Option Int→Option Int→Hp→VK→Prop} (hr:tI X r) (he:QE X e te) (hl:QO X lo tl) (hu:QO X hi th):QE X (.Subscript e (.Slice lo hi none p2) pos) (Qs r te tl th):=⟨L2.ku hr he.run hl.run hu.run⟩
theorem dP {id:String} {r:List V→Hp→VK→Prop} (hc:bY X (.builtin id) r) (hg:Gl X x) (hm:X.mg x=none) (hv:bootBuiltins x=some (.builtin id)) (ha:QA X (e :: es) t) (hn:x≠"__name__":=by decide) (hdb:(x == ("__debug__":Str))=false:=by decide)
  (he:starEach (e :: es) X.env=(false,eval e X.env) :: starEach es X.env:=by rfl) (hpl:(backTo pos (starEach es X.env)).any (·.1)=false:=by rfl):QE X (.Call (.Name x p) (e :: es) [] pos) (K3 r t):=⟨L2.dP hc hg hm hv ha.run hn hdb he hpl⟩
theorem oH {T:String} {r:List V→Hp→VK→Prop} (hc:bY X (.type T) r) (hg:Gl X x) (hm:X.mg x=none) (hv:bootBuiltins x=some (.type T)) (ha:QA X (e :: es) t) (hn:x≠"__name__":=by decide) (hdb:(x == ("__debug__":Str))=false:=by decide)
  (he:starEach (e :: es) X.env=(false,eval e X.env) :: starEach es X.env:=by rfl) (hpl:(backTo pos (starEach es X.env)).any (·.1)=false:=by rfl):QE X (.Call (.Name x p) (e :: es) [] pos) (K3 r t):=⟨L2.oH hc hg hm hv ha.run hn hdb he hpl⟩
theorem yL {k k':Nat} {ps:List Str} {sp:L2.Sp} (C:sG X.prog X.w X.K X.mg X.base k x ps sp) (hr:bK k' X.A) (hk:k≤k') (hg:Gl X x) (ha:QA X (e :: es) t)
  (hdb:(x == ("__debug__":Str))=false:=by decide) (he:starEach (e :: es) X.env=(false,eval e X.env) :: starEach es X.env:=by rfl) (hpl:(backTo pos (starEach es X.env)).any (·.1)=false:=by rfl) :
  QE X (.Call (.Name x p) (e :: es) [] pos) (sy sp [] E0 t):=⟨MD C hr hk hg ha.run hdb he hpl⟩
theorem rE {name:Str} {T id:String} {r:V→List V→Hp→VK→Prop} (pa:PlainAttrs T) (slot:Slot T name id) (hty:typeOf (.builtin id)=pure (.type "method_descriptor")) (hm:pX X id r) (ho:QE X o to) (ha:QA X (e :: es) t)
  (hbase:attributeBase o name X.env (eval o X.env)=eval o X.env:=by rfl)
  (hfew:((backTo cpos (starEach (e :: es) X.env)).all (λx=>!x.1) && (backToKw cpos (keywordEach [] X.env)).all (λx=>x.1.isSome)
   && decide ((e :: es).length + ([]:List Keyword).length + (if ([]:List Keyword).isEmpty then 0 else 1) < 30))=true:=by rfl)
  (hline:(apos.endLine == cpos.line)=true:=by rfl) (hs:starEach (e :: es) X.env=(false,eval e X.env) :: starEach es X.env:=by rfl) (hplain:(backTo cpos (starEach es X.env)).any (·.1)=false:=by rfl) :
  QE X (.Call (.Attribute o name apos) (e :: es) [] cpos) (Qp X.K T r to t):=⟨L2.rE pa slot hty hm ho.run ha.run hbase hfew hline hs hplain⟩
end
section
variable {X:Cx} {st:Stmt} {rest:List Stmt} {t u:TS} {e tg:Expr} {es:List Expr} {te:TE} {pos:Pos} {g:TG}
theorem fU:QB X [] CO:=⟨L2.fU⟩
theorem aW (h1:QS X st t) (h2:QB X rest u):QB X (st :: rest) (JI t u):=⟨L2.aW h1.run h2.run⟩
theorem bI (h1:QS X st t):QB X [st] t:=⟨L2.bI h1.run⟩
theorem yO (h1:QS X st t) (h2:QB X rest u):QB X (st :: rest) (PN t u):=⟨Jb h1.run h2.run⟩
theorem oM {sts:List Stmt}:QB X sts Bb:=⟨L2.oM⟩
theorem lz (he:QE X e te) (hs:swapsWith e none pos.line X.env=pure false:=by rfl):QS X (.Expr e pos) (CN te):=⟨L2.lz he.run hs⟩
theorem dH (he:QE X e te):QS X (.Return (some e) pos) (JH te):=⟨L2.dH he.run⟩
theorem wt:QS X (.Return none pos) CT:=⟨L2.wt⟩
theorem nB {c:Expr} {a b:List Stmt} {tc:TT} (hc:QT X c tc) (ha:QB X a t) (hb:QB X b u):QS X (.If c a b pos) (JC tc t u):=⟨L2.nB hc.run ha.run hb.run⟩
theorem kI {c:Expr} {body:List Stmt} {tc:TT} {tb:TS} (hp:PassesOwn (model X.prog X.w) X.A X.env X.xe) (hc:QT X c tc) (hb:QB X body tb):QS X (.While c body [] pos) (xt tc tb):=⟨L2.kI hp hc.run hb.run⟩
theorem lq {i:Nat} {x:Str} (hN:X.N.Nodup) (hi:X.N[i]?=some x) (hx:Loc X.env.scope x) (hf:X.fn x=true∨X.env.scope.names.lookup x=some .local:=by first | exact .inl rfl | exact .inr rfl | assumption):QG X (.Name x pos) (qR i):=⟨L2.lq hN hi hx hf⟩
theorem wg:Qe X [] HU:=⟨L2.wg⟩
theorem rH {e:Expr} {es:List Expr} {t:TG} {u:pY} (h1:QG X e t) (h2:Qe X es u)
  (hs:(assignEach (e :: es) X.env).map (·.2)=assign e X.env :: (assignEach es X.env).map (·.2):=by rfl):Qe X (e :: es) (BL t u):=⟨L2.rH h1.run h2.run hs⟩
theorem AG {k:Nat} {t:pY} {n:Nat} (hc:X.calm=true) (h:Qe X es t)
  (hn:(assignEach es X.env).length=n:=by rfl) (hst:(assignEach es X.env).findIdx? (·.1)=none:=by rfl):QG X (.Tuple es k pos) (HX X.K n t):=⟨L2.AG hc h.run hn hst⟩
theorem we {o i:Expr} {to ti:TE} {t:jX} (ho:QE X o to) (hi:QE X i ti) (hs:jW X t)
  (ha:∀v,assign (.Subscript o i pos) X.env v=(do
   let ov ← holding [v] (eval o X.env)
   let iv ← holding [v,ov] (eval i X.env)
   standAt pos
   holding [v,ov,iv] (setItem ov iv v)
   release [v,ov,iv] []):=by intro _;rfl):QG X (.Subscript o i pos) (HW to ti t):=⟨L2.we ho.run hi.run hs ha⟩
theorem wq {tg e:Expr} (he:QE X e te) (hg:QG X tg g) (hs:swapsWithSole [tg] e pos.line X.env=pure false:=by rfl) (hw:swappedStores [tg] e X.env=pure none:=by rfl)
  (h1:(assignEach [tg] X.env).map (·.2)=[assign tg X.env]:=by rfl):QS X (.Assign [tg] e pos) (Ba te g):=⟨L2.wq he.run hg.run hs hw h1⟩
theorem cU {i:Nat} {x:Str} {pos':Pos} (hN:X.N.Nodup) (hi:X.N[i]?=some x) (hx:Loc X.env.scope x) (he:QE X e te) (hs:swapsWith e (some (.Name x pos')) pos.line X.env=pure false:=by rfl) (hf:X.fn x=true∨X.env.scope.names.lookup x=some .local:=by first | exact .inl rfl | exact .inr rfl | assumption) :
  QS X (.Assign [.Name x pos'] e pos) (Ba te (qR i)):=⟨L2.cU hN hi hx he.run hs hf⟩
theorem oK {i j:Nat} {x y:Str} {a b:Expr} {ta:TA} {px py pt:Pos} {kt k2 pt2} (hc:X.calm=true) (hN:X.N.Nodup) (hi:X.N[i]?=some x) (hj:X.N[j]?=some y) (hij:i≠j)
  (hx:X.env.scope.names.lookup x=some .local) (hy:X.env.scope.names.lookup y=some .local) (ha:QA X [a,b] ta)
  (hw:swappedStores [.Tuple [.Name x px,.Name y py] kt pt] (.Tuple [a,b] k2 pt2) X.env=pure (some [x,y]))
  (hs:swapsWithSole [.Tuple [.Name x px,.Name y py] kt pt] (.Tuple [a,b] k2 pt2) pos.line X.env=pure false:=by rfl) :
  QS X (.Assign [.Tuple [.Name x px,.Name y py] kt pt] (.Tuple [a,b] k2 pt2) pos) (JG i j ta):=⟨L2.oK hc hN hi hj hij hx hy ha.run hw hs⟩
theorem ni {l:Expr} {tl:TE} (hl:QE X l tl):QI X tg l (BQ X.K tl):=⟨L2.ni hl.run⟩
theorem fY {a:Expr} {ta:TA} {p pos:Pos} (hg:Gl X "range") (hm:X.mg "range"=none) (ha:QA X [a] ta) (hs:starEach [a] X.env=[(false,eval a X.env)]:=by rfl):QI X tg (.Call (.Name "range" p) [a] [] pos) (BR ta):=⟨L2.fY hg hm ha.run hs⟩
theorem oJ {iter:Expr} {body:List Stmt} {wi:TI} {g:TG} {tb:TS} {pos:Pos} (hp:PassesOwn (model X.prog X.w) X.A X.env X.xe) (hc:X.calm=true) (hi:QI X tg iter wi) (hg:QG X tg g) (hb:QB X body tb)
  (hs:∀x,foldedSetIterable iter X.env x=pure x:=by intro _;rfl):QS X (.For tg iter body [] pos) (Na wi g tb):=⟨L2.oJ hp hc hi.run hg.run hb.run hs⟩
theorem IU {elt iter:Expr} {x:Str} {px:Pos} {sc:Scope} {pos:Pos} {wi:TI} (osc:Scope) (N:List Str) (ks:List (Str × Nat)) (hc:X.calm=true) (ho:X.env.scope=osc) (hN:X.N=N) (hi:QI X (.Name x px) iter wi)
  (he:∀cl C s₀ H₀ fp pins,QE (gd X sc cl C x ks s₀ H₀ fp pins) elt te) (ok:cR sc osc N x ks:=by decide +kernel) (hs:∀x,foldedSetIterable iter X.env x=pure x:=by intro _;rfl) :
  QE X (.ListComp elt [⟨.Name x px,iter,[],0⟩] sc pos) (Qr wi ks te):=⟨Ku osc N ks hc ho hN hi.run (λcl C s₀ H₀ fp pins=>(he cl C s₀ H₀ fp pins).run) ok hs⟩
theorem Ja {elt iter:Expr} {x y:Str} {px py:Pos} {sc:Scope} {pos spos:Pos} {wi:TI} {i:Nat} (osc:Scope) (N:List Str) (ks:List (Str × Nat)) (hc:X.calm=true) (ho:X.env.scope=osc) (hN:X.N=N) (hnd:X.N.Nodup) (hy:X.N[i]?=some y) (hl:Loc X.env.scope y)
  (hi:QI X (.Name x px) iter wi) (he:∀cl C s₀ H₀ fp pins,QE (gd X sc cl C x ks s₀ H₀ fp pins) elt te) (ok:cR sc osc N x ks:=by decide +kernel) (hs:∀x,foldedSetIterable iter X.env x=pure x:=by intro _;rfl)
  (hsw:swapsWith (.ListComp elt [⟨.Name x px,iter,[],0⟩] sc pos) (some (.Name y py)) spos.line X.env=pure true:=by rfl) (hf:X.fn y=true∨X.env.scope.names.lookup y=some .local:=by first | exact .inl rfl | exact .inr rfl | assumption) :
  QS X (.Assign [.Name y py] (.ListComp elt [⟨.Name x px,iter,[],0⟩] sc pos) spos) (Nb wi ks te i):=⟨Kv osc N ks hc ho hN hnd hy hl hi.run (λcl C s₀ H₀ fp pins=>(he cl C s₀ H₀ fp pins).run) ok hs hsw hf⟩
end
end Ov
namespace Ov
open PySem PySem.Spec PyProof.Rows
open L2 (V HO Hp Inv Cx VK TE TA Vals RelV fm bY cW R2 upd EP vals1 intsAre_of Gl)
section
variable {X:Cx}
end
end Ov
namespace Ov
open PySem PySem.Spec PyProof.Rows
open L2 (V HO Hp Inv Cx VK TE TA Vals RelV fm bY cW gK R2 upd bB)
inductive Py where
 | non | bl (b:Bool) | int (i:Int) | str (x:Str) | tup (xs:List Py) | lst (xs:List Py)
mutual
def At (K:PySem.W.Frag) (H:Hp):Py→V→Prop
 | .non,v=>v=.non
 | .bl b,v=>v=.bl b
 | .int i,v=>v=.int i
 | .str x,v=>v=.str x
 | .tup xs,v=>∃a vs,v=.ref a∧gK K H a vs∧sL K H xs vs
 | .lst xs,v=>∃a vs,v=.ref a∧cW K H a vs∧sL K H xs vs
def sL (K:PySem.W.Frag) (H:Hp):List Py→List V→Prop
 | [],vs=>vs=[]
 | x :: xs,vs=>∃v us,vs=v :: us∧At K H x v∧sL K H xs us
end
mutual
def k_:Py→Py→Bool
 | .non,.non=>true
 | .bl a,.bl b=>a == b
 | .int a,.int b=>a == b
 | .bl a,.int b=>(if a then 1 else 0) == b
 | .int a,.bl b=>a == (if b then 1 else 0)
 | .str a,.str b=>a == b
 | .tup xs,.tup ys=>j2 xs ys
 | .lst xs,.lst ys=>j2 xs ys
 | _,_=>false
def j2:List Py→List Py→Bool
 | [],[]=>true
 | x :: xs,y :: ys=>k_ x y && j2 xs ys
 | _,_=>false
end
mutual
def dep:Py→Nat
 | .tup xs=>df xs + 1
 | .lst xs=>df xs + 1
 | _=>0
def df:List Py→Nat
 | []=>0
 | x :: xs=>max (dep x) (df xs)
end
mutual
theorem x8:∀x:Py,k_ x x=true
 | .non=>rfl
 | .bl b=>by simp [k_]
 | .int b=>by simp [k_]
 | .str b=>by simp [k_]
 | .tup xs=>by simpa [k_] using oq xs
 | .lst xs=>by simpa [k_] using oq xs
theorem oq:∀xs:List Py,j2 xs xs=true
 | []=>rfl
 | x :: xs=>by simp [j2,x8 x,oq xs]
end
mutual
theorem At.same {K:PySem.W.Frag} {H H':Hp} (e:bB H H'):∀{x:Py} {v:V},At K H x v→At K H' x v
 | .non,_,h=>h
 | .bl _,_,h=>h
 | .int _,_,h=>h
 | .str _,_,h=>h
 | .tup xs,_,⟨a,vs,e1,h,k⟩=>⟨a,vs,e1,e.tup h,sL.same e k⟩
 | .lst xs,_,⟨a,vs,e1,h,k⟩=>⟨a,vs,e1,e.seq h,sL.same e k⟩
theorem sL.same {K:PySem.W.Frag} {H H':Hp} (e:bB H H'):∀{xs:List Py} {vs:List V},sL K H xs vs→sL K H' xs vs
 | [],_,h=>h
 | _ :: _,_,⟨v,us,e1,h,k⟩=>⟨v,us,e1,At.same e h,sL.same e k⟩
end
theorem sL.length {K:PySem.W.Frag} {H:Hp}:∀{xs:List Py} {vs:List V},sL K H xs vs→xs.length=vs.length
 | [],_,h=>by cases h;rfl
 | _ :: xs,_,⟨v,us,e1,_,k⟩=>by subst e1;simp [sL.length k]
def Dh (xs ys:List Py) (j:Nat):Bool:=match xs[j]?,ys[j]? with
 | some x,some y=>k_ x y
 | _,_=>false
theorem iZ:∀(xs ys:List Py),((UR (min xs.length ys.length)).all (Dh xs ys) && (xs.length == ys.length))=j2 xs ys
 | [],[]=>rfl
 | [],_ :: _=>by simp [j2]
 | _ :: _,[]=>by simp [j2]
 | x :: xs,y :: ys=>by
  have ih:=iZ xs ys
  rw [T8,T8,Nat.succ_min_succ,List.range_succ_eq_map,VW,List.all_map]
  have e1:(Dh (x :: xs) (y :: ys) ∘ Nat.succ)=Dh xs ys:=by
   funext j
   simp [Dh]
  have e2:(xs.length + 1 == ys.length + 1)=(xs.length == ys.length):=by
   rw [UL]
   simp
  rw [e1,e2,Bool.and_assoc,ih]
  simp [Dh,j2]
section
variable {X:Cx} {pins:List (Addr × Obj)} {σ:L2.St} {H:Hp} {s:Shared}
mutual
theorem At.one (I:Inv X pins σ H s):∀{x y:Py} {v:V},At X.K H x v→At X.K H y v→k_ x y=true
 | .non,y,v,h,k=>by cases h;cases y <;> simp_all [At,k_]
 | .bl b,y,v,h,k=>by cases h;cases y <;> simp_all [At,k_]
 | .int b,y,v,h,k=>by cases h;cases y <;> simp_all [At,k_]
 | .str b,y,v,h,k=>by cases h;cases y <;> simp_all [At,k_]
 | .tup xs,y,v,h,k=>by
  obtain ⟨a,vs,rfl,h1,h2⟩:=h
  cases y with
  | tup ys =>
   obtain ⟨b,us,e,k1,k2⟩:=k
   cases e
   cases I.D9 h1 k1
   simpa [k_] using sL.one I h2 k2
  | lst ys =>
   obtain ⟨b,us,e,k1,k2⟩:=k
   cases e
   obtain ⟨_,_,⟨o,e1,c1,_⟩,_⟩:=I.tuple h1
   obtain ⟨_,_,⟨o',n,e2,c2,_⟩,_⟩:=I.list k1
   rw [e1] at e2;cases e2;exact absurd (Value.type.inj (c1.symm.trans c2)) (by decide)
  | _=>cases k
 | .lst xs,y,v,h,k=>by
  obtain ⟨a,vs,rfl,h1,h2⟩:=h
  cases y with
  | lst ys =>
   obtain ⟨b,us,e,k1,k2⟩:=k
   cases e
   cases I.j8 h1 k1
   simpa [k_] using sL.one I h2 k2
  | tup ys =>
   obtain ⟨b,us,e,k1,k2⟩:=k
   cases e
   obtain ⟨_,_,⟨o,e1,c1,_⟩,_⟩:=I.tuple k1
   obtain ⟨_,_,⟨o',n,e2,c2,_⟩,_⟩:=I.list h1
   rw [e1] at e2;cases e2;exact absurd (Value.type.inj (c1.symm.trans c2)) (by decide)
  | _=>cases k
theorem sL.one (I:Inv X pins σ H s):∀{xs ys:List Py} {vs:List V},sL X.K H xs vs→sL X.K H ys vs→j2 xs ys=true
 | [],ys,vs,h,k=>by
  cases h
  cases ys with
  | nil=>rfl
  | cons y ys=>obtain ⟨_,_,e,_⟩:=k;cases e
 | x :: xs,ys,vs,h,k=>by
  obtain ⟨v,us,rfl,h1,h2⟩:=h
  cases ys with
  | nil=>cases k
  | cons y ys =>
   obtain ⟨v',us',e,k1,k2⟩:=k
   cases e
   simp [j2,At.one I h1 k1,sL.one I h2 k2]
end
mutual
theorem QR (I:Inv X pins σ H s):∀(x y:Py) {v v':V} {u u':Value} {A:Around},At X.K H x v→At X.K H y v'→RelV v u→RelV v' u'→A.units + dep x < cLine→SeqAt.EqAt A s u u' (k_ x y)
 | .non,y,v,v',u,u',A,h,k,r,r',hu=>by
  cases h;cases r
  cases y with
  | non=>cases k;cases r';exact SeqAt.EqAt.same _
  | bl b=>cases k;cases r';exact SeqAt.EqAt.none_bool _
  | int b=>cases k;obtain ⟨t,rfl⟩:=r';exact SeqAt.EqAt.none_int _ _
  | str b=>cases k;obtain ⟨t,rfl⟩:=r';exact SeqAt.EqAt.none_str _ _
  | tup ys=>obtain ⟨a,vs,rfl,h1,h2⟩:=k;cases r';obtain ⟨_,_,p,_⟩:=I.tuple h1;exact SeqAt.EqAt.none_tuple p (by simpa [dep] using hu)
  | lst ys=>obtain ⟨a,vs,rfl,h1,h2⟩:=k;cases r';obtain ⟨_,_,p,_⟩:=I.list h1;exact SeqAt.EqAt.none_list p.isList (by simpa [dep] using hu)
 | .bl x,y,v,v',u,u',A,h,k,r,r',hu=>by
  cases h;cases r
  cases y with
  | non=>cases k;cases r';exact SeqAt.EqAt.bool_none _
  | bl b=>cases k;cases r';exact SeqAt.EqAt.bool_bool _ _
  | int b=>cases k;obtain ⟨t,rfl⟩:=r';exact SeqAt.EqAt.bool_int _ _ _
  | str b=>cases k;obtain ⟨t,rfl⟩:=r';exact SeqAt.EqAt.bool_str _ _ _
  | tup ys=>obtain ⟨a,vs,rfl,h1,h2⟩:=k;cases r';obtain ⟨_,_,p,_⟩:=I.tuple h1;exact SeqAt.EqAt.bool_tuple _ p (by simpa [dep] using hu)
  | lst ys=>obtain ⟨a,vs,rfl,h1,h2⟩:=k;cases r';obtain ⟨_,_,p,_⟩:=I.list h1;exact SeqAt.EqAt.bool_list _ p.isList (by simpa [dep] using hu)
 | .int x,y,v,v',u,u',A,h,k,r,r',hu=>by
  cases h;obtain ⟨t0,rfl⟩:=r
  cases y with
  | non=>cases k;cases r';exact SeqAt.EqAt.int_none _ _
  | bl b=>cases k;cases r';exact SeqAt.EqAt.int_bool _ _ _
  | int b=>cases k;obtain ⟨t,rfl⟩:=r';exact SeqAt.EqAt.int_int _ _ _ _
  | str b=>cases k;obtain ⟨t,rfl⟩:=r';exact SeqAt.EqAt.int_str _ _ _ _
  | tup ys=>obtain ⟨a,vs,rfl,h1,h2⟩:=k;cases r';obtain ⟨_,_,p,_⟩:=I.tuple h1;exact SeqAt.EqAt.int_tuple _ _ p (by simpa [dep] using hu)
  | lst ys=>obtain ⟨a,vs,rfl,h1,h2⟩:=k;cases r';obtain ⟨_,_,p,_⟩:=I.list h1;exact SeqAt.EqAt.int_list _ _ p.isList (by simpa [dep] using hu)
 | .str x,y,v,v',u,u',A,h,k,r,r',hu=>by
  cases h;obtain ⟨t0,rfl⟩:=r
  cases y with
  | non=>cases k;cases r';exact SeqAt.EqAt.str_none _ _
  | bl b=>cases k;cases r';exact SeqAt.EqAt.str_bool _ _ _
  | int b=>cases k;obtain ⟨t,rfl⟩:=r';exact SeqAt.EqAt.str_int _ _ _ _
  | str b=>cases k;obtain ⟨t,rfl⟩:=r';exact SeqAt.EqAt.str_str _ _ _ _
  | tup ys=>obtain ⟨a,vs,rfl,h1,h2⟩:=k;cases r';obtain ⟨_,_,p,_⟩:=I.tuple h1;exact SeqAt.EqAt.str_tuple _ _ p (by simpa [dep] using hu)
  | lst ys=>obtain ⟨a,vs,rfl,h1,h2⟩:=k;cases r';obtain ⟨_,_,p,_⟩:=I.list h1;exact SeqAt.EqAt.str_list _ _ p.isList (by simpa [dep] using hu)
 | .tup xs,y,v,v',u,u',A,h,k,r,r',hu=>by
  have h0:=h
  obtain ⟨a,vs,rfl,h1,h2⟩:=h
  cases r
  obtain ⟨is,r1,p1,_⟩:=I.tuple h1
  have hu0:A.units < cLine:=by omega
  have hu1:A.in1.units + df xs < cLine:=by
   have e:dep (.tup xs)=df xs + 1:=by rw [dep]
   rw [e] at hu
   show A.units + 1 + df xs < cLine
   omega
  cases y with
  | non=>cases k;cases r';exact SeqAt.EqAt.tuple_none p1 hu0
  | bl b=>cases k;cases r';exact SeqAt.EqAt.tuple_bool _ p1 hu0
  | int b=>cases k;obtain ⟨t,rfl⟩:=r';exact SeqAt.EqAt.tuple_int _ _ p1 hu0
  | str b=>cases k;obtain ⟨t,rfl⟩:=r';exact SeqAt.EqAt.tuple_str _ _ p1 hu0
  | lst ys=>obtain ⟨b,us,rfl,k1,k2⟩:=k;cases r';obtain ⟨_,_,p,_⟩:=I.list k1;exact SeqAt.EqAt.tuple_list p1 p.isList hu0
  | tup ys =>
   have k0:=k
   obtain ⟨b,us,rfl,k1,k2⟩:=k
   cases r'
   by_cases hab:a=b
   ·subst hab
    rw [At.one I h0 k0]
    exact SeqAt.EqAt.same _
   ·obtain ⟨js,r2,p2,_⟩:=I.tuple k1
    refine SeqAt.EqAt.of_refs hab ?_
    have key:=SeqAt.RcAt.tuples (e:=Dh xs ys) p1 p2 hu0 λj q1 q2=>qO I xs ys h2 k2 r1 r2 hu1 j (by simpa using q1) (by simpa using q2)
    have e1:is.length=xs.length:=by rw [← r1.length,h2.length]
    have e2:js.length=ys.length:=by rw [← r2.length,k2.length]
    simp only [TJ] at key
    rw [e1,e2,iZ] at key
    simpa [k_] using key
 | .lst xs,y,v,v',u,u',A,h,k,r,r',hu=>by
  have h0:=h
  obtain ⟨a,vs,rfl,h1,h2⟩:=h
  cases r
  obtain ⟨is,r1,p1,_⟩:=I.list h1
  have hu0:A.units < cLine:=by omega
  have hu1:A.in1.units + df xs < cLine:=by
   have e:dep (.lst xs)=df xs + 1:=by rw [dep]
   rw [e] at hu
   show A.units + 1 + df xs < cLine
   omega
  cases y with
  | non=>cases k;cases r';exact SeqAt.EqAt.list_none p1.isList hu0
  | bl b=>cases k;cases r';exact SeqAt.EqAt.list_bool _ p1.isList hu0
  | int b=>cases k;obtain ⟨t,rfl⟩:=r';exact SeqAt.EqAt.list_int _ _ p1.isList hu0
  | str b=>cases k;obtain ⟨t,rfl⟩:=r';exact SeqAt.EqAt.list_str _ _ p1.isList hu0
  | tup ys=>obtain ⟨b,us,rfl,k1,k2⟩:=k;cases r';obtain ⟨_,_,p,_⟩:=I.tuple k1;exact SeqAt.EqAt.list_tuple p1.isList p hu0
  | lst ys =>
   have k0:=k
   obtain ⟨b,us,rfl,k1,k2⟩:=k
   cases r'
   by_cases hab:a=b
   ·subst hab
    rw [At.one I h0 k0]
    exact SeqAt.EqAt.same _
   ·obtain ⟨js,r2,p2,_⟩:=I.list k1
    refine SeqAt.EqAt.of_refs hab ?_
    have e1:is.length=xs.length:=by rw [← r1.length,h2.length]
    have e2:js.length=ys.length:=by rw [← r2.length,k2.length]
    have ae:=iZ xs ys
    by_cases hl:xs.length=ys.length
    ·have key:=SeqAt.RcAt.lists (e:=Dh xs ys) p1.isList p2.isList (by simp only [TJ];omega) hu0 λj q1 q2=>qO I xs ys h2 k2 r1 r2 hu1 j (by simpa using q1) (by simpa using q2)
     simp only [TJ] at key
     rw [hl,V2] at ae
     have e3:(ys.length == ys.length)=true:=by simp
     rw [e3,UN] at ae
     rw [e1,hl,ae] at key
     simpa [k_] using key
    ·have key:=SeqAt.RcAt.lists_lengths p1.isList p2.isList (A:=A) (by simp only [TJ];rw [e1,e2];simpa using hl) hu0
     have e3:j2 xs ys=false:=by
      rw [← ae]
      have:(xs.length == ys.length)=false:=by simpa using hl
      rw [this,Vt]
     simpa [k_,e3] using key
theorem qO (I:Inv X pins σ H s):∀(xs ys:List Py) {vs us:List V} {is js:List Value} {A:Around},sL X.K H xs vs→sL X.K H ys us→Vals vs is→Vals us js→A.units + df xs < cLine→∀j (h1:j < is.length) (h2:j < js.length),SeqAt.EqAt A s is[j] js[j] (Dh xs ys j)
 | [],ys,vs,us,is,js,A,h,k,r,r',hu,j,h1,h2=>by
  cases h;cases r;exact absurd h1 (Vl _)
 | x :: xs,[],vs,us,is,js,A,h,k,r,r',hu,j,h1,h2=>by
  cases k;cases r';exact absurd h2 (Vl _)
 | x :: xs,y :: ys,vs,us,is,js,A,h,k,r,r',hu,j,h1,h2=>by
  obtain ⟨v,vs',rfl,a1,a2⟩:=h
  obtain ⟨v',us',rfl,b1,b2⟩:=k
  cases r with
  | cons q1 q2 =>
   cases r' with
   | cons z1 z2 =>
    have e:df (x :: xs)=max (dep x) (df xs):=by rw [df]
    rw [e] at hu
    cases j with
    | zero=>exact QR I x y a1 b1 q1 z1 (by omega)
    | succ j =>
     have:=qO I xs ys a2 b2 q2 z2 (A:=A) (by omega) j (by simpa using h1) (by simpa using h2)
     simpa [Dh] using this
end
theorem R0 (I:Inv X pins σ H s) (x y:Py) {v v':V} {u u':Value} {A:Around} (h:At X.K H x v) (k:At X.K H y v') (r:RelV v u) (r':RelV v' u') (hu:A.units + dep x < cLine):SeqAt.RcAt A s u u' (k_ x y):=by
 have hu0:A.units < cLine:=by omega
 cases x with
 | non =>
  cases h;cases r
  cases y with
  | non=>cases k;cases r';exact SeqAt.RcAt.none_none
  | bl b=>cases k;cases r';exact SeqAt.RcAt.none_bool _
  | int b=>cases k;obtain ⟨t,rfl⟩:=r';exact SeqAt.RcAt.none_int _ _
  | str b=>cases k;obtain ⟨t,rfl⟩:=r';exact SeqAt.RcAt.none_str _ _
  | tup ys=>obtain ⟨b,us,rfl,k1,k2⟩:=k;cases r';obtain ⟨js,r2,p2,_⟩:=I.tuple k1;exact SeqAt.RcAt.none_tuple p2 hu0
  | lst ys=>obtain ⟨b,us,rfl,k1,k2⟩:=k;cases r';obtain ⟨js,r2,p2,_⟩:=I.list k1;exact SeqAt.RcAt.none_list p2.isList hu0
 | bl i =>
  cases h;cases r
  cases y with
  | non=>cases k;cases r';exact SeqAt.RcAt.bool_none _
  | bl b=>cases k;cases r';exact SeqAt.RcAt.bool_bool _ _
  | int b=>cases k;obtain ⟨t,rfl⟩:=r';exact SeqAt.RcAt.bool_int _ _ _
  | str b=>cases k;obtain ⟨t,rfl⟩:=r';exact SeqAt.RcAt.bool_str _ _ _
  | tup ys=>obtain ⟨b,us,rfl,k1,k2⟩:=k;cases r';obtain ⟨js,r2,p2,_⟩:=I.tuple k1;exact SeqAt.RcAt.bool_tuple _ p2 hu0
  | lst ys=>obtain ⟨b,us,rfl,k1,k2⟩:=k;cases r';obtain ⟨js,r2,p2,_⟩:=I.list k1;exact SeqAt.RcAt.bool_list _ p2.isList hu0
 | int i =>
  cases h;obtain ⟨t0,rfl⟩:=r
  cases y with
  | non=>cases k;cases r';exact SeqAt.RcAt.int_none _ _
  | bl b=>cases k;cases r';exact SeqAt.RcAt.int_bool _ _ _
  | int b=>cases k;obtain ⟨t,rfl⟩:=r';exact SeqAt.RcAt.int_int _ _ _ _
  | str b=>cases k;obtain ⟨t,rfl⟩:=r';exact SeqAt.RcAt.int_str _ _ _ _
  | tup ys=>obtain ⟨b,us,rfl,k1,k2⟩:=k;cases r';obtain ⟨js,r2,p2,_⟩:=I.tuple k1;exact SeqAt.RcAt.int_tuple _ _ p2 hu0
  | lst ys=>obtain ⟨b,us,rfl,k1,k2⟩:=k;cases r';obtain ⟨js,r2,p2,_⟩:=I.list k1;exact SeqAt.RcAt.int_list _ _ p2.isList hu0
 | str i =>
  cases h;obtain ⟨t0,rfl⟩:=r
  cases y with
  | non=>cases k;cases r';exact SeqAt.RcAt.str_none _ _
  | bl b=>cases k;cases r';exact SeqAt.RcAt.str_bool _ _ _
  | int b=>cases k;obtain ⟨t,rfl⟩:=r';exact SeqAt.RcAt.str_int _ _ _ _
  | str b=>cases k;obtain ⟨t,rfl⟩:=r';exact SeqAt.RcAt.str_str _ _ _ _
  | tup ys=>obtain ⟨b,us,rfl,k1,k2⟩:=k;cases r';obtain ⟨js,r2,p2,_⟩:=I.tuple k1;exact SeqAt.RcAt.str_tuple _ _ p2 hu0
  | lst ys=>obtain ⟨b,us,rfl,k1,k2⟩:=k;cases r';obtain ⟨js,r2,p2,_⟩:=I.list k1;exact SeqAt.RcAt.str_list _ _ p2.isList hu0
 | tup xs =>
  obtain ⟨a,vs,rfl,h1,h2⟩:=h
  cases r
  obtain ⟨is,r1,p1,_⟩:=I.tuple h1
  have hu1:A.in1.units + df xs < cLine:=by
   have e:dep (.tup xs)=df xs + 1:=by rw [dep]
   rw [e] at hu
   show A.units + 1 + df xs < cLine
   omega
  cases y with
  | non=>cases k;cases r';exact SeqAt.RcAt.tuple_none p1 hu0
  | bl b=>cases k;cases r';exact SeqAt.RcAt.tuple_bool _ p1 hu0
  | int b=>cases k;obtain ⟨t,rfl⟩:=r';exact SeqAt.RcAt.tuple_int _ _ p1 hu0
  | str b=>cases k;obtain ⟨t,rfl⟩:=r';exact SeqAt.RcAt.tuple_str _ _ p1 hu0
  | tup ys =>
   obtain ⟨b,us,rfl,k1,k2⟩:=k;cases r';obtain ⟨js,r2,p2,_⟩:=I.tuple k1
   have e1:is.length=xs.length:=by rw [← r1.length,h2.length]
   have e2:js.length=ys.length:=by rw [← r2.length,k2.length]
   have ae:=iZ xs ys
   have key:=SeqAt.RcAt.tuples (e:=Dh xs ys) p1 p2 hu0 λj q1 q2=>qO I xs ys h2 k2 r1 r2 hu1 j (by simpa using q1) (by simpa using q2)
   simp only [TJ] at key
   rw [e1,e2,ae] at key
   simpa [k_] using key
  | lst ys=>obtain ⟨b,us,rfl,k1,k2⟩:=k;cases r';obtain ⟨js,r2,p2,_⟩:=I.list k1;exact SeqAt.RcAt.tuple_list p1 p2.isList hu0
 | lst xs =>
  obtain ⟨a,vs,rfl,h1,h2⟩:=h
  cases r
  obtain ⟨is,r1,p1,_⟩:=I.list h1
  have hu1:A.in1.units + df xs < cLine:=by
   have e:dep (.lst xs)=df xs + 1:=by rw [dep]
   rw [e] at hu
   show A.units + 1 + df xs < cLine
   omega
  cases y with
  | non=>cases k;cases r';exact SeqAt.RcAt.list_none p1.isList hu0
  | bl b=>cases k;cases r';exact SeqAt.RcAt.list_bool _ p1.isList hu0
  | int b=>cases k;obtain ⟨t,rfl⟩:=r';exact SeqAt.RcAt.list_int _ _ p1.isList hu0
  | str b=>cases k;obtain ⟨t,rfl⟩:=r';exact SeqAt.RcAt.list_str _ _ p1.isList hu0
  | tup ys=>obtain ⟨b,us,rfl,k1,k2⟩:=k;cases r';obtain ⟨js,r2,p2,_⟩:=I.tuple k1;exact SeqAt.RcAt.list_tuple p1.isList p2 hu0
  | lst ys =>
   obtain ⟨b,us,rfl,k1,k2⟩:=k;cases r';obtain ⟨js,r2,p2,_⟩:=I.list k1
   have e1:is.length=xs.length:=by rw [← r1.length,h2.length]
   have e2:js.length=ys.length:=by rw [← r2.length,k2.length]
   have ae:=iZ xs ys
   by_cases hl:xs.length=ys.length
   ·have key:=SeqAt.RcAt.lists (e:=Dh xs ys) p1.isList p2.isList (by simp only [TJ];omega) hu0 λj q1 q2=>qO I xs ys h2 k2 r1 r2 hu1 j (by simpa using q1) (by simpa using q2)
    simp only [TJ] at key
    rw [hl,V2] at ae
    have e3:(ys.length == ys.length)=true:=by simp
    rw [e3,UN] at ae
    rw [e1,hl,ae] at key
    simpa [k_] using key
   ·have key:=SeqAt.RcAt.lists_lengths p1.isList p2.isList (A:=A) (by simp only [TJ];rw [e1,e2];simpa using hl) hu0
    have e3:j2 xs ys=false:=by
     rw [← ae]
     have:(xs.length == ys.length)=false:=by simpa using hl
     rw [this,Vt]
    simpa [k_,e3] using key
theorem PD (I:Inv X pins σ H s) (x y:Py) {v v':V} {u u':Value} {A:Around} (h:At X.K H x v) (k:At X.K H y v') (r:RelV v u) (r':RelV v' u') (hu:A.units + dep x < cLine):SeqAt.RcNeAt A s u u' (!k_ x y):=by
 have hu0:A.units < cLine:=by omega
 cases x with
 | non =>
  cases h;cases r
  cases y with
  | non=>cases k;cases r';exact SeqAt.RcNeAt.none_none
  | bl b=>cases k;cases r';exact SeqAt.RcNeAt.none_bool _
  | int b=>cases k;obtain ⟨t,rfl⟩:=r';exact SeqAt.RcNeAt.none_int _ _
  | str b=>cases k;obtain ⟨t,rfl⟩:=r';exact SeqAt.RcNeAt.none_str _ _
  | tup ys=>obtain ⟨b,us,rfl,k1,k2⟩:=k;cases r';obtain ⟨js,r2,p2,_⟩:=I.tuple k1;exact SeqAt.RcNeAt.none_tuple p2 hu0
  | lst ys=>obtain ⟨b,us,rfl,k1,k2⟩:=k;cases r';obtain ⟨js,r2,p2,_⟩:=I.list k1;exact SeqAt.RcNeAt.none_list p2.isList hu0
 | bl i =>
  cases h;cases r
  cases y with
  | non=>cases k;cases r';exact SeqAt.RcNeAt.bool_none _
  | bl b=>cases k;cases r';exact SeqAt.RcNeAt.bool_bool _ _
  | int b=>cases k;obtain ⟨t,rfl⟩:=r';exact SeqAt.RcNeAt.bool_int _ _ _
  | str b=>cases k;obtain ⟨t,rfl⟩:=r';exact SeqAt.RcNeAt.bool_str _ _ _
  | tup ys=>obtain ⟨b,us,rfl,k1,k2⟩:=k;cases r';obtain ⟨js,r2,p2,_⟩:=I.tuple k1;exact SeqAt.RcNeAt.bool_tuple _ p2 hu0
  | lst ys=>obtain ⟨b,us,rfl,k1,k2⟩:=k;cases r';obtain ⟨js,r2,p2,_⟩:=I.list k1;exact SeqAt.RcNeAt.bool_list _ p2.isList hu0
 | int i =>
  cases h;obtain ⟨t0,rfl⟩:=r
  cases y with
  | non=>cases k;cases r';exact SeqAt.RcNeAt.int_none _ _
  | bl b=>cases k;cases r';exact SeqAt.RcNeAt.int_bool _ _ _
  | int b=>cases k;obtain ⟨t,rfl⟩:=r';exact SeqAt.RcNeAt.int_int _ _ _ _
  | str b=>cases k;obtain ⟨t,rfl⟩:=r';exact SeqAt.RcNeAt.int_str _ _ _ _
  | tup ys=>obtain ⟨b,us,rfl,k1,k2⟩:=k;cases r';obtain ⟨js,r2,p2,_⟩:=I.tuple k1;exact SeqAt.RcNeAt.int_tuple _ _ p2 hu0
  | lst ys=>obtain ⟨b,us,rfl,k1,k2⟩:=k;cases r';obtain ⟨js,r2,p2,_⟩:=I.list k1;exact SeqAt.RcNeAt.int_list _ _ p2.isList hu0
 | str i =>
  cases h;obtain ⟨t0,rfl⟩:=r
  cases y with
  | non=>cases k;cases r';exact SeqAt.RcNeAt.str_none _ _
  | bl b=>cases k;cases r';exact SeqAt.RcNeAt.str_bool _ _ _
  | int b=>cases k;obtain ⟨t,rfl⟩:=r';exact SeqAt.RcNeAt.str_int _ _ _ _
  | str b=>cases k;obtain ⟨t,rfl⟩:=r';exact SeqAt.RcNeAt.str_str _ _ _ _
  | tup ys=>obtain ⟨b,us,rfl,k1,k2⟩:=k;cases r';obtain ⟨js,r2,p2,_⟩:=I.tuple k1;exact SeqAt.RcNeAt.str_tuple _ _ p2 hu0
  | lst ys=>obtain ⟨b,us,rfl,k1,k2⟩:=k;cases r';obtain ⟨js,r2,p2,_⟩:=I.list k1;exact SeqAt.RcNeAt.str_list _ _ p2.isList hu0
 | tup xs =>
  obtain ⟨a,vs,rfl,h1,h2⟩:=h
  cases r
  obtain ⟨is,r1,p1,_⟩:=I.tuple h1
  have hu1:A.in1.units + df xs < cLine:=by
   have e:dep (.tup xs)=df xs + 1:=by rw [dep]
   rw [e] at hu
   show A.units + 1 + df xs < cLine
   omega
  cases y with
  | non=>cases k;cases r';exact SeqAt.RcNeAt.tuple_none p1 hu0
  | bl b=>cases k;cases r';exact SeqAt.RcNeAt.tuple_bool _ p1 hu0
  | int b=>cases k;obtain ⟨t,rfl⟩:=r';exact SeqAt.RcNeAt.tuple_int _ _ p1 hu0
  | str b=>cases k;obtain ⟨t,rfl⟩:=r';exact SeqAt.RcNeAt.tuple_str _ _ p1 hu0
  | tup ys =>
   obtain ⟨b,us,rfl,k1,k2⟩:=k;cases r';obtain ⟨js,r2,p2,_⟩:=I.tuple k1
   have e1:is.length=xs.length:=by rw [← r1.length,h2.length]
   have e2:js.length=ys.length:=by rw [← r2.length,k2.length]
   have ae:=iZ xs ys
   have key:=SeqAt.RcNeAt.tuples (e:=Dh xs ys) p1 p2 hu0 λj q1 q2=>qO I xs ys h2 k2 r1 r2 hu1 j (by simpa using q1) (by simpa using q2)
   simp only [TJ] at key
   rw [e1,e2,ae] at key
   simpa [k_] using key
  | lst ys=>obtain ⟨b,us,rfl,k1,k2⟩:=k;cases r';obtain ⟨js,r2,p2,_⟩:=I.list k1;exact SeqAt.RcNeAt.tuple_list p1 p2.isList hu0
 | lst xs =>
  obtain ⟨a,vs,rfl,h1,h2⟩:=h
  cases r
  obtain ⟨is,r1,p1,_⟩:=I.list h1
  have hu1:A.in1.units + df xs < cLine:=by
   have e:dep (.lst xs)=df xs + 1:=by rw [dep]
   rw [e] at hu
   show A.units + 1 + df xs < cLine
   omega
  cases y with
  | non=>cases k;cases r';exact SeqAt.RcNeAt.list_none p1.isList hu0
  | bl b=>cases k;cases r';exact SeqAt.RcNeAt.list_bool _ p1.isList hu0
  | int b=>cases k;obtain ⟨t,rfl⟩:=r';exact SeqAt.RcNeAt.list_int _ _ p1.isList hu0
  | str b=>cases k;obtain ⟨t,rfl⟩:=r';exact SeqAt.RcNeAt.list_str _ _ p1.isList hu0
  | tup ys=>obtain ⟨b,us,rfl,k1,k2⟩:=k;cases r';obtain ⟨js,r2,p2,_⟩:=I.tuple k1;exact SeqAt.RcNeAt.list_tuple p1.isList p2 hu0
  | lst ys =>
   obtain ⟨b,us,rfl,k1,k2⟩:=k;cases r';obtain ⟨js,r2,p2,_⟩:=I.list k1
   have e1:is.length=xs.length:=by rw [← r1.length,h2.length]
   have e2:js.length=ys.length:=by rw [← r2.length,k2.length]
   have ae:=iZ xs ys
   by_cases hl:xs.length=ys.length
   ·have key:=SeqAt.RcNeAt.lists (e:=Dh xs ys) p1.isList p2.isList (by simp only [TJ];omega) hu0 λj q1 q2=>qO I xs ys h2 k2 r1 r2 hu1 j (by simpa using q1) (by simpa using q2)
    simp only [TJ] at key
    rw [hl,V2] at ae
    have e3:(ys.length == ys.length)=true:=by simp
    rw [e3,UN] at ae
    rw [e1,hl,ae] at key
    simpa [k_] using key
   ·have key:=SeqAt.RcNeAt.lists_lengths p1.isList p2.isList (A:=A) (by simp only [TJ];rw [e1,e2];simpa using hl) hu0
    have e3:j2 xs ys=false:=by
     rw [← ae]
     have:(xs.length == ys.length)=false:=by simpa using hl
     rw [this,Vt]
    simpa [k_,e3] using key
def rP (K:PySem.W.Frag) (f:Bool→Bool):R2:=λv v' H Q=>∃x y:Py,At K H x v∧At K H y v'∧dep x≤60∧Q (.bl (f (k_ x y))) H
theorem Mw (hu:X.A.units + 61 < cLine):fm X (compareOp .Eq) (rP X.K id):=by
 intro pins s σ H x y v u Q I rx ry h
 obtain ⟨a,b,h1,h2,d,q⟩:=h
 exact R0 I a b h1 h2 rx ry (by omega) X.prog X.w X.xe _ ⟨.bl _,H,I,rfl,q⟩
theorem Mz (hu:X.A.units + 61 < cLine):fm X (compareOp .NotEq) (rP X.K not):=by
 intro pins s σ H x y v u Q I rx ry h
 obtain ⟨a,b,h1,h2,d,q⟩:=h
 exact PD I a b h1 h2 rx ry (by omega) X.prog X.w X.xe _ ⟨.bl _,H,I,rfl,q⟩
end
end Ov
namespace Ov
open PySem PySem.Spec PySem.Calls PyProof.Rows PySem.W Builtin.Getset_descriptor
section
variable {prog:Program} {w:World} {A:Around} {E:Value→Shared→Prop} {s:Shared} {K:Frag} {x D:Addr}
structure HG (K:Frag) (D:Addr):Prop where
 cls:(clsIn K D).isSome=true
 ga:findIn K (.ref D) "__getattribute__"=some (some (.builtin "BaseException.__getattribute__"))
 gt:findIn K (.ref D) "__getattr__"=some none
 ca:findIn K (.ref D) "__class__"=some (some (.builtin "object.__class__"))
 get:specialIn K (.builtin "object.__class__") "__get__"=some (some (.builtin "getset_descriptor.__get__"))
 tk:takesIn K (.builtin "object.__class__")=some true
 obj:mroIn K D (.type "object")=some true
 bex:subIn K (.ref D) (.type "BaseException")=some true
theorem HG.at {h:Heap} (Z:HG K D) (X:K.In h):∃c d cd sl,h.get? D=some ⟨c,d,.cls cd,sl⟩:=by
 obtain ⟨cd,q⟩:=Vw.mp Z.cls
 unfold clsIn at q
 split at q
 ·exact ⟨_,_,_,_,X _ _ (by assumption)⟩
 ·cases q
end
end Ov
namespace Ov
open PySem PySem.Spec PyProof.Rows L2
structure Bo (P:Program) (w:World) (outer:List Env) (H:Hp) (s:Shared) (ea:Addr) (cls:Value) (H':Hp) (s':Shared):Prop where
 os:s'.os=s.os
 bare:AllBare s'.gens
 un:Un (jQ outer) [] H H' s.heap s'.heap
 hok:mJ P w H' s'.heap
 fl:∃B t,Heap.FlyingW B outer ea cls (.ref t) s'.heap∧∀b o,s'.heap.get? b=some o→(H' b≠none∨∃o₀,s.heap.get? b=some o₀)→b ∉ jQ outer→B.get? b=some o
def cV (P:Program) (w:World):sF:=λouter H s E e s'=>∃ea cls H',e=.ref ea∧Bo P w outer H s ea cls H' s'∧E cls none H'
theorem IC {P:Program} {w:World} {H:Hp} {h:Heap} {a:Addr} {o:HO} (x:c_ P w H h a o):∃ob,h.get? a=Us ob:=by
 have lt:=x.lt
 cases o with
 | lst xs=>obtain ⟨_,_,_,_,e⟩:=x;exact ⟨_,e⟩
 | tup xs=>obtain ⟨_,_,_,ob,e,_⟩:=x;exact ⟨_,e⟩
 | dK kvs=>obtain ⟨_,_,_,_,o,_,_,e,_⟩:=x;exact ⟨_,e⟩
 | dE kvs ep=>obtain ⟨_,_,_,_,o,_,e,_⟩:=x;exact ⟨_,e⟩
 | set S n=>obtain ⟨o,_,_,_,e,_⟩:=x;exact ⟨_,e⟩
 | ins C dx fs=>obtain ⟨_,_,_,e,_⟩:=x;exact ⟨_,e⟩
 | own y=>exact x
 | xd fs=>obtain ⟨_,⟨_,_,_,e,_⟩,_⟩:=x;exact ⟨_,e⟩
 | NI lo hi=>obtain ⟨_,_,_,e⟩:=x;exact ⟨_,e⟩
 | qQ ob u=>obtain ⟨e,_⟩:=x;exact ⟨_,e⟩
 | tbl ps=>exact ⟨_,x⟩
 | met f y=>exact ⟨_,x⟩
 | ext φ=>obtain ⟨_,e,_⟩:=x;exact e
section
variable {X:Cx} {pins:List (Addr × Obj)} {σ:L2.St} {H H':Hp} {s:Shared} {ea t:Addr} {cls:Value} {B h1 h2:Heap}
theorem j3 (I:Inv X pins σ H s) (un:Un (jQ X.stack) [] H H' s.heap h1) {b:Addr} (hb:b∈jQ X.stack):H' b=none∧∃o,h1.get? b=some o∧∀vs,o.data≠.fields vs:=by
 obtain ⟨_,o,ho,hn⟩:=I.stack.mem hb
 have n:=I.xq b hb
 obtain ⟨sl,e⟩:=un.any ho n (by simp)
 exact ⟨un.free b o ho n (by simp),_,e,hn⟩
theorem BP (I:Inv X pins σ H s) (un:Un (jQ X.stack) [] H H' s.heap h1) (cov:∀b o,h1.get? b=some o→(H' b≠none∨∃o₀,s.heap.get? b=some o₀)→b ∉ jQ X.stack→B.get? b=some o)
  (hB:B.StaysIn h2) (up:h1.UpToSlots h2):Un (jQ X.stack) [] H H' s.heap h2 where
 keep:=λb o e n hb hx=>hB b o (cov b o (un.keep b o e n hb hx) (.inr ⟨o,e⟩) hb)
 slot:=λb o e n hb hx=>by
  obtain ⟨sl,e1⟩:=un.slot b o e n hb hx
  obtain ⟨_,o',e2,hn⟩:=j3 I un hb
  rw [e1] at e2;cases e2
  obtain ⟨sl',e3⟩:=up b _ e1 hn
  exact ⟨sl',e3⟩
 free:=un.free
 there:=λb o e hx=>by
  obtain ⟨o',e1⟩:=un.there b o e hx
  by_cases hb:b∈jQ X.stack
  ·obtain ⟨_,o2,e2,hn⟩:=j3 I un hb
   obtain ⟨sl',e3⟩:=up b _ e2 hn
   exact ⟨_,e3⟩
  ·exact ⟨o',hB b o' (cov b o' e1 (.inr ⟨o,e⟩) hb)⟩
 tups:=un.tups
 frzs:=un.frzs
 tbls:=un.tbls
theorem BO (I:Inv X pins σ H s) (un:Un (jQ X.stack) [] H H' s.heap h1) (cov:∀b o,h1.get? b=some o→(H' b≠none∨∃o₀,s.heap.get? b=some o₀)→b ∉ jQ X.stack→B.get? b=some o)
  (hB:B.StaysIn h2) (ok:mJ X.prog X.w H' h1):mJ X.prog X.w H' h2:=λa o e=>by
 have nf:∀b u,H' b=some u→b ∉ jQ X.stack:=λb u q hb=>by
  have:=(j3 I un hb).1
  rw [q] at this;cases this
 refine (ok a o e).sv (λb u hb q=>?_) (λ_ q=>q) λ_ _ q=>q
 rcases hb with rfl | hb
 ·exact hB _ _ (cov _ _ q (.inl (by rw [e];exact λz=>nomatch z)) (nf _ _ e))
 ·exact hB _ _ (cov _ _ q (.inl (by rw [hb];exact λz=>nomatch z)) (nf _ _ hb))
theorem EM (un:Un (jQ X.stack) [] H H' s.heap h1) (ok:mJ X.prog X.w H' h1) (cov:∀b o,h1.get? b=some o→(H' b≠none∨∃o₀,s.heap.get? b=some o₀)→b ∉ jQ X.stack→B.get? b=some o) (hB:B.StaysIn h2) :
  ∀b o,h2.get? b=some o→(H' b≠none∨∃o₀,s.heap.get? b=some o₀)→b ∉ jQ X.stack→B.get? b=some o:=λb o e hb nb=>by
 have:∃o1,h1.get? b=some o1:=by
  rcases hb with z | ⟨o₀,z⟩
  ·cases q:H' b with
   | none=>exact absurd q z
   | some u=>exact IC (ok b u q)
  ·exact un.there b o₀ z (by simp)
 obtain ⟨o1,e1⟩:=this
 have c:=cov b o1 e1 hb nb
 have:=hB b o1 c
 rw [e] at this;cases this
 exact c
theorem BI {s2:Shared} (I:Inv X pins σ H s) (hst:X.stack=X.env :: X.outer) (hfr:X.env.frame=some X.env.locals) (hex:X.ex=[]) (os:s2.os=s.os) (bare:AllBare s2.gens) (un:Un (jQ X.stack) [] H H' s.heap s2.heap)
  (ok:mJ X.prog X.w H' s2.heap) (cov:∀b o,s2.heap.get? b=some o→(H' b≠none∨∃o₀,s.heap.get? b=some o₀)→b ∉ jQ X.stack→B.get? b=some o) (fl:Heap.FlyingW B X.outer ea cls (.ref t) s2.heap) :
  Bo X.prog X.w X.outer X.H₀ X.s₀ ea cls H' s2:=by
 have nst:∀b o,X.s₀.heap.get? b=some o→b ∉ X.fs→b ∉ jQ X.stack:=λb o e nb hb=>by
  rcases TX.mp (I.o7 b hb) with z | z
  ·have:=T3 (Heap.lt_size e) I.ok.above
   rw [z] at this
   exact UD _ this
  ·exact nb z
 have sub:∀b,b∈X.fs→b∈jQ X.stack:=λb hb=>by rw [hst];unfold jQ;rw [U0,hfr];exact T9 _ hb
 have nx:∀b:Addr,b ∉ X.ex:=λb=>by rw [hex];simp
 refine ⟨os.trans I.os,bare,⟨λb o e n hb _=>?_,λb o e n hb _=>?_,λb o e n _=>?_,λb o e _=>?_,λb xs q=>un.tups b xs (I.base.tups b xs q),λb o xs q=>un.frzs b o xs (I.base.frzs b o xs q),λb ps q=>?_⟩,ok,B,t,fl,λb o e hb nb=>?_⟩
 ·exact un.keep b o (I.base.keep b o e n hb (nx b)) (I.base.free b o e n (nx b)) (nst b o e hb) (by simp)
 ·obtain ⟨sl,e1⟩:=I.base.slot b o e n hb (nx b)
  obtain ⟨sl',e2⟩:=un.slot b _ e1 (I.base.free b o e n (nx b)) (sub b hb) (by simp)
  exact ⟨sl',e2⟩
 ·obtain ⟨o',e1⟩:=I.base.there b o e (nx b)
  exact un.free b o' e1 (I.base.free b o e n (nx b)) (by simp)
 ·obtain ⟨o',e1⟩:=I.base.there b o e (nx b)
  exact un.there b o' e1 (by simp)
 ·obtain ⟨m1,e1⟩:=I.base.tbls b ps q
  obtain ⟨m2,e2⟩:=un.tbls b _ e1
  exact ⟨m1 ++ m2,by rw [e2,Array.append_assoc]⟩
 ·rcases hb with z | ⟨o₀,z⟩
  ·exact cov b o e (.inl z) λhb=>z (j3 I un hb).1
  ·obtain ⟨o1,e1⟩:=I.base.there b o₀ z (nx b)
   exact cov b o e (.inr ⟨o1,e1⟩) (nst b o₀ z nb)
theorem Dv {E:XK} {e:Value} {s':Shared} {R:Value→Shared→Prop} (I:Inv X pins σ H s) (hst:X.stack=X.env :: X.outer) (hfr:X.env.frame=some X.env.locals) (hex:X.ex=[]) (h:cV X.prog X.w X.stack H s E e s') :
  wpAny (model X.prog X.w) X.A (leaving X.env e) (λ_ s''=>cV X.prog X.w X.outer X.H₀ X.s₀ E e s'') R s':=by
 obtain ⟨ea,cls,H',rfl,F,q⟩:=h
 obtain ⟨B,t,fl,cov⟩:=F.fl
 refine wpAny_leaves_onW (by rw [I.ok.frames,hst]) hfr (hst ▸ fl) λh2 fl2 up=>?_
 exact ⟨ea,cls,H',rfl,BI (s2:={ s' with heap:=h2 }) I hst hfr hex F.os F.bare (BP I F.un cov fl2.1 up) (BO I F.un cov fl2.1 F.hok) (EM F.un F.hok cov fl2.1) fl2,q⟩
theorem leave_new {E:XK} {e C:Addr} {args:List Value} {h':Heap} {R:Value→Shared→Prop} (I:Inv X pins σ H s) (hst:X.stack=X.env :: X.outer) (hfr:X.env.frame=some X.env.locals) (hex:X.ex=[])
  (hx:Heap.MadeExcOf s.heap h' e (.ref C) args) (q:E (.ref C) none H) :
  wpAny (model X.prog X.w) X.A (leaving X.env (.ref e)) (λ_ s''=>cV X.prog X.w X.outer X.H₀ X.s₀ E (.ref e) s'') R { s with heap:=h' }:=by
 have hin:∀env∈X.env :: X.outer,∀a,env.frame=some a→a∈jQ X.stack:=λenv he a ha=>by rw [hst];exact Vq.mpr ⟨env,he,ha⟩
 have cov:∀b o,s.heap.get? b=some o→(H b≠none∨∃o₀,s.heap.get? b=some o₀)→b ∉ jQ X.stack→(PySem.W.hideAll s.heap (jQ X.stack)).get? b=some o:=λb o e _ nb=>PySem.W.hideAll_get _ e nb
 refine wpAny_leaves_madeW (base:=PySem.W.hideAll s.heap (jQ X.stack)) (by rw [I.ok.frames,hst]) hfr (λb o z=>PySem.W.of_hideAll _ z) (PySem.W.funFrames_hide (hst ▸ I.stack) hin) hx λh2 t fl _ _ up=>?_
 have up2:s.heap.UpToSlots h2:=(Heap.UpToSlots.of_keeps hx.keeps).trans up
 exact ⟨e,.ref C,H,rfl,BI (s2:={ s with heap:=h2 }) I hst hfr hex rfl I.bare (BP I Un.refl cov fl.1 up2) (BO I Un.refl cov fl.1 I.hok) (EM Un.refl I.hok cov fl.1) fl,q⟩
end
abbrev QM:List Value:=[.type "ValueError",.type "Exception",.type "BaseException",.type "object"]
structure Own (K:PySem.W.Frag) (mg:Str→Option Value) (x:Str) (C:Addr):Prop where
 mg:mg x=some (.ref C)
 own:PySem.W.excIn K C QM "ValueError.__new__"=true
 xc:HG K C
theorem IQ {K:PySem.W.Frag} {h:Heap} {C:Addr} {bmB:List Value} {newId:String} (X:K.In h) (q:PySem.W.excIn K C bmB newId=true) :
  ∃bm N nm qn bs hd sn sub ab col dd k0 k1 k2 k3 k5 mN,h.get? C=some (excClassObj nm qn C N bs bm hd sn sub ab col dd k0 k1 k2 k3 k5 newId)∧h.Ns N mN∧mN "__init__"=none∧OwnTail h bmB bm:=by
 unfold PySem.W.excIn at q
 split at q
 ·next dd cd sl ho =>
  split at q
  ·next C' bm k0 k1 k2 k3 n k5 hm hs =>
   simp only [beq_iff_eq,Ud,VZ] at q
   obtain ⟨⟨⟨⟨⟨rfl,rfl⟩,e3⟩,e4⟩,e5⟩,e6⟩:=q
   cases cd with
   | mk nm bs mro ns qn hd sn sub ab col del =>
    have hm:mro=.ref C' :: bm:=hm
    have e3:del=false:=e3
    subst hm;subst e3
    have hsl:sl=#[k0,k1,k2,k3,some (.builtin n),k5]:=Array.toList_inj.mp hs
    subst hsl
    exact ⟨bm,ns,nm,qn,bs,hd,sn,sub,ab,col,dd,k0,k1,k2,k3,k5,_,X _ _ ho,.of_isNs (PySem.W.isNs_of_in X e5),PySem.W.nsMap_none_of_in X e5 e6,PySem.W.tail_of_in X e4⟩
  ·cases q
 ·cases q
def Nc (C:Addr) (E:XK) (t:TA):TS:=λ_ σ H=>t σ H λvs H1=>vs.length≤sizeLine∧E (.ref C) none H1
def Throws (X:Cx) (E:XK):Prop:=∀(pins:List (Addr × Obj)) (σ:L2.St) (H:Hp) (s:Shared) (e C:Addr) (args:List Value) (h':Heap),Inv X pins σ H s→Heap.MadeExcOf s.heap h' e (.ref C) args→E (.ref C) none H→X.xe (.ref e) { s with heap:=h' }
theorem DY {X:Cx} {E:XK} {x:Str} {C:Addr} {e:Expr} {es:List Expr} {np cpos pos:Pos} {t:TA} (O:Own X.K X.mg x C) (hc:X.calm=true) (hx:Throws X E) (hg:Gl X x) (ha:PA X (e :: es) t)
  (hd:(x == ("__debug__":Str))=false:=by decide) (he:starEach (e :: es) X.env=(false,eval e X.env) :: starEach es X.env:=by rfl) (hpl:(backTo cpos (starEach es X.env)).any (·.1)=false:=by rfl) :
  PS X (.Raise (some (.Call (.Name x np) (e :: es) [] cpos)) none pos) (Nc C E t):=by
 intro pins s σ H D I h
 obtain ⟨bm,N,nm,qn,bs,hd',sn,sub,ab,col,dd,k0,k1,k2,k3,k5,mN,hC,hN,hni,T⟩:=IQ I.mod.kin O.own
 have hplain:(backTo cpos (starEach (e :: es) X.env)).any (·.1)=false:=by
  rw [he]
  show (false || (backTo cpos (starEach es X.env)).any (·.1))=false
  rw [hpl];rfl
 refine wpAny_Raise_call_subT (C:=C) (N:=N) (nm:=nm) (q:=qn) (bs:=bs) (hdct:=hd') (sn:=sn) (sub:=sub) (ab:=ab) (col:=col) (dd:=dd) (k0:=k0) (k1:=k1) (k2:=k2) (k3:=k3) (k5:=k5) PySem.F.excBase_ValueError (T.hasType (by decide +kernel)) (I.ok.hd hc) hplain hni ?_
 refine m8 I hg O.mg ⟨rfl,?_⟩ hd
 have key:=cq (ha cpos pins s σ H _ I h) (Q':=λus s1=>us.length≤sizeLine∧s1.heap.get? C=some (excClassObj nm qn C N bs bm hd' sn sub ab col dd k0 k1 k2 k3 k5 "ValueError.__new__")∧s1.heap.Ns N mN∧OwnTail s1.heap QM bm ∧
  ∀h' e,Heap.MadeExcOf s1.heap h' e (.ref C) us→X.xe (.ref e) { s1 with heap:=h' }) λus s1 ⟨vs,H1,I1,r,z,q⟩ =>
   ⟨by rw [← r.length];exact z,I1.bk _ _ hC,hN.keeps I1.bk,T.keeps I1.bk,λh' ea hm=>hx pins σ H1 s1 ea C us h' I1 hm q⟩
 rw [he] at key ⊢
 exact PySem.Calls.evalArgs_plain (cq key λ_ _ z=>⟨rfl,z⟩)
section
variable {P:Program} {w:World} {K:PySem.W.Frag} {mg:Str→Option Value} {base:Heap} {N:List Str} {qual:Str} {scope:Scope} {f:Addr} {cd:Value} {A:Around} {outer:List Env} {s:Shared} {H:Hp} {E:XK}
abbrev zx (P:Program) (w:World) (K:PySem.W.Frag) (mg:Str→Option Value) (base:Heap) (N:List Str) (qual:Str) (scope:Scope) (f:Addr) (cd:Value) (A:Around) (outer:List Env) (s:Shared) (H:Hp) (E:XK):Cx:=vD (cV P w) P w K mg base N qual scope f cd A outer s H E
theorem cH:Throws (zx P w K mg base N qual scope f cd A outer s H E) E:=λpins σ H1 s1 e C args h' I hm q =>
 leave_new (X:=zx P w K mg base N qual scope f cd A outer s H E) I rfl rfl rfl hm q
theorem zZ:Passes (cV P w) (zx P w K mg base N qual scope f cd A outer s H E) E:=λpins σ H1 s1 e s' I h =>
 Dv (X:=zx P w K mg base N qual scope f cd A outer s H E) I rfl rfl rfl h
theorem cy:PassesOwn (model P w) (zx P w K mg base N qual scope f cd A outer s H E).A (zx P w K mg base N qual scope f cd A outer s H E).env (zx P w K mg base N qual scope f cd A outer s H E).xe:=PassesOwn.leaving
theorem Ts {x qual:Str} {st:Stmt} {f:Addr} {fd:FuncData} {N ps:List Str} {k:Nat} {sp:Sp} (F:bZ K x qual st f fd) (S:aw N ps (aj st)) (len:∀vs H Q E,sp vs H Q E→vs.length=ps.length)
  (hbody:∀(cdv:Value) (A:Around) (outer:List Env) (s:Shared) (H:Hp) (vs:List V) (Q:VK) (E:XK),bK k (A.deeper (envOfC qual (aj st) s.heap.objs.size f cdv))→sp vs H Q E →
   ∃t,QB (zx P w K mg base N qual (aj st) f cdv A outer s H E) (bQ st) t∧t { nx:=λ_ H'=>Q .non H',rt:=Q } (start N vs) H):aL P w K mg base (cV P w) (k + 1) f fd ps sp:=by
 obtain ⟨oc,od,kV,doc,pm,an,cdv,ct,osl,rfl,lk,hcd⟩:=F.ex
 refine E1 lk hcd S len λA outer s H vs Q E hr hsp=>?_
 obtain ⟨t,h,q⟩:=hbody cdv A outer s H vs Q E hr hsp
 exact ⟨t,h.run,q⟩
end
def Em (P:Program) (w:World) (K:PySem.W.Frag) (mg:Str→Option Value) (base:Heap) (k:Nat) (x:Str) (ps:List Str) (sp:Sp):Prop :=
 ∃f fd,aL P w K mg base (cV P w) k f fd ps sp∧Binds K fd ps []∧PySem.W.keepIn K (.ref f)=true∧mg x=some (.ref f)
theorem IT {X:Cx} {k k':Nat} {x:Str} {ps:List Str} {sp:Sp} {p pos:Pos} {e:Expr} {es:List Expr} {t:TA} {E:XK} (C:Em X.prog X.w X.K X.mg X.base k x ps sp) (hx:Passes (cV X.prog X.w) X E) (hr:bK k' X.A) (hk:k≤k') (hg:Gl X x) (ha:PA X (e :: es) t)
  (hdb:(x == ("__debug__":Str))=false:=by decide) (he:starEach (e :: es) X.env=(false,eval e X.env) :: starEach es X.env:=by rfl) (hpl:(backTo pos (starEach es X.env)).any (·.1)=false:=by rfl) :
  PE X (.Call (.Name x p) (e :: es) [] pos) (sy sp [] E t):=by
 obtain ⟨f,fd,F,b,kp,m⟩:=C
 exact B6 F (hr.mono hk) hg m kp b .nil hx ha hdb he hpl
theorem Def.QP {P:Program} {w:World} {K:PySem.W.Frag} {mg:Str→Option Value} {base:Heap} {x:Str} {st:Stmt} {k:Nat} {ps:List Str} {sp:Sp} (D:Def K mg x st)
  (h:∀f fd,bZ K x x st f fd→aL P w K mg base (cV P w) k f fd ps sp)
  (hb:∀(kV doc pm:Value) (an:Option Addr) (cdv ct:Value) (us:List Value),us.length=ps.length→bindArgs (PySem.W.fnOf x x (c6 st) (bQ st) (aj st) .none kV doc pm an cdv ct) ⟨us,[]⟩=pure (ps.zip us)) :
  Em P w K mg base k x ps sp:=by
 obtain ⟨f,fd,F,m⟩:=D
 exact ⟨f,fd,h f fd F,F.binds hb,F.kp,m⟩
section
variable {X:Cx} {pins pn:List (Addr × Obj)} {σ:L2.St} {H H':Hp} {s:Shared}
theorem Bo.new {ea:Addr} {cls:Value} {s':Shared} (I:Inv X pins σ H s) (F:Bo X.prog X.w X.stack H s ea cls H' s'):H' ea=none∧s.heap.get? ea=none:=by
 obtain ⟨B,t,fl,cov⟩:=F.fl
 obtain ⟨oe,vs,he,_,hd,_⟩:=fl.first
 have nf:ea ∉ jQ X.stack:=λhb=>by
  obtain ⟨_,o,ho,hn⟩:=j3 I F.un hb
  rw [he] at ho;cases ho
  exact hn vs hd
 have no:¬ (H' ea≠none∨∃o₀,s.heap.get? ea=some o₀):=λz=>by
  have:=cov ea oe he z nf
  rw [fl.2.1] at this;cases this
 refine ⟨?_,?_⟩
 ·cases q:H' ea with
  | none=>rfl
  | some u=>exact absurd (.inl (by rw [q];exact λz=>nomatch z)) no
 ·cases q:s.heap.get? ea with
  | none=>rfl
  | some u=>exact absurd (.inr ⟨u,q⟩) no
end
end Ov
namespace Ov
open PySem PySem.Spec PyProof.Rows
open L2 (V HO Hp Inv Cx St VK TE TT TA TS Ends Loc Gl RelV Vals fm bY sy upd E0 bK XK Passes)
section
variable {X:Cx} {e:Expr} {es:List Expr} {t:TA} {x:Str} {np cpos pos p:Pos}
end
open PySem.W in
def Hb (K:Frag) (D:Addr):Bool:=(clsIn K D).isSome && findIn K (.ref D) "__getattribute__" == some (some (.builtin "BaseException.__getattribute__")) && findIn K (.ref D) "__getattr__" == some none &&
 findIn K (.ref D) "__class__" == some (some (.builtin "object.__class__")) && specialIn K (.builtin "object.__class__") "__get__" == some (some (.builtin "getset_descriptor.__get__")) && takesIn K (.builtin "object.__class__") == some true &&
 mroIn K D (.type "object") == some true && subIn K (.ref D) (.type "BaseException") == some true
theorem JQ {K:PySem.W.Frag} {D:Addr} (h:Hb K D=true):HG K D:=by
 simp only [Hb,Ud,beq_iff_eq] at h
 obtain ⟨⟨⟨⟨⟨⟨⟨a,b⟩,c⟩,d⟩,e⟩,f⟩,g⟩,i⟩:=h
 exact ⟨a,b,c,d,e,f,g,i⟩
open L2 (Ba G3 zo Bc D8 tC K3 qR)
theorem _root_.L2.bK.aU {k:Nat} {A:Around} (r:bK k A):A.units + 61 < cLine:=by have:=r.un;omega
end Ov
namespace Ov
open PySem PySem.Spec PyProof.Rows L2
def eh (P:Addr) (h:Heap):Prop:=∃ps:Array Value,h.get? P=some { cls:=.none,data:=.fields ps }∧TriplesOk ps.toList
def uo (K:PySem.W.Frag) (c P:Addr):Prop:=c≠P∧∃(o:Obj) (vs:Array Value) (file:Str) (tf:Tok) (flags:Int) (tg:Tok) (inF:Bool) (text:Int) (tt:Tok),
 K.lookup c=some o∧o.cls=.type "code"∧o.data=.fields vs∧vs[11]?=some (.ref P)∧vs.getD 18 .none=.str file tf∧vs.getD 7 .none=.int flags tg∧vs.getD 9 .none=.bool inF∧vs.getD 10 .none=.int text tt
def BMain (mg:Str→Option Value) (h:Heap):Prop:=∃bm ob,mg "__builtins__"=some (.ref bm)∧bm≠builtinsNs∧h.get? bm=some ob∧ob.cls=.type "module"∧ob.dict=some builtinsNs∧ob.data=.plain
theorem uo.at {K:PySem.W.Frag} {h:Heap} {c P:Addr} {ps:Array Value} (Z:uo K c P) (X:K.In h) (hp:h.get? P=some { cls:=.none,data:=.fields ps }) (tr:TriplesOk ps.toList):h.IsCode c P ps∧h.TableAt c P ps:=by
 obtain ⟨ne,o,vs,file,tf,flags,tg,inF,text,tt,lk,hc,hd,h11,h18,h7,h9,h10⟩:=Z
 have e11:vs.getD 11 .none=.ref P:=by
  rw [Array.getD_eq_getD_getElem?,h11];rfl
 exact ⟨⟨o,vs,file,tf,flags,tg,inF,text,tt,_,X _ _ lk,hd,e11,h18,h7,h9,h10,hp,rfl,tr,ne⟩,⟨o,vs,X _ _ lk,hc,hd,h11⟩,hp⟩
section
variable {X:Cx} {pins:List (Addr × Obj)} {σ:L2.St} {H:Hp} {s:Shared} {c P:Addr}
theorem Ic {s':Shared} (I:Inv X pins σ H s) (hP:H P=some (.ext (eh P))) (os:s'.os=s.os) (bare:AllBare s'.gens) (k:∀b o,b≠P→s.heap.get? b=some o→s'.heap.get? b=some o) (t:eh P s'.heap):Inv X pins σ H s':=by
 have nP:∀b,H b=none→b≠P:=λb n z=>by rw [z,hP] at n;cases n
 have hok:mJ X.prog X.w H s'.heap:=λb u e=>by
  by_cases hb:b=P
  ·subst hb
   rw [hP] at e;cases e
   obtain ⟨ps,hp,_⟩:=id t
   exact ⟨t,⟨_,hp⟩,((I.hok b _ hP)).2.2⟩
  ·refine (I.hok b u e).sv (λd v hd q=>k d v ?_ q) (λ_ q=>q) λ_ _ q=>q
   rcases hd with rfl | hd
   ·exact hb
   ·intro z
    rw [z,hP] at hd;cases hd
 have un:Un (jQ X.stack) [] H H s.heap s'.heap:=⟨λb o e n _ _=>k b o (nP b n) e,λb o e n _ _=>⟨o.slots,k b o (nP b n) e⟩,λ_ _ _ n _=>n,λb o e _=>by
  by_cases hb:b=P
  ·subst hb
   obtain ⟨ps,hp,_⟩:=t
   exact ⟨_,hp⟩
  ·exact ⟨o,k b o hb e⟩,λ_ _ q=>q,λ_ _ _ q=>q,λ_ ps q=>⟨#[],by rw [q];simp⟩⟩
 exact I.N0 os un hok bare λb z=>absurd z (by simp)
theorem E8 {M:Model} {A:Around} {E:Value→Shared→Prop} {env:Env} {pos:Pos} {q:Str} {sc:Scope} {Q:Value→Shared→Prop} {s:Shared} (hc:env.code=.ref c) (Z:uo X.K c P) (kin:X.K.In s.heap) (t:eh P s.heap)
  (h:∀code h' tk,(∀b o,b≠P→s.heap.get? b=some o→h'.get? b=some o)→s.heap.objs.size≤h'.objs.size→eh P h'→Q code { s with heap:=h',toks:=tk }):wpAny M A (genexprCode env pos q sc) Q E s:=by
 obtain ⟨ps,hp,tr⟩:=t
 obtain ⟨ic,ta⟩:=Z.at kin hp tr
 cases hf:codeAmong pos ps.toList with
 | some c'=>exact wpAny_genexprCode_hit hc ic hf (h c' s.heap s.toks (λ_ _ _ e=>e) (TF _) ⟨ps,hp,tr⟩)
 | none =>
  refine wpAny_genexprCodeX hc ic ta hf λc' h' tk ext l1 l2 ic' _ ta' _=>h _ h' tk (λb o nb e=>ext b o nb e) (Vp (Uv l1 l2)) ⟨_,ta'.2,?_⟩
  obtain ⟨_,_,_,_,_,_,_,_,_,_,_,_,_,_,_,_,_,hop,hpd,tr',_⟩:=ic'
  exact tr'
theorem EG {α:Type} (B:List α) (q:α→Bool):((UR B.length).all λj=>(B[j]?).elim true q)=B.all q:=by
 rw [UL,Vi,Vi]
 refine ⟨λh b hb=>?_,λh j hj=>?_⟩
 ·obtain ⟨j,hj,rfl⟩:=Uj hb
  have:=h j (Ve.mpr hj)
  rwa [Tz hj] at this
 ·have hj:=Ve.mp hj
  rw [Tz hj]
  exact h _ (Uk hj)
def d6 (tx:Str) (ch:Nat):Bool:=!(Builtin.Str.occurrences tx ⟨#[ch]⟩ 0 tx.length 1).isEmpty
def GZ (P:Addr) (tx:Str) (ti:TE):TE:=λσ H Q=>ti σ H λv H1=>∃y:Str,v=.str y∧H1 P=some (.ext (eh P))∧Q (.bl (y.cps.toList.all (d6 tx))) H1
theorem Gs {prog:Program} {w:World} {env:Env} {scope:Scope} {x g:Str} {tx y:Str} {tt:Tok} {C:Addr} {code:Value} {fp wr:List Addr} {href:Heap} {D U:Nat} {p1 p2 p3:Pos} {mg:Str→Option Value} (sck:scope.kind=.function) (hx:scope.names.lookup x=some .local) (hg:scope.names.lookup g=some .globalImplicit)
  (ns:href.Ns env.globals mg) (hm:mg g=some (.str tx tt)) (h1:env.globals∈fp) (h2:env.globals ∉ wr) (hmk:behindInMarks .In (.Name g p2)=false) (hdx:(x == ("__debug__":Str))=false) (hdg:(g == ("__debug__":Str))=false) :
  QuietGenD prog w (genEnv scope [] C code builtinsNs env) x [] (.Compare (.Name x p1) [.In] [.Name g p2] p3) fp wr (SignAt y) (λ_=>true) (λi v=>∃ch,y.cps[i]?=some ch∧v=.bool (d6 tx ch)) href D U where
 tests:=λA' E' i v s₂ m₂ _ _ _ _ _ _ _=>wpAny_pure ⟨rfl,_,_,rfl,λ_ _ e=>e⟩
 elt:=λA' E' i v s₂ m₂ _ _ _ hP _ hn hmx hk=>by
  obtain ⟨ch,u,hch,rfl⟩:=hP
  refine wpAny_Compare1 (wpAny_Name (wpAny_loadName_local (show (genEnv scope [] C code builtinsNs env).scope.kind=.function from sck) (show (genEnv scope [] C code builtinsNs env).kindOf x=some .local from hx) hn hmx ?_) hdx) hmk
  refine Calls.Name_function_global (show (genEnv scope [] C code builtinsNs env).scope.kind=.function from sck) (show (genEnv scope [] C code builtinsNs env).kindOf g=some .globalImplicit from hg) (Calls.loadGlobal_global (ns.at' λo e=>hk _ h1 h2 o e) hm ?_) hdg
  exact in_str ⟨⟨ch,hch,rfl⟩,_,_,rfl,λ_ _ e=>e⟩
theorem DU {x g:Str} {p px p1 p2 p3 gpos cpos:Pos} {iter:Expr} {ti:TE} {scope:Scope} {tx:Str} {tt:Tok} (hcalm:X.calm=true) (Bm:BMain X.mg X.base) (hcode:X.env.code=.ref c) (Z:uo X.K c P) (hdep:X.A.depth < recursionLimit)
  (hgl:Gl X "all") (hma:X.mg "all"=none) (hsg:X.mg g=some (.str tx tt)) (hi:PE X iter ti) (sck:scope.kind=.function) (hco:scope.isCoroutine=false) (hclos:closureFor scope X.env=pure []) (hcell:∀y∈scope.names,y.2≠.cell)
  (h0:scope.names.lookup (".0":Str)=some NameKind.local) (hx:scope.names.lookup x=some .local) (hsc:scope.names.lookup g=some .globalImplicit) (hmk:behindInMarks .In (.Name g p2)=false) (hs:∀x,genFold iter X.env x=pure x)
  (hst:starEach [.GeneratorExp (.Compare (.Name x p1) [.In] [.Name g p2] p3) [⟨.Name x px,iter,[],0⟩] scope gpos] X.env=[(false,eval (.GeneratorExp (.Compare (.Name x p1) [.In] [.Name g p2] p3) [⟨.Name x px,iter,[],0⟩] scope gpos) X.env)])
  (hdx:(x == ("__debug__":Str))=false) (hdg:(g == ("__debug__":Str))=false) :
  PE X (.Call (.Name "all" p) [.GeneratorExp (.Compare (.Name x p1) [.In] [.Name g p2] p3) [⟨.Name x px,iter,[],0⟩] scope gpos] [] cpos) (GZ P tx ti):=by
 intro pins s σ H Q I h
 refine wpAny_Call_Name_kw (mf I hgl hma PyProof.Rows.Boot.«all» ?_)
 refine PyProof.Rows.callWith_builtin1 ?_ hst rfl
 rw [hst]
 show wpAny _ _ (spliced ((false,eval (.GeneratorExp (.Compare (.Name x p1) [.In] [.Name g p2] p3) [⟨.Name x px,iter,[],0⟩] scope gpos) X.env) :: [])) _ _ s
 refine Calls.spliced_cons ?_
 refine wpAny_GeneratorExp_walksQD (I.ok.hd hcalm) hco hclos hcell h0 hx sck hdep ?_ hs
 refine cq (hi pins s σ H _ I h) λxv s1 ⟨v,H1,I1,r1,y,ev,hP,q⟩=>?_
 subst ev
 obtain ⟨ty,rfl⟩:=r1
 have t1:eh P s1.heap:=(I1.hok P _ hP).1
 have ltP:P < s1.heap.objs.size:=I1.hok.lt hP
 refine wpAny_pyIter_str λo St W st0=>?_
 have k1:∀b ob,s1.heap.get? b=some ob→(s1.heap.push o).get? b=some ob:=λb ob e=>Heap.get?_push_of_some _ e
 refine ⟨I1.nolimit.keeps k1,?_⟩
 have t2:eh P (s1.heap.push o):=let ⟨ps,hp,tr⟩:=t1;⟨ps,k1 _ _ hp,tr⟩
 refine E8 (X:=X) (s:={ s1 with heap:=s1.heap.push o }) hcode Z (I1.m7.keeps k1) t2 λcode h' tk k sz t'=>?_
 have kk:∀b ob,b≠P→s1.heap.get? b=some ob→h'.get? b=some ob:=λb ob nb e=>k b ob nb (k1 b ob e)
 have nsP:∀(b:Addr) (m:Str→Option Value),s1.heap.Ns b m→b≠P:=λb m hn z=>by
  obtain ⟨ob,es,ep,ho,hd,_⟩:=hn
  obtain ⟨ps,hp,_⟩:=t1
  rw [z,hp] at ho;cases ho;cases hd
 have nsK:∀(b:Addr) (m:Str→Option Value),s1.heap.Ns b m→h'.Ns b m:=λb m hn=>hn.at' λob e=>kk b ob (nsP b m hn) e
 have nsG:s1.heap.Ns X.env.globals X.mg:=by rw [I1.ok.glob];exact I1.mod.glob.keeps I1.bk
 have nl:h'.NoLimit:=let ⟨mc,h1,h2⟩:=I1.nolimit;⟨mc,nsK _ _ h1,h2⟩
 have ltC:cStatics < s1.heap.objs.size:=let ⟨mc,h1,_⟩:=I1.nolimit;h1.lt
 have szI:s1.heap.objs.size < h'.objs.size:=T3 (by rw [Heap.size_push];exact UZ _) sz
 obtain ⟨bm,ob,b1,b2,b3,b4,b5,b6⟩:=Bm
 have b3':=I1.bk _ _ b3
 have nbm:bm≠P:=λz=>by
  obtain ⟨ps,hp,_⟩:=t1
  rw [z,hp] at b3'
  rw [← Option.some.inj b3'] at b6;cases b6
 refine wpAny_builtinsFor (nsK _ _ nsG) b1 b2 (kk _ _ nbm b3') b4 b5 b6 ?_
 refine ⟨s1.heap.objs.size,[s1.heap.objs.size],[s1.heap.objs.size],y.cps.size,SignAt y,St,λ_=>true,λi v=>∃ch,y.cps[i]?=some ch∧v=.bool (d6 tx ch),rfl,W,
  (W X.A (I.ok.hd hcalm)).frame _ _ _ st0 λb hb o' e=>k b o' (by rw [TR.mp hb];exact VI ltP) e,λb hb=>by rw [TR.mp hb];exact szI,nl,
  λhb=>T6 ltC (TR.mp hb),λhref kh=>Gs sck hx hsc ((nsK _ _ nsG).keeps kh) hsg (Ve.mpr (nsK _ _ nsG).lt) (λhb=>T6 nsG.lt (TR.mp hb)) hmk hdx hdg,λa h5 tk5 gs hgs ltA szA k5 WS G=>?_⟩
 refine Calls.spliced_nil ?_
 have pall:passing (λ_=>true) y.cps.size 0=UR y.cps.size:=by simp [passing]
 have WS:=WS.in4_1
 refine call_all_walkS (WS.self 0 _ _ _ G ⟨a,_,_,_,_,_,_,(λj=>(y.cps.toList[j]?).elim true (d6 tx)),rfl,WS,G,λj v s Q E hv hQ=>?_,λs' hm=>?_⟩)
 ·obtain ⟨i,hi,ch,hch,rfl⟩:=hv
  rw [pall] at hi
  have hji:i=j:=by
   obtain ⟨hj,e⟩:=TC.mp hi
   simpa using e.symm
  subst hji
  have e:y.cps.toList[i]?=some ch:=by simpa using hch
  simp only [e,Option.elim] at hQ
  exact wpAny_truthy_bool hQ
 ·have nwr:∀b,b < s1.heap.objs.size→b ∉ h'.objs.size :: [s1.heap.objs.size]:=λb hb hm=>by
   rcases TX.mp hm with z | z
   ·omega
   ·have:=TR.mp z
    omega
  refine ⟨.bl _,H1,Ic I1 hP hm.os ((I1.bare.push hgs).movedS hm) (λb o' nb e=>hm.heap b o' (nwr b (Heap.lt_size e)) (k5 b o' (kk b o' nb e))) ?_,rfl,?_⟩
  ·obtain ⟨ps,hp,tr⟩:=t'
   exact ⟨ps,hm.heap P _ (nwr P ltP) (k5 P _ hp),tr⟩
  ·rw [pall]
   have e:y.cps.size=y.cps.toList.length:=by simp
   have z:=EG y.cps.toList (d6 tx)
   rw [Vx,e,z]
   exact q
end
section
variable {X:Cx} {c P:Addr}
theorem F' {x g:Str} {p px p1 p2 p3 gpos cpos:Pos} {iter:Expr} {ti:TE} {scope:Scope} {tx:Str} {tt:Tok} {k:Nat} (hcalm:X.calm=true) (Bm:BMain X.mg X.base) (hcode:X.env.code=.ref c) (Z:uo X.K c P) (hr:bK k X.A)
  (hgl:Gl X "all") (hma:X.mg "all"=none) (hsg:X.mg g=some (.str tx tt)) (hi:QE X iter ti) (sck:scope.kind=.function:=by rfl) (hco:scope.isCoroutine=false:=by rfl) (hclos:closureFor scope X.env=pure []:=by rfl) (hcell:∀y∈scope.names,y.2≠.cell:=by decide)
  (h0:scope.names.lookup (".0":Str)=some NameKind.local:=by rfl) (hx:scope.names.lookup x=some .local:=by rfl) (hsc:scope.names.lookup g=some .globalImplicit:=by rfl) (hmk:behindInMarks .In (.Name g p2)=false:=by with_unfolding_all rfl) (hs:∀x,genFold iter X.env x=pure x:=by intro _;rfl)
  (hst:starEach [.GeneratorExp (.Compare (.Name x p1) [.In] [.Name g p2] p3) [⟨.Name x px,iter,[],0⟩] scope gpos] X.env=[(false,eval (.GeneratorExp (.Compare (.Name x p1) [.In] [.Name g p2] p3) [⟨.Name x px,iter,[],0⟩] scope gpos) X.env)]:=by rfl)
  (hdx:(x == ("__debug__":Str))=false:=by decide) (hdg:(g == ("__debug__":Str))=false:=by decide) :
  QE X (.Call (.Name "all" p) [.GeneratorExp (.Compare (.Name x p1) [.In] [.Name g p2] p3) [⟨.Name x px,iter,[],0⟩] scope gpos] [] cpos) (GZ P tx ti) :=
 ⟨DU hcalm Bm hcode Z (by have:=hr.dp;omega) hgl hma hsg hi.run sck hco hclos hcell h0 hx hsc hmk hs hst hdx hdg⟩
end
structure Hv (K:PySem.W.Frag) (mg:Str→Option Value) (x:Str) (st:Stmt) (P:Addr) (f:Addr) (fd:FuncData) (c:Addr):Prop where
 fn:bZ K x x st f fd
 mg:mg x=some (.ref f)
 code:fd.code=.ref c
 tab:uo K c P
 out:K.lookup P=none
def zK (K:PySem.W.Frag) (mg:Str→Option Value) (x:Str) (st:Stmt) (P:Addr):Prop:=∃f fd c,Hv K mg x st P f fd c
section
variable {P:Program} {w:World} {K:PySem.W.Frag} {mg:Str→Option Value} {base:Heap}
theorem Tq {x:Str} {st:Stmt} {T f c:Addr} {fd:FuncData} {N ps:List Str} {k:Nat} {sp:Sp} (F:Hv K mg x st T f fd c) (S:aw N ps (aj st)) (len:∀vs H Q E,sp vs H Q E→vs.length=ps.length)
  (hbody:∀(A:Around) (outer:List Env) (s:Shared) (H:Hp) (vs:List V) (Q:VK) (E:XK),bK k (A.deeper (envOfC x (aj st) s.heap.objs.size f (.ref c)))→sp vs H Q E →
   ∃t,QB (vD qw P w K mg base N x (aj st) f (.ref c) A outer s H E).Mh (bQ st) t∧t { nx:=λ_ H'=>Q .non H',rt:=Q } (start N vs) H):aL P w K mg base qw (k + 1) f fd ps sp:=by
 obtain ⟨oc,od,kV,doc,pm,an,cdv,ct,osl,rfl,lk,hcd⟩:=F.fn.ex
 obtain rfl:cdv=.ref c:=F.code
 refine E1 lk hcd S len λA outer s H vs Q E hr hsp=>?_
 obtain ⟨t,h,q⟩:=hbody A outer s H vs Q E hr hsp
 exact ⟨t,h.run.Mh,q⟩
theorem zK.EL {x:Str} {st:Stmt} {T:Addr} {k:Nat} {ps:List Str} {sp:Sp} (D:zK K mg x st T)
  (h:∀f fd c,Hv K mg x st T f fd c→aL P w K mg base qw k f fd ps sp)
  (hb:∀(kV doc pm:Value) (an:Option Addr) (cdv ct:Value) (us:List Value),us.length=ps.length→bindArgs (PySem.W.fnOf x x (c6 st) (bQ st) (aj st) .none kV doc pm an cdv ct) ⟨us,[]⟩=pure (ps.zip us)) :
  sG P w K mg base k x ps sp:=by
 obtain ⟨f,fd,c,F⟩:=D
 exact ⟨f,fd,h f fd c F,F.fn.binds hb,F.fn.kp,F.mg⟩
end
def codeB (vs:Array Value):Bool:=(match vs.getD 18 .none with | .str _ _=>true | _=>false) && (match vs.getD 7 .none with | .int _ _=>true | _=>false) && (match vs.getD 9 .none with | .bool _=>true | _=>false) && (match vs.getD 10 .none with | .int _ _=>true | _=>false)
theorem HL {K:PySem.W.Frag} {h:Heap} {mg:Str→Option Value} {x:Str} {st:Stmt} (X:K.In h) (G:h.Ns mainGlobals mg) {f c T:Addr} {od an od':Option Addr} {sl sl':Array (Option Value)} {vs:Array Value} {oc kV dc pm ct:Value}
  (a:PySem.W.nsIn K mainGlobals x=some (some (.ref f))) (l:K.lookup f=some ⟨oc,od,.func (PySem.W.fnOf x x (c6 st) (bQ st) (aj st) .none kV dc pm an (.ref c) ct),sl⟩) (cc:PySem.W.codeIn K (.ref c) x=true) (k:PySem.W.keepIn K (.ref f)=true)
  (t:K.lookup c=some ⟨.type "code",od',.fields vs,sl'⟩) (p:vs[11]?=some (.ref T)) (b:codeB vs=true) (ne:c≠T) (out:K.lookup T=none):zK K mg x st T:=by
 refine ⟨f,_,c,Ac l cc k,PySem.W.mg_of X G a,rfl,⟨ne,?_⟩,out⟩
 simp only [codeB,Ud] at b
 obtain ⟨⟨⟨b1,b2⟩,b3⟩,b4⟩:=b
 cases e1:vs.getD 18 .none with
 | str file tf =>
  cases e2:vs.getD 7 .none with
  | int fl tg =>
   cases e3:vs.getD 9 .none with
   | bool inF =>
    cases e4:vs.getD 10 .none with
    | int text tt=>exact ⟨_,vs,file,tf,fl,tg,inF,text,tt,t,rfl,rfl,p,e1,e2,e3,e4⟩
    | _=>rw [e4] at b4;cases b4
   | _=>rw [e3] at b3;cases b3
  | _=>rw [e2] at b2;cases b2
 | _=>rw [e1] at b1;cases b1
def NQ (K:PySem.W.Frag) (mg:Str→Option Value) (names:List Str) (T:Addr):Prop:=∃x∈names,∃st,zK K mg x st T
theorem Dt {P:Program} {w:World} {K:PySem.W.Frag} {mg mb:Str→Option Value} {k:Nat} {fa a:Addr} {fd:FuncData} {x:Str} {sp:Sp} {s₁:Shared} {vs:List Value} {ns:List Int} {tabs:List Addr}
  (KX:K.In s₁.heap) (hns:s₁.heap.Ns mainGlobals mg) (hb:s₁.heap.Ns builtinsNs mb) (hbb:∀x:Str,x≠"__name__"→mb x=bootBuiltins x) (hlim:s₁.heap.NoLimit) (hg:s₁.gens=#[])
  (ha:s₁.heap.get? a=some { cls:=.type "list",data:=.seq vs.toArray }) (hi:IntsAre vs ns) (hl:ns.length≤sizeLine) (hr:bK k callerA) (hbm:BMain mg s₁.heap)
  (htab:∀T∈tabs,isCodeTable s₁.heap T∧s₁.heap.get? T=some { cls:=.none,data:=.fields #[] }∧K.lookup T=none)
  (F:∀base:Heap,K.In base→base.Ns mainGlobals mg→BMain mg base→aL P w K mg base qw k fa fd [x] sp) (hbind:∀(s:Shared) (u:Value),BindsTo s fd ⟨[u],[]⟩ [(x,u)])
  (hsp:∀H:Hp,(∀T∈tabs,H T=some (.ext (eh T)))→cW K H a (ns.map V.int)→(∀b,H b≠none→b=a∨b∈tabs)→(∀u,H a=some u→∃o xs,u=.qQ o (.lst xs))→sp [.ref a] H (λv H'=>v=.bl true∧bB H H') λ_ _ _=>False) :
  codeAny (model P w) callerA (.call (.ref fa) ⟨[.ref a],[]⟩) (λr s'=>r=.ok (.ret (.bool true))∧OldK s₁.heap s'.heap∧s'.os=s₁.os∧AllBare s'.gens) s₁:=by
 have rv:=vb hi
 have lenV:=hi.length
 have naT:∀T∈tabs,T≠a:=λT hT z=>by
  have:=(htab T hT).2.1
  rw [z,ha] at this
  have h1:=congrArg Obj.cls (Option.some.inj this)
  cases h1
 have core:∀H:Hp,(∀T∈tabs,H T=some (.ext (eh T)))→cW K H a (ns.map V.int)→mJ P w H s₁.heap→(∀b,H b≠none→b=a∨b∈tabs)→(∀u,H a=some u→K.lookup a=none∧∃o xs,u=.qQ o (.lst xs)) →
   codeAny (model P w) callerA (.call (.ref fa) ⟨[.ref a],[]⟩) (λr s'=>r=.ok (.ret (.bool true))∧OldK s₁.heap s'.heap∧s'.os=s₁.os∧AllBare s'.gens) s₁:=by
  intro H hT hS hok hA hK
  have base_of:∀{b:Addr} {o:Obj},s₁.heap.get? b=some o→H b=none→(tK s₁.heap H).get? b=some o:=λe n=>Fc e n
  have no:∀{b:Addr} {o:Obj},s₁.heap.get? b=some o→(∀xs n,o.data≠.seq xs n)→(∀xs,o.data≠.fields xs)→H b=none:=λ{b o} e d1 d2=>by
   cases q:H b with
   | none=>rfl
   | some u =>
    rcases hA b (by rw [q];simp) with rfl | hb
    ·rw [ha] at e;cases e;exact absurd rfl (d1 _ _)
    ·rw [(htab b hb).2.1] at e;cases e;exact absurd rfl (d2 _)
  have nsK:∀{b:Addr} {m:Str→Option Value},s₁.heap.Ns b m→(tK s₁.heap H).Ns b m:=λ{b m} ⟨o,es,ep,e,d,r⟩=>⟨o,es,ep,base_of e (no e (λ_ _ z=>by rw [d] at z;cases z) λ_ z=>by rw [d] at z;cases z),d,r⟩
  have hKb:K.In (tK s₁.heap H):=λb o e=>base_of (KX b o e) (by
   cases q:H b with
   | none=>rfl
   | some u =>
    rcases hA b (by rw [q];simp) with rfl | hb
    ·have:=(hK u q).1
     exact absurd (this.symm.trans e) (λz=>nomatch z)
    ·have:=(htab b hb).2.2
     exact absurd (this.symm.trans e) (λz=>nomatch z))
  have hM:Mod K mg (tK s₁.heap H):=⟨hKb,nsK hns,⟨mb,nsK hb,hbb⟩,let ⟨mc,h1,h2⟩:=hlim;⟨mc,nsK h1,h2⟩⟩
  have hbm':BMain mg (tK s₁.heap H):=by
   obtain ⟨bm,ob,b1,b2,b3,b4,b5,b6⟩:=hbm
   exact ⟨bm,ob,b1,b2,base_of b3 (no b3 (λ_ _ z=>by rw [b6] at z;cases z) λ_ z=>by rw [b6] at z;cases z),b4,b5,b6⟩
  have e0:zL P w K mg (tK s₁.heap H) callerA [] s₁ H:=⟨rfl,hM,λb o e=>ID e,Nat.le_of_eq (Dl _ _),trivial,λb hb=>absurd (show b∈([]:List Addr) from hb) (by simp),hok,.of_eq hg⟩
  refine codeAny_mono ((F _ hKb (nsK hns) hbm').run callerA [] s₁ H ⟨[.ref a],[]⟩ [.ref a] [.ref a] _ _ hr e0 (hbind s₁ (.ref a)) (.cons rfl .nil) (hsp H hT hS hA λu z=>(hK u z).2)) λr s' h=>?_
  cases r with
  | error e=>exact False.elim h
  | ok fl =>
   cases fl with
   | next=>exact False.elim h
   | brk=>exact False.elim h
   | cont=>exact False.elim h
   | ret u =>
    obtain ⟨v,H',os,bare,un,hok',r',rfl,same⟩:=h
    obtain rfl:u=Value.bool true:=r'
    refine ⟨rfl,⟨λb o e=>?_,λb o e=>?_⟩,os,bare⟩
    ·cases q:H b with
     | none=>exact .inl (un.keep b o e q (by intro z;exact absurd (show b∈([]:List Addr) from z) (by simp)) (by simp))
     | some u =>
      have q':=same b u q
      rcases hA b (by rw [q];simp) with rfl | hb'
      ·obtain ⟨_,ob,xs,rfl⟩:=hK u q
       obtain ⟨e1,_⟩:=hok _ _ q
       obtain ⟨e2,_⟩:=hok' _ _ q'
       rw [e] at e1;cases e1
       exact .inl e2
      ·have hz:=hT b hb'
       rw [q] at hz;cases hz
       obtain ⟨⟨ps,hp,_⟩,_⟩:=hok' _ _ q'
       obtain ⟨t1,t2,_⟩:=htab b hb'
       rw [t2] at e;cases e
       exact .inr (.inl ⟨t1,rfl,#[],ps,rfl,by rw [hp];simp⟩)
    ·exact un.there b o e (by simp)
 have hTt:∀T∈tabs,∀H:Hp,c_ P w H s₁.heap T (.ext (eh T)):=λT hT H=>by
  have:=(htab T hT).2.1
  exact ⟨⟨#[],this,trivial⟩,⟨_,this⟩,λh1 h2 ⟨ps,hp,tr⟩ kk=>⟨ps,kk _ hp,tr⟩⟩
 cases hk:K.lookup a with
 | some o =>
  have e:=KX a o hk
  rw [ha] at e
  cases e
  refine core (λb=>if b∈tabs then some (.ext (eh b)) else none) (λT hT=>if_pos hT) (.inr ⟨_,vs.toArray,_,hk,rfl,rfl,rfl,by rw [TJ,lenV];exact hl,by simpa using rv⟩) (λb u z=>?_) (λb z=>?_) λu z=>?_
  ·by_cases hb:b∈tabs
   ·have z':=(if_pos hb).symm.trans z
    cases z'
    exact hTt b hb _
   ·have z':=(if_neg hb).symm.trans z
    cases z'
  ·by_cases hb:b∈tabs
   ·exact .inr hb
   ·exact absurd (if_neg hb) z
  ·have hb:a ∉ tabs:=λhb=>naT a hb rfl
   have z':=(if_neg hb).symm.trans z
   cases z'
 | none =>
  refine core (λb=>if b=a then some (.qQ { cls:=.type "list",data:=.seq vs.toArray } (.lst (ns.map V.int))) else if b∈tabs then some (.ext (eh b)) else none) (λT hT=>?_) (.inl (.inr ⟨{ cls:=.type "list",data:=.seq vs.toArray },if_pos rfl⟩)) (λb u z=>?_) (λb z=>?_) λu z=>?_
  ·show (if T=a then _ else _)=_
   rw [if_neg (naT T hT),if_pos hT]
  ·by_cases hb:b=a
   ·have z':=(if_pos hb).symm.trans z
    cases z'
    subst hb
    exact ⟨ha,by rw [Tx];exact hl,vs,_,rv,ha⟩
   ·have z:=(if_neg hb).symm.trans z
    by_cases hb:b∈tabs
    ·have z':=(if_pos hb).symm.trans z
     cases z'
     exact hTt b hb _
    ·have z':=(if_neg hb).symm.trans z
     cases z'
  ·by_cases hb:b=a
   ·exact .inl hb
   ·by_cases hb':b∈tabs
    ·exact .inr hb'
    ·exact absurd ((if_neg hb).trans (if_neg hb')) z
  ·have z':=(if_pos rfl).symm.trans z
   cases z'
   exact ⟨hk,_,_,rfl⟩
theorem Nd {p:Program} {loose:List Str} {mean:ExcName→Option Value} {mg mb:Str→Option Value} {h:Heap} {K:PySem.W.Frag} {x:Str} {st:Stmt} {T:Addr} (Tp:Top p loose mean mg mb h) (KX:K.In h) (hx:∃d∈recsOf p,d.name=x) (D:zK K mg x st T) :
  isCodeTable h T∧h.get? T=some { cls:=.none,data:=.fields #[] }∧K.lookup T=none:=by
 obtain ⟨f,fd,c,F⟩:=D
 obtain ⟨d,hd,rfl⟩:=hx
 obtain ⟨a',o',fd',c',P',h1,h2,h3,h4,h5,h6⟩:=Tp.tab d hd
 rw [F.mg] at h1;cases h1
 obtain ⟨oc,od,kV,doc,pm,an,cdv,ct,osl,rfl,lk,_⟩:=F.fn.ex
 have:=KX _ _ lk
 rw [h2] at this;cases this
 have e3:fd'=_:=(Data.func.inj h3).symm
 subst e3
 have e4:=F.code.symm.trans h4
 cases e4
 obtain ⟨_,oo,vs,_,_,_,_,_,_,_,lk',_,hd',h11,_⟩:=F.tab
 obtain ⟨⟨o2,vs2,g1,g2,g3,g4⟩,g5⟩:=id h6
 rw [KX _ _ lk'] at g1;cases g1
 rw [hd'] at g3;cases g3
 rw [h11] at g4;cases g4
 exact ⟨h6.isCodeTable,g5,F.out⟩
theorem Ha {l:PySem.W.OpenLaw} {n k:Nat} {q:Program} {loose:List Str} {XP:(Str→Option Value)→Heap→Prop} {YP:World→Heap→Prop} {d:DefRec} {K:Params→PySem.W.Frag} {sp:List Addr→PySem.W.Frag→Sp} {x:Str} (names:List Str)
  (hn:l.most=some n) (hn2:n≤sizeLine) (hdf:d.params.defaults=[]) (hr:bK k callerA) (hY:∀(w:World) (h:Heap),YP w h→(K w.params).In h) (hnm:∀x∈names,∃d∈recsOf q,d.name=x)
  (F:∀(w:World) (mg:Str→Option Value) (fa:Addr) (h:Heap),(K w.params).In h→h.Ns mainGlobals mg→mg d.name=some (.ref fa) →
   ∃(fd:FuncData) (tabs:List Addr),(∀(s:Shared) (u:Value),BindsTo s fd ⟨[u],[]⟩ [(x,u)])∧(∀T∈tabs,NQ (K w.params) mg names T) ∧
    ∀base:Heap,(K w.params).In base→base.Ns mainGlobals mg→BMain mg base→aL l.prog w (K w.params) mg base qw k fa fd [x] (sp tabs (K w.params)))
  (hsp:∀(tabs:List Addr) (K:PySem.W.Frag) (H:Hp) (a:Addr) (ns:List Int),ns.length≤n→(∀T∈tabs,H T=some (.ext (eh T)))→cW K H a (ns.map V.int)→(∀b,H b≠none→b=a∨b∈tabs)→(∀u,H a=some u→∃o xs,u=.qQ o (.lst xs))→sp tabs K [.ref a] H (λv H'=>v=.bl true∧bB H H') λ_ _ _=>False) :
  PySem.W.WalkO q loose XP YP l.row.toRowW d [] (λf vs=>PySem.call f vs):=by
 refine Att.xT hn hdf λw s₀ s₁ mg mb fa o pm cd doc a vs ns G Y ho hd hcd hmg hobj hints hlen hg=>?_
 have KX:=hY w _ Y
 obtain ⟨fd,tabs,hb,ht,hF⟩:=F w mg fa _ KX G.T.g hmg
 refine Dt KX G.T.g G.T.b G.T.builtins G.T.nolimit hg hobj hints (T4 hlen hn2) hr G.T.bmain (λT hT=>?_) hF hb (λH hT hS hA hK=>hsp tabs _ H a ns hlen hT hS hA hK)
 obtain ⟨x,hx,st,D⟩:=ht T hT
 exact Nd G.T KX (hnm x hx) D
def Fl (s:Str):Value→Bool
 | .str y _=>y == s
 | _=>false
def Fi (i:Int):Value→Bool
 | .int j _=>j == i
 | _=>false
theorem Dg {K:PySem.W.Frag} {h:Heap} {mg:Str→Option Value} {x s:Str} {u:Value} (X:K.In h) (G:h.Ns mainGlobals mg) (e:PySem.W.nsIn K mainGlobals x=some (some u)) (hu:Fl s u=true):∃t,mg x=some (.str s t):=by
 cases u with
 | str y t =>
  have:y=s:=by simpa [Fl] using hu
  subst this
  exact ⟨t,PySem.W.mg_of X G e⟩
 | _=>cases hu
theorem const_int {K:PySem.W.Frag} {h:Heap} {mg:Str→Option Value} {x:Str} {i:Int} {u:Value} (X:K.In h) (G:h.Ns mainGlobals mg) (e:PySem.W.nsIn K mainGlobals x=some (some u)) (hu:Fi i u=true):∃t,mg x=some (.int i t):=by
 cases u with
 | int y t =>
  have:y=i:=by simpa [Fi] using hu
  subst this
  exact ⟨t,PySem.W.mg_of X G e⟩
 | _=>cases hu
section
variable {X:Cx} {tg:Expr}
end
end Ov
namespace Ov
open PySem PySem.Spec PyProof.Rows
open L2 (V HO Hp Inv Cx VK XK TE TT TA TS TG pY TI TO jX Ends xD Loc Gl Rd RelV Vals fm xO bY pW tI pX jW R2 upd aE aO cW gK Sp sF It bB)
inductive PV where
 | non | bl (b:Bool) | int (i:Int) | str (x:Str) | ref (a:Addr) | ty (n:String) | tup (xs:List PV) | fl (xs:List PV)
inductive HQ where
 | lst (xs:List PV) | ins (C:Addr) (fs:List (Str × PV)) | dct (kvs:List (Str × PV)) (ep:Nat) | tab | dtp (hs:List Str→Int) (ks:List (List Str))
def Qy (hs:List Str→Int) (a:Addr) (xs:List (List Str × Addr × Value)) (h:Heap):Prop:=(a == sysModules)=false∧xs.length≤sizeLine∧(xs.map (·.1)).Nodup∧∃o es ep,h.get? a=some o∧o.ExactDict∧o.data=.dict es ep∧es.toList=xs.map λx=>(⟨hs x.1,.ref x.2.1,x.2.2⟩:DictEntry)
abbrev Hq:=Addr→Option HQ
def put (J:Hq) (a:Addr) (o:HQ):Hq:=λb=>if b=a then some o else J b
theorem aq {J:Hq} {a:Addr} {o:HQ}:put J a o a=some o:=by unfold put;rw [if_pos rfl]
theorem ak {J:Hq} {a b:Addr} {o:HQ} (h:b≠a):put J a o b=J b:=by unfold put;rw [if_neg h]
theorem eG {J:Hq} {a:Addr} {o u:HQ}:put (put J a o) a u=put J a u:=by
 funext b;unfold put;split <;> rfl
theorem Gk {J:Hq} {a b:Addr} {o u:HQ} (h:a≠b):put (put J a o) b u=put (put J b u) a o:=by
 funext c;unfold put
 by_cases h1:c=b <;> by_cases h2:c=a <;> simp [h1,h2]
 ·exact absurd (h2.symm.trans h1) h
 ·intro z;exact absurd z.symm h
 ·intro z;exact absurd z h
theorem AO {J:Hq} {a:Addr} {o:HQ} (h:J a=some o):put J a o=J:=by
 funext b;unfold put
 by_cases e:b=a
 ·subst e;rw [if_pos rfl,h]
 ·rw [if_neg e]
def Eu (K:PySem.W.Frag) (J:Hq) (H:Hp) (a:Addr) (vs:List V):Prop:=(J a=none∧Rd H a (.lst vs))∨∃(o:Obj) (its:Array Value) (n:Nat),K.lookup a=some o∧o.cls=.type "list"∧o.dict=none∧o.data=.seq its n∧its.size≤sizeLine∧Vals vs its.toList
theorem Eu.sq {K:PySem.W.Frag} {J:Hq} {H:Hp} {a:Addr} {vs:List V} (h:Eu K J H a vs):cW K H a vs:=by
 rcases h with h | h
 ·exact .inl h.2
 ·exact .inr h
section
variable (K:PySem.W.Frag)
mutual
def cv (J:Hq) (H:Hp):PV→V→Prop
 | .non,v=>v=.non
 | .bl b,v=>v=.bl b
 | .int i,v=>v=.int i
 | .str x,v=>v=.str x
 | .ref a,v=>v=.ref a
 | .ty n,v=>v=.ty n
 | .tup xs,v=>∃a vs,v=.ref a∧gK K H a vs∧aJ J H xs vs
 | .fl xs,v=>∃a vs,v=.ref a∧Eu K J H a vs∧aJ J H xs vs
def aJ (J:Hq) (H:Hp):List PV→List V→Prop
 | [],vs=>vs=[]
 | x :: xs,vs=>∃v us,vs=v :: us∧cv J H x v∧aJ J H xs us
end
def l7 {κ:Type} (J:Hq) (H:Hp) (fs:List (κ × PV)) (gs:List (κ × V)):Prop:=fs.map (·.1)=gs.map (·.1)∧aJ K J H (fs.map (·.2)) (gs.map (·.2))
def ED (J:Hq) (H:Hp) (a:Addr):HQ→Prop
 | .lst xs=>∃vs,H a=some (.lst vs)∧aJ K J H xs vs
 | .ins C fs=>∃dx gs,H a=some (.ins C dx gs)∧l7 K J H fs gs
 | .dct kvs ep=>∃gs,H a=some (.dE gs ep)∧l7 K J H kvs gs
 | .tab=>H a=some (.ext (eh a))
 | .dtp hs ks=>∃xs:List (List Str × Addr × Value),xs.map (·.1)=ks∧H a=some (.ext (Qy hs a xs))∧∀x∈xs,gK K H x.2.1 (x.1.map V.str)
def Rep (J:Hq) (H:Hp):Prop:=∀a o,J a=some o→ED K J H a o
structure Ext (J:Hq) (H:Hp) (J':Hq) (H':Hp):Prop where
 tup:∀a vs,gK K H a vs→gK K H' a vs
 ll:∀a o,J a=none→H a=some o→((∃vs,o=.lst vs)∨∃ob vs,o=.qQ ob (.lst vs))→J' a=none∧H' a=some o
end
section
variable {K:PySem.W.Frag} {J J' J'':Hq} {H H' H'':Hp}
theorem Ext.fl (e:Ext K J H J' H') (a:Addr) (vs:List V) (n:J a=none) (h:Rd H a (.lst vs)):J' a=none∧Rd H' a (.lst vs):=by
 rcases h with h | ⟨o,h⟩
 ·obtain ⟨a,b⟩:=e.ll a _ n h (.inl ⟨_,rfl⟩);exact ⟨a,.inl b⟩
 ·obtain ⟨a,b⟩:=e.ll a _ n h (.inr ⟨_,_,rfl⟩);exact ⟨a,.inr ⟨o,b⟩⟩
theorem Ext.flat (e:Ext K J H J' H') {a:Addr} {vs:List V} (h:Eu K J H a vs):Eu K J' H' a vs:=by
 rcases h with h | h
 ·exact .inl (e.fl a vs h.1 h.2)
 ·exact .inr h
mutual
theorem Ext.rep (e:Ext K J H J' H'):∀{x:PV} {v:V},cv K J H x v→cv K J' H' x v
 | .non,_,h=>h
 | .bl _,_,h=>h
 | .int _,_,h=>h
 | .str _,_,h=>h
 | .ref _,_,h=>h
 | .ty _,_,h=>h
 | .tup xs,_,⟨a,vs,e1,h,k⟩=>⟨a,vs,e1,e.tup _ _ h,Ext.jq e k⟩
 | .fl xs,_,⟨a,vs,e1,h,k⟩=>⟨a,vs,e1,e.flat h,Ext.jq e k⟩
theorem Ext.jq (e:Ext K J H J' H'):∀{xs:List PV} {vs:List V},aJ K J H xs vs→aJ K J' H' xs vs
 | [],_,h=>h
 | _ :: _,_,⟨v,us,e1,h,k⟩=>⟨v,us,e1,Ext.rep e h,Ext.jq e k⟩
end
theorem Ext.refl:Ext K J H J H:=⟨λ_ _ h=>h,λ_ _ n h _=>⟨n,h⟩⟩
theorem Ext.trans (a:Ext K J H J' H') (b:Ext K J' H' J'' H''):Ext K J H J'' H'' :=
 ⟨λc vs h=>b.tup c vs (a.tup c vs h),λc o n h z=>b.ll c o (a.ll c o n h z).1 (a.ll c o n h z).2 z⟩
theorem Ext.wG {κ:Type} (e:Ext K J H J' H') {fs:List (κ × PV)} {gs:List (κ × V)} (h:l7 K J H fs gs):l7 K J' H' fs gs:=⟨h.1,e.jq h.2⟩
theorem Ext.same (s:bB H H'):Ext K J H J H':=⟨λa vs h=>s.tup h,λa o n h _=>⟨n,s _ _ h⟩⟩
theorem ED.same (s:bB H H') {a:Addr} {o:HQ} (h:ED K J H a o):ED K J H' a o:=by
 have e:=Ext.same (K:=K) (J:=J) s
 cases o with
 | lst xs=>obtain ⟨vs,h1,h2⟩:=h;exact ⟨vs,s _ _ h1,e.jq h2⟩
 | ins C fs=>obtain ⟨dx,gs,h1,h2⟩:=h;exact ⟨dx,gs,s _ _ h1,e.wG h2⟩
 | dct kvs ep=>obtain ⟨gs,h1,h2⟩:=h;exact ⟨gs,s _ _ h1,e.wG h2⟩
 | tab=>exact s _ _ (show H a=some (.ext (eh a)) from h)
 | dtp hs ks=>obtain ⟨xs,h0,h1,h2⟩:=h;exact ⟨xs,h0,s _ _ h1,λx hx=>s.tup (h2 x hx)⟩
theorem Rep.same (s:bB H H') (h:Rep K J H):Rep K J H':=λa o q=>(h a o q).same s
theorem Ext.less (h:∀a,J' a=J a∨J' a=none):Ext K J H J' H:=⟨λ_ _ h=>h,λa o n z _=>⟨(h a).elim (λe=>e.trans n) (λe=>e),z⟩⟩
theorem Rep.less (h:∀a,J' a=J a∨J' a=none) (r:Rep K J H):Rep K J' H:=λa o q=>by
 have e:J a=some o:=by
  rcases h a with e | e
  ·rw [← e];exact q
  ·rw [e] at q;cases q
 have x:=Ext.less (K:=K) (H:=H) h
 have z:=r a o e
 cases o with
 | lst xs=>obtain ⟨vs,h1,h2⟩:=z;exact ⟨vs,h1,x.jq h2⟩
 | ins C fs=>obtain ⟨dx,gs,h1,h2⟩:=z;exact ⟨dx,gs,h1,x.wG h2⟩
 | dct kvs ep=>obtain ⟨gs,h1,h2⟩:=z;exact ⟨gs,h1,x.wG h2⟩
 | tab=>exact z
 | dtp hs ks=>exact z
theorem aJ.length:∀{xs:List PV} {vs:List V},aJ K J H xs vs→xs.length=vs.length
 | [],_,h=>by cases h;rfl
 | _ :: xs,_,⟨v,us,e1,_,k⟩=>by subst e1;simp [aJ.length k]
theorem aJ.get:∀{xs:List PV} {vs:List V} {i:Nat} {x:PV},aJ K J H xs vs→xs[i]?=some x→∃v,vs[i]?=some v∧cv K J H x v
 | [],_,i,x,h,e=>by simp at e
 | y :: xs,_,0,x,⟨v,us,e1,h,k⟩,e=>by subst e1;simp at e;subst e;exact ⟨v,rfl,h⟩
 | y :: xs,_,i + 1,x,⟨v,us,e1,h,k⟩,e=>by
  subst e1
  obtain ⟨w,h1,h2⟩:=aJ.get (i:=i) (x:=x) k (by simpa using e)
  exact ⟨w,by simpa using h1,h2⟩
theorem aJ.get':∀{xs:List PV} {vs:List V} {i:Nat} {v:V},aJ K J H xs vs→vs[i]?=some v→∃x,xs[i]?=some x∧cv K J H x v
 | [],_,i,x,h,e=>by cases h;simp at e
 | y :: xs,_,0,x,⟨v,us,e1,h,k⟩,e=>by subst e1;simp at e;subst e;exact ⟨y,rfl,h⟩
 | y :: xs,_,i + 1,x,⟨v,us,e1,h,k⟩,e=>by
  subst e1
  obtain ⟨w,h1,h2⟩:=aJ.get' (i:=i) (v:=x) k (by simpa using e)
  exact ⟨w,by simpa using h1,h2⟩
theorem aJ.append:∀{xs ys:List PV} {vs us:List V},aJ K J H xs vs→aJ K J H ys us→aJ K J H (xs ++ ys) (vs ++ us)
 | [],_,_,_,h,k=>by cases h;exact k
 | x :: xs,ys,_,us,⟨v,ws,e1,h,h'⟩,k=>by subst e1;exact ⟨v,ws ++ us,rfl,h,aJ.append h' k⟩
theorem aJ.drop:∀(n:Nat) {xs:List PV} {vs:List V},aJ K J H xs vs→aJ K J H (xs.drop n) (vs.drop n)
 | 0,_,_,h=>h
 | n + 1,[],_,h=>by cases h;rfl
 | n + 1,x :: xs,_,⟨v,ws,e1,h,h'⟩=>by subst e1;exact aJ.drop n h'
theorem aJ.take:∀(n:Nat) {xs:List PV} {vs:List V},aJ K J H xs vs→aJ K J H (xs.take n) (vs.take n)
 | 0,_,_,h=>rfl
 | n + 1,[],_,h=>by cases h;rfl
 | n + 1,x :: xs,_,⟨v,ws,e1,h,h'⟩=>by subst e1;exact ⟨v,_,rfl,h,aJ.take n h'⟩
theorem l7.look {κ:Type} [BEq κ] [LawfulBEq κ] {f:κ}:∀{fs:List (κ × PV)} {gs:List (κ × V)} {x:PV},l7 K J H fs gs→fs.lookup f=some x→∃v,gs.lookup f=some v∧cv K J H x v
 | [],_,_,_,e=>by cases e
 | (k,y) :: fs,[],x,h,e=>by cases h.1
 | (k,y) :: fs,(k',w) :: gs,x,h,e=>by
  obtain ⟨h1,v,us,h2,h3,h4⟩:=h
  simp only [TL,List.cons.injEq] at h1 h2
  obtain ⟨rfl,h1⟩:=h1
  obtain ⟨rfl,rfl⟩:=h2
  rw [Ug] at e ⊢
  cases hk:f == k with
  | true=>rw [hk] at e;cases e;exact ⟨w,rfl,h3⟩
  | false=>rw [hk] at e;exact l7.look ⟨h1,h4⟩ e
theorem l7.none {κ:Type} [BEq κ] [LawfulBEq κ] {f:κ}:∀{fs:List (κ × PV)} {gs:List (κ × V)},l7 K J H fs gs→fs.lookup f=none→gs.lookup f=none
 | [],[],_,_=>rfl
 | [],_ :: _,h,e=>by cases h.1
 | (k,y) :: fs,[],h,e=>by cases h.1
 | (k,y) :: fs,(k',w) :: gs,h,e=>by
  obtain ⟨h1,v,us,h2,h3,h4⟩:=h
  simp only [TL,List.cons.injEq] at h1 h2
  obtain ⟨rfl,h1⟩:=h1
  obtain ⟨rfl,rfl⟩:=h2
  rw [Ug] at e ⊢
  cases hk:f == k with
  | true=>rw [hk] at e;cases e
  | false=>rw [hk] at e;exact l7.none ⟨h1,h4⟩ e
end
section
variable {K:PySem.W.Frag} {J J':Hq} {H H':Hp} {p:Addr}
theorem Iy {a p:Addr} {o:HQ} (r:Rep K J H) (h:J a=some o) (n:H p=none):a≠p:=by
 intro e;subst e
 have:=r _ _ h
 cases o with
 | lst xs=>obtain ⟨vs,h1,_⟩:=this;rw [n] at h1;cases h1
 | ins C fs=>obtain ⟨dx,gs,h1,_⟩:=this;rw [n] at h1;cases h1
 | dct kvs ep=>obtain ⟨gs,h1,_⟩:=this;rw [n] at h1;cases h1
 | tab=>have h1:H a=some (.ext (eh a)):=this;rw [n] at h1;cases h1
 | dtp hs ks=>obtain ⟨xs,_,h1,_⟩:=this;rw [n] at h1;cases h1
theorem Rep.free (r:Rep K J H) (n:H p=none):J p=none:=by
 cases e:J p with
 | none=>rfl
 | some o=>exact absurd rfl (Iy r e n)
theorem Ext.laid {o:HO} {u:HQ} (n:H p=none):Ext K J H (put J p u) (upd H p o):=by
 refine ⟨λa vs h=>(bB.new n o).tup h,λa o' z h _=>⟨?_,bB.new n o _ _ h⟩⟩
 have ne:a≠p:=by intro e;subst e;rw [n] at h;cases h
 rw [ak ne];exact z
theorem Rep.Bk {J':Hq} {H':Hp} (e:Ext K J H J' H') (r:Rep K J H) (p:Addr) (q:∀a,a≠p→J' a=J a) (s:∀a o,a≠p→J a≠none→H a=some o→H' a=some o) (h:∀u,J' p=some u→ED K J' H' p u):Rep K J' H':=λa o z=>by
 by_cases ep:a=p
 ·subst ep;exact h o z
 ·rw [q a ep] at z
  have t:=r a o z
  have jn:J a≠none:=by rw [z];exact λy=>nomatch y
  cases o with
  | lst xs=>obtain ⟨vs,h1,h2⟩:=t;exact ⟨vs,s _ _ ep jn h1,e.jq h2⟩
  | ins C fs=>obtain ⟨dx,gs,h1,h2⟩:=t;exact ⟨dx,gs,s _ _ ep jn h1,e.wG h2⟩
  | dct kvs eq=>obtain ⟨gs,h1,h2⟩:=t;exact ⟨gs,s _ _ ep jn h1,e.wG h2⟩
  | tab=>exact s _ _ ep jn (show H a=some (.ext (eh a)) from t)
  | dtp hs ks=>obtain ⟨xs,h0,h1,h2⟩:=t;exact ⟨xs,h0,s _ _ ep jn h1,λx hx=>e.tup _ _ (h2 x hx)⟩
theorem Rep.Fu {xs:List PV} {vs:List V} (r:Rep K J H) (n:H p=none) (h:aJ K J H xs vs):Rep K (put J p (.lst xs)) (upd H p (.lst vs)):=by
 have e:=Ext.laid (K:=K) (J:=J) (o:=.lst vs) (u:=.lst xs) n
 refine r.Bk e p (λa ne=>ak ne) (λa o ne _ z=>by rw [aO ne];exact z) λu z=>?_
 rw [aq] at z;cases z
 exact ⟨vs,aE,e.jq h⟩
theorem Ext.wrote {xs ys:List PV} {ws vs:List V} (h:J p=some (.lst xs)) (k:H p=some (.lst ws)):Ext K J H (put J p (.lst ys)) (upd H p (.lst vs)):=by
 have sm:∀a u,(∀l,u≠HO.lst l)∨a≠p→Rd H a u→Rd (upd H p (.lst vs)) a u:=λa u d z=>by
  have ne:a≠p:=by
   rcases d with d | d
   ·intro e;subst e
    rcases z with z | ⟨o,z⟩
    ·rw [k] at z;cases z;exact d _ rfl
    ·rw [k] at z;cases z
   ·exact d
  rcases z with z | ⟨o,z⟩
  ·exact .inl (by rw [aO ne];exact z)
  ·exact .inr ⟨o,by rw [aO ne];exact z⟩
 refine ⟨λa vs' z=>?_,λa o z q _=>?_⟩
 ·rcases z with z | z
  ·exact .inl (sm a _ (.inl λl e=>nomatch e) z)
  ·exact .inr z
 ·have ne:a≠p:=by intro e;subst e;rw [h] at z;cases z
  exact ⟨by rw [ak ne];exact z,by rw [aO ne];exact q⟩
theorem Rep.wrote {xs ys:List PV} {ws vs:List V} (r:Rep K J H) (h:J p=some (.lst xs)) (k:H p=some (.lst ws)) (q:aJ K J H ys vs):Rep K (put J p (.lst ys)) (upd H p (.lst vs)):=by
 have e:=Ext.wrote (K:=K) (ys:=ys) (vs:=vs) h k
 refine r.Bk e p (λa ne=>ak ne) (λa o ne _ z=>by rw [aO ne];exact z) λu z=>?_
 rw [aq] at z;cases z
 exact ⟨vs,aE,e.jq q⟩
end
abbrev Sr:=List (Option PV)
abbrev c4:=Sr→Hq→(PV→Hq→Prop)→Prop
abbrev l9:=Sr→Hq→(Bool→Hq→Prop)→Prop
abbrev o8:=Sr→Hq→(List PV→Hq→Prop)→Prop
structure En where
 nx:Sr→Hq→Prop
 rt:PV→Hq→Prop
 bk:Sr→Hq→Prop:=λ_ _=>False
 ct:Sr→Hq→Prop:=λ_ _=>False
abbrev iX:=En→Sr→Hq→Prop
structure l8 (K:PySem.W.Frag) (J:Hq) (H:Hp) (τ:Sr) (σ:L2.St):Prop where
 len:τ.length=σ.length
 get:∀(i:Nat) (x:PV),τ[i]?=some (some x)→∃v,σ[i]?=some (some v)∧cv K J H x v
theorem l8.ext {K:PySem.W.Frag} {J J':Hq} {H H':Hp} {τ:Sr} {σ:L2.St} (r:l8 K J H τ σ) (e:Ext K J H J' H'):l8 K J' H' τ σ :=
 ⟨r.len,λi x h=>let ⟨v,a,b⟩:=r.get i x h;⟨v,a,e.rep b⟩⟩
theorem l8.set {K:PySem.W.Frag} {J:Hq} {H:Hp} {τ:Sr} {σ:L2.St} (r:l8 K J H τ σ) {x:PV} {v:V} (i:Nat) (h:cv K J H x v):l8 K J H (τ.set i (some x)) (σ.set i (some v)):=by
 refine ⟨by rw [U2,U2,r.len],λj y e=>?_⟩
 by_cases hj:i=j
 ·subst hj
  by_cases hl:i < τ.length
  ·rw [Ur hl] at e
   cases e
   exact ⟨v,Ur (by rw [← r.len];exact hl),h⟩
  ·rw [UE (by rw [U2];omega)] at e
   cases e
 ·rw [UJ hj] at e ⊢
  exact r.get j y e
abbrev G2:=Hq × Hp
structure xC (K:PySem.W.Frag) (G:G2) (τ:Sr) (J:Hq) (σ:L2.St) (H:Hp):Prop where
 sl:l8 K J H τ σ
 hp:Rep K J H
 ext:Ext K G.1 G.2 J H
section
variable (K:PySem.W.Frag) (G:G2)
def LE (t:c4):TE:=λσ H Q=>∃τ J Q2,xC K G τ J σ H∧t τ J Q2∧∀x J' v H',cv K J' H' x v→Rep K J' H'→Ext K J H J' H'→Q2 x J'→Q v H'
def LT (t:l9):TT:=λσ H Q=>∃τ J Q2,xC K G τ J σ H∧t τ J Q2∧∀b J' H',Rep K J' H'→Ext K J H J' H'→Q2 b J'→Q b H'
def LA (t:o8):TA:=λσ H Q=>∃τ J Q2,xC K G τ J σ H∧t τ J Q2∧∀xs J' vs H',aJ K J' H' xs vs→Rep K J' H'→Ext K J H J' H'→Q2 xs J'→Q vs H'
structure Goes (J:Hq) (H:Hp) (D2:En) (D:Ends):Prop where
 nx:∀τ J' σ H',l8 K J' H' τ σ→Rep K J' H'→Ext K J H J' H'→D2.nx τ J'→D.nx σ H'
 rt:∀x J' v H',cv K J' H' x v→Rep K J' H'→Ext K J H J' H'→D2.rt x J'→D.rt v H'
 bk:∀τ J' σ H',l8 K J' H' τ σ→Rep K J' H'→Ext K J H J' H'→D2.bk τ J'→D.bk σ H'
 ct:∀τ J' σ H',l8 K J' H' τ σ→Rep K J' H'→Ext K J H J' H'→D2.ct τ J'→D.ct σ H'
def LS (t:iX):TS:=λD σ H=>∃τ J D2,xC K G τ J σ H∧t D2 τ J∧Goes K J H D2 D
end
theorem Goes.ext {K:PySem.W.Frag} {J J':Hq} {H H':Hp} {D2:En} {D:Ends} (g:Goes K J H D2 D) (e:Ext K J H J' H'):Goes K J' H' D2 D :=
 ⟨λτ J1 σ H1 a b c=>g.nx τ J1 σ H1 a b (e.trans c),λx J1 v H1 a b c=>g.rt x J1 v H1 a b (e.trans c),λτ J1 σ H1 a b c=>g.bk τ J1 σ H1 a b (e.trans c),λτ J1 σ H1 a b c=>g.ct τ J1 σ H1 a b (e.trans c)⟩
theorem xC.go {K:PySem.W.Frag} {G:G2} {τ:Sr} {J J':Hq} {σ:L2.St} {H H':Hp} (a:xC K G τ J σ H) (r:Rep K J' H') (e:Ext K J H J' H'):xC K G τ J' σ H':=⟨a.sl.ext e,r,a.ext.trans e⟩
structure RE (X:Cx) (G:G2) (e:Expr) (t:c4):Prop where
 run:L2.PE X e (LE X.K G t)
structure RT (X:Cx) (G:G2) (e:Expr) (t:l9):Prop where
 run:L2.PT X e (LT X.K G t)
structure RW (X:Cx) (G:G2) (e:Expr) (t:l9):Prop where
 run:L2.PW X e (LT X.K G t)
structure RA (X:Cx) (G:G2) (es:List Expr) (t:o8):Prop where
 run:L2.PA X es (LA X.K G t)
structure RS (X:Cx) (G:G2) (st:Stmt) (t:iX):Prop where
 run:L2.PS X st (LS X.K G t)
structure RB (X:Cx) (G:G2) (st:List Stmt) (t:iX):Prop where
 run:L2.uu X st (LS X.K G t)
theorem lp {X:Cx} {e:Expr} {t t':TE} (h:L2.PE X e t) (k:∀σ H Q,t' σ H Q→t σ H Q):L2.PE X e t':=λpins s σ H Q I q=>h pins s σ H Q I (k _ _ _ q)
theorem Qn {X:Cx} {e:Expr} {t t':TT} (h:L2.PT X e t) (k:∀σ H Q,t' σ H Q→t σ H Q):L2.PT X e t':=λpins s σ H Q I q=>h pins s σ H Q I (k _ _ _ q)
theorem SX {X:Cx} {e:Expr} {t t':TT} (h:L2.PW X e t) (k:∀σ H Q,t' σ H Q→t σ H Q):L2.PW X e t':=λwh pins s σ H Q I q=>h wh pins s σ H Q I (k _ _ _ q)
theorem RC {X:Cx} {e:List Expr} {t t':TA} (h:L2.PA X e t) (k:∀σ H Q,t' σ H Q→t σ H Q):L2.PA X e t':=λpos pins s σ H Q I q=>h pos pins s σ H Q I (k _ _ _ q)
theorem AI {X:Cx} {e:Stmt} {t t':TS} (h:L2.PS X e t) (k:∀D σ H,t' D σ H→t D σ H):L2.PS X e t':=λpins s σ H D I q=>h pins s σ H D I (k _ _ _ q)
theorem RD {X:Cx} {e:List Stmt} {t t':TS} (h:L2.uu X e t) (k:∀D σ H,t' D σ H→t D σ H):L2.uu X e t':=λpins s σ H D I q=>h pins s σ H D I (k _ _ _ q)
end Ov
namespace Ov
open PySem PySem.Spec PyProof.Rows
open L2 (V HO Hp Inv Cx VK XK TE TT TA TS TG pY TI TO jX Ends xD Loc Gl Rd RelV Vals fm xO bY pW tI pX jW R2 upd aE aO cW gK Sp sF It bB c5 bK Passes pG aD Meth Mk Binds aL bZ aw de f9)
def gJ {α:Sort _} (_:α):Type:=Unit
def dp {α:Sort _} {k:α}:gJ k:=()
def uO {α:Type} (o:Option α) (k:α→Prop) (_:gJ k:=dp):Prop:=match o with | some x=>k x | none=>False
def NF (o:Option (Option PV)) (k:PV→Prop) (_:gJ k:=dp):Prop:=match o with | some (some x)=>k x | _=>False
def Ei (x:PV) (k:Int→Prop) (_:gJ k:=dp):Prop:=match x with | .int i=>k i | _=>False
def Kl (x:PV) (k:Bool→Prop) (_:gJ k:=dp):Prop:=match x with | .bl i=>k i | _=>False
def Ko (x:PV) (k:Str→Prop) (_:gJ k:=dp):Prop:=match x with | .str i=>k i | _=>False
def B3 (x:PV) (k:Addr→Prop) (_:gJ k:=dp):Prop:=match x with | .ref a=>k a | _=>False
def NG (x:PV) (k:List PV→Prop) (_:gJ k:=dp):Prop:=match x with | .tup a=>k a | _=>False
def B2 (xs:List PV) (k:PV→Prop) (_:gJ k:=dp):Prop:=match xs with | [x]=>k x | _=>False
def Ql (o:Option HQ) (k:List PV→Prop) (_:gJ k:=dp):Prop:=match o with | some (.lst xs)=>k xs | _=>False
def F1 (o:Option HQ) (k:List (Str × PV)→Nat→Prop) (_:gJ k:=dp):Prop:=match o with | some (.dct xs e)=>k xs e | _=>False
def Mn (C:Addr) (o:Option HQ) (k:List (Str × PV)→Prop) (_:gJ k:=dp):Prop:=match o with | some (.ins C' fs)=>if C'=C then k fs else False | _=>False
def Rx (xs:List PV) (k:Prop) (_:gJ k:=dp):Prop:=match xs with | []=>k | _=>False
def Mo (xs:List PV) (k:PV→List PV→Prop) (_:gJ k:=dp):Prop:=match xs with | x :: r=>k x r | []=>False
def Ms (xs:List PV) (k:PV→PV→Prop) (_:gJ k:=dp):Prop:=match xs with | [x,y]=>k x y | _=>False
theorem OO {k:Prop} {d:gJ k}:Rx [] k d=k:=rfl
theorem Mp {x:PV} {r:List PV} {k:PV→List PV→Prop} {d:gJ k}:Mo (x :: r) k d=k x r:=rfl
theorem OP {x y:PV} {k:PV→PV→Prop} {d:gJ k}:Ms [x,y] k d=k x y:=rfl
theorem Mr {xs:List PV} {k:Prop} {d:gJ k} (h:Rx xs k d):xs=[]∧k:=by cases xs with | nil=>exact ⟨rfl,h⟩ | cons x r=>exact h.elim
theorem IH {xs:List PV} {k:PV→List PV→Prop} {d:gJ k} (h:Mo xs k d):∃x r,xs=x :: r∧k x r:=by cases xs with | nil=>exact h.elim | cons x r=>exact ⟨_,_,rfl,h⟩
theorem Aw {xs:List PV} {k:PV→PV→Prop} {d:gJ k} (h:Ms xs k d):∃x y,xs=[x,y]∧k x y:=by
 unfold Ms at h
 split at h
 ·exact ⟨_,_,rfl,h⟩
 ·exact h.elim
theorem OR {α:Type} {x:α} {k:α→Prop} {d:gJ k}:uO (some x) k d=k x:=rfl
theorem OJ {x:PV} {k:PV→Prop} {d:gJ k}:NF (some (some x)) k d=k x:=rfl
theorem OM {x:Int} {k:Int→Prop} {d:gJ k}:Ei (.int x) k d=k x:=rfl
theorem OK {x:Bool} {k:Bool→Prop} {d:gJ k}:Kl (.bl x) k d=k x:=rfl
theorem OS {x:Str} {k:Str→Prop} {d:gJ k}:Ko (.str x) k d=k x:=rfl
theorem OQ {x:Addr} {k:Addr→Prop} {d:gJ k}:B3 (.ref x) k d=k x:=rfl
theorem OT {x:List PV} {k:List PV→Prop} {d:gJ k}:NG (.tup x) k d=k x:=rfl
theorem OI {x:PV} {k:PV→Prop} {d:gJ k}:B2 [x] k d=k x:=rfl
theorem ON {x:List PV} {k:List PV→Prop} {d:gJ k}:Ql (some (.lst x)) k d=k x:=rfl
theorem OL {x:List (Str × PV)} {e:Nat} {k:List (Str × PV)→Nat→Prop} {d:gJ k}:F1 (some (.dct x e)) k d=k x e:=rfl
theorem Km {C:Addr} {x:List (Str × PV)} {k:List (Str × PV)→Prop} {d:gJ k}:Mn C (some (.ins C x)) k d=k x:=if_pos rfl
theorem dZ {α:Type} {o:Option α} {k:α→Prop} {d:gJ k} (h:uO o k d):∃x,o=some x∧k x:=by cases o with | none=>exact h.elim | some x=>exact ⟨x,rfl,h⟩
theorem fG {α:Type} {o:Option α} {x:α} {k:α→Prop} (e:o=some x) (h:k x):uO o k:=by rw [e];exact h
theorem F0 {o:Option (Option PV)} {k:PV→Prop} {d:gJ k} (h:NF o k d):∃x,o=some (some x)∧k x:=by
 unfold NF at h
 split at h
 ·exact ⟨_,rfl,h⟩
 ·exact h.elim
theorem Mm {o:Option (Option PV)} {x:PV} {k:PV→Prop} (e:o=some (some x)) (h:k x):NF o k:=by rw [e];exact h
theorem g9 {x:PV} {k:Int→Prop} {d:gJ k} (h:Ei x k d):∃i,x=.int i∧k i:=by cases x <;> first | exact ⟨_,rfl,h⟩ | exact False.elim h
theorem oF {x:PV} {k:Bool→Prop} {d:gJ k} (h:Kl x k d):∃i,x=.bl i∧k i:=by cases x <;> first | exact ⟨_,rfl,h⟩ | exact False.elim h
theorem oG {x:PV} {k:Str→Prop} {d:gJ k} (h:Ko x k d):∃i,x=.str i∧k i:=by cases x <;> first | exact ⟨_,rfl,h⟩ | exact False.elim h
theorem gm {x:PV} {k:Addr→Prop} {d:gJ k} (h:B3 x k d):∃i,x=.ref i∧k i:=by cases x <;> first | exact ⟨_,rfl,h⟩ | exact False.elim h
theorem F2 {x:PV} {k:List PV→Prop} {d:gJ k} (h:NG x k d):∃i,x=.tup i∧k i:=by cases x <;> first | exact ⟨_,rfl,h⟩ | exact False.elim h
theorem je {xs:List PV} {k:PV→Prop} {d:gJ k} (h:B2 xs k d):∃x,xs=[x]∧k x:=by
 unfold B2 at h
 split at h
 ·exact ⟨_,rfl,h⟩
 ·exact h.elim
theorem Mq {o:Option HQ} {k:List PV→Prop} {d:gJ k} (h:Ql o k d):∃x,o=some (.lst x)∧k x:=by
 unfold Ql at h
 split at h
 ·exact ⟨_,rfl,h⟩
 ·exact h.elim
theorem mn {o:Option HQ} {k:List (Str × PV)→Nat→Prop} {d:gJ k} (h:F1 o k d):∃x e,o=some (.dct x e)∧k x e:=by
 unfold F1 at h
 split at h
 ·exact ⟨_,_,rfl,h⟩
 ·exact h.elim
theorem Av {C:Addr} {o:Option HQ} {k:List (Str × PV)→Prop} {d:gJ k} (h:Mn C o k d):∃x,o=some (.ins C x)∧k x:=by
 unfold Mn at h
 split at h
 ·split at h
  ·rename_i e;subst e;exact ⟨_,rfl,h⟩
  ·exact h.elim
 ·exact h.elim
theorem Ax {x:PV} {xs:List PV} {k:List PV→Prop} (e:x=.tup xs) (h:k xs):NG x k:=by rw [e];exact h
theorem v_ {x:PV} {b:Bool} {k:Bool→Prop} (e:x=.bl b) (h:k b):Kl x k:=by rw [e];exact h
theorem fF {C:Addr} {o:Option HQ} {x:List (Str × PV)} {k:List (Str × PV)→Prop} (e:o=some (.ins C x)) (h:k x):Mn C o k:=by rw [e,Km];exact h
section
variable {X:Cx} {G:G2} {a b c e o:Expr} {es rest:List Expr} {ta tb te tc to:c4} {tA tB':l9} {t:o8} {pos px p p2 apos cpos:Pos} {x:Str} {i j:Nat}
def jm (i:Nat):c4:=λτ J Q=>NF τ[i]? λx=>Q x J
theorem rv (i:Nat) {x:Str} {pos:Pos} (hN:X.N[i]?=some x:=by rfl) (hv:xD X.env.scope x:=by first | exact Or.inl rfl | exact Or.inr (Or.inl rfl) | exact Or.inr (Or.inr rfl)) (hd:(x == ("__debug__":Str))=false:=by decide)
  (hcd:(x == ("__classdict__":Str))=false:=by decide):RE X G (.Name x pos) (jm i) :=
 ⟨lp (L2.AF hN hv hd hcd) λσ H Q ⟨τ,J,Q2,a2,hq,k⟩=>let ⟨y,ey,q⟩:=F0 hq;let ⟨v,e1,r⟩:=a2.sl.get i y ey;⟨v,e1,k y J v H r a2.hp .refl q⟩⟩
def rC (x:PV):c4:=λ_ J Q=>Q x J
theorem ah {i:Int} {j pos}:RE X G (.Constant (.int i) j pos) (rC (.int i)):=⟨lp L2.aM λσ H Q ⟨τ,J,Q2,a2,q,k⟩=>k (.int i) J _ H rfl a2.hp .refl q⟩
theorem gx {b:Bool} {j pos}:RE X G (.Constant (.bool b) j pos) (rC (.bl b)):=⟨lp L2.yK λσ H Q ⟨τ,J,Q2,a2,q,k⟩=>k (.bl b) J _ H rfl a2.hp .refl q⟩
theorem mq {j pos}:RE X G (.Constant .none j pos) (rC .non):=⟨lp L2.AB λσ H Q ⟨τ,J,Q2,a2,q,k⟩=>k .non J _ H rfl a2.hp .refl q⟩
theorem bM {x:Str} {j pos}:RE X G (.Constant (.str x) j pos) (rC (.str x)):=⟨lp L2.oI λσ H Q ⟨τ,J,Q2,a2,q,k⟩=>k (.str x) J _ H rfl a2.hp .refl q⟩
theorem fV {v:V} {u:Value} (y:PV) (hg:Gl X x) (hm:X.mg x=some u) (r:RelV v u) (hr:∀J H,cv X.K J H y v) (hd:(x == ("__debug__":Str))=false:=by decide):RE X G (.Name x pos) (rC y) :=
 ⟨lp (L2.qd hg hm r hd) λσ H Q ⟨τ,J,Q2,a2,q,k⟩=>k y J v H (hr J H) a2.hp .refl q⟩
theorem nG {n:String} (hg:Gl X x) (hm:X.mg x=none) (hv:bootBuiltins x=some (.type n)) (hn:x≠"__name__":=by decide) (hd:(x == ("__debug__":Str))=false:=by decide):RE X G (.Name x pos) (rC (.ty n)) :=
 ⟨lp (L2.wd (v:=.ty n) hg hm hv rfl hn hd) λσ H Q ⟨τ,J,Q2,a2,q,k⟩=>k (.ty n) J _ H rfl a2.hp .refl q⟩
abbrev mT:=PV→PV→Hq→(PV→Hq→Prop)→Prop
abbrev NN:=PV→Hq→(PV→Hq→Prop)→Prop
abbrev zQ:=List PV→Hq→(PV→Hq→Prop)→Prop
def Kn (K:PySem.W.Frag) (J:Hq) (H:Hp) (Q2:PV→Hq→Prop) (Q:VK):Prop:=∀z J' u H',cv K J' H' z u→Rep K J' H'→Ext K J H J' H'→Q2 z J'→Q u H'
def LR (K:PySem.W.Frag) (r:R2) (q:mT):Prop:=∀J H x y v w Q2 Q,cv K J H x v→cv K J H y w→Rep K J H→q x y J Q2→Kn K J H Q2 Q→r v w H Q
def Tb (K:PySem.W.Frag) (r:V→Hp→VK→Prop) (q:NN):Prop:=∀J H x v Q2 Q,cv K J H x v→Rep K J H→q x J Q2→Kn K J H Q2 Q→r v H Q
def Sx (K:PySem.W.Frag) (r:List V→Hp→VK→Prop) (q:zQ):Prop:=∀J H xs vs Q2 Q,aJ K J H xs vs→Rep K J H→q xs J Q2→Kn K J H Q2 Q→r vs H Q
def mS (X:Cx) (f:Value→Value→Sem Value) (q:mT):Prop:=∃r,fm X f r∧LR X.K r q
def SD (X:Cx) (f:Value→Sem Value) (q:NN):Prop:=∃r,xO X f r∧Tb X.K r q
def Qz (X:Cx) (q:mT):Prop:=∃r,pW X r∧LR X.K r q
def JR (X:Cx) (f:Value) (q:zQ):Prop:=∃r,bY X f r∧Sx X.K r q
def xE (q:mT) (ta tb:c4):c4:=λτ J Q=>ta τ J λx J1=>tb τ J1 λy J2=>q x y J2 Q
def RZ (q:NN) (ta:c4):c4:=λτ J Q=>ta τ J λx J1=>q x J1 Q
theorem p9 {r:R2} {q:mT} (lr:LR X.K r q):∀σ H Q,LE X.K G (xE q ta tb) σ H Q→L2.G6 r (LE X.K G ta) (LE X.K G tb) σ H Q:=λσ H Q ⟨τ,J,Q2,a2,h,k⟩ =>
 ⟨τ,J,_,a2,h,λx J1 v H1 rx r1 e1 q1=>⟨τ,J1,_,a2.go r1 e1,q1,λy J2 w H2 ry r2 e2 q2 =>
  lr J2 H2 x y v w Q2 Q (e2.rep rx) ry r2 q2 λz J' u H' rz rr ee qq=>k z J' u H' rz rr ((e1.trans e2).trans ee) qq⟩⟩
theorem a8 {op:Operator} {q:mT} (ho:mS X (binaryOp op) q) (ha:RE X G a ta) (hb:RE X G b tb):RE X G (.BinOp a op b pos) (xE q ta tb):=by
 obtain ⟨r,h,lr⟩:=ho
 exact ⟨lp (L2.bj h ha.run hb.run) (p9 lr)⟩
theorem nH {op:UnaryOp} {q:NN} (ho:SD X (unaryOp op) q) (ha:RE X G a ta):RE X G (.UnaryOp op a pos) (RZ q ta):=by
 obtain ⟨r,h,lr⟩:=ho
 exact ⟨lp (L2.B7 h ha.run) λσ H Q ⟨τ,J,Q2,a2,h,k⟩=>⟨τ,J,_,a2,h,λx J1 v H1 rx r1 e1 q1 =>
  lr J1 H1 x v Q2 Q rx r1 q1 λz J' u H' rz rr ee qq=>k z J' u H' rz rr (e1.trans ee) qq⟩⟩
theorem av {q:mT} (hr:Qz X q) (ha:RE X G a ta) (hb:RE X G b tb) (hs:c5 b:=by exact λ_ _=>rfl):RE X G (.Subscript a b pos) (xE q ta tb):=by
 obtain ⟨r,h,lr⟩:=hr
 exact ⟨lp (L2.cg h ha.run hb.run hs) (p9 lr)⟩
theorem fb {op:CmpOp} {q:mT} (ho:mS X (compareOp op) q) (ha:RE X G a ta) (hb:RE X G b tb) (hm:behindInMarks op b=false:=by first | exact L2.eY _ | with_unfolding_all rfl):RE X G (.Compare a [op] [b] pos) (xE q ta tb):=by
 obtain ⟨r,h,lr⟩:=ho
 exact ⟨lp (L2.qa h ha.run hb.run hm) (p9 lr)⟩
def rB (t:c4):l9:=λτ J Q=>t τ J λx J1=>Kl x λk=>Q k J1
theorem aG {op:CmpOp} {q:mT} (ho:mS X (compareOp op) q) (ha:RE X G a ta) (hb:RE X G b tb) (hm:behindInMarks op b=false:=by first | exact L2.eY _ | with_unfolding_all rfl):RT X G (.Compare a [op] [b] pos) (rB (xE q ta tb)):=by
 obtain ⟨r,h,lr⟩:=ho
 refine ⟨Qn (L2.du h ha.run hb.run hm) λσ H Q ⟨τ,J,Q2,a2,h,k⟩=>?_⟩
 refine p9 lr σ H _ ⟨τ,J,_,a2,h,λz J' u H' rz rr ee qq=>?_⟩
 obtain ⟨b,rfl,q⟩:=oF qq
 exact ⟨b,rz,k b J' H' rr ee q⟩
theorem bN (h:RE X G e te) (he:∀whole,isTrue e X.env whole=(do let v ← whole;standAt e.pos;holding [v] (truthy v)):=by intro _;rfl):RT X G e (rB te) :=
 ⟨Qn (L2.AL h.run he) λσ H Q ⟨τ,J,Q2,a2,h,k⟩=>⟨τ,J,_,a2,h,λz J' u H' rz rr ee qq=>by obtain ⟨b,eb,q⟩:=oF qq;subst eb;exact ⟨b,rz,k b J' H' rr ee q⟩⟩⟩
def xw (J:Hq):PV→Option Bool
 | .non=>some false
 | .bl b=>some b
 | .int i=>some (i != 0)
 | .tup xs=>some (!xs.isEmpty)
 | .fl xs=>some (!xs.isEmpty)
 | .ref a=>match J a with
  | some (.lst xs)=>some (!xs.isEmpty)
  | some (.dct kvs _)=>some (!kvs.isEmpty)
  | _=>none
 | _=>none
theorem gR {α β:Type} {xs:List α} {ys:List β} (h:xs.length=ys.length):xs.isEmpty=ys.isEmpty:=by cases xs <;> cases ys <;> simp_all
theorem JK {K:PySem.W.Frag} {J:Hq} {H:Hp} {x:PV} {v:V} {k:Bool} (r:cv K J H x v) (hp:Rep K J H) (h:xw J x=some k):L2.Lk K v H k:=by
 cases x with
 | non=>cases r;cases h;rfl
 | bl b=>cases r;cases h;rfl
 | int i=>cases r;cases h;rfl
 | str s=>cases h
 | ty n=>cases h
 | tup xs=>obtain ⟨a,vs,rfl,h1,h2⟩:=r;cases h;exact .inr (.inl ⟨vs,h1,by rw [gR h2.length]⟩)
 | fl xs=>obtain ⟨a,vs,rfl,h1,h2⟩:=r;cases h;exact .inl ⟨vs,h1.sq,by rw [gR h2.length]⟩
 | ref a =>
  cases r
  unfold xw at h
  dsimp only at h
  cases e:J a with
  | none=>rw [e] at h;cases h
  | some o =>
   rw [e] at h
   have z:=hp a o e
   cases o with
   | lst xs=>obtain ⟨vs,h1,h2⟩:=z;cases h;exact .inl ⟨vs,.inl (.inl h1),by rw [gR h2.length]⟩
   | ins C fs=>cases h
   | tab=>cases h
   | dtp hs ks=>cases h
   | dct kvs ep =>
    obtain ⟨gs,h1,h2⟩:=z;cases h
    refine .inr (.inr ⟨gs,ep,h1,?_⟩)
    have:=congrArg UG h2.1
    simp only [Tx] at this
    rw [gR this]
def Pw (te:c4):l9:=λτ J Q=>te τ J λx J1=>uO (xw J1 x) λk=>Q k J1
theorem M1 (h:RE X G e te) (he:∀whole,isTrue e X.env whole=(do let v ← whole;standAt e.pos;holding [v] (truthy v)):=by intro _;rfl):RT X G e (Pw te) :=
 ⟨Qn (L2.Gi h.run he) λσ H Q ⟨τ,J,Q2,a2,h,k⟩=>⟨τ,J,_,a2,h,λz J' u H' rz rr ee qq=>let ⟨b,eb,q⟩:=dZ qq;⟨b,JK rz rr eb,k b J' H' rr ee q⟩⟩⟩
def Jf (t u:l9):l9:=λτ J Q=>t τ J λc J1=>if c=true then u τ J1 Q else Q false J1
def RU (t u:l9):l9:=λτ J Q=>t τ J λc J1=>if c=true then Q true J1 else u τ J1 Q
def Pn (t:l9):l9:=λτ J Q=>t τ J λc J1=>Q (!c) J1
theorem cP (ha:RT X G a tA):RT X G (.UnaryOp .Not a pos) (Pn tA):=⟨Qn (L2.AK ha.run) λσ H Q ⟨τ,J,Q2,a2,h,k⟩=>⟨τ,J,_,a2,h,λb J' H' rr ee q=>k _ J' H' rr ee q⟩⟩
theorem fh (ha:RT X G a tA):RW X G (.BoolOp .And [a] pos) tA:=⟨L2.qi ha.run⟩
theorem gA (ha:RT X G a tA):RW X G (.BoolOp .Or [a] pos) tA:=⟨L2.wA ha.run⟩
theorem EI {σ:L2.St} {H:Hp} {Q:Bool→Hp→Prop}:LT X.K G (Jf tA tB') σ H Q→L2.G0 (LT X.K G tA) (LT X.K G tB') σ H Q:=λ⟨τ,J,Q2,a2,h,k⟩ =>
 ⟨τ,J,_,a2,h,λb J' H' rr ee q=>by
  cases b with
  | true=>simp only [if_true] at q ⊢;exact ⟨τ,J',Q2,a2.go rr ee,q,λb J2 H2 r2 e2 q2=>k b J2 H2 r2 (ee.trans e2) q2⟩
  | false=>simp only [T2,if_false] at q ⊢;exact k _ J' H' rr ee q⟩
theorem IP {σ:L2.St} {H:Hp} {Q:Bool→Hp→Prop}:LT X.K G (RU tA tB') σ H Q→L2.PU (LT X.K G tA) (LT X.K G tB') σ H Q:=λ⟨τ,J,Q2,a2,h,k⟩ =>
 ⟨τ,J,_,a2,h,λb J' H' rr ee q=>by
  cases b with
  | false=>simp only [T2,if_false] at q ⊢;exact ⟨τ,J',Q2,a2.go rr ee,q,λb J2 H2 r2 e2 q2=>k b J2 H2 r2 (ee.trans e2) q2⟩
  | true=>simp only [if_true] at q ⊢;exact k _ J' H' rr ee q⟩
theorem gy (ha:RT X G a tA) (hb:RW X G (.BoolOp .And (b :: rest) pos) tB'):RW X G (.BoolOp .And (a :: b :: rest) pos) (Jf tA tB'):=⟨SX (L2.wz ha.run hb.run) λσ H Q h=>EI h⟩
theorem kO (ha:RT X G a tA) (hb:RW X G (.BoolOp .Or (b :: rest) pos) tB'):RW X G (.BoolOp .Or (a :: b :: rest) pos) (RU tA tB'):=⟨SX (L2.Ce ha.run hb.run) λσ H Q h=>IP h⟩
theorem dR (h:RW X G e tA):RT X G e tA:=⟨h.run.pt⟩
def KH (ta tb:c4):c4:=λτ J Q=>ta τ J λx J1=>Kl x λc=>if c=true then tb τ J1 Q else Q (.bl false) J1
def Po (ta tb:c4):c4:=λτ J Q=>ta τ J λx J1=>Kl x λc=>if c=true then Q (.bl true) J1 else tb τ J1 Q
def KO (ta:c4):c4:=λτ J Q=>ta τ J λx J1=>Kl x λc=>Q (.bl (!c)) J1
theorem wF {op} (h:RE X G a ta):RE X G (.BoolOp op [a] pos) ta:=⟨L2.AE h.run⟩
theorem AS (ha:RE X G a ta) (hb:RE X G (.BoolOp .And (b :: rest) pos) tb):RE X G (.BoolOp .And (a :: b :: rest) pos) (KH ta tb):=⟨lp (L2.AA ha.run hb.run) λσ H Q ⟨τ,J,Q2,a2,h,k⟩ =>
 ⟨τ,J,_,a2,h,λx J' v H' rx rr ee qq=>by
  obtain ⟨c,ec,q⟩:=oF qq
  subst ec
  refine ⟨c,rx,?_⟩
  cases c with
  | true=>simp only [if_true] at q ⊢;exact ⟨τ,J',Q2,a2.go rr ee,q,λz J2 u H2 rz r2 e2 q2=>k z J2 u H2 rz r2 (ee.trans e2) q2⟩
  | false=>simp only [T2,if_false] at q ⊢;exact k (.bl false) J' _ H' rfl rr ee q⟩⟩
theorem PC (ha:RE X G a ta) (hb:RE X G (.BoolOp .Or (b :: rest) pos) tb):RE X G (.BoolOp .Or (a :: b :: rest) pos) (Po ta tb):=⟨lp (L2.Gf ha.run hb.run) λσ H Q ⟨τ,J,Q2,a2,h,k⟩ =>
 ⟨τ,J,_,a2,h,λx J' v H' rx rr ee qq=>by
  obtain ⟨c,ec,q⟩:=oF qq
  subst ec
  refine ⟨c,rx,?_⟩
  cases c with
  | false=>simp only [T2,if_false] at q ⊢;exact ⟨τ,J',Q2,a2.go rr ee,q,λz J2 u H2 rz r2 e2 q2=>k z J2 u H2 rz r2 (ee.trans e2) q2⟩
  | true=>simp only [if_true] at q ⊢;exact k (.bl true) J' _ H' rfl rr ee q⟩⟩
theorem MW (ha:RE X G a ta):RE X G (.UnaryOp .Not a pos) (KO ta):=⟨lp (L2.AD ha.run) λσ H Q ⟨τ,J,Q2,a2,h,k⟩ =>
 ⟨τ,J,_,a2,h,λx J' v H' rx rr ee qq=>by obtain ⟨c,ec,q⟩:=oF qq;subst ec;exact ⟨c,rx,k (.bl (!c)) J' _ H' rfl rr ee q⟩⟩⟩
def S3 (t:l9) (ta tb:c4):c4:=λτ J Q=>t τ J λc J1=>if c=true then ta τ J1 Q else tb τ J1 Q
theorem Pz (hc:RT X G c tA) (ha:RE X G a ta) (hb:RE X G b tb):RE X G (.IfExp c a b pos) (S3 tA ta tb):=⟨lp (L2.rF hc.run ha.run hb.run) λσ H Q ⟨τ,J,Q2,a2,h,k⟩ =>
 ⟨τ,J,_,a2,h,λc J' H' rr ee q=>by
  cases c with
  | true=>simp only [if_true] at q ⊢;exact ⟨τ,J',Q2,a2.go rr ee,q,λz J2 u H2 rz r2 e2 q2=>k z J2 u H2 rz r2 (ee.trans e2) q2⟩
  | false=>simp only [T2,if_false] at q ⊢;exact ⟨τ,J',Q2,a2.go rr ee,q,λz J2 u H2 rz r2 e2 q2=>k z J2 u H2 rz r2 (ee.trans e2) q2⟩⟩⟩
def ub:o8:=λ_ J Q=>Q [] J
def kL (ta:c4) (tr:o8):o8:=λτ J Q=>ta τ J λx J1=>tr τ J1 λxs J2=>Q (x :: xs) J2
theorem ag:RA X G [] ub:=⟨RC L2.bH λσ H Q ⟨τ,J,Q2,a2,h,k⟩=>k [] J [] H rfl a2.hp .refl h⟩
theorem af (ha:RE X G e te) (hr:RA X G es t) (hs:starEach (e :: es) X.env=(false,eval e X.env) :: starEach es X.env:=by rfl):RA X G (e :: es) (kL te t) :=
 ⟨RC (L2.aT ha.run hr.run hs) λσ H Q ⟨τ,J,Q2,a2,h,k⟩=>⟨τ,J,_,a2,h,λx J' v H' rx rr ee q=>⟨τ,J',_,a2.go rr ee,q,λxs J2 vs H2 rs r2 e2 q2=>k (x :: xs) J2 (v :: vs) H2 ⟨v,vs,rfl,e2.rep rx,rs⟩ r2 (ee.trans e2) q2⟩⟩⟩
def vP:V→PV
 | .non=>.non | .bl b=>.bl b | .int i=>.int i | .str x=>.str x | _=>.non
theorem rM {K:PySem.W.Frag} {J:Hq} {H:Hp}:∀{es:List Expr} {vs:List V},es.map vC=vs.map some→aJ K J H (vs.map vP) vs
 | [],[],_=>rfl
 | [],_ :: _,h=>by cases h
 | _ :: _,[],h=>by cases h
 | e :: es,v :: vs,h=>by
  rw [TL,TL] at h
  injection h with h1 h2
  refine ⟨v,vs,rfl,?_,rM h2⟩
  cases e with
  | Constant c j pos =>
   cases c with
   | int i=>cases h1;rfl
   | str x=>cases h1;rfl
   | bool b=>cases h1;rfl
   | _=>cases h1
  | _=>cases h1
theorem AR {es:List Expr} (vs:List V) (h:es.map vC=vs.map some) (xs:List PV) (hx:vs.map vP=xs):RA X G es (λ_ J Q=>Q xs J) :=
 ⟨RC (rD vs h) λσ H Q ⟨τ,J,Q2,a2,q,k⟩=>k _ J _ H (by rw [← hx];exact rM h) a2.hp .refl q⟩
def Px (t:o8):c4:=λτ J Q=>t τ J λxs J1=>xs.length≤sizeLine∧Q (.tup xs) J1
theorem cx {x1} (h:RA X G es t):RE X G (.Tuple es x1 pos) (Px t):=⟨lp (L2.rG h.run) λσ H Q ⟨τ,J,Q2,a2,h,k⟩=>⟨τ,J,_,a2,h,λxs J' vs H' rs rr ee ⟨hl,q⟩ =>
 ⟨by rw [← rs.length];exact hl,λp hp=>by
  have sm:=bB.new hp (.tup vs)
  have e2:=Ext.same (K:=X.K) (J:=J') sm
  exact k (.tup xs) J' (.ref p) _ ⟨p,vs,rfl,.inl (.inl aE),e2.jq rs⟩ (rr.same sm) (ee.trans e2) q⟩⟩⟩
def Pm (t:o8):c4:=λτ J Q=>t τ J λxs J1=>xs.length≤sizeLine∧∀p,J1 p=none→Q (.ref p) (put J1 p (.lst xs))
theorem oN (h:RA X G es t):RE X G (.List es pos) (Pm t):=⟨lp (L2.kr h.run) λσ H Q ⟨τ,J,Q2,a2,h,k⟩=>⟨τ,J,_,a2,h,λxs J' vs H' rs rr ee ⟨hl,q⟩ =>
 ⟨by rw [← rs.length];exact hl,λp hp=>k (.ref p) _ (.ref p) _ rfl (rr.Fu hp rs) (ee.trans (.laid hp)) (q p (rr.free hp))⟩⟩⟩
def S2 (t:o8):c4:=λτ J Q=>t τ J λxs J1=>xs.length≤sizeLine∧Q (.fl xs) J1
theorem vR {K:PySem.W.Frag} {J:Hq} {H:Hp} {xs:List PV} {vs:List V} {p:Addr} (rr:Rep K J H) (rs:aJ K J H xs vs) (hp:H p=none):cv K J (upd H p (.lst vs)) (.fl xs) (.ref p)∧Rep K J (upd H p (.lst vs))∧Ext K J H J (upd H p (.lst vs)):=by
 have sm:=bB.new hp (.lst vs)
 have e2:=Ext.same (K:=K) (J:=J) sm
 exact ⟨⟨p,vs,rfl,.inl ⟨rr.free hp,.inl aE⟩,e2.jq rs⟩,rr.same sm,e2⟩
theorem uR (h:RA X G es t):RE X G (.List es pos) (S2 t):=⟨lp (L2.kr h.run) λσ H Q ⟨τ,J,Q2,a2,h,k⟩=>⟨τ,J,_,a2,h,λxs J' vs H' rs rr ee ⟨hl,q⟩ =>
 ⟨by rw [← rs.length];exact hl,λp hp=>let ⟨x1,x2,x3⟩:=vR rr rs hp;k (.fl xs) _ (.ref p) _ x1 x2 (ee.trans x3) q⟩⟩⟩
abbrev JU:=Sr→Hq→(Option Int→Hq→Prop)→Prop
def LO (K:PySem.W.Frag) (G:G2) (t:JU):TO:=λσ H Q=>∃τ J Q2,xC K G τ J σ H∧t τ J Q2∧∀b J' H',Rep K J' H'→Ext K J H J' H'→Q2 b J'→Q b H'
structure RO (X:Cx) (G:G2) (e:Option Expr) (t:JU):Prop where
 run:L2.PO X e (LO X.K G t)
theorem SV {X:Cx} {e:Option Expr} {t t':TO} (h:L2.PO X e t) (k:∀σ H Q,t' σ H Q→t σ H Q):L2.PO X e t':=λpins s σ H Q I q=>h pins s σ H Q I (k _ _ _ q)
def Cm:JU:=λ_ J Q=>Q none J
def KP (t:c4):JU:=λτ J Q=>t τ J λx J1=>Ei x λi=>Q (some i) J1
theorem lD:RO X G none Cm:=⟨SV L2.qg λσ H Q ⟨τ,J,Q2,a2,h,k⟩=>k none J H a2.hp .refl h⟩
theorem ju (h:RE X G e te):RO X G (some e) (KP te):=⟨SV (L2.ly h.run) λσ H Q ⟨τ,J,Q2,a2,h,k⟩=>⟨τ,J,_,a2,h,λx J' v H' rx rr ee qq=>by obtain ⟨i,ei,q⟩:=g9 qq;subst ei;exact ⟨i,rx,k _ J' H' rr ee q⟩⟩⟩
abbrev Dc:=PV→Option Int→Option Int→Hq→(PV→Hq→Prop)→Prop
def QF (X:Cx) (q:Dc):Prop:=∃r,tI X r∧∀J H x lo hi v Q2 Q,cv X.K J H x v→Rep X.K J H→q x lo hi J Q2→Kn X.K J H Q2 Q→r v lo hi H Q
def S6 (q:Dc) (te:c4) (tl th:JU):c4:=λτ J Q=>te τ J λx J1=>tl τ J1 λl J2=>th τ J2 λu J3=>q x l u J3 Q
theorem iS {lo hi:Option Expr} {tl th:JU} {q:Dc} (hr:QF X q) (he:RE X G e te) (hl:RO X G lo tl) (hu:RO X G hi th):RE X G (.Subscript e (.Slice lo hi none p2) pos) (S6 q te tl th):=by
 obtain ⟨r,h,lr⟩:=hr
 exact ⟨lp (L2.ku h he.run hl.run hu.run) λσ H Q ⟨τ,J,Q2,a2,h,k⟩=>⟨τ,J,_,a2,h,λx J' v H' rx rr ee q1=>⟨τ,J',_,a2.go rr ee,q1,λl J2 H2 r2 e2 q2 =>
  ⟨τ,J2,_,a2.go r2 (ee.trans e2),q2,λu J3 H3 r3 e3 q3=>lr J3 H3 x l u v Q2 Q ((e2.trans e3).rep rx) r3 q3 λz J4 w H4 rz r4 e4 q4=>k z J4 w H4 rz r4 (((ee.trans e2).trans e3).trans e4) q4⟩⟩⟩⟩
def Pe (q:zQ) (t:o8):c4:=λτ J Q=>t τ J λxs J1=>q xs J1 Q
theorem Bu {r:List V→Hp→VK→Prop} {q:zQ} (lr:Sx X.K r q):∀σ H Q,LE X.K G (Pe q t) σ H Q→L2.K3 r (LA X.K G t) σ H Q:=λσ H Q ⟨τ,J,Q2,a2,h,k⟩ =>
 ⟨τ,J,_,a2,h,λxs J1 vs H1 rs r1 e1 q1=>lr J1 H1 xs vs Q2 Q rs r1 q1 λz J' u H' rz rr ee qq=>k z J' u H' rz rr (e1.trans ee) qq⟩
theorem aQ {id:String} {q:zQ} (hc:JR X (.builtin id) q) (hg:Gl X x) (hm:X.mg x=none) (hv:bootBuiltins x=some (.builtin id)) (ha:RA X G (e :: es) t) (hn:x≠"__name__":=by decide) (hdb:(x == ("__debug__":Str))=false:=by decide)
  (he:starEach (e :: es) X.env=(false,eval e X.env) :: starEach es X.env:=by rfl) (hpl:(backTo pos (starEach es X.env)).any (·.1)=false:=by rfl):RE X G (.Call (.Name x p) (e :: es) [] pos) (Pe q t):=by
 obtain ⟨r,h,lr⟩:=hc
 exact ⟨lp (L2.dP h hg hm hv ha.run hn hdb he hpl) (Bu lr)⟩
theorem cZ {T:String} {q:zQ} (hc:JR X (.type T) q) (hg:Gl X x) (hm:X.mg x=none) (hv:bootBuiltins x=some (.type T)) (ha:RA X G (e :: es) t) (hn:x≠"__name__":=by decide) (hdb:(x == ("__debug__":Str))=false:=by decide)
  (he:starEach (e :: es) X.env=(false,eval e X.env) :: starEach es X.env:=by rfl) (hpl:(backTo pos (starEach es X.env)).any (·.1)=false:=by rfl):RE X G (.Call (.Name x p) (e :: es) [] pos) (Pe q t):=by
 obtain ⟨r,h,lr⟩:=hc
 exact ⟨lp (L2.oH h hg hm hv ha.run hn hdb he hpl) (Bu lr)⟩
abbrev Ef:=PV→List PV→Hq→(PV→Hq→Prop)→Prop
def Lj (X:Cx) (T id:String) (q:Ef):Prop:=∃r,pX X id r∧∀J H x xs v vs Q2 Q,cv X.K J H x v→aJ X.K J H xs vs→Rep X.K J H→q x xs J Q2→Kn X.K J H Q2 Q→r v vs H Q
def NK (T:String) (J:Hq):PV→Prop
 | .str _=>T="str"
 | .fl _=>T="list"
 | .ref a=>(T="list"∧∃xs,J a=some (.lst xs))∨(T="dict"∧∃kvs ep,J a=some (.dct kvs ep))
 | _=>False
theorem CW {K:PySem.W.Frag} {T:String} {J:Hq} {H:Hp} {x:PV} {v:V} (r:cv K J H x v) (hp:Rep K J H) (h:NK T J x):L2.Qv K T v H:=by
 cases x with
 | str s=>cases r;exact h
 | fl xs=>obtain ⟨a,vs,rfl,h1,h2⟩:=r;exact .inl ⟨h,vs,h1.sq⟩
 | ref a =>
  cases r
  rcases h with ⟨h,xs,e⟩ | ⟨h,kvs,ep,e⟩
  ·obtain ⟨vs,h1,_⟩:=hp _ _ e;exact .inl ⟨h,vs,.inl (.inl h1)⟩
  ·obtain ⟨gs,h1,_⟩:=hp _ _ e;exact .inr (.inr (.inl ⟨h,.inr ⟨gs,ep,h1⟩⟩))
 | _=>cases h
def RM (T:String) (q:Ef) (to:c4) (t:o8):c4:=λτ J Q=>to τ J λx J1=>NK T J1 x∧t τ J1 λxs J2=>q x xs J2 Q
def Pd (T:String) (q:Ef) (to:c4):c4:=λτ J Q=>to τ J λx J1=>NK T J1 x∧q x [] J1 Q
theorem nE {name:Str} {T id:String} {q:Ef} (pa:PlainAttrs T) (slot:Slot T name id) (hty:typeOf (.builtin id)=pure (.type "method_descriptor")) (hm:Lj X T id q) (ho:RE X G o to) (ha:RA X G (e :: es) t)
  (hbase:attributeBase o name X.env (eval o X.env)=eval o X.env:=by rfl)
  (hfew:((backTo cpos (starEach (e :: es) X.env)).all (λx=>!x.1) && (backToKw cpos (keywordEach [] X.env)).all (λx=>x.1.isSome)
   && decide ((e :: es).length + ([]:List Keyword).length + (if ([]:List Keyword).isEmpty then 0 else 1) < 30))=true:=by rfl)
  (hline:(apos.endLine == cpos.line)=true:=by rfl) (hs:starEach (e :: es) X.env=(false,eval e X.env) :: starEach es X.env:=by rfl) (hplain:(backTo cpos (starEach es X.env)).any (·.1)=false:=by rfl) :
  RE X G (.Call (.Attribute o name apos) (e :: es) [] cpos) (RM T q to t):=by
 obtain ⟨r,h,lr⟩:=hm
 exact ⟨lp (L2.rE pa slot hty h ho.run ha.run hbase hfew hline hs hplain) λσ H Q ⟨τ,J,Q2,a2,h,k⟩=>⟨τ,J,_,a2,h,λx J1 v H1 rx r1 e1 ⟨ty,q1⟩=>⟨CW rx r1 ty,τ,J1,_,a2.go r1 e1,q1,λxs J2 vs H2 rs r2 e2 q2 =>
  lr J2 H2 x xs v vs Q2 Q (e2.rep rx) rs r2 q2 λz J' u H' rz rr ee qq=>k z J' u H' rz rr ((e1.trans e2).trans ee) qq⟩⟩⟩
theorem MV {name:Str} {T id:String} {q:Ef} (pa:PlainAttrs T) (slot:Slot T name id) (hty:typeOf (.builtin id)=pure (.type "method_descriptor")) (hm:Lj X T id q) (ho:RE X G o to)
  (hbase:attributeBase o name X.env (eval o X.env)=eval o X.env:=by rfl) (hline:(apos.endLine == cpos.line)=true:=by rfl):RE X G (.Call (.Attribute o name apos) [] [] cpos) (Pd T q to):=by
 obtain ⟨r,h,lr⟩:=hm
 exact ⟨lp (L2.MC pa slot hty h ho.run hbase hline) λσ H Q ⟨τ,J,Q2,a2,h,k⟩=>⟨τ,J,_,a2,h,λx J1 v H1 rx r1 e1 ⟨ty,q1⟩=>⟨CW rx r1 ty,
  lr J1 H1 x [] v [] Q2 Q rx rfl r1 q1 λz J' u H' rz rr ee qq=>k z J' u H' rz rr (e1.trans ee) qq⟩⟩⟩
end
end Ov
namespace Ov
open PySem PySem.Spec PyProof.Rows
open L2 (V HO Hp Inv Cx VK XK TE TT TA TS TG pY TI TO jX Ends xD Loc Gl Rd RelV Vals fm xO bY pW tI pX jW R2 upd aE aO cW gK Sp sF It bB c5 bK Passes pG aD Meth Mk Binds aL bZ aw de f9 eO)
abbrev cF:=List PV→Hq→(PV→Hq→Prop)→(Addr→Hq→Prop)→Prop
def Ld (K:PySem.W.Frag) (J:Hq) (H:Hp) (E2:Addr→Hq→Prop) (E:XK):Prop:=∀c J' H',Rep K J' H'→Ext K J H J' H'→E2 c J'→E (.ref c) none H'
def dn (K:PySem.W.Frag) (sp:cF):Sp:=λvs H Q E=>∃xs J Q2 E2,aJ K J H xs vs∧Rep K J H∧sp xs J Q2 E2∧Kn K J H Q2 Q∧Ld K J H E2 E
theorem Ld.ext {K:PySem.W.Frag} {J J':Hq} {H H':Hp} {E2:Addr→Hq→Prop} {E:XK} (k:Ld K J H E2 E) (e:Ext K J H J' H'):Ld K J' H' E2 E:=λc J1 H1 r x q=>k c J1 H1 r (e.trans x) q
theorem _root_.L2.aL.Tf {P:Program} {w:World} {K:PySem.W.Frag} {mg:Str→Option Value} {base:Heap} {k:Nat} {f:Addr} {fd:FuncData} {ps:List Str} {sp:Sp} (F:aL P w K mg base L2.qw k f fd ps sp):aL P w K mg base (cV P w) k f fd ps sp :=
 ⟨F.len,λA outer s H args us vs Q E hr he hb hv hs=>codeAny_mono (F.run A outer s H args us vs Q E hr he hb hv hs) λr s' q=>by
  cases r with
  | error e=>exact False.elim q
  | ok fl=>cases fl <;> exact q⟩
theorem _root_.L2.aL.Qa {P:Program} {w:World} {K:PySem.W.Frag} {mg:Str→Option Value} {base:Heap} {k:Nat} {f:Addr} {fd:FuncData} {ps:List Str} {sp:Sp} (F:aL P w K mg base (cV P w) k f fd ps sp):aL P w K mg base L2.qw k f fd ps (λvs H Q _=>sp vs H Q L2.E0) :=
 ⟨λvs H Q E q=>F.len vs H Q _ q,λA outer s H args us vs Q E hr he hb hv hs=>codeAny_mono (F.run A outer s H args us vs Q _ hr he hb hv hs) λr s' q=>by
  cases r with
  | error e=>obtain ⟨_,_,_,_,_,z⟩:=q;exact z.elim
  | ok fl=>cases fl <;> exact q⟩
def bp (P:Program) (w:World) (K:PySem.W.Frag) (mg:Str→Option Value) (base:Heap) (k:Nat) (x:Str) (ps:List Str) (sp:cF):Prop:=Em P w K mg base k x ps (dn K sp)
theorem _root_.Ov.sG.lift {P:Program} {w:World} {K:PySem.W.Frag} {mg:Str→Option Value} {base:Heap} {k:Nat} {x:Str} {ps:List Str} {sp:Sp} (C:sG P w K mg base k x ps sp) {sp':cF}
  (h:∀xs J vs H Q2 E2 Q E,aJ K J H xs vs→Rep K J H→sp' xs J Q2 E2→Kn K J H Q2 Q→sp vs H Q E):bp P w K mg base k x ps sp':=by
 obtain ⟨f,fd,F,r⟩:=C
 exact ⟨f,fd,(F.Tf).imp λvs H Q E ⟨xs,J,Q2,E2,a,b,c,d,_⟩=>h xs J vs H Q2 E2 Q E a b c d,r⟩
theorem Em.lift {P:Program} {w:World} {K:PySem.W.Frag} {mg:Str→Option Value} {base:Heap} {k:Nat} {x:Str} {ps:List Str} {sp:Sp} (C:Em P w K mg base k x ps sp) {sp':cF}
  (h:∀xs J vs H Q2 E2 Q E,aJ K J H xs vs→Rep K J H→sp' xs J Q2 E2→Kn K J H Q2 Q→Ld K J H E2 E→sp vs H Q E):bp P w K mg base k x ps sp':=by
 obtain ⟨f,fd,F,r⟩:=C
 exact ⟨f,fd,F.imp λvs H Q E ⟨xs,J,Q2,E2,a,b,c,d,e⟩=>h xs J vs H Q2 E2 Q E a b c d e,r⟩
section
variable {X:Cx} {G:G2} {a b c e o value:Expr} {es rest:List Expr} {ta tb te tc to tv:c4} {tA tB':l9} {t:o8} {pos px p p2 apos cpos pos':Pos} {x:Str} {i j:Nat} {E:XK} {E2:Addr→Hq→Prop}
structure Ee (X:Cx) (G:G2) (E2:Addr→Hq→Prop) (E:XK):Prop where
 pass:Passes (cV X.prog X.w) X E
 kn:Ld X.K G.1 G.2 E2 E
def yR (sp:cF) (E2:Addr→Hq→Prop) (t:o8):c4:=λτ J Q=>t τ J λxs J1=>sp xs J1 Q E2
theorem aS {k k':Nat} {ps:List Str} {sp:cF} (C:bp X.prog X.w X.K X.mg X.base k x ps sp) (B:Ee X G E2 E) (hr:bK k' X.A) (ha:RA X G (e :: es) t) (hk:k≤k':=by decide) (hg:Gl X x:=by rfl)
  (hdb:(x == ("__debug__":Str))=false:=by decide) (he:starEach (e :: es) X.env=(false,eval e X.env) :: starEach es X.env:=by rfl) (hpl:(backTo pos (starEach es X.env)).any (·.1)=false:=by rfl) :
  RE X G (.Call (.Name x p) (e :: es) [] pos) (yR sp E2 t) :=
 ⟨lp (IT C B.pass hr hk hg ha.run hdb he hpl) λσ H Q ⟨τ,J,Q2,a2,h,k⟩=>⟨τ,J,_,a2,h,λxs J1 vs H1 rs r1 e1 q1=>by
  simp only [Uq]
  exact ⟨xs,J1,Q2,E2,rs,r1,q1,λz J' u H' rz rr ee qq=>k z J' u H' rz rr (e1.trans ee) qq,B.kn.ext (a2.ext.trans e1)⟩⟩⟩
def Pf (C:Addr) (ta:c4) (f:Str):c4:=λτ J Q=>ta τ J λx J1=>B3 x λa=>Mn C (J1 a) λfs=>uO (fs.lookup f) λv=>Q v J1
theorem aR {C:Addr} {f:Str} (cl:pG X.K C) (na:aD X.K C f) (he:RE X G e ta) (hb:attributeBase e f X.env (eval e X.env)=eval e X.env:=by rfl):RE X G (.Attribute e f pos) (Pf C ta f) :=
 ⟨lp (L2.ME he.run hb) λσ H Q ⟨τ,J,Q2,a2,h,k⟩=>⟨τ,J,_,a2,h,λx J1 v H1 rx r1 e1 hh=>by
  obtain ⟨a,ex,hh⟩:=gm hh;obtain ⟨fs,ja,hh⟩:=Av hh;obtain ⟨y,lk,q⟩:=dZ hh
  subst ex;cases rx
  obtain ⟨dx,gs,ha,rf⟩:=r1 _ _ ja
  obtain ⟨w,lw,rw'⟩:=rf.look lk
  exact ⟨a,C,dx,gs,w,rfl,ha,cl,na,lw,k y J1 w H1 rw' r1 e1 q⟩⟩⟩
structure cu (P:Program) (w:World) (K:PySem.W.Frag) (mg:Str→Option Value) (base:Heap) (C:Addr) (k:Nat) (m:Str) (ps:List Str) (sp:cF):Prop where
 cl:pG K C
 ex:∃f fd,Meth K C m f∧aL P w K mg base (cV P w) k f fd ps (dn K sp)∧Binds K fd ps []
theorem cu.imp {P:Program} {w:World} {K:PySem.W.Frag} {mg:Str→Option Value} {base:Heap} {C:Addr} {k:Nat} {m:Str} {ps:List Str} {sp sp':cF} (M:cu P w K mg base C k m ps sp) (h:∀xs J Q E,sp' xs J Q E→sp xs J Q E):cu P w K mg base C k m ps sp':=by
 obtain ⟨cl,f,fd,hm,F,r⟩:=M
 exact ⟨cl,f,fd,hm,F.imp λvs H Q E ⟨xs,J,Q2,E2,a,b,c,d⟩=>⟨xs,J,Q2,E2,a,b,h _ _ _ _ c,d⟩,r⟩
def Jj (C:Addr) (m:Str) (sp:cF) (E2:Addr→Hq→Prop) (ta:c4) (t:o8):c4:=λτ J Q=>ta τ J λx J1=>B3 x λa=>Mn C (J1 a) λfs=>fs.lookup m=none∧t τ J1 λxs J2=>sp (x :: xs) J2 Q E2
theorem yt {C:Addr} {m:Str} {sp:cF} (B:Ee X G E2 E):∀σ H Q,LE X.K G (Jj C m sp E2 to t) σ H Q→L2.G5 C m (dn X.K sp) [] E (LE X.K G to) (LA X.K G t) σ H Q:=λσ H Q ⟨τ,J,Q2,a2,h,k⟩ =>
 ⟨τ,J,_,a2,h,λx J1 v H1 rx r1 e1 hh=>by
  obtain ⟨a,ex,hh⟩:=gm hh;obtain ⟨fs,ja,lk,q⟩:=Av hh
  subst ex;cases rx
  obtain ⟨dx,gs,ha,rf⟩:=r1 _ _ ja
  refine ⟨a,dx,gs,rfl,ha,rf.none lk,τ,J1,_,a2.go r1 e1,q,λxs J2 vs H2 rs r2 e2 q2=>?_⟩
  simp only [Uq]
  exact ⟨.ref a :: xs,J2,Q2,E2,⟨.ref a,vs,rfl,rfl,rs⟩,r2,q2,λz J' u H' rz rr ee qq=>k z J' u H' rz rr ((e1.trans e2).trans ee) qq,B.kn.ext ((a2.ext.trans e1).trans e2)⟩⟩
theorem bz {C:Addr} {m:Str} {k k':Nat} {ps:List Str} {sp:cF} {pl:Sem Bool} (M:cu X.prog X.w X.K X.mg X.base C k m ps sp) (B:Ee X G E2 E) (hr:bK k' X.A) (ho:RE X G o to) (ha:RA X G (e :: es) t) (hk:k≤k':=by decide)
  (hst:starEach (e :: es) X.env=(false,eval e X.env) :: starEach es X.env:=by rfl) (hpl:(backTo pos (starEach es X.env)).any (·.1)=false:=by rfl)
  (ht:eval (.Call (.Attribute o m apos) (e :: es) [] pos) X.env=(do
   let ov ← eval o X.env
   standAt apos.atName
   let (f,first) ← holding [ov] (getMethod ov m pl)
   callWith pos f first (backTo pos (starEach (e :: es) X.env)) (backToKw pos (keywordEach [] X.env))):=by rfl) :
  RE X G (.Call (.Attribute o m apos) (e :: es) [] pos) (Jj C m sp E2 to t):=by
 obtain ⟨cl,f,fd,hm,F,b⟩:=M
 exact ⟨lp (L2.IW (pl:=pl) ho.run cl hm F (hr.mono hk) b .nil B.pass ha.run hst hpl ht) (yt B)⟩
theorem bC {C:Addr} {m:Str} {k k':Nat} {ps:List Str} {sp:cF} {pl:Sem Bool} (M:cu X.prog X.w X.K X.mg X.base C k m ps sp) (B:Ee X G E2 E) (hr:bK k' X.A) (ho:RE X G o to) (hk:k≤k':=by decide)
  (ht:eval (.Call (.Attribute o m apos) [] [] pos) X.env=(do
   let ov ← eval o X.env
   standAt apos.atName
   let (f,first) ← holding [ov] (getMethod ov m pl)
   callWith pos f first (backTo pos (starEach [] X.env)) (backToKw pos (keywordEach [] X.env))):=by rfl) :
  RE X G (.Call (.Attribute o m apos) [] [] pos) (Jj C m sp E2 to ub):=by
 obtain ⟨cl,f,fd,hm,F,b⟩:=M
 refine ⟨lp (L2.Ge (pl:=pl) ho.run cl hm F (hr.mono hk) b .nil B.pass ht) λσ H Q h=>?_⟩
 have z:=yt B σ H Q h
 obtain ⟨τ,J,Q2,a2,h1,k1⟩:=z
 refine ⟨τ,J,Q2,a2,h1,λx J1 v H1 rx r1 e1 q1=>?_⟩
 obtain ⟨a,dx,fs,h2,h3,h4,τ',J',Q',a2',h5,k5⟩:=k1 x J1 v H1 rx r1 e1 q1
 exact ⟨a,dx,fs,h2,h3,h4,k5 [] J' [] H1 rfl a2'.hp .refl h5⟩
structure vq (P:Program) (w:World) (K:PySem.W.Frag) (mg:Str→Option Value) (base:Heap) (C:Addr) (k:Nat) (x:Str) (ps:List Str) (sp:cF):Prop where
 m:mg x=some (.ref C)
 ex:∃f fd,Mk K C f∧aL P w K mg base (cV P w) k f fd ps (dn K sp)∧Binds K fd ps []
def Ji (C:Addr) (sp:cF) (E2:Addr→Hq→Prop) (t:o8):c4:=λτ J Q=>t τ J λxs J1=>∀a,J1 a=none→sp (.ref a :: xs) (put J1 a (.ins C [])) (λv J2=>v=.non∧Q (.ref a) J2) E2
theorem yo {C:Addr} {sp:cF} (B:Ee X G E2 E):∀σ H Q,LE X.K G (Ji C sp E2 t) σ H Q→L2.G4 C (dn X.K sp) [] E (LA X.K G t) σ H Q:=λσ H Q ⟨τ,J,Q2,a2,h,k⟩ =>
 ⟨τ,J,_,a2,h,λxs J1 vs H1 rs r1 e1 q1 x dx hx hdx ne=>by
  have s1:=bB.new hdx (.own x)
  have hx':upd H1 dx (.own x) x=none:=by rw [aO (Ne.symm ne)];exact hx
  have r2:=r1.same s1
  have e2:Ext X.K J1 H1 (put J1 x (.ins C [])) (upd (upd H1 dx (.own x)) x (.ins C dx [])):=(Ext.same s1).trans (.laid hx')
  have r3:Rep X.K (put J1 x (.ins C [])) (upd (upd H1 dx (.own x)) x (.ins C dx [])):=r2.Bk (.laid hx') x (λa ne=>ak ne) (λa o ne _ z=>by rw [aO ne];exact z) λu z=>by
   rw [aq] at z;cases z
   exact ⟨dx,[],aE,rfl,rfl⟩
  simp only [Uq]
  refine ⟨.ref x :: xs,_,_,E2,⟨.ref x,vs,rfl,rfl,e2.jq rs⟩,r3,q1 x (r1.free hx),λz J' u H' rz rr ee ⟨ez,qq⟩=>?_,B.kn.ext ((a2.ext.trans e1).trans e2)⟩
  subst ez
  exact ⟨rz,k (.ref x) J' (.ref x) H' rfl rr ((e1.trans e2).trans ee) qq⟩⟩
theorem Cn {C:Addr} {k k':Nat} {ps:List Str} {sp:cF} (M:vq X.prog X.w X.K X.mg X.base C k x ps sp) (B:Ee X G E2 E) (hr:bK k' X.A) (ha:RA X G (e :: es) t) (hk:k + 1≤k':=by decide) (hg:Gl X x:=by rfl)
  (hdb:(x == ("__debug__":Str))=false:=by decide) (he:starEach (e :: es) X.env=(false,eval e X.env) :: starEach es X.env:=by rfl) (hpl:(backTo pos (starEach es X.env)).any (·.1)=false:=by rfl) :
  RE X G (.Call (.Name x p) (e :: es) [] pos) (Ji C sp E2 t):=by
 obtain ⟨hm,f,fd,mk,F,b⟩:=M
 exact ⟨lp (L2.IV mk F (hr.mono hk) hg hm b .nil B.pass ha.run hdb he hpl) (yo B)⟩
theorem nF {C:Addr} {k k':Nat} {ps:List Str} {sp:cF} (M:vq X.prog X.w X.K X.mg X.base C k x ps sp) (B:Ee X G E2 E) (hr:bK k' X.A) (hk:k + 1≤k':=by decide) (hg:Gl X x:=by rfl)
  (hdb:(x == ("__debug__":Str))=false:=by decide):RE X G (.Call (.Name x p) [] [] pos) (Ji C sp E2 ub):=by
 obtain ⟨hm,f,fd,mk,F,b⟩:=M
 refine ⟨lp (L2.Gb mk F (hr.mono hk) hg hm b .nil B.pass hdb) λσ H Q h=>?_⟩
 obtain ⟨τ,J,Q2,a2,h1,k1⟩:=yo (t:=ub) B σ H Q h
 exact k1 [] J [] H rfl a2.hp .refl h1
end
section
variable {X:Cx} {G:G2} {st:Stmt} {rest:List Stmt} {t u:iX} {e tg o value:Expr} {es:List Expr} {te ta tv:c4} {tc:l9} {pos pos':Pos}
def rL:iX:=λD τ J=>D.nx τ J
def bS (t u:iX):iX:=λD τ J=>t { D with nx:=u D } τ J
theorem aK:RB X G [] rL:=⟨RD L2.fU λD σ H ⟨τ,J,D2,a2,h,g⟩=>g.nx τ J σ H a2.sl a2.hp .refl h⟩
theorem ai (h1:RS X G st t) (h2:RB X G rest u):RB X G (st :: rest) (bS t u):=⟨RD (L2.aW h1.run h2.run) λD σ H ⟨τ,J,D2,a2,h,g⟩=>⟨τ,J,{ D2 with nx:=u D2 },a2,h,
 { nx:=λτ' J' σ' H' rs rr ee q=>⟨τ',J',D2,⟨rs,rr,a2.ext.trans ee⟩,q,g.ext ee⟩,rt:=g.rt,bk:=g.bk,ct:=g.ct }⟩⟩
theorem ar (h1:RS X G st t):RB X G [st] t:=⟨L2.bI h1.run⟩
def Gu (t u:iX):iX:=λD τ J=>∃M:Sr→Hq→Prop,t { D with nx:=M } τ J∧∀τ' J',M τ' J'→u D τ' J'
theorem dw (h1:RS X G st t) (h2:RB X G rest u):RB X G (st :: rest) (Gu t u):=⟨RD (L2.aW h1.run h2.run) λD σ H ⟨τ,J,D2,a2,⟨M,h,hm⟩,g⟩=>⟨τ,J,{ D2 with nx:=M },a2,h,
 { nx:=λτ' J' σ' H' rs rr ee q=>⟨τ',J',D2,⟨rs,rr,a2.ext.trans ee⟩,hm _ _ q,g.ext ee⟩,rt:=g.rt,bk:=g.bk,ct:=g.ct }⟩⟩
def RN:iX:=λD τ J=>D.bk τ J
def RP:iX:=λD τ J=>D.ct τ J
def Ck (te:c4):iX:=λD τ J=>te τ J λ_ J1=>D.nx τ J1
theorem a7 (he:RE X G e te) (hs:swapsWith e none pos.line X.env=pure false:=by rfl):RS X G (.Expr e pos) (Ck te):=⟨AI (L2.lz he.run hs) λD σ H ⟨τ,J,D2,a2,h,g⟩ =>
 ⟨τ,J,_,a2,h,λx J' v H' rx rr ee q=>g.nx τ J' σ H' (a2.sl.ext ee) rr ee q⟩⟩
def Pr (te:c4):iX:=λD τ J=>te τ J D.rt
theorem aA (he:RE X G e te):RS X G (.Return (some e) pos) (Pr te):=⟨AI (L2.dH he.run) λD σ H ⟨τ,J,D2,a2,h,g⟩=>⟨τ,J,_,a2,h,λx J' v H' rx rr ee q=>g.rt x J' v H' rx rr ee q⟩⟩
def KQ:iX:=λD _ J=>D.rt .non J
theorem Jq:RS X G (.Return none pos) KQ:=⟨AI L2.wt λD σ H ⟨τ,J,D2,a2,h,g⟩=>g.rt .non J .non H rfl a2.hp .refl h⟩
def AQ (c:l9) (t u:iX):iX:=λD τ J=>c τ J λb J1=>if b=true then t D τ J1 else u D τ J1
theorem aZ {c:Expr} {a b:List Stmt} (hc:RT X G c tc) (ha:RB X G a t) (hb:RB X G b u):RS X G (.If c a b pos) (AQ tc t u):=⟨AI (L2.nB hc.run ha.run hb.run) λD σ H ⟨τ,J,D2,a2,h,g⟩ =>
 ⟨τ,J,_,a2,h,λc J' H' rr ee q=>by
  cases c with
  | true=>simp only [if_true] at q ⊢;exact ⟨τ,J',D2,a2.go rr ee,q,g.ext ee⟩
  | false=>simp only [T2,if_false] at q ⊢;exact ⟨τ,J',D2,a2.go rr ee,q,g.ext ee⟩⟩⟩
abbrev zR:=PV→Sr→Hq→(Sr→Hq→Prop)→Prop
abbrev xN:=List PV→Sr→Hq→(Sr→Hq→Prop)→Prop
def LG (K:PySem.W.Frag) (G:G2) (t:zR):TG:=λv σ H Q=>∃x τ J Q2,cv K J H x v∧xC K G τ J σ H∧t x τ J Q2∧∀τ' J' σ' H',l8 K J' H' τ' σ'→Rep K J' H'→Ext K J H J' H'→Q2 τ' J'→Q σ' H'
def S_ (K:PySem.W.Frag) (G:G2) (t:xN):pY:=λvs σ H Q=>∃xs τ J Q2,aJ K J H xs vs∧xC K G τ J σ H∧t xs τ J Q2∧∀τ' J' σ' H',l8 K J' H' τ' σ'→Rep K J' H'→Ext K J H J' H'→Q2 τ' J'→Q σ' H'
structure RG (X:Cx) (G:G2) (e:Expr) (t:zR):Prop where
 run:L2.PG X e (LG X.K G t)
structure Qf (X:Cx) (G:G2) (es:List Expr) (t:xN):Prop where
 run:L2.JT X es (S_ X.K G t)
theorem RF {X:Cx} {e:Expr} {t t':TG} (h:L2.PG X e t) (k:∀v σ H Q,t' v σ H Q→t v σ H Q):L2.PG X e t':=λpins s σ H v u Q I r q=>h pins s σ H v u Q I r (k _ _ _ _ q)
theorem OZ {X:Cx} {e:List Expr} {t t':pY} (h:L2.JT X e t) (k:∀v σ H Q,t' v σ H Q→t v σ H Q):L2.JT X e t':=λpins s σ H v u Q I r q=>h pins s σ H v u Q I r (k _ _ _ _ q)
def HV (i:Nat):zR:=λx τ J Q=>Q (τ.set i (some x)) J
theorem bA {i:Nat} {x:Str} (hN:X.N.Nodup) (hi:X.N[i]?=some x:=by rfl) (hx:Loc X.env.scope x:=by first | exact .inl rfl | exact .inr rfl) (hf:X.fn x=true∨X.env.scope.names.lookup x=some .local:=by first | exact .inl rfl | exact .inr rfl | assumption):RG X G (.Name x pos) (HV i) :=
 ⟨RF (L2.lq hN hi hx hf) λv σ H Q ⟨x,τ,J,Q2,rx,a2,q,k⟩=>k _ J _ H (a2.sl.set i rx) a2.hp .refl q⟩
def SG:xN:=λvs τ J Q=>Rx vs (Q τ J)
def SF (t:zR) (u:xN):xN:=λvs τ J Q=>Mo vs λv r=>t v τ J λτ' J'=>u r τ' J' Q
theorem lB:Qf X G [] SG:=⟨OZ L2.wg λvs σ H Q ⟨xs,τ,J,Q2,rs,a2,hh,k⟩=>by obtain ⟨e,q⟩:=Mr hh;subst e;exact ⟨rs,k τ J σ H a2.sl a2.hp .refl q⟩⟩
theorem cm {e:Expr} {es:List Expr} {t:zR} {u:xN} (h1:RG X G e t) (h2:Qf X G es u)
  (hs:(assignEach (e :: es) X.env).map (·.2)=assign e X.env :: (assignEach es X.env).map (·.2):=by rfl):Qf X G (e :: es) (SF t u):=⟨OZ (L2.rH h1.run h2.run hs) λvs σ H Q ⟨xs,τ,J,Q2,rs,a2,hh,k⟩=>by
 obtain ⟨y,r,e,q⟩:=IH hh
 subst e
 obtain ⟨v,us,rfl,rv,ru⟩:=rs
 exact ⟨v,us,rfl,y,τ,J,_,rv,a2,q,λτ' J' σ' H' rs' rr ee q'=>⟨r,τ',J',Q2,ee.jq ru,⟨rs',rr,a2.ext.trans ee⟩,q',λτ2 J2 σ2 H2 rs2 rr2 ee2 q2=>k τ2 J2 σ2 H2 rs2 rr2 (ee.trans ee2) q2⟩⟩⟩
def SH (n:Nat) (t:xN):zR:=λx τ J Q=>NG x λxs=>xs.length=n∧t xs τ J Q
theorem oQ {k:Nat} {t:xN} {n:Nat} (hc:X.calm=true) (h:Qf X G es t)
  (hn:(assignEach es X.env).length=n:=by rfl) (hst:(assignEach es X.env).findIdx? (·.1)=none:=by rfl):RG X G (.Tuple es k pos) (SH n t):=⟨RF (L2.AG hc h.run hn hst) λv σ H Q ⟨x,τ,J,Q2,rx,a2,hh,k⟩=>by
 obtain ⟨xs,e,l,q⟩:=F2 hh
 subst e
 obtain ⟨a,vs,rfl,h1,h2⟩:=rx
 exact ⟨a,vs,rfl,h1,by rw [← h2.length];exact l,xs,τ,J,Q2,h2,a2,q,k⟩⟩
def ua (te:c4) (g:zR):iX:=λD τ J=>te τ J λx J1=>g x τ J1 D.nx
theorem rO {tg e:Expr} {g:zR} (he:RE X G e te) (hg:RG X G tg g) (hs:swapsWithSole [tg] e pos.line X.env=pure false:=by rfl) (hw:swappedStores [tg] e X.env=pure none:=by rfl)
  (h1:(assignEach [tg] X.env).map (·.2)=[assign tg X.env]:=by rfl):RS X G (.Assign [tg] e pos) (ua te g):=⟨AI (L2.wq he.run hg.run hs hw h1) λD σ H ⟨τ,J,D2,a2,h,g⟩ =>
 ⟨τ,J,_,a2,h,λx J' v H' rx rr ee q=>⟨x,τ,J',_,rx,a2.go rr ee,q,λτ' J2 σ' H2 rs r2 e2 q2=>g.nx τ' J2 σ' H2 rs r2 (ee.trans e2) q2⟩⟩⟩
theorem aI {i:Nat} {x:Str} {pos':Pos} (hN:X.N.Nodup) (he:RE X G e te) (hi:X.N[i]?=some x:=by rfl) (hx:Loc X.env.scope x:=by first | exact .inl rfl | exact .inr rfl) (hs:swapsWith e (some (.Name x pos')) pos.line X.env=pure false:=by rfl) (hf:X.fn x=true∨X.env.scope.names.lookup x=some .local:=by first | exact .inl rfl | exact .inr rfl | assumption) :
  RS X G (.Assign [.Name x pos'] e pos) (ua te (HV i)):=⟨AI (L2.cU hN hi hx he.run hs hf) λD σ H ⟨τ,J,D2,a2,h,g⟩ =>
 ⟨τ,J,_,a2,h,λx J' v H' rx rr ee q=>g.nx _ J' _ H' ((a2.sl.ext ee).set i rx) rr ee q⟩⟩
def Pp (i j:Nat) (ta:o8):iX:=λD τ J=>ta τ J λvs J1=>Ms vs λv w=>D.nx ((τ.set i (some v)).set j (some w)) J1
theorem M0 {i j:Nat} {x y:Str} {a b:Expr} {ta:o8} {px py pt:Pos} {kt k2 pt2} (hc:X.calm=true) (hN:X.N.Nodup) (hi:X.N[i]?=some x) (hj:X.N[j]?=some y) (hij:i≠j)
  (hx:X.env.scope.names.lookup x=some .local) (hy:X.env.scope.names.lookup y=some .local) (ha:RA X G [a,b] ta)
  (hw:swappedStores [.Tuple [.Name x px,.Name y py] kt pt] (.Tuple [a,b] k2 pt2) X.env=pure (some [x,y]))
  (hs:swapsWithSole [.Tuple [.Name x px,.Name y py] kt pt] (.Tuple [a,b] k2 pt2) pos.line X.env=pure false:=by rfl) :
  RS X G (.Assign [.Tuple [.Name x px,.Name y py] kt pt] (.Tuple [a,b] k2 pt2) pos) (Pp i j ta):=⟨AI (L2.oK hc hN hi hj hij hx hy ha.run hw hs) λD σ H ⟨τ,J,D2,a2,h,g⟩ =>
 ⟨τ,J,_,a2,h,λxs J' vs H' rs rr ee hh=>by
  obtain ⟨v,w,e,q⟩:=Aw hh
  subst e
  obtain ⟨v',us,rfl,rv,w',us',rfl,rw',e'⟩:=rs
  cases e'
  exact ⟨v',w',rfl,g.nx _ J' _ H' (((a2.sl.ext ee).set i rv).set j rw') rr ee q⟩⟩⟩
def kK (f:Str) (v:PV):List (Str × PV)→List (Str × PV)
 | []=>[(f,v)]
 | (g,w) :: r=>if g=f then (g,v) :: r else (g,w) :: kK f v r
theorem yQ {K:PySem.W.Frag} {J:Hq} {H:Hp} {f:Str} {y:PV} {v:V} (r:cv K J H y v):∀{fs:List (Str × PV)} {gs:List (Str × V)},l7 K J H fs gs→l7 K J H (kK f y fs) (eO f v gs)
 | [],[],_=>⟨rfl,v,[],rfl,r,rfl⟩
 | [],_ :: _,h=>by cases h.1
 | _ :: _,[],h=>by cases h.1
 | (k,y') :: fs,(k',w) :: gs,h=>by
  obtain ⟨h1,v',us,h2,h3,h4⟩:=h
  simp only [TL,List.cons.injEq] at h1 h2
  obtain ⟨rfl,h1⟩:=h1
  obtain ⟨rfl,rfl⟩:=h2
  unfold kK L2.eO
  by_cases hk:k=f
  ·rw [if_pos hk,if_pos hk]
   exact ⟨by simp only [TL,h1],v,_,rfl,r,h4⟩
  ·rw [if_neg hk,if_neg hk]
   obtain ⟨z1,z2⟩:=yQ (f:=f) r (⟨h1,h4⟩:l7 K J H fs gs)
   exact ⟨by simp only [TL,z1],w,_,rfl,h3,z2⟩
def KJ (C:Addr) (ta tv:c4) (f:Str):iX:=λD τ J=>tv τ J λy J1=>ta τ J1 λx J2=>B3 x λa=>Mn C (J2 a) λfs=>fs.length < 1000∧D.nx τ (put J2 a (.ins C (kK f y fs)))
theorem Ext.Nl {K:PySem.W.Frag} {J:Hq} {H:Hp} {p C dx:Addr} {fs gs:List (Str × PV)} {fs' gs':List (Str × V)} (h:J p=some (.ins C fs)) (k:H p=some (.ins C dx fs')):Ext K J H (put J p (.ins C gs)) (upd H p (.ins C dx gs')):=by
 have sm:∀a u,a≠p→Rd H a u→Rd (upd H p (.ins C dx gs')) a u:=λa u ne z=>by
  rcases z with z | ⟨o,z⟩
  ·exact .inl (by rw [aO ne];exact z)
  ·exact .inr ⟨o,by rw [aO ne];exact z⟩
 have nn:∀a u,(∀c d l,u≠HO.ins c d l)→Rd H a u→a≠p:=λa u d z e=>by
  subst e
  rcases z with z | ⟨o,z⟩
  ·rw [k] at z;cases z;exact d _ _ _ rfl
  ·rw [k] at z;cases z
 refine ⟨λa vs' z=>?_,λa o z q _=>?_⟩
 ·rcases z with z | z
  ·exact .inl (sm a _ (nn a (.tup vs') (λ_ _ _ e=>nomatch e) z) z)
  ·exact .inr z
 ·have ne:a≠p:=by intro e;subst e;rw [h] at z;cases z
  exact ⟨by rw [ak ne];exact z,by rw [aO ne];exact q⟩
theorem d4 {C:Addr} {f:Str} (cl:pG X.K C) (na:aD X.K C f) (ha:RE X G o ta) (hv:RE X G value tv) (hs:swapsWith value (some (.Attribute o f pos')) pos.line X.env=pure false:=by rfl):RS X G (.Assign [.Attribute o f pos'] value pos) (KJ C ta tv f) :=
 ⟨AI (L2.MI ha.run hv.run hs) λD σ H ⟨τ,J,D2,a2,h,g⟩=>⟨τ,J,_,a2,h,λy J1 v H1 ry r1 e1 q1=>⟨τ,J1,_,a2.go r1 e1,q1,λx J2 w H2 rx r2 e2 hh=>by
  obtain ⟨a,ex,hh⟩:=gm hh;obtain ⟨fs,ja,hl,q2⟩:=Av hh
  subst ex;cases rx
  obtain ⟨dx,gs,h2,rf⟩:=r2 _ _ ja
  have ll:gs.length=fs.length:=by have:=congrArg UG rf.1;simpa using this.symm
  have e3:=Ext.Nl (K:=X.K) (gs:=kK f y fs) (gs':=eO f v gs) ja h2
  refine ⟨a,C,dx,gs,rfl,h2,cl,na,by omega,g.nx τ _ σ _ (((a2.sl.ext e1).ext e2).ext e3) ?_ ((e1.trans e2).trans e3) q2⟩
  refine r2.Bk e3 a (λb ne=>ak ne) (λb o ne _ z=>by rw [aO ne];exact z) λu z=>?_
  rw [aq] at z;cases z
  exact ⟨dx,_,aE,e3.wG (yQ (e2.rep ry) rf)⟩⟩⟩⟩
def Gw (c:l9) (tb:iX):iX:=λD τ J=>∃W:Nat→Sr→Hq→Prop,(∃m,W m τ J)∧∀m τ J,W m τ J →
 c τ J λb J1=>if b=true then ∃N:Sr→Hq→Prop,(∀τ' J',N τ' J'→∃m',m' < m∧W m' τ' J')∧tb { D with nx:=N,ct:=N,bk:=D.nx } τ J1 else D.nx τ J1
theorem nJ {c:Expr} {body:List Stmt} {tb:iX} (hp:PassesOwn (model X.prog X.w) X.A X.env X.xe) (hc:RT X G c tc) (hb:RB X G body tb):RS X G (.While c body [] pos) (Gw tc tb):=⟨AI (L2.kI hp hc.run hb.run) λD σ H ⟨τ,J,D2,a2,⟨W,⟨m0,w0⟩,h⟩,g⟩=>by
 refine ⟨λm σ' H'=>∃τ' J',xC X.K G τ' J' σ' H'∧Ext X.K J H J' H'∧W m τ' J',⟨m0,τ,J,a2,.refl,w0⟩,λm σ1 H1 ⟨τ1,J1,a1,e1,w1⟩=>?_⟩
 refine ⟨τ1,J1,_,a1,h m τ1 J1 w1,λb J2 H2 r2 e2 q=>?_⟩
 cases b with
 | false=>simp only [T2,if_false] at q ⊢;exact g.nx τ1 J2 σ1 H2 (a1.sl.ext e2) r2 (e1.trans e2) q
 | true =>
  simp only [if_true] at q ⊢
  obtain ⟨N,hN,q⟩:=q
  refine ⟨λσ' H'=>∃τ' J',xC X.K G τ' J' σ' H'∧Ext X.K J H J' H'∧N τ' J',λσ' H' ⟨τ',J',a',e',n'⟩=>let ⟨m',lt,w'⟩:=hN τ' J' n';⟨m',lt,τ',J',a',e',w'⟩,τ1,J2,{ D2 with nx:=N,ct:=N,bk:=D2.nx },a1.go r2 e2,q,?_⟩
  have ge:=g.ext (e1.trans e2)
  exact { nx:=λτ' J' σ' H' rs rr ee q=>⟨τ',J',⟨rs,rr,(a1.ext.trans e2).trans ee⟩,(e1.trans e2).trans ee,q⟩,rt:=ge.rt,bk:=ge.nx,ct:=λτ' J' σ' H' rs rr ee q=>⟨τ',J',⟨rs,rr,(a1.ext.trans e2).trans ee⟩,(e1.trans e2).trans ee,q⟩ }⟩
structure xG where
 xs:List PV
 ok:Hq→Prop
structure uq (K:PySem.W.Frag) (it:xG) (I:It) (J:Hq) (H:Hp):Prop where
 go:∀J' H',Ext K J H J' H'→Rep K J' H'→it.ok J'→∀i,i < it.xs.length→I.go i H'
 yl:∀J' H',Ext K J H J' H'→Rep K J' H'→it.ok J'→∀i,i < it.xs.length→∀v H2,I.yld i H' v H2→∃x,it.xs[i]?=some x∧cv K J' H2 x v∧Rep K J' H2∧Ext K J' H' J' H2
 stop:∀J' H',Ext K J H J' H'→Rep K J' H'→it.ok J'→I.stop it.xs.length H'
abbrev tJ:=Sr→Hq→(xG→Hq→Prop)→Prop
def LI (K:PySem.W.Frag) (G:G2) (t:tJ):TI:=λσ H R=>∃τ J R2,xC K G τ J σ H∧t τ J R2∧∀it J' I H',uq K it I J' H'→Rep K J' H'→Ext K J H J' H'→R2 it J'→R I H'
structure RI (X:Cx) (G:G2) (tg e:Expr) (t:tJ):Prop where
 run:L2.PI X tg e (LI X.K G t)
theorem O0 {X:Cx} {tg e:Expr} {t t':TI} (h:L2.PI X tg e t) (k:∀σ H Q,t' σ H Q→t σ H Q):L2.PI X tg e t':=λpins s σ H Q I q=>h pins s σ H Q I (k _ _ _ q)
def Pg (wi:tJ) (g:zR) (tb:iX):iX:=λD τ J=>wi τ J λit J1=>∃Pv:Nat→Sr→Hq→Prop,Pv 0 τ J1∧(∀i τ J,Pv i τ J→it.ok J) ∧
 (∀i x τ J,it.xs[i]?=some x→Pv i τ J→g x τ J λτ2 J2=>tb { D with nx:=Pv (i + 1),ct:=Pv (i + 1),bk:=D.nx } τ2 J2)∧∀τ J,Pv it.xs.length τ J→D.nx τ J
theorem fe {iter:Expr} {body:List Stmt} {wi:tJ} {g:zR} {tb:iX} {pos:Pos} (hp:PassesOwn (model X.prog X.w) X.A X.env X.xe) (hc:X.calm=true) (hi:RI X G tg iter wi) (hg:RG X G tg g) (hb:RB X G body tb)
  (hs:∀x,foldedSetIterable iter X.env x=pure x:=by intro _;rfl):RS X G (.For tg iter body [] pos) (Pg wi g tb):=⟨AI (L2.oJ hp hc hi.run hg.run hb.run hs) λD σ H ⟨τ,J,D2,a2,h,g⟩=>by
 refine ⟨τ,J,_,a2,h,λit J1 I H1 ir r1 e1 ⟨Pv,p0,pok,step,fin⟩=>?_⟩
 refine ⟨λi m σ' H'=>m=it.xs.length - i∧i≤it.xs.length∧∃τ' J',xC X.K G τ' J' σ' H'∧Ext X.K J1 H1 J' H'∧Pv i τ' J',⟨_,rfl,Ue _,τ,J1,a2.go r1 e1,.refl,p0⟩,?_⟩
 rintro i m σ2 H2 ⟨rfl,hil,τ2,J2,a3,e3,p3⟩
 by_cases hlt:i < it.xs.length
 ·refine .inr ⟨ir.go J2 H2 e3 a3.hp (pok _ _ _ p3) i hlt,λσ' H'=>∃τ' J',xC X.K G τ' J' σ' H'∧Ext X.K J1 H1 J' H'∧Pv (i + 1) τ' J',λσ' H' z=>⟨_,by omega,rfl,hlt,z⟩,λv H4 y=>?_⟩
  obtain ⟨x,ex,rx,r4,e4⟩:=ir.yl J2 H2 e3 a3.hp (pok _ _ _ p3) i hlt v H4 y
  refine ⟨x,τ2,J2,_,rx,a3.go r4 e4,step i x τ2 J2 ex p3,λτ5 J5 σ5 H5 rs5 r5 e5 q5=>?_⟩
  have ae:=(a3.ext.trans e4).trans e5
  have ge:=g.ext (((e1.trans e3).trans e4).trans e5)
  refine ⟨τ5,J5,{ D2 with nx:=Pv (i + 1),ct:=Pv (i + 1),bk:=D2.nx },⟨rs5,r5,ae⟩,q5,?_⟩
  exact { nx:=λτ' J' σ' H' rs rr ee q=>⟨τ',J',⟨rs,rr,ae.trans ee⟩,((e3.trans e4).trans e5).trans ee,q⟩,rt:=ge.rt,bk:=ge.nx,ct:=λτ' J' σ' H' rs rr ee q=>⟨τ',J',⟨rs,rr,ae.trans ee⟩,((e3.trans e4).trans e5).trans ee,q⟩ }
 ·have ei:i=it.xs.length:=by omega
  subst ei
  exact .inl ⟨ir.stop J2 H2 e3 a3.hp (pok _ _ _ p3),g.nx τ2 J2 σ2 H2 a3.sl a3.hp (e1.trans e3) (fin _ _ p3)⟩⟩
def NC (J:Hq):PV→Option xG
 | .fl xs=>some ⟨xs,λ_=>True⟩
 | .ref a=>match J a with
  | some (.lst xs)=>some ⟨xs,λJ'=>J' a=some (.lst xs)⟩
  | _=>none
 | _=>none
def SK (te:c4):tJ:=λτ J R=>te τ J λx J1=>uO (NC J1 x) λit=>R it J1
theorem uq.list {K:PySem.W.Frag} {it:xG} {a:Addr} {J:Hq} {H:Hp} (h:∀J' H',Ext K J H J' H'→Rep K J' H'→it.ok J'→∃vs,cW K H' a vs∧aJ K J' H' it.xs vs):uq K it (L2.Hw K a) J H where
 go:=λJ' H' e r o i hi=>by
  obtain ⟨vs,s,rs⟩:=h J' H' e r o
  exact ⟨vs,vs[i]'(by rw [← rs.length];exact hi),s,by simp⟩
 yl:=λJ' H' e r o i hi v H2 y=>by
  obtain ⟨vs,s,rs⟩:=h J' H' e r o
  obtain ⟨e1,y⟩:=y
  subst e1
  obtain ⟨x,ex,rx⟩:=rs.get' (y vs s)
  exact ⟨x,ex,rx,r,.refl⟩
 stop:=λJ' H' e r o=>by
  obtain ⟨vs,s,rs⟩:=h J' H' e r o
  exact ⟨vs,s,by rw [rs.length];exact TF _⟩
theorem dW {l:Expr} {tl:c4} (hl:RE X G l tl):RI X G tg l (SK tl):=⟨O0 (L2.ni hl.run) λσ H R ⟨τ,J,R2,a2,h,k⟩=>⟨τ,J,_,a2,h,λx J1 v H1 rx r1 e1 hh=>by
 obtain ⟨it,ei,q⟩:=dZ hh
 cases x with
 | fl xs =>
  obtain ⟨a,vs,rfl,h1,h2⟩:=rx
  cases ei
  refine ⟨a,rfl,⟨vs,h1.sq⟩,k _ J1 _ H1 (.list λJ' H' e r _=>⟨vs,(e.flat h1).sq,e.jq h2⟩) r1 e1 q⟩
 | ref a =>
  cases rx
  unfold NC at ei
  dsimp only at ei
  cases ej:J1 a with
  | none=>rw [ej] at ei;cases ei
  | some o =>
   rw [ej] at ei
   cases o with
   | lst xs =>
    cases ei
    obtain ⟨vs,h1,h2⟩:=r1 _ _ ej
    refine ⟨a,rfl,⟨vs,.inl (.inl h1)⟩,k _ J1 _ H1 (.list λJ' H' e r o=>?_) r1 e1 q⟩
    obtain ⟨vs',h1',h2'⟩:=r _ _ o
    exact ⟨vs',.inl (.inl h1'),h2'⟩
   | _=>cases ei
 | _=>cases ei⟩⟩
def Th (te:c4):tJ:=λτ J R=>te τ J λx J1=>NG x λxs=>R ⟨xs,λ_=>True⟩ J1
def ox (lo:Int) (n:Nat):List PV:=(UR n).map λ(i:Nat)=>PV.int (lo + (i:Int))
theorem fq (lo:Int) (n:Nat):(ox lo n).length=n:=by simp [ox]
theorem m6 (lo:Int) (n i:Nat) (x:PV):(ox lo n)[i]?=some x↔i < n∧x=.int (lo + i):=by
 unfold ox
 rw [TN]
 by_cases h:i < n
 ·rw [VV h];simp [h,eq_comm]
 ·rw [UE (by simpa using h)];simp [h]
theorem uq.NI {K:PySem.W.Frag} {J:Hq} {H:Hp} (lo:Int) (n:Nat):uq K ⟨ox lo n,λ_=>True⟩ (L2.Ew lo n) J H where
 go:=λJ' H' e r o i hi=>by
  show i < n
  simpa [fq] using hi
 yl:=λJ' H' e r o i hi v H2 y=>by
  obtain ⟨e1,y⟩:=y
  subst e1 y
  exact ⟨.int (lo + i),(m6 lo n i _).mpr ⟨by simpa [fq] using hi,rfl⟩,rfl,r,.refl⟩
 stop:=λJ' H' e r o=>by
  show n≤(ox lo n).length
  rw [fq];exact TF _
def SM (ta:o8):tJ:=λτ J R=>ta τ J λvs J1=>B2 vs λx=>Ei x λj=>-(2 ^ 62)≤j∧j < 2 ^ 62∧R ⟨ox 0 j.toNat,λ_=>True⟩ J1
def Tg (ta:o8):tJ:=λτ J R=>ta τ J λvs J1=>Ms vs λx y=>Ei x λi=>Ei y λj=>(-(2 ^ 62)≤i∧i < 2 ^ 62∧-(2 ^ 62)≤j∧j < 2 ^ 62)∧R ⟨ox i (j - i).toNat,λ_=>True⟩ J1
theorem oR {a:Expr} {ta:o8} {p pos:Pos} (hg:Gl X "range") (hm:X.mg "range"=none) (ha:RA X G [a] ta) (hs:starEach [a] X.env=[(false,eval a X.env)]:=by rfl):RI X G tg (.Call (.Name "range" p) [a] [] pos) (SM ta) :=
 ⟨O0 (L2.fY hg hm ha.run hs) λσ H R ⟨τ,J,R2,a2,h,k⟩=>⟨τ,J,_,a2,h,λxs J1 vs H1 rs r1 e1 hh=>by
  obtain ⟨x,ex,hh⟩:=je hh;obtain ⟨j,ej,l1,l2,q⟩:=g9 hh;subst ej ex
  obtain ⟨v,us,rfl,rv,e'⟩:=rs
  cases rv;cases e'
  exact ⟨j,rfl,l1,l2,k _ J1 _ H1 (.NI 0 _) r1 e1 q⟩⟩⟩
def fJ (C:Addr) (E2:Addr→Hq→Prop) (t:o8):iX:=λ_ τ J=>t τ J λxs J1=>xs.length≤sizeLine∧E2 C J1
theorem dQ {E:XK} {E2:Addr→Hq→Prop} {C:Addr} {x:Str} {t:o8} {np cpos:Pos} (O:Own X.K X.mg x C) (hc:X.calm=true) (hx:Throws X E) (kn:Ld X.K G.1 G.2 E2 E) (hg:Gl X x) (ha:RA X G (e :: es) t)
  (hd:(x == ("__debug__":Str))=false:=by decide) (he:starEach (e :: es) X.env=(false,eval e X.env) :: starEach es X.env:=by rfl) (hpl:(backTo cpos (starEach es X.env)).any (·.1)=false:=by rfl) :
  RS X G (.Raise (some (.Call (.Name x np) (e :: es) [] cpos)) none pos) (fJ C E2 t):=⟨AI (DY O hc hx hg ha.run hd he hpl) λD σ H ⟨τ,J,D2,a2,h,g⟩ =>
 ⟨τ,J,_,a2,h,λxs J1 vs H1 rs r1 e1 ⟨hl,q⟩=>⟨by rw [← rs.length];exact hl,kn C J1 H1 r1 (a2.ext.trans e1) q⟩⟩⟩
end
section
variable {P:Program} {w:World} {K:PySem.W.Frag} {mg:Str→Option Value} {base:Heap}
section
variable {α β:Type} {a b:α} {l m:List α} {i:Nat} {f:α→β} {c:Bool}
theorem Nu:VX f (a :: l)=f a :: VX f l:=rfl
theorem Nv:VX f []=[]:=rfl
theorem Nr:(a :: l).length=l.length + 1:=rfl
theorem Nt:([]:List α).length=0:=rfl
theorem Nn:(a :: l) ++ m=a :: (l ++ m):=rfl
theorem Np:[] ++ m=m:=rfl
theorem Sf:(a :: l)[0]?=some a:=rfl
theorem Sg:(a :: l)[i + 1]?=l[i]?:=rfl
theorem Sn:(a :: l).set 0 b=b :: l:=rfl
theorem So:(a :: l).set (i + 1) b=a :: l.set i b:=rfl
theorem Sk:Option.map f (some a)=some (f a):=rfl
theorem Sj:(some a).getD b=a:=rfl
theorem Si:(!true)=false:=rfl
theorem Sh:(!false)=true:=rfl
theorem Sq:(true && c)=c:=rfl
theorem Se:(false && c)=false:=rfl
theorem Sl:Up 0 a=[]:=rfl
theorem Sm:Up (i + 1) a=a :: Up i a:=rfl
theorem Qb:(a :: l).isEmpty=false:=rfl
theorem Qc:([]:List α).isEmpty=true:=rfl
end
def xr (N:List Str) (xs:List PV):Sr:=xs.map some ++ Up (N.length - xs.length) none
theorem GW {J:Hq} {H:Hp} {N:List Str} {xs:List PV} {vs:List V} (r:aJ K J H xs vs):l8 K J H (xr N xs) (L2.start N vs):=by
 refine ⟨by simp [xr,L2.start,r.length],λi x e=>?_⟩
 unfold xr at e
 unfold L2.start
 by_cases hi:i < xs.length
 ·rw [UH (by simpa using hi),TN] at e
  cases ex:xs[i]? with
  | none=>rw [ex] at e;cases e
  | some y =>
   rw [ex] at e
   cases e
   obtain ⟨v,h1,h2⟩:=r.get ex
   exact ⟨v,by rw [UH (by rw [Tx,← r.length];exact hi),TN,h1];rfl,h2⟩
 ·rw [UC (by simpa using hi)] at e
  have:=TH e
  rw [List.mem_replicate] at this
  cases this.2
theorem Rw {x qual:Str} {st:Stmt} {f:Addr} {fd:FuncData} {N ps:List Str} {k:Nat} {sp:cF} (F:bZ K x qual st f fd) (S:aw N ps (L2.aj st)) (len:∀xs J Q E,sp xs J Q E→xs.length=ps.length)
  (hbody:∀(cdv:Value) (A:Around) (outer:List Env) (s:Shared) (H:Hp) (E:XK) (G:G2) (xs:List PV) (J:Hq) (Q:PV→Hq→Prop) (E2:Addr→Hq→Prop),bK k (A.deeper (envOfC qual (L2.aj st) s.heap.objs.size f cdv))→sp xs J Q E2 →
   Ee (zx P w K mg base N qual (L2.aj st) f cdv A outer s H E) G E2 E →
   ∃t,RB (zx P w K mg base N qual (L2.aj st) f cdv A outer s H E) G (L2.bQ st) t∧t { nx:=λ_ J'=>Q .non J',rt:=Q } (xr N xs) J):aL P w K mg base (cV P w) (k + 1) f fd ps (dn K sp):=by
 refine Ts F S (λvs H Q E ⟨xs,J,Q2,E2,a,_,b,_⟩=>by rw [← a.length];exact len _ _ _ _ b) λcdv A outer s H vs Q E hr ⟨xs,J,Q2,E2,rs,rr,hs,kn,ke⟩=>?_
 obtain ⟨t,hb,q⟩:=hbody cdv A outer s H E (J,H) xs J Q2 E2 hr hs ⟨zZ,ke⟩
 refine ⟨_,⟨hb.run⟩,xr N xs,J,_,⟨GW rs,rr,.refl⟩,q,?_⟩
 exact { nx:=λτ J' σ H' _ r e q=>kn .non J' .non H' rfl r e q,rt:=λx J' v H' rx r e q=>kn x J' v H' rx r e q,bk:=λ_ _ _ _ _ _ _ q=>q.elim,ct:=λ_ _ _ _ _ _ _ q=>q.elim }
theorem Tr {x qual:Str} {st:Stmt} {f:Addr} {fd:FuncData} {N ps:List Str} {k:Nat} {sp:cF} {t:(Addr→Hq→Prop)→iX} (F:bZ K x qual st f fd) (S:aw N ps (L2.aj st)) (len:∀xs J Q E,sp xs J Q E→xs.length=ps.length)
  (rd:∀(cdv:Value) (A:Around) (outer:List Env) (s:Shared) (H:Hp) (E:XK) (G:G2) (E2:Addr→Hq→Prop),bK k (A.deeper (envOfC qual (L2.aj st) s.heap.objs.size f cdv)) →
   Ee (zx P w K mg base N qual (L2.aj st) f cdv A outer s H E) G E2 E→RB (zx P w K mg base N qual (L2.aj st) f cdv A outer s H E) G (L2.bQ st) (t E2))
  (run:∀(xs:List PV) (J:Hq) (Q:PV→Hq→Prop) (E2:Addr→Hq→Prop),sp xs J Q E2→∀X:Prop,(t E2 { nx:=λ_ J'=>Q .non J',rt:=Q } (xr N xs) J→X)→X):aL P w K mg base (cV P w) (k + 1) f fd ps (dn K sp) :=
 Rw F S len λcdv A outer s H E G xs J Q E2 hr h B=>⟨_,rd cdv A outer s H E G E2 hr B,run xs J Q E2 h _ id⟩
theorem _root_.Ov.Def.fo {x:Str} {st:Stmt} {k:Nat} {ps:List Str} {sp:cF} (D:Def K mg x st)
  (h:∀f fd,bZ K x x st f fd→aL P w K mg base (cV P w) k f fd ps (dn K sp))
  (hb:∀(kV doc pm:Value) (an:Option Addr) (cdv ct:Value) (us:List Value),us.length=ps.length→bindArgs (PySem.W.fnOf x x (L2.c6 st) (L2.bQ st) (L2.aj st) .none kV doc pm an cdv ct) ⟨us,[]⟩=pure (ps.zip us)) :
  bp P w K mg base k x ps sp:=D.QP h hb
end
section
variable {X:Cx} {K:PySem.W.Frag}
def Gp (g:Int→Int→PV):mT:=λx y J Q=>Ei x λi=>Ei y λj=>Q (g i j) J
def qI (C:Int→Int→Prop) (g:Int→Int→PV):mT:=λx y J Q=>Ei x λi=>Ei y λj=>C i j∧Q (g i j) J
theorem uN {g:Int→Int→V} {g':Int→Int→PV} (hg:∀J H i j,cv K J H (g' i j) (g i j)):LR K (L2.Hf g) (Gp g'):=λJ H x y v w Q2 Q rx ry r h k=>by
 obtain ⟨i,ex,h⟩:=g9 h;obtain ⟨j,ey,q⟩:=g9 h
 subst ex ey;exact ⟨i,j,rx,ry,k _ J _ H (hg _ _ _ _) r .refl q⟩
theorem Mc {C:Int→Int→Prop} {g:Int→Int→V} {g':Int→Int→PV} (hg:∀J H i j,cv K J H (g' i j) (g i j)):LR K (L2.rI C g) (qI C g'):=λJ H x y v w Q2 Q rx ry r h k=>by
 obtain ⟨i,ex,h⟩:=g9 h;obtain ⟨j,ey,c,q⟩:=g9 h
 subst ex ey;exact ⟨i,j,rx,ry,c,k _ J _ H (hg _ _ _ _) r .refl q⟩
theorem eZ:mS X (binaryOp .Add) (Gp λi j=>.int (i + j)):=⟨_,L2.jf,uN λ_ _ _ _=>rfl⟩
theorem gu:mS X (binaryOp .Sub) (Gp λi j=>.int (i - j)):=⟨_,L2.Ay,uN λ_ _ _ _=>rfl⟩
theorem d3:mS X (binaryOp .Mult) (qI CM λi j=>.int (i * j)):=⟨_,cM,Mc λ_ _ _ _=>rfl⟩
theorem p_:mS X (binaryOp .FloorDiv) (qI CQ λi j=>.int (i.fdiv j)):=⟨_,gq,Mc λ_ _ _ _=>rfl⟩
theorem e9:mS X (binaryOp .Mod) (qI (λ_ j=>0 < j) λi j=>.int (i % j)):=⟨_,L2.gr,Mc λ_ _ _ _=>rfl⟩
theorem iK:mS X (compareOp .Lt) (Gp λi j=>.bl (decide (i < j))):=⟨_,L2.B4,uN λ_ _ _ _=>rfl⟩
theorem Kt:mS X (compareOp .LtE) (Gp λi j=>.bl (decide (i≤j))):=⟨_,L2.Kr,uN λ_ _ _ _=>rfl⟩
theorem ph:mS X (compareOp .Gt) (Gp λi j=>.bl (decide (j < i))):=⟨_,L2.Kq,uN λ_ _ _ _=>rfl⟩
theorem F6:mS X (compareOp .GtE) (Gp λi j=>.bl (decide (j≤i))):=⟨_,L2.Kp,uN λ_ _ _ _=>rfl⟩
def qU (g:Int→PV):NN:=λx J Q=>Ei x λi=>Q (g i) J
theorem jJ:SD X (unaryOp .USub) (qU λi=>.int (-i)):=⟨_,L2.G',λJ H x v Q2 Q rx r h k=>by obtain ⟨i,ex,q⟩:=g9 h;subst ex;exact ⟨i,rx,k (.int (-i)) J _ H rfl r .refl q⟩⟩
def O8:mT:=λx y J Q=>Ko x λi=>Ko y λj=>Q (.bl (decide (i.cps.toList < j.cps.toList))) J
theorem Az:mS X (compareOp .Lt) O8:=⟨_,L2.DQ,λJ H x y v w Q2 Q rx ry r h k=>by obtain ⟨i,ex,h⟩:=oG h;obtain ⟨j,ey,q⟩:=oG h;subst ex ey;exact ⟨i,j,rx,ry,k (.bl _) J _ H rfl r .refl q⟩⟩
def Fj:PV→Bool
 | .non=>true
 | _=>false
theorem BV {J:Hq} {H:Hp} {x:PV} {v:V} (r:cv K J H x v):decide (v=.non)=Fj x:=by
 cases x with
 | non=>cases r;rfl
 | tup xs=>obtain ⟨a,vs,rfl,_⟩:=r;rfl
 | fl xs=>obtain ⟨a,vs,rfl,_⟩:=r;rfl
 | _=>cases r;rfl
def SY:mT:=λx y J Q=>y=.non∧Q (.bl (Fj x)) J
def Gq:mT:=λx y J Q=>y=.non∧Q (.bl (!Fj x)) J
theorem OW:mS X (compareOp .Is) SY:=⟨_,L2.My,λJ H x y v w Q2 Q rx ry r ⟨ey,q⟩ k=>by subst ey;cases ry;exact ⟨rfl,by rw [BV rx];exact k (.bl _) J _ H rfl r .refl q⟩⟩
theorem rp:mS X (compareOp .IsNot) Gq:=⟨_,L2.IK,λJ H x y v w Q2 Q rx ry r ⟨ey,q⟩ k=>by subst ey;cases ry;exact ⟨rfl,by rw [BV rx];exact k (.bl _) J _ H rfl r .refl q⟩⟩
mutual
def fI:PV→Py
 | .non=>.non | .bl b=>.bl b | .int i=>.int i | .str x=>.str x | .ref _=>.non | .ty _=>.non | .tup xs=>.tup (eQ xs) | .fl xs=>.lst (eQ xs)
def eQ:List PV→List Py
 | []=>[]
 | x :: xs=>fI x :: eQ xs
end
mutual
def mK:PV→Bool
 | .ref _=>false | .ty _=>false | .tup xs=>kJ xs | .fl xs=>kJ xs | _=>true
def kJ:List PV→Bool
 | []=>true
 | x :: xs=>mK x && kJ xs
end
mutual
theorem vw {J:Hq} {H:Hp}:∀{x:PV} {v:V},mK x=true→cv K J H x v→At K H (fI x) v
 | .non,_,_,h=>h
 | .bl _,_,_,h=>h
 | .int _,_,_,h=>h
 | .str _,_,_,h=>h
 | .tup xs,_,p,⟨a,vs,e,h,k⟩=>⟨a,vs,e,h,qH (by simpa [mK] using p) k⟩
 | .fl xs,_,p,⟨a,vs,e,h,k⟩=>⟨a,vs,e,h.sq,qH (by simpa [mK] using p) k⟩
theorem qH {J:Hq} {H:Hp}:∀{xs:List PV} {vs:List V},kJ xs=true→aJ K J H xs vs→sL K H (eQ xs) vs
 | [],_,_,h=>h
 | x :: xs,_,p,⟨v,us,e,h,k⟩=>by
  have p':mK x=true∧kJ xs=true:=by simpa [kJ] using p
  exact ⟨v,us,e,vw p'.1 h,qH p'.2 k⟩
end
def eqQ (x y:PV):Bool:=k_ (fI x) (fI y)
def HJ (x:PV):Prop:=mK x=true∧dep (fI x)≤60
def Kz (f:Bool→Bool):mT:=λx y J Q=>HJ x∧mK y=true∧Q (.bl (f (eqQ x y))) J
theorem Kg (f:Bool→Bool):LR K (rP K f) (Kz f):=λJ H x y v w Q2 Q rx ry r ⟨⟨px,d⟩,py,q⟩ k=>⟨fI x,fI y,vw px rx,vw py ry,d,k (.bl _) J _ H rfl r .refl q⟩
theorem cQ (hu:X.A.units + 61 < cLine):mS X (compareOp .Eq) (Kz id):=⟨_,Mw hu,Kg id⟩
theorem km (hu:X.A.units + 61 < cLine):mS X (compareOp .NotEq) (Kz not):=⟨_,Mz hu,Kg not⟩
def fB (J:Hq):PV→PV→Option PV
 | .tup xs,.int i=>de xs i
 | .fl xs,.int i=>de xs i
 | .ref a,.int i=>match J a with
  | some (.lst xs)=>de xs i
  | _=>none
 | _,_=>none
theorem aJ.de {J:Hq} {H:Hp} {xs:List PV} {vs:List V} {i:Int} {x:PV} (r:aJ K J H xs vs) (h:L2.de xs i=some x):∃v,L2.de vs i=some v∧cv K J H x v:=by
 unfold L2.de at h ⊢
 rw [← r.length]
 cases e:L2.Eh xs.length i with
 | none=>rw [e] at h;cases h
 | some j =>
  rw [e] at h
  obtain ⟨v,h1,h2⟩:=r.get h
  exact ⟨v,h1,h2⟩
def KA:mT:=λx y J Q=>uO (fB J x y) λv=>Q v J
theorem ax:Qz X KA:=⟨_,L2.vI.or L2.cS,λJ H x y v w Q2 Q rx ry r h k=>by
 obtain ⟨z,ez,q⟩:=dZ h
 cases y with
 | int i =>
  cases ry
  cases x with
  | tup xs =>
   obtain ⟨a,vs,rfl,h1,h2⟩:=rx
   obtain ⟨u,e1,e2⟩:=h2.de (show L2.de xs i=some z from ez)
   exact .inr ⟨a,vs,i,u,rfl,rfl,h1,e1,k z J u H e2 r .refl q⟩
  | fl xs =>
   obtain ⟨a,vs,rfl,h1,h2⟩:=rx
   obtain ⟨u,e1,e2⟩:=h2.de (show L2.de xs i=some z from ez)
   exact .inl ⟨a,vs,i,u,rfl,rfl,h1.sq,e1,k z J u H e2 r .refl q⟩
  | ref a =>
   cases rx
   unfold fB at ez
   dsimp only at ez
   cases ej:J a with
   | none=>rw [ej] at ez;cases ez
   | some o =>
    rw [ej] at ez
    cases o with
    | lst xs =>
     obtain ⟨vs,h1,h2⟩:=r _ _ ej
     obtain ⟨u,e1,e2⟩:=h2.de (show L2.de xs i=some z from ez)
     exact .inl ⟨a,vs,i,u,rfl,rfl,.inl (.inl h1),e1,k z J u H e2 r .refl q⟩
    | _=>cases ez
  | _=>cases ez
 | _=>cases x <;> cases ez⟩
def md (xs:List PV) (lo hi:Option Int):List PV:=(xs.drop (HT.d5 xs.length 0 lo)).take (HT.d5 xs.length xs.length hi - HT.d5 xs.length 0 lo)
theorem Bx {J:Hq} {H:Hp} {xs:List PV} {vs:List V} {lo hi:Option Int} (r:aJ K J H xs vs):aJ K J H (md xs lo hi) (L2.oj vs lo hi):=by
 unfold md L2.oj
 rw [← r.length]
 exact (r.drop _).take _
def Pb:Dc:=λx lo hi J Q=>NG x λxs=>¬ (HT.d5 xs.length 0 lo=0∧HT.d5 xs.length xs.length hi=xs.length)∧Q (.tup (md xs lo hi)) J
theorem A_:QF X Pb:=⟨_,L2.M8,λJ H x lo hi v Q2 Q rx r h k=>by
 obtain ⟨xs,ex,hn,q⟩:=F2 h
 subst ex
 obtain ⟨a,vs,rfl,h1,h2⟩:=rx
 refine ⟨a,vs,rfl,h1,by rw [← h2.length];exact hn,λp hp=>?_⟩
 have sm:=bB.new hp (.tup (L2.oj vs lo hi))
 have e2:=Ext.same (K:=X.K) (J:=J) sm
 exact k (.tup (md xs lo hi)) J (.ref p) _ ⟨p,_,rfl,.inl (.inl aE),e2.jq (Bx h2)⟩ (r.same sm) e2 q⟩
def jU (J:Hq):PV→Option (List PV)
 | .fl xs=>some xs
 | .ref a=>match J a with
  | some (.lst xs)=>some xs
  | _=>none
 | _=>none
theorem p7 {J:Hq} {H:Hp} {x:PV} {v:V} {xs:List PV} (rx:cv K J H x v) (r:Rep K J H) (h:jU J x=some xs):∃a vs,v=.ref a∧cW K H a vs∧aJ K J H xs vs:=by
 cases x with
 | fl ys=>obtain ⟨a,vs,rfl,h1,h2⟩:=rx;cases h;exact ⟨a,vs,rfl,h1.sq,h2⟩
 | ref a =>
  cases rx
  unfold jU at h
  dsimp only at h
  cases ej:J a with
  | none=>rw [ej] at h;cases h
  | some o =>
   rw [ej] at h
   cases o with
   | lst ys=>cases h;obtain ⟨vs,h1,h2⟩:=r _ _ ej;exact ⟨a,vs,rfl,.inl (.inl h1),h2⟩
   | _=>cases h
 | _=>cases h
def Pa:Dc:=λx lo hi J Q=>uO (jU J x) λxs=>Q (.fl (md xs lo hi)) J
theorem GS:QF X Pa:=⟨_,L2.w8,λJ H x lo hi v Q2 Q rx r h k=>by
 obtain ⟨xs,ex,q⟩:=dZ h
 obtain ⟨a,vs,rfl,h1,h2⟩:=p7 rx r ex
 refine ⟨a,vs,rfl,h1,λp hp=>?_⟩
 obtain ⟨x1,x2,x3⟩:=vR r (Bx (lo:=lo) (hi:=hi) h2) hp
 exact k _ J _ _ x1 x2 x3 q⟩
def RL:Dc:=λx lo hi J Q=>uO (jU J x) λxs=>∀p,J p=none→Q (.ref p) (put J p (.lst (md xs lo hi)))
def O2:zQ:=λxs J Q=>B2 xs λx=>Ei x λi=>Q (.int (if i < 0 then -i else i)) J
theorem zY:JR X (.builtin "abs") O2:=⟨_,L2.mW,λJ H xs vs Q2 Q rs r h k=>by
 obtain ⟨x,ex,h⟩:=je h;obtain ⟨i,ei,q⟩:=g9 h;subst ei
 subst ex;obtain ⟨v,us,rfl,rv,e⟩:=rs;cases rv;cases e
 exact ⟨i,rfl,k (.int _) J _ H rfl r .refl q⟩⟩
def yi (J:Hq):PV→Option Nat
 | .tup xs=>some xs.length
 | x=>(jU J x).map UG
def MQ:zQ:=λxs J Q=>B2 xs λx=>uO (yi J x) λn=>Q (.int n) J
theorem b_:JR X (.builtin "len") MQ:=⟨_,L2.i5,λJ H xs vs Q2 Q rs r h k=>by
 obtain ⟨x,ex,h⟩:=je h;obtain ⟨n,en,q⟩:=dZ h
 subst ex;obtain ⟨v,us,rfl,rv,e⟩:=rs;cases e
 have go:∀ys,jU J x=some ys→ys.length=n→∃p ws,([v]:List V)=[.ref p]∧(cW X.K H p ws∨gK X.K H p ws)∧Q (.int ws.length) H:=λys h1 h2=>by
  obtain ⟨a,ws,rfl,h3,h4⟩:=p7 rv r h1
  exact ⟨a,ws,rfl,.inl h3,by rw [← h4.length,h2];exact k (.int _) J _ H rfl r .refl q⟩
 cases x with
 | tup ys =>
  obtain ⟨a,ws,rfl,h1,h2⟩:=rv
  cases en
  exact ⟨a,ws,rfl,.inr h1,by rw [← h2.length];exact k (.int _) J _ H rfl r .refl q⟩
 | fl ys=>cases en;exact go _ rfl rfl
 | ref a =>
  unfold yi at en
  cases el:jU J (.ref a) with
  | none=>simp [el] at en
  | some ys=>simp [el] at en;exact go _ el en
 | _=>cases en⟩
def CV (J:Hq):PV→Option String
 | .non=>some "NoneType" | .bl _=>some "bool" | .int _=>some "int" | .str _=>some "str" | .tup _=>some "tuple" | .fl _=>some "list"
 | .ref a=>match J a with
  | some (.lst _)=>some "list"
  | some (.dct _ _)=>some "dict"
  | _=>none
 | _=>none
def mG (t n:String):Option Bool :=
 if n∈["int","bool","str","tuple","list"] then some (t == n || (t == "bool" && n == "int")) else none
theorem Ig (K:PySem.W.Frag) {t n:String} {b:Bool} (ht:t∈["NoneType","bool","int","str","tuple","list","dict"]) (h:mG t n=some b):PySem.W.kitOne K (.type t) (.type n)=some b:=by
 unfold mG at h
 by_cases hn:n∈["int","bool","str","tuple","list"]
 ·rw [if_pos hn] at h
  simp only [TX,Ua,or_false] at ht hn
  rcases ht with rfl | rfl | rfl | rfl | rfl | rfl | rfl <;> rcases hn with rfl | rfl | rfl | rfl | rfl <;> cases h <;> with_unfolding_all rfl
 ·rw [if_neg hn] at h;cases h
theorem JL {J:Hq} {x:PV} {t:String} (h:CV J x=some t):t∈["NoneType","bool","int","str","tuple","list","dict"]:=by
 cases x with
 | ref a =>
  unfold CV at h
  dsimp only at h
  cases ej:J a with
  | none=>rw [ej] at h;cases h
  | some o=>rw [ej] at h;cases o <;> cases h <;> simp
 | ty n=>cases h
 | _=>cases h;simp
def Ry (x:PV) (k:String→Prop) (_:gJ k:=dp):Prop:=match x with | .ty n=>k n | _=>False
theorem OU {x:String} {k:String→Prop} {d:gJ k}:Ry (.ty x) k d=k x:=rfl
theorem Mt {x:PV} {k:String→Prop} {d:gJ k} (h:Ry x k d):∃n,x=.ty n∧k n:=by cases x <;> first | exact ⟨_,rfl,h⟩ | exact False.elim h
def O5:zQ:=λxs J Q=>Ms xs λx y=>Ry y λn=>uO (CV J x) λt=>uO (mG t n) λb=>Q (.bl b) J
theorem Df:bY X (.builtin "isinstance") (λxs H Q=>∃x n t b,xs=[x,.ty n]∧(f9 X.K H x (.type t)∨(t="tuple"∧∃a vs,x=.ref a∧gK X.K H a vs)∨(t="list"∧∃a vs,x=.ref a∧cW X.K H a vs))∧PySem.W.kitOne X.K (.type t) (.type n)=some b∧Q (.bl b) H):=by
 intro pins s σ H xs us Q I r h
 obtain ⟨x,n,t,b,rfl,ty,e,q⟩:=h
 obtain ⟨u,w',rfl,rx,ry⟩:=L2.vals2 r
 cases (show w'=Value.type n from ry)
 rcases ty with ty | ⟨rfl,a,vs,rfl,hs⟩ | ⟨rfl,a,vs,rfl,hs⟩
 ·exact L2.Dq I rx ty e λtk=>⟨.bl b,H,I.tok _,rfl,q⟩
 ·cases rx
  obtain ⟨its,_,⟨o,h1,h2,_⟩,_⟩:=I.tuple hs
  exact PySem.W.kia_one PySem.W.kitx_tuple I.m7 ⟨o,h1,h2⟩ e (λz=>nomatch z) λtk=>⟨.bl b,H,I.tok _,rfl,q⟩
 ·cases rx
  obtain ⟨its,_,⟨o,_,h1,h2,_⟩,_⟩:=I.list hs
  exact PySem.W.kia_one PySem.W.kitx_list I.m7 ⟨o,h1,h2⟩ e (λz=>nomatch z) λtk=>⟨.bl b,H,I.tok _,rfl,q⟩
theorem i6:JR X (.builtin "isinstance") O5:=⟨_,Df,λJ H xs vs Q2 Q rs r h k=>by
 obtain ⟨x,y,ex,h⟩:=Aw h;obtain ⟨n,ey,h⟩:=Mt h;obtain ⟨t,et,h⟩:=dZ h;obtain ⟨b,es,q⟩:=dZ h
 subst ey
 subst ex
 obtain ⟨v,us,rfl,rv,w,us',rfl,rw',e⟩:=rs
 cases rw';cases e
 refine ⟨v,n,t,b,rfl,?_,Ig X.K (JL et) es,k (.bl _) J _ H rfl r .refl q⟩
 cases x with
 | non=>cases rv;cases et;exact .inl .non
 | bl i=>cases rv;cases et;exact .inl (.bl i)
 | int i=>cases rv;cases et;exact .inl (.int i)
 | str i=>cases rv;cases et;exact .inl (.str i)
 | tup xs=>obtain ⟨a,ws,rfl,h1,_⟩:=rv;cases et;exact .inr (.inl ⟨rfl,a,ws,rfl,h1⟩)
 | fl xs =>
  obtain ⟨a,ws,rfl,h1,_⟩:=rv;cases et
  exact .inr (.inr ⟨rfl,a,ws,rfl,h1.sq⟩)
 | ty n=>cases et
 | ref a =>
  cases rv
  unfold CV at et
  dsimp only at et
  cases ej:J a with
  | none=>rw [ej] at et;cases et
  | some o =>
   rw [ej] at et
   have z:=r _ _ ej
   cases o with
   | lst xs=>obtain ⟨ws,h1,_⟩:=z;cases et;exact .inl (.lst h1)
   | dct kvs ep=>obtain ⟨gs,h1,_⟩:=z;cases et;exact .inl (.dE h1)
   | tab=>cases et
   | dtp hs ks=>cases et
   | ins C fs=>cases et⟩
def MO:zQ:=λxs J Q=>B2 xs λx=>uO (jU J x) λys=>Q (.fl ys) J
def Gm:zQ:=λxs J Q=>B2 xs λx=>uO (jU J x) λys=>∀p,J p=none→Q (.ref p) (put J p (.lst ys))
theorem iE:JR X (.type "list") Gm:=⟨_,L2.vB,λJ H xs vs Q2 Q rs r h k=>by
 obtain ⟨x,ex,h⟩:=je h;obtain ⟨ys,el,q⟩:=dZ h
 subst ex;obtain ⟨v,us,rfl,rv,e⟩:=rs;cases e
 obtain ⟨a,ws,rfl,h3,h4⟩:=p7 rv r el
 exact ⟨a,ws,rfl,.inl h3,λp hp=>k (.ref p) _ _ _ rfl (r.Fu hp h4) (.laid hp) (q p (r.free hp))⟩⟩
def RK:zQ:=λxs J Q=>∃i j,xs=[.int i,.int j]∧Q (.int (if j > i then j else i)) J
def wB:Ef:=λx xs J Q=>B3 x λa=>B2 xs λy=>Ql (J a) λys=>ys.length < sizeLine∧Q .non (put J a (.lst (ys ++ [y])))
theorem lj:Lj X "list" "list.append" wB:=⟨_,L2.iJ,λJ H x xs v vs Q2 Q rx rs r h k=>by
 obtain ⟨a,ex,h⟩:=gm h;obtain ⟨y,exs,h⟩:=je h;obtain ⟨ys,ja,hl,q⟩:=Mq h
 subst ex exs;cases rx;obtain ⟨w,us,rfl,rw',e⟩:=rs;cases e
 obtain ⟨ws,h1,h2⟩:=r _ _ ja
 exact ⟨a,ws,w,rfl,rfl,h1,by rw [← h2.length];exact hl,k .non _ _ _ rfl (r.wrote (ys:=ys ++ [y]) ja h1 (h2.append (show aJ X.K J H [y] [w] from ⟨w,[],rfl,rw',rfl⟩))) (.wrote ja h1) q⟩⟩
def O9:Ef:=λx xs J Q=>∃a ys y,x=.ref a∧xs=[]∧J a=some (.lst ys)∧ys[ys.length - 1]?=some y∧Q y (put J a (.lst ys.dropLast))
theorem aJ.dropLast {J:Hq} {H:Hp} {xs:List PV} {vs:List V} (r:aJ K J H xs vs):aJ K J H xs.dropLast vs.dropLast:=by
 rw [Vg,Vg,← r.length]
 exact r.take _
theorem Mf:Lj X "list" "list.pop" O9:=⟨_,L2.Mg,λJ H x xs v vs Q2 Q rx rs r ⟨a,ys,y,ex,exs,ja,hy,q⟩ k=>by
 subst ex exs;cases rx;cases rs
 obtain ⟨ws,h1,h2⟩:=r _ _ ja
 obtain ⟨w,e1,e2⟩:=h2.get hy
 have ex:=Ext.wrote (K:=X.K) (ys:=ys.dropLast) (vs:=ws.dropLast) ja h1
 exact ⟨a,ws,w,rfl,rfl,h1,by rw [← h2.length];exact e1,k y _ w _ (ex.rep e2) (r.wrote ja h1 h2.dropLast) ex q⟩⟩
def MN:Ef:=λx xs J Q=>∃a ys,x=.ref a∧xs=[]∧J a=some (.lst ys)∧Q .non (put J a (.lst []))
def Jh:V→List V→Hp→VK→Prop:=λx vs H Q=>∃l xs i y,x=.ref l∧vs=[.int (i:Nat),y]∧H l=some (.lst xs)∧i≤xs.length∧xs.length < sizeLine∧i < 2 ^ 62∧Q .non (upd H l (.lst (xs.take i ++ y :: xs.drop i)))
theorem Af (its:List Value) (i:Nat) (u:Value) (h:i≤its.length):((its.toArray.extract 0 (min ((i:Int)).toNat its.toArray.size)).push u ++ its.toArray.extract (min ((i:Int)).toNat its.toArray.size))=(its.take i ++ u :: its.drop i).toArray:=by
 have e:min ((i:Int)).toNat its.toArray.size=i:=by simp;omega
 rw [e]
 apply Array.ext'
 simp
 exact UB (by simp)
theorem DD:pX X "list.insert" Jh:=by
 intro pins s σ H x vs v us Q I rx rv h
 obtain ⟨l,xs,i,y,rfl,rfl,hH,hi,hz,hb,q⟩:=h
 cases rx
 obtain ⟨u,w,rfl,ru,rw'⟩:=L2.vals2 rv
 obtain ⟨t,rfl⟩:=ru
 obtain ⟨z,its,n,r,hl,e⟩:=I.Il hH
 have h63:((i:Nat):Int) < 2 ^ 63:=by
  have:((i:Nat):Int) < ((2 ^ 62:Nat):Int):=Int.ofNat_lt.mpr hb
  exact Int.lt_trans this (by decide)
 have hf:Builtin.List.listFitsIndex ((i:Nat):Int)=true:=fitsIndex_both (Int.le_trans (by decide) (Int.natCast_nonneg i)) h63
 have hs:its.toArray.size≤sizeLine:=by rw [TJ,← hl];exact z
 have hn:¬(!Builtin.List.listFitsIndex ((i:Nat):Int))=true:=by rw [hf];exact λz=>nomatch z
 have hneg:¬ (((i:Nat):Int) < 0):=by omega
 have hins:=Af its i w (by omega)
 clear hb h63 hf
 generalize ((i:Nat):Int)=ii at *
 have mm:=PySem.AutoSeq1.list_insert_list_int_val_1 l its.toArray n ii t w hn hs
 refine call_meets PySem.F.slot_list_insert ⟨_,e,rfl⟩ PySem.F.entry_list_insert (PySem.F.args_list_insert_3 _ _ _) mm ⟨e,?_⟩
 refine ⟨.non,_,I.Ik (its':=its.take i ++ w :: its.drop i) hH e ?_ ((r.take i).append (.cons rw' (r.drop i))) ?_,rfl,q⟩
 ·simp only [if_neg hneg]
  exact hins
 ·rw [T7,T8,T',UP];omega
def Cg:Ef:=λx xs J Q=>∃a ys i y,x=.ref a∧xs=[.int (i:Nat),y]∧J a=some (.lst ys)∧i≤ys.length∧ys.length < sizeLine∧i < 2 ^ 62∧Q .non (put J a (.lst (ys.take i ++ y :: ys.drop i)))
theorem oC:Lj X "list" "list.insert" Cg:=⟨_,DD,λJ H x xs v vs Q2 Q rx rs r ⟨a,ys,i,y,ex,exs,ja,hi,hl,hb,q⟩ k=>by
 subst ex exs;cases rx;obtain ⟨w0,us,rfl,rw0,w,us',rfl,rw',e⟩:=rs;cases e;cases rw0
 obtain ⟨ws,h1,h2⟩:=r _ _ ja
 exact ⟨a,ws,i,w,rfl,rfl,h1,by rw [← h2.length];exact hi,by rw [← h2.length];exact hl,hb,k .non _ _ _ rfl (r.wrote (ys:=ys.take i ++ y :: ys.drop i) ja h1 ((h2.take i).append (show aJ X.K J H (y :: ys.drop i) (w :: ws.drop i) from ⟨w,_,rfl,rw',h2.drop i⟩))) (.wrote ja h1) q⟩⟩
end
def pV (ks:List (Str × Nat)) (τ:Sr):Sr:=ks.map λp=>(τ[p.2]?).getD none
theorem Cq {K:PySem.W.Frag} {J:Hq} {H:Hp} {τ:Sr} {σ:L2.St} (r:l8 K J H τ σ) {x:PV} {v:V} (rx:cv K J H x v) (ks:List (Str × Nat)):l8 K J H (some x :: pV ks τ) (some v :: dT ks σ):=by
 refine ⟨by simp [pV,dT],λi y e=>?_⟩
 cases i with
 | zero=>rw [U4] at e ⊢;cases e;exact ⟨v,rfl,rx⟩
 | succ i =>
  rw [Ul] at e ⊢
  unfold pV at e
  unfold dT
  rw [TN] at e ⊢
  cases ep:ks[i]? with
  | none=>rw [ep] at e;cases e
  | some p =>
   rw [ep] at e
   have e':(τ[p.2]?).getD none=some y:=Option.some.inj e
   have e2:τ[p.2]?=some (some y):=by
    cases q:τ[p.2]? with
    | none=>rw [q] at e';cases e'
    | some w=>rw [q] at e';exact congrArg some e'
   obtain ⟨v',h1,h2⟩:=r.get _ _ e2
   exact ⟨v',by show some ((σ[p.2]?).getD none)=_;rw [h1];rfl,h2⟩
def Sub (J J':Hq):Prop:=∀a o,J a=some o→J' a=some o
theorem Sub.refl (J:Hq):Sub J J:=λ_ _ h=>h
theorem Sub.put {J:Hq} {D:Addr} {o:HQ} (h:J D=none):Sub J (put J D o):=λa u e=>by
 have ne:a≠D:=by intro z;subst z;rw [h] at e;cases e
 rw [ak ne];exact e
def QC (it:xG) (J1:Hq) (ks:List (Str × Nat)) (τ:Sr) (tc:l9) (te:c4) (c:PV→Bool) (g:PV→PV):Prop:=it.xs.length < sizeLine∧∀J',Sub J1 J'→it.ok J' ∧
 ∀x∈it.xs,tc (some x :: pV ks τ) J' (λb J2=>b=c x∧J2=J')∧(c x=true→te (some x :: pV ks τ) J' λy J2=>y=g x∧J2=J')
def wD (wi:tJ) (ks:List (Str × Nat)) (tc:l9) (te:c4):c4:=λτ J Q=>wi τ J λit J1=>∃(c:PV→Bool) (g:PV→PV),QC it J1 ks τ tc te c g∧Q (.fl ((it.xs.filter c).map g)) J1
def MT (wi:tJ) (ks:List (Str × Nat)) (tc:l9) (te:c4):c4:=λτ J Q=>wi τ J λit J1=>∃(c:PV→Bool) (g:PV→PV),QC it J1 ks τ tc te c g∧∀p,J1 p=none→Q (.ref p) (put J1 p (.lst ((it.xs.filter c).map g)))
def yS:l9:=λ_ J Q=>Q true J
section
variable {X:Cx} {G:G2}
theorem pE {α:Type} (c:α→Bool) {xs:List α} {i:Nat} {x:α} (h:xs[i]?=some x):(xs.take (i + 1)).filter c=(xs.take i).filter c ++ (if c x=true then [x] else []):=by
 rw [Ub,h,U5]
 congr 1
 simp only [Option.toList_some,Uh,VM]
theorem vN {K:PySem.W.Frag} {ks:List (Str × Nat)} {tc:l9} {te:c4} {σ:L2.St} {H:Hp} {Q:VK} {τ:Sr} {J:Hq} (a2:xC K G τ J σ H) {it:xG} {J1:Hq} {I:It} {H1:Hp} (ir:uq K it I J1 H1) (r1:Rep K J1 H1) (e1:Ext K J H J1 H1) {c:PV→Bool} {g:PV→PV}
  (w:QC it J1 ks τ tc te c g)
  (q:∀D H2,H1 D=none→J1 D=none→Rep K (put J1 D (.lst ((it.xs.filter c).map g))) H2→Ext K J1 H1 (put J1 D (.lst ((it.xs.filter c).map g))) H2→Q (.ref D) H2) :
  ∀D,H1 D=none→∃W:Nat→Nat→Hp→Prop,(∃m,W 0 m (upd H1 D (.lst [])))∧∀i m H2,W i m H2→(I.stop i H2∧Q (.ref D) H2) ∨
   (I.go i H2∧∀v H3,I.yld i H2 v H3→LT K G tc (some v :: dT ks σ) H3 λb H4=>if b=true then LE K G te (some v :: dT ks σ) H4 λy H5=>∃ys,H5 D=some (.lst ys)∧ys.length < sizeLine∧∃m',m' < m∧W (i + 1) m' (upd H5 D (.lst (ys ++ [y]))) else ∃m',m' < m∧W (i + 1) m' H4):=by
 intro D hD
 obtain ⟨hlen,w⟩:=w
 have jD:J1 D=none:=r1.free hD
 refine ⟨λi m H2=>m=it.xs.length - i∧i≤it.xs.length∧Rep K (put J1 D (.lst (((it.xs.take i).filter c).map g))) H2∧Ext K J1 H1 (put J1 D (.lst (((it.xs.take i).filter c).map g))) H2,⟨_,rfl,Ue _,r1.Fu (xs:=[]) (vs:=[]) hD rfl,.laid hD⟩,?_⟩
 rintro i m H2 ⟨rfl,hi,r2,e2⟩
 obtain ⟨ok,ww⟩:=w _ (Sub.put (o:=.lst (((it.xs.take i).filter c).map g)) jD)
 by_cases hlt:i < it.xs.length
 ·refine .inr ⟨ir.go _ H2 e2 r2 ok i hlt,λv H3 y=>?_⟩
  obtain ⟨x,ex,rx,r3,e3⟩:=ir.yl _ H2 e2 r2 ok i hlt v H3 y
  obtain ⟨hc,he⟩:=ww x (TH ex)
  have a3:xC K G (some x :: pV ks τ) _ (some v :: dT ks σ) H3:=⟨Cq (a2.sl.ext ((e1.trans e2).trans e3)) rx ks,r3,((a2.ext.trans e1).trans e2).trans e3⟩
  refine ⟨_,_,_,a3,hc,λb J4 H4 r4 e4 ⟨eb,ej⟩=>?_⟩
  subst ej
  cases hb:c x with
  | false =>
   rw [eb,hb]
   simp only [T2,if_false]
   refine ⟨_,by omega,rfl,hlt,?_⟩
   rw [pE c ex,hb]
   simp only [T2,if_false,Uq]
   exact ⟨r4,(e2.trans e3).trans e4⟩
  | true =>
   rw [eb,hb]
   simp only [if_true]
   refine ⟨_,_,_,a3.go r4 e4,he hb,λz J5 u H5 rz r5 e5 ⟨ez,ej⟩=>?_⟩
   subst ej ez
   obtain ⟨ys,h5,ry⟩:=r5 D _ aq
   have ll:ys.length≤i:=by
    rw [← ry.length,Tx]
    exact T4 (Uu _ _) (by rw [T'];omega)
   have r6:=r5.wrote (ys:=((it.xs.take i).filter c).map g ++ [g x]) (vs:=ys ++ [u]) aq h5 (ry.append (show aJ K _ H5 [g x] [u] from ⟨u,[],rfl,rz,rfl⟩))
   have e6:=Ext.wrote (K:=K) (ys:=((it.xs.take i).filter c).map g ++ [g x]) (vs:=ys ++ [u]) (J:=put J1 D (.lst (((it.xs.take i).filter c).map g))) aq h5
   rw [eG] at r6 e6
   refine ⟨ys,h5,by omega,_,by omega,rfl,hlt,?_⟩
   rw [pE c ex,hb,if_pos rfl,TM]
   exact ⟨r6,(((e2.trans e3).trans e4).trans e5).trans e6⟩
 ·have ei:i=it.xs.length:=by omega
  subst ei
  rw [Uc] at r2 e2 ok
  exact .inl ⟨ir.stop _ H2 e2 r2 ok,q D H2 hD jD r2 e2⟩
theorem freeze {K:PySem.W.Frag} {J1:Hq} {H2:Hp} {D:Addr} {xs:List PV} (jD:J1 D=none) (r:Rep K (put J1 D (.lst xs)) H2):cv K J1 H2 (.fl xs) (.ref D)∧Rep K J1 H2∧Ext K (put J1 D (.lst xs)) H2 J1 H2:=by
 obtain ⟨ys,h,ry⟩:=r D _ aq
 have less:∀a,J1 a=put J1 D (.lst xs) a∨J1 a=none:=λa=>by
  by_cases e:a=D
  ·subst e;exact .inr jD
  ·rw [ak e];exact .inl rfl
 have e:=Ext.less (K:=K) (H:=H2) less
 exact ⟨⟨D,ys,rfl,.inl ⟨jD,.inl h⟩,e.jq ry⟩,r.less less,e⟩
theorem Fx {wi:tJ} {ks:List (Str × Nat)} {tc:l9} {te:c4}:∀σ H Q,LE X.K G (wD wi ks tc te) σ H Q→JD (LI X.K G wi) ks (LT X.K G tc) (LE X.K G te) σ H Q:=λσ H Q ⟨τ,J,Q2,a2,h,k⟩ =>
 ⟨τ,J,_,a2,h,λit J1 I H1 ir r1 e1 ⟨c,g,w,q⟩=>vN (Q:=Q) a2 ir r1 e1 w λD H2 hD jD r2 e2=>let ⟨x1,x2,x3⟩:=freeze jD r2;k _ J1 _ H2 x1 x2 ((e1.trans e2).trans x3) q⟩
theorem Fy {wi:tJ} {ks:List (Str × Nat)} {tc:l9} {te:c4}:∀σ H Q,LE X.K G (MT wi ks tc te) σ H Q→JD (LI X.K G wi) ks (LT X.K G tc) (LE X.K G te) σ H Q:=λσ H Q ⟨τ,J,Q2,a2,h,k⟩ =>
 ⟨τ,J,_,a2,h,λit J1 I H1 ir r1 e1 ⟨c,g,w,q⟩=>vN (Q:=Q) a2 ir r1 e1 w λD H2 hD jD r2 e2=>k (.ref D) _ _ H2 rfl r2 (e1.trans e2) (q D jD)⟩
theorem yf {wi:tJ} {ks:List (Str × Nat)} {te:c4}:∀σ H Q,LE X.K G (wD wi ks yS te) σ H Q→Qr (LI X.K G wi) ks (LE X.K G te) σ H Q:=λσ H Q ⟨τ,J,Q2,a2,h,k⟩ =>
 ⟨τ,J,_,a2,h,λit J1 I H1 ir r1 e1 ⟨c,g,w,q⟩ D hD=>by
  obtain ⟨W,w0,turn⟩:=vN (Q:=Q) a2 ir r1 e1 w (λD H2 hD jD r2 e2=>let ⟨x1,x2,x3⟩:=freeze jD r2;k _ J1 _ H2 x1 x2 ((e1.trans e2).trans x3) q) D hD
  refine ⟨W,w0,λi m H2 hw=>?_⟩
  rcases turn i m H2 hw with z | ⟨go,z⟩
  ·exact .inl z
  ·refine .inr ⟨go,λv H3 y=>?_⟩
   obtain ⟨τ',J',Q',a',t',k'⟩:=z v H3 y
   have:=k' true J' H3 a'.hp .refl t'
   simpa using this⟩
variable {elt iter cnd:Expr} {x y:Str} {px py:Pos} {sc:Scope} {pos spos:Pos} {wi:tJ} {te:c4} {tc:l9} {i:Nat}
theorem PB (osc:Scope) (N:List Str) (ks:List (Str × Nat)) (hc:X.calm=true) (ho:X.env.scope=osc) (hN:X.N=N) (hi:RI X G (.Name x px) iter wi) (he:∀cl C s₀ H₀ fp pins,RE (gd X sc cl C x ks s₀ H₀ fp pins) G elt te)
  (ok:cR sc osc N x ks:=by decide +kernel) (hs:∀x,foldedSetIterable iter X.env x=pure x:=by intro _;rfl):RE X G (.ListComp elt [⟨.Name x px,iter,[],0⟩] sc pos) (wD wi ks yS te) :=
 ⟨lp (Ku osc N ks hc ho hN hi.run (λcl C s₀ H₀ fp pins=>(he cl C s₀ H₀ fp pins).run) ok hs) yf⟩
theorem qY {t:c4} {u:TE} (h:∀σ H Q,LE X.K G t σ H Q→u σ H Q):∀D σ H,LS X.K G (ua t (HV i)) D σ H→u σ H λv H1=>D.nx (σ.set i (some v)) H1:=λD σ H ⟨τ,J,D2,a2,q,g⟩ =>
 h σ H _ ⟨τ,J,_,a2,q,λx J' v H' rx rr ee q=>g.nx _ J' _ H' ((a2.sl.ext ee).set i rx) rr ee q⟩
theorem MZ (osc:Scope) (N:List Str) (ks:List (Str × Nat)) (hc:X.calm=true) (ho:X.env.scope=osc) (hN:X.N=N) (hnd:X.N.Nodup) (hy:X.N[i]?=some y) (hl:Loc X.env.scope y) (hi:RI X G (.Name x px) iter wi) (he:∀cl C s₀ H₀ fp pins,RE (gd X sc cl C x ks s₀ H₀ fp pins) G elt te) (hcn:∀cl C s₀ H₀ fp pins,RT (gd X sc cl C x ks s₀ H₀ fp pins) G cnd tc)
  (ok:cR sc osc N x ks:=by decide +kernel) (hs:∀x,foldedSetIterable iter X.env x=pure x:=by intro _;rfl) (hsw:swapsWith (.ListComp elt [⟨.Name x px,iter,[cnd],0⟩] sc pos) (some (.Name y py)) spos.line X.env=pure true:=by rfl) (hf:X.fn y=true∨X.env.scope.names.lookup y=some .local:=by first | exact .inl rfl | exact .inr rfl | assumption) :
  RS X G (.Assign [.Name y py] (.ListComp elt [⟨.Name x px,iter,[cnd],0⟩] sc pos) spos) (ua (wD wi ks tc te) (HV i)) :=
 ⟨AI (AJ osc N ks hc ho hN hnd hy hl hi.run (λcl C s₀ H₀ fp pins=>(he cl C s₀ H₀ fp pins).run) (λcl C s₀ H₀ fp pins=>B' (hcn cl C s₀ H₀ fp pins).run) ok hs hsw hf) (qY Fx)⟩
theorem Jp (osc:Scope) (N:List Str) (ks:List (Str × Nat)) (hc:X.calm=true) (ho:X.env.scope=osc) (hN:X.N=N) (hnd:X.N.Nodup) (hy:X.N[i]?=some y) (hl:Loc X.env.scope y) (hi:RI X G (.Name x px) iter wi) (he:∀cl C s₀ H₀ fp pins,RE (gd X sc cl C x ks s₀ H₀ fp pins) G elt te) (hcn:∀cl C s₀ H₀ fp pins,RT (gd X sc cl C x ks s₀ H₀ fp pins) G cnd tc)
  (ok:cR sc osc N x ks:=by decide +kernel) (hs:∀x,foldedSetIterable iter X.env x=pure x:=by intro _;rfl) (hsw:swapsWith (.ListComp elt [⟨.Name x px,iter,[cnd],0⟩] sc pos) (some (.Name y py)) spos.line X.env=pure true:=by rfl) (hf:X.fn y=true∨X.env.scope.names.lookup y=some .local:=by first | exact .inl rfl | exact .inr rfl | assumption) :
  RS X G (.Assign [.Name y py] (.ListComp elt [⟨.Name x px,iter,[cnd],0⟩] sc pos) spos) (ua (MT wi ks tc te) (HV i)) :=
 ⟨AI (AJ osc N ks hc ho hN hnd hy hl hi.run (λcl C s₀ H₀ fp pins=>(he cl C s₀ H₀ fp pins).run) (λcl C s₀ H₀ fp pins=>B' (hcn cl C s₀ H₀ fp pins).run) ok hs hsw hf) (qY Fy)⟩
theorem KU (osc:Scope) (N:List Str) (ks:List (Str × Nat)) (hc:X.calm=true) (ho:X.env.scope=osc) (hN:X.N=N) (hnd:X.N.Nodup) (hy:X.N[i]?=some y) (hl:Loc X.env.scope y) (hi:RI X G (.Name x px) iter wi) (he:∀cl C s₀ H₀ fp pins,RE (gd X sc cl C x ks s₀ H₀ fp pins) G elt te)
  (ok:cR sc osc N x ks:=by decide +kernel) (hs:∀x,foldedSetIterable iter X.env x=pure x:=by intro _;rfl) (hsw:swapsWith (.ListComp elt [⟨.Name x px,iter,[],0⟩] sc pos) (some (.Name y py)) spos.line X.env=pure true:=by rfl) (hf:X.fn y=true∨X.env.scope.names.lookup y=some .local:=by first | exact .inl rfl | exact .inr rfl | assumption) :
  RS X G (.Assign [.Name y py] (.ListComp elt [⟨.Name x px,iter,[],0⟩] sc pos) spos) (ua (wD wi ks yS te) (HV i)) :=
 ⟨AI (Kv osc N ks hc ho hN hnd hy hl hi.run (λcl C s₀ H₀ fp pins=>(he cl C s₀ H₀ fp pins).run) ok hs hsw hf) (qY yf)⟩
end
end Ov
namespace Ov
open PySem PySem.Spec PyProof.Rows
section
open HT (lexLt)
def mh:List Str→List Str→Bool
 | [],[]=>false
 | [],_ :: _=>true
 | _ :: _,[]=>false
 | x :: xs,y :: ys=>if x=y then mh xs ys else decide (x.cps.toList < y.cps.toList)
theorem oA (x y:Str) (xs ys:List Str):mh (x :: xs) (y :: ys)=if x=y then mh xs ys else decide (x.cps.toList < y.cps.toList):=rfl
theorem m9:mh [] []=false:=rfl
theorem tM (y:Str) (ys:List Str):mh [] (y :: ys)=true:=rfl
theorem tL (x:Str) (xs:List Str):mh (x :: xs) []=false:=rfl
theorem EX (A:Around) (s:Shared) (a:Str) (t:Tok) (c:Str) (u:Tok):∃e,SeqAt.EqAt A s (.str a t) (.str c u) e∧(e=true↔a=c) :=
 ⟨(a == c),SeqAt.EqAt.str_str a t c u,by simp⟩
theorem Gy (A:Around) (s:Shared) (a:Str) (t:Tok) (c:Str) (u:Tok) (prog:Program) (w:World) (E:Value→Shared→Prop) (Q:Value→Shared→Prop) (h:Q (.bool (decide (a.cps.toList < c.cps.toList))) s) :
  wpAny (model prog w) A (richCompare .Lt (.str a t) (.str c u)) Q E s :=
 (PyProof.Rows.lt_str h:wpAny (model prog w) A (compareOp .Lt (.str a t) (.str c u)) Q E s)
open PySem.SeqAt
open PySem.AutoSeq1 (wpAny_loadPart')
open PySem.MeetsSeq PySem.MeetsSeq2 PySem.MeetsSeq3
theorem uj (l b:Addr) (items items2:Array Value) (n n2:Nat) (dd dd2:Option Addr) (sl sl2:Array (Option Value)) (ns ms:List Str) (hi:StrsAre items.toList ns) (hj:StrsAre items2.toList ms) :
  Meets (Builtin.«tuple.__lt__» ⟨[.ref l,.ref b],[]⟩)
   (λ_ R s=>s.heap.get? l=some { cls:=.type "tuple",dict:=dd,data:=.seq items n,slots:=sl }∧s.heap.get? b=some { cls:=.type "tuple",dict:=dd2,data:=.seq items2 n2,slots:=sl2 } ∧
    R (.ok (.ret (.bool (mh ns ms)))) s) :=
 .of_wp λprog w A R s h=>by
  obtain ⟨hp,g,d,tk,os⟩:=s;obtain ⟨hl,hb,h⟩:=h
  have f2:=AutoSeq1.sub_tuple_tuple
  have z1:items.size=ns.length:=by rw [← hi.length];simp
  have z2:items2.size=ms.length:=by rw [← hj.length];simp
  wp_walk using wpAny_loadPart' hl,wpAny_loadPart' hb,wpAny_forIn_list _ (λrest b s'=>b.1=none∧s'=⟨hp,g,d,tk,os⟩∧∃(vs ws:List Value) (ns' ms':List Str),rest=vs.zip ws ∧
   StrsAre vs ns'∧StrsAre ws ms'∧ns'.length + items2.size=ms'.length + items.size∧R (.ok (.ret (.bool (mh ns' ms')))) ⟨hp,g,d,tk,os⟩) _
  case turn =>
   rintro ⟨y,x⟩ rest b s' ⟨hb',rfl,vs,ws,ns',ms',hz,hvi,hwi,hlen,hR⟩
   cases hvi with
   | nil=>rw [List.zip_nil_left] at hz;cases hz
   | cons a t hvi' =>
    cases hwi with
    | nil=>rw [List.zip_nil_right] at hz;cases hz
    | cons c u hwi' =>
     rw [VY] at hz
     injection hz with hyx hrest
     injection hyx with hy hx
     subst hy hx
     rw [oA] at hR
     simp only [T8] at hlen
     obtain ⟨e,he,hiff⟩:=EX A.in1 ⟨hp,g,d,tk,os⟩ a t c u
     refine wpAny_bind (he prog w _ _ ?_)
     cases e with
     | true =>
      rw [if_pos (hiff.mp rfl)] at hR
      wp_walk
      exact ⟨rfl,rfl,_,_,_,_,hrest,hvi',hwi',by omega,hR⟩
     | false =>
      rw [if_neg (λq=>absurd (hiff.mpr q) TY)] at hR
      have hri:=Gy A.in1 ⟨hp,g,d,tk,os⟩ a t c u prog w
      wp_walk using hri
      exact ⟨_,rfl,by simpa using hR⟩
  case fin =>
   rintro ⟨b1,b2⟩ s' ⟨hb',rfl,vs,ws,ns',ms',hz,hvi,hwi,hlen,hR⟩
   simp only at hb'
   subst hb'
   have hv:mh ns' ms'=decide (items.size < items2.size):=by
    cases hvi with
    | nil =>
     cases hwi with
     | nil =>
      simp only [U8] at hlen
      rw [m9]
      exact (decide_eq_false (by omega)).symm
     | cons c u hw =>
      simp only [U8,T8] at hlen
      rw [tM]
      exact (decide_eq_true (by omega)).symm
    | cons a t hv =>
     cases hwi with
     | nil =>
      simp only [U8,T8] at hlen
      rw [tL]
      exact (decide_eq_false (by omega)).symm
     | cons c u hw =>
      rw [VY] at hz
      cases hz
   rw [hv] at hR
   wp_walk
   exact ⟨_,rfl,by simpa [Builtin.Tuple.tupleCompareSizes] using hR⟩
  case h =>
   exact ⟨rfl,rfl,items.toList,items2.toList,ns,ms,rfl,hi,hj,by omega,h⟩
section
variable {prog:Program} {w:World} {A:Around} {E:Value→Shared→Prop} {s:Shared}
theorem Al {l b:Addr} {items items2:Array Value} {ns ms:List Str} {Q:Value→Shared→Prop} (hl:IsTup s.heap l items) (hb:IsTup s.heap b items2) (hi:StrsAre items.toList ns) (hj:StrsAre items2.toList ms)
  (hu:A.units < cLine) (h:Q (.bool (mh ns ms)) s):wpAny (model prog w) A (compareOp .Lt (.ref l) (.ref b)) Q E s:=by
 obtain ⟨⟨cls,dd,data,sl⟩,ho,hc,n,hd⟩:=id hl
 obtain ⟨⟨cls2,dd2,data2,sl2⟩,ho2,hc2,n2,hd2⟩:=id hb
 simp only at hc hd hc2 hd2
 subst hc hd hc2 hd2
 exact richCompare_meets_room (op:=.Lt) ⟨_,ho,rfl⟩ ⟨_,ho2,rfl⟩ PySem.F.slot_tuple_lt PySem.F.entry_tuple_lt (PySem.F.args_tuple_lt_2 _ _) (uj l b items items2 n n2 dd dd2 sl sl2 ns ms hi hj)
  ⟨ho,ho2,show Value.bool (mh ns ms)≠Value.notImplemented∧Q (.bool (mh ns ms)) s from ⟨(λx=>nomatch x),h⟩⟩ hu
end
end
open L2 (V HO Hp Inv Cx VK XK TE TT TA TS TG pY TI TO jX Ends xD Loc Gl Rd RelV Vals fm xO bY pW tI pX jW R2 upd aE aO cW gK Sp sF It bB c5 bK Passes pG aD Meth Mk Binds aL bZ aw de f9 eO)
section
variable {X:Cx} {K:PySem.W.Frag}
theorem IJ (hu:X.A.units < cLine):fm X (compareOp .Lt) (λx y H Q=>∃a b ns ms,x=.ref a∧y=.ref b∧gK X.K H a (ns.map V.str)∧gK X.K H b (ms.map V.str)∧Q (.bl (mh ns ms)) H):=by
 intro pins s σ H x y v u Q I rx ry h
 obtain ⟨a,b,ns,ms,rfl,rfl,ha,hb,q⟩:=h
 cases rx;cases ry
 obtain ⟨is,r1,t1,_⟩:=I.tuple ha
 obtain ⟨js,r2,t2,_⟩:=I.tuple hb
 exact Al t1 t2 (by simpa using jF r1) (by simpa using jF r2) hu ⟨.bl _,H,I,rfl,q⟩
theorem sx {J:Hq} {H:Hp}:∀{ns:List Str} {vs:List V},aJ K J H (ns.map PV.str) vs→vs=ns.map V.str
 | [],_,h=>h
 | n :: ns,_,⟨v,us,e,h,k⟩=>by subst e;cases h;rw [sx k];rfl
def KC:mT:=λx y J Q=>∃ns ms,x=.tup (ns.map .str)∧y=.tup (ms.map .str)∧Q (.bl (mh ns ms)) J
theorem IL (hu:X.A.units < cLine):mS X (compareOp .Lt) KC:=⟨_,IJ hu,λJ H x y v w Q2 Q rx ry r ⟨ns,ms,ex,ey,q⟩ k=>by
 subst ex ey
 obtain ⟨a,vs,rfl,h1,h2⟩:=rx
 obtain ⟨b,ws,rfl,h3,h4⟩:=ry
 cases sx h2;cases sx h4
 exact ⟨a,b,ns,ms,rfl,rfl,h1,h3,k (.bl _) J _ H rfl r .refl q⟩⟩
def O3:mT:=λx y J Q=>∃xs ys,jU J x=some xs∧jU J y=some ys∧xs.length + ys.length≤sizeLine∧Q (.fl (xs ++ ys)) J
end
def dF (K:PySem.W.Frag) (C:Addr) (m qual:Str) (st:Stmt):Prop:=∃f fd,Meth K C m f∧bZ K m qual st f fd
structure dD (K:PySem.W.Frag) (mg:Str→Option Value) (x:Str) (C:Addr):Prop where
 cl:pG K C
 m:mg x=some (.ref C)
 mkz:PySem.W.makesIn K C=true
 kp:PySem.W.keepIn K (.ref C)=true
theorem bc {K:PySem.W.Frag} {C f:Addr} {m qual:Str} {st:Stmt} {od an:Option Addr} {sl:Array (Option Value)} {oc kV dc pm cd ct:Value} (a:PySem.W.findIn K (.ref C) m=some (some (.ref f))) (i:PySem.W.isFn K (.ref f)=true)
  (l:K.lookup f=some ⟨oc,od,.func (PySem.W.fnOf m qual (L2.c6 st) (L2.bQ st) (L2.aj st) .none kV dc pm an cd ct),sl⟩) (c:PySem.W.codeIn K cd qual=true) (k:PySem.W.keepIn K (.ref f)=true):dF K C m qual st :=
 ⟨f,_,⟨a,i,k⟩,L2.Ac l c k⟩
theorem vJ {K:PySem.W.Frag} {h:Heap} {mg:Str→Option Value} {x:Str} {C:Addr} (X:K.In h) (G:h.Ns mainGlobals mg) (aC:PySem.W.nsIn K mainGlobals x=some (some (.ref C)))
  (pg:PySem.W.plainGet K C Str.empty=true) (hd:PySem.W.hasDictIn K C=true) (po:PySem.W.plainOver K C=true) (sa:PySem.W.findIn K (.ref C) "__setattr__"=some (some (.builtin "object.__setattr__"))) (mk:PySem.W.makesIn K C=true) (kc:PySem.W.keepIn K (.ref C)=true):dD K mg x C :=
 ⟨⟨pg,hd,po,sa⟩,PySem.W.mg_of X G aC,mk,kc⟩
section
variable {P:Program} {w:World} {K:PySem.W.Frag} {mg:Str→Option Value} {base:Heap}
theorem dF.pO {C:Addr} {m qual:Str} {st:Stmt} {k:Nat} {ps:List Str} {sp:cF} (D:dF K C m qual st) (cl:pG K C) (h:∀f fd,bZ K m qual st f fd→aL P w K mg base (cV P w) k f fd ps (dn K sp))
  (hb:∀(kV doc pm:Value) (an:Option Addr) (cdv ct:Value) (us:List Value),us.length=ps.length→bindArgs (PySem.W.fnOf m qual (L2.c6 st) (L2.bQ st) (L2.aj st) .none kV doc pm an cdv ct) ⟨us,[]⟩=pure (ps.zip us)):cu P w K mg base C k m ps sp:=by
 obtain ⟨f,fd,hm,F⟩:=D
 exact ⟨cl,f,fd,hm,h f fd F,F.binds hb⟩
theorem dF.Rp {x:Str} {C:Addr} {qual:Str} {st:Stmt} {k:Nat} {ps:List Str} {sp:cF} (D:dF K C "__init__" qual st) (kd:dD K mg x C) (h:∀f fd,bZ K "__init__" qual st f fd→aL P w K mg base (cV P w) k f fd ps (dn K sp))
  (hb:∀(kV doc pm:Value) (an:Option Addr) (cdv ct:Value) (us:List Value),us.length=ps.length→bindArgs (PySem.W.fnOf "__init__" qual (L2.c6 st) (L2.bQ st) (L2.aj st) .none kV doc pm an cdv ct) ⟨us,[]⟩=pure (ps.zip us)):vq P w K mg base C k x ps sp:=by
 obtain ⟨f,fd,hm,F⟩:=D
 exact ⟨kd.m,f,fd,⟨kd.mkz,hm.at_,hm.fn,kd.kp⟩,h f fd F,F.binds hb⟩
end
theorem Ny {n:Nat} {F:List Value→Prop} (h:∀a us,us.length=n→F (a :: us)) (us:List Value) (hu:us.length=n + 1):F us:=by
 cases us with
 | nil=>cases hu
 | cons a us=>exact h a us (Nat.succ.inj hu)
theorem Tc {F:List Value→Prop} (h:F []) (us:List Value) (hu:us.length=0):F us:=by
 cases us with
 | nil=>exact h
 | cons a us=>cases hu
theorem zw {F:List Value→Prop} (h:∀a,F [a]):∀us:List Value,us.length=1→F us:=Ny λa=>Tc (F:=λus=>F (a :: us)) (h a)
theorem jT {F:List Value→Prop} (h:∀a b,F [a,b]):∀us:List Value,us.length=2→F us:=Ny λa=>zw (F:=λus=>F (a :: us)) (h a)
theorem Lm {F:List Value→Prop} (h:∀a b c,F [a,b,c]):∀us:List Value,us.length=3→F us:=Ny λa=>jT (F:=λus=>F (a :: us)) (h a)
theorem Nx {F:List Value→Prop} (h:∀a b c d,F [a,b,c,d]):∀us:List Value,us.length=4→F us:=Ny λa=>Lm (F:=λus=>F (a :: us)) (h a)
theorem QL {F:List Value→Prop} (h:∀a b c d e,F [a,b,c,d,e]):∀us:List Value,us.length=5→F us:=Ny λa=>Nx (F:=λus=>F (a :: us)) (h a)
theorem Td {F:List Value→Prop} (h:∀a b c d e f,F [a,b,c,d,e,f]):∀us:List Value,us.length=6→F us:=Ny λa=>QL (F:=λus=>F (a :: us)) (h a)
end Ov
namespace Ov
open PySem PySem.Spec PyProof.Rows
open L2 (V HO Hp Inv Cx VK XK Rd cW gK Sp bB bK Passes aL bZ aw de upd aE aO)
def fr (q:Rat):PV:=.tup [.int q.num,.int (q.den:Int)]
theorem LJ (a b:Rat):(fr a=fr b)=(a=b):=by
 apply propext
 constructor
 ·intro h
  unfold fr at h
  simp only [PV.tup.injEq,List.cons.injEq,PV.int.injEq,and_true] at h
  exact Rat.ext h.1 (by have:=h.2;omega)
 ·intro h;rw [h]
theorem JX (a:Rat):fr a=.tup [.int a.num,.int (a.den:Int)]:=rfl
theorem LN (J:Hq) (q:Rat):fB J (fr q) (.int 0)=some (.int q.num):=dC _ _
theorem LP (J:Hq) (q:Rat):fB J (fr q) (.int 1)=some (.int (q.den:Int)):=fM _ _ _
theorem P8 (J:Hq) (q:Rat):CV J (fr q)=some "tuple":=rfl
theorem L8 (J:Hq) (q:Rat):yi J (fr q)=some 2:=rfl
theorem wx (q:Rat):mK (fr q)=true:=by simp [fr,mK,kJ]
theorem qX (q:Rat):Fj (fr q)=false:=rfl
theorem LC (q:Rat):dep (fI (fr q))=1:=by simp [fr,fI,eQ,dep,df]
theorem N2 (q:Rat):HJ (fr q)=True:=eq_true ⟨wx q,by rw [LC];decide⟩
theorem Lu (i:Int):HJ (.int i)=True:=eq_true ⟨by simp [mK],by simp [fI,dep]⟩
theorem Lw (i:Str):HJ (.str i)=True:=eq_true ⟨by simp [mK],by simp [fI,dep]⟩
theorem N1 (i:Bool):HJ (.bl i)=True:=eq_true ⟨by simp [mK],by simp [fI,dep]⟩
theorem Lv:HJ .non=True:=eq_true ⟨by simp [mK],by simp [fI,dep]⟩
theorem Cb (i:Int):mK (.int i)=true:=by simp [mK]
theorem wy (i:Str):mK (.str i)=true:=by simp [mK]
theorem MK (i:Bool):mK (.bl i)=true:=by simp [mK]
theorem Jc:mK .non=true:=by simp [mK]
theorem Cc (xs:List PV):mK (.tup xs)=kJ xs:=by simp [mK]
theorem lA (x:PV) (xs:List PV):kJ (x :: xs)=(mK x && kJ xs):=by simp [kJ]
theorem yP:kJ []=true:=by simp [kJ]
theorem eq_int (a b:Int):eqQ (.int a) (.int b)=decide (a=b):=by unfold eqQ fI k_;rw [VN]
theorem eq_str (a b:Str):eqQ (.str a) (.str b)=decide (a=b):=by
 unfold eqQ fI k_
 cases h:a == b with
 | true=>simp at h;simp [h]
 | false=>simp at h;simp [h]
theorem N5 (a b:Bool):eqQ (.bl a) (.bl b)=decide (a=b):=by unfold eqQ fI k_;rw [VN]
def z_ (xs ys:List PV):Bool:=j2 (eQ xs) (eQ ys)
theorem vF (xs ys:List PV):eqQ (.tup xs) (.tup ys)=z_ xs ys:=by unfold eqQ fI k_ z_;rfl
theorem dM (x y:PV) (xs ys:List PV):z_ (x :: xs) (y :: ys)=(eqQ x y && z_ xs ys):=by unfold z_ eqQ;simp [eQ,j2]
theorem pZ:z_ [] []=true:=by unfold z_;simp [eQ,j2]
theorem eq_self (x:PV):eqQ x x=true:=x8 _
theorem BG (a b:Rat):eqQ (fr a) (fr b)=decide (a=b):=by
 rw [JX,JX,vF,dM,dM,pZ,eq_int,eq_int,UN,← US]
 exact decide_eq_decide.mpr (by rw [Jl])
theorem Tv (a b c:PV):md [a,b,c] (some 1) none=[b,c]:=rfl
theorem Nh:mG "int" "int"=some true:=by simp [mG]
theorem JM:mG "int" "bool"=some false:=by simp [mG]
theorem P_:mG "bool" "bool"=some true:=by simp [mG]
theorem Ni:mG "str" "str"=some true:=by simp [mG]
theorem Nj:mG "tuple" "tuple"=some true:=by simp [mG]
theorem JN:mG "list" "list"=some true:=by simp [mG]
theorem dU {n:Nat} (h:n≤1000):n≤sizeLine:=Vp (L2.a_ h)
theorem Kf:(0≤sizeLine)=True:=eq_true (Ue _)
theorem Ol:(1≤sizeLine)=True:=eq_true (dU (by decide))
theorem Om:(2≤sizeLine)=True:=eq_true (dU (by decide))
theorem Oo:(3≤sizeLine)=True:=eq_true (dU (by decide))
theorem Oq:(4≤sizeLine)=True:=eq_true (dU (by decide))
section
variable (J:Hq) (xs:List PV) (a:Addr) (i:Int) (b:Bool) (z:Str) (T:String)
theorem Rc:fB J (.tup xs) (.int i)=de xs i:=rfl
theorem Rb:fB J (.fl xs) (.int i)=de xs i:=rfl
theorem Oe:fB J (.ref a) (.int i)=(match J a with | some (.lst xs)=>de xs i | _=>none):=rfl
theorem Ro:jU J (.fl xs)=some xs:=rfl
theorem yn:jU J (.ref a)=(match J a with | some (.lst xs)=>some xs | _=>none):=rfl
theorem Oj:yi J (.tup xs)=some xs.length:=rfl
theorem Oi:yi J (.fl xs)=some xs.length:=rfl
theorem Kd:yi J (.ref a)=(match J a with | some (.lst xs)=>some xs | _=>none).map UG:=rfl
theorem Sa:CV J .non=some "NoneType":=rfl
theorem P7:CV J (.bl b)=some "bool":=rfl
theorem R':CV J (.int i)=some "int":=rfl
theorem Sb:CV J (.str z)=some "str":=rfl
theorem Sd:CV J (.tup xs)=some "tuple":=rfl
theorem R_:CV J (.fl xs)=some "list":=rfl
theorem P9:CV J (.ref a)=(match J a with | some (.lst _)=>some "list" | some (.dct _ _)=>some "dict" | _=>none):=rfl
theorem P1:xw J .non=some false:=rfl
theorem K4:xw J (.bl b)=some b:=rfl
theorem P0:xw J (.int i)=some (i != 0):=rfl
theorem P4:xw J (.tup xs)=some (!xs.isEmpty):=rfl
theorem PZ:xw J (.fl xs)=some (!xs.isEmpty):=rfl
theorem P2:xw J (.ref a)=(match J a with | some (.lst xs)=>some (!xs.isEmpty) | some (.dct kvs _)=>some (!kvs.isEmpty) | _=>none):=rfl
theorem Q_:NC J (.fl xs)=some ⟨xs,λ_=>True⟩:=rfl
theorem Ra:NC J (.ref a)=(match J a with | some (.lst xs)=>some ⟨xs,λJ'=>J' a=some (.lst xs)⟩ | _=>none):=rfl
theorem N':Fj .non=true:=rfl
theorem Q4:Fj (.bl b)=false:=rfl
theorem Q6:Fj (.int i)=false:=rfl
theorem Q8:Fj (.str z)=false:=rfl
theorem Q9:Fj (.tup xs)=false:=rfl
theorem Q5:Fj (.fl xs)=false:=rfl
theorem Q7:Fj (.ref a)=false:=rfl
theorem R6:NK T J (.fl xs)=(T="list"):=rfl
theorem R8:NK T J (.str z)=(T="str"):=rfl
theorem R7:NK T J (.ref a)=((T="list"∧∃xs,J a=some (.lst xs))∨(T="dict"∧∃kvs ep,J a=some (.dct kvs ep))):=rfl
end
def Fo (it:xG) (g:zR) (tb:iX) (D:En) (τ:Sr) (J1:Hq):Prop:=∃Pv:Nat→Sr→Hq→Prop,Pv 0 τ J1∧(∀i τ J,Pv i τ J→it.ok J) ∧
 (∀i x τ J,it.xs[i]?=some x→Pv i τ J→g x τ J λτ2 J2=>tb { D with nx:=Pv (i + 1),ct:=Pv (i + 1),bk:=D.nx } τ2 J2)∧∀τ J,Pv it.xs.length τ J→D.nx τ J
theorem Jg (wi:tJ) (g:zR) (tb:iX) (D:En) (τ:Sr) (J:Hq):Pg wi g tb D τ J=wi τ J λit J1=>Fo it g tb D τ J1:=rfl
theorem HS {lo:Int} {n:Nat} {g:zR} {tb:iX} {D:En} {τ:Sr} {J1:Hq} (Pv:Nat→Sr→Hq→Prop) (h0:Pv 0 τ J1)
  (hs:∀(i:Nat) τ J,i < n→Pv i τ J→g (.int (lo + (i:Int))) τ J λτ2 J2=>tb { D with nx:=Pv (i + 1),ct:=Pv (i + 1),bk:=D.nx } τ2 J2) (hd:∀τ J,Pv n τ J→D.nx τ J):Fo ⟨ox lo n,λ_=>True⟩ g tb D τ J1 :=
 ⟨Pv,h0,λ_ _ _ _=>trivial,λi x τ J e p=>by obtain ⟨a,b⟩:=(m6 lo n i x).mp e;subst b;exact hs i τ J a p,λτ J p=>hd τ J (by simpa [fq] using p)⟩
structure bP (mg:Str→Option Value):Prop extends Ed mg where
 str:mg "str"=none
 dict:mg "dict"=none
 max:mg "max"=none
 zip:mg "zip"=none
 enumerate:mg "enumerate"=none
def oa (J' J:Hq):Prop:=∀a,J' a=J a∨J' a=none
def Fg (Q:PV→Hq→Prop) (v:PV) (J:Hq):Prop:=∃x J',oa J' J∧(x=v∨∃a xs,v=.ref a∧x=.fl xs∧J a=some (.lst xs)∧J' a=none)∧Q x J'
theorem Fg.same {Q:PV→Hq→Prop} {v:PV} {J:Hq} (h:Q v J):Fg Q v J:=⟨v,J,λ_=>.inl rfl,.inl rfl,h⟩
theorem Fg.less {Q:PV→Hq→Prop} {v:PV} {J J':Hq} (l:oa J' J) (h:Q v J'):Fg Q v J:=⟨v,J',l,.inl rfl,h⟩
theorem Fg.qQ {Q:PV→Hq→Prop} {a:Addr} {xs:List PV} {J J':Hq} (l:oa J' J) (ha:J a=some (.lst xs)) (hn:J' a=none) (h:Q (.fl xs) J'):Fg Q (.ref a) J:=⟨.fl xs,J',l,.inr ⟨a,xs,rfl,rfl,ha,hn⟩,h⟩
section
variable {P:Program} {w:World} {K:PySem.W.Frag} {mg:Str→Option Value} {base:Heap}
theorem Fg.kn {J:Hq} {H:Hp} {Q2:PV→Hq→Prop} {Q:VK} (k:Kn K J H Q2 Q):Kn K J H (Fg Q2) Q:=λz J1 u H1 rz r1 e1 ⟨x,J',l,hx,q⟩=>by
 have el:=Ext.less (K:=K) (H:=H1) l
 rcases hx with rfl | ⟨a,xs,rfl,rfl,ha,hn⟩
 ·exact k x J' u H1 (el.rep rz) (r1.less l) (e1.trans el) q
 ·cases rz
  obtain ⟨vs,h1,h2⟩:=r1 _ _ ha
  exact k (.fl xs) J' _ H1 ⟨a,vs,rfl,.inl ⟨hn,.inl h1⟩,el.jq h2⟩ (r1.less l) (e1.trans el) q
theorem To {x qual:Str} {st:Stmt} {f:Addr} {fd:FuncData} {N ps:List Str} {k:Nat} {sp:cF} (F:bZ K x qual st f fd) (S:aw N ps (L2.aj st)) (len:∀xs J Q E,sp xs J Q E→xs.length=ps.length)
  (hbody:∀(cdv:Value) (A:Around) (outer:List Env) (s:Shared) (H:Hp) (E:XK) (G:G2) (xs:List PV) (J:Hq) (Q:PV→Hq→Prop) (E2:Addr→Hq→Prop),bK k (A.deeper (envOfC qual (L2.aj st) s.heap.objs.size f cdv))→sp xs J Q E2 →
   Ee (zx P w K mg base N qual (L2.aj st) f cdv A outer s H E) G E2 E →
   ∃t,RB (zx P w K mg base N qual (L2.aj st) f cdv A outer s H E) G (L2.bQ st) t∧t { nx:=λ_ J'=>Fg Q .non J',rt:=Fg Q } (xr N xs) J):aL P w K mg base (cV P w) (k + 1) f fd ps (dn K sp):=by
 have:=Rw (sp:=λxs J Q E=>∃Q0,Q=Fg Q0∧sp xs J Q0 E) F S (λxs J Q E ⟨Q0,_,h⟩=>len xs J Q0 E h) (λcdv A outer s H E G xs J Q E2 hr ⟨Q0,eq,h⟩ B=>by subst eq;exact hbody cdv A outer s H E G xs J Q0 E2 hr h B)
 exact this.imp λvs H Q E ⟨xs,J,Q2,E2,a,b,c,d,e⟩=>⟨xs,J,Fg Q2,E2,a,b,⟨Q2,rfl,c⟩,Fg.kn d,e⟩
end
section
variable {P:Program} {w:World} {K:PySem.W.Frag} {mg:Str→Option Value} {base:Heap}
theorem Rv {x qual:Str} {st:Stmt} {f:Addr} {fd:FuncData} {N ps:List Str} {k:Nat} {sp:cF} {t:(Addr→Hq→Prop)→iX} (F:bZ K x qual st f fd) (S:aw N ps (L2.aj st)) (len:∀xs J Q E,sp xs J Q E→xs.length=ps.length)
  (rd:∀(cdv:Value) (A:Around) (outer:List Env) (s:Shared) (H:Hp) (E:XK) (G:G2) (E2:Addr→Hq→Prop),bK k (A.deeper (envOfC qual (L2.aj st) s.heap.objs.size f cdv)) →
   Ee (zx P w K mg base N qual (L2.aj st) f cdv A outer s H E) G E2 E→RB (zx P w K mg base N qual (L2.aj st) f cdv A outer s H E) G (L2.bQ st) (t E2))
  (run:∀(xs:List PV) (J:Hq) (Q:PV→Hq→Prop) (E2:Addr→Hq→Prop),sp xs J Q E2→∀X:Prop,(t E2 { nx:=λ_ J'=>Fg Q .non J',rt:=Fg Q } (xr N xs) J→X)→X):aL P w K mg base (cV P w) (k + 1) f fd ps (dn K sp) :=
 To F S len λcdv A outer s H E G xs J Q E2 hr h B=>⟨_,rd cdv A outer s H E G E2 hr B,run xs J Q E2 h _ id⟩
end
theorem HR {X:Cx} {G:G2}:Ee X G (λ_ _=>False) L2.E0:=⟨λ_ _ _ _ _ _ _ ⟨_,_,_,_,_,z⟩=>z.elim,λ_ _ _ _ _ z=>z.elim⟩
theorem oO {K:PySem.W.Frag} {J:Hq} {H:Hp}:∀ns:List Int,aJ K J H (ns.map PV.int) (ns.map V.int)
 | []=>rfl
 | n :: ns=>⟨_,_,rfl,rfl,oO ns⟩
end Ov
namespace Ov
open PySem PySem.Spec PyProof.Rows L2
theorem NT {α:Type} (a b c d e:α) (xs:List α):de (a :: b :: c :: d :: e :: xs) 4=some e:=bq (j:=4) rfl
theorem NU {α:Type} (a b c d e f:α) (xs:List α):de (a :: b :: c :: d :: e :: f :: xs) 5=some f:=bq (j:=5) rfl
theorem NV {α:Type} (a b c d e f g:α) (xs:List α):de (a :: b :: c :: d :: e :: f :: g :: xs) 6=some g:=bq (j:=6) rfl
theorem NW {α:Type} (a b c d e f g h:α) (xs:List α):de (a :: b :: c :: d :: e :: f :: g :: h :: xs) 7=some h:=bq (j:=7) rfl
theorem NX {α:Type} (a b c d e f g h i:α) (xs:List α):de (a :: b :: c :: d :: e :: f :: g :: h :: i :: xs) 8=some i:=bq (j:=8) rfl
theorem NY {α:Type} (a b c d e f g h i j:α) (xs:List α):de (a :: b :: c :: d :: e :: f :: g :: h :: i :: j :: xs) 9=some j:=bq (j:=9) rfl
theorem Lo {α:Type} (a b c d e f g h i j k:α) (xs:List α):de (a :: b :: c :: d :: e :: f :: g :: h :: i :: j :: k :: xs) 10=some k:=bq (j:=10) rfl
theorem Lp {α:Type} (a b c d e f g h i j k l:α) (xs:List α):de (a :: b :: c :: d :: e :: f :: g :: h :: i :: j :: k :: l :: xs) 11=some l:=bq (j:=11) rfl
theorem Ot:(5≤sizeLine)=True:=eq_true (dU (by decide))
theorem Ou:(6≤sizeLine)=True:=eq_true (dU (by decide))
theorem Ow:(7≤sizeLine)=True:=eq_true (dU (by decide))
theorem Ox:(8≤sizeLine)=True:=eq_true (dU (by decide))
theorem Oy:(9≤sizeLine)=True:=eq_true (dU (by decide))
theorem L9:(10≤sizeLine)=True:=eq_true (dU (by decide))
theorem L_:(11≤sizeLine)=True:=eq_true (dU (by decide))
theorem Ma:(12≤sizeLine)=True:=eq_true (dU (by decide))
theorem kW {ss:List Int} (h:ss.all (λs=>decide (0 < s) && decide (s < 2 ^ 63))=true):∀s∈ss,0 < s∧Bd 9000 s:=λs hs=>by
 have:=Vi.mp h s hs
 rw [Ud,decide_eq_true_eq,decide_eq_true_eq] at this
 exact ⟨this.1,(Bd.small (by omega) (by omega)).mono (by decide)⟩
theorem Sz.div {n:Nat} {t b:Int} (ht:Bd n t) (hb:Bd n b) (h:b≠0):Sz n (Rat.divInt t b):=⟨ht.le (B0 t b),hb.le (vE h)⟩
theorem Rz:(10:Int) ^ Int.toNat 18=1000000000000000000:=by decide
end Ov
namespace Ov
open PySem PySem.Spec PyProof.Rows
open L2 (V HO Hp Inv Cx VK XK TE TT TA TS TG pY TI TO jX Ends xD Loc Gl Rd RelV Vals fm xO bY pW tI pX jW R2 upd aE aO cW gK Sp sF It bB c5 bK Passes pG aD Meth Mk Binds aL bZ aw de f9 eO)
section
variable {X:Cx} {G:G2}
abbrev Dd:=PV→PV→PV→Hq→(Hq→Prop)→Prop
def QH (X:Cx) (q:Dd):Prop:=∃r,jW X r∧∀J H o i y ov iv u R2 R,cv X.K J H o ov→cv X.K J H i iv→cv X.K J H y u→Rep X.K J H→q o i y J R2→(∀J' H',Rep X.K J' H'→Ext X.K J H J' H'→R2 J'→R H')→r ov iv u H R
def QY (to ti:c4) (t:Dd):zR:=λy τ J R=>to τ J λo J1=>ti τ J1 λi J2=>t o i y J2 λJ3=>R τ J3
theorem MX {o i:Expr} {to ti:c4} {t:Dd} {pos:Pos} (hs:QH X t) (ho:RE X G o to) (hi:RE X G i ti)
  (ha:∀v,assign (.Subscript o i pos) X.env v=(do
   let ov ← holding [v] (eval o X.env)
   let iv ← holding [v,ov] (eval i X.env)
   standAt pos
   holding [v,ov,iv] (setItem ov iv v)
   release [v,ov,iv] []):=by intro _;rfl):RG X G (.Subscript o i pos) (QY to ti t):=by
 obtain ⟨r,hr,lf⟩:=hs
 exact ⟨RF (L2.we ho.run hi.run hr ha) λv σ H Q ⟨y,τ,J,Q2,ry,a2,h,k⟩ =>
  ⟨τ,J,_,a2,h,λx J1 ov H1 rx r1 e1 h1=>⟨τ,J1,_,a2.go r1 e1,h1,λz J2 iv H2 rz r2 e2 h2 =>
   lf J2 H2 x z y ov iv v _ _ (e2.rep rx) rz (e2.rep (e1.rep ry)) r2 h2 λJ3 H3 r3 e3 q=>k τ J3 σ H3 ((((a2.sl.ext e1).ext e2).ext e3)) r3 ((e1.trans e2).trans e3) q⟩⟩⟩
def O_:Dd:=λo i y J R=>∃p xs k j,o=.ref p∧i=.int k∧J p=some (.lst xs)∧L2.Eh xs.length k=some j∧R (put J p (.lst (xs.set j y)))
theorem rQ {o i e:Expr} {to ti te:c4} {t:Dd} {pos pos':Pos} (hs:QH X t) (ho:RE X G o to) (hi:RE X G i ti) (he:RE X G e te)
  (ha:∀v,assign (.Subscript o i pos') X.env v=(do
   let ov ← holding [v] (eval o X.env)
   let iv ← holding [v,ov] (eval i X.env)
   standAt pos'
   holding [v,ov,iv] (setItem ov iv v)
   release [v,ov,iv] []):=by intro _;rfl)
  (hq:swapsWithSole [.Subscript o i pos'] e pos.line X.env=pure false:=by rfl) (hw:swappedStores [.Subscript o i pos'] e X.env=pure none:=by rfl)
  (h1:(assignEach [.Subscript o i pos'] X.env).map (·.2)=[assign (.Subscript o i pos') X.env]:=by rfl):RS X G (.Assign [.Subscript o i pos'] e pos) (ua te (QY to ti t)):=rO he (MX hs ho hi ha) hq hw h1
def Ss (X:Cx) (op:Operator) (q:mT):Prop:=∃r,L2.QD X op r∧LR X.K r q
def Pc (i:Nat) (te:c4) (q:mT):iX:=λD τ J=>NF τ[i]? λx=>te τ J λy J1=>q x y J1 λz J2=>D.nx (τ.set i (some z)) J2
theorem GB {i:Nat} {x:Str} {e:Expr} {te:c4} {op:Operator} {q:mT} {pos pos':Pos} (hN:X.N.Nodup) (he:RE X G e te) (ho:Ss X op q) (hi:X.N[i]?=some x:=by rfl) (hx:Loc X.env.scope x:=by first | exact .inl rfl | exact .inr rfl) (hf:X.fn x=true∨X.env.scope.names.lookup x=some .local:=by first | exact .inl rfl | exact .inr rfl | assumption) :
  RS X G (.AugAssign (.Name x pos') op e pos) (Pc i te q):=by
 obtain ⟨r,hr,lf⟩:=ho
 exact ⟨AI (L2.MH hN hi hx he.run hr hf) λD σ H ⟨τ,J,D2,a2,hh,g⟩=>by
  obtain ⟨x,hx,h⟩:=F0 hh
  obtain ⟨v,h1,h2⟩:=a2.sl.get _ _ hx
  exact ⟨v,h1,τ,J,_,a2,h,λy J1 u H1 ry r1 e1 q1=>lf J1 H1 x y v u _ _ (e1.rep h2) ry r1 q1 λz J2 u2 H2 rz r2 e2 q2=>g.nx _ J2 _ H2 (((a2.sl.ext e1).ext e2).set i rz) r2 (e1.trans e2) q2⟩⟩
theorem Fh:Ss X .Sub (Gp λi j=>.int (i - j)):=⟨_,L2.LM,λJ H x y v w Q2 Q rx ry r h k=>by
 obtain ⟨i,ex,h⟩:=g9 h;obtain ⟨j,ey,q⟩:=g9 h
 subst ex ey;cases rx;cases ry;exact ⟨i,j,rfl,rfl,k (.int _) J _ H rfl r .refl q⟩⟩
end
theorem fA {xs:List PV} {ok:Hq→Prop} {g:zR} {tb:iX} {D:En} {τ:Sr} {J1:Hq} (Pv:Nat→Sr→Hq→Prop) (h0:Pv 0 τ J1) (hk:∀i τ J,Pv i τ J→ok J)
  (hs:∀(i:Nat) x τ J,xs[i]?=some x→Pv i τ J→g x τ J λτ2 J2=>tb { D with nx:=Pv (i + 1),ct:=Pv (i + 1),bk:=D.nx } τ2 J2) (hd:∀τ J,Pv xs.length τ J→D.nx τ J):Fo ⟨xs,ok⟩ g tb D τ J1:=⟨Pv,h0,hk,hs,hd⟩
theorem Bs {α:Type} (xs:List α) (x:α):de (xs ++ [x]) (-1)=some x:=by
 unfold L2.de L2.Eh
 rw [if_neg (by decide),if_pos (by simp;omega)]
 have e:(-1 + ((xs ++ [x]).length:Int)).toNat=xs.length:=by simp only [T7,T8,U8];omega
 rw [e]
 simp
theorem kq {K:PySem.W.Frag} {h:Heap} {mg:Str→Option Value} {x:Str} {C:Addr} (X:K.In h) (G:h.Ns mainGlobals mg) (a:PySem.W.nsIn K mainGlobals x=some (some (.ref C))) (b:(PySem.W.excIn K C QM "ValueError.__new__" && Hb K C)=true):Own K mg x C :=
 ⟨PySem.W.mg_of X G a,(VR.mp b).1,JQ (VR.mp b).2⟩
theorem iH {J:Hq} {x:PV} {ys:List PV} (h:jU J x=some ys):x=.fl ys∨∃a,x=.ref a∧J a=some (.lst ys):=by
 cases x with
 | fl xs=>cases h;exact .inl rfl
 | ref a =>
  right
  refine ⟨a,rfl,?_⟩
  unfold jU at h
  simp only at h
  split at h
  ·rename_i e;cases h;exact e
  ·cases h
 | _=>cases h
theorem OD {J:Hq} {x:PV} {ys:List PV} (h:jU J x=some ys):CV J x=some "list":=by
 rcases iH h with rfl | ⟨a,rfl,ha⟩
 ·rfl
 ·rw [P9,ha]
theorem FF {J:Hq} {x:PV} {ys:List PV} (h:jU J x=some ys):yi J x=some ys.length:=by
 rcases iH h with rfl | ⟨a,rfl,ha⟩
 ·rfl
 ·rw [Kd,ha];rfl
theorem Kh {J:Hq} {x:PV} {ys:List PV} (h:jU J x=some ys) (i:Int):fB J x (.int i)=de ys i:=by
 rcases iH h with rfl | ⟨a,rfl,ha⟩
 ·rfl
 ·rw [Oe,ha]
def LF (j:Nat):List PV:=.bl true :: (UR 10).map λk=>.bl (decide (j=k))
def RY (c:Nat→Addr) (N n:Nat) (t:(Addr→Hq→Prop)→iX):iX:=λD τ J =>
 t (λa J'=>∃j,j < 10∧a=c j∧D.nx ((Up N none).set n (some (.fl (LF j)))) J') D τ J
section
variable {X:Cx} {G:G2}
end
theorem M5 {a b:iX} {D:En} {τ:Sr} {J:Hq} (h:∀N:Sr→Hq→Prop,(∀τ' J',b D τ' J'→N τ' J')→a { D with nx:=N } τ J):bS a b D τ J:=h _ λ_ _ z=>z
def NJ (J:Hq):PV→Option (List PV)
 | .tup xs=>some xs
 | .fl xs=>some xs
 | .ref a=>match J a with
  | some (.lst xs)=>some xs
  | _=>none
 | _=>none
theorem GU {K:PySem.W.Frag} {J:Hq} {H:Hp} {y:PV} {u:V} {xs:List PV} (h:NJ J y=some xs) (r:cv K J H y u) (rr:Rep K J H):∃p vs,u=.ref p∧(cW K H p vs∨gK K H p vs)∧aJ K J H xs vs:=by
 cases y with
 | tup ys=>cases h;obtain ⟨a,vs,rfl,h1,h2⟩:=r;exact ⟨a,vs,rfl,.inr h1,h2⟩
 | fl ys=>cases h;obtain ⟨a,vs,rfl,h1,h2⟩:=r;exact ⟨a,vs,rfl,.inl h1.sq,h2⟩
 | ref a =>
  cases r
  unfold NJ at h
  simp only at h
  split at h
  ·rename_i e;cases h
   obtain ⟨vs,h1,h2⟩:=rr _ _ e
   exact ⟨a,vs,rfl,.inl (cW.of h1),h2⟩
  ·cases h
 | _=>cases h
theorem jt {K:PySem.W.Frag} {J:Hq} {H:Hp}:∀{ns:List Str} {vs:List V},aJ K J H (ns.map PV.str) vs→vs=ns.map V.str
 | [],_,h=>h
 | n :: ns,_,⟨v,us,e,h,k⟩=>by subst e;cases h;rw [jt k];rfl
theorem nI {K:PySem.W.Frag} {J:Hq} {H:Hp}:∀{ns:List Int} {vs:List V},aJ K J H (ns.map PV.int) vs→vs=ns.map V.int
 | [],_,h=>h
 | n :: ns,_,⟨v,us,e,h,k⟩=>by subst e;cases h;rw [nI k];rfl
theorem Bt {α:Type} [BEq α] [LawfulBEq α] [DecidableEq α] (x y:α):(x == y)=decide (x=y):=by by_cases h:x=y <;> simp [h]
theorem Ia (s:Str) (ss:List Str):L2.NB (.str s) (ss.map V.str)=decide (s∈ss):=by
 unfold L2.NB
 induction ss with
 | nil=>rfl
 | cons x ss ih =>
  rw [TL,U3,ih,show L2.Hc (.str x) (.str s)=(x == s) from rfl,Bt]
  by_cases h:x=s
  ·subst h;simp
  ·simp [h,show ¬ s=x from λe=>h e.symm]
theorem H_ (s:Int) (ss:List Int):L2.NB (.int s) (ss.map V.int)=decide (s∈ss):=by
 unfold L2.NB
 induction ss with
 | nil=>rfl
 | cons x ss ih =>
  rw [TL,U3,ih,show L2.Hc (.int x) (.int s)=(x == s) from rfl,Bt]
  by_cases h:x=s
  ·subst h;simp
  ·simp [h,show ¬ s=x from λe=>h e.symm]
section
variable {X:Cx} {G:G2}
def O4 (f:Bool→Bool):mT:=λx y J Q=>∃(s:Str) (ss:List Str),x=.str s∧NJ J y=some (ss.map .str)∧Q (.bl (f (decide (s∈ss)))) J
def RJ (f:Bool→Bool):mT:=λx y J Q=>∃(s:Int) (ss:List Int),x=.int s∧NJ J y=some (ss.map .int)∧Q (.bl (f (decide (s∈ss)))) J
theorem Dj (ss:List Str):(ss.map V.str).all L2.jL=true:=by simp [L2.jL]
theorem Di (ss:List Int):(ss.map V.int).all L2.jL=true:=by simp [L2.jL]
theorem B5:mS X (compareOp .NotIn) (O4 not):=⟨_,L2.wa,λJ H x y v w Q2 Q rx ry r ⟨s,ss,ex,hy,q⟩ k=>by
 subst ex;cases rx
 obtain ⟨p,vs,rfl,hq,h2⟩:=GU hy ry r
 cases jt h2
 exact ⟨p,_,rfl,hq,rfl,Dj ss,k (.bl _) J _ H (by rw [if_pos rfl,Ia];rfl) r .refl q⟩⟩
theorem MB:mS X (compareOp .In) (RJ id):=⟨_,L2.DP,λJ H x y v w Q2 Q rx ry r ⟨s,ss,ex,hy,q⟩ k=>by
 subst ex;cases rx
 obtain ⟨p,vs,rfl,hq,h2⟩:=GU hy ry r
 cases nI h2
 exact ⟨p,_,rfl,hq,rfl,Di ss,k (.bl _) J _ H (by rw [if_neg (by decide),H_];rfl) r .refl q⟩⟩
end
end Ov
namespace L2
open PySem PySem.Spec PyProof.Rows
section
variable {X:Cx} {tg:Expr}
end
end L2
namespace Ov
open PySem PySem.Spec PyProof.Rows
open L2 (V HO Hp Inv Cx VK XK TE TT TA TS TG pY TI TO jX Ends xD Loc Gl Rd RelV Vals fm xO bY pW tI pX jW R2 upd aE aO cW gK Sp sF It bB c5 bK Passes pG aD Meth Mk Binds aL bZ aw de f9 eO)
section
variable {X:Cx} {G:G2} {tg:Expr}
theorem oB {K:PySem.W.Frag} {J:Hq} {H:Hp} {y:PV} {u:V} {xs:List PV} (h:jU J y=some xs) (r:cv K J H y u) (rr:Rep K J H):∃p vs,u=.ref p∧cW K H p vs∧aJ K J H xs vs:=by
 rcases iH h with rfl | ⟨a,rfl,ha⟩
 ·obtain ⟨a,vs,rfl,h1,h2⟩:=r;exact ⟨a,vs,rfl,h1.sq,h2⟩
 ·cases r
  obtain ⟨vs,h1,h2⟩:=rr _ _ ha
  exact ⟨a,vs,rfl,cW.of h1,h2⟩
theorem aJ.flat {K:PySem.W.Frag} {J:Hq} {H:Hp} {xs:List PV} {vs:List V} (r:aJ K J H xs vs):∀k:Nat,aJ K J H (Up k xs).flatten (Up k vs).flatten
 | 0=>rfl
 | k + 1=>by rw [U1,U1,Vb,Vb];exact r.append (aJ.flat r k)
theorem aJ.rev {K:PySem.W.Frag} {J:Hq} {H:Hp}:∀{xs:List PV} {vs:List V},aJ K J H xs vs→aJ K J H xs.reverse vs.reverse
 | [],_,h=>by cases h;rfl
 | x :: xs,_,⟨v,us,e,h,k⟩=>by
  subst e
  rw [UU,UU]
  exact (aJ.rev k).append ⟨v,[],rfl,h,rfl⟩
end
end Ov
namespace L2
open PySem PySem.Spec PyProof.Rows
section
variable {X:Cx} {pins:List (Addr × Obj)} {σ:St} {H:Hp} {s:Shared} {h':Heap}
theorem Inv.qs {t':Nat} {ch:List Addr} (I:Inv X pins σ H s) (k:∀b o,b ∉ ch→s.heap.get? b=some o→h'.get? b=some o) (hf:∀b∈ch,lI X pins H b):Inv X pins σ H { s with heap:=h',toks:=t' }:=by
 have nit:∀b u,H b=some u→b ∉ ch:=λb u e z=>by rw [(hf b z).1] at e;cases e
 refine I.step (g':=s.gens) (d':=s.drawn) (ch:=ch) (λb hb=>?_) (λb o _ _ hc e _=>k b o hc e) (λb o _ _ hc e _=>⟨o.slots,k b o hc e⟩) (λ_ _ _ _ n=>n)
  (λb o hc e=>⟨o,k b o hc e⟩) (λ_ _ e=>e) (λ_ _ _ e=>e) (λb ps e=>⟨#[],by rw [e];simp⟩) (λm hm=>?_) (λb u e=>?_) I.bare
 ·obtain ⟨f0,f1,f2,f3,f4,f5⟩:=hf b hb
  exact ⟨f3,f1,f4,f5⟩
 ·obtain ⟨o,es,ep,ho,r⟩:=hm
  exact ⟨o,es,ep,k _ o (λz=>(hf _ z).2.1 rfl) ho,r⟩
 ·refine (I.hok b u e).sv (λc v hc q=>k c v ?_ q) (λ_ q=>q) λ_ _ q=>q
  rcases hc with z | z
  ·rw [z];exact nit b u e
  ·exact nit c _ z
end
def Sw (K:PySem.W.Frag) (a b:Addr):It :=
 ⟨λi H=>∃xs ys x y,cW K H a xs∧cW K H b ys∧xs[i]?=some x∧ys[i]?=some y,
  λi H z H'=>∃T x y,H T=none∧z=.ref T∧H'=upd H T (.tup [x,y])∧(∀xs,cW K H a xs→xs[i]?=some x)∧∀ys,cW K H b ys→ys[i]?=some y,
  λi H=>∃xs ys,cW K H a xs∧cW K H b ys∧(xs.length≤i∨ys.length≤i)⟩
theorem G9 {P:Program} {w:World} {K:PySem.W.Frag} {elts:List Expr} {x1} {pos:Pos} {z TI TO i1 i2 l1 l2:Addr} (D:ZipApart z TI TO i1 i2 l1 l2) :
  Turn P w K (.Tuple elts x1 pos) (Sw K l1 l2) [z,TI,TO,i1,i2] z (λi h=>IsZip h z TI TO .none∧IsPair h TI (.ref i1) (.ref i2)∧(∃a b,IsPair h TO a b)∧h.IsListIter i1 l1 i∧h.IsListIter i2 l2 i) where
 mem:=by simp
 obj:=λi h ⟨hz,hTI,⟨a,b,hTO⟩,h1,h2⟩ c hc=>by
  simp only [TX,Ua,or_false] at hc
  rcases hc with rfl | rfl | rfl | rfl | rfl
  ·exact ⟨_,hz,λv z=>by cases z⟩
  ·exact ⟨_,hTI,λv z=>by cases z⟩
  ·exact ⟨_,hTO,λv z=>by cases z⟩
  ·obtain ⟨o,e,c,d⟩:=h1;exact ⟨o,e,λv z=>by rw [d] at z;cases z⟩
  ·obtain ⟨o,e,c,d⟩:=h2;exact ⟨o,e,λv z=>by rw [d] at z;cases z⟩
 keep:=λi h h' ⟨hz,hTI,⟨a,b,hTO⟩,h1,h2⟩ k=>⟨k z (by simp) _ hz,k TI (by simp) _ hTI,⟨a,b,k TO (by simp) _ hTO⟩,h1.at λo e=>k i1 (by simp) o e,h2.at λo e=>k i2 (by simp) o e⟩
 item:=by
  intro X hP hw hK hc i pins s σ H E I hf st hg
  subst hP hw hK
  obtain ⟨hz,hTI,⟨a,b,hTO⟩,h1,h2⟩:=st
  obtain ⟨xs,ys,x,y,hqx,hqy,hx,hy⟩:=hg
  obtain ⟨its,rv,p,hzx⟩:=I.list hqx
  obtain ⟨jts,ru,p',hzy⟩:=I.list hqy
  obtain ⟨u,hu,rx⟩:=rv.get hx
  obtain ⟨v,hv,ry⟩:=ru.get hy
  refine wpAny_pyNext_zip_item D hz hTI hTO h1 h2 p.isList p'.isList (x:=u) (y:=v) (by simpa using hu) (by simpa using hv) λh' a1 a2 a3 a4 a5 a6 hk=>?_
  refine ⟨_,rfl,wpAny_letOwnedTupleGo_zip a1 λh'' hz' hs'=>?_⟩
  have hT:H s.heap.objs.size=none:=I.hok.fresh (TF _)
  have lt:∀{c o},s.heap.get? c=some o→c≠s.heap.objs.size:=λe=>T6 (Heap.lt_size e)
  have nz:s.heap.objs.size≠z:=Ne.symm (lt hz)
  have I0:Inv X pins σ (upd H s.heap.objs.size (.tup [x,y])) { s with heap:=s.heap.push { cls:=.type "tuple",data:=.seq #[u,v] },toks:=s.toks }:=I.laid (t':=s.toks) (λb u e=>Heap.get?_push_of_some _ e) (TF _) ⟨by simp [sizeLine],[u,v],.cons rx (.cons ry .nil),⟨_,Heap.get?_push_size _ rfl,rfl,_,rfl⟩⟩
  have fpn:∀b∈[z,TI,TO,i1,i2],b≠s.heap.objs.size:=λb hb=>by
   simp only [TX,Ua,or_false] at hb
   rcases hb with rfl | rfl | rfl | rfl | rfl
   ·exact lt hz
   ·exact lt hTI
   ·exact lt hTO
   ·obtain ⟨o,e,_⟩:=h1;exact lt e
   ·obtain ⟨o,e,_⟩:=h2;exact lt e
  have fpu:∀b∈[z,TI,TO,i1,i2],lI X pins (upd H s.heap.objs.size (.tup [x,y])) b:=λb hb=>⟨by rw [aO (fpn b hb)];exact (hf b hb).1,(hf b hb).2⟩
  have I1:Inv X pins σ (upd H s.heap.objs.size (.tup [x,y])) { s with heap:=h'' }:=Inv.qs (s:={ s with heap:=s.heap.push { cls:=.type "tuple",data:=.seq #[u,v] },toks:=s.toks }) (t':=s.toks) (ch:=[z,TI,TO,i1,i2]) I0 (λb o hb e=>by
   simp only [TX,Ua,or_false,not_or] at hb
   rcases Heap.get?_push_cases e with ⟨rfl,rfl⟩ | e'
   ·exact hs'.extBut _ _ hb.1 a5
   ·exact hs'.extBut _ _ hb.1 (hk b o hb.1 hb.2.2.1 hb.2.2.2.1 hb.2.2.2.2 e')) fpu
  refine ⟨.ref s.heap.objs.size,_,I1,rfl,⟨_,x,y,hT,rfl,rfl,λzs hq=>by rw [I.j8 hq hqx];exact hx,λzs hq=>by rw [I.j8 hq hqy];exact hy⟩,⟨hz',hs'.extBut _ _ D.TIz (hk _ _ D.TIz D.TITO D.TIi1 D.TIi2 hTI),⟨_,_,hs'.extBut _ _ D.TOz a2⟩,a3.extBut hs'.extBut D.i1z,a4.extBut hs'.extBut D.i2z⟩,λb hb=>(fpu b hb).1⟩
 done:=by
  intro X hP hw hK hc i pins s σ H E I hf st hg
  subst hP hw hK
  obtain ⟨hz,hTI,⟨a,b,hTO⟩,h1,h2⟩:=st
  obtain ⟨xs,ys,hqx,hqy,hl⟩:=hg
  obtain ⟨its,rv,p,hzx⟩:=I.list hqx
  obtain ⟨jts,ru,p',hzy⟩:=I.list hqy
  have e1:=rv.length
  have e2:=ru.length
  refine wpAny_pyNext_zip_end (I.ok.hd hc) D hz hTI hTO h1 h2 p.isList p'.isList ?_ λh' hk=>⟨rfl,I.qs (t':=s.toks) (ch:=[z,TI,TO,i1,i2]) (λb o hb e=>?_) hf⟩
  ·rcases hl with hl | hl
   ·exact .inl (by simp;omega)
   ·exact .inr (by simp;omega)
  ·simp only [TX,Ua,or_false,not_or] at hb
   exact hk b o hb.1 hb.2.2.1 hb.2.2.2.1 hb.2.2.2.2 e
 self:=λ_ _ _ _ _ st h=>wpAny_pyIter_zip st.1 h
def Q1 (K:PySem.W.Frag) (ta:TA):TI:=λσ H R=>ta σ H λvs H1=>∃a b xs ys,vs=[.ref a,.ref b]∧cW K H1 a xs∧cW K H1 b ys∧R (Sw K a b) H1
section
variable {X:Cx}
theorem MG {l m:Expr} {elts:List Expr} {x1} {tp:Pos} {ta:TA} {p pos:Pos} (hg:Gl X "zip") (hm:X.mg "zip"=none) (ha:PA X [l,m] ta) (hs:starEach [l,m] X.env=(false,eval l X.env) :: starEach [m] X.env:=by rfl) (hp:(backTo pos (starEach [m] X.env)).any (·.1)=false:=by rfl):PI X (.Tuple elts x1 tp) (.Call (.Name "zip" p) [l,m] [] pos) (Q1 X.K ta):=by
 intro pins s σ H R I h
 refine Call_ (mf I hg hm PyProof.Rows.Boot.«zip» (PyProof.Rows.callWith_type1 (cq (ha pos pins s σ H _ I h) λus s1 ⟨vs,H1,I1,r1,q1⟩=>?_) hs hp))
 obtain ⟨a,b,xs,ys,e,hqa,hqb,q⟩:=q1
 subst e
 cases r1 with
 | cons r rr =>
  cases rr with
  | cons r' rr' =>
   cases rr'
   cases r
   cases r'
   obtain ⟨its,rv,pl,hz⟩:=I1.list hqa
   obtain ⟨jts,ru,pl',hz'⟩:=I1.list hqb
   refine call_zip_2 pl.isList pl'.isList λh' b1 b2 b3 b4 b5 b6 hk=>?_
   refine wpAny_pyIter_zip b1 ?_
   have la:a < s1.heap.objs.size:=by obtain ⟨o,e,_⟩:=pl.isList;exact Heap.lt_size e
   have lb:b < s1.heap.objs.size:=by obtain ⟨o,e,_⟩:=pl'.isList;exact Heap.lt_size e
   have D:ZipApart (s1.heap.objs.size + 4) (s1.heap.objs.size + 2) (s1.heap.objs.size + 3) s1.heap.objs.size (s1.heap.objs.size + 1) a b:=by
    have la':@LT.lt Nat _ a s1.heap.objs.size:=la
    have lb':@LT.lt Nat _ b s1.heap.objs.size:=lb
    constructor <;> (show @Ne Nat _ _;omega)
   refine ⟨_,_,_,_,H1,rfl,I1.kept (t':=s1.toks) hk,G9 D,⟨b1,b2,⟨_,_,b3⟩,b4,b5⟩,λc hc=>?_,q⟩
   have hc':s1.heap.objs.size≤c:=by
    simp only [TX,Ua,or_false] at hc
    show @LE.le Nat _ _ _
    rcases hc with rfl | rfl | rfl | rfl | rfl
    ·exact UQ _ _
    ·exact UQ _ _
    ·exact UQ _ _
    ·exact TF _
    ·exact UQ _ _
   exact I1.E4 hc' (I1.hok.fresh hc')
end
end L2
namespace Ov
open PySem PySem.Spec PyProof.Rows
open L2 (V HO Hp Inv Cx VK XK TE TT TA TS TG pY TI TO jX Ends xD Loc Gl Rd RelV Vals fm xO bY pW tI pX jW R2 upd aE aO cW gK Sp sF It bB c5 bK Passes pG aD Meth Mk Binds aL bZ aw de f9 eO)
section
variable {X:Cx} {G:G2}
def SN (ta:o8):tJ:=λτ J R=>ta τ J λvs J1=>Ms vs λx y=>uO (jU J1 x) λxs=>uO (jU J1 y) λys=>R ⟨(xs.zip ys).map λp=>.tup [p.1,p.2],λJ'=>jU J' x=some xs∧jU J' y=some ys⟩ J1
theorem MY {l m:Expr} {elts:List Expr} {x1} {tp:Pos} {ta:o8} {p pos:Pos} (hg:Gl X "zip") (hm:X.mg "zip"=none) (ha:RA X G [l,m] ta) (hs:starEach [l,m] X.env=(false,eval l X.env) :: starEach [m] X.env:=by rfl) (hp:(backTo pos (starEach [m] X.env)).any (·.1)=false:=by rfl) :
  RI X G (.Tuple elts x1 tp) (.Call (.Name "zip" p) [l,m] [] pos) (SN ta):=⟨O0 (L2.MG hg hm ha.run hs hp) λσ H R ⟨τ,J,R2,a2,h,k⟩=>⟨τ,J,_,a2,h,λvs J1 us H1 rs r1 e1 hh=>by
 obtain ⟨x,y,ev,hh⟩:=Aw hh;obtain ⟨xs,hx,hh⟩:=dZ hh;obtain ⟨ys,hy,q⟩:=dZ hh
 subst ev
 obtain ⟨v,us',rfl,rv,v',us'',rfl,rv',e'⟩:=rs
 cases e'
 obtain ⟨a,ws,rfl,h1,h2⟩:=oB hx rv r1
 obtain ⟨b,ws',rfl,h1',h2'⟩:=oB hy rv' r1
 refine ⟨a,b,ws,ws',rfl,h1,h1',k _ J1 _ H1 ?_ r1 e1 q⟩
 have at_:∀J' H',Ext X.K J1 H1 J' H'→Rep X.K J' H'→jU J' x=some xs∧jU J' y=some ys→∃vs us,cW X.K H' a vs∧aJ X.K J' H' xs vs∧cW X.K H' b us∧aJ X.K J' H' ys us:=λJ' H' e r o=>by
  obtain ⟨c,vs,eb,g1,g2⟩:=oB o.1 (e.rep rv) r
  cases eb
  obtain ⟨c',us,eb,g1',g2'⟩:=oB o.2 (e.rep rv') r
  cases eb
  exact ⟨vs,us,g1,g2,g1',g2'⟩
 exact {
  go:=λJ' H' e r o i hi=>by
   obtain ⟨vs,us,s,rs,s',rs'⟩:=at_ J' H' e r o
   rw [Tx,Vm] at hi
   have i1:i < vs.length:=by rw [← rs.length];omega
   have i2:i < us.length:=by rw [← rs'.length];omega
   exact ⟨vs,us,vs[i],us[i],s,s',Tz i1,Tz i2⟩
  yl:=λJ' H' e r o i hi v H2 y=>by
   obtain ⟨vs,us,s,rs,s',rs'⟩:=at_ J' H' e r o
   obtain ⟨T,z,z',hT,rfl,rfl,y1,y2⟩:=y
   obtain ⟨c,ec,rc⟩:=rs.get' (y1 vs s)
   obtain ⟨c',ec',rc'⟩:=rs'.get' (y2 us s')
   have sm:=bB.new hT (.tup [z,z'])
   have e2:=Ext.same (K:=X.K) (J:=J') sm
   refine ⟨.tup [c,c'],?_,⟨T,[z,z'],rfl,.inl (.inl aE),e2.jq ⟨z,_,rfl,rc,z',_,rfl,rc',rfl⟩⟩,r.same sm,e2⟩
   rw [TN,(UI (z:=(c,c'))).mpr ⟨ec,ec'⟩];rfl
  stop:=λJ' H' e r o=>by
   obtain ⟨vs,us,s,rs,s',rs'⟩:=at_ J' H' e r o
   refine ⟨vs,us,s,s',?_⟩
   rw [Tx,Vm,← rs.length,← rs'.length]
   omega }⟩⟩
end
end Ov
namespace L2
open PySem PySem.Spec PyProof.Rows
section
variable {α β:Type}
def mI (kvs:List (Str × α)) (k:Str):Option α:=(kvs.find? λkv=>decide (kv.1=k)).map (·.2)
def sJ (kvs:List (Str × α)) (k:Str) (v:α):List (Str × α):=if kvs.any (λkv=>decide (kv.1=k)) then kvs.map (λkv=>if kv.1=k then (kv.1,v) else kv) else kvs ++ [(k,v)]
def Eg (kvs:List (Str × α)) (k:Str):List (Str × α):=kvs.filter λkv=>decide (kv.1≠k)
theorem n9 (p:Str × α) (r:List (Str × α)) (k:Str):mI (p :: r) k=if p.1=k then some p.2 else mI r k:=by
 unfold mI
 rw [List.find?_cons]
 by_cases h:p.1=k <;> simp [h]
theorem Ca (kvs:List (Str × α)) (k:Str) (v:α):(sJ kvs k v).length≤kvs.length + 1:=by
 unfold sJ;split <;> simp
theorem HN (kvs:List (Str × α)) (k:Str):(Eg kvs k).length≤kvs.length:=Uu _ _
abbrev pK (R:α→β→Prop):List (Str × α)→List (Str × β)→Prop:=Paired λp q=>p.1=q.1∧R p.2 q.2
variable {R:α→β→Prop}
theorem pK.va {kvs:List (Str × α)} {vs:List (Str × β)} (h:pK R kvs vs) (k:Str):(∀x,mI kvs k=some x→∃y,mI vs k=some y∧R x y)∧(mI kvs k).isSome=(mI vs k).isSome:=by
 induction h with
 | nil=>exact ⟨λx e=>by simp [mI] at e,rfl⟩
 | @cons p q kvs vs r _ ih =>
  rw [n9,n9,← r.1]
  by_cases e:p.1=k
  ·rw [if_pos e,if_pos e];exact ⟨λx z=>by cases z;exact ⟨_,rfl,r.2⟩,rfl⟩
  ·rw [if_neg e,if_neg e];exact ih
theorem pK.any {kvs:List (Str × α)} {vs:List (Str × β)} (h:pK R kvs vs) (k:Str):(kvs.any λkv=>decide (kv.1=k))=vs.any λkv=>decide (kv.1=k):=by
 induction h with
 | nil=>rfl
 | cons r _ ih=>rw [U3,U3,ih,r.1]
theorem pK.snoc {kvs:List (Str × α)} {vs:List (Str × β)} (h:pK R kvs vs) {k:Str} {x:α} {y:β} (r:R x y):pK R (kvs ++ [(k,x)]) (vs ++ [(k,y)]):=by
 induction h with
 | nil=>exact .cons ⟨rfl,r⟩ .nil
 | cons q _ ih=>exact .cons q ih
theorem pK.pu {kvs:List (Str × α)} {vs:List (Str × β)} (h:pK R kvs vs) {k:Str} {x:α} {y:β} (r:R x y):pK R (sJ kvs k x) (sJ vs k y):=by
 unfold sJ
 rw [h.any k]
 split
 ·rename_i hany;clear hany
  induction h with
  | nil=>exact .nil
  | @cons p q kvs vs z _ ih =>
   rw [TL,TL]
   refine .cons ?_ ih
   by_cases e:p.1=k
   ·rw [if_pos e,if_pos (z.1 ▸ e)];exact ⟨z.1,r⟩
   ·rw [if_neg e,if_neg (z.1 ▸ e)];exact z
 ·exact h.snoc r
theorem pK.dr {kvs:List (Str × α)} {vs:List (Str × β)} (h:pK R kvs vs) (k:Str):pK R (Eg kvs k) (Eg vs k):=by
 unfold Eg
 induction h with
 | nil=>exact .nil
 | @cons p q kvs vs z _ ih =>
  rw [Uh,Uh,z.1]
  split
  ·exact .cons z ih
  ·exact ih
theorem pK.len {kvs:List (Str × α)} {vs:List (Str × β)} (h:pK R kvs vs):kvs.length=vs.length:=Paired.length h
theorem pK.keys {kvs:List (Str × α)} {vs:List (Str × β)} (h:pK R kvs vs):kvs.map (·.1)=vs.map (·.1):=by
 induction h with
 | nil=>rfl
 | cons r _ ih=>rw [TL,TL,ih,r.1]
end
theorem u_ (vs:List (Str × Value)) (k:Str):valueAt vs k=mI vs k:=rfl
theorem str_is {P:Program} {w:World} {k:Str} {u:Value} (r:RelV (.str k) u):(PySem.strKind P w).is k u=true:=by
 obtain ⟨t,rfl⟩:=r
 simp [PySem.strKind,Value.isStrOf]
theorem Fm {P:Program} {w:World} {k:Str} {u:Value} (h:(PySem.strKind P w).is k u=true):RelV (.str k) u:=Value.isStrOf_shape h
section
variable {X:Cx} {pins:List (Addr × Obj)} {σ:St} {H:Hp} {s:Shared} {a:Addr} {A:Around} {E:Value→Shared→Prop} {kvs:List (Str × V)} {ep:Nat}
theorem j0 (I:Inv X pins σ H s) (e:H a=some (.dE kvs ep)):kvs.length≤sizeLine∧(a == sysModules)=false∧∃vs,pK RelV kvs vs∧s.heap.DictAt (PySem.strKind X.prog X.w) a vs ep:=I.hok a _ e
theorem qL {h':Heap} {t':Nat} {kvs':List (Str × V)} {vs':List (Str × Value)} (I:Inv X pins σ H s) (e:H a=some (.dE kvs ep)) (hs:Heap.SameBut a s.heap h') (hz:kvs'.length≤sizeLine) (hd:(a == sysModules)=false) (rel:pK RelV kvs' vs') (dd:h'.DictOf (PySem.strKind X.prog X.w) a vs') :
  ∃ep',Inv X pins σ (upd H a (.dE kvs' ep')) { s with heap:=h',toks:=t' }:=by
 obtain ⟨ep',da⟩:=dd.dictAt
 refine ⟨ep',I.write (x:=a) (e:=a) (by rw [e];exact True.intro) (.inl rfl) (λb q hb z=>(hs.2 b hb).trans z) (let ⟨q,_,_,hq,_⟩:=dd;⟨q,hq⟩) ⟨hz,hd,vs',rel,da⟩⟩
theorem Inv.Lr (I:Inv X pins σ H s):sysModules < s.heap.objs.size:=by
 have h:mainGlobals < s.heap.objs.size:=(I.mod.glob.keeps I.bk).lt
 exact Nat.lt_trans (by decide) h
end
theorem Dr {P:Program} {w:World} {kvs:List (Str × V)} {vs:List (Str × Value)} (rel:pK RelV kvs vs):∀{us:List Value},us.length=kvs.length→(∀(j:Nat) (v:Value),us[j]?=some v→∃k x,vs[j]?=some (k,x)∧(PySem.strKind P w).is k v=true)→Vals (kvs.map λkv=>V.str kv.1) us:=by
 induction rel with
 | nil =>
  intro us hlen _
  cases us with
  | nil=>exact .nil
  | cons _ _=>cases hlen
 | @cons p q kvs vs z _ ih =>
  intro us hlen hget
  cases us with
  | nil=>cases hlen
  | cons u us =>
   rw [TL]
   refine .cons ?_ (ih (by simpa using hlen) λj v e=>?_)
   ·obtain ⟨k,x,e1,e2⟩:=hget 0 u rfl
    rw [U4] at e1
    cases e1
    rw [z.1];exact Fm e2
   ·obtain ⟨k,x,e1,e2⟩:=hget (j + 1) v (by rw [Ul];exact e)
    rw [Ul] at e1
    exact ⟨k,x,e1,e2⟩
def RQ:R2:=λx y H Q=>∃a kvs ep k v,x=.ref a∧y=.str k∧H a=some (.dE kvs ep)∧mI kvs k=some v∧Q v H
def MS (f:Bool→Bool):R2:=λx y H Q=>∃a kvs ep k,x=.str k∧y=.ref a∧H a=some (.dE kvs ep)∧Q (.bl (f (mI kvs k).isSome)) H
def MU:List V→Hp→VK→Prop:=λxs H Q=>∃a kvs ep,xs=[.ref a]∧H a=some (.dE kvs ep)∧∀p,H p=none→Q (.ref p) (upd H p (.lst (kvs.map λkv=>.str kv.1)))
def Pq:V→List V→Hp→VK→Prop:=λx xs H Q=>∃a kvs ep k v,x=.ref a∧xs=[.str k]∧H a=some (.dE kvs ep)∧mI kvs k=some v∧∀ep',Q v (upd H a (.dE (Eg kvs k) ep'))
def Pt:jX:=λo i v H Q=>∃a kvs ep k,o=.ref a∧i=.str k∧H a=some (.dE kvs ep)∧kvs.length < sizeLine∧∀ep',Q (upd H a (.dE (sJ kvs k v) ep'))
def PR:TE:=λ_ H Q=>∀p,H p=none→∀ep,Q (.ref p) (upd H p (.dE [] ep))
section
variable {X:Cx}
theorem Oa:pW X RQ:=by
 intro value slice pins s σ H x y v u Q I rx ry q hs
 obtain ⟨a,kvs,ep,k,z,rfl,rfl,hp,hz,q⟩:=q
 cases rx
 obtain ⟨_,hd,vs,rel,da⟩:=j0 I hp
 have hT:s.TypeIs (.ref a) "dict":=da.dictOf.typeIs
 obtain ⟨w',hw,rw'⟩:=(rel.va k).1 z hz
 unfold subscriptTail
 refine wpAny_bind ?_
 rw [getitemInPython_of_ne hT.not_modules]
 refine wpAny_bind (wpAny_specialOf hT PySem.F.slot_dict_getitem.lookup ?_)
 have fin:wpAny (model X.prog X.w) X.A (subscripted slice false (.ref a) u) (λr s₃=>wpAny (model X.prog X.w) X.A (letTemporaryGo value (.ref a) r >>= λ_=>pure r) (EP X pins σ Q) X.xe s₃) X.xe s:=by
  rw [hs]
  exact wpAny_operating (wpAny_getItem_of (str_is ry) da.dictOf.mapOf hw (wpAny_bind (wpAny_letTemporaryGo (wpAny_pure ⟨z,H,I.tok _,rw',q⟩))))
 first
  | exact wpAny_pure (wpAny_bind fin)
  | exact wpAny_bind (wpAny_pure (wpAny_bind fin))
  | exact wpAny_bind fin
theorem Mx:fm X (compareOp .In) (MS id):=by
 intro pins s σ H x y v u Q I rx ry ⟨a,kvs,ep,k,ex,ey,hp,q⟩
 subst ex ey
 cases ry
 obtain ⟨_,hd,vs,rel,da⟩:=j0 I hp
 refine wpAny_in_of (str_is rx) hd da.dictOf.mapOf ?_
 exact ⟨.bl _,H,I.tok _,by rw [u_,← (rel.va k).2];rfl,q⟩
theorem DR:fm X (compareOp .NotIn) (MS not):=by
 intro pins s σ H x y v u Q I rx ry ⟨a,kvs,ep,k,ex,ey,hp,q⟩
 subst ex ey
 cases ry
 obtain ⟨_,hd,vs,rel,da⟩:=j0 I hp
 refine wpAny_notIn_of (str_is rx) hd da.dictOf.mapOf ?_
 exact ⟨.bl _,H,I.tok _,by rw [u_,← (rel.va k).2];rfl,q⟩
theorem xW (hc:X.calm=true):bY X (.type "list") MU:=by
 intro pins s σ H xs us Q I r ⟨a,kvs,ep,ex,hp,q⟩
 subst ex
 obtain ⟨u,rfl,ru⟩:=vals1 r
 cases ru
 obtain ⟨hz,hd,vs,rel,da⟩:=j0 I hp
 have hl:=rel.len
 refine PySem.W.kdl_call (PySem.W.kdl_dict (knd:=PySem.strKind X.prog X.w) (kvs:=vs) (ep:=ep) hd) (I.ok.hd hc) da (by rw [← hl];exact hz) λh' tk acc c hk hS hacc=>?_
 have hkeys:Vals (kvs.map λkv=>V.str kv.1) acc.toList:=by
  have hlen:acc.toList.length=kvs.length:=by rw [Array.length_toList,hacc.1,hl]
  have hget:∀j v,acc.toList[j]?=some v→∃k x,vs[j]?=some (k,x)∧(PySem.strKind X.prog X.w).is k v=true:=λj v e=>hacc.2 j v (by rw [← Array.getElem?_toList];exact e)
  exact Dr rel hlen hget
 have I2:Inv X pins σ (upd H s.heap.objs.size (.lst (kvs.map λkv=>V.str kv.1))) { s with heap:=h',toks:=tk } :=
  I.laid (t':=tk) hk (TF _) (show c_ X.prog X.w _ _ _ (.lst _) from ⟨by rw [Tx];exact hz,acc.toList,c,hkeys,by rw [Array.toArray_toList];exact hS⟩)
 exact ⟨.ref s.heap.objs.size,_,I2,rfl,q _ (I.hok.fresh (TF _))⟩
theorem Iv:pX X "dict.pop" Pq:=by
 intro pins s σ H x xs v us Q I rx r ⟨a,kvs,ep,k,z,ex,exs,hp,hv,q⟩
 subst ex exs
 cases rx
 obtain ⟨u,rfl,ru⟩:=vals1 r
 obtain ⟨hz,hd,vs,rel,da⟩:=j0 I hp
 obtain ⟨w',hw,rw'⟩:=(rel.va k).1 z hv
 have hpart:(keyPart u).isSome=true:=by obtain ⟨t,q⟩:=(show ∃t,u=Value.str k t from ru);subst q;rfl
 refine call_meetsIn PySem.F.slot_dict_pop da.dictOf.typeIs PySem.F.entry_dict_pop (PySem.F.args_dict_pop_2 _ _) (meets_dict_pop_there (PySem.strKind X.prog X.w) a (str_is ru) [] (.inl rfl) hpart)
  ⟨vs,w',da.dictOf,by rw [← rel.len];exact hz,hw,λh' dd' hs=>?_⟩
 obtain ⟨ep',I2⟩:=qL (t':=s.toks + 1) I hp hs (T4 (HN kvs k) hz) hd (rel.dr k) dd'
 exact ⟨z,_,I2,rw',q ep'⟩
theorem M7:jW X Pt:=by
 intro pins s σ H o i v ov iv u Q I ro ri rv ⟨a,kvs,ep,k,eo,ei,hp,hl,q⟩
 subst eo ei
 cases ro
 obtain ⟨hz,hd,vs,rel,da⟩:=j0 I hp
 refine wpAny_setItem_pairs (hsz:=by rw [← rel.len];exact hz) (str_is ri) da.dictOf λh' dd' hs=>?_
 obtain ⟨ep',I2⟩:=qL (t':=s.toks + 1) I hp hs (show (sJ kvs k v).length≤sizeLine from T4 (Ca kvs k v) hl) hd (rel.pu rv) dd'
 exact ⟨_,I2,q ep'⟩
theorem IX {pos:Pos}:PE X (.Dict [] [] pos) PR:=λpins s σ H Q I h=>by
 have hd:(s.heap.push { cls:=.type "dict",data:=.dict #[] }).DictOf (PySem.strKind X.prog X.w) s.heap.objs.size []:=Heap.DictOf.new s.heap
 obtain ⟨ep,da⟩:=hd.dictAt
 exact wpAny_Dict_empty ⟨.ref s.heap.objs.size,_,I.laid (a:=s.heap.objs.size) (o:=.dE [] ep) (t':=s.toks) (λ_ _ q=>Heap.get?_push_of_some _ q) (TF _)
  ⟨Ue _,beq_eq_false_iff_ne.mpr (Ne.symm (T6 I.Lr)),[],.nil,da⟩,rfl,h _ (I.hok.fresh (TF _)) ep⟩
end
def Su (a:Addr) (ks:List Str) (ep:Nat):It :=
 ⟨λi H=>(∃kvs,H a=some (.dE kvs ep)∧kvs.map (·.1)=ks)∧i < ks.length,
  λi H z H'=>H'=H∧∃k,ks[i]?=some k∧z=.str k,
  λi H=>(∃kvs,H a=some (.dE kvs ep)∧kvs.map (·.1)=ks)∧ks.length≤i⟩
theorem D_ {P:Program} {w:World} {K:PySem.W.Frag} {tg:Expr} (a it:Addr) (ks:List Str) (ep:Nat):Turn P w K tg (Su a ks ep) [it] it (λi h=>h.IsKeyIter it a i ks.length ep) where
 mem:=by simp
 obj:=λi h st b hb=>by
  have e:b=it:=by simpa using hb
  subst e
  obtain ⟨o,e,c,d⟩:=st
  exact ⟨o,e,λv z=>by rw [d] at z;cases z⟩
 keep:=λi h h' st k=>st.at λo e=>k it (by simp) o e
 item:=by
  intro X hP hw hK hc i pins s σ H E I hf st hg
  subst hP hw hK
  obtain ⟨⟨kvs,hp,hks⟩,hi⟩:=hg
  obtain ⟨hz,hd,vs,rel,da⟩:=j0 I hp
  have hl:ks.length=vs.length:=by rw [← hks,Tx];exact rel.len
  obtain ⟨f0,f1,f2,f3,f4,f5⟩:=hf it (by simp)
  obtain ⟨⟨k,x⟩,hx⟩:∃p,vs[i]?=some p:=⟨vs[i]'(by omega),Tz (by omega)⟩
  have hk:ks[i]?=some k:=by rw [← hks,rel.keys,TN,hx];rfl
  refine wpAny_pyNext_dict_item (by rw [← hl];exact st) da hx λkey h' hkey st' sb=>?_
  rw [← hl] at st'
  have I1:Inv X pins σ H { s with heap:=h' }:=I.turned (t':=s.toks) (λb o hb e=>(sb.2 b hb).trans e) f0 f1 f3 f4 f5
  obtain ⟨o,e,c,d⟩:=id st'
  exact ⟨key,rfl,E_ (s:={ s with heap:=h' }) e c d (by decide) ⟨.str k,H,I1,Fm hkey,⟨rfl,k,hk,rfl⟩,st',λb hb=>(hf b hb).1⟩⟩
 done:=by
  intro X hP hw hK hc i pins s σ H E I hf st hg
  subst hP hw hK
  obtain ⟨⟨kvs,hp,hks⟩,hi⟩:=hg
  obtain ⟨hz,hd,vs,rel,da⟩:=j0 I hp
  have hl:ks.length=vs.length:=by rw [← hks,Tx];exact rel.len
  obtain ⟨f0,f1,f2,f3,f4,f5⟩:=hf it (by simp)
  refine wpAny_pyNext_dict_end (I.ok.hd hc) (by rw [← hl];exact st) da (by rw [Vu];omega) λh' hk=>⟨rfl,I.turned (t':=s.toks) (λb o hb e=>hk b o hb e) f0 f1 f3 f4 f5⟩
 self:=λ_ _ _ _ _ st h=>wpAny_pyIter_keyiter st h
def N9 (td:TE):TI:=λσ H R=>td σ H λx H1=>∃a kvs ep,x=.ref a∧H1 a=some (.dE kvs ep)∧R (Su a (kvs.map (·.1)) ep) H1
theorem IY {X:Cx} {tg l:Expr} {tl:TE} (hl:PE X l tl):PI X tg l (N9 tl):=by
 intro pins s σ H R I h
 refine cq (hl pins s σ H _ I h) λv s1 ⟨x,H1,I1,r1,q1⟩=>?_
 obtain ⟨a,kvs,ep,e,hp,q⟩:=q1
 subst e
 cases r1
 obtain ⟨hz,hd,vs,rel,da⟩:=j0 I1 hp
 refine wpAny_pyIter_dict hd da ?_
 refine ⟨s1.heap.objs.size,[s1.heap.objs.size],_,_,H1,rfl,I1.kept (t':=s1.toks) λb o e=>Heap.get?_push_of_some _ e,D_ a _ (kvs.map (·.1)) ep,⟨_,Heap.get?_push_size _ rfl,rfl,by rw [Tx,rel.len];rfl⟩,λb hb=>?_,q⟩
 have e:b=s1.heap.objs.size:=by simpa using hb
 subst e
 exact I1.E4 (TF _) (I1.hok.fresh (TF _))
end L2
namespace Ov
open PySem PySem.Spec PyProof.Rows L2
section
variable {prog:Program} {w:World} {A:Around} {R:Result→Shared→Prop} {s:Shared}
theorem Ak {kx vx iter:Expr} {ifs:List Expr} {x:Str} {px:Pos} {sc:Scope} {pos:Pos} {it:Value} {D:Addr} {env:Env} (I:Nat→Shared→Prop)
  (turn:∀n s,I n s→wpAny (model prog w) A (pyNext it) (λr s₁=>match r with
   | none=>R (.ok .next) s₁
   | some v=>wpAny (model prog w) A (letOwnedTupleGo (.Name x px) it v) (λ_ s₂=>wpAny (model prog w) A (assign (.Name x px) env v) (λ_ s₃=>wpAny (model prog w) A (forIn ifs true λc r=>if r=true then do let ok ← isTrue c env (eval c env);pure (ForInStep.yield ok) else pure (ForInStep.yield r)) (λok s₃=>if ok=true then wpAny (model prog w) A (eval kx env) (λkv s₄ =>
     wpAny (model prog w) A (eval vx env) (λvv s₅=>wpAny (model prog w) A (dictSet D kv vv) (λ_ s₅=>∃m,m < n∧I m s₅) (λ_ _=>False) s₅) (λ_ _=>False) s₄) (λ_ _=>False) s₃ else ∃m,m < n∧I m s₃) (λ_ _=>False) s₃) (λ_ _=>False) s₂) (λ_ _=>False) s₁) (λ_ _=>False) s)
  (n:Nat) (h:I n s):codeAny (model prog w) A (.compLoop (.DictComp kx vx [⟨.Name x px,iter,ifs,0⟩] sc pos) 0 it (.ref D) env) R s:=by
 refine codeAny_loop rfl I (λn s hI=>?_) n h
 show wpAny _ _ ((compTurn (.DictComp kx vx [⟨.Name x px,iter,ifs,0⟩] sc pos) 0 it (.ref D) env).onRaise (λx=>do noteFrame x env;theTreesLotGoes x)) _ _ s
 refine wpAny_noted ?_
 rw [compTurn_dict]
 have no:∀(e:Value) (s':Shared),False→notedBy (model prog w) A env (λe s'=>R (.error e) s') e s':=λ_ _ z=>z.elim
 refine wpAny_bind (wpAny_standAt (wpAny_bind (wpAny_mono (turn n s hI) (λr s₁ h₁=>?_) no)))
 cases r with
 | none=>exact wpAny_pure h₁
 | some v =>
  refine wpAny_bind (wpAny_mono h₁ (λ_ s₂ h₂=>?_) no)
  refine wpAny_bind (wpAny_mono h₂ (λ_ s₃ h₃=>wpAny_bind (wpAny_mono h₃ (λok s₃' h₃'=>?_) no)) no)
  cases ok with
  | false=>exact wpAny_pure ⟨rfl,h₃'⟩
  | true =>
   exact wpAny_bind (wpAny_bind (wpAny_mono h₃' (λkv s₄ h₄=>wpAny_bind (wpAny_holding (wpAny_mono h₄ (λvv s₅ h₅=>wpAny_bind (wpAny_standAt (wpAny_holding (wpAny_mono h₅ (λ_ s₆ h₆=>wpAny_pure ⟨rfl,h₆⟩) no)))) no))) no))
end
def S7 (wi:TI) (ks:List (Str × Nat)) (tc:TT) (tk te:TE):TE:=λσ H Q=>wi σ H λJ H1=>∀D,H1 D=none→∀ep,∃W:Nat→Nat→Hp→Prop,(∃m,W 0 m (upd H1 D (.dE [] ep))) ∧
 ∀i m H2,W i m H2→(J.stop i H2∧Q (.ref D) H2)∨(J.go i H2∧∀v H3,J.yld i H2 v H3→tc (some v :: dT ks σ) H3 λb H4=>if b=true then tk (some v :: dT ks σ) H4 λy H5=>te (some v :: dT ks σ) H5 λz H6=>∃kvs ep k,y=.str k∧H6 D=some (.dE kvs ep)∧kvs.length < sizeLine∧∃m',m' < m∧∀ep',W (i + 1) m' (upd H6 D (.dE (L2.sJ kvs k z) ep')) else ∃m',m' < m∧W (i + 1) m' H4)
section
variable {X:Cx}
theorem DZ {kx vx iter:Expr} {ifs:List Expr} {x:Str} {px:Pos} {sc:Scope} {pos:Pos} {tk te:TE} {tc:TT} {ks:List (Str × Nat)} {cl:List (Str × Addr)} {pins:List (Addr × Obj)} {σ:L2.St} {H:Hp} {s:Shared} {it:Addr} {fp:List Addr} {tn:Nat→Heap→Prop} {J:It} {Q:VK}
  {RR:Value→Addr→Result→Shared→Prop} {E:Value→Shared→Prop}
  (hc:X.calm=true) (ok:cR sc X.env.scope X.N x ks) (h1:∀y c,cl.lookup y=some c→X.env.cells.lookup y=some c) (h2:∀y∈sc.names,y.2=.free→∃c,cl.lookup y.1=some c)
  (hk:∀cl C s₀ H₀ fp pins,PE (gd X sc cl C x ks s₀ H₀ fp pins) kx tk) (he:∀cl C s₀ H₀ fp pins,PE (gd X sc cl C x ks s₀ H₀ fp pins) vx te) (hcn:∀cl C s₀ H₀ fp pins,HF (gd X sc cl C x ks s₀ H₀ fp pins) ifs tc)
  (I:Inv X pins σ H s) (T:Turn X.prog X.w X.K (.Name x px) J fp it tn) (st:tn 0 s.heap) (f:∀b∈fp,lI X pins H b)
  (hw:∀D,H D=none→∀ep,∃W:Nat→Nat→Hp→Prop,(∃m,W 0 m (upd H D (.dE [] ep)))∧∀i m H2,W i m H2→(J.stop i H2∧Q (.ref D) H2) ∨
   (J.go i H2∧∀v H3,J.yld i H2 v H3→tc (some v :: dT ks σ) H3 λb H4=>if b=true then tk (some v :: dT ks σ) H4 λy H5=>te (some v :: dT ks σ) H5 λz H6=>∃kvs ep k,y=.str k∧H6 D=some (.dE kvs ep)∧kvs.length < sizeLine∧∃m',m' < m∧∀ep',W (i + 1) m' (upd H6 D (.dE (L2.sJ kvs k z) ep')) else ∃m',m' < m∧W (i + 1) m' H4))
  (hR:∀(D C:Addr) (s':Shared) (H':Hp) (m:Str→Option Value),Inv X pins σ H' s'→Q (.ref D) H'→s'.heap.Ns C m→H' C=none→C≠X.env.locals→X.s₀.heap.objs.size≤C→(∀y c,X.env.cells.lookup y=some c→c≠C)→(∀p∈X.pn ++ pins,p.1≠C)→RR (.ref D) C (.ok .next) s') :
  wpAny (model X.prog X.w) X.A newDict (λacc s₃=>wpAny (model X.prog X.w) X.A (newFunctionEnv sc X.env.globals cl [] X.env.qual none .none (some X.env)) (λcenv s₄ =>
   codeAny (model X.prog X.w) X.A (.compStart (.DictComp kx vx [⟨.Name x px,iter,ifs,0⟩] sc pos) 0 (.ref it) acc { cenv with scope:=relabel sc X.env }) (RR acc cenv.locals) s₄) E s₃) E s:=by
 have okk:=ok
 obtain ⟨kd,nc,lx,ll,fr,kk,nd⟩:=okk
 have hD0:H s.heap.objs.size=none:=I.hok.fresh (TF _)
 have hdd:(s.heap.push { cls:=.type "dict",dict:=none,data:=.dict #[] }).DictOf (PySem.strKind X.prog X.w) s.heap.objs.size []:=Heap.DictOf.new s.heap
 obtain ⟨ep0,da⟩:=hdd.dictAt
 obtain ⟨W,⟨m0,w0⟩,turn⟩:=hw s.heap.objs.size hD0 ep0
 refine wpAny_newObj_type ?_
 have I3:Inv X pins σ (upd H s.heap.objs.size (.dE [] ep0)) { s with heap:=s.heap.push { cls:=.type "dict",dict:=none,data:=.dict #[] } } :=
  I.laid (t':=s.toks) (λb u e=>Heap.get?_push_of_some _ e) (TF _) ⟨Ue _,beq_eq_false_iff_ne.mpr (Ne.symm (T6 I.Lr)),[],.nil,da⟩
 have st3:tn 0 (s.heap.push { cls:=.type "dict",dict:=none,data:=.dict #[] }):=T.keep 0 _ _ st λb hb o e=>Heap.get?_push_of_some _ e
 clear da hdd
 generalize hD:s.heap.objs.size=D at *
 generalize hH:upd H D (.dE [] ep0)=H3 at *
 generalize hs3:({ s with heap:=s.heap.push { cls:=.type "dict",dict:=none,data:=.dict #[] } }:Shared)=s3 at *
 have e3:s.heap.push { cls:=.type "dict",dict:=none,data:=.dict #[] }=s3.heap:=by rw [← hs3]
 rw [e3] at st3
 have fD:∀b∈fp,b≠D:=λb hb z=>by
  obtain ⟨o,ho,_⟩:=T.obj 0 _ st b hb
  have:=Heap.lt_size ho
  rw [z,← hD] at this
  exact UD _ this
 have f3:∀b∈fp,lI X pins H3 b:=λb hb=>⟨by rw [← hH,aO (fD b hb)];exact (f b hb).1,(f b hb).2⟩
 have g3:∀b∈fp,∃o,s3.heap.get? b=some o:=λb hb=>by
  obtain ⟨o,ho,_⟩:=T.obj 0 _ st3 b hb
  exact ⟨o,ho⟩
 refine wpAny_newFunctionEnv nc (by intro y hy;simp at hy) (λh₁ hns hsb=>?_) kd
 have kp:∀b o,s3.heap.get? b=some o→h₁.get? b=some o:=λb o e=>hsb.extBut b o (T6 (Heap.lt_size e)) (Heap.get?_push_of_some _ e)
 have J0:=ye (fp:=fp) (cl:=cl) (t':=s3.toks + ([]:List (Str × Value)).length) I3 ok h1 h2 (λb hb=>⟨f3 b hb,g3 b hb⟩) hns kp
 have st4:tn 0 h₁:=T.keep 0 _ _ st3 λb hb o e=>kp b o e
 have ltC:∀b o,s3.heap.get? b=some o→b≠s3.heap.objs.size:=λb o e=>T6 (Heap.lt_size e)
 have cC:∀y c,X.env.cells.lookup y=some c→c≠s3.heap.objs.size:=λy c e=>by
  obtain ⟨v,o,ho,_⟩:=I3.cell y c e
  exact ltC c o ho
 have pC:∀p∈X.pn ++ pins,p.1≠s3.heap.objs.size:=λp hp=>ltC _ _ (I3.pin p hp).1
 have lC:s3.heap.objs.size≠X.env.locals:=VI I3.lt
 have fX:∀{H':Hp},(∀b∈fp,H' b=none)→∀b∈fp,lI (gd X sc cl s3.heap.objs.size x ks s3 H3 fp pins) [] H' b:=λhn b hb=>by
  obtain ⟨o,ho⟩:=g3 b hb
  obtain ⟨_,q1,q2,q3,q4,q5⟩:=f b hb
  refine ⟨hn b hb,ltC b o ho,λz=>?_,.inl hb,λy c e=>q4 y c (h1 y c e),λp hp=>q5 p (by simpa [gd] using hp)⟩
  rcases TX.mp (I3.o7 b z) with e | e
  ·exact q1 e
  ·exact q2 e
 have back:∀{o:Option V} {H':Hp} {s':Shared},Inv (gd X sc cl s3.heap.objs.size x ks s3 H3 fp pins) [] (o :: dT ks σ) H' s'→Inv X pins σ H' s':=λ{o H' s'} J=>by
  obtain ⟨hh,g,d,t,os'⟩:=s'
  obtain rfl:os'=s3.os:=J.os
  exact I3.call (h':=hh) (g':=g) (d':=d) (t':=t) (ch:=fp) J.base J.hok J.bare λb hb=>⟨(f b hb).2.2.2.1,(f b hb).2.1,(f b hb).2.2.2.2.1,(f b hb).2.2.2.2.2⟩
 have lookX:(relabel sc X.env).names.lookup x=some .local:=lookup_relabel_local lx
 have loop:∀s',(∃(i:Nat) (o:Option V) (H':Hp),Inv (gd X sc cl s3.heap.objs.size x ks s3 H3 fp pins) [] (o :: dT ks σ) H' s'∧tn i s'.heap∧(∀b∈fp,H' b=none)∧W i m0 H') →
   codeAny (model X.prog X.w) X.A (.compLoop (.DictComp kx vx [⟨.Name x px,iter,ifs,0⟩] sc pos) 0 (.ref it) (.ref D) (compEnvC sc cl s3.heap.objs.size X.env)) (RR (.ref D) s3.heap.objs.size) s':=by
  intro s' hs'
  refine Ak (λn s'=>∃(i:Nat) (o:Option V) (H':Hp),Inv (gd X sc cl s3.heap.objs.size x ks s3 H3 fp pins) [] (o :: dT ks σ) H' s'∧tn i s'.heap∧(∀b∈fp,H' b=none)∧W i n H') ?_ m0 hs'
  rintro n s5 ⟨i,o,H5,J5,t5,n5,w5⟩
  rcases turn i n H5 w5 with ⟨stop,hq⟩ | ⟨go,step⟩
  ·refine cq (T.done (gd X sc cl s3.heap.objs.size x ks s3 H3 fp pins) rfl rfl rfl hc i [] s5 _ H5 _ J5 (fX n5) t5 stop) λr s6 ⟨hr,J6⟩=>?_
   subst hr
   obtain ⟨m,hm,_⟩:=J6.loc
   exact hR D _ s6 H5 m (back J6) hq hm J6.free lC I3.sz cC pC
  ·refine cq (T.item (gd X sc cl s3.heap.objs.size x ks s3 H3 fp pins) rfl rfl rfl hc i [] s5 _ H5 _ J5 (fX n5) t5 go) λr s6 ⟨u,hr,h6⟩=>?_
   subst hr
   refine cq h6 λ_ s7 ⟨v,H7,J7,r7,y7,t7,n7⟩=>?_
   have J7':=J7.pinned (fX n7) (T.obj _ _ t7)
   refine wpAny_assign_Name (gH (X:=gd X sc cl s3.heap.objs.size x ks s3 H3 fp pins) (i:=0) J7' nd rfl (.inl lookX) r7 (λs8 J8=>?_) (.inr lookX))
   refine cq (hcn cl s3.heap.objs.size s3 H3 fp pins _ s8 _ H7 _ J8 (step v H7 y7)) λok s8' ⟨H8,J8',q8⟩=>?_
   cases ok with
   | false =>
    simp only [T2,if_false] at q8 ⊢
    obtain ⟨m',hm,w'⟩:=q8
    refine ⟨m',hm,i + 1,_,_,J8'.gI,?_,?_,w'⟩
    ·exact T.keep _ _ _ t7 λb hb o e=>(J8'.pin (b,o) (TV _ (TV _ (cI hb e)))).1
    ·intro b hb
     obtain ⟨o,e,d⟩:=T.obj _ _ t7 b hb
     exact (J8'.pin (b,o) (TV _ (TV _ (cI hb e)))).2.1
   | true =>
    simp only [if_true] at q8 ⊢
    refine cq (hk cl s3.heap.objs.size s3 H3 fp pins _ s8' _ H8 _ J8' q8) λky s8'' ⟨vk,H8',J8'',rk,q8'⟩=>?_
    refine cq (he cl s3.heap.objs.size s3 H3 fp pins _ s8'' _ H8' _ J8'' q8') λy s9 ⟨vy,H9,J9,r9,kvs,ep,k,ek,hys,hz,m',hm,w'⟩=>?_
    subst ek
    obtain ⟨hz',hd',vs,rel,da⟩:=j0 J9 hys
    refine wpAny_dictSet_pairs (hsz:=by rw [← rel.len];exact hz') (str_is rk) da.dictOf λh' dd' hsb=>?_
    obtain ⟨ep',J10⟩:=qL (t':=s9.toks + 1) J9 hys hsb (show (L2.sJ kvs k vy).length≤sizeLine from T4 (Ca kvs k vy) hz) hd' (rel.pu r9) dd'
    refine ⟨m',hm,i + 1,_,_,J10.gI,?_,?_,w' ep'⟩
    ·exact T.keep _ _ _ t7 λb hb o e=>(J10.pin (b,o) (TV _ (TV _ (cI hb e)))).1
    ·intro b hb
     obtain ⟨o,e,d⟩:=T.obj _ _ t7 b hb
     exact (J10.pin (b,o) (TV _ (TV _ (cI hb e)))).2.1
 have l0:=loop _ ⟨0,none,H3,J0,st4,λb hb=>(f3 b hb).1,w0⟩
 exact codeAny_compStart_dict l0 (T.self _ 0 _ _ _ st4 l0)
theorem OY {kx vx iter:Expr} {ifs:List Expr} {x:Str} {px:Pos} {sc:Scope} {pos:Pos} {wi:TI} {tk te:TE} {tc:TT} (osc:Scope) (N:List Str) (ks:List (Str × Nat)) (hc:X.calm=true) (ho:X.env.scope=osc) (hN:X.N=N) (hi:PI X (.Name x px) iter wi)
  (hk:∀cl C s₀ H₀ fp pins,PE (gd X sc cl C x ks s₀ H₀ fp pins) kx tk) (he:∀cl C s₀ H₀ fp pins,PE (gd X sc cl C x ks s₀ H₀ fp pins) vx te) (hcn:∀cl C s₀ H₀ fp pins,HF (gd X sc cl C x ks s₀ H₀ fp pins) ifs tc) (ok:cR sc osc N x ks:=by decide +kernel) (hs:∀x,foldedSetIterable iter X.env x=pure x:=by intro _;rfl) :
  PE X (.DictComp kx vx [⟨.Name x px,iter,ifs,0⟩] sc pos) (S7 wi ks tc tk te):=by
 intro pins s σ H Q I hw
 obtain ⟨cl,hcl,h1,h2⟩:=l_ (rA ok I ho)
 have ok':cR sc X.env.scope X.N x ks:=by rw [ho,hN];exact ok
 rw [arm_eval_DictComp]
 refine wpAny_comprehension_free (use:=none) rfl hs hcl ok.1 ok.2.2.2.1 (cq (hi pins s σ H _ I hw) λv s1 h3=>cq h3 λitv s2 h4=>?_)
 obtain ⟨it,fp,tn,J,H2,rfl,I2,T,st2,f2,hR⟩:=h4
 refine DZ (RR:=λacc C=>compPost (model X.prog X.w) X.A X.xe none (EP X pins σ Q) acc C) hc ok' h1 h2 hk he hcn I2 T st2 f2 hR ?_
 intro D C s' H' m J' q hn hC cl' cs cc cp
 refine ⟨m,hn,λh' hsb=>⟨.ref D,H',?_,rfl,q⟩⟩
 exact J'.turned (t':=s'.toks) (it:=C) (λb o ne e=>hsb.extBut b o ne e) hC cl' (.inr cs) cc cp
end
end Ov
namespace Ov
open PySem PySem.Spec PyProof.Rows
open L2 (V HO Hp Inv Cx VK XK TE TT TA TS TG pY TI TO jX Ends xD Loc Gl Rd RelV Vals fm xO bY pW tI pX jW R2 upd aE aO cW gK Sp sF It bB c5 bK Passes pG aD Meth Mk Binds aL bZ aw de f9 eO mI sJ Eg pK)
section
variable {K:PySem.W.Frag} {J:Hq} {H:Hp}
theorem eI:∀{kvs:List (Str × PV)} {gs:List (Str × V)},l7 K J H kvs gs→pK (cv K J H) kvs gs
 | [],[],_=>.nil
 | [],_ :: _,h=>by cases h.1
 | _ :: _,[],h=>by cases h.1
 | (k,y) :: fs,(k',w) :: gs,h=>by
  obtain ⟨h1,v',us,h2,h3,h4⟩:=h
  simp only [TL,List.cons.injEq] at h1 h2
  obtain ⟨rfl,h1⟩:=h1
  obtain ⟨rfl,rfl⟩:=h2
  exact .cons ⟨rfl,h3⟩ (eI ⟨h1,h4⟩)
theorem yN:∀{kvs:List (Str × PV)} {gs:List (Str × V)},pK (cv K J H) kvs gs→l7 K J H kvs gs
 | _,_,.nil=>⟨rfl,rfl⟩
 | _,_,.cons (a:=p) (b:=q) r t=>by
  obtain ⟨h1,h2⟩:=yN t
  exact ⟨by rw [TL,TL,h1,r.1],q.2,_,rfl,r.2,h2⟩
theorem Ext.kZ {p:Addr} {kvs kvs':List (Str × PV)} {gs gs':List (Str × V)} {ep ep':Nat} (h:J p=some (.dct kvs ep)) (k:H p=some (.dE gs ep)):Ext K J H (put J p (.dct kvs' ep')) (upd H p (.dE gs' ep')):=by
 have sm:∀a u,a≠p→Rd H a u→Rd (upd H p (.dE gs' ep')) a u:=λa u ne z=>by
  rcases z with z | ⟨o,z⟩
  ·exact .inl (by rw [aO ne];exact z)
  ·exact .inr ⟨o,by rw [aO ne];exact z⟩
 refine ⟨λa vs' z=>?_,λa o z q _=>?_⟩
 ·rcases z with z | z
  ·have ne:a≠p:=by
    intro e;subst e
    rcases z with z | ⟨o,z⟩
    ·rw [k] at z;cases z
    ·rw [k] at z;cases z
   exact .inl (sm a _ ne z)
  ·exact .inr z
 ·have ne:a≠p:=by intro e;subst e;rw [h] at z;cases z
  exact ⟨by rw [ak ne];exact z,by rw [aO ne];exact q⟩
theorem Rep.kZ {p:Addr} {kvs kvs':List (Str × PV)} {gs gs':List (Str × V)} {ep ep':Nat} (r:Rep K J H) (h:J p=some (.dct kvs ep)) (k:H p=some (.dE gs ep)) (q:pK (cv K J H) kvs' gs'):Rep K (put J p (.dct kvs' ep')) (upd H p (.dE gs' ep')):=by
 have e:=Ext.kZ (K:=K) (kvs':=kvs') (gs':=gs') (ep':=ep') h k
 refine r.Bk e p (λa ne=>ak ne) (λa o ne _ z=>by rw [aO ne];exact z) λu z=>?_
 rw [aq] at z;cases z
 exact ⟨gs',aE,e.wG (yN q)⟩
theorem Rep.Kb {p:Addr} {ep:Nat} (r:Rep K J H) (n:H p=none):Rep K (put J p (.dct [] ep)) (upd H p (.dE [] ep)):=by
 have e:=Ext.laid (K:=K) (J:=J) (o:=.dE [] ep) (u:=.dct [] ep) n
 refine r.Bk e p (λa ne=>ak ne) (λa o ne _ z=>by rw [aO ne];exact z) λu z=>?_
 rw [aq] at z;cases z
 exact ⟨[],aE,⟨rfl,rfl⟩⟩
end
def O6:mT:=λx y J Q=>B3 x λa=>Ko y λk=>F1 (J a) λkvs _=>uO (mI kvs k) λv=>Q v J
def Je (f:Bool→Bool):mT:=λx y J Q=>Ko x λk=>B3 y λa=>F1 (J a) λkvs _=>Q (.bl (f (mI kvs k).isSome)) J
def O7:zQ:=λxs J Q=>B2 xs λx=>B3 x λa=>F1 (J a) λkvs _=>Q (.int kvs.length) J
def Gr:zQ:=λxs J Q=>B2 xs λx=>B3 x λa=>F1 (J a) λkvs _=>Q (.fl (kvs.map λkv=>.str kv.1)) J
def KD:Ef:=λx xs J Q=>B3 x λa=>B2 xs λy=>Ko y λk=>F1 (J a) λkvs _=>uO (mI kvs k) λv=>∀ep',Q v (put J a (.dct (Eg kvs k) ep'))
def KG:Dd:=λo i y J R=>B3 o λa=>Ko i λk=>F1 (J a) λkvs _=>kvs.length < sizeLine∧∀ep',R (put J a (.dct (sJ kvs k y) ep'))
def KN:c4:=λ_ J Q=>∀p,J p=none→∀ep,Q (.ref p) (put J p (.dct [] ep))
def SI (te:c4):tJ:=λτ J R=>te τ J λx J1=>B3 x λa=>F1 (J1 a) λkvs ep=>R ⟨kvs.map λkv=>.str kv.1,λJ'=>J' a=some (.dct kvs ep)⟩ J1
section
variable {X:Cx} {G:G2}
theorem dG:Qz X O6:=⟨_,L2.Oa,λJ H x y v w Q2 Q rx ry r h kn=>by
 obtain ⟨a,ex,h⟩:=gm h;obtain ⟨k,ey,h⟩:=oG h;obtain ⟨kvs,ep,ja,h⟩:=mn h;obtain ⟨z,hz,q⟩:=dZ h
 subst ex ey
 cases rx;cases ry
 obtain ⟨gs,h1,h2⟩:=r _ _ ja
 obtain ⟨u,hu,ru⟩:=((eI h2).va k).1 z hz
 exact ⟨a,gs,ep,k,u,rfl,rfl,h1,hu,kn z J u H ru r .refl q⟩⟩
theorem FE (f:Bool→Bool):LR X.K (L2.MS f) (Je f):=λJ H x y v w Q2 Q rx ry r h kn=>by
 obtain ⟨k,ex,h⟩:=oG h;obtain ⟨a,ey,h⟩:=gm h;obtain ⟨kvs,ep,ja,q⟩:=mn h
 subst ex ey
 cases rx;cases ry
 obtain ⟨gs,h1,h2⟩:=r _ _ ja
 exact ⟨a,gs,ep,k,rfl,rfl,h1,by rw [← ((eI h2).va k).2];exact kn (.bl _) J _ H rfl r .refl q⟩
theorem MA:mS X (compareOp .In) (Je id):=⟨_,L2.Mx,FE id⟩
theorem IM:mS X (compareOp .NotIn) (Je not):=⟨_,L2.DR,FE not⟩
theorem oP {K:PySem.W.Frag} {J:Hq} {H:Hp}:∀{ks:List Str},aJ K J H (ks.map PV.str) (ks.map V.str)
 | []=>rfl
 | k :: ks=>⟨_,_,rfl,rfl,oP (ks:=ks)⟩
theorem qJ (hc:X.calm=true):JR X (.type "list") Gr:=⟨_,L2.xW hc,λJ H xs vs Q2 Q rs r h k=>by
 obtain ⟨x,ex,h⟩:=je h;obtain ⟨a,ea,h⟩:=gm h;obtain ⟨kvs,ep,ja,q⟩:=mn h;subst ea
 subst ex;obtain ⟨v,us,rfl,rv,e⟩:=rs;cases e;cases rv
 obtain ⟨gs,h1,h2⟩:=r _ _ ja
 refine ⟨a,gs,ep,rfl,h1,λp hp=>?_⟩
 have hk:aJ X.K J H (kvs.map λkv=>PV.str kv.1) (gs.map λkv=>V.str kv.1):=by
  have:=(eI h2).keys
  rw [show (kvs.map λkv=>PV.str kv.1)=(kvs.map (·.1)).map PV.str by rw [TK];rfl,show (gs.map λkv=>V.str kv.1)=(gs.map (·.1)).map V.str by rw [TK];rfl,this]
  exact oP
 obtain ⟨x1,x2,x3⟩:=vR r hk hp
 exact k _ J _ _ x1 x2 x3 q⟩
theorem Ir:Lj X "dict" "dict.pop" KD:=⟨_,L2.Iv,λJ H x xs v vs Q2 Q rx rs r h kn=>by
 obtain ⟨a,ex,h⟩:=gm h;obtain ⟨y,exs,h⟩:=je h;obtain ⟨k,ek,h⟩:=oG h;obtain ⟨kvs,ep,ja,h⟩:=mn h;obtain ⟨z,hz,q⟩:=dZ h;subst ek
 subst ex exs;cases rx
 obtain ⟨u,us,rfl,ru,e⟩:=rs;cases e;cases ru
 obtain ⟨gs,h1,h2⟩:=r _ _ ja
 have pk:=eI h2
 obtain ⟨y,hy,ry⟩:=(pk.va k).1 z hz
 refine ⟨a,gs,ep,k,y,rfl,rfl,h1,hy,λep'=>?_⟩
 have e2:=Ext.kZ (K:=X.K) (kvs':=Eg kvs k) (gs':=Eg gs k) (ep':=ep') ja h1
 exact kn z _ y _ (e2.rep ry) (r.kZ ja h1 (pk.dr k)) e2 (q ep')⟩
theorem nX:QH X KG:=⟨_,L2.M7,λJ H o i y ov iv u R2 R ro ri ry r h kk=>by
 obtain ⟨a,eo,h⟩:=gm h;obtain ⟨k,ei,h⟩:=oG h;obtain ⟨kvs,ep,ja,hl,q⟩:=mn h
 subst eo ei;cases ro;cases ri
 obtain ⟨gs,h1,h2⟩:=r _ _ ja
 have pk:=eI h2
 refine ⟨a,gs,ep,k,rfl,rfl,h1,by rw [← pk.len];exact hl,λep'=>?_⟩
 exact kk _ _ (r.kZ ja h1 (pk.pu ry)) (Ext.kZ (K:=X.K) ja h1) (q ep')⟩
theorem Co {pos:Pos}:RE X G (.Dict [] [] pos) KN:=⟨lp L2.IX λσ H Q ⟨τ,J,Q2,a2,q,k⟩ p hp ep=>k (.ref p) _ _ _ rfl (a2.hp.Kb hp) (.laid hp) (q p (a2.hp.free hp) ep)⟩
theorem wI {tg l:Expr} {tl:c4} (hl:RE X G l tl):RI X G tg l (SI tl):=⟨O0 (L2.IY hl.run) λσ H R ⟨τ,J,R2,a2,h,k⟩=>⟨τ,J,_,a2,h,λx J1 v H1 rx r1 e1 h=>by
 obtain ⟨a,ex,h⟩:=gm h;obtain ⟨kvs,ep,ja,q⟩:=mn h
 subst ex;cases rx
 obtain ⟨gs,h1,h2⟩:=r1 _ _ ja
 have pk:=eI h2
 have hl':=pk.len
 refine ⟨a,gs,ep,rfl,h1,k _ J1 _ H1 ?_ r1 e1 q⟩
 have hks:=pk.keys
 have key:∀J' H',Rep X.K J' H'→J' a=some (.dct kvs ep)→∃gs',H' a=some (.dE gs' ep)∧gs'.map (·.1)=gs.map (·.1):=λJ' H' r o=>by
  obtain ⟨gs',h1',h2'⟩:=r _ _ o
  exact ⟨gs',h1',by rw [← (eI h2').keys,hks]⟩
 exact {
  go:=λJ' H' e r o i hi=>⟨key J' H' r o,by rw [Tx] at hi ⊢;omega⟩
  yl:=λJ' H' e r o i hi v H2 y=>by
   obtain ⟨rfl,k,hk,rfl⟩:=y
   rw [← hks,TN] at hk
   obtain ⟨kv,hkv,rfl⟩:=U'.mp hk
   exact ⟨.str kv.1,by rw [TN,hkv];rfl,rfl,r,.refl⟩
  stop:=λJ' H' e r o=>⟨key J' H' r o,by rw [Tx,Tx];omega⟩ }⟩⟩
def Qo (wi:tJ) (ks:List (Str × Nat)) (tc:l9) (tk te:c4):c4:=λτ J Q=>wi τ J λit J1=>∀D,J1 D=none→∀ep,∃W:Nat→Hq→Prop,W 0 (put J1 D (.dct [] ep))∧(∀i J2,W i J2→it.ok J2) ∧
 (∀i x J2,it.xs[i]?=some x→W i J2→tc (some x :: pV ks τ) J2 λb J3=>if b=true then tk (some x :: pV ks τ) J3 λy J4=>te (some x :: pV ks τ) J4 λz J5 =>
  ∃kvs ep k,y=.str k∧J5 D=some (.dct kvs ep)∧kvs.length < sizeLine∧∀ep',W (i + 1) (put J5 D (.dct (sJ kvs k z) ep')) else W (i + 1) J3)∧∀J2,W it.xs.length J2→Q (.ref D) J2
theorem HK {wi:tJ} {ks:List (Str × Nat)} {tc:l9} {tk te:c4}:∀σ H Q,LE X.K G (Qo wi ks tc tk te) σ H Q→S7 (LI X.K G wi) ks (LT X.K G tc) (LE X.K G tk) (LE X.K G te) σ H Q:=λσ H Q ⟨τ,J,Q2,a2,h,k⟩ =>
 ⟨τ,J,_,a2,h,λit J1 I H1 ir r1 e1 w D hD ep=>by
  obtain ⟨W,w0,wok,step,fin⟩:=w D (r1.free hD) ep
  refine ⟨λi m H2=>m=it.xs.length - i∧i≤it.xs.length∧∃J2,Rep X.K J2 H2∧Ext X.K J1 H1 J2 H2∧W i J2,⟨_,rfl,Ue _,_,r1.Kb hD,.laid hD,w0⟩,?_⟩
  rintro i m H2 ⟨rfl,hi,J2,r2,e2,w2⟩
  by_cases hlt:i < it.xs.length
  ·refine .inr ⟨ir.go J2 H2 e2 r2 (wok i J2 w2) i hlt,λv H3 y=>?_⟩
   obtain ⟨x,ex,rx,r3,e3⟩:=ir.yl J2 H2 e2 r2 (wok i J2 w2) i hlt v H3 y
   have a3:xC X.K G (some x :: pV ks τ) J2 (some v :: dT ks σ) H3:=⟨Cq (a2.sl.ext ((e1.trans e2).trans e3)) rx ks,r3,((a2.ext.trans e1).trans e2).trans e3⟩
   refine ⟨_,_,_,a3,step i x J2 ex w2,λb J4 H4 r4 e4 q=>?_⟩
   cases b with
   | false =>
    simp only [T2,if_false] at q ⊢
    exact ⟨_,by omega,rfl,hlt,J4,r4,(e2.trans e3).trans e4,q⟩
   | true =>
    simp only [if_true] at q ⊢
    refine ⟨_,_,_,a3.go r4 e4,q,λyk J5 u H5 rk r5 e5 q5=>?_⟩
    refine ⟨_,_,_,(a3.go r4 e4).go r5 e5,q5,λz J6 vz H6 rz r6 e6 ⟨kvs,ep2,kk,ek,jD,hl,q6⟩=>?_⟩
    subst ek
    cases rk
    obtain ⟨gs,h1,h2⟩:=r6 _ _ jD
    have pk:=eI h2
    refine ⟨gs,ep2,kk,rfl,h1,by rw [← pk.len];exact hl,it.xs.length - (i + 1),by omega,λep'=>⟨rfl,hlt,_,r6.kZ jD h1 (pk.pu rz),?_,q6 ep'⟩⟩
    exact ((((e2.trans e3).trans e4).trans e5).trans e6).trans (Ext.kZ (K:=X.K) jD h1)
  ·have ei:i=it.xs.length:=by omega
   subst ei
   exact .inl ⟨ir.stop J2 H2 e2 r2 (wok _ J2 w2),k (.ref D) J2 _ H2 rfl r2 (e1.trans e2) (fin J2 w2)⟩⟩
theorem RH {X:Cx} {ifs:List Expr} {t t':TT} (h:HF X ifs t) (k:∀σ H Q,t' σ H Q→t σ H Q):HF X ifs t':=λpins s σ H Q I q=>h pins s σ H Q I (k _ _ _ q)
variable {kx vx iter cnd:Expr} {x y:Str} {px py:Pos} {sc:Scope} {pos spos:Pos} {wi:tJ} {tk te:c4} {tc:l9} {i:Nat}
theorem KS (osc:Scope) (N:List Str) (ks:List (Str × Nat)) (hc:X.calm=true) (ho:X.env.scope=osc) (hN:X.N=N) (hi:RI X G (.Name x px) iter wi) (hk:∀cl C s₀ H₀ fp pins,RE (gd X sc cl C x ks s₀ H₀ fp pins) G kx tk) (he:∀cl C s₀ H₀ fp pins,RE (gd X sc cl C x ks s₀ H₀ fp pins) G vx te)
  (ok:cR sc osc N x ks:=by decide +kernel) (hs:∀x,foldedSetIterable iter X.env x=pure x:=by intro _;rfl):RE X G (.DictComp kx vx [⟨.Name x px,iter,[],0⟩] sc pos) (Qo wi ks yS tk te) :=
 ⟨lp (OY osc N ks hc ho hN hi.run (λcl C s₀ H₀ fp pins=>(hk cl C s₀ H₀ fp pins).run) (λcl C s₀ H₀ fp pins=>(he cl C s₀ H₀ fp pins).run) (λcl C s₀ H₀ fp pins=>RH wu λσ H Q ⟨τ,J,Q2,a2,q,k⟩=>k true J H a2.hp .refl q) ok hs) HK⟩
end
def A9 (tabs:List Addr):cF:=λxs J Q _=>∃ns:List Int,xs=[.fl (ns.map .int)]∧ns.length≤63∧(∀T∈tabs,J T=some .tab)∧(∀a,a ∉ tabs→J a=none)∧∀J',(∀T∈tabs,J' T=some .tab)→Q (.bl true) J'
def GN (tabs:List Addr) (K:PySem.W.Frag):Sp:=λvs H Q _=>∃(a:Addr) (ns:List Int),vs=[.ref a]∧cW K H a (ns.map V.int)∧ns.length≤63∧(∀T∈tabs,H T=some (.ext (eh T))) ∧
 (∀b,H b≠none→b=a∨b∈tabs)∧(∀u,H a=some u→∃o xs,u=.qQ o (.lst xs))∧∀H',bB H H'→Q (.bl true) H'
theorem Du {P:Program} {w:World} {K:PySem.W.Frag} {mg:Str→Option Value} {base:Heap} {k:Nat} {f:Addr} {fd:FuncData} {ps:List Str} {tabs:List Addr} (F:aL P w K mg base (cV P w) k f fd ps (dn K (A9 tabs))) :
  aL P w K mg base L2.qw k f fd ps (GN tabs K) :=
 F.Qa.imp λvs H Q E ⟨a,ns,e,hS,hl,hT,hA,hK,q⟩=>by
  subst e
  classical
  have na:∀u,H a=some u→a ∉ tabs:=λu hu hm=>by
   obtain ⟨o,xs,rfl⟩:=hK u hu
   rw [hT a hm] at hu;cases hu
  refine ⟨[.fl (ns.map .int)],λb=>if b∈tabs then some .tab else none,λx J'=>x=.bl true∧∀T∈tabs,J' T=some .tab,λ_ _=>False,⟨.ref a,[],rfl,⟨a,ns.map V.int,rfl,?_,oO ns⟩,rfl⟩,?_,⟨ns,rfl,hl,λT hT=>if_pos hT,λb hb=>if_neg hb,λJ' h=>⟨rfl,h⟩⟩,?_,?_⟩
  ·rcases hS with h | h
   ·refine .inl ⟨?_,h⟩
    have:a ∉ tabs:=by
     rcases h with h | ⟨o,h⟩
     ·exact na _ h
     ·exact na _ h
    exact if_neg this
   ·exact .inr h
  ·intro b o z
   by_cases hb:b∈tabs
   ·have z':=(if_pos hb).symm.trans z
    cases z'
    exact hT b hb
   ·have z':=(if_neg hb).symm.trans z
    cases z'
  ·rintro z J' u H' rz rr ee ⟨rfl,ht⟩
   cases rz
   refine q H' λb o hb=>?_
   rcases hA b (by rw [hb];simp) with rfl | hm
   ·obtain ⟨ob,xs,rfl⟩:=hK o hb
    exact (ee.ll b _ (if_neg (na _ hb)) hb (.inr ⟨_,_,rfl⟩)).2
   ·have:=hT b hm
    rw [hb] at this;cases this
    exact rr b _ (ht b hm)
  ·intro _ _ _ _ _ z;exact z.elim
end Ov
namespace L2
open PySem PySem.Spec PyProof.Rows
def Q3 (k:Str):Value→Bool
 | .str y _=>y.cps.toList == k.cps.toList
 | _=>false
theorem Ec {ss:List Str} {us:List Value} (r:Vals (ss.map V.str) us):us.length=ss.length∧∀(j:Nat) (u:Value),us[j]?=some u→∃y t,ss[j]?=some y∧u=.str y t:=by
 induction ss generalizing us with
 | nil=>cases r;exact ⟨rfl,λj u e=>by simp at e⟩
 | cons y ss ih =>
  rw [TL] at r
  cases r with
  | cons ru rr =>
   obtain ⟨t,rfl⟩:=ru
   obtain ⟨h1,h2⟩:=ih rr
   refine ⟨by simp [h1],λj u e=>?_⟩
   cases j with
   | zero=>cases e;exact ⟨y,t,rfl,rfl⟩
   | succ j=>exact h2 j u (by simpa using e)
theorem uF {α β:Type} (f:α→β):∀(l:List α) (j:Nat),(l.eraseIdx j).map f=(l.map f).eraseIdx j
 | [],_=>rfl
 | _ :: _,0=>rfl
 | x :: l,j + 1=>by simp only [VA,TL,uF f l j]
section
variable {X:Cx}
def Gv:V→List V→Hp→VK→Prop:=λx vs H Q=>∃(l:Addr) (ss:List Str) (k:Str) (j:Nat),x=.ref l∧vs=[.str k]∧H l=some (.lst (ss.map V.str))∧ss[j]?=some k∧(∀m:Nat,m < j→ss[m]?≠some k)∧Q .non (upd H l (.lst ((ss.eraseIdx j).map V.str)))
theorem Ap:pX X "list.remove" Gv:=by
 intro pins s σ H x vs v us Q I rx rv h
 obtain ⟨l,ss,k,j,rfl,rfl,hH,hj,hno,q⟩:=h
 cases rx
 obtain ⟨u,rfl,ru⟩:=rv.one
 obtain ⟨t,rfl⟩:=ru
 obtain ⟨z,its,n,r,hl,e⟩:=I.Il hH
 obtain ⟨h1,h2⟩:=Ec r
 obtain ⟨hjl,hje⟩:=TC.mp hj
 have hz:ss.length≤sizeLine:=by simpa using z
 have at_:∀(m:Nat) (hm:m < its.toArray.size),Q3 k its.toArray[m]=decide (ss[m]?=some k):=λm hm=>by
  obtain ⟨y,t',hy,hu⟩:=h2 m its[m] (Tz (by simpa using hm))
  show Q3 k its[m]=_
  rw [hu,hy]
  show (y.cps.toList == k.cps.toList)=_
  by_cases hk:y=k
  ·subst hk;simp
  ·have:(y.cps.toList == k.cps.toList)=false:=by
    rw [beq_eq_false_iff_ne]
    intro z
    exact hk (by cases y;cases k;simp at z;rw [z])
   rw [this];symm;exact decide_eq_false λz=>hk (Option.some.inj z)
 refine call_meets PySem.F.slot_list_remove ⟨_,e,rfl⟩ PySem.F.entry_list_remove (PySem.F.args_list_remove_2 _ _)
  (MeetsSeq.list_remove l its.toArray n (.str k t) (Q3 k) (λy hy=>?_) j (by simpa using (show j < its.length by omega)) ?_ (λm hm hlt=>?_) (by rw [TJ];omega)) ⟨e,?_⟩
 ·obtain ⟨m,hm⟩:=T5.mp (show y∈its by simpa using hy)
  obtain ⟨y',t',_,rfl⟩:=h2 m y hm
  exact SeqRoads2.EqGives.str _ _ _ _
 ·rw [at_];exact decide_eq_true hj
 ·rw [at_];exact decide_eq_false (hno m hlt)
 ·refine ⟨.non,_,I.Ik (its':=its.eraseIdx j) hH e (by rw [Vc]) ?_ ?_,rfl,q⟩
  ·rw [uF];exact r.eraseIdx j
  ·rw [Tx];exact T4 (List.length_eraseIdx_le _ _) hz
end
end L2
namespace Ov
open PySem PySem.Spec PyProof.Rows
open L2 (V HO Hp Inv Cx VK XK TE TT TA TS TG pY TI TO jX Ends xD Loc Gl Rd RelV Vals fm xO bY pW tI pX jW R2 upd aE aO cW gK Sp sF It bB c5 bK Passes pG aD Meth Mk Binds aL bZ aw de f9 eO)
section
variable {X:Cx} {G:G2}
def MP:Ef:=λx xs J Q=>∃(a:Addr) (ss:List Str) (k:Str) (j:Nat),x=.ref a∧xs=[.str k]∧J a=some (.lst (ss.map .str))∧ss[j]?=some k∧(∀m:Nat,m < j→ss[m]?≠some k)∧Q (.int (j:Nat)) J
def Ci:Ef:=λx xs J Q=>∃(a:Addr) (ss:List Str) (k:Str) (j:Nat),x=.ref a∧xs=[.str k]∧J a=some (.lst (ss.map .str))∧ss[j]?=some k∧(∀m:Nat,m < j→ss[m]?≠some k)∧Q .non (put J a (.lst ((ss.eraseIdx j).map .str)))
theorem DC:Lj X "list" "list.remove" Ci:=⟨_,L2.Ap,λJ H x xs v vs Q2 Q rx rs r ⟨a,ss,k,j,ex,exs,ja,hj,hno,q⟩ kn=>by
 subst ex exs;cases rx
 obtain ⟨w,us,rfl,rw',e⟩:=rs;cases e;cases rw'
 obtain ⟨ws,h1,h2⟩:=r _ _ ja
 cases jt h2
 exact ⟨a,ss,k,j,rfl,rfl,h1,hj,hno,kn .non _ _ _ rfl (r.wrote (ys:=(ss.eraseIdx j).map .str) ja h1 oP) (.wrote ja h1) q⟩⟩
variable {a b c:Expr} {ta tb tc:c4} {pos:Pos}
def wC (q q':mT) (ta tb tc:c4):c4:=λτ J Q=>ta τ J λx J1=>tb τ J1 λy J2=>q x y J2 λz J3=>Kl z λk=>(if k=true then tc τ J3 λw J4=>q' y w J4 Q else Q (.bl false) J3)
theorem zX {r r':R2} {q q':mT} (lr:LR X.K r q) (lr':LR X.K r' q'):∀σ H Q,LE X.K G (wC q q' ta tb tc) σ H Q→L2.G1 r r' (LE X.K G ta) (LE X.K G tb) (LE X.K G tc) σ H Q:=λσ H Q ⟨τ,J,Q2,a2,hh,k⟩=>⟨τ,J,_,a2,hh,λx J1 v H1 rx r1 e1 q1=>⟨τ,J1,_,a2.go r1 e1,q1,λy J2 w H2 ry r2 e2 q2 =>
  lr J2 H2 x y v w _ _ (e2.rep rx) ry r2 q2 λz J3 u H3 rz r3 e3 hz=>by
   obtain ⟨kk,ez,q3⟩:=oF hz
   subst ez;cases rz
   refine ⟨kk,rfl,?_⟩
   cases kk with
   | false=>simp only [T2,if_false] at q3 ⊢;exact k (.bl false) J3 _ H3 rfl r3 ((e1.trans e2).trans e3) q3
   | true =>
    simp only [if_true] at q3 ⊢
    exact ⟨τ,J3,_,((a2.go r1 e1).go r2 e2).go r3 e3,q3,λw2 J4 u4 H4 r4 rr4 e4 q4=>lr' J4 H4 y w2 w u4 Q2 Q ((e3.trans e4).rep ry) r4 rr4 q4 λz' J' u' H' rz' rr' ee' qq=>k z' J' u' H' rz' rr' ((((e1.trans e2).trans e3).trans e4).trans ee') qq⟩⟩⟩
theorem GA {op op':CmpOp} {q q':mT} (ho:mS X (compareOp op) q) (ho':mS X (compareOp op') q') (ha:RE X G a ta) (hb:RE X G b tb) (hc:RE X G c tc) (hm:lastMarks [op,op'] [b,c]=false:=by with_unfolding_all rfl) :
  RE X G (.Compare a [op,op'] [b,c] pos) (wC q q' ta tb tc):=by
 obtain ⟨r,h,lr⟩:=ho
 obtain ⟨r',h',lr'⟩:=ho'
 exact ⟨lp (L2.Ga h h' ha.run hb.run hc.run hm) (zX lr lr')⟩
end
end Ov
namespace L2
open PySem PySem.Spec PyProof.Rows
def Sv (K:PySem.W.Frag) (a:Addr):It :=
 ⟨λi H=>∃xs x,cW K H a xs∧xs[i]?=some x,
  λi H z H'=>∃T x,H T=none∧z=.ref T∧H'=upd H T (.tup [.int (i:Nat),x])∧(∀xs,cW K H a xs→xs[i]?=some x),
  λi H=>∃xs,cW K H a xs∧xs.length≤i⟩
theorem D' {P:Program} {w:World} {K:PySem.W.Frag} {elts:List Expr} {x1} {pos:Pos} {e it l:Addr} (ne:e≠it) :
  Turn P w K (.Tuple elts x1 pos) (Sv K l) [e,it] e (λi h=>(∃old,IsEnum h e it (i:Int) old)∧h.IsListIter it l i) where
 mem:=by simp
 obj:=λi h ⟨⟨old,he⟩,h1⟩ c hc=>by
  simp only [TX,Ua,or_false] at hc
  rcases hc with rfl | rfl
  ·exact ⟨_,he,λv z=>by cases z⟩
  ·obtain ⟨o,e,c,d⟩:=h1;exact ⟨o,e,λv z=>by rw [d] at z;cases z⟩
 keep:=λi h h' ⟨⟨old,he⟩,h1⟩ k=>⟨⟨old,k e (by simp) _ he⟩,h1.at λo q=>k it (by simp) o q⟩
 item:=by
  intro X hP hw hK hc i pins s σ H E I hf st hg
  subst hP hw hK
  obtain ⟨⟨old,he⟩,h1⟩:=st
  obtain ⟨xs,x,hqx,hx⟩:=hg
  obtain ⟨its,rv,p,hzx⟩:=I.list hqx
  obtain ⟨u,hu,rx⟩:=rv.get hx
  refine wpAny_pyNext_enum_item he h1 p.isList (x:=u) (by simpa using hu) ne λh' a1 a3 a5 a6 hk=>?_
  refine ⟨_,rfl,wpAny_letOwnedTupleGo_enum a1 λh'' hz' hs'=>?_⟩
  have hT:H s.heap.objs.size=none:=I.hok.fresh (TF _)
  have lt:∀{c o},s.heap.get? c=some o→c≠s.heap.objs.size:=λe=>T6 (Heap.lt_size e)
  have I0:Inv X pins σ (upd H s.heap.objs.size (.tup [.int (i:Nat),x])) { s with heap:=s.heap.push { cls:=.type "tuple",data:=.seq #[.int i s.toks,u] },toks:=s.toks + 1 }:=I.laid (t':=s.toks + 1) (λb u e=>Heap.get?_push_of_some _ e) (TF _) ⟨by simp [sizeLine],[.int i s.toks,u],.cons ⟨_,rfl⟩ (.cons rx .nil),⟨_,Heap.get?_push_size _ rfl,rfl,_,rfl⟩⟩
  have fpn:∀b∈[e,it],b≠s.heap.objs.size:=λb hb=>by
   simp only [TX,Ua,or_false] at hb
   rcases hb with rfl | rfl
   ·exact lt he
   ·obtain ⟨o,e,_⟩:=h1;exact lt e
  have fpu:∀b∈[e,it],lI X pins (upd H s.heap.objs.size (.tup [.int (i:Nat),x])) b:=λb hb=>⟨by rw [aO (fpn b hb)];exact (hf b hb).1,(hf b hb).2⟩
  have I1:Inv X pins σ (upd H s.heap.objs.size (.tup [.int (i:Nat),x])) { s with heap:=h'',toks:=s.toks + 1 }:=Inv.qs (s:={ s with heap:=s.heap.push { cls:=.type "tuple",data:=.seq #[.int i s.toks,u] },toks:=s.toks + 1 }) (t':=s.toks + 1) (ch:=[e,it]) I0 (λb o hb eb=>by
   simp only [TX,Ua,or_false,not_or] at hb
   rcases Heap.get?_push_cases eb with ⟨rfl,rfl⟩ | e'
   ·exact hs'.extBut _ _ hb.1 a5
   ·exact hs'.extBut _ _ hb.1 (hk b o hb.1 hb.2 e')) fpu
  refine ⟨.ref s.heap.objs.size,_,I1,rfl,⟨_,x,hT,rfl,rfl,λzs hq=>by rw [I.j8 hq hqx];exact hx⟩,⟨⟨_,by rw [Int.natCast_add];exact hz'⟩,a3.extBut hs'.extBut (Ne.symm ne)⟩,λb hb=>(fpu b hb).1⟩
 done:=by
  intro X hP hw hK hc i pins s σ H E I hf st hg
  subst hP hw hK
  obtain ⟨⟨old,he⟩,h1⟩:=st
  obtain ⟨xs,hqx,hl⟩:=hg
  obtain ⟨its,rv,p,hzx⟩:=I.list hqx
  have e1:=rv.length
  refine wpAny_pyNext_enum_end (I.ok.hd hc) he h1 p.isList (by rw [List.getElem?_toArray,Vu];omega) λh' hk=>⟨rfl,I.qs (t':=s.toks) (ch:=[e,it]) (λb o hb e=>?_) hf⟩
  simp only [TX,Ua,or_false,not_or] at hb
  exact hk b o hb.2 e
 self:=λ_ _ _ _ _ st h=>let ⟨⟨_,he⟩,_⟩:=st;wpAny_pyIter_enum he h
def N_ (K:PySem.W.Frag) (ta:TA):TI:=λσ H R=>ta σ H λvs H1=>∃a xs,vs=[.ref a]∧cW K H1 a xs∧R (Sv K a) H1
section
variable {X:Cx}
theorem IZ {l:Expr} {elts:List Expr} {x1} {tp:Pos} {ta:TA} {p pos:Pos} (hg:Gl X "enumerate") (hm:X.mg "enumerate"=none) (ha:PA X [l] ta) (hs:starEach [l] X.env=(false,eval l X.env) :: starEach [] X.env:=by rfl) (hp:(backTo pos (starEach [] X.env)).any (·.1)=false:=by rfl):PI X (.Tuple elts x1 tp) (.Call (.Name "enumerate" p) [l] [] pos) (N_ X.K ta):=by
 intro pins s σ H R I h
 refine Call_ (mf I hg hm PyProof.Rows.Boot.«enumerate» (PyProof.Rows.callWith_type1 (cq (ha pos pins s σ H _ I h) λus s1 ⟨vs,H1,I1,r1,q1⟩=>?_) hs hp))
 obtain ⟨a,xs,e,hqa,q⟩:=q1
 subst e
 cases r1 with
 | cons r rr =>
  cases rr
  cases r
  obtain ⟨its,rv,pl,hz⟩:=I1.list hqa
  refine call_enumerate_list pl.isList ?_
  intro h' b1 b2 b6 hk
  refine wpAny_pyIter_enum b1 ?_
  have ne:s1.heap.objs.size + 1≠s1.heap.objs.size:=Nat.succ_ne_self _
  refine ⟨_,_,_,_,H1,rfl,I1.kept (t':=s1.toks) hk,D' ne,⟨⟨_,b1⟩,b2⟩,λc hc=>?_,q⟩
  have hc':s1.heap.objs.size≤c:=by
   simp only [TX,Ua,or_false] at hc
   show @LE.le Nat _ _ _
   rcases hc with rfl | rfl
   ·exact UQ _ _
   ·exact TF _
  exact I1.E4 hc' (I1.hok.fresh hc')
end
end L2
namespace Ov
open PySem PySem.Spec PyProof.Rows
open L2 (V HO Hp Inv Cx VK XK TE TT TA TS TG pY TI TO jX Ends xD Loc Gl Rd RelV Vals fm xO bY pW tI pX jW R2 upd aE aO cW gK Sp sF It bB c5 bK Passes pG aD Meth Mk Binds aL bZ aw de f9 eO)
def x6 (xs:List PV):List PV:=(UR xs.length).zipWith (λi x=>PV.tup [.int ((i:Nat):Int),x]) xs
theorem k9 (xs:List PV):(x6 xs).length=xs.length:=by unfold x6;simp
theorem uE (xs:List PV) (i:Nat) (x:PV) (h:xs[i]?=some x):(x6 xs)[i]?=some (.tup [.int (i:Int),x]):=by
 unfold x6
 obtain ⟨hi,e⟩:=TC.mp h
 rw [List.getElem?_zipWith,VV hi,h]
section
variable {X:Cx} {G:G2}
def SJ (ta:o8):tJ:=λτ J R=>ta τ J λvs J1=>B2 vs λx=>uO (jU J1 x) λxs=>R ⟨x6 xs,λJ'=>jU J' x=some xs⟩ J1
theorem Jn {l:Expr} {elts:List Expr} {x1} {tp:Pos} {ta:o8} {p pos:Pos} (hg:Gl X "enumerate") (hm:X.mg "enumerate"=none) (ha:RA X G [l] ta) (hs:starEach [l] X.env=(false,eval l X.env) :: starEach [] X.env:=by rfl) (hp:(backTo pos (starEach [] X.env)).any (·.1)=false:=by rfl) :
  RI X G (.Tuple elts x1 tp) (.Call (.Name "enumerate" p) [l] [] pos) (SJ ta):=⟨O0 (L2.IZ hg hm ha.run hs hp) λσ H R ⟨τ,J,R2,a2,h,k⟩=>⟨τ,J,_,a2,h,λvs J1 us H1 rs r1 e1 hh=>by
 obtain ⟨x,ev,hh⟩:=je hh;obtain ⟨xs,hx,q⟩:=dZ hh
 subst ev
 obtain ⟨v,us',rfl,rv,e'⟩:=rs
 cases e'
 obtain ⟨a,ws,rfl,h1,h2⟩:=oB hx rv r1
 refine ⟨a,ws,rfl,h1,k _ J1 _ H1 ?_ r1 e1 q⟩
 have at_:∀J' H',Ext X.K J1 H1 J' H'→Rep X.K J' H'→jU J' x=some xs→∃vs,cW X.K H' a vs∧aJ X.K J' H' xs vs:=λJ' H' e r o=>by
  obtain ⟨c,vs,eb,g1,g2⟩:=oB o (e.rep rv) r
  cases eb
  exact ⟨vs,g1,g2⟩
 exact {
  go:=λJ' H' e r o i hi=>by
   obtain ⟨vs,s,rs⟩:=at_ J' H' e r o
   rw [k9] at hi
   exact ⟨vs,vs[i]'(by rw [← rs.length];exact hi),s,by simp⟩
  yl:=λJ' H' e r o i hi v H2 y=>by
   obtain ⟨vs,s,rs⟩:=at_ J' H' e r o
   obtain ⟨T,z,hT,rfl,rfl,y1⟩:=y
   obtain ⟨c,ec,rc⟩:=rs.get' (y1 vs s)
   have sm:=bB.new hT (.tup [.int (i:Nat),z])
   have e2:=Ext.same (K:=X.K) (J:=J') sm
   refine ⟨.tup [.int (i:Int),c],uE _ _ _ ec,⟨T,[.int (i:Nat),z],rfl,.inl (.inl aE),e2.jq ⟨.int (i:Nat),_,rfl,rfl,z,_,rfl,rc,rfl⟩⟩,r.same sm,e2⟩
  stop:=λJ' H' e r o=>by
   obtain ⟨vs,s,rs⟩:=at_ J' H' e r o
   exact ⟨vs,s,by rw [k9,← rs.length];exact TF _⟩ }⟩⟩
end
section
variable {X:Cx} {pins:List (Addr × Obj)} {σ:L2.St} {H:Hp} {s:Shared}
open Classical in
def eT (K:PySem.W.Frag) (H:Hp) (zs:List Py) (y:Py) (u:Value):Bool:=decide (∃z∈zs,∃v,RelV v u∧At K H z v∧k_ z y=true)
end
section
variable {X:Cx} {G:G2}
end
end Ov
namespace Ov
open PySem
structure aF where
 m:Rat
 h:Str
 f:Str
 deriving DecidableEq
def slt (a b:Str):Prop:=a.cps.toList < b.cps.toList
instance (a b:Str):Decidable (slt a b):=inferInstanceAs (Decidable (a.cps.toList < b.cps.toList))
def aF.lt (a b:aF):Bool:=if a.m=b.m then (if a.h=b.h then decide (slt a.f b.f) else decide (slt a.h b.h)) else decide (a.m < b.m)
theorem nS (a:Str):¬ slt a a:=List.lt_irrefl _
theorem oZ {a b c:Str} (h:slt a b) (k:slt b c):slt a c:=List.lt_trans h k
theorem FL:∀(a b:List Nat),a≠b→a < b∨b < a
 | [],[],h=>absurd rfl h
 | [],_ :: _,_=>.inl (V4 _ _)
 | _ :: _,[],_=>.inr (V4 _ _)
 | x :: a,y :: b,h=>by
  rcases V0 x y with z | z | z
  ·exact .inl (UT.mpr (.inl z))
  ·subst z
   rcases FL a b (λe=>h (by rw [e])) with q | q
   ·exact .inl (UT.mpr (.inr ⟨rfl,q⟩))
   ·exact .inr (UT.mpr (.inr ⟨rfl,q⟩))
  ·exact .inr (UT.mpr (.inl z))
theorem w_ {a b:Str} (h:a≠b):slt a b∨slt b a:=by
 have ne:a.cps.toList≠b.cps.toList:=λe=>h (by cases a;cases b;simp at e;rw [e])
 exact FL _ _ ne
theorem M9 {a b:Str} (h:slt a b):a≠b:=λe=>by subst e;exact nS _ h
theorem aF.lt_iff (a b:aF):a.lt b=true↔a.m < b.m∨(a.m=b.m∧(slt a.h b.h∨(a.h=b.h∧slt a.f b.f))):=by
 unfold aF.lt
 by_cases e:a.m=b.m
 ·rw [if_pos e]
  have n:¬ a.m < b.m:=by rw [e];exact Rat.lt_irrefl
  by_cases k:a.h=b.h
  ·rw [if_pos k]
   have n2:¬ slt a.h b.h:=λz=>M9 z k
   simp [e,k,n,n2]
   try (intro z;first | exact absurd z Rat.lt_irrefl | exact absurd z (nS _))
  ·rw [if_neg k]
   simp [e,k]
   try (intro z;exact absurd z Rat.lt_irrefl)
 ·rw [if_neg e]
  simp [e]
theorem aF.Me (a:aF):a.lt a=false:=by
 cases h:a.lt a with
 | false=>rfl
 | true =>
  rcases (aF.lt_iff a a).mp h with h | ⟨_,h | ⟨_,h⟩⟩
  ·exact absurd h Rat.lt_irrefl
  ·exact absurd h (nS _)
  ·exact absurd h (nS _)
theorem uT {a b c:Rat} (h:a < b) (k:b < c):a < c:=by grind
theorem aF.lt_trans {a b c:aF} (h:a.lt b=true) (k:b.lt c=true):a.lt c=true:=by
 rw [aF.lt_iff] at *
 rcases h with h | ⟨e,h⟩ <;> rcases k with k | ⟨e',k⟩
 ·exact .inl (uT h k)
 ·exact .inl (e' ▸ h)
 ·exact .inl (e ▸ k)
 ·refine .inr ⟨e.trans e',?_⟩
  rcases h with h | ⟨z,h⟩ <;> rcases k with k | ⟨z',k⟩
  ·exact .inl (oZ h k)
  ·exact .inl (z' ▸ h)
  ·exact .inl (z ▸ k)
  ·exact .inr ⟨z.trans z',oZ h k⟩
theorem aF.FG {a b:aF} (h:a≠b):a.lt b=true∨b.lt a=true:=by
 rw [aF.lt_iff,aF.lt_iff]
 by_cases e:a.m=b.m
 ·by_cases z:a.h=b.h
  ·have:a.f≠b.f:=λq=>h (by cases a;cases b;simp_all)
   rcases w_ this with q | q
   ·exact .inl (.inr ⟨e,.inr ⟨z,q⟩⟩)
   ·exact .inr (.inr ⟨e.symm,.inr ⟨z.symm,q⟩⟩)
  ·rcases w_ z with q | q
   ·exact .inl (.inr ⟨e,.inl q⟩)
   ·exact .inr (.inr ⟨e.symm,.inl q⟩)
 ·rcases (by grind:a.m < b.m∨b.m < a.m) with q | q
  ·exact .inl (.inl q)
  ·exact .inr (.inl q)
def iY (l:List aF):Prop:=l.Pairwise λa b=>a.lt b=true
def lJ (b:aF) (l:List aF):List aF:=l.filter (λx=>x.lt b) ++ b :: l.filter (λx=>!x.lt b)
def yX (h f:Str) (x:aF):Bool:=decide (x.h=h∧x.f=f)
def dJ (h f:Str) (l:List aF):List aF:=l.filter λx=>!yX h f x
theorem uB {h f:Str} {l:List aF} (s:iY l):iY (dJ h f l):=s.filter _
theorem yb {b:aF} {l:List aF} (s:iY l) (n:∀x∈l,x≠b):iY (lJ b l):=by
 unfold lJ iY
 rw [VS]
 refine ⟨s.filter _,?_,?_⟩
 ·rw [U9]
  refine ⟨λy hy=>?_,s.filter _⟩
  rw [TU] at hy
  rcases aF.FG (n y hy.1) with q | q
  ·simp [q] at hy
  ·exact q
 ·intro x hx y hy
  rw [TU] at hx
  rcases TX.mp hy with rfl | hy
  ·exact hx.2
  ·rw [TU] at hy
   rcases aF.FG (n y hy.1) with q | q
   ·simp [q] at hy
   ·exact aF.lt_trans hx.2 q
theorem HP {h f:Str} {l:List aF} {m:Rat}:∀x∈dJ h f l,x≠⟨m,h,f⟩:=λx hx e=>by
 subst e
 unfold dJ at hx
 rw [TU] at hx
 simp [yX] at hx
theorem uQ (p:aF→Bool):∀{l:List aF} {i:Nat},i≤l.length→(∀(j:Nat) x,j < i→l[j]?=some x→p x=true)→(∀(j:Nat) x,i≤j→l[j]?=some x→p x=false)→l.take i ++ l.drop i=l∧l.filter p=l.take i∧l.filter (λx=>!p x)=l.drop i
 | l,0,_,_,h=>by
  refine ⟨by simp,?_,?_⟩
  ·rw [Vv]
   apply VH.mpr
   intro x hx
   obtain ⟨j,hj⟩:=T5.mp hx
   rw [h j x (Ue _) hj];simp
  ·rw [Vf]
   apply UA.mpr
   intro x hx
   obtain ⟨j,hj⟩:=T5.mp hx
   rw [h j x (Ue _) hj];rfl
 | [],i + 1,hi,_,_=>by simp at hi
 | x :: l,i + 1,hi,h1,h2=>by
  obtain ⟨a,b,c⟩:=uQ p (l:=l) (i:=i) (by simpa using hi) (λj y hj e=>h1 (j + 1) y (by omega) (by simpa using e)) (λj y hj e=>h2 (j + 1) y (by omega) (by simpa using e))
  have hx:p x=true:=h1 0 x (by omega) rfl
  refine ⟨by simp,?_,?_⟩
  ·rw [Uh,hx];simp [b]
  ·rw [Uh,hx];simp [c]
theorem Ib {b:aF} {l:List aF} {i:Nat} (hi:i≤l.length) (h1:∀(j:Nat) x,j < i→l[j]?=some x→x.lt b=true) (h2:∀(j:Nat) x,i≤j→l[j]?=some x→x.lt b=false):l.take i ++ b :: l.drop i=lJ b l:=by
 obtain ⟨_,e1,e2⟩:=uQ (λx=>x.lt b) hi h1 h2
 unfold lJ
 rw [e1,e2]
theorem CJ {l:List aF} {b x y:aF} {i j:Nat} (s:iY l) (hx:l[i]?=some x) (hy:l[j]?=some y) (h:j≤i) (k:x.lt b=true):y.lt b=true:=by
 rcases U_ h with h | h
 ·obtain ⟨hi,ei⟩:=TC.mp hx
  obtain ⟨hj,ej⟩:=TC.mp hy
  have:=Um.mp s j i hj hi h
  rw [ei,ej] at this
  exact aF.lt_trans this k
 ·subst h;rw [hx] at hy;cases hy;exact k
theorem GV {l:List aF} {b x y:aF} {i j:Nat} (s:iY l) (hx:l[i]?=some x) (hy:l[j]?=some y) (h:i≤j) (k:x.lt b=false):y.lt b=false:=by
 cases q:y.lt b with
 | false=>rfl
 | true=>rw [CJ s hy hx h q] at k;cases k
theorem Fd {b x:aF} {l:List aF} (h:x∈lJ b l):x=b∨x∈l:=by
 unfold lJ at h
 rcases TQ.mp h with h | h
 ·exact .inr (TU.mp h).1
 ·rcases TX.mp h with h | h
  ·exact .inl h
  ·exact .inr (TU.mp h).1
theorem m3 (p:aF→Bool):∀l:List aF,(l.filter p).length + (l.filter λx=>!p x).length=l.length
 | []=>rfl
 | x :: l=>by
  have:=m3 p l
  cases h:p x <;> simp [h] <;> omega
theorem ya (b:aF) (l:List aF):(lJ b l).length=l.length + 1:=by
 unfold lJ
 rw [T7,T8]
 have:=m3 (λx=>x.lt b) l
 omega
theorem om (h f:Str) (l:List aF):(dJ h f l).length≤l.length:=Uu _ _
structure aP where
 m:Rat
 p:Rat
 v:Int
 deriving DecidableEq
def aP.at (l:aP) (t:Rat):Rat:=l.p + (t - l.m) * l.v
def turned (rows:List aP) (t:Rat) (v:Int):List aP :=
 match rows.getLast? with
 | none=>[]
 | some l =>
  let rest:=if l.m=t then rows.dropLast else rows
  if rest.getLast?.map aP.v=some v then rest else rest ++ [⟨t,l.at t,v⟩]
theorem bR (ls:List aP) (l:aP) (t:Rat) (v:Int):turned (ls ++ [l]) t v =
  if l.m=t then (if ls.getLast?.map aP.v=some v then ls else ls ++ [⟨t,l.at t,v⟩]) else (if l.v=v then ls ++ [l] else ls ++ [l] ++ [⟨t,l.at t,v⟩]):=by
 unfold turned
 simp only [T1,Vk]
 split
 ·rfl
 ·simp only [T1,VL,Option.some.injEq]
theorem lH {rows:List aP} {t:Rat} {v:Int} (h:rows≠[]):turned rows t v≠[]:=by
 obtain ⟨ls,l,rfl⟩:∃ls l,rows=ls ++ [l]:=⟨rows.dropLast,rows.getLast h,(T_ h).symm⟩
 rw [bR]
 split
 ·split
  ·rename_i e
   intro z;subst z;cases e
  ·simp
 ·split <;> simp
theorem Bg {rows:List aP} {t:Rat} {v:Int} {x:aP} (h:x∈turned rows t v):x∈rows∨∃l∈rows,x=⟨t,l.at t,v⟩:=by
 by_cases e:rows=[]
 ·subst e;cases h
 obtain ⟨ls,l,rfl⟩:∃ls l,rows=ls ++ [l]:=⟨rows.dropLast,rows.getLast e,(T_ e).symm⟩
 rw [bR] at h
 have key:∀{y:List aP},(∀z∈y,z∈ls ++ [l])→x∈y ++ [⟨t,l.at t,v⟩]→x∈ls ++ [l]∨∃l'∈ls ++ [l],x=⟨t,l'.at t,v⟩:=λhy hx=>by
  rcases TQ.mp hx with h | h
  ·exact .inl (hy _ h)
  ·exact .inr ⟨l,by simp,by simpa using h⟩
 split at h
 ·split at h
  ·exact .inl (TQ.mpr (.inl h))
  ·exact key (λz hz=>TQ.mpr (.inl hz)) h
 ·split at h
  ·exact .inl h
  ·exact key (λz hz=>hz) h
theorem jH (rows:List aP) (t:Rat) (v:Int):(turned rows t v).length≤rows.length + 1:=by
 by_cases e:rows=[]
 ·subst e;simp [turned]
 obtain ⟨ls,l,rfl⟩:∃ls l,rows=ls ++ [l]:=⟨rows.dropLast,rows.getLast e,(T_ e).symm⟩
 rw [bR]
 split <;> split <;> simp <;> omega
def yh (rows:List aP) (t:Rat):Option aP:=(rows.filter λl=>decide (l.m≤t)).getLast?
def lb (ms:List Rat) (t:Rat):Nat→Nat
 | 0=>0
 | k + 1=>if ms.getD k 0≤t then k + 1 else lb ms t k
theorem Kc (ms:List Rat) (t:Rat):∀k,lb ms t k≤k
 | 0=>TF _
 | k + 1=>by unfold lb;split;exact TF _;exact Nat.le_succ_of_le (Kc ms t k)
theorem Fw {ms:List Rat} {t:Rat} {j:Nat} (h:ms.getD j 0≤t):∀{k},j < k→0 < lb ms t k
 | 0,hk=>absurd hk (Vl _)
 | k + 1,hk=>by
  unfold lb
  split
  ·exact Nat.succ_pos _
  ·rename_i c
   exact Fw h (by rcases Nat.lt_succ_iff_lt_or_eq.mp hk with e | e;exact e;subst e;exact absurd h c)
theorem BZ (t:Rat) (rows:List aP):∀k,k≤rows.length→((rows.take k).filter λl=>decide (l.m≤t)).getLast?=if lb (rows.map aP.m) t k=0 then none else rows[lb (rows.map aP.m) t k - 1]?
 | 0,_=>rfl
 | k + 1,hk=>by
  have hk':k < rows.length:=by omega
  have e:rows.take (k + 1)=rows.take k ++ [rows[k]]:=by rw [Ub,Tz hk'];rfl
  have em:(rows.map aP.m).getD k 0=rows[k].m:=by simp [Wu,hk']
  rw [e,U5]
  unfold lb
  rw [em]
  by_cases c:rows[k].m≤t
  ·rw [if_pos c,Uh,if_pos (decide_eq_true c),VM,T1,if_neg (Nat.succ_ne_zero _),Nat.add_sub_cancel,Tz hk']
  ·rw [if_neg c,Uh,if_neg (by simp [c]),VM,Uq]
   exact BZ t rows k (by omega)
theorem FA (rows:List aP) (t:Rat):yh rows t=if lb (rows.map aP.m) t rows.length=0 then none else rows[lb (rows.map aP.m) t rows.length - 1]?:=by
 have:=BZ t rows rows.length (TF _)
 rw [Uc] at this
 exact this
def Qh (g:Option Rat) (t:Rat):Bool:=match g with | none=>true | some q=>decide (t < q)
def there (rows:List aP) (g:Option Rat) (t:Rat):Bool :=
 match rows.head? with
 | none=>false
 | some l=>!decide (t < l.m) && Qh g t
theorem G8 {rows:List aP} {g:Option Rat} {t:Rat} (h:there rows g t=true):∃l,yh rows t=some l∧l∈rows∧l.m≤t∧0 < lb (rows.map aP.m) t rows.length∧rows[lb (rows.map aP.m) t rows.length - 1]?=some l:=by
 cases rows with
 | nil=>cases h
 | cons l0 ls =>
  have h0:l0.m≤t:=by
   unfold there at h
   simp only [VO,Ud,VZ,decide_eq_false_iff_not] at h
   exact Rat.not_lt.mp h.1
  have hp:0 < lb ((l0 :: ls).map aP.m) t (l0 :: ls).length:=Fw (j:=0) (by simpa using h0) (by simp)
  have hle:=Kc ((l0 :: ls).map aP.m) t (l0 :: ls).length
  have hx:=FA (l0 :: ls) t
  rw [if_neg (by omega)] at hx
  obtain ⟨l,hl⟩:∃l,(l0 :: ls)[lb ((l0 :: ls).map aP.m) t (l0 :: ls).length - 1]?=some l:=⟨_,Tz (by omega)⟩
  rw [hl] at hx
  have hm:=List.mem_of_getLast? hx
  rw [TU] at hm
  exact ⟨l,hx,hm.1,of_decide_eq_true hm.2,hp,hl⟩
def Sc (D A:Nat) (q:Rat):Prop:=∃a:Int,q * (D:Rat)=(a:Rat)∧a.natAbs≤A
theorem Sc.mono {D A B:Nat} {q:Rat} (h:Sc D A q) (k:A≤B):Sc D B q:=let ⟨a,e,l⟩:=h;⟨a,e,T4 l k⟩
theorem OG {D:Nat} (h:0 < D):(D:Rat)≠0:=by
 intro e
 have:D=0:=by exact_mod_cast e
 omega
theorem Sc.sz {D A n:Nat} {q:Rat} (h:Sc D A q) (hD:0 < D) (h1:D < 2 ^ n) (h2:A < 2 ^ n):Sz n q:=by
 obtain ⟨a,e,l⟩:=h
 have nz:=OG hD
 have:q=Rat.divInt a (D:Int):=by
  rw [Rat.divInt_eq_div,← e]
  have:((D:Int):Rat)=(D:Rat):=rfl
  rw [this]
  generalize (D:Rat)=d at nz ⊢
  grind
 rw [this]
 exact Sz.div ⟨Uv l h2⟩ ⟨by simpa using h1⟩ (by omega)
theorem Sc.scale {D A E:Nat} {p:Rat} (h:Sc D A p):Sc (E * D) (E * A) p:=by
 obtain ⟨a,e,l⟩:=h
 refine ⟨E * a,?_,?_⟩
 ·rw [Rat.intCast_mul,← e]
  have h1:((E * D:Nat):Rat)=(E:Rat) * (D:Rat):=Rat.natCast_mul ..
  have h2:((E:Int):Rat)=(E:Rat):=rfl
  rw [h1,h2]
  grind
 ·rw [Int.natAbs_mul];exact Nat.mul_le_mul (by simp) l
theorem Sc.Mi {D A:Nat} {t:Int} {b:Nat} (hb:0 < b) (hd:b ∣ D) (hA:t.natAbs * (D / b)≤A):Sc D A (Rat.divInt t b):=by
 obtain ⟨c,rfl⟩:=hd
 rw [VC _ hb] at hA
 refine ⟨t * c,?_,by rw [Int.natAbs_mul];simpa using hA⟩
 have nb:=OG hb
 have e1:((b:Int):Rat)=(b:Rat):=rfl
 have e2:((c:Int):Rat)=(c:Rat):=rfl
 rw [Rat.divInt_eq_div,Rat.intCast_mul,e1,e2,Rat.natCast_mul]
 generalize (b:Rat)=b at nb ⊢
 grind
def g7:Nat:=9690712164777231700912800
theorem SO:∀b:Nat,1≤b→b≤60→b ∣ g7:=by
 intro b h1 h2
 have:∀b:Fin 61,1≤b.val→b.val ∣ g7:=by decide
 exact this ⟨b,by omega⟩ h1
theorem vL:0 < g7:=by decide
def MM:Nat:=2097152 * g7
structure Ta (D k:Nat) (l:aP):Prop where
 m:Sc g7 MM l.m
 p:Sc (D * g7) (g7 * 2 ^ 101 + k * (2000 * (D * MM))) l.p
 v:l.v.natAbs≤1000
theorem OF:MM < 2 ^ 106:=by decide
theorem FJ {q:Rat} (h:Sc g7 MM q):Sz 106 q:=h.sz vL (by decide) OF
structure Gd (D k:Nat) (rows:List aP):Prop where
 ne:rows≠[]
 ok:∀l∈rows,Ta D k l
 len:rows.length≤k + 1
def Later (c q:Rat):Prop:=q=c∨∃u s:Nat,1≤u∧u≤60∧1≤s∧s≤500 * u∧q=Rat.divInt ((c.num * u).fdiv c.den + s) u
theorem Later.sc {c q:Rat} {A:Nat} (h:Later c q) (k:Sc g7 A c):Sc g7 (A + 501 * g7) q:=by
 rcases h with rfl | ⟨u,s,h1,h2,h3,h4,rfl⟩
 ·exact k.mono (UQ _ _)
 obtain ⟨a,e,l⟩:=k
 obtain ⟨w,hw⟩:=SO u h1 h2
 refine Sc.Mi (by omega) ⟨w,hw⟩ ?_
 have ew:g7 / u=w:=by rw [hw,VC _ (by omega)]
 rw [ew]
 have hf:((c.num * u).fdiv c.den) * c.den≤c.num * u∧c.num * u < ((c.num * u).fdiv c.den + 1) * c.den:=by
  rw [Int.fdiv_eq_ediv_of_nonneg _ (by omega)]
  have:=me c
  constructor
  ·exact Int.ediv_mul_le _ (by omega)
  ·have:=Int.lt_ediv_add_one_mul_self (c.num * u) this;exact this
 have ea:c.num * (g7:Int)=a * c.den:=by
  have h1:=cast_eq c
  have h2:=gf c
  have h3:((g7:Nat):Rat)=(((g7:Nat):Int):Rat):=rfl
  have:((c.num * (g7:Int):Int):Rat)=((a * c.den:Int):Rat):=by
   rw [Rat.intCast_mul,Rat.intCast_mul,h1,← e,h3]
   grind
  exact_mod_cast this
 have hL:(g7:Int)=u * w:=by rw [hw];simp
 have hw0:0 < w:=by
  rcases Nat.eq_zero_or_pos w with z | z
  ·rw [z,Nat.mul_zero] at hw;exact absurd hw (by decide)
  ·exact z
 rw [hL] at ea
 have hd:=me c
 generalize hF:(c.num * u).fdiv c.den=F at hf ⊢
 generalize hN:c.num=N at *
 generalize hDD:(c.den:Int)=d at *
 have g1:F * w≤a:=by
  have:F * w * d≤a * d:=by
   rw [← ea]
   have:=Int.mul_le_mul_of_nonneg_right hf.1 (show (0:Int)≤w by omega)
   calc F * w * d=F * d * w:=by rw [Int.mul_right_comm]
    _≤N * u * w:=this
    _=N * (u * w):=Int.mul_assoc ..
  exact Int.le_of_mul_le_mul_right this hd
 have g2:a≤(F + 1) * w:=by
  have:a * d≤(F + 1) * w * d:=by
   rw [← ea]
   have:=Int.mul_le_mul_of_nonneg_right (Int.le_of_lt hf.2) (show (0:Int)≤w by omega)
   calc N * (u * w)=N * u * w:=(Int.mul_assoc ..).symm
    _≤(F + 1) * d * w:=this
    _=(F + 1) * w * d:=by rw [Int.mul_right_comm]
  exact Int.le_of_mul_le_mul_right this hd
 have hsw:s * w≤500 * (u * w):=by
  calc s * w≤500 * u * w:=Nat.mul_le_mul_right _ h4
   _=500 * (u * w):=Nat.mul_assoc ..
 have huw:w≤u * w:=Nat.le_mul_of_pos_left _ (by omega)
 rw [hw]
 have:(F + s).natAbs * w=((F + s) * w).natAbs:=by rw [Int.natAbs_mul];simp
 rw [this,Int.add_mul]
 rw [Int.add_mul,Int.one_mul] at g2
 have hsw':(s:Int) * w≤500 * ((u * w:Nat):Int):=by exact_mod_cast hsw
 generalize F * (w:Int)=x at *
 have hs0:(0:Int)≤(s:Int) * w:=Int.mul_nonneg (by omega) (by omega)
 generalize (s:Int) * w=y at *
 generalize u * w=z at *
 omega
theorem Later.le {c q:Rat} (h:Later c q):c≤q:=by
 rcases h with rfl | ⟨u,s,h1,h2,h3,h4,rfl⟩
 ·exact Rat.le_refl
 have hf:c.num * u < ((c.num * u).fdiv c.den + 1) * c.den:=by
  rw [Int.fdiv_eq_ediv_of_nonneg _ (by omega)]
  exact Int.lt_ediv_add_one_mul_self (c.num * u) (me c)
 generalize (c.num * u).fdiv c.den=F at hf ⊢
 have h5:c.num * u≤(F + s) * c.den:=by
  have:(F + 1) * c.den≤(F + s) * c.den:=Int.mul_le_mul_of_nonneg_right (by omega) (by omega)
  omega
 have hu:(0:Rat) < (u:Rat):=by exact_mod_cast (show 0 < u by omega)
 have hd:(0:Rat) < ((c.den:Int):Rat):=by exact_mod_cast me c
 refine Rat.not_lt.mp λhlt=>?_
 rw [Rat.divInt_eq_div] at hlt
 have e1:((u:Int):Rat)=(u:Rat):=rfl
 rw [e1,Rat.div_lt_iff hu] at hlt
 have h6:=Rat.mul_lt_mul_of_pos_right hlt hd
 have e2:c * (u:Rat) * ((c.den:Int):Rat)=((c.num * u:Int):Rat):=by
  rw [Rat.intCast_mul,cast_eq c,e1];grind
 rw [e2,← Rat.intCast_mul] at h6
 have h7:(F + s) * c.den < c.num * u:=by exact_mod_cast h6
 omega
section
variable {α:Type} {lt:α→α→Bool}
def pM (lt:α→α→Bool) (b:α) (l:List α):List α:=l.filter (λx=>lt x b) ++ b :: l.filter (λx=>!lt x b)
def pL (lt:α→α→Bool) (l:List α):Prop:=l.Pairwise λa b=>lt a b=true
theorem F_ (p:α→Bool):∀{l:List α} {i:Nat},i≤l.length→(∀(j:Nat) x,j < i→l[j]?=some x→p x=true)→(∀(j:Nat) x,i≤j→l[j]?=some x→p x=false)→l.filter p=l.take i∧l.filter (λx=>!p x)=l.drop i
 | l,0,_,_,h=>by
  refine ⟨?_,?_⟩
  ·rw [Vv]
   apply VH.mpr
   intro x hx
   obtain ⟨j,hj⟩:=T5.mp hx
   rw [h j x (Ue _) hj];simp
  ·rw [Vf]
   apply UA.mpr
   intro x hx
   obtain ⟨j,hj⟩:=T5.mp hx
   rw [h j x (Ue _) hj];rfl
 | [],i + 1,hi,_,_=>by simp at hi
 | x :: l,i + 1,hi,h1,h2=>by
  obtain ⟨b,c⟩:=F_ p (l:=l) (i:=i) (by simpa using hi) (λj y hj e=>h1 (j + 1) y (by omega) (by simpa using e)) (λj y hj e=>h2 (j + 1) y (by omega) (by simpa using e))
  have hx:p x=true:=h1 0 x (by omega) rfl
  refine ⟨?_,?_⟩
  ·rw [Uh,hx];simp [b]
  ·rw [Uh,hx];simp [c]
theorem BS {b:α} {l:List α} {i:Nat} (hi:i≤l.length) (h1:∀(j:Nat) x,j < i→l[j]?=some x→lt x b=true) (h2:∀(j:Nat) x,i≤j→l[j]?=some x→lt x b=false):l.take i ++ b :: l.drop i=pM lt b l:=by
 obtain ⟨e1,e2⟩:=F_ (λx=>lt x b) hi h1 h2
 unfold pM
 rw [e1,e2]
theorem yc {b x:α} {l:List α}:x∈pM lt b l↔x=b∨x∈l:=by
 unfold pM
 rw [TQ,TX,TU,TU]
 constructor
 ·rintro (h | h | h)
  ·exact .inr h.1
  ·exact .inl h
  ·exact .inr h.1
 ·rintro (h | h)
  ·exact .inr (.inl h)
  ·cases e:lt x b
   ·exact .inr (.inr ⟨h,by simp⟩)
   ·exact .inl ⟨h,rfl⟩
theorem Fe (b:α) (l:List α):(pM lt b l).length=l.length + 1:=by
 unfold pM
 rw [T7,T8]
 have:∀l:List α,(l.filter λx=>lt x b).length + (l.filter λx=>!lt x b).length=l.length:=by
  intro l
  induction l with
  | nil=>rfl
  | cons x l ih=>cases h:lt x b <;> simp [h] <;> omega
 have:=this l
 omega
theorem Ff (tr:∀{a b c},lt a b=true→lt b c=true→lt a c=true) {b:α} {l:List α} (s:pL lt l) (PY:∀x∈l,lt x b=true∨lt b x=true):pL lt (pM lt b l):=by
 unfold pM pL
 rw [VS]
 refine ⟨s.filter _,?_,?_⟩
 ·rw [U9]
  refine ⟨λy hy=>?_,s.filter _⟩
  rw [TU] at hy
  rcases PY y hy.1 with q | q
  ·simp [q] at hy
  ·exact q
 ·intro x hx y hy
  rw [TU] at hx
  rcases TX.mp hy with rfl | hy
  ·exact hx.2
  ·rw [TU] at hy
   rcases PY y hy.1 with q | q
   ·simp [q] at hy
   ·exact tr hx.2 q
theorem zl (tr:∀{a b c},lt a b=true→lt b c=true→lt a c=true) {l:List α} {b x y:α} {i j:Nat} (s:pL lt l) (hx:l[i]?=some x) (hy:l[j]?=some y) (h:j≤i) (k:lt x b=true):lt y b=true:=by
 rcases U_ h with h | h
 ·obtain ⟨hi,ei⟩:=TC.mp hx
  obtain ⟨hj,ej⟩:=TC.mp hy
  have:=Um.mp s j i hj hi h
  rw [ei,ej] at this
  exact tr this k
 ·subst h;rw [hx] at hy;cases hy;exact k
theorem D5 (tr:∀{a b c},lt a b=true→lt b c=true→lt a c=true) {l:List α} {b x y:α} {i j:Nat} (s:pL lt l) (hx:l[i]?=some x) (hy:l[j]?=some y) (h:i≤j) (k:lt x b=false):lt y b=false:=by
 cases q:lt y b with
 | false=>rfl
 | true=>have:=zl (lt:=lt) (b:=b) tr s hy hx h q;rw [this] at k;cases k
theorem nW (He:∀a,lt a a=false) (tr:∀{a b c},lt a b=true→lt b c=true→lt a c=true):∀{l k:List α},pL lt l→pL lt k→(∀x,x∈l↔x∈k)→l=k
 | [],[],_,_,_=>rfl
 | [],y :: k,_,_,h=>by have:=(h y).mpr Ui;cases this
 | x :: l,[],_,_,h=>by have:=(h x).mp Ui;cases this
 | x :: l,y :: k,hl,hk,h=>by
  obtain ⟨a1,a2⟩:=U9.mp hl
  obtain ⟨b1,b2⟩:=U9.mp hk
  have exy:x=y:=by
   rcases TX.mp ((h x).mp Ui) with e | e
   ·exact e
   ·rcases TX.mp ((h y).mpr Ui) with e' | e'
    ·exact e'.symm
    ·have:=tr (a1 y e') (b1 x e)
     rw [He] at this;cases this
  subst exy
  rw [nW He tr a2 b2 λz=>?_]
  constructor
  ·intro hz
   rcases TX.mp ((h z).mp (T9 _ hz)) with e | e
   ·have:=a1 z hz;rw [e,He] at this;cases this
   ·exact e
  ·intro hz
   rcases TX.mp ((h z).mpr (T9 _ hz)) with e | e
   ·have:=b1 z hz;rw [e,He] at this;cases this
   ·exact e
end
structure Ky where
 p:Rat
 v:Int
 n:Str
 deriving DecidableEq
def Ky.lt (a b:Ky):Bool:=if a.p=b.p then (if a.v=b.v then decide (slt a.n b.n) else decide (a.v < b.v)) else decide (a.p < b.p)
theorem Ky.lt_iff (a b:Ky):a.lt b=true↔a.p < b.p∨(a.p=b.p∧(a.v < b.v∨(a.v=b.v∧slt a.n b.n))):=by
 unfold Ky.lt
 by_cases e:a.p=b.p
 ·rw [if_pos e]
  have n:¬ a.p < b.p:=by rw [e];exact Rat.lt_irrefl
  by_cases k:a.v=b.v
  ·rw [if_pos k,decide_eq_true_eq]
   have n2:¬ a.v < b.v:=by omega
   exact ⟨λh=>.inr ⟨e,.inr ⟨k,h⟩⟩,λh=>by
    rcases h with h | ⟨_,h | h⟩
    ·exact absurd h n
    ·exact absurd h n2
    ·exact h.2⟩
  ·rw [if_neg k,decide_eq_true_eq]
   exact ⟨λh=>.inr ⟨e,.inl h⟩,λh=>by
    rcases h with h | ⟨_,h | h⟩
    ·exact absurd h n
    ·exact h
    ·exact absurd h.1 k⟩
 ·rw [if_neg e,decide_eq_true_eq]
  exact ⟨.inl,λh=>by
   rcases h with h | h
   ·exact h
   ·exact absurd h.1 e⟩
theorem Ky.He (a:Ky):a.lt a=false:=by
 cases h:a.lt a with
 | false=>rfl
 | true =>
  rcases (Ky.lt_iff a a).mp h with h | ⟨_,h | ⟨_,h⟩⟩
  ·exact absurd h Rat.lt_irrefl
  ·omega
  ·exact absurd h (nS _)
theorem Ky.tr {a b c:Ky} (h:a.lt b=true) (k:b.lt c=true):a.lt c=true:=by
 rw [Ky.lt_iff] at *
 rcases h with h | ⟨e,h⟩ <;> rcases k with k | ⟨e',k⟩
 ·exact .inl (uT h k)
 ·exact .inl (e' ▸ h)
 ·exact .inl (e ▸ k)
 ·refine .inr ⟨e.trans e',?_⟩
  rcases h with h | ⟨z,h⟩ <;> rcases k with k | ⟨z',k⟩
  ·exact .inl (by omega)
  ·exact .inl (by omega)
  ·exact .inl (by omega)
  ·exact .inr ⟨z.trans z',oZ h k⟩
theorem Ky.PY {a b:Ky} (h:a.n≠b.n):a.lt b=true∨b.lt a=true:=by
 rw [Ky.lt_iff,Ky.lt_iff]
 by_cases e:a.p=b.p
 ·by_cases z:a.v=b.v
  ·rcases w_ h with q | q
   ·exact .inl (.inr ⟨e,.inr ⟨z,q⟩⟩)
   ·exact .inr (.inr ⟨e.symm,.inr ⟨z.symm,q⟩⟩)
  ·rcases (by omega:a.v < b.v∨b.v < a.v) with q | q
   ·exact .inl (.inr ⟨e,.inl q⟩)
   ·exact .inr (.inr ⟨e.symm,.inl q⟩)
 ·rcases (by grind:a.p < b.p∨b.p < a.p) with q | q
  ·exact .inl (.inl q)
  ·exact .inr (.inl q)
theorem Ky.NS {a b:Ky} (h:a.lt b=true):b.lt a=false:=by
 cases k:b.lt a with
 | false=>rfl
 | true=>have:=Ky.tr h k;rw [Ky.He] at this;cases this
def cE (ks:List Ky):List Ky:=ks.foldl (λacc x=>pM Ky.lt x acc) []
theorem iM (ks:List Ky) (x:Ky):cE (ks ++ [x])=pM Ky.lt x (cE ks):=by unfold cE;rw [Vy];rfl
theorem snoc_ind {α:Type} {p:List α→Prop} (h0:p []) (h1:∀l x,p l→p (l ++ [x])) (l:List α):p l:=by
 have:∀l:List α,p l.reverse:=by
  intro l
  induction l with
  | nil=>exact h0
  | cons x l ih=>rw [UU];exact h1 _ _ ih
 have:=this l.reverse
 rwa [List.reverse_reverse] at this
theorem eX {α:Type} {l:List α} {x:α} (h:(l ++ [x]).Nodup):l.Nodup∧x ∉ l:=by
 rw [Uz] at h
 exact ⟨h.1,λhm=>h.2.2 x hm x (by simp) rfl⟩
theorem bE:∀(ks:List Ky) (x:Ky),x∈cE ks↔x∈ks:=by
 intro ks
 refine snoc_ind (p:=λks=>∀x:Ky,x∈cE ks↔x∈ks) (λx=>by simp [cE]) (λks y ih x=>?_) ks
 rw [iM,yc,ih,TQ,TR]
 exact Or.comm
theorem dh {ks:List Ky} (h:(ks.map Ky.n).Nodup):pL Ky.lt (cE ks):=by
 revert h
 refine snoc_ind (p:=λks=>(ks.map Ky.n).Nodup→pL Ky.lt (cE ks)) (λ_=>List.Pairwise.nil) (λks y ih h=>?_) ks
 ·rw [TM,TL,Ux] at h
  obtain ⟨h1,h2⟩:=eX h
  rw [iM]
  refine Ff (lt:=Ky.lt) Ky.tr (ih h1) λx hx=>Ky.PY λe=>h2 ?_
  rw [← e]
  exact Vn ((bE ks x).mp hx)
theorem ko (ks:List Ky):(cE ks).length=ks.length:=by
 refine snoc_ind (p:=λks=>(cE ks).length=ks.length) rfl (λks y ih=>?_) ks
 rw [iM,Fe,ih,T7];rfl
theorem F7 {ks js:List Ky} (h:(ks.map Ky.n).Nodup) (k:(js.map Ky.n).Nodup) (e:∀x,x∈ks↔x∈js):cE ks=cE js :=
 nW (lt:=Ky.lt) Ky.He Ky.tr (dh h) (dh k) λx=>by rw [bE,bE];exact e x
def key (t:Rat) (x:Str × aP):Ky:=⟨x.2.at t,x.2.v,x.1⟩
def cY (t:Rat) (fs:List (Str × aP)):List Str:=(cE (fs.map (key t))).map Ky.n
theorem d9 (t:Rat) (fs:List (Str × aP)):(fs.map (key t)).map Ky.n=fs.map (·.1):=by rw [TK];rfl
theorem yJ {t:Rat} {fs:List (Str × aP)} {n:Str}:n∈cY t fs↔n∈fs.map (·.1):=by
 rw [← d9 t fs]
 unfold cY
 rw [TB,TB]
 exact ⟨λ⟨x,h,e⟩=>⟨x,(bE _ _).mp h,e⟩,λ⟨x,h,e⟩=>⟨x,(bE _ _).mpr h,e⟩⟩
theorem yI (t:Rat) (fs:List (Str × aP)):(cY t fs).length=fs.length:=by unfold cY;rw [Tx,ko,Tx]
theorem o6 {l:List Ky} (s:pL Ky.lt l) (h:∀x∈l,∀y∈l,x.n=y.n→x=y):(l.map Ky.n).Nodup:=by
 refine List.pairwise_map.mpr (s.imp_of_mem λ{a b} ha hb hab e=>?_)
 have:=h a ha b hb e
 subst this
 rw [Ky.He] at hab;cases hab
theorem ki {ks:List Ky} (h:(ks.map Ky.n).Nodup):∀x∈ks,∀y∈ks,x.n=y.n→x=y:=by
 intro x hx y hy e
 obtain ⟨i,hi,rfl⟩:=Uj hx
 obtain ⟨j,hj,rfl⟩:=Uj hy
 have:=(UO (xs:=ks.map Ky.n) (i:=i) (j:=j) (h₀:=by simpa using hi) (h₁:=by simpa using hj) h).mp (by rw [Uw,Uw];exact e)
 subst this;rfl
theorem rq {t:Rat} {fs:List (Str × aP)} (h:(fs.map (·.1)).Nodup):(cY t fs).Nodup:=by
 rw [← d9 t fs] at h
 exact o6 (dh h) λx hx y hy e=>ki h x ((bE _ _).mp hx) y ((bE _ _).mp hy) e
theorem yG {t:Rat} {fs gs:List (Str × aP)} (h:(fs.map (·.1)).Nodup) (k:(gs.map (·.1)).Nodup) (e:∀x,x∈fs.map (key t)↔x∈gs.map (key t)):cY t fs=cY t gs:=by
 unfold cY
 rw [F7 (by rw [d9];exact h) (by rw [d9];exact k) e]
theorem iu {α β:Type} {fs:List (Str × α)} {f:α→β} (h:(fs.map (·.1)).Nodup) {n:Str} {l:α} (hm:(n,l)∈fs):L2.mI (fs.map λx=>(x.1,f x.2)) n=some (f l):=by
 induction fs with
 | nil=>cases hm
 | cons x fs ih =>
  rw [TL,UM] at h
  rw [TL,L2.n9]
  rcases TX.mp hm with e | e
  ·subst e;rw [if_pos rfl]
  ·have ne:x.1≠n:=λz=>h.1 (by rw [z];exact Vn (f:=λx:Str × α=>x.1) e)
   rw [if_neg ne];exact ih h.2 e
theorem xB {α β:Type} {fs:List (Str × α)} {f:α→β} (h:(fs.map (·.1)).Nodup) {n:Str} (hm:n∈fs.map (·.1)):∃l,(n,l)∈fs∧L2.mI (fs.map λx=>(x.1,f x.2)) n=some (f l):=by
 obtain ⟨⟨m,l⟩,hx,rfl⟩:=TB.mp hm
 exact ⟨l,hx,iu h hx⟩
theorem JP {α β:Type} {fs:List (Str × α)} {f:α→β} {n:Str} (hm:n ∉ fs.map (·.1)):L2.mI (fs.map λx=>(x.1,f x.2)) n=none:=by
 induction fs with
 | nil=>rfl
 | cons x fs ih =>
  rw [TL,L2.n9]
  rw [TL,TX,not_or] at hm
  rw [if_neg (λe=>hm.1 e.symm)];exact ih hm.2
theorem Eb {α β:Type} {fs:List (Str × α)} {f:α→β} {n:Str} (h:(fs.map (·.1)).Nodup):(L2.mI (fs.map λx=>(x.1,f x.2)) n).isSome=decide (n∈fs.map (·.1)):=by
 by_cases hm:n∈fs.map (·.1)
 ·obtain ⟨l,_,e⟩:=xB (f:=f) h hm
  rw [e,decide_eq_true hm];rfl
 ·rw [JP hm,decide_eq_false hm];rfl
theorem AM {α β:Type} {fs:List (Str × α)} {f:α→β} {n:Str} {l:α} (hm:n ∉ fs.map (·.1)):L2.sJ (fs.map λx=>(x.1,f x.2)) n (f l)=(fs ++ [(n,l)]).map λx=>(x.1,f x.2):=by
 unfold L2.sJ
 rw [if_neg,TM]
 ·rfl
 ·intro h
  rw [VF] at h
  obtain ⟨y,hy,e⟩:=h
  obtain ⟨x,hx,rfl⟩:=TB.mp hy
  exact hm (by rw [← of_decide_eq_true e];exact Vn (f:=λx:Str × α=>x.1) hx)
def PP:Nat:=1000000 * g7 + 1000 * MM
structure sM (l:aP):Prop where
 m0:0≤l.m
 m:Sc g7 MM l.m
 p:∃a:Int,l.p * (g7:Rat)=(a:Rat)
 b0:-(1000000 + 1000 * l.m)≤l.p
 b1:l.p≤1000000 + 1000 * l.m
 v:l.v.natAbs≤1000
theorem Og:(0:Rat) < (g7:Rat):=by
 have:((0:Nat):Rat) < ((g7:Nat):Rat):=Rat.natCast_lt_natCast.mpr vL
 simpa using this
theorem sM.sc {l:aP} (h:sM l):Sc g7 PP l.p:=by
 obtain ⟨a,ha⟩:=h.p
 obtain ⟨k,hk,hk1⟩:=h.m
 have hL:=Og
 have b0:=h.b0
 have b1:=h.b1
 have e1:(a:Rat)≤(((1000000 * g7 + 1000 * k:Int)):Rat):=by
  rw [← ha,Rat.intCast_add,Rat.intCast_mul,Rat.intCast_mul,← hk]
  have:l.p * (g7:Rat)≤(1000000 + 1000 * l.m) * (g7:Rat):=Rat.mul_le_mul_of_nonneg_right b1 (Rat.le_of_lt hL)
  have e:(((g7:Nat):Int):Rat)=(g7:Rat):=rfl
  rw [e]
  grind
 have e2:(((-(1000000 * g7 + 1000 * k):Int)):Rat)≤(a:Rat):=by
  rw [← ha,Rat.intCast_neg,Rat.intCast_add,Rat.intCast_mul,Rat.intCast_mul,← hk]
  have:-(1000000 + 1000 * l.m) * (g7:Rat)≤l.p * (g7:Rat):=Rat.mul_le_mul_of_nonneg_right b0 (Rat.le_of_lt hL)
  have e:(((g7:Nat):Int):Rat)=(g7:Rat):=rfl
  rw [e]
  grind
 have e1:=Rat.intCast_le_intCast.mp e1
 have e2:=Rat.intCast_le_intCast.mp e2
 refine ⟨a,ha,?_⟩
 unfold PP
 have:(k:Int)≤MM:=by omega
 have:-(MM:Int)≤k:=by omega
 omega
theorem O1:PP < 2 ^ 120:=by decide
theorem sM.SW {l:aP} (h:sM l):Sz 120 l.p:=h.sc.sz vL (by decide) O1
theorem sM.SR {l:aP} (h:sM l):Sz 120 l.m:=(FJ h.m).mono (by decide)
theorem sM.at {l:aP} {t:Rat} {v:Int} (h:sM l) (h0:l.m≤t) (ht:Sc g7 MM t) (hv:v.natAbs≤1000):sM ⟨t,l.at t,v⟩:=by
 have hm:=h.m0
 have t0:0≤t:=Rat.le_trans hm h0
 have d0:0≤t - l.m:=by grind
 have v1:(l.v:Rat)≤1000:=by
  have:((l.v:Int):Rat)≤((1000:Int):Rat):=Rat.intCast_le_intCast.mpr (by have:=h.v;omega)
  exact this
 have v2:-1000≤(l.v:Rat):=by
  have:((-1000:Int):Rat)≤((l.v:Int):Rat):=Rat.intCast_le_intCast.mpr (by have:=h.v;omega)
  exact this
 have m1:(t - l.m) * (l.v:Rat)≤(t - l.m) * 1000:=Rat.mul_le_mul_of_nonneg_left v1 d0
 have m2:(t - l.m) * (-1000)≤(t - l.m) * (l.v:Rat):=Rat.mul_le_mul_of_nonneg_left v2 d0
 have b0:=h.b0
 have b1:=h.b1
 refine ⟨t0,ht,?_,?_,?_,hv⟩
 ·obtain ⟨a,ha⟩:=h.p
  obtain ⟨k,hk,_⟩:=h.m
  obtain ⟨j,hj,_⟩:=ht
  refine ⟨a + (j - k) * l.v,?_⟩
  unfold aP.at
  dsimp only
  rw [Rat.intCast_add,Rat.intCast_mul,Rat.intCast_sub,← ha,← hk,← hj]
  grind
 ·show -(1000000 + 1000 * t)≤l.p + (t - l.m) * (l.v:Rat)
  grind
 ·show l.p + (t - l.m) * (l.v:Rat)≤1000000 + 1000 * t
  grind
theorem sM.new {t:Rat} {p v:Int} (t0:0≤t) (ht:Sc g7 MM t) (hp:p.natAbs≤1000000) (hv:v.natAbs≤1000):sM ⟨t,(p:Rat),v⟩:=by
 have p1:(p:Rat)≤1000000:=by
  have:((p:Int):Rat)≤((1000000:Int):Rat):=Rat.intCast_le_intCast.mpr (by omega)
  exact this
 have p2:-1000000≤(p:Rat):=by
  have:((-1000000:Int):Rat)≤((p:Int):Rat):=Rat.intCast_le_intCast.mpr (by omega)
  exact this
 refine ⟨t0,ht,⟨p * g7,by rw [Rat.intCast_mul];rfl⟩,?_,?_,hv⟩
 ·show -(1000000 + 1000 * t)≤(p:Rat)
  grind
 ·show (p:Rat)≤1000000 + 1000 * t
  grind
def De (b:aF) (l:List aF):List aF:=if b∈l then l else lJ b l
theorem uJ {b x:aF} {l:List aF}:x∈lJ b l↔x=b∨x∈l:=yc (lt:=aF.lt)
theorem EE {b x:aF} {l:List aF}:x∈De b l↔x=b∨x∈l:=by
 unfold De
 split
 ·rename_i h
  exact ⟨.inr,λz=>by rcases z with rfl | z;exact h;exact z⟩
 ·exact uJ
theorem EF {b:aF} {l:List aF} (s:iY l):iY (De b l):=by
 unfold De
 split
 ·exact s
 ·rename_i h
  exact yb s λx hx e=>h (e ▸ hx)
def t_ (bs:List aF):List aF:=bs.foldl (λacc b=>De b acc) []
theorem uP (bs:List aF) (b:aF):t_ (bs ++ [b])=De b (t_ bs):=by unfold t_;rw [Vy];rfl
theorem yD (bs:List aF) (x:aF):x∈t_ bs↔x∈bs:=by
 refine snoc_ind (p:=λbs=>∀x:aF,x∈t_ bs↔x∈bs) (λx=>by simp [t_]) (λbs y ih x=>?_) bs x
 rw [uP,EE,ih,TQ,TR]
 exact Or.comm
theorem yE (bs:List aF):iY (t_ bs):=by
 refine snoc_ind (p:=λbs=>iY (t_ bs)) List.Pairwise.nil (λbs y ih=>?_) bs
 rw [uP];exact EF ih
theorem zm {l k:List aF} (h:iY l) (h':iY k) (e:∀x,x∈l↔x∈k):l=k:=nW (lt:=aF.lt) aF.Me aF.lt_trans h h' e
def gi (t:Rat) (a b:Ky):Rat:=t + (b.p - a.p) / ((a.v - b.v:Int):Rat)
def jK (t:Rat) (a b:Ky):aF:=⟨gi t a b,a.n,b.n⟩
def pj (t:Rat) (ks:List Ky) (m:Rat):List aF:=t_ (((ks.flatMap λa=>ks.map λb=>(a,b)).filter λp=>decide (p.2.v < p.1.v∧p.1.p < p.2.p∧gi t p.1 p.2≤m)).map λp=>jK t p.1 p.2)
theorem DS {t m:Rat} {ks:List Ky} {x:aF}:x∈pj t ks m↔∃a∈ks,∃b∈ks,b.v < a.v∧a.p < b.p∧gi t a b≤m∧x=jK t a b:=by
 unfold pj
 rw [yD,TB]
 constructor
 ·rintro ⟨⟨a,b⟩,h,rfl⟩
  rw [TU,V5] at h
  obtain ⟨⟨c,hc,h1⟩,h2⟩:=h
  obtain ⟨d,hd,e⟩:=TB.mp h1
  cases e
  have h2:=of_decide_eq_true h2
  exact ⟨_,hc,_,hd,h2.1,h2.2.1,h2.2.2,rfl⟩
 ·rintro ⟨a,ha,b,hb,h1,h2,h3,rfl⟩
  exact ⟨(a,b),TU.mpr ⟨V5.mpr ⟨a,ha,TB.mpr ⟨b,hb,rfl⟩⟩,decide_eq_true ⟨h1,h2,h3⟩⟩,rfl⟩
theorem DT (t m:Rat) (ks:List Ky):iY (pj t ks m):=yE _
def i4 (t:Rat) (ks:List Ky):List aF:=t_ ((((cE ks).zip (cE ks).tail).filter λp=>decide (p.2.v < p.1.v)).map λp=>jK t p.1 p.2)
theorem dB {α:Type} {l:List α} {a b:α}:(a,b)∈l.zip l.tail↔∃i:Nat,l[i]?=some a∧l[i + 1]?=some b:=by
 constructor
 ·intro h
  obtain ⟨i,hi⟩:=T5.mp h
  obtain ⟨h1,h2⟩:=UI.mp hi
  exact ⟨i,h1,by rw [Vr] at h2;exact h2⟩
 ·rintro ⟨i,h1,h2⟩
  exact T5.mpr ⟨i,UI.mpr ⟨h1,by rw [Vr];exact h2⟩⟩
theorem zU {t:Rat} {ks:List Ky} {x:aF}:x∈i4 t ks↔∃(i:Nat) (a b:Ky),(cE ks)[i]?=some a∧(cE ks)[i + 1]?=some b∧b.v < a.v∧x=jK t a b:=by
 unfold i4
 rw [yD,TB]
 constructor
 ·rintro ⟨⟨a,b⟩,h,rfl⟩
  rw [TU] at h
  obtain ⟨i,h1,h2⟩:=dB.mp h.1
  exact ⟨i,a,b,h1,h2,of_decide_eq_true h.2,rfl⟩
 ·rintro ⟨i,a,b,h1,h2,h3,rfl⟩
  exact ⟨(a,b),TU.mpr ⟨dB.mpr ⟨i,h1,h2⟩,decide_eq_true h3⟩,rfl⟩
theorem zV (t:Rat) (ks:List Ky):iY (i4 t ks):=yE _
def nh (l l':aP):Rat:=(l'.at 0 - l.at 0) / ((l.v - l'.v:Int):Rat)
theorem GX {a b:Int} (h:a≠b):((a - b:Int):Rat)≠0:=by
 intro e
 have:(a - b:Int)=0:=by exact_mod_cast (show ((a - b:Int):Rat)=((0:Int):Rat) from e)
 omega
theorem p8 {t:Rat} {n n':Str} {l l':aP} (h:l.v≠l'.v):nh l l'=gi t (key t (n,l)) (key t (n',l')):=by
 have k:=GX h
 unfold nh gi key aP.at
 dsimp only
 rw [Rat.intCast_sub] at *
 grind
theorem Gz {a b:Rat} (ha:0 < a) (hb:0 < b):0 < a / b:=by
 have e:a / b * b=a:=by grind
 rcases Rat.le_total (a:=a / b) (b:=0) with h | h
 ·have:=Rat.mul_le_mul_of_nonneg_right h (Rat.le_of_lt hb)
  rw [e,Rat.zero_mul] at this
  exact absurd ha (Rat.not_lt.mpr this)
 ·rcases (by grind:a / b=0∨0 < a / b) with h | h
  ·rw [h,Rat.zero_mul] at e;rw [← e] at ha;exact absurd ha Rat.lt_irrefl
  ·exact h
def Io (t:Rat) (l l':aP):Option Rat:=if l.v≠l'.v∧t < nh l l' then some (nh l l') else none
theorem Ip {t:Rat} {n n':Str} {l l':aP} (h:(key t (n,l)).lt (key t (n',l'))=true):(l.v≠l'.v∧t < nh l l')↔(l'.v < l.v∧l.at t < l'.at t):=by
 rw [Ky.lt_iff] at h
 unfold key at h
 dsimp only at h
 constructor
 ·rintro ⟨h1,h2⟩
  rw [p8 (t:=t) (n:=n) (n':=n') h1] at h2
  unfold gi key at h2
  dsimp only at h2
  have k:=GX h1
  have h3:0 < (l'.at t - l.at t) / ((l.v - l'.v:Int):Rat):=by grind
  have hp:l.at t≠l'.at t:=by
   intro e
   rw [e] at h3
   have:(l'.at t - l'.at t) / ((l.v - l'.v:Int):Rat)=0:=by grind
   rw [this] at h3
   exact absurd h3 Rat.lt_irrefl
  have hlt:l.at t < l'.at t:=by
   rcases h with h | ⟨h,_⟩
   ·exact h
   ·exact absurd h hp
  refine ⟨?_,hlt⟩
  rcases (by omega:l'.v < l.v∨l.v < l'.v) with q | q
  ·exact q
  ·exfalso
   have hn:((l.v - l'.v:Int):Rat) < 0:=by
    have:((l.v - l'.v:Int):Rat) < ((0:Int):Rat):=Rat.intCast_lt_intCast.mpr (by omega)
    exact this
   have hd:0 < l'.at t - l.at t:=by grind
   have e:(l'.at t - l.at t) / ((l.v - l'.v:Int):Rat) * ((l.v - l'.v:Int):Rat)=l'.at t - l.at t:=by grind
   generalize (l'.at t - l.at t) / ((l.v - l'.v:Int):Rat)=z at h3 e
   have:z * ((l.v - l'.v:Int):Rat) < 0:=by
    have:=Rat.mul_lt_mul_of_pos_left hn h3
    rwa [Rat.mul_zero] at this
   grind
 ·rintro ⟨h1,h2⟩
  have hne:l.v≠l'.v:=by omega
  refine ⟨hne,?_⟩
  rw [p8 (t:=t) (n:=n) (n':=n') hne]
  unfold gi key
  dsimp only
  have hpos:0 < ((l.v - l'.v:Int):Rat):=by
   have:((0:Int):Rat) < ((l.v - l'.v:Int):Rat):=Rat.intCast_lt_intCast.mpr (by omega)
   exact this
  have hd:0 < l'.at t - l.at t:=by grind
  have:0 < (l'.at t - l.at t) / ((l.v - l'.v:Int):Rat):=Gz hd hpos
  grind
end Ov
namespace Ov
def lL (t:Rat) (c:Ky × Ky→Bool) (rows:List aF) (p:Ky × Ky):List aF:=if c p=true then lJ (jK t p.1 p.2) (dJ p.1.n p.2.n rows) else rows
def cJ (t:Rat) (c:Ky × Ky→Bool) (ps:List (Ky × Ky)):List aF:=ps.foldl (lL t c) []
theorem eV (t:Rat) (c:Ky × Ky→Bool) (ps:List (Ky × Ky)) (p:Ky × Ky):cJ t c (ps ++ [p])=lL t c (cJ t c ps) p:=by unfold cJ;rw [Vy];rfl
theorem lh (t:Rat) (c:Ky × Ky→Bool) (ps:List (Ky × Ky)):iY (cJ t c ps):=by
 refine snoc_ind (p:=λps=>iY (cJ t c ps)) List.Pairwise.nil (λl x ih=>?_) ps
 rw [eV]
 unfold lL
 split
 ·exact yb (uB ih) HP
 ·exact ih
theorem uG (t:Rat) (c:Ky × Ky→Bool) (ps:List (Ky × Ky)):(cJ t c ps).length≤ps.length:=by
 refine snoc_ind (p:=λps=>(cJ t c ps).length≤ps.length) (TF _) (λl x ih=>?_) ps
 rw [eV,T7]
 unfold lL
 split
 ·rw [ya]
  have:=om x.1.n x.2.n (cJ t c l)
  simp only [T8,U8];omega
 ·omega
theorem ot {t:Rat} {c:Ky × Ky→Bool} {x:aF} (ps:List (Ky × Ky)):x∈cJ t c ps→∃p∈ps,c p=true∧x=jK t p.1 p.2:=by
 refine snoc_ind (p:=λps=>x∈cJ t c ps→∃p∈ps,c p=true∧x=jK t p.1 p.2) (λh=>by cases h) (λl y ih h=>?_) ps
 rw [eV] at h
 unfold lL at h
 split at h
 ·rename_i hc
  rcases Fd h with e | h
  ·exact ⟨y,by simp,hc,e⟩
  ·obtain ⟨p,hp,k⟩:=ih (TU.mp h).1
   exact ⟨p,TQ.mpr (.inl hp),k⟩
 ·obtain ⟨p,hp,k⟩:=ih h
  exact ⟨p,TQ.mpr (.inl hp),k⟩
def C_ (ps:List (Ky × Ky)):Prop:=∀p∈ps,∀q∈ps,p.1.n=q.1.n→p.2.n=q.2.n→p=q
theorem uH {t:Rat} {c:Ky × Ky→Bool} {x:aF} (ps:List (Ky × Ky)):C_ ps→(x∈cJ t c ps↔∃p∈ps,c p=true∧x=jK t p.1 p.2):=by
 refine snoc_ind (p:=λps=>C_ ps→(x∈cJ t c ps↔∃p∈ps,c p=true∧x=jK t p.1 p.2)) (λ_=>Iff.intro (λh=>nomatch h) (λh=>by obtain ⟨_,h,_⟩:=h;cases h)) (λl y ih inj=>?_) ps
 have ih:=ih λp hp q hq=>inj p (TQ.mpr (.inl hp)) q (TQ.mpr (.inl hq))
 refine ⟨ot _,?_⟩
 rintro ⟨p,hp,hc,rfl⟩
 rw [eV]
 unfold lL
 have hold:p∈l→jK t p.1 p.2∈cJ t c l:=λh=>ih.mpr ⟨p,h,hc,rfl⟩
 split
 ·rename_i hy
  rw [uJ]
  by_cases e:p=y
  ·left;rw [e]
  ·right
   have hl:p∈l:=by
    rcases TQ.mp hp with h | h
    ·exact h
    ·exact absurd (by simpa using h) e
   refine TU.mpr ⟨hold hl,?_⟩
   unfold yX
   have:¬ ((jK t p.1 p.2).h=y.1.n∧(jK t p.1 p.2).f=y.2.n):=λz=>e (inj p hp y (by simp) z.1 z.2)
   rw [decide_eq_false this];rfl
 ·rename_i hy
  rcases TQ.mp hp with h | h
  ·exact hold h
  ·have:p=y:=by simpa using h
   subst this;exact absurd hc hy
theorem C_.of {ks:List Ky} (h:(ks.map Ky.n).Nodup) {ps:List (Ky × Ky)} (hp:∀p∈ps,p.1∈ks∧p.2∈ks):C_ ps:=λp h1 q h2 e1 e2=>by
 have a:=ki h p.1 (hp p h1).1 q.1 (hp q h2).1 e1
 have b:=ki h p.2 (hp p h1).2 q.2 (hp q h2).2 e2
 cases p;cases q;simp only at a b;rw [a,b]
def zy (ks:List Ky):Nat→List (Ky × Ky)
 | 0=>[]
 | i + 1=>zy ks i ++ (match ks[i]? with | some a=>(ks.drop (i + 1)).map λb=>(a,b) | none=>[])
theorem n8 {ks:List Ky} {p:Ky × Ky}:∀{i:Nat},p∈zy ks i↔∃i' j,i' < i∧i' < j∧ks[i']?=some p.1∧ks[j]?=some p.2
 | 0=>⟨λh=>(by cases h),λ⟨_,_,h,_⟩=>by omega⟩
 | i + 1=>by
  unfold zy
  rw [TQ,n8 (i:=i)]
  constructor
  ·rintro (⟨i',j,h1,h⟩ | h)
   ·exact ⟨i',j,by omega,h⟩
   ·cases e:ks[i]? with
    | none=>rw [e] at h;cases h
    | some a =>
     rw [e] at h
     obtain ⟨b,hb,rfl⟩:=TB.mp h
     obtain ⟨j,hj⟩:=T5.mp hb
     rw [Vs] at hj
     exact ⟨i,_,by omega,by omega,e,hj⟩
  ·rintro ⟨i',j,h1,h2,h3,h4⟩
   by_cases e:i' < i
   ·exact .inl ⟨i',j,e,h2,h3,h4⟩
   ·have:i'=i:=by omega
    subst this
    right
    rw [h3]
    refine TB.mpr ⟨p.2,T5.mpr ⟨j - (i' + 1),?_⟩,rfl⟩
    rw [Vs,show i' + 1 + (j - (i' + 1))=j by omega];exact h4
def f' (t m:Rat) (p:Ky × Ky):Bool:=decide (p.2.v < p.1.v∧p.1.p < p.2.p∧gi t p.1 p.2≤m)
def gQ (p:Ky × Ky):Bool:=decide (p.2.v < p.1.v)
theorem JO {t m:Rat} {ks:List Ky} (h:(ks.map Ky.n).Nodup):cJ t (f' t m) (zy (cE ks) (cE ks).length)=pj t ks m:=by
 have hs:=dh h
 have hn:((cE ks).map Ky.n).Nodup:=o6 hs (λx hx y hy e=>ki h x ((bE _ _).mp hx) y ((bE _ _).mp hy) e)
 refine zm (lh _ _ _) (DT _ _ _) λx=>?_
 rw [uH _ (C_.of hn λp hp=>by
  obtain ⟨i,j,_,_,h3,h4⟩:=n8.mp hp
  exact ⟨TH h3,TH h4⟩),DS]
 constructor
 ·rintro ⟨p,hp,hc,rfl⟩
  obtain ⟨i,j,_,_,h3,h4⟩:=n8.mp hp
  have hc:=of_decide_eq_true hc
  exact ⟨p.1,(bE _ _).mp (TH h3),p.2,(bE _ _).mp (TH h4),hc.1,hc.2.1,hc.2.2,rfl⟩
 ·rintro ⟨a,ha,b,hb,h1,h2,h3,rfl⟩
  obtain ⟨i,hi⟩:=T5.mp ((bE _ _).mpr ha)
  obtain ⟨j,hj⟩:=T5.mp ((bE _ _).mpr hb)
  have hab:a.lt b=true:=(Ky.lt_iff a b).mpr (.inl h2)
  have hij:i < j:=by
   obtain ⟨hil,ei⟩:=TC.mp hi
   obtain ⟨hjl,ej⟩:=TC.mp hj
   rcases V0 i j with z | z | z
   ·exact z
   ·subst z;rw [ei] at ej;subst ej;rw [Ky.He] at hab;cases hab
   ·have:=Um.mp hs j i hjl hil z
    rw [ei,ej] at this
    rw [Ky.NS this] at hab;cases hab
  exact ⟨(a,b),n8.mpr ⟨i,j,(TC.mp hi).1,hij,hi,hj⟩,decide_eq_true ⟨h1,h2,h3⟩,rfl⟩
theorem zu {t:Rat} {ks:List Ky} (h:(ks.map Ky.n).Nodup):cJ t gQ ((cE ks).zip (cE ks).tail)=i4 t ks:=by
 have hs:=dh h
 have hn:((cE ks).map Ky.n).Nodup:=o6 hs (λx hx y hy e=>ki h x ((bE _ _).mp hx) y ((bE _ _).mp hy) e)
 refine zm (lh _ _ _) (zV _ _) λx=>?_
 rw [uH _ (C_.of hn λp hp=>by
  obtain ⟨i,h3,h4⟩:=dB.mp (show (p.1,p.2)∈_ from hp)
  exact ⟨TH h3,TH h4⟩),zU]
 constructor
 ·rintro ⟨p,hp,hc,rfl⟩
  obtain ⟨i,h3,h4⟩:=dB.mp (show (p.1,p.2)∈_ from hp)
  exact ⟨i,p.1,p.2,h3,h4,of_decide_eq_true hc,rfl⟩
 ·rintro ⟨i,a,b,h1,h2,h3,rfl⟩
  exact ⟨(a,b),dB.mpr ⟨i,h1,h2⟩,decide_eq_true h3,rfl⟩
end Ov
namespace L2
open PySem PySem.Spec PyProof.Rows
theorem zW {X:Cx}:bY X (.type "dict") (λxs H Q=>∃a kvs ep,xs=[.ref a]∧H a=some (.dE kvs ep)∧∀p,H p=none→∀ep',Q (.ref p) (upd H p (.dE kvs ep'))):=by
 intro pins s σ H xs us Q I r h
 obtain ⟨a,kvs,ep,rfl,hp,q⟩:=h
 obtain ⟨u,rfl,rx⟩:=vals1 r
 cases rx
 obtain ⟨hz,hd,vs,rel,da⟩:=j0 I hp
 refine kt_call_dict hd da.dictOf (by rw [← rel.len];exact hz) λh' hm hs=>?_
 obtain ⟨ep',da'⟩:=hm.dictAt
 exact ⟨.ref s.heap.objs.size,_,I.laid (a:=s.heap.objs.size) (o:=.dE kvs ep') (t':=s.toks) (λb o e=>hs.extBut b o (T6 (Heap.lt_size e)) (Heap.get?_push_of_some _ e)) (TF _)
  ⟨hz,beq_eq_false_iff_ne.mpr (Ne.symm (T6 I.Lr)),vs,rel,da'⟩,rfl,q _ (I.hok.fresh (TF _)) ep'⟩
end L2
namespace Ov
open PySem PySem.Spec PyProof.Rows
open L2 (V HO Hp Inv Cx VK XK TE TT TA TS TG pY TI TO jX Ends xD Loc Gl Rd RelV Vals fm xO bY pW tI pX jW R2 upd aE aO cW gK Sp sF It bB c5 bK Passes pG aD Meth Mk Binds aL bZ aw de f9 eO mI sJ Eg pK)
def Gn:zQ:=λxs J Q=>B2 xs λx=>B3 x λa=>F1 (J a) λkvs _=>∀p,J p=none→∀ep',Q (.ref p) (put J p (.dct kvs ep'))
theorem EN {X:Cx}:JR X (.type "dict") Gn:=⟨_,L2.zW,λJ H xs vs Q2 Q rs r h k=>by
 obtain ⟨x,ex,h⟩:=je h;obtain ⟨a,ea,h⟩:=gm h;obtain ⟨kvs,ep,ja,q⟩:=mn h;subst ea
 subst ex;obtain ⟨v,us,rfl,rv,e⟩:=rs;cases e;cases rv
 obtain ⟨gs,h1,h2⟩:=r _ _ ja
 refine ⟨a,gs,ep,rfl,h1,λp hp ep'=>?_⟩
 have e:=Ext.laid (K:=X.K) (J:=J) (o:=.dE gs ep') (u:=.dct kvs ep') hp
 refine k (.ref p) _ (.ref p) _ rfl (r.Bk e p (λa ne=>ak ne) (λa o ne _ z=>by rw [aO ne];exact z) λu z=>?_) e (q p (r.free hp) ep')
 rw [aq] at z;cases z
 exact ⟨gs,aE,e.wG h2⟩⟩
end Ov
namespace L2
open PySem PySem.Spec PyProof.Rows
section
variable {X:Cx} {e st:Expr} {te:TE} {ts:TO} {pos p2:Pos}
def PL (K:PySem.W.Frag) (te:TE) (ts:TO):TE:=λσ H Q=>te σ H λx H1=>ts σ H1 λo H2=>o=some (-1)∧∃a xs,x=.ref a∧cW K H2 a xs∧∀p,H2 p=none→Q (.ref p) (upd H2 p (.lst xs.reverse))
theorem IS (he:PE X e te) (hs:PO X (some st) ts):PE X (.Subscript e (.Slice none none (some st) p2) pos) (PL X.K te ts):=by
 intro pins s σ H Q I h
 refine Subscript_ (cq (he pins s σ H _ I h) λv s1 ⟨x,H1,I1,r1,q1⟩=>?_)
 refine wpAny_Slice ?_
 rw [evalPart_none]
 refine wpAny_pure ?_
 refine wpAny_pure ?_
 refine cq (hs pins s1 σ H1 _ I1 q1) λvs s2 ⟨o,H2,I2,ps,q2⟩=>?_
 obtain ⟨rfl,a,xs,rfl,hx,q⟩:=q2
 have I4:Inv X pins σ H2 { s2 with heap:=s2.heap.push { cls:=.type "slice",data:=.fields #[.none,.none,vs] } }:=I2.kept (t':=s2.toks) λb ob q=>Heap.get?_push_of_some _ q
 cases r1
 obtain ⟨its,r,ht,hz⟩:=I4.list hx
 have hlen:=r.length
 show wpAny (model X.prog X.w) X.A (subscriptTail e (.Slice none none (some st) p2) (.ref a) (.ref s2.heap.objs.size)) (EP X pins σ Q) X.xe { s2 with heap:=s2.heap.push { cls:=.type "slice",data:=.fields #[.none,.none,vs] } }
 refine tail_any (ops:=[.ref a,.ref s2.heap.objs.size]) ht.isList.typeIs slot_list_getitem.lookup ?_ (by with_unfolding_all rfl)
 refine wpAny_getItem_list_slice ht.isList (Heap.IsSliceOf.new ..) .none .none ps (by decide) ?_ (by rw [TJ] <;> omega)
 rw [PySem.W.krv_pick]
 refine ⟨.ref _,_,I4.laid (o:=.lst xs.reverse) (λb ob q=>Heap.get?_push_of_some _ q) (TF _) ?_,rfl,q _ (I4.hok.fresh (TF _))⟩
 exact ⟨by rw [List.length_reverse];exact hz,_,0,Vals.reverse r,Heap.get?_push_size _ rfl⟩
end
end L2
namespace Ov
open PySem PySem.Spec PyProof.Rows L2
section
variable {X:Cx} {G:G2} {e st:PySem.Expr} {te:c4} {ts:JU} {pos p2:Pos}
def KI (te:c4) (ts:JU):c4:=λτ J Q=>te τ J λx J1=>ts τ J1 λo J2=>o=some (-1)∧uO (jU J2 x) λxs=>Q (.fl xs.reverse) J2
theorem Jm (he:RE X G e te) (hs:RO X G (some st) ts):RE X G (.Subscript e (.Slice none none (some st) p2) pos) (KI te ts):=⟨lp (L2.IS he.run hs.run) λσ H Q ⟨τ,J,Q2,a2,h,k⟩=>⟨τ,J,_,a2,h,λx J' v H' rx rr ee q1=>⟨τ,J',_,a2.go rr ee,q1,λo J2 H2 r2 e2 ⟨eo,q2⟩=>by
 obtain ⟨xs,ex,q⟩:=dZ q2
 obtain ⟨a,vs,rfl,h1,h2⟩:=p7 (e2.rep rx) r2 ex
 refine ⟨eo,a,vs,rfl,h1,λp hp=>?_⟩
 obtain ⟨x1,x2,x3⟩:=vR r2 (aJ.rev h2) hp
 exact k _ _ _ _ x1 x2 ((ee.trans e2).trans x3) q⟩⟩⟩
end
end Ov
set_option maxHeartbeats 4000000
namespace Ov
open PySem PySem.Spec PyProof.Rows L2
def top (i:Nat):Stmt:=PySem.Challenge.pw_overhaul_k49_about_is_each_turned.main.body.getD i (.Pass ⟨0,0,0,0⟩)
set_option compiler.extract_closed false
set_option hygiene false
local macro_rules | `(tactic| dsimp! [$ls,*])=>`(tactic| simp only [JI,CO,Ba,qR,JH,CT,JC,CU,G6,Qt,D8,tC,rI,Hf,rU,S1,S5,Jx,Jw,Jy,Int.reduceLT,JG,zo,Bc,K3,sy,JJ,G3,JE,CP,CL,JF,G0,PU,tB,Qq,CN,Qp,Cj,HX,BL,HU,BQ,BR,JY,Ph,Pk,KL,Pl,Tt,dC,fM,jY,EJ,HO.lst.injEq,HO.tup.injEq,List.set_cons_zero,List.set_cons_succ,List.getElem?_cons_zero,List.getElem?_cons_succ,Option.some.injEq,exists_eq_left',exists_eq_left,exists_and_left,exists_eq,exists_eq',V.int.injEq,V.bl.injEq,V.ref.injEq,V.str.injEq,V.ty.injEq,decide_eq_true_eq,true_and,and_true,List.cons.injEq,List.append_nil,List.cons_append,List.nil_append,reduceCtorEq,Bool.not_eq_true',decide_eq_false_iff_not,and_assoc,ite_not,if_true,if_false,Bool.false_eq_true,decide_true,decide_false,L2.start,List.map_cons,List.map_nil,List.length_cons,List.length_nil,Nat.reduceAdd,Nat.reduceSub,List.replicate,vD,Cx.Mh,Cx.sE,false_and,and_false,exists_false,false_or,or_false,id,dT,Option.getD_some,Pj,Qs,CS,qp,Pu,Nb,HW,KR,$ls,*])
local macro_rules | `(tactic| simp_arith [$t:term])=>`(tactic| refine Rw F $t (fun xs J Q E h=>?_) (fun cdv A outer s H E G xs J Q E2 hr h B=>?_))
local macro_rules | `(tactic| simp_arith [$t:term,$r:term])=>`(tactic| refine Tr F $t (fun xs J Q E h=>?_) (fun cdv A outer s H E G E2 hr B=>$r) (fun xs J Q E2 h X hX=>?_))
local macro_rules | `(tactic| simp_arith [$t:term,$r:term,$u:term])=>`(tactic| refine Rv F $t (fun xs J Q E h=>?_) (fun cdv A outer s H E G E2 hr B=>$r) (fun xs J Q E2 h X hX=>?_))
local macro_rules | `(tactic| simp_arith! [$ls,*])=>`(tactic| simp only [Jg,RY,QY,O_,Pc,jm,rC,xE,RZ,rB,Pw,Jf,RU,Pn,KH,Po,KO,S3,ub,kL,Px,Pm,S2,Cm,KP,S6,Pe,RM,Pd,yR,Pf,Jj,Ji,rL,Ck,Pr,KQ,AQ,HV,SG,SF,SH,ua,Pp,KJ,kK,yS,SK,Th,SM,Tg,RN,RP,Gp,qI,qU,O8,SY,Gq,KA,Pb,Pa,RL,O2,MQ,O5,MO,Gm,RK,wB,O9,MN,Cg,O3,Rc,Rb,Oe,Ro,yn,Oj,Oi,Kd,Sa,P7,R',Sb,Sd,R_,P9,P1,K4,P0,P4,PZ,P2,Q_,Ra,N',Q4,Q6,Q8,Q9,Q5,Q7,R6,R8,R7,Kz,Lu,Lw,N1,Lv,N2,Cb,wy,MK,Jc,wx,eq_int,eq_str,N5,BG,LN,LP,P8,L8,qX,LJ,xr,Nu,Nv,Nr,Nt,Nat.reduceAdd,Nat.reduceSub,Nat.reduceLeDiff,Sl,Sm,Nn,Np,List.append_nil,Sf,Sg,Sn,So,Option.some.injEq,exists_eq_left',exists_eq_left,exists_and_left,exists_eq,exists_eq',PV.int.injEq,PV.bl.injEq,PV.ref.injEq,PV.str.injEq,PV.ty.injEq,PV.tup.injEq,PV.fl.injEq,HQ.lst.injEq,HQ.ins.injEq,HQ.dct.injEq,decide_eq_true_eq,true_and,and_true,List.cons.injEq,reduceCtorEq,Bool.not_eq_true',decide_eq_false_iff_not,and_assoc,ite_not,if_true,if_false,Bool.false_eq_true,decide_true,decide_false,false_and,and_false,exists_false,false_or,or_false,id,dC,fM,jY,EJ,NT,NU,NV,NW,NX,NY,Lo,Lp,Tv,Si,Sh,Sk,aq,Bool.and_true,Sq,Bool.and_false,Se,Kf,Ol,Om,Oo,Oq,Ot,Ou,Ow,Ox,Oy,L9,L_,Ma,P_,Nh,JM,Ni,Nj,JN,String.reduceEq,Qb,Qc,pV,Sj,List.not_mem_nil,exists_const,OR,OJ,OM,OK,OS,OQ,OT,OI,ON,OL,Km,OO,Mp,OP,OU,O6,Je,O7,Gr,KD,KG,KN,SI,MP,Ci,wC,SJ,$ls,*])
local macro_rules | `(tactic| simp_all! [$ls,*])=>`(tactic| repeat (first | (with_reducible refine hNq _ _ ?_;clear hNq Nq) | with_reducible refine M5 fun Nq hNq=>?_ | simp_arith! [$ls,*]))
section
variable {P:Program} {w:World} {K:PySem.W.Frag} {mg:Str→Option Value} {base:Heap}
abbrev rV:Stmt:=(top 12)
abbrev iQ:List Str:=["one","two"]
theorem oX:L2.aw ["one","two"] ["one","two"] (L2.aj rV):=dN
def sk:Sp:=λvs H Q _=>∃a b:Int,vs=[.int a,.int b]∧Q (.int (Int.gcd a b:Nat)) H
theorem DH {f:Addr} {fd:FuncData} (F:bZ K "shared" "shared" rV f fd) (Z:Ed mg):aL P w K mg base qw 1 f fd iQ sk:=by
 refine F.ok oX (λvs H Q E h=>?_) (λcdv A outer s H vs Q E hr h=>?_)
 ·obtain ⟨a,b,rfl,_⟩:=h
  rfl
 obtain ⟨a,b,rfl,q⟩:=h
 refine ⟨_,(QB.run (aW (oK (i:=0) (j:=1) rfl oX.nd rfl rfl (by decide) rfl rfl (aT (dP mW rfl Z.abs boot_abs (aT (pv 0) bH)) (aT (dP mW rfl Z.abs boot_abs (aT (pv 1) bH)) bH)) rfl)
   (aW (kI PassesOwn.never (du Ks (pv 1) aM (eY _)) (bI (oK (i:=0) (j:=1) rfl oX.nd rfl rfl (by decide) rfl rfl (aT (pv 1) (aT (bj gr (pv 0) (pv 1)) bH)) rfl)))
   (bI (dH (pv 0)))))),?_⟩
 refine ⟨_,rfl,a,rfl,_,rfl,b,rfl,_,_,rfl,?_⟩
 refine zt (λσ H'=>∃x y:Int,σ=[some (.int x),some (.int y)]∧H=H'∧0≤x∧0≤y∧Int.gcd x y=Int.gcd a b) (λσ _=>match σ with | [_,some (.int y)]=>y.toNat | _=>0)
  ⟨_,_,rfl,rfl,by split <;> omega,by split <;> omega,HY a b⟩ ?_ (λσ H Q Q' m h=>?_)
 ·rintro σ H' ⟨x,y,rfl,rfl,hx,hy,hg⟩
  dsimp! [rJoin]
  split
  ·rename_i hy0
   subst hy0
   rw [← hg,BM hx] at q
   exact q
  ·rename_i hy0
   have h1:=Int.emod_lt_of_pos x (show 0 < y by omega)
   have h2:=Int.emod_nonneg x hy0
   exact ⟨by omega,hy,h2,(x9 hy0).trans hg,by omega⟩
 ·obtain ⟨v,e,hs,k,ek,hq⟩:=h
  exact ⟨v,e,hs,k,ek,m _ _ hq⟩
def Dig:List Int→List Int→Prop
 | [],[]=>True
 | d :: ds,s :: ss=>(0≤d∧d < s)∧Dig ds ss
 | _,_=>False
theorem Dig.snoc:∀{ds ss:List Int} {d s:Int},Dig ds ss→0≤d→d < s→Dig (ds ++ [d]) (ss ++ [s])
 | [],[],_,_,_,h0,h1=>⟨⟨h0,h1⟩,trivial⟩
 | _ :: _,_ :: _,_,_,h,h0,h1=>⟨h.1,Dig.snoc h.2 h0 h1⟩
 | [],_ :: _,_,_,h,_,_=>h.elim
 | _ :: _,[],_,_,h,_,_=>h.elim
theorem Dig.cons:∀{ds ss:List Int} {s:Int},Dig ds (s :: ss)→∃d r,ds=d :: r∧0≤d∧d < s∧Dig r ss
 | [],_,_,h=>h.elim
 | d :: r,_,_,h=>⟨d,r,rfl,h.1.1,h.1.2,h.2⟩
theorem Dig.nil:∀{ds:List Int},Dig ds []→ds=[]
 | [],_=>rfl
 | _ :: _,h=>h.elim
theorem Dig.len:∀{ds ss:List Int},Dig ds ss→ds.length=ss.length
 | [],[],_=>rfl
 | _ :: _,_ :: _,h=>congrArg Nat.succ (Dig.len h.2)
 | [],_ :: _,h=>h.elim
 | _ :: _,[],h=>h.elim
theorem take_snoc {xs:List Int} {i:Nat} {x:Int} (h:xs[i]?=some x):xs.take (i + 1)=xs.take i ++ [x]:=by
 rw [Ub,h]
 rfl
theorem qV {ns:List Int} {i:Nat} {y:V} (h:(ns.map V.int)[i]?=some y):∃z,y=V.int z∧ns[i]?=some z:=by
 rw [TN] at h
 cases e:ns[i]? with
 | none=>rw [e] at h;cases h
 | some z=>rw [e] at h;exact ⟨z,(Option.some.inj h).symm,rfl⟩
abbrev AV:Stmt:=(top 44)
abbrev nu:List Str:=["_law_script","_law_k"]
theorem Jr:L2.aw ["_law_script","_law_k"] ["_law_script","_law_k"] (L2.aj AV):=dN
def qM:Int→List Int→List Int
 | _,[]=>[]
 | r,s :: ss=>r % s :: qM (r.fdiv s) ss
def j1:Int→Int→List Int→List Int
 | _,_,[]=>[]
 | one,k,s :: ss=>(((one * 48271 + 10007 * (k + 1)) % 2147483629 * ((one * 48271 + 10007 * (k + 1)) % 2147483629) + 69621 * ((one * 48271 + 10007 * (k + 1)) % 2147483629) + k) % 2147483563).fdiv 11 % s :: j1 ((one * 48271 + 10007 * (k + 1)) % 2147483629) (k + 1) ss
def x4 (c:Int) (ss:List Int):List Int:=if 1000000000000000000≤c then qM (c - 1000000000000000000) ss else j1 (c % 2147483647) 0 ss
abbrev rS:Stmt:=(top 45)
abbrev cj:List Str:=["_law_cell_here","_law_sizes"]
theorem dz:L2.aw ["_law_cell_here","_law_sizes","_law_out","_law_rest","_law_size","_law_one","_law_k","_law_two"] ["_law_cell_here","_law_sizes"] (L2.aj rS):=dN
def r_ (K:PySem.W.Frag):Sp:=λvs H Q _=>∃(c:Int) (a:Addr) (ss:List Int),vs=[.int c,.ref a]∧cW K H a (ss.map V.int)∧(∀s∈ss,0 < s∧Bd 9000 s)∧ss.length≤1000 ∧
 ∀(r:Addr) (H':Hp) (ds:List Int),H r=none→bB H H'→H' r=some (.lst (ds.map V.int))→Dig ds ss→ds=x4 c ss→Q (.ref r) H'
theorem DG {f:Addr} {fd:FuncData} (F:bZ K "_law_digits" "_law_digits" rS f fd) (Z:Ed mg):aL P w K mg base qw 1 f fd cj (r_ K):=by
 refine F.ok dz (λvs H Q E h=>?_) (λcdv A outer s H vs Q E hr h=>?_)
 ·obtain ⟨c,a,ss,rfl,_⟩:=h
  rfl
 obtain ⟨c,a,ss,rfl,hS,hs,hl,q⟩:=h
 refine ⟨_,(QB.run (aW (cU (i:=2) dz.nd rfl (Or.inl rfl) (kr bH))
   (aW (nB (du Kp (pv 0) (bj F5 aM aM) (eY _)) (aW (cU (i:=3) dz.nd rfl (Or.inl rfl) (bj Ay (pv 0) (bj F5 aM aM)))
   (aW (oJ PassesOwn.never rfl (ni (pv 1)) (lq (i:=4) dz.nd rfl (Or.inl rfl)) (aW (lz (rE PySem.F.plainAttrs_list PySem.F.slot_list_append PySem.F.type_list_append iJ (pv 2) (aT (bj gr (pv 3) (pv 4)) bH)))
   (bI (cU (i:=3) dz.nd rfl (Or.inl rfl) (bj gq (pv 3) (pv 4))))))
   (bI (dH (pv 2))))) fU)
   (aW (cU (i:=5) dz.nd rfl (Or.inl rfl) (bj gr (pv 0) aM))
   (aW (oJ PassesOwn.never rfl (fY rfl Z.range (aT (dP i5 rfl Z.len boot_len (aT (pv 1) bH)) bH)) (lq (i:=6) dz.nd rfl (Or.inl rfl)) (aW (cU (i:=5) dz.nd rfl (Or.inl rfl) (bj gr (bj jf (bj cM (pv 5) aM) (bj cM aM (bj jf (pv 6) aM))) aM))
   (aW (cU (i:=7) dz.nd rfl (Or.inl rfl) (bj gr (bj jf (bj jf (bj cM (pv 5) (pv 5)) (bj cM aM (pv 5))) (pv 6)) aM))
   (bI (lz (rE PySem.F.plainAttrs_list PySem.F.slot_list_append PySem.F.type_list_append iJ (pv 2) (aT (bj gr (bj gq (pv 7) aM) (cg vI (pv 1) (pv 6) (λ_ _=>rfl))) bH)))))))
   (bI (dH (pv 2)))))))),?_⟩
 refine ⟨Ue _,λr hr'=>?_⟩
 have g0:=bB.new hr' (.lst [])
 refine ⟨_,rfl,_,_,rfl,rfl,⟨by decide,by decide,by decide⟩,_,_,rfl,rfl,_,rfl,?_⟩
 have Rz:(10:Int) ^ (18:Int).toNat=1000000000000000000:=by decide +kernel
 refine Fn (λcc=>?_) (λcc=>?_)
 ·have cc:(10:Int) ^ (18:Int).toNat≤c:=of_decide_eq_true cc
  have eE:x4 c ss=qM (c - 10 ^ (18:Int).toNat) ss:=by rw [Rz] at cc ⊢;unfold x4;rw [if_pos cc]
  refine ⟨_,rfl,_,_,rfl,rfl,⟨by decide,by decide,by decide⟩,_,_,rfl,rfl,?_⟩
  refine ⟨_,rfl,a,rfl,⟨_,g0.seq hS⟩,E3 (K:=K) (a:=a) (xs:=ss.map V.int) (λi σ H2=>∃(ds:List Int) (rest:Int) (u:Option V),σ=[some (.int c),some (.ref a),some (.ref r),some (.int rest),u,none,none,none] ∧
   bB H H2∧H2 r=some (.lst (ds.map V.int))∧Dig ds (ss.take i)∧ds ++ qM rest (ss.drop i)=qM (c - 10 ^ (18:Int).toNat) ss) ⟨[],_,none,rfl,g0,aE,trivial,rfl⟩ (λi σ H2 _ ⟨_,_,_,_,s2,_⟩=>s2.seq hS) ?_ ?_⟩
  ·rintro i y σ H2 hi ⟨ds,rest,u,rfl,s2,hd,hD,hx⟩
   obtain ⟨z,rfl,hz⟩:=qV hi
   obtain ⟨z0,zb⟩:=hs z (TH hz)
   have hil:i < ss.length:=(TC.mp hz).1
   have dl:=hD.len
   rw [T'] at dl
   refine ⟨_,rfl,.inl ⟨rfl,_,cW.of hd⟩,_,rfl,_,rfl,_,_,rfl,rfl,z0,r,_,_,rfl,rfl,hd,?_,?_⟩
   ·rw [Tx]
    exact a_ (by omega)
   refine ⟨_,rfl,_,rfl,_,_,rfl,rfl,⟨by omega,zb⟩,?_⟩
   refine ⟨ds ++ [rest % z],_,_,rfl,s2.NH hr' _,?_,?_,?_⟩
   ·rw [aE,TM]
    rfl
   ·rw [take_snoc hz]
    exact hD.snoc (Int.emod_nonneg _ (by omega)) (Int.emod_lt_of_pos _ z0)
   ·have e:ss.drop i=z :: ss.drop (i + 1):=by
     rw [Ut hil]
     exact congrArg (· :: _) (Option.some.inj ((Tz hil).symm.trans hz))
    rw [e] at hx
    rw [← hx,Vd]
    rfl
  ·rintro σ H2 ⟨ds,rest,u,rfl,s2,hd,hD,hx⟩
   rw [Tx,Uc] at hD
   rw [Tx,VG] at hx
   refine ⟨_,rfl,q r H2 ds hr' s2 hd hD ?_⟩
   rw [eE,← hx]
   exact (Uq _).symm
 ·have cc:¬ (10:Int) ^ (18:Int).toNat≤c:=λz=>cc (decide_eq_true z)
  have eE:x4 c ss=j1 (c % 2147483647) 0 ss:=by rw [Rz] at cc;unfold x4;rw [if_neg cc]
  refine ⟨_,rfl,_,_,rfl,rfl,(show (0:Int) < 2147483647 by decide),?_⟩
  refine ⟨_,rfl,a,_,rfl,.inl (g0.seq hS),_,rfl,?_,?_,uI (lo:=0) (n:=(ss.map V.int).length) (λi σ H2=>∃(ds:List Int) (one:Int) (u v:Option V),σ=[some (.int c),some (.ref a),some (.ref r),none,none,some (.int one),u,v] ∧
   0≤one∧one < 2147483647∧bB H H2∧H2 r=some (.lst (ds.map V.int))∧Dig ds (ss.take i)∧ds ++ j1 one (i:Int) (ss.drop i)=j1 (c % 2147483647) 0 ss) ⟨[],_,none,none,rfl,Int.emod_nonneg _ (by decide),Int.emod_lt_of_pos _ (by decide),g0,aE,trivial,rfl⟩ ?_ ?_⟩
  ·omega
  ·rw [Tx];omega
  ·rintro i σ H2 hi ⟨ds,one,u,v,rfl,o0,o1,s2,hd,hD,hx⟩
   rw [Tx] at hi
   have hz:ss[i]?=some ss[i]:=Tz hi
   obtain ⟨z0,zb⟩:=hs ss[i] (Uk hi)
   have dl:=hD.len
   rw [T'] at dl
   have e1:de (ss.map V.int) (0 + (i:Int))=some (.int ss[i]):=by
    rw [Int.zero_add]
    exact bq (by rw [TN,hz];rfl)
   have hx2:ds ++ j1 one (0 + (i:Int)) (ss[i] :: ss.drop (i + 1))=j1 (c % 2147483647) 0 ss:=by
    rw [Int.zero_add,← Ut hi];exact hx
   rw [j1] at hx2
   dsimp! [rJoin]
   have A0:0≤(one * 48271 + 10007 * (0 + (i:Int) + 1)) % 2147483629:=Int.emod_nonneg _ (by decide)
   have A1:(one * 48271 + 10007 * (0 + (i:Int) + 1)) % 2147483629 < 2147483629:=Int.emod_lt_of_pos _ (by decide)
   generalize (one * 48271 + 10007 * (0 + (i:Int) + 1)) % 2147483629=A at A0 A1 hx2 ⊢
   generalize ((A * A + 69621 * A + (0 + (i:Int))) % 2147483563).fdiv 11=B at hx2 ⊢
   have small:∀x:Int,0≤x→x < 2147483648→Bd 64 x:=λx h1 h2=>Bd.small (by omega) (by omega)
   refine ⟨.of (small _ o0 (by omega)) (small _ (by decide) (by decide)),.of (small _ (by decide) (by decide)) (small _ (by omega) (by omega)),.of (small _ A0 (by omega)) (small _ A0 (by omega)),
    .of (small _ (by decide) (by decide)) (small _ A0 (by omega)),.inl ⟨rfl,_,cW.of hd⟩,⟨by decide,(small _ (by decide) (by decide)).mono (by decide)⟩,_,s2.seq hS,_,e1,_,rfl,z0,_,hd,?_,A0,by omega,s2.NH hr' _,ds ++ [B % ss[i]],?_,?_,?_⟩
   ·rw [Tx]
    exact a_ (by omega)
   ·rw [aE,TM]
    rfl
   ·rw [take_snoc hz]
    exact hD.snoc (Int.emod_nonneg _ (by omega)) (Int.emod_lt_of_pos _ z0)
   ·rw [← hx2,Vd,Int.zero_add]
    rfl
  ·rintro σ H2 ⟨ds,one,u,v,rfl,o0,o1,s2,hd,hD,hx⟩
   rw [Tx,Uc] at hD
   rw [Tx,VG] at hx
   refine ⟨_,rfl,q r H2 ds hr' s2 hd hD ?_⟩
   rw [eE,← hx]
   exact (Uq _).symm
def NO (H:Hp) (q:Rat) (Q:VK):Prop:=∀(r:Addr) (H':Hp),bB H H'→H' r=some (.tup [.int q.num,.int q.den])→Q (.ref r) H'
abbrev my:Stmt:=(top 13)
abbrev dj:List Str:=["top","bottom"]
theorem kU:L2.aw ["top","bottom","divisor"] ["top","bottom"] (L2.aj my):=dN
def gG:Sp:=λvs H Q _=>∃t b:Int,vs=[.int t,.int b]∧b≠0∧Bd 9000 b∧NO H (Rat.divInt t b) Q
theorem E7 {n:Nat} {t b:Int} (h:b≠0) (hb:Bd n b):Bd n ((Int.gcd t b:Nat):Int):=hb.le (by have:=LL (t:=t) h;omega)
theorem yz {f:Addr} {fd:FuncData} (F:bZ K "fraction" "fraction" my f fd) (Z:Ed mg) (iw:sG P w K mg base 1 "shared" iQ sk):aL P w K mg base qw 2 f fd dj gG:=by
 refine F.ok kU (λvs H Q E h=>?_) (λcdv A outer s H vs Q E hr h=>?_)
 ·obtain ⟨t,b,rfl,_⟩:=h
  rfl
 obtain ⟨t,b,rfl,hb,bb,q⟩:=h
 have hg:=BN (t:=t) hb
 have gb:=E7 (t:=t) hb bb
 refine ⟨_,(QB.run (aW (nB (du F4 (pv 1) aM (eY _)) oM fU)
   (aW (cU (i:=2) kU.nd rfl (Or.inl rfl) (yL iw hr (by decide) rfl (aT (pv 0) (aT (pv 1) bH))))
   (yO (nB (du B4 (pv 1) aM (eY _)) (bI (cU (i:=2) kU.nd rfl (Or.inl rfl) (B7 G' (pv 2)))) fU)
   (bI (dH (rG (aT (bj gq (pv 0) (pv 2)) (aT (bj gq (pv 1) (pv 2)) bH))))))))),?_⟩
 refine ⟨_,rfl,rfl,_,rfl,?_⟩
 refine Fn (λc=>absurd (V.int.inj (of_decide_eq_true c)) hb) (λ_=>?_)
 refine ⟨_,rfl,_,rfl,t,b,rfl,?_⟩
 refine ⟨λσ' H'=>∃d:Int,σ'=[some (.int t),some (.int b),some (.int d)]∧H=H'∧d≠0∧Bd 9000 d∧t.fdiv d=(Rat.divInt t b).num∧b.fdiv d=(Rat.divInt t b).den,?_,?_⟩
 ·refine ⟨_,rfl,_,_,rfl,rfl,_,rfl,Fn (λc=>?_) (λc=>?_)⟩
  ·have c':b < 0:=of_decide_eq_true c
   exact ⟨_,rfl,_,rfl,_,rfl,rfl,by omega,gb.neg,B1 c',HM c'⟩
  ·have c':0 < b:=by
    have:=of_decide_eq_false (Vz.mpr c)
    omega
   exact ⟨_,rfl,rfl,by omega,gb,vS c',den_pos c'⟩
 rintro _ _ ⟨d,rfl,rfl,hd,bd,e1,e2⟩
 refine ⟨_,rfl,_,rfl,_,_,rfl,rfl,⟨hd,bd⟩,_,rfl,_,rfl,_,_,rfl,rfl,⟨hd,bd⟩,(by show 2≤sizeLine;decide),λp hp=>?_⟩
 exact q p _ (bB.new hp _) (by rw [aE];show some (HO.tup [V.int (t.fdiv d),V.int (b.fdiv d)])=_;rw [e1,e2])
abbrev GD:Stmt:=(top 47)
abbrev fv:List Str:=["_law_top","_law_bottom"]
theorem w6:L2.aw ["_law_top","_law_bottom","_law_one","_law_two"] ["_law_top","_law_bottom"] (L2.aj GD):=dN
def KW:Sp:=λvs H Q _=>∃t b:Int,vs=[.int t,.int b]∧0 < b∧Bd 9000 b∧NO H (Rat.divInt t b) Q
theorem Mj {f:Addr} {fd:FuncData} (F:bZ K "_law_low" "_law_low" GD f fd) (Z:Ed mg):aL P w K mg base qw 1 f fd fv KW:=by
 refine F.ok w6 (λvs H Q E h=>?_) (λcdv A outer s H vs Q E hr h=>?_)
 ·obtain ⟨t,b,rfl,_⟩:=h
  rfl
 obtain ⟨t,b,rfl,hb,bb,q⟩:=h
 have hg:=BN (t:=t) (show b≠0 by omega)
 have gb:=E7 (t:=t) (show b≠0 by omega) bb
 refine ⟨_,(QB.run (aW (cU (i:=2) w6.nd rfl (Or.inl rfl) (dP mW rfl Z.abs boot_abs (aT (pv 0) bH)))
   (aW (cU (i:=3) w6.nd rfl (Or.inl rfl) (pv 1))
   (aW (kI PassesOwn.never (du Ks (pv 3) aM (eY _)) (bI (oK (i:=2) (j:=3) rfl w6.nd rfl rfl (by decide) rfl rfl (aT (pv 3) (aT (bj gr (pv 2) (pv 3)) bH)) rfl)))
   (bI (dH (rG (aT (bj gq (pv 0) (pv 2)) (aT (bj gq (pv 1) (pv 2)) bH))))))))),?_⟩
 refine ⟨_,rfl,t,rfl,_,rfl,?_⟩
 refine zt (λσ H'=>∃x y:Int,σ=[some (.int t),some (.int b),some (.int x),some (.int y)]∧H=H'∧0≤x∧0≤y∧Int.gcd x y=Int.gcd t b) (λσ _=>match σ with | [_,_,_,some (.int y)]=>y.toNat | _=>0)
  ⟨_,_,rfl,rfl,by split <;> omega,by omega,E6 t b⟩ ?_ (λσ H Q Q' m h=>?_)
 ·rintro σ H' ⟨x,y,rfl,rfl,hx,hy,hg'⟩
  dsimp! [rJoin]
  split
  ·rename_i hy0
   subst hy0
   have ex:x=((Int.gcd t b:Nat):Int):=by rw [← hg',BM hx]
   subst ex
   refine ⟨⟨by omega,gb⟩,⟨by omega,gb⟩,(by show 2≤sizeLine;decide),λp hp=>?_⟩
   exact q p _ (bB.new hp _) (by rw [aE,vS hb,den_pos hb])
  ·rename_i hy0
   have h1:=Int.emod_lt_of_pos x (show 0 < y by omega)
   have h2:=Int.emod_nonneg x hy0
   exact ⟨by omega,hy,h2,(x9 hy0).trans hg',by omega⟩
 ·obtain ⟨v,e,hs,k,ek,hq⟩:=h
  exact ⟨v,e,hs,k,ek,m _ _ hq⟩
theorem GY {m n:Nat} {t b:Int} (hb:b≠0) (h1:Bd m t) (h2:Bd n b) (k:Nat) (hm:m≤k) (hn:n≤k):Sz k (Rat.divInt t b) :=
 ⟨(h1.le (B0 t b)).mono hm,(h2.le (vE hb)).mono hn⟩
theorem vQ (p q:Rat):(p.den:Int) * (q.den:Int)≠0:=Int.mul_ne_zero (eS p) (eS q)
theorem Sz.add {m n k:Nat} {p q:Rat} (h:Sz m p) (g:Sz n q) (hk:m + n + 1≤k:=by decide):Sz k (p + q):=by
 rw [← add_eq]
 exact GY (vQ p q) (.add (.mul h.num g.den (TF _)) (.mul g.num h.den (TF _)) (TF _)) (.mul h.den g.den (TF _)) k (by omega) (by omega)
theorem Sz.sub {m n k:Nat} {p q:Rat} (h:Sz m p) (g:Sz n q) (hk:m + n + 1≤k:=by decide):Sz k (p - q):=by
 rw [← sub_eq]
 exact GY (vQ p q) (.sub (.mul h.num g.den (TF _)) (.mul g.num h.den (TF _)) (TF _)) (.mul h.den g.den (TF _)) k (by omega) (by omega)
theorem Sz.mul {m n k:Nat} {p:Rat} {i:Int} (h:Sz m p) (g:Bd n i) (hk:m + n≤k:=by decide):Sz k (p * i):=by
 rw [← mul_eq]
 exact GY (eS p) (.mul h.num g (TF _)) h.den k hk (by omega)
def PJ (K:PySem.W.Frag) (g:Rat→Rat→Rat):Sp:=λvs H Q _=>∃(a b:Addr) (p q:Rat),vs=[.ref a,.ref b]∧Nw K H a p∧Nw K H b q∧Sz 4000 p∧Sz 4000 q∧NO H (g p q) Q
abbrev A2:Stmt:=(top 14)
abbrev qh:List Str:=["one","two"]
theorem Jv:L2.aw ["one","two"] ["one","two"] (L2.aj A2):=dN
theorem IF {f:Addr} {fd:FuncData} (F:bZ K "plus" "plus" A2 f fd) (Z:Ed mg) (bT:sG P w K mg base 2 "fraction" dj gG):aL P w K mg base qw 3 f fd qh (PJ K λp q=>p + q):=by
 refine F.ok Jv (λvs H Q E h=>?_) (λcdv A outer s H vs Q E hr h=>?_)
 ·obtain ⟨a,b,p,q,rfl,_⟩:=h
  rfl
 obtain ⟨a,b,p,q,rfl,ha,hb,sp,sq,k⟩:=h
 refine ⟨_,(QB.run (bI (dH (yL bT hr (by decide) rfl (aT (bj jf (bj cM (cg cS (pv 0) aM (λ_ _=>rfl)) (cg cS (pv 1) aM (λ_ _=>rfl))) (bj cM (cg cS (pv 1) aM (λ_ _=>rfl)) (cg cS (pv 0) aM (λ_ _=>rfl)))) (aT (bj cM (cg cS (pv 0) aM (λ_ _=>rfl)) (cg cS (pv 1) aM (λ_ _=>rfl))) bH)))))),?_⟩
 refine ⟨_,rfl,_,_,_,_,rfl,rfl,ha,rfl,_,rfl,_,_,_,_,rfl,rfl,hb,rfl,_,_,rfl,rfl,.of sp.num sq.den,_,rfl,_,_,_,_,rfl,rfl,hb,rfl,_,rfl,_,_,_,_,rfl,rfl,ha,rfl,_,_,rfl,rfl,.of sq.num sp.den,_,_,rfl,rfl,_,rfl,_,_,_,_,rfl,rfl,ha,rfl,_,rfl,_,_,_,_,rfl,rfl,hb,rfl,_,_,rfl,rfl,.of sp.den sq.den,_,_,rfl,vQ p q,.mul sp.den sq.den,?_⟩
 rw [add_eq]
 exact k
abbrev wO:Stmt:=(top 15)
abbrev kG:List Str:=["one","two"]
theorem GF:L2.aw ["one","two"] ["one","two"] (L2.aj wO):=dN
theorem FQ {f:Addr} {fd:FuncData} (F:bZ K "minus" "minus" wO f fd) (Z:Ed mg) (bT:sG P w K mg base 2 "fraction" dj gG):aL P w K mg base qw 3 f fd kG (PJ K λp q=>p - q):=by
 refine F.ok GF (λvs H Q E h=>?_) (λcdv A outer s H vs Q E hr h=>?_)
 ·obtain ⟨a,b,p,q,rfl,_⟩:=h
  rfl
 obtain ⟨a,b,p,q,rfl,ha,hb,sp,sq,k⟩:=h
 refine ⟨_,(QB.run (bI (dH (yL bT hr (by decide) rfl (aT (bj Ay (bj cM (cg cS (pv 0) aM (λ_ _=>rfl)) (cg cS (pv 1) aM (λ_ _=>rfl))) (bj cM (cg cS (pv 1) aM (λ_ _=>rfl)) (cg cS (pv 0) aM (λ_ _=>rfl)))) (aT (bj cM (cg cS (pv 0) aM (λ_ _=>rfl)) (cg cS (pv 1) aM (λ_ _=>rfl))) bH)))))),?_⟩
 refine ⟨_,rfl,_,_,_,_,rfl,rfl,ha,rfl,_,rfl,_,_,_,_,rfl,rfl,hb,rfl,_,_,rfl,rfl,.of sp.num sq.den,_,rfl,_,_,_,_,rfl,rfl,hb,rfl,_,rfl,_,_,_,_,rfl,rfl,ha,rfl,_,_,rfl,rfl,.of sq.num sp.den,_,_,rfl,rfl,_,rfl,_,_,_,_,rfl,rfl,ha,rfl,_,rfl,_,_,_,_,rfl,rfl,hb,rfl,_,_,rfl,rfl,.of sp.den sq.den,_,_,rfl,vQ p q,.mul sp.den sq.den,?_⟩
 rw [sub_eq]
 exact k
abbrev wR:Stmt:=(top 16)
abbrev nC:List Str:=["one","many"]
theorem GH:L2.aw ["one","many"] ["one","many"] (L2.aj wR):=dN
def CI (K:PySem.W.Frag):Sp:=λvs H Q _=>∃(a:Addr) (p:Rat) (m:Int),vs=[.ref a,.int m]∧Nw K H a p∧Sz 9000 p∧Bd 9000 m∧NO H (p * m) Q
theorem FT {f:Addr} {fd:FuncData} (F:bZ K "times" "times" wR f fd) (Z:Ed mg) (bT:sG P w K mg base 2 "fraction" dj gG):aL P w K mg base qw 3 f fd nC (CI K):=by
 refine F.ok GH (λvs H Q E h=>?_) (λcdv A outer s H vs Q E hr h=>?_)
 ·obtain ⟨a,p,m,rfl,_⟩:=h
  rfl
 obtain ⟨a,p,m,rfl,ha,sp,bm,k⟩:=h
 refine ⟨_,(QB.run (bI (dH (yL bT hr (by decide) rfl (aT (bj cM (cg cS (pv 0) aM (λ_ _=>rfl)) (pv 1)) (aT (cg cS (pv 0) aM (λ_ _=>rfl)) bH)))))),?_⟩
 refine ⟨_,rfl,_,_,_,_,rfl,rfl,ha,rfl,_,rfl,_,_,rfl,rfl,.of sp.num bm,_,rfl,_,_,_,_,rfl,rfl,ha,rfl,_,_,rfl,eS p,sp.den,?_⟩
 rw [mul_eq]
 exact k
abbrev AX:Stmt:=(top 17)
abbrev fT:List Str:=["one","two"]
theorem Jt:L2.aw ["one","two"] ["one","two"] (L2.aj AX):=dN
def GO (K:PySem.W.Frag):Sp:=λvs H Q _=>∃(a b:Addr) (p q:Rat),vs=[.ref a,.ref b]∧Nw K H a p∧Nw K H b q∧Sz 9000 p∧Sz 9000 q∧Q (.bl (decide (p < q))) H
theorem Ii (p q:Rat):decide (p.num * q.den < q.num * p.den)=decide (p < q):=decide_eq_decide.mpr (Rat.lt_iff p q).symm
theorem IE {f:Addr} {fd:FuncData} (F:bZ K "less" "less" AX f fd) (Z:Ed mg):aL P w K mg base qw 1 f fd fT (GO K):=by
 refine F.ok Jt (λvs H Q E h=>?_) (λcdv A outer s H vs Q E hr h=>?_)
 ·obtain ⟨a,b,p,q,rfl,_⟩:=h
  rfl
 obtain ⟨a,b,p,q,rfl,ha,hb,sp,sq,k⟩:=h
 refine ⟨_,(QB.run (bI (dH (qa B4 (bj cM (cg cS (pv 0) aM (λ_ _=>rfl)) (cg cS (pv 1) aM (λ_ _=>rfl))) (bj cM (cg cS (pv 1) aM (λ_ _=>rfl)) (cg cS (pv 0) aM (λ_ _=>rfl))) (eY _))))),?_⟩
 refine ⟨_,rfl,_,_,_,_,rfl,rfl,ha,rfl,_,rfl,_,_,_,_,rfl,rfl,hb,rfl,_,_,rfl,rfl,.of sp.num sq.den,_,rfl,_,_,_,_,rfl,rfl,hb,rfl,_,rfl,_,_,_,_,rfl,rfl,ha,rfl,_,_,rfl,rfl,.of sq.num sp.den,_,_,rfl,rfl,?_⟩
 show Q (.bl (decide (p.num * q.den < q.num * p.den))) H
 rw [Ii]
 exact k
theorem BU {K:PySem.W.Frag} {J:Hq} {H:Hp}:∀{ns:List Int} {vs:List V},aJ K J H (ns.map PV.int) vs→vs=ns.map V.int
 | [],_,h=>h
 | n :: ns,_,⟨v,us,e,h,k⟩=>by subst e;cases h;rw [BU k];rfl
theorem Mu {K:PySem.W.Frag} {J:Hq} {H:Hp} {x:PV} {vs:List V} (h:aJ K J H [x] vs):∃v,vs=[v]∧cv K J H x v:=by
 obtain ⟨v,us,rfl,h1,h2⟩:=h;cases h2;exact ⟨v,rfl,h1⟩
theorem jI {K:PySem.W.Frag} {J:Hq} {H:Hp} {x y:PV} {vs:List V} (h:aJ K J H [x,y] vs):∃v u,vs=[v,u]∧cv K J H x v∧cv K J H y u:=by
 obtain ⟨v,us,rfl,h1,u,us',rfl,h2,h3⟩:=h;cases h3;exact ⟨v,u,rfl,h1,h2⟩
theorem qP {K:PySem.W.Frag} {J:Hq} {H:Hp} {q:Rat} {v:V} (h:cv K J H (fr q) v):∃a,v=.ref a∧Nw K H a q:=by
 obtain ⟨a,vs,rfl,h1,h2⟩:=h
 obtain ⟨x,y,rfl,r1,r2⟩:=jI h2
 cases r1;cases r2
 exact ⟨a,rfl,h1⟩
theorem wH {K:PySem.W.Frag} {J:Hq} {H:Hp} {q:Rat} {Q2:PV→Hq→Prop} {Q:VK} (r:Rep K J H) (k:Kn K J H Q2 Q) (h:Q2 (fr q) J):NO H q Q:=λa H' s e =>
 k (fr q) J (.ref a) H' ⟨a,_,rfl,gK.of e,⟨_,_,rfl,rfl,_,_,rfl,rfl,rfl⟩⟩ (r.same s) (.same s) h
def xg:cF:=λxs J Q _=>∃(c:Int) (ss:List Int),xs=[.int c,.fl (ss.map .int)]∧(∀s∈ss,0 < s∧Bd 9000 s)∧ss.length≤1000∧∀ds,Dig ds ss→ds=x4 c ss→Q (.fl (ds.map .int)) J
theorem yj (C:sG P w K mg base 1 "_law_digits" cj (r_ K)):bp P w K mg base 1 "_law_digits" cj xg:=C.lift λxs J vs H Q2 E2 Q E rs r ⟨c,ss,ex,h0,h1,q⟩ kn=>by
 subst ex
 obtain ⟨v,u,rfl,r1,⟨a,ws,rfl,h2,h3⟩⟩:=jI rs
 cases r1;cases BU h3
 refine ⟨c,a,ss,rfl,h2.sq,h0,h1,λp H' ds hp s e D x=>kn (.fl (ds.map .int)) J (.ref p) H' ⟨p,_,rfl,.inl ⟨r.free hp,.inl e⟩,oO ds⟩ (r.same s) (.same s) (q ds D x)⟩
def sd:cF:=λxs J Q _=>∃t b:Int,xs=[.int t,.int b]∧0 < b∧Bd 9000 b∧Q (fr (Rat.divInt t b)) J
theorem FC (C:sG P w K mg base 1 "_law_low" fv KW):bp P w K mg base 1 "_law_low" fv sd:=C.lift λxs J vs H Q2 E2 Q E rs r ⟨t,b,ex,h0,h1,q⟩ kn=>by
 subst ex
 obtain ⟨v,u,rfl,r1,r2⟩:=jI rs
 cases r1;cases r2
 exact ⟨t,b,rfl,h0,h1,wH r kn q⟩
def dA:cF:=λxs J Q _=>∃p q:Rat,xs=[fr p,fr q]∧Sz 9000 p∧Sz 9000 q∧Q (.bl (decide (p < q))) J
theorem Dw (C:sG P w K mg base 1 "less" fT (GO K)):bp P w K mg base 1 "less" fT dA:=C.lift λxs J vs H Q2 E2 Q E rs r ⟨p,q,ex,h0,h1,z⟩ kn=>by
 subst ex
 obtain ⟨v,u,rfl,r1,r2⟩:=jI rs
 obtain ⟨a,rfl,f1⟩:=qP r1
 obtain ⟨b,rfl,f2⟩:=qP r2
 exact ⟨a,b,p,q,rfl,f1,f2,h0,h1,kn (.bl _) J _ H rfl r .refl z⟩
def A6 (g:Rat→Rat→Rat):cF:=λxs J Q _=>∃p q:Rat,xs=[fr p,fr q]∧Sz 4000 p∧Sz 4000 q∧Q (fr (g p q)) J
theorem Ke {x:Str} {ps:List Str} {k:Nat} {g:Rat→Rat→Rat} (C:sG P w K mg base k x ps (PJ K g)):bp P w K mg base k x ps (A6 g):=C.lift λxs J vs H Q2 E2 Q E rs r ⟨p,q,ex,h0,h1,z⟩ kn=>by
 subst ex
 obtain ⟨v,u,rfl,r1,r2⟩:=jI rs
 obtain ⟨a,rfl,f1⟩:=qP r1
 obtain ⟨b,rfl,f2⟩:=qP r2
 exact ⟨a,b,p,q,rfl,f1,f2,h0,h1,wH r kn z⟩
theorem Dx (C:sG P w K mg base 3 "plus" qh (PJ K λp q=>p + q)):bp P w K mg base 3 "plus" qh (A6 λp q=>p + q):=Ke C
theorem Ah (C:sG P w K mg base 3 "minus" kG (PJ K λp q=>p - q)):bp P w K mg base 3 "minus" kG (A6 λp q=>p - q):=Ke C
def so:cF:=λxs J Q _=>∃(p:Rat) (m:Int),xs=[fr p,.int m]∧Sz 9000 p∧Bd 9000 m∧Q (fr (p * m)) J
theorem Aj (C:sG P w K mg base 3 "times" nC (CI K)):bp P w K mg base 3 "times" nC so:=C.lift λxs J vs H Q2 E2 Q E rs r ⟨p,m,ex,h0,h1,z⟩ kn=>by
 subst ex
 obtain ⟨v,u,rfl,r1,r2⟩:=jI rs
 obtain ⟨a,rfl,f1⟩:=qP r1
 cases r2
 exact ⟨a,p,m,rfl,f1,h0,h1,wH r kn z⟩
def aP.V (l:aP):PV:=.tup [fr l.m,fr l.p,.int l.v]
theorem sC (m p:Rat) (v:Int):PV.tup [fr m,fr p,.int v]=(aP.mk m p v).V:=rfl
theorem BX (J:Hq) (l:aP):fB J l.V (.int 0)=some (fr l.m):=dC _ _
theorem Od (J:Hq) (l:aP):fB J l.V (.int 1)=some (fr l.p):=fM _ _ _
theorem lM (J:Hq) (l:aP):fB J l.V (.int 2)=some (.int l.v):=jY _ _ _ _
theorem QV (a b:aP):eqQ a.V b.V=decide (a=b):=by
 unfold aP.V
 rw [vF,dM,dM,dM,pZ,BG,BG,eq_int,UN,← US,← US]
 apply decide_eq_decide.mpr
 cases a;cases b
 simp [aP.mk.injEq]
theorem NR (a b:aP):(a.V=b.V)=(a=b):=by
 apply propext
 constructor
 ·intro e
  have:=QV a b
  rw [e,eq_self] at this
  exact of_decide_eq_true this.symm
 ·intro e;rw [e]
def pD:cF:=λxs J Q _=>∃(l:aP) (t:Rat),xs=[l.V,fr t]∧Sz 900 l.m∧Sz 900 l.p∧Sz 900 t∧Bd 64 l.v∧Q (fr (l.at t)) J
abbrev mC:Stmt:=(top 25)
abbrev gT:List Str:=["leg","moment"]
theorem gY:L2.aw ["leg","moment","begun","place","pace"] ["leg","moment"] (L2.aj mC):=dN
theorem v9 {f:Addr} {fd:FuncData} (F:bZ K "place_on" "place_on" mC f fd) (Z:bP mg) (zF:bp P w K mg base 3 "plus" qh (A6 λp q=>p + q)) (mM:bp P w K mg base 3 "minus" kG (A6 λp q=>p - q)) (vg:bp P w K mg base 3 "times" nC so) :
  aL P w K mg base (cV P w) 4 f fd gT (dn K pD):=by
 simp_arith [gY,(ai (rO (rv 0) (oQ (n:=3) rfl (cm (bA (i:=2) gY.nd) (cm (bA (i:=3) gY.nd) (cm (bA (i:=4) gY.nd) lB)))))
   (ar (aA (aS zF B hr (af (rv 3) (af (aS vg B hr (af (aS mM B hr (af (rv 1) (af (rv 2) ag))) (af (rv 4) ag))) ag))))))]
 ·obtain ⟨l,t,rfl,_⟩:=h;rfl
 obtain ⟨l,t,rfl,sb,sp,sm,bv,q⟩:=h
 have s1:Sz 1801 (t - l.m):=sm.sub sb
 have s2:Sz 1900 ((t - l.m) * (l.v:Rat)):=s1.mul bv
 refine hX ?_
 simp_arith! [bS,aP.V,A6,so]
 exact ⟨sm.mono (by decide),sb.mono (by decide),s1.mono (by decide),bv.mono (by decide),sp.mono (by decide),s2.mono (by decide),q⟩
theorem LK (n:Int):PV.tup [.int n,.int 1]=fr (n:Rat):=rfl
theorem k8 (p q:Rat):p.num * (q.den:Int)=q.num * (p.den:Int)↔p=q:=by
 have a:=cast_eq p
 have b:=cast_eq q
 have c:=gf p
 have d:=gf q
 constructor
 ·intro h
  have h':((p.num * (q.den:Int):Int):Rat)=((q.num * (p.den:Int):Int):Rat):=by rw [h]
  rw [Rat.intCast_mul,Rat.intCast_mul,a,b] at h'
  grind
 ·intro h;rw [h]
def gv:Option Rat→PV
 | none=>.non
 | some q=>fr q
structure xH (cL:Addr) (J:Hq) (p r:Addr) (rows:List aP) (g:Option Rat):Prop where
 o:J p=some (.ins cL [("rows",.ref r),("gone",gv g)])
 l:J r=some (.lst (rows.map aP.V))
theorem xH.ne {cL:Addr} {J:Hq} {p r:Addr} {rows:List aP} {g:Option Rat} (h:xH cL J p r rows g):r≠p:=by
 intro e;subst e;have:=h.o;rw [h.l] at this;cases this
structure sH (n:Nat) (l:aP):Prop where
 m:Sz n l.m
 p:Sz n l.p
 v:Bd 64 l.v
theorem sH.mono {n k:Nat} {l:aP} (h:sH n l) (e:n≤k):sH k l:=⟨h.m.mono e,h.p.mono e,h.v⟩
theorem FD (a b:PV):([("rows",a),("gone",b)]:List (Str × PV)).lookup ("rows":Str)=some a:=rfl
theorem SQ (a b:PV):([("rows",a),("gone",b)]:List (Str × PV)).lookup ("gone":Str)=some b:=rfl
theorem Dy {m:Str} (a b:PV) (h:(m == ("rows":Str))=false) (k:(m == ("gone":Str))=false):([("rows",a),("gone",b)]:List (Str × PV)).lookup m=none:=by rw [Ug,h];simp only;rw [Ug,k];rfl
theorem OC (a b:PV):([("rows",a),("gone",b)]:List (Str × PV)).lookup ("turn":Str)=none:=Dy a b (by decide +kernel) (by decide +kernel)
theorem Ri (a b:PV):([("rows",a),("gone",b)]:List (Str × PV)).lookup ("leave":Str)=none:=Dy a b (by decide +kernel) (by decide +kernel)
theorem Rj (a b:PV):([("rows",a),("gone",b)]:List (Str × PV)).lookup ("legs":Str)=none:=Dy a b (by decide +kernel) (by decide +kernel)
theorem Rk (a b:PV):([("rows",a),("gone",b)]:List (Str × PV)).lookup ("there":Str)=none:=Dy a b (by decide +kernel) (by decide +kernel)
theorem Rm (a b:PV):([("rows",a),("gone",b)]:List (Str × PV)).lookup ("leg_at":Str)=none:=Dy a b (by decide +kernel) (by decide +kernel)
theorem Rn (a b:PV):([("rows",a),("gone",b)]:List (Str × PV)).lookup ("twin":Str)=none:=Dy a b (by decide +kernel) (by decide +kernel)
theorem FK:(("rows":Str)=("gone":Str))=False:=eq_false (by decide +kernel)
theorem j7 {J:Hq} {l:Addr} {o:HQ} (h:J l=none):oa J (put J l o):=λa=>by
 by_cases e:a=l
 ·subst e;exact .inr h
 ·rw [ak e];exact .inl rfl
theorem I_ (x z:PV):kK ("gone":Str) z (kK ("rows":Str) x [])=([("rows",x),("gone",z)]:List (Str × PV)):=by simp only [kK,FK,if_false]
abbrev gC:Stmt:=(L2.inClass (top 29) 0)
abbrev fH:List Str:=["self","moment","place","pace"]
theorem pU:L2.aw ["self","moment","place","pace"] ["self","moment","place","pace"] (L2.aj gC):=dN
def xi (cL:Addr):cF:=λxs J Q _=>∃(p:Addr) (l:aP),xs=[.ref p,fr l.m,fr l.p,.int l.v]∧J p=some (.ins cL [])∧∀r,J r=none→Q .non (put (put J r (.lst [l.V])) p (.ins cL [("rows",.ref r),("gone",.non)]))
theorem yv {cL f:Addr} {fd:FuncData} (F:bZ K "__init__" "Log.__init__" gC f fd) (a9:dD K mg "Log" cL) (aH:aD K cL "rows") (bx:aD K cL "gone"):aL P w K mg base (cV P w) 1 f fd fH (dn K (xi cL)):=by
 simp_arith [pU,(ai (d4 a9.cl aH (rv 0) (oN (af (cx (af (rv 1) (af (rv 2) (af (rv 3) ag)))) ag)))
   (ar (d4 a9.cl bx (rv 0) mq)))]
 ·obtain ⟨p,l,rfl,_⟩:=h;rfl
 obtain ⟨p,l,rfl,hp,q⟩:=h
 refine hX ?_
 simp_arith! [bS,sC]
 intro r hr'
 have ne:p≠r:=by intro e;subst e;rw [hp] at hr';cases hr'
 refine fF (by rw [ak ne];exact hp) ⟨by decide,fF aq ⟨by show (1:Nat) < 1000;decide,?_⟩⟩
 rw [eG,I_]
 exact q r hr'
abbrev mw:Stmt:=(L2.inClass (top 29) 1)
abbrev kB:List Str:=["self","moment","pace"]
theorem pA:L2.aw ["self","moment","pace","place"] ["self","moment","pace"] (L2.aj mw):=dN
def xj (cL:Addr):cF:=λxs J Q _=>∃p r rows g t v,xs=[.ref p,fr t,.int v]∧xH cL J p r rows g∧rows≠[]∧rows.length≤900∧Sz 900 t∧(∀l∈rows,sH 900 l)∧Q .non (put J r (.lst ((turned rows t v).map aP.V)))
theorem yx {cL f:Addr} {fd:FuncData} (F:bZ K "turn" "Log.turn" mw f fd) (Z:bP mg) (a9:dD K mg "Log" cL) (aH:aD K cL "rows") (dY:bp P w K mg base 4 "place_on" gT pD):aL P w K mg base (cV P w) 5 f fd kB (dn K (xj cL)):=by
 simp_arith [pA,(ai (aI (i:=3) pA.nd (aS dY B hr (af (av ax (aR a9.cl aH (rv 0)) (nH jJ ah)) (af (rv 1) ag))))
   (dw (aZ (aG (cQ hr.aU) (av ax (av ax (aR a9.cl aH (rv 0)) (nH jJ ah)) ah) (rv 1)) (ar (a7 (MV PySem.F.plainAttrs_list PySem.F.slot_list_pop PySem.F.type_list_pop Mf (aR a9.cl aH (rv 0))))) aK)
   (ai (aZ (dR (gy (M1 (aR a9.cl aH (rv 0))) (fh (aG (cQ hr.aU) (av ax (av ax (aR a9.cl aH (rv 0)) (nH jJ ah)) ah) (rv 2))))) (ar Jq) aK)
   (ar (a7 (nE PySem.F.plainAttrs_list PySem.F.slot_list_append PySem.F.type_list_append lj (aR a9.cl aH (rv 0)) (af (cx (af (rv 1) (af (rv 3) (af (rv 2) ag)))) ag)))))))]
 ·obtain ⟨p,r,rows,g,t,v,rfl,_⟩:=h;rfl
 obtain ⟨p,r,rows,g,t,v,rfl,b,hne,hl,st,sl,q⟩:=h
 obtain ⟨ls,l,rfl⟩:∃ls l,rows=ls ++ [l]:=⟨rows.dropLast,rows.getLast hne,(T_ hne).symm⟩
 have bo:=b.o
 have bl:=b.l
 have npr:=b.ne
 have sl':=sl l (by simp)
 have hla:de ((ls ++ [l]).map aP.V) (-1)=some l.V:=by rw [TM];exact Bs _ _
 refine hX ?_
 simp_arith! [bS,bo,bl,FD]
 refine fG hla ⟨l,t,rfl,sl'.m,sl'.p,st,sl'.v,?_⟩
 obtain ⟨M,hM⟩:∃M:Sr→Hq→Prop,∀τ' J',M τ' J'↔τ'=[some (.ref p),some (fr t),some (.int v),some (fr (l.at t))]∧J'=put J r (.lst ((if l.m=t then ls else ls ++ [l]).map aP.V)):=⟨_,λ_ _=>Iff.rfl⟩
 refine ⟨M,?_,?_⟩
 ·simp_arith! [bS,bo,bl,FD,hla,BX]
  split
  ·rename_i e
   refine ⟨l.V,by simp,(hM _ _).mpr ⟨rfl,?_⟩⟩
   rw [if_pos e,TM,TL,Ux,Vk]
  ·rename_i e
   exact (hM _ _).mpr ⟨rfl,by rw [if_neg e,AO bl]⟩
 ·intro τ' J' hm
  obtain ⟨rfl,rfl⟩:=(hM _ _).mp hm
  clear hm hM M
  have et:turned (ls ++ [l]) t v=if (if l.m=t then ls else ls ++ [l]).getLast?.map aP.v=some v then (if l.m=t then ls else ls ++ [l]) else (if l.m=t then ls else ls ++ [l]) ++ [⟨t,l.at t,v⟩]:=by
   unfold turned
   simp only [T1,Vk]
  have hrl:(if l.m=t then ls else ls ++ [l]).length≤900:=by
   split
   ·rw [T7] at hl;omega
   ·exact hl
  rw [et] at q
  generalize (if l.m=t then ls else ls ++ [l])=rest at q hrl ⊢
  simp_arith! [bS,ak (Ne.symm npr),bo,FD,eG,sC]
  rcases List.eq_nil_or_concat rest with rfl | ⟨ks,k,rfl⟩
  ·simp only [List.getLast?_nil,Option.map_none,reduceCtorEq,if_false,List.nil_append] at q
   simpa [Kf,sizeLine] using q
  ·rw [List.concat_eq_append] at *
   rw [T1,VL] at q
   have hk:de ((ks ++ [k]).map aP.V) (-1)=some k.V:=by rw [TM];exact Bs _ _
   rw [if_pos (by simp)]
   simp_arith! [bS,ak (Ne.symm npr),bo,FD,hk,lM,Tx]
   by_cases e:k.v=v
   ·rw [if_pos e];rw [if_pos (congrArg some e)] at q;exact q
   ·rw [if_neg e];rw [if_neg (λz=>e (Option.some.inj z))] at q
    simp_arith! [bS,ak (Ne.symm npr),bo,FD,eG,sC,Tx]
    refine ⟨a_ (by omega),?_⟩
    rw [TM] at q
    exact q
abbrev mr:Stmt:=(L2.inClass (top 29) 3)
abbrev pq:List Str:=["self"]
theorem yY:L2.aw ["self"] ["self"] (L2.aj mr):=dN
def Cy (cL:Addr):cF:=λxs J Q _=>∃p r rows g,xs=[.ref p]∧xH cL J p r rows g∧(Q (.fl (rows.map aP.V)) J∨∀l,J l=none→Q (.ref l) (put J l (.lst (rows.map aP.V))))
theorem yw {cL f:Addr} {fd:FuncData} (F:bZ K "legs" "Log.legs" mr f fd) (Z:bP mg) (a9:dD K mg "Log" cL) (aH:aD K cL "rows"):aL P w K mg base (cV P w) 1 f fd pq (dn K (Cy cL)):=by
 simp_arith [yY,(ar (aA (cZ iE rfl Z.list boot_list (af (aR a9.cl aH (rv 0)) ag)))),F]
 ·obtain ⟨p,r,rows,g,rfl,_⟩:=h;rfl
 obtain ⟨p,r,rows,g,rfl,b,q⟩:=h
 have bo:=b.o
 have bl:=b.l
 refine hX ?_
 simp_arith! [bS,bo,bl,FD]
 intro l hl
 rcases q with q | q
 ·exact Fg.qQ (j7 hl) aq hl q
 ·exact Fg.same (q l hl)
theorem Te {rows:List aP} {i:Nat} {b:aP} (h:rows[i]?=some b):de (rows.map aP.V) (i:Int)=some b.V:=bq (by rw [TN,h];rfl)
abbrev oS:Stmt:=(top 19)
abbrev rJ:List Str:=["rows","moment"]
theorem mE:L2.aw ["rows","moment","at"] ["rows","moment"] (L2.aj oS):=dN
def za:cF:=λxs J Q _=>∃(x:PV) (t:Rat) (ys:List PV) (ms:List Rat),xs=[x,fr t]∧jU J x=some ys∧ys.length=ms.length∧ms.length≤900∧(∀(i:Nat) y m,ys[i]?=some y→ms[i]?=some m→fB J y (.int 0)=some (fr m))∧Sz 9000 t∧(∀m∈ms,Sz 9000 m)∧Q (.int ((lb ms t ms.length:Int) - 1)) J
theorem yA {f:Addr} {fd:FuncData} (F:bZ K "last_by" "last_by" oS f fd) (Z:bP mg) (dX:bp P w K mg base 1 "less" fT dA):aL P w K mg base (cV P w) 2 f fd rJ (dn K za):=by
 simp_arith [mE,(ai (aI (i:=2) mE.nd (a8 gu (aQ b_ rfl Z.len boot_len (af (rv 0) ag)) ah))
   (ai (nJ cy (dR (gy (aG F6 (rv 2) ah) (fh (bN (aS dX B hr (af (rv 1) (af (av ax (av ax (rv 0) (rv 2)) ah) ag))))))) (ar (GB (i:=2) mE.nd ah Fh)))
   (ar (aA (rv 2)))))]
 ·obtain ⟨x,t,ys,ms,rfl,_⟩:=h;rfl
 obtain ⟨x,t,ys,ms,rfl,hx,hlen,hl,h0,st,sm,q⟩:=h
 refine hX ?_
 simp_arith! [bS,FF hx,hlen]
 refine ⟨λk τ J'=>∃j:Nat,τ=[some x,some (fr t),some (.int ((j:Int) - 1))]∧J'=J∧j≤ms.length∧k=j∧lb ms t ms.length=lb ms t j,⟨_,ms.length,rfl,rfl,TF _,rfl,rfl⟩,?_⟩
 rintro k τ J' ⟨j,rfl,rfl,hj,rfl,hb⟩
 simp_arith! [bS,Kh hx,dA]
 cases k with
 | zero =>
  rw [if_neg (by omega)]
  rw [hb] at q
  exact q
 | succ k =>
  rw [if_pos (by omega)]
  obtain ⟨y,hy⟩:∃y,ys[k]?=some y:=⟨_,Tz (by omega)⟩
  obtain ⟨m,hm⟩:∃m,ms[k]?=some m:=⟨_,Tz (by omega)⟩
  have ha:de ys (((k + 1:Nat):Int) - 1)=some y:=by
   have:((k + 1:Nat):Int) - 1=(k:Int):=by omega
   rw [this];exact bq hy
  have em:ms.getD k 0=m:=by simp [Wu,hm]
  have hu:lb ms t (k + 1)=if m≤t then k + 1 else lb ms t k:=by
   show (if ms.getD k 0≤t then k + 1 else lb ms t k)=_
   rw [em]
  refine fG ha (fG (h0 k y m hy hm) ?_)
  simp_arith! [bS]
  refine ⟨st,sm m (TH hm),?_⟩
  by_cases c:t < m
  ·rw [if_pos c]
   have hn:¬ m≤t:=Rat.not_le.mpr c
   rw [if_neg hn] at hu
   refine ⟨λτ J''=>τ=[some x,some (fr t),some (.int ((k:Int) - 1))]∧J''=J',λτ' J'' ⟨e1,e2⟩=>⟨k,UZ _,k,e1,e2,by omega,rfl,by rw [hb,hu]⟩,?_⟩
   simp_arith! [bS]
   have:((k + 1:Nat):Int) - 1 - 1=(k:Int) - 1:=by omega
   exact this
  ·rw [if_neg c]
   rw [if_pos (Rat.not_lt.mp c)] at hu
   rw [hb,hu] at q
   exact q
abbrev kT:Stmt:=(L2.inClass (top 29) 5)
abbrev nt:List Str:=["self","moment"]
theorem nN:L2.aw ["self","moment","joined"] ["self","moment"] (L2.aj kT):=dN
def y_ (cL:Addr):cF:=λxs J Q _=>∃p r rows g t,xs=[.ref p,fr t]∧xH cL J p r rows g∧rows≠[]∧Sz 900 t∧(∀l∈rows,sH 900 l)∧(∀q,g=some q→Sz 900 q)∧Q (.bl (there rows g t)) J
theorem vZ {cL f:Addr} {fd:FuncData} (F:bZ K "there" "Log.there" kT f fd) (Z:bP mg) (a9:dD K mg "Log" cL) (aH:aD K cL "rows") (bx:aD K cL "gone") (dX:bp P w K mg base 1 "less" fT dA):aL P w K mg base (cV P w) 2 f fd nt (dn K (y_ cL)):=by
 simp_arith [nN,(ai (aI (i:=2) nN.nd (av ax (av ax (aR a9.cl aH (rv 0)) ah) ah))
   (ai (aZ (bN (aS dX B hr (af (rv 1) (af (rv 2) ag)))) (ar (aA gx)) aK)
   (ar (aA (PC (fb OW (aR a9.cl bx (rv 0)) mq) (wF (aS dX B hr (af (rv 1) (af (aR a9.cl bx (rv 0)) ag)))))))))]
 ·obtain ⟨p,r,rows,g,t,rfl,_⟩:=h;rfl
 obtain ⟨p,r,rows,g,t,rfl,b,hne,st,sl,sg,q⟩:=h
 have bo:=b.o
 have bl:=b.l
 obtain ⟨l,ls,rfl⟩:∃l ls,rows=l :: ls:=UX hne
 have sl':=(sl l (by simp)).m
 refine hX ?_
 simp_arith! [bS,bo,bl,FD,SQ,BX,dA]
 refine ⟨st.mono (by decide),sl'.mono (by decide),?_⟩
 unfold there at q
 simp only [VO] at q
 by_cases c:t < l.m
 ·rw [if_pos c]
  rw [decide_eq_true c] at q
  exact q
 ·rw [if_neg c]
  rw [decide_eq_false c] at q
  cases g with
  | none=>simpa [gv,N',K4,Qh] using q
  | some u =>
   simp only [gv,qX,T2,if_false]
   simp only [Qh] at q
   refine ⟨u,rfl,st.mono (by decide),(sg u rfl).mono (by decide),?_⟩
   simpa using q
abbrev jE:Stmt:=(L2.inClass (top 29) 6)
abbrev lT:List Str:=["self","moment"]
theorem uh:L2.aw ["self","moment"] ["self","moment"] (L2.aj jE):=dN
def y9 (cL eN:Addr):cF:=λxs J Q E=>∃p r rows g t,xs=[.ref p,fr t]∧xH cL J p r rows g∧rows≠[]∧rows.length≤900∧Sz 900 t∧(∀l∈rows,sH 900 l)∧(∀q,g=some q→Sz 900 q)∧(there rows g t=true→∀l,yh rows t=some l→Q l.V J)∧(there rows g t=false→E eN J)
theorem t9 {cL eN f:Addr} {fd:FuncData} (F:bZ K "leg_at" "Log.leg_at" jE f fd) (Z:bP mg) (a9:dD K mg "Log" cL) (aH:aD K cL "rows") (f7:Own K mg "NotThere" eN) (kb:cu P w K mg base cL 2 "there" nt (y_ cL))
  (C0:bp P w K mg base 2 "last_by" rJ za):aL P w K mg base (cV P w) 3 f fd lT (dn K (y9 cL eN)):=by
 simp_arith [uh,(ai (aZ (cP (bN (bz (pl:=_) kb B hr (rv 0) (af (rv 1) ag)))) (ar (dQ f7 rfl cH B.kn rfl (af bM ag))) aK)
   (ar (aA (av ax (aR a9.cl aH (rv 0)) (aS C0 B hr (af (aR a9.cl aH (rv 0)) (af (rv 1) ag)))))))]
 ·obtain ⟨p,r,rows,g,t,rfl,_⟩:=h;rfl
 obtain ⟨p,r,rows,g,t,rfl,b,hne,hl,st,sl,sg,q,qe⟩:=h
 have bo:=b.o
 have bl:=b.l
 refine hX ?_
 simp_arith! [bS,bo,bl,FD]
 refine ⟨Rk _ _,p,r,rows,g,t,rfl,b,hne,st,sl,sg,?_⟩
 simp_arith! [bS,fJ,bo,bl,FD]
 cases hc:there rows g t with
 | false=>rw [if_pos rfl];exact qe hc
 | true =>
  rw [if_neg (by decide)]
  obtain ⟨l,h1,h2,h3,h4,h5⟩:=G8 hc
  refine ⟨_,t,rows.map aP.V,rows.map aP.m,rfl,by simp_arith! [bS,bl],by simp,by simpa using hl,?_,st.mono (by decide),?_,?_⟩
  ·intro i y m hy hm
   rw [TN] at hy hm
   cases e:rows[i]? with
   | none=>rw [e] at hy;cases hy
   | some z=>rw [e] at hy hm;cases hy;cases hm;exact BX _ _
  ·intro m hm
   obtain ⟨z,hz,rfl⟩:=TB.mp hm
   exact (sl z hz).m.mono (by decide)
  ·rw [Tx]
   simp_arith! [bS,bl]
   refine fG (x:=l.V) ?_ (q hc l h1)
   have:((lb (rows.map aP.m) t rows.length:Nat):Int) - 1=((lb (rows.map aP.m) t rows.length - 1:Nat):Int):=by omega
   rw [this]
   exact Te h5
abbrev kS:Stmt:=(L2.inClass (top 29) 2)
abbrev nq:List Str:=["self","moment"]
theorem wY:L2.aw ["self","moment"] ["self","moment"] (L2.aj kS):=dN
def y8 (cL:Addr):cF:=λxs J Q _=>∃p r rows g t,xs=[.ref p,fr t]∧xH cL J p r rows g∧Q .non (put J p (.ins cL [("rows",.ref r),("gone",fr t)]))
theorem I9 (a b z:PV):kK ("gone":Str) z ([("rows",a),("gone",b)]:List (Str × PV))=([("rows",a),("gone",z)]:List (Str × PV)):=by simp only [kK,FK,if_false,if_true]
theorem B_ (a b z:PV):kK ("rows":Str) z ([("rows",a),("gone",b)]:List (Str × PV))=([("rows",z),("gone",b)]:List (Str × PV)):=by simp only [kK,if_true]
theorem vY {cL f:Addr} {fd:FuncData} (F:bZ K "leave" "Log.leave" kS f fd) (Z:bP mg) (a9:dD K mg "Log" cL) (bx:aD K cL "gone"):aL P w K mg base (cV P w) 1 f fd nq (dn K (y8 cL)):=by
 simp_arith [wY,(ar (d4 a9.cl bx (rv 0) (rv 1)))]
 ·obtain ⟨p,r,rows,g,t,rfl,_⟩:=h;rfl
 obtain ⟨p,r,rows,g,t,rfl,b,q⟩:=h
 have bo:=b.o
 refine hX ?_
 simp_arith! [bS,bo,FK]
 exact ⟨by decide,q⟩
theorem jZ {l:aP} {t:Rat} (h:sH 900 l) (sm:Sz 900 t):Sz 3000 (l.at t):=by
 have s1:Sz 1801 (t - l.m):=sm.sub h.m
 have s2:Sz 1900 ((t - l.m) * (l.v:Rat)):=s1.mul h.v
 exact h.p.add s2
abbrev ik:Stmt:=(top 27)
abbrev kF:List Str:=["name","leg","other_name","other_leg","moment"]
theorem gF:L2.aw ["name","leg","other_name","other_leg","moment","place","other_place"] ["name","leg","other_name","other_leg","moment"] (L2.aj ik):=dN
def GP:cF:=λxs J Q _=>∃(n n':Str) (l l':aP) (t:Rat),xs=[.str n,l.V,.str n',l'.V,fr t]∧sH 900 l∧sH 900 l'∧Sz 900 t∧Q (.bl ((key t (n,l)).lt (key t (n',l')))) J
theorem pR {f:Addr} {fd:FuncData} (F:bZ K "lies_behind" "lies_behind" ik f fd) (Z:bP mg) (dY:bp P w K mg base 4 "place_on" gT pD) (dX:bp P w K mg base 1 "less" fT dA):aL P w K mg base (cV P w) 5 f fd kF (dn K GP):=by
 simp_arith [gF,(ai (aI (i:=5) gF.nd (aS dY B hr (af (rv 1) (af (rv 4) ag))))
   (ai (aI (i:=6) gF.nd (aS dY B hr (af (rv 3) (af (rv 4) ag))))
   (ai (aZ (aG (km hr.aU) (rv 5) (rv 6)) (ar (aA (aS dX B hr (af (rv 5) (af (rv 6) ag))))) aK)
   (ai (aZ (aG (km hr.aU) (av ax (rv 1) ah) (av ax (rv 3) ah)) (ar (aA (fb iK (av ax (rv 1) ah) (av ax (rv 3) ah)))) aK)
   (ar (aA (fb Az (rv 0) (rv 2))))))))]
 ·obtain ⟨n,n',l,l',t,rfl,_⟩:=h;rfl
 obtain ⟨n,n',l,l',t,rfl,sl,sl',st,q⟩:=h
 refine hX ?_
 simp_all! []
 refine ⟨l,t,rfl,sl.m,sl.p,st,sl.v,?_⟩
 simp_all! []
 refine ⟨l',t,rfl,sl'.m,sl'.p,st,sl'.v,?_⟩
 have a1:=jZ sl st
 have a2:=jZ sl' st
 simp_all! []
 unfold Ky.lt key at q
 dsimp only at q
 by_cases e:l.at t=l'.at t
 ·rw [if_pos e] at q
  rw [if_pos e]
  simp_all! [lM]
  by_cases e2:l.v=l'.v
  ·rw [if_pos e2] at q
   rw [if_pos e2]
   simp_all! []
   exact q
  ·rw [if_neg e2] at q
   rw [if_neg e2]
   simp_all! [lM]
   exact q
 ·rw [if_neg e] at q
  rw [if_neg e]
  simp_all! [dA]
  exact ⟨a1.mono (by decide),a2.mono (by decide),q⟩
abbrev mz:Stmt:=(top 41)
abbrev pz:List Str:=["legs","moment"]
theorem fz:L2.aw ["legs","moment","names","name","at"] ["legs","moment"] (L2.aj mz):=dN
def bJ (fs:List (Str × aP)):List (Str × PV):=fs.map λx=>(x.1,x.2.V)
def uW:cF:=λxs J Q _=>∃(D:Addr) (fs:List (Str × aP)) (ep:Nat) (t:Rat),xs=[.ref D,fr t]∧J D=some (.dct (bJ fs) ep)∧(fs.map (·.1)).Nodup∧fs.length≤100∧Sz 900 t∧(∀x∈fs,sH 900 x.2)∧∀p,J p=none→Q (.ref p) (put J p (.lst ((cY t fs).map .str)))
theorem v7 {f:Addr} {fd:FuncData} (F:bZ K "in_order" "in_order" mz f fd) (Z:bP mg) (sQ:bp P w K mg base 5 "lies_behind" kF GP):aL P w K mg base (cV P w) 6 f fd pz (dn K uW):=by
 simp_arith [fz,(ai (aI (i:=2) fz.nd (oN ag))
   (ai (fe cy rfl (wI (rv 0)) (bA (i:=3) fz.nd) (ai (aI (i:=4) fz.nd (aQ b_ rfl Z.len boot_len (af (rv 2) ag)))
   (ai (nJ cy (dR (gy (aG ph (rv 4) ah) (fh (bN (aS sQ B hr (af (rv 3) (af (av dG (rv 0) (rv 3)) (af (av ax (rv 2) (a8 gu (rv 4) ah)) (af (av dG (rv 0) (av ax (rv 2) (a8 gu (rv 4) ah))) (af (rv 1) ag)))))))))) (ar (GB (i:=4) fz.nd ah Fh)))
   (ar (a7 (nE PySem.F.plainAttrs_list PySem.F.slot_list_insert PySem.F.type_list_insert oC (rv 2) (af (rv 4) (af (rv 3) ag))))))))
   (ar (aA (rv 2)))))]
 ·obtain ⟨D,fs,ep,t,rfl,_⟩:=h;rfl
 obtain ⟨D,fs,ep,t,rfl,hD,hnd,hlen,st,sl,q⟩:=h
 refine hX ?_
 simp_all! []
 intro r hr'
 have nDr:D≠r:=by intro e;subst e;rw [hD] at hr';cases hr'
 simp_all! [ak nDr,hD]
 have hkv:(bJ fs).map (λkv=>PV.str kv.1)=fs.map λx=>PV.str x.1:=by unfold bJ;rw [TK];rfl
 rw [hkv]
 obtain ⟨Inv,hInv⟩:∃Inv:Nat→Sr→Hq→Prop,∀i τ J',Inv i τ J'↔∃(u3 u4:Option PV),τ=[some (.ref D),some (fr t),some (.ref r),u3,u4]∧J'=put J r (.lst ((cY t (fs.take i)).map .str)):=⟨_,λ_ _ _=>Iff.rfl⟩
 refine fA Inv ((hInv _ _ _).mpr ⟨_,_,rfl,rfl⟩) (λi τ J' h=>?_) ?_ ?_
 ·obtain ⟨_,_,_,rfl⟩:=(hInv _ _ _).mp h
  rw [ak nDr];exact hD
 ·intro i x τ J' hx hv
  obtain ⟨u3,u4,rfl,rfl⟩:=(hInv _ _ _).mp hv
  clear hv
  have hi:i < fs.length:=by have:=(TC.mp hx).1;simpa using this
  rw [TN,Tz hi] at hx
  cases hx
  rcases hfi:fs[i] with ⟨n,l⟩
  have hmem:(n,l)∈fs:=by rw [← hfi];exact Uk hi
  have et:fs.take (i + 1)=fs.take i ++ [(n,l)]:=by rw [Ub,Tz hi,hfi];rfl
  have hndt:((fs.take (i + 1)).map (·.1)).Nodup:=by rw [UW];exact hnd.sublist (Uy _ _)
  rw [et,TM,TL,Ux] at hndt
  obtain ⟨hnd1,hnew⟩:=eX hndt
  obtain ⟨ys,hys⟩:∃ys,cE ((fs.take i).map (key t))=ys:=⟨_,rfl⟩
  have srt:pL Ky.lt ys:=by rw [← hys];exact dh (by rw [d9];exact hnd1)
  have hyl:ys.length=i:=by rw [← hys,ko,Tx,T'];omega
  have hym:∀y∈ys,∃l',(y.n,l')∈fs∧y=key t (y.n,l')∧y.n≠n:=λy hy=>by
   rw [← hys,bE,TB] at hy
   obtain ⟨x',hx',rfl⟩:=hy
   exact ⟨x'.2,UK hx',rfl,λe=>hnew (TB.mpr ⟨x',hx',e⟩)⟩
  have eo:(cY t (fs.take i)).map PV.str=ys.map λy=>PV.str y.n:=by unfold cY;rw [hys,TK];rfl
  have en:(cY t (fs.take (i + 1))).map PV.str=(pM Ky.lt (key t (n,l)) ys).map λy=>PV.str y.n:=by
   unfold cY;rw [et,TM,TL,Ux,iM,hys,TK];rfl
  rw [eo]
  have hvn:mI (bJ fs) n=some l.V:=iu (f:=aP.V) hnd hmem
  have sll:=sl _ hmem
  simp_all! [aq,Tx]
  refine ⟨λm τ' J'=>m≤ys.length∧τ'=[some (.ref D),some (fr t),some (.ref r),some (.str n),some (.int (m:Nat))]∧J'=put J r (.lst (ys.map λy=>PV.str y.n))∧∀(j:Nat) y,m≤j→ys[j]?=some y→(key t (n,l)).lt y=true,⟨ys.length,TF _,rfl,rfl,λj y hj e=>by rw [UE hj] at e;cases e⟩,?_⟩
  rintro m τ' J' ⟨hm,rfl,rfl,hall⟩
  have fin:(∀(j:Nat) y,j < m→ys[j]?=some y→y.lt (key t (n,l))=true)→Inv (i + 1) [some (.ref D),some (fr t),some (.ref r),some (.str n),some (.int (m:Nat))] (put J r (.lst ((ys.map λy=>PV.str y.n).take m ++ .str n :: (ys.map λy=>PV.str y.n).drop m))):=λhlow=>by
   refine (hInv _ _ _).mpr ⟨_,_,rfl,?_⟩
   rw [en,← BS hm hlow λj y hj e=>Ky.NS (hall j y hj e),TM,TL,UW,VD]
   rfl
  simp_all! [aq,ak nDr,hD,hvn]
  by_cases c0:0 < m
  ·rw [if_pos (by omega)]
   obtain ⟨m',rfl⟩:∃m',m=m' + 1:=⟨m - 1,by omega⟩
   obtain ⟨y,hy⟩:∃y,ys[m']?=some y:=⟨_,Tz (by omega)⟩
   obtain ⟨l',hl',ey,ny⟩:=hym y (TH hy)
   have ha:de (ys.map λy=>PV.str y.n) (((m' + 1:Nat):Int) - 1)=some (.str y.n):=by
    rw [show ((m' + 1:Nat):Int) - 1=((m':Nat):Int) by omega]
    exact bq (by rw [TN,hy];rfl)
   have hvy:mI (bJ fs) y.n=some l'.V:=iu (f:=aP.V) hnd hl'
   simp_all! [ha,aq,ak nDr,hD,hvn,hvy]
   refine ⟨n,y.n,l,l',t,rfl,sll,sl _ hl',st,?_⟩
   rw [← ey]
   cases hc:(key t (n,l)).lt y with
   | true =>
    simp_all! []
    refine ⟨_,λτ'' J'' h=>⟨m',UZ _,h⟩,⟨by omega,?_,rfl,λj z hj e=>?_⟩⟩
    ·rw [show ((m' + 1:Nat):Int) - 1=((m':Nat):Int) by omega]
    ·rcases U_ hj with h | h
     ·exact hall j z (by omega) e
     ·subst h;rw [hy] at e;cases e;exact hc
   | false =>
    simp_all! [aq]
    refine ⟨_,m' + 1,rfl,rfl,by rw [Tx];omega,a_ (by rw [Tx];omega),by omega,?_⟩
    rw [eG]
    refine fin λj z hj e=>?_
    have hyx:y.lt (key t (n,l))=true:=by
     rcases Ky.PY (a:=y) (b:=key t (n,l)) ny with h | h
     ·exact h
     ·rw [hc] at h;cases h
    exact zl (lt:=Ky.lt) Ky.tr srt hy e (by omega) hyx
  ·rw [if_neg (by omega)]
   simp_all! [aq]
   refine ⟨_,m,rfl,rfl,by rw [Tx];omega,a_ (by rw [Tx];omega),by omega,?_⟩
   rw [eG]
   exact fin λj z hj e=>by omega
 ·intro τ J' hv
  obtain ⟨u3,u4,rfl,rfl⟩:=(hInv _ _ _).mp hv
  rw [Tx,Uc]
  simp_all! []
  exact q r hr'
def qC (K:PySem.W.Frag) (mg:Str→Option Value):Prop:=∃a:Addr,mg "NOUGHT"=some (.ref a)∧∀H:Hp,gK K H a [.int 0,.int 1]
theorem DE {K:PySem.W.Frag} {h:Heap} {mg:Str→Option Value} (X:K.In h) (G:h.Ns mainGlobals mg) {a:Addr} {od:Option Addr} {n:Nat} {sl:Array (Option Value)} {t u:Tok}
  (e:PySem.W.nsIn K mainGlobals "NOUGHT"=some (some (.ref a))) (l:K.lookup a=some ⟨.type "tuple",od,.seq #[.int 0 t,.int 1 u] n,sl⟩):qC K mg :=
 ⟨a,PySem.W.mg_of X G e,λ_=>.inr ⟨_,_,_,l,rfl,rfl,(by show 2≤sizeLine;decide),.cons ⟨t,rfl⟩ (.cons ⟨u,rfl⟩ .nil)⟩⟩
structure Cf where
 n:Str
 a:Addr
 r:Addr
 w:List aP
 g:Option Rat
structure Ln where
 t:Rat
 d:Addr
 e:Nat
 o:Addr
 cs:List Cf
 row:List Str
def Cf.cur (c:Cf):aP:=c.w.getLast?.getD ⟨0,0,0⟩
def Ln.DX (L:Ln):List Cf:=L.cs.filter λc=>c.g.isNone
def Ln.fs (L:Ln):List (Str × aP):=L.DX.map λc=>(c.n,c.cur)
structure aX (cN cL:Addr) (J:Hq) (p:Addr) (L:Ln):Prop where
 ob:J p=some (.ins cN [("now",fr L.t),("logs",.ref L.d),("row",.ref L.o)])
 dc:J L.d=some (.dct (L.cs.map λc=>(c.n,PV.ref c.a)) L.e)
 rw:J L.o=some (.lst (L.row.map .str))
 lg:∀c∈L.cs,xH cL J c.a c.r c.w c.g
 ap:(L.cs.map Cf.r).Nodup
 ao:∀c∈L.cs,c.r≠L.o
structure ba (L:Ln):Prop where
 nd:(L.cs.map Cf.n).Nodup
 ne:∀c∈L.cs,c.w≠[]
 le:∀c∈L.cs,∀l∈c.w,l.m≤L.t
 ck:∀c∈L.cs,∀l∈c.w,sM l
 len:∀c∈L.cs,c.w.length≤200
 gz:∀c∈L.cs,∀q,c.g=some q→Sc g7 MM q∧q≤L.t
 t0:0≤L.t
 ts:Sc g7 MM L.t
 many:L.cs.length≤100
 rm:∀n,n∈L.row↔n∈L.fs.map (·.1)
 rn:L.row.Nodup
 rl:L.row.length≤12
structure bU (L:Ln):Prop extends ba L where
 row:L.row=cY L.t L.fs
def Ln.own (L:Ln) (p a:Addr):Prop:=a=p∨a=L.d∨a=L.o∨∃c∈L.cs,a=c.a∨a=c.r
structure Mv (J J':Hq) (S S':Addr→Prop):Prop where
 keep:∀a o,J a=some o→¬ S a→J' a=some o
 own:∀a,S' a→S a∨J a=none
 mono:∀a,J' a=none→J a=none
theorem Mv.refl (J:Hq) (S:Addr→Prop):Mv J J S S:=⟨λ_ _ h _=>h,λ_ h=>.inl h,λ_ h=>h⟩
theorem Mv.trans {J J' J'':Hq} {S S' S'':Addr→Prop} (h:Mv J J' S S') (k:Mv J' J'' S' S''):Mv J J'' S S'':=by
 refine ⟨λa o e n=>k.keep a o (h.keep a o e n) λz=>?_,λa z=>?_,λa z=>h.mono a (k.mono a z)⟩
 ·rcases h.own a z with q | q
  ·exact n q
  ·rw [q] at e;cases e
 ·rcases k.own a z with q | q
  ·exact h.own a q
  ·exact .inr (h.mono a q)
theorem Mv.new {J:Hq} {S:Addr→Prop} {x:Addr} {o:HQ} (h:J x=none):Mv J (put J x o) S S:=by
 refine ⟨λa u e _=>?_,λ_ z=>.inl z,λa z=>?_⟩
 ·rw [ak (λq=>by subst q;rw [h] at e;cases e)];exact e
 ·by_cases q:a=x
  ·subst q;rw [aq] at z;cases z
  ·rw [ak q] at z;exact z
theorem Mv.tQ {J:Hq} {S:Addr→Prop} {x:Addr} {o:HQ} (h:J x=none):Mv J (put J x o) S (λa=>S a∨a=x) :=
 ⟨(Mv.new (S:=S) h).keep,λa z=>z.elim .inl λe=>.inr (by rw [e];exact h),(Mv.new (S:=S) h).mono⟩
theorem aX.keep {cN cL:Addr} {J J':Hq} {p:Addr} {L:Ln} (h:aX cN cL J p L) (k:∀a o,L.own p a→J a=some o→J' a=some o):aX cN cL J' p L :=
 ⟨k _ _ (.inl rfl) h.ob,k _ _ (.inr (.inl rfl)) h.dc,k _ _ (.inr (.inr (.inl rfl))) h.rw,λc hc=>⟨k _ _ (.inr (.inr (.inr ⟨c,hc,.inl rfl⟩))) (h.lg c hc).o,k _ _ (.inr (.inr (.inr ⟨c,hc,.inr rfl⟩))) (h.lg c hc).l⟩,h.ap,h.ao⟩
theorem aX.some {cN cL:Addr} {J:Hq} {p:Addr} {L:Ln} (h:aX cN cL J p L) {a:Addr} (o:L.own p a):J a≠none:=by
 rcases o with rfl | rfl | rfl | ⟨c,hc,rfl | rfl⟩
 ·rw [h.ob];exact λz=>nomatch z
 ·rw [h.dc];exact λz=>nomatch z
 ·rw [h.rw];exact λz=>nomatch z
 ·rw [(h.lg c hc).o];exact λz=>nomatch z
 ·rw [(h.lg c hc).l];exact λz=>nomatch z
theorem aX.fresh {cN cL:Addr} {J:Hq} {p x:Addr} {L:Ln} {o:HQ} (h:aX cN cL J p L) (hx:J x=none):aX cN cL (put J x o) p L :=
 h.keep λa u ow e=>by rw [ak (λq=>by subst q;rw [hx] at e;cases e)];exact e
theorem Ae {J:Hq} {a b C C':Addr} {fs gs:List (Str × PV)} (h:J a=Us (.ins C fs)) (k:J b=Us (.ins C' gs)) (n:fs.map (·.1)≠gs.map (·.1)):a≠b:=by
 intro e;subst e;rw [h] at k
 have:=HQ.ins.inj (Option.some.inj k)
 exact n (by rw [this.2])
theorem aX.Iw {cN cL:Addr} {J:Hq} {p:Addr} {L:Ln} (h:aX cN cL J p L):L.d≠p:=by intro e;have:=h.ob;rw [← e,h.dc] at this;cases this
theorem aX.Iz {cN cL:Addr} {J:Hq} {p:Addr} {L:Ln} (h:aX cN cL J p L):L.o≠p:=by intro e;have:=h.ob;rw [← e,h.rw] at this;cases this
theorem aX.Rr {cN cL:Addr} {J:Hq} {p:Addr} {L:Ln} (h:aX cN cL J p L):L.d≠L.o:=by intro e;have:=h.rw;rw [← e,h.dc] at this;cases this
theorem ra:([("rows":Str),("gone":Str)]:List Str)≠[("now":Str),("logs":Str),("row":Str)]:=by decide +kernel
theorem aX.Qk {cN cL:Addr} {J:Hq} {p:Addr} {L:Ln} (h:aX cN cL J p L) {c:Cf} (hc:c∈L.cs):c.a≠p:=Ae (h.lg c hc).o h.ob ra
theorem aX.ND {cN cL:Addr} {J:Hq} {p:Addr} {L:Ln} (h:aX cN cL J p L) {c:Cf} (hc:c∈L.cs):c.r≠p:=by intro e;have:=h.ob;rw [← e,(h.lg c hc).l] at this;cases this
theorem aX.SS {cN cL:Addr} {J:Hq} {p:Addr} {L:Ln} (h:aX cN cL J p L) {c:Cf} (hc:c∈L.cs):c.a≠L.d:=by intro e;have:=h.dc;rw [← e,(h.lg c hc).o] at this;cases this
theorem aX.SU {cN cL:Addr} {J:Hq} {p:Addr} {L:Ln} (h:aX cN cL J p L) {c:Cf} (hc:c∈L.cs):c.r≠L.d:=by intro e;have:=h.dc;rw [← e,(h.lg c hc).l] at this;cases this
theorem aX.Rq {cN cL:Addr} {J:Hq} {p:Addr} {L:Ln} (h:aX cN cL J p L) {c:Cf} (hc:c∈L.cs):c.a≠L.o:=by intro e;have:=h.rw;rw [← e,(h.lg c hc).o] at this;cases this
theorem aX.Tn {cN cL:Addr} {J:Hq} {p:Addr} {L:Ln} (h:aX cN cL J p L) {c c':Cf} (hc:c∈L.cs) (hc':c'∈L.cs):c.a≠c'.r:=by intro e;have:=(h.lg c' hc').l;rw [← e,(h.lg c hc).o] at this;cases this
theorem aX.M6 {cN cL:Addr} {J:Hq} {p o':Addr} {L:Ln} {row:List Str} (h:aX cN cL J p L) (ho:J o'=Us (.lst (row.map .str))) (nc:∀c∈L.cs,c.r≠o'):aX cN cL (put J p (.ins cN [("now",fr L.t),("logs",.ref L.d),("row",.ref o')])) p { L with o:=o',row:=row } :=
 ⟨aq,by show put J p _ L.d=_;rw [ak h.Iw];exact h.dc,by show put J p _ o'=_;rw [ak (λe=>by rw [e,h.ob] at ho;cases ho)];exact ho,
  λc hc=>⟨by rw [ak (h.Qk hc)];exact (h.lg c hc).o,by rw [ak (h.ND hc)];exact (h.lg c hc).l⟩,h.ap,nc⟩
theorem gj {J:Hq} {S S':Addr→Prop} {x:Addr} {o:HQ} (hx:S x) (hS:∀a,S' a→S a∨J a=none):Mv J (put J x o) S S':=by
 refine ⟨λa u e n=>?_,hS,λa z=>?_⟩
 ·rw [ak (λq=>by subst q;exact n hx)];exact e
 ·by_cases q:a=x
  ·subst q;rw [aq] at z;cases z
  ·rw [ak q] at z;exact z
theorem ba.Ng {L:Ln} (h:ba L):Sz 900 L.t:=(FJ h.ts).mono (by decide)
theorem sM.OE {l:aP} (h:sM l):sH 900 l:=⟨h.SR.mono (by decide),h.SW.mono (by decide),.small (by have:=h.v;omega) (by have:=h.v;omega)⟩
theorem Cf.i7 {c:Cf} (h:c.w≠[]):c.w.getLast?=Us c.cur∧c.cur∈c.w:=by
 unfold Cf.cur
 rw [Vj h]
 exact ⟨rfl,List.getLast_mem h⟩
theorem ba.Tj {L:Ln} (h:ba L) {c:Cf} (hc:c∈L.cs):yh c.w L.t=Us c.cur:=by
 unfold yh
 rw [UA.mpr λl hl=>decide_eq_true (h.le c hc l hl)]
 exact (Cf.i7 (h.ne c hc)).1
theorem ba.there {L:Ln} (h:ba L) {c:Cf} (hc:c∈L.cs) (hg:c.g=none):there c.w c.g L.t=true:=by
 obtain ⟨l,ls,e⟩:=UX (h.ne c hc)
 have:=h.le c hc l (by rw [e];simp)
 rw [hg,e]
 unfold Ov.there
 simp only [VO,Qh,UN]
 rw [decide_eq_false (Rat.not_lt.mpr this)];rfl
theorem Ln.c7 {L:Ln} {c:Cf}:c∈L.DX↔c∈L.cs∧c.g=none:=by
 unfold Ln.DX
 rw [TU]
 cases c.g <;> simp
theorem er (L:Ln):L.fs.map (·.1)=L.DX.map Cf.n:=by unfold Ln.fs;rw [TK];rfl
theorem ba.LH {L:Ln} (h:ba L):(L.fs.map (·.1)).Nodup:=by
 rw [er]
 unfold Ln.DX
 exact h.nd.sublist (List.Sublist.map _ Vo)
theorem ba.found {L:Ln} (h:ba L) {n:Str} (hn:n∈L.row):∃c∈L.cs,c.n=n∧c.g=none:=by
 have:=(h.rm n).mp hn
 rw [er,TB] at this
 obtain ⟨c,hc,e⟩:=this
 exact ⟨c,(Ln.c7.mp hc).1,e,(Ln.c7.mp hc).2⟩
theorem ba.va {L:Ln} (h:ba L) {c:Cf} (hc:c∈L.cs):mI (L.cs.map λc=>(c.n,PV.ref c.a)) c.n=Us (.ref c.a):=by
 have e:(L.cs.map λc=>(c.n,PV.ref c.a))=((L.cs.map λc=>(c.n,c.a)).map λx=>(x.1,PV.ref x.2)):=by rw [TK];rfl
 rw [e]
 exact iu (f:=PV.ref) (by rw [TK];exact h.nd) (TB.mpr ⟨c,hc,rfl⟩)
theorem ba.S8 {L:Ln} (h:ba L) {n:Str}:(mI (L.cs.map λc=>(c.n,PV.ref c.a)) n).isSome=decide (n∈L.cs.map Cf.n):=by
 have e:(L.cs.map λc=>(c.n,PV.ref c.a))=((L.cs.map λc=>(c.n,c.a)).map λx=>(x.1,PV.ref x.2)):=by rw [TK];rfl
 rw [e,Eb (f:=PV.ref) (by rw [TK];exact h.nd)]
 rw [TK];rfl
theorem ba.uniq {L:Ln} (h:ba L) {c c':Cf} (hc:c∈L.cs) (hc':c'∈L.cs) (e:c.n=c'.n):c=c':=by
 obtain ⟨i,hi,rfl⟩:=Uj hc
 obtain ⟨j,hj,rfl⟩:=Uj hc'
 have:=(UO (xs:=L.cs.map Cf.n) (i:=i) (j:=j) (h₀:=by simpa using hi) (h₁:=by simpa using hj) h.nd).mp (by rw [Uw,Uw];exact e)
 subst this;rfl
theorem q9 (a b c:PV):([("now",a),("logs",b),("row",c)]:List (Str × PV)).lookup ("now":Str)=Us a:=rfl
theorem tP (a b c:PV):([("now",a),("logs",b),("row",c)]:List (Str × PV)).lookup ("logs":Str)=Us b:=rfl
theorem q_ (a b c:PV):([("now",a),("logs",b),("row",c)]:List (Str × PV)).lookup ("row":Str)=Us c:=rfl
theorem dg (m:Str) (a b c:PV) (h:(m == ("now":Str))=false:=by decide +kernel) (k:(m == ("logs":Str))=false:=by decide +kernel) (l:(m == ("row":Str))=false:=by decide +kernel):([("now",a),("logs",b),("row",c)]:List (Str × PV)).lookup m=none:=by
 rw [Ug,h];simp only;rw [Ug,k];simp only;rw [Ug,l];rfl
theorem Kj:(("now":Str)=("logs":Str))=False:=eq_false (by decide +kernel)
theorem Kk:(("now":Str)=("row":Str))=False:=eq_false (by decide +kernel)
theorem Ki:(("logs":Str)=("row":Str))=False:=eq_false (by decide +kernel)
theorem B9 (a b c z:PV):kK ("row":Str) z ([("now",a),("logs",b),("row",c)]:List (Str × PV))=([("now",a),("logs",b),("row",z)]:List (Str × PV)):=by simp only [kK,Kk,Ki,if_false,if_true]
theorem M_ {J:Hq} {a:Addr} {xs:List PV} (h:J a=Us (.lst xs)):NJ J (.ref a)=Us xs:=by unfold NJ;simp only [h]
abbrev fK:Stmt:=(L2.inClass (top 42) 0)
abbrev e_:List Str:=["self"]
theorem oV:L2.aw ["self"] ["self"] (L2.aj fK):=dN
def xk (cN cL:Addr):cF:=λxs J Q _=>∃p,xs=[.ref p]∧J p=some (.ins cN [])∧∀J' d e o,aX cN cL J' p ⟨0,d,e,o,[],[]⟩→Mv J J' (λa=>a=p) (Ln.own ⟨0,d,e,o,[],[]⟩ p)→Q .non J'
theorem vU {cN cL f:Addr} {fd:FuncData} (F:bZ K "__init__" "Lane.__init__" fK f fd) (N:qC K mg) (au:dD K mg "Lane" cN) (ay:aD K cN "now") (aB:aD K cN "logs") (az:aD K cN "row"):aL P w K mg base (cV P w) 1 f fd e_ (dn K (xk cN cL)):=by
 simp_arith [oV]
 ·obtain ⟨p,rfl,_⟩:=h;rfl
 obtain ⟨p,rfl,hp,q⟩:=h
 obtain ⟨aN,gN,sN⟩:=N
 have rN:∀(J:Hq) (H:Hp),cv K J H (fr 0) (.ref aN):=λJ H=>⟨aN,_,rfl,sN H,⟨_,_,rfl,rfl,_,_,rfl,rfl,rfl⟩⟩
 refine ⟨_,(ai (d4 au.cl ay (rv 0) (fV (v:=.ref aN) (fr 0) rfl gN rfl rN))
   (ai (d4 au.cl aB (rv 0) Co)
   (ar (d4 au.cl az (rv 0) (oN ag))))),?_⟩
 simp_all! [hp]
 refine ⟨by decide,?_⟩
 simp_all! []
 intro d hd ep
 have Iw:d≠p:=by intro e;subst e;rw [aq] at hd;cases hd
 simp_all! [ak (Ne.symm Iw),aq]
 simp only [Kj,if_false]
 refine ⟨by decide,?_⟩
 simp_all! []
 intro o ho
 have jd:J d=none:=by rw [ak Iw] at hd;exact hd
 have Iz:o≠p:=by intro e;subst e;rw [aq] at ho;cases ho
 have nod:o≠d:=by intro e;subst e;rw [ak Iz,aq] at ho;cases ho
 have jo:J o=none:=by rw [ak Iz,ak nod,ak Iz] at ho;exact ho
 refine fF (by rw [ak (Ne.symm Iz)];exact aq) ⟨by show (2:Nat) < 1000;decide,?_⟩
 have pr:kK ("row":Str) (PV.ref o) ([("now",fr 0),("logs",.ref d)]:List (Str × PV))=([("now",fr 0),("logs",.ref d),("row",.ref o)]:List (Str × PV)):=by simp only [kK,Kk,Ki,if_false]
 rw [pr]
 refine q _ d ep o ⟨aq,by rw [ak Iw,ak (Ne.symm nod),ak Iw];exact aq,by rw [ak Iz];exact aq,(by simp),(by simp),(by simp)⟩ ⟨λa u e na=>?_,λa ow=>?_,λa z=>?_⟩
 ·have na1:a≠d:=λz=>by subst z;rw [jd] at e;cases e
  have na2:a≠o:=λz=>by subst z;rw [jo] at e;cases e
  rw [ak na,ak na2,ak na,ak na1,ak na];exact e
 ·rcases ow with rfl | rfl | rfl | ⟨c,hc,_⟩
  ·exact .inl rfl
  ·exact .inr jd
  ·exact .inr jo
  ·cases hc
 ·by_cases z1:a=p
  ·subst z1;rw [aq] at z;cases z
  by_cases z2:a=o
  ·subst z2;exact jo
  by_cases z3:a=d
  ·subst z3;exact jd
  rw [ak z1,ak z2,ak z1,ak z3,ak z1] at z;exact z
abbrev dk:Stmt:=(L2.inClass (top 42) 22)
abbrev cn:List Str:=["self","name"]
theorem jS:L2.aw ["self","name"] ["self","name"] (L2.aj dk):=dN
def qm (cN cL eC:Addr):cF:=λxs J Q E=>∃p L n,xs=[.ref p,.str n]∧aX cN cL J p L∧(n∈L.row→Q .non J)∧(n ∉ L.row→E eC J)
theorem jR {cN cL eC f:Addr} {fd:FuncData} (F:bZ K "must_be_there" "Lane.must_be_there" dk f fd) (Z:bP mg) (au:dD K mg "Lane" cN) (az:aD K cN "row") (d7:Own K mg "NoCraft" eC):aL P w K mg base (cV P w) 1 f fd cn (dn K (qm cN cL eC)):=by
 simp_arith [jS,(ar (aZ (aG B5 (rv 1) (aR au.cl az (rv 0))) (ar (dQ d7 rfl cH B.kn rfl (af bM ag))) aK))]
 ·obtain ⟨p,L,n,rfl,_⟩:=h;rfl
 obtain ⟨p,L,n,rfl,b,q,qe⟩:=h
 have bo:=b.ob
 refine hX ?_
 simp_all! [bo,q_,O4,M_ b.rw]
 refine ⟨L.row,rfl,?_⟩
 by_cases c:n∈L.row
 ·rw [if_pos (by simp [c])]
  exact q c
 ·rw [if_neg (by simp [c])]
  simp_all! [fJ]
  exact qe c
abbrev ie:Stmt:=(L2.inClass (top 42) 23)
abbrev eD:List Str:=["self","name"]
theorem rW:L2.aw ["self","name"] ["self","name"] (L2.aj ie):=dN
def nV (cN cL eC:Addr):cF:=λxs J Q E=>∃p L n,xs=[.ref p,.str n]∧aX cN cL J p L∧ba L∧(∀c∈L.cs,c.n=n→c.g=none→Q c.cur.V J)∧(n ∉ L.row→E eC J)
theorem rg {cN cL eC eN f:Addr} {fd:FuncData} (F:bZ K "leg_of" "Lane.leg_of" ie f fd) (Z:bP mg) (au:dD K mg "Lane" cN) (aB:aD K cN "logs") (ay:aD K cN "now") (aY:cu P w K mg base cN 1 "must_be_there" cn (qm cN cL eC)) (jb:cu P w K mg base cL 3 "leg_at" lT (y9 cL eN)) :
  aL P w K mg base (cV P w) 4 f fd eD (dn K (nV cN cL eC)):=by
 simp_arith [rW,(ai (a7 (bz (pl:=_) aY B hr (rv 0) (af (rv 1) ag)))
   (ar (aA (bz (pl:=_) jb B hr (av dG (aR au.cl aB (rv 0)) (rv 1)) (af (aR au.cl ay (rv 0)) ag)))))]
 ·obtain ⟨p,L,n,rfl,_⟩:=h;rfl
 obtain ⟨p,L,n,rfl,b,ok,q,qe⟩:=h
 have bo:=b.ob
 have bd:=b.dc
 refine hX ?_
 simp_all! [bo]
 refine ⟨dg _ _ _ _,p,L,n,rfl,b,λhn=>?_,qe⟩
 obtain ⟨c,hc,rfl,hg⟩:=ok.found hn
 have lo:=(b.lg c hc).o
 simp_all! [bo,tP,bd,ok.va hc,lo]
 refine ⟨Rm _ _,?_⟩
 simp_all! [bo,q9]
 refine ⟨c.a,c.r,c.w,c.g,L.t,rfl,b.lg c hc,ok.ne c hc,T4 (ok.len c hc) (by decide),ok.Ng,λl hl=>(ok.ck c hc l hl).OE,λq' hq=>(FJ (ok.gz c hc q' hq).1).mono (by decide),λ_ l hl=>?_,λz=>?_⟩
 ·rw [ok.Tj hc] at hl;cases hl
  exact q c hc rfl hg
 ·rw [ok.there hc hg] at z;cases z
abbrev fi:Stmt:=(L2.inClass (top 42) 24)
abbrev di:List Str:=["self"]
theorem rY:L2.aw ["self"] ["self"] (L2.aj fi):=dN
theorem F8 {L:Ln} (ok:ba L) {f:Str→aP} (hf:∀c∈L.cs,c.g=none→f c.n=c.cur):cY L.t (L.row.map λn=>(n,f n))=cY L.t L.fs:=by
 refine yG (by rw [TK];show (L.row.map λn=>n).Nodup;rw [VP];exact ok.rn) ok.LH λx=>?_
 rw [TB,TB]
 constructor
 ·rintro ⟨y,hy,rfl⟩
  obtain ⟨n,hn,rfl⟩:=TB.mp hy
  obtain ⟨c,hc,rfl,hg⟩:=ok.found hn
  exact ⟨(c.n,c.cur),TB.mpr ⟨c,Ln.c7.mpr ⟨hc,hg⟩,rfl⟩,by rw [hf c hc hg]⟩
 ·rintro ⟨y,hy,rfl⟩
  obtain ⟨c,hc,rfl⟩:=TB.mp hy
  obtain ⟨hc,hg⟩:=Ln.c7.mp hc
  refine ⟨(c.n,f c.n),TB.mpr ⟨c.n,(ok.rm c.n).mpr ?_,rfl⟩,by rw [hf c hc hg]⟩
  rw [er];exact TB.mpr ⟨c,Ln.c7.mpr ⟨hc,hg⟩,rfl⟩
def Ln.vO (L:Ln) (n:Str):aP:=((L.cs.find? λc=>decide (c.n=n)).map Cf.cur).getD ⟨0,0,0⟩
theorem ba.vO {L:Ln} (ok:ba L) {c:Cf} (hc:c∈L.cs):L.vO c.n=c.cur:=by
 unfold Ln.vO
 cases h:L.cs.find? λd=>decide (d.n=c.n) with
 | none=>have:=List.find?_eq_none.mp h c hc;simp at this
 | some d =>
  have h1:=List.mem_of_find?_eq_some h
  have h2:d.n=c.n:=by simpa using List.find?_some h
  rw [ok.uniq h1 hc h2];rfl
def iW (cN cL:Addr):cF:=λxs J Q E=>∃p L,xs=[.ref p]∧aX cN cL J p L∧ba L∧∀J' o',aX cN cL J' p { L with o:=o',row:=cY L.t L.fs }→Mv J J' (L.own p) (Ln.own { L with o:=o',row:=cY L.t L.fs } p)→Q .non J'
theorem rj {cN cL eC f:Addr} {fd:FuncData} (F:bZ K "settle" "Lane.settle" fi f fd) (Z:bP mg) (au:dD K mg "Lane" cN) (az:aD K cN "row") (ay:aD K cN "now") (bG:cu P w K mg base cN 4 "leg_of" eD (nV cN cL eC)) (zC:bp P w K mg base 6 "in_order" pz uW) :
  aL P w K mg base (cV P w) 7 f fd di (dn K (iW cN cL)):=by
 simp_arith [rY,(ar (d4 au.cl az (rv 0) (aS zC B hr (af (KS (L2.aj fi) ["self"] [("self",0)] rfl rfl rfl (dW (aR au.cl az (rv 0))) (λ_ _ _ _ _ _=>(rv 0)) (λ_ _ _ _ _ _=>(bz (pl:=_) bG HR hr (rv 1) (af (rv 0) ag)))) (af (aR au.cl ay (rv 0)) ag)))))]
 ·obtain ⟨p,L,rfl,_⟩:=h;rfl
 obtain ⟨p,L,rfl,b,ok,q⟩:=h
 have bo:=b.ob
 have br:=b.rw
 refine hX ?_
 simp_all! [Qo,bo,q_,br]
 intro D hD ep
 have bf:∀e2 kvs,aX cN cL (put J D (.dct kvs e2)) p L:=λe2 kvs=>b.fresh hD
 have hrl:=ok.rl
 refine ⟨λi J2=>∃e2,J2=put J D (.dct (bJ ((L.row.take i).map λn=>(n,L.vO n))) e2),⟨ep,rfl⟩,?_,?_,?_⟩
 ·rintro i J2 ⟨e2,rfl⟩;exact (bf e2 _).rw
 ·rintro i x J2 hx ⟨e2,rfl⟩
  have hi:i < L.row.length:=by have:=(TC.mp hx).1;simpa using this
  rw [TN,Tz hi] at hx
  cases hx
  have hn:L.row[i]∈L.row:=Uk hi
  refine fF (bf e2 _).ob ⟨dg _ _ _ _,p,L,L.row[i],rfl,bf e2 _,ok,λc hc e hg=>?_,λz=>absurd hn z⟩
  refine ⟨_,e2,L.row[i],rfl,aq,a_ (by simp only [bJ,Tx,T'];omega),λep'=>⟨ep',?_⟩⟩
  rw [eG]
  congr 2
  have et:L.row.take (i + 1)=L.row.take i ++ [L.row[i]]:=by rw [Ub,Tz hi];rfl
  rw [et,TM,TL,Ux,← e,ok.vO hc]
  refine AM (f:=aP.V) (l:=c.cur) λz=>?_
  rw [TK] at z
  obtain ⟨m,hm,e3⟩:=TB.mp z
  have hnd:(L.row.take (i + 1)).Nodup:=ok.rn.sublist (Uy _ _)
  rw [et] at hnd
  exact (eX hnd).2 (by rw [← e,← e3];exact hm)
 ·rintro J2 ⟨e2,rfl⟩
  rw [Tx,Uc]
  refine fF (bf e2 _).ob (fG (q9 _ _ _) ⟨D,_,e2,L.t,rfl,aq,?_,by rw [Tx];omega,ok.Ng,?_,λo' ho'=>?_⟩)
  ·rw [TK];show (L.row.map λn=>n).Nodup;rw [VP];exact ok.rn
  ·intro x hx
   obtain ⟨n,hn,rfl⟩:=TB.mp hx
   obtain ⟨c,hc,rfl,hg⟩:=ok.found hn
   show sH 900 (L.vO c.n)
   rw [ok.vO hc]
   exact (ok.ck c hc _ (Cf.i7 (ok.ne c hc)).2).OE
  ·rw [F8 ok λc hc _=>ok.vO hc]
   have b2:aX cN cL (put (put J D (.dct (bJ (L.row.map λn=>(n,L.vO n))) e2)) o' (.lst ((cY L.t L.fs).map .str))) p L:=(bf e2 _).fresh ho'
   have jo:J o'=none:=by
    by_cases z:o'=D
    ·subst z;exact hD
    ·rw [ak z] at ho';exact ho'
   refine fF b2.ob ⟨by show (3:Nat) < 1000;decide,?_⟩
   rw [B9]
   refine q _ o' (b2.M6 aq λc hc e=>?_) ?_
   ·have:=(b.lg c hc).l;rw [e,jo] at this;cases this
   ·refine ((Mv.new hD).trans (Mv.tQ ho')).trans (gj (.inl (.inl rfl)) λa ow=>.inl ?_)
    rcases ow with h | h | h | h
    ·exact .inl (.inl h)
    ·exact .inl (.inr (.inl h))
    ·exact .inr h
    ·exact .inl (.inr (.inr (.inr h)))
abbrev gW:Stmt:=(top 33)
abbrev fS:List Str:=["text"]
theorem wZ:L2.aw ["text"] ["text"] (L2.aj gW):=dN
def cG:Str:="abcdefghijklmnopqrstuvwxyz0123456789"
def good (y:Str):Bool:=decide (1≤y.cps.size) && decide (y.cps.size≤8) && y.cps.toList.all (d6 cG)
def GL (T:Addr):Sp:=λvs H Q _=>∃y:Str,vs=[.str y]∧y.length≤sizeLine∧H T=some (.ext (eh T))∧Q (.bl (good y)) H
theorem v3 {T f c:Addr} {fd:FuncData} (F:Hv K mg "good_name" gW T f fd c) (Z:Ed mg) (Bm:BMain mg base) {lG qr:Tok} (iF:mg "LONGEST"=some (.int 8 lG)) (m4:mg "SIGNS"=some (.str "abcdefghijklmnopqrstuvwxyz0123456789" qr)) :
  aL P w K mg base qw 1 f fd fS (GL T):=by
 refine Tq F wZ (λvs H Q E h=>?_) (λA outer s H vs Q E hr h=>?_)
 ·obtain ⟨y,rfl,_⟩:=h
  rfl
 obtain ⟨y,rfl,hz,hT,q⟩:=h
 refine ⟨_,(aW (nB (Kx (Ce (du B4 (dP mY rfl Z.len boot_len (aT (pv 0) bH)) aM (eY _)) (wA (du Kq (dP mY rfl Z.len boot_len (aT (pv 0) bH)) (qd (v:=.int 8) rfl iF ⟨_,rfl⟩) (eY _))))) (bI (dH yK)) fU)
   (bI (dH (F' rfl Bm rfl F.tab hr rfl Z.all m4 (pv 0))))),?_⟩
 have el:y.cps.size=y.length:=rfl
 refine ⟨_,rfl,y,rfl,hz,_,_,rfl,rfl,_,rfl,Fn (λe=>?_) (λe=>⟨_,rfl,y,rfl,hz,_,_,rfl,rfl,_,rfl,Fn (λe2=>?_) (λe2=>?_)⟩)⟩
 ·have e:(y.length:Int) < 1:=of_decide_eq_true e
  have z:good y=false:=by
   unfold good
   rw [decide_eq_false (show ¬ 1≤y.cps.size by omega)]
   rfl
  show Q (.bl false) H
  rw [← z]
  exact q
 ·have e2:(8:Int) < (y.length:Int):=of_decide_eq_true e2
  have z:good y=false:=by
   unfold good
   rw [decide_eq_false (show ¬ y.cps.size≤8 by omega),Vt]
   rfl
  show Q (.bl false) H
  rw [← z]
  exact q
 ·have e:¬ (y.length:Int) < 1:=of_decide_eq_false (Vz.mpr e)
  have e2:¬ (8:Int) < (y.length:Int):=of_decide_eq_false (Vz.mpr e2)
  have z:good y=y.cps.toList.all (d6 cG):=by
   unfold good
   rw [decide_eq_true (show 1≤y.cps.size by omega),decide_eq_true (show y.cps.size≤8 by omega)]
   rfl
  refine ⟨_,rfl,y,rfl,hT,?_⟩
  show Q (.bl (y.cps.toList.all (d6 cG))) H
  rw [← z]
  exact q
def Cw (T:Addr):cF:=λxs J Q _=>∃y:Str,xs=[.str y]∧y.length≤sizeLine∧J T=some .tab∧Q (.bl (good y)) J
theorem qZ {T:Addr} (C:sG P w K mg base 1 "good_name" fS (GL T)):bp P w K mg base 1 "good_name" fS (Cw T):=C.lift λxs J vs H Q2 E2 Q E rs r ⟨y,ex,hl,hT,q⟩ kn=>by
 subst ex
 obtain ⟨v,rfl,r1⟩:=Mu rs
 cases r1
 exact ⟨y,rfl,hl,r _ _ hT,kn (.bl _) J _ H rfl r .refl q⟩
theorem BK (L:Ln) {L':Ln} {c:Cf} (h:L'.cs=L.cs ++ [c]) (hg:c.g=none):L'.fs=L.fs ++ [(c.n,c.cur)]:=by
 unfold Ln.fs Ln.DX
 rw [h,U5,TM]
 simp [hg]
def Ln.joined (L:Ln) (n:Str) (x v:Int) (L':Ln):Prop:=∃a r,L'.cs=L.cs ++ [⟨n,a,r,[⟨L.t,(x:Rat),v⟩],none⟩]∧L'.t=L.t
def NA (x v:Int):Prop:=x.natAbs≤1000000∧v.natAbs≤1000
def CF (cN cL T eB eF eT eU:Addr):cF:=λxs J Q E=>∃p L n x v,xs=[.ref p,.str n,.int x,.int v]∧aX cN cL J p L∧bU L∧J T=some .tab∧n.length≤sizeLine∧L.cs.length < 100∧(good n=false→E eB J)∧(good n=true→¬ NA x v→E eF J) ∧
 (good n=true→NA x v→n∈L.cs.map Cf.n→E eT J)∧(good n=true→NA x v→n ∉ L.cs.map Cf.n→12≤L.row.length→E eU J) ∧
 (good n=true→NA x v→n ∉ L.cs.map Cf.n→L.row.length < 12→∀J' L',aX cN cL J' p L'→bU L'→L.joined n x v L'→Mv J J' (L.own p) (L'.own p)→Q .non J')
abbrev kQ:Stmt:=(L2.inClass (top 42) 1)
abbrev nj:List Str:=["self","name","place","pace"]
theorem wW:L2.aw ["self","name","place","pace"] ["self","name","place","pace"] (L2.aj kQ):=dN
theorem aX.add {cN cL:Addr} {J:Hq} {p:Addr} {L:Ln} {c:Cf} {ep:Nat} (h:aX cN cL J p L) (hc:xH cL J c.a c.r c.w c.g) (h1:c.r ∉ L.cs.map Cf.r) (h2:c.r≠L.o) :
  aX cN cL (put (put J L.d (.dct ((L.cs ++ [c]).map λc=>(c.n,PV.ref c.a)) ep)) L.o (.lst ((L.row ++ [c.n]).map .str))) p ⟨L.t,L.d,ep,L.o,L.cs ++ [c],L.row ++ [c.n]⟩:=by
 have n1:c.a≠L.d:=by intro e;have:=h.dc;rw [← e,hc.o] at this;cases this
 have n2:c.a≠L.o:=by intro e;have:=h.rw;rw [← e,hc.o] at this;cases this
 have n3:c.r≠L.d:=by intro e;have:=h.dc;rw [← e,hc.l] at this;cases this
 refine ⟨?_,?_,aq,λx hx=>?_,?_,λx hx=>?_⟩
 ·rw [ak (Ne.symm h.Iz),ak (Ne.symm h.Iw)];exact h.ob
 ·show put (put J L.d _) L.o _ L.d=_
  rw [ak h.Rr];exact aq
 ·rcases TQ.mp hx with hx | hx
  ·exact ⟨by rw [ak (h.Rq hx),ak (h.SS hx)];exact (h.lg x hx).o,by rw [ak (h.ao x hx),ak (h.SU hx)];exact (h.lg x hx).l⟩
  ·rw [TR] at hx;subst hx
   exact ⟨by rw [ak n2,ak n1];exact hc.o,by rw [ak h2,ak n3];exact hc.l⟩
 ·show ((L.cs ++ [c]).map Cf.r).Nodup
  rw [TM,TL,Ux,Uz]
  exact ⟨h.ap,by simp,λx hx y hy e=>by rw [TR] at hy;subst hy;subst e;exact h1 hx⟩
 ·show x.r≠L.o
  rcases TQ.mp hx with hx | hx
  ·exact h.ao x hx
  ·rw [TR] at hx;subst hx;exact h2
theorem ba.add {L:Ln} (h:ba L) {c:Cf} {l:aP} {ep:Nat} (hw:c.w=[l]) (hg:c.g=none) (hl:sM l) (hm:l.m=L.t) (hn:c.n ∉ L.cs.map Cf.n) (hr:L.row.length < 12) (hs:L.cs.length < 100):ba ⟨L.t,L.d,ep,L.o,L.cs ++ [c],L.row ++ [c.n]⟩:=by
 have hf:Ln.fs ⟨L.t,L.d,ep,L.o,L.cs ++ [c],L.row ++ [c.n]⟩=L.fs ++ [(c.n,c.cur)]:=BK L rfl hg
 have all:∀{P:Cf→Prop},(∀x∈L.cs,P x)→P c→∀x∈L.cs ++ [c],P x:=λh1 h2 x hx=>by
  rcases TQ.mp hx with hx | hx
  ·exact h1 x hx
  ·rw [TR] at hx;subst hx;exact h2
 refine ⟨?_,all h.ne (by rw [hw];simp),all h.le (by rw [hw];simp [hm]),all h.ck (by rw [hw];simpa using hl),all h.len (by rw [hw];show (1:Nat)≤200;decide),all h.gz (by rw [hg];intro q e;cases e),h.t0,h.ts,by show (L.cs ++ [c]).length≤100;rw [T7];simp;omega,λn=>?_,?_,by show (L.row ++ [c.n]).length≤12;rw [T7];simp;omega⟩
 ·show ((L.cs ++ [c]).map Cf.n).Nodup
  rw [TM,TL,Ux,Uz]
  exact ⟨h.nd,by simp,λx hx y hy e=>by rw [TR] at hy;subst hy;subst e;exact hn hx⟩
 ·rw [hf,TM,TQ,TQ,h.rm n];simp
 ·show (L.row ++ [c.n]).Nodup
  rw [Uz]
  refine ⟨h.rn,by simp,λx hx y hy e=>?_⟩
  rw [TR] at hy
  rw [e,hy] at hx
  have:=(h.rm _).mp hx
  rw [er,TB] at this
  obtain ⟨d,hd,e⟩:=this
  exact hn (TB.mpr ⟨d,(Ln.c7.mp hd).1,e⟩)
theorem bU.settled {L:Ln} (h:ba L) (o':Addr):bU { L with o:=o',row:=cY L.t L.fs }:=by
 have hl:(cY L.t L.fs).length≤12:=by
  have h1:(cY L.t L.fs).Perm L.row:=(List.perm_ext_iff_of_nodup (rq h.LH) h.rn).mpr λn=>by rw [yJ];exact (h.rm n).symm
  rw [h1.length_eq];exact h.rl
 exact ⟨⟨h.nd,h.ne,h.le,h.ck,h.len,h.gz,h.t0,h.ts,h.many,λn=>yJ,rq h.LH,hl⟩,rfl⟩
theorem vV {cN cL T eB eF eT eU f:Addr} {fd:FuncData} (F:bZ K "join" "Lane.join" kQ f fd) (Z:bP mg) (au:dD K mg "Lane" cN) (az:aD K cN "row") (ay:aD K cN "now") (aB:aD K cN "logs") {jG fZ xu:Tok} (gg:mg "FARTHEST"=some (.int 1000000 jG)) (d8:mg "FASTEST"=some (.int 1000 fZ)) (qS:mg "MOST"=some (.int 12 xu))
  (iy:Own K mg "BadName" eB) (fk:Own K mg "TooFar" eF) (mR:Own K mg "Taken" eT) (qD:Own K mg "Full" eU) (jV:bp P w K mg base 1 "good_name" fS (Cw T)) (ur:vq P w K mg base cL 1 "Log" fH (xi cL)) (bh:cu P w K mg base cN 7 "settle" di (iW cN cL)) :
  aL P w K mg base (cV P w) 8 f fd nj (dn K (CF cN cL T eB eF eT eU)):=by
 simp_arith [wW,(ai (aZ (cP (bN (aS jV B hr (af (rv 1) ag)))) (ar (dQ iy rfl cH B.kn rfl (af bM ag))) aK)
   (ai (aZ (dR (kO (aG ph (aQ zY rfl Z.abs boot_abs (af (rv 2) ag)) (fV (v:=.int 1000000) (.int 1000000) rfl gg ⟨_,rfl⟩ (λ_ _=>rfl))) (gA (aG ph (aQ zY rfl Z.abs boot_abs (af (rv 3) ag)) (fV (v:=.int 1000) (.int 1000) rfl d8 ⟨_,rfl⟩ (λ_ _=>rfl)))))) (ar (dQ fk rfl cH B.kn rfl (af bM ag))) aK)
   (ai (aZ (aG MA (rv 1) (aR au.cl aB (rv 0))) (ar (dQ mR rfl cH B.kn rfl (af bM ag))) aK)
   (ai (aZ (aG F6 (aQ b_ rfl Z.len boot_len (af (aR au.cl az (rv 0)) ag)) (fV (v:=.int 12) (.int 12) rfl qS ⟨_,rfl⟩ (λ_ _=>rfl))) (ar (dQ qD rfl cH B.kn rfl (af bM ag))) aK)
   (ai (rQ nX (aR au.cl aB (rv 0)) (rv 1) (Cn ur B hr (af (aR au.cl ay (rv 0)) (af (cx (af (rv 2) (af ah ag))) (af (rv 3) ag)))))
   (ai (a7 (nE PySem.F.plainAttrs_list PySem.F.slot_list_append PySem.F.type_list_append lj (aR au.cl az (rv 0)) (af (rv 1) ag)))
   (ar (a7 (bC (pl:=_) bh B hr (rv 0))))))))))]
 ·obtain ⟨p,L,n,x,v,rfl,_⟩:=h;rfl
 obtain ⟨p,L,n,x,v,rfl,b,ok,hT,hnl,hcs,qb,qf,qt,qu,q⟩:=h
 have bo:=b.ob
 have bd:=b.dc
 have br:=b.rw
 refine hX ?_
 simp_all! []
 refine ⟨n,rfl,hnl,hT,?_⟩
 cases hg:good n with
 | false =>
  simp_all! [fJ]
  exact qb hg
 | true =>
 simp_all! []
 by_cases hB:NA x v
 ·obtain ⟨hx,hv⟩:=id hB
  rw [if_neg (by split <;> omega),if_neg (by split <;> omega)]
  simp_all! [bo,tP,bd,ok.S8]
  by_cases hm:n∈L.cs.map Cf.n
  ·rw [if_pos hm]
   simp_all! [fJ]
   exact qt hg hB hm
  rw [if_neg hm]
  simp_all! [bo,q_,br,Tx]
  by_cases hr12:12≤L.row.length
  ·rw [if_pos (by omega)]
   simp_all! [fJ]
   exact qu hg hB hm hr12
  rw [if_neg (by omega)]
  simp_all! [bo,q9]
  intro a ha
  refine ⟨a,⟨L.t,(x:Rat),v⟩,rfl,aq,λr hr'=>?_⟩
  have nra:r≠a:=by intro e;subst e;rw [aq] at hr';cases hr'
  have jr:J r=none:=by rw [ak nra] at hr';exact hr'
  have b1:aX cN cL (put (put (put J a (.ins cL [])) r (.lst [(aP.mk L.t (x:Rat) v).V])) a (.ins cL [("rows",.ref r),("gone",.non)])) p L:=b.keep λc u ow e=>by
   have n1:c≠a:=λz=>by subst z;rw [ha] at e;cases e
   have n2:c≠r:=λz=>by subst z;rw [jr] at e;cases e
   rw [ak n1,ak n2,ak n1];exact e
  have l1:xH cL (put (put (put J a (.ins cL [])) r (.lst [(aP.mk L.t (x:Rat) v).V])) a (.ins cL [("rows",.ref r),("gone",.non)])) a r [⟨L.t,(x:Rat),v⟩] none:=⟨aq,by rw [ak nra];exact aq⟩
  have mv1:Mv J (put (put (put J a (.ins cL [])) r (.lst [(aP.mk L.t (x:Rat) v).V])) a (.ins cL [("rows",.ref r),("gone",.non)])) (L.own p) (λc=>(L.own p c∨c=a)∨c=r) :=
   ((Mv.tQ ha).trans (Mv.tQ hr')).trans (gj (.inl (.inr rfl)) λc h=>.inl h)
  generalize (put (put (put J a (.ins cL [])) r (.lst [(aP.mk L.t (x:Rat) v).V])) a (.ins cL [("rows",.ref r),("gone",.non)]))=J1 at b1 l1 mv1 ⊢
  have bo1:=b1.ob
  have bd1:=b1.dc
  simp_all! [bo1,tP,bd1]
  refine ⟨a_ (by rw [Tx];omega),λep'=>?_⟩
  have epu:sJ (L.cs.map λc=>(c.n,PV.ref c.a)) n (PV.ref a)=(L.cs ++ [Cf.mk n a r [⟨L.t,(x:Rat),v⟩] none]).map λc=>(c.n,PV.ref c.a):=by
   have e:(L.cs.map λc=>(c.n,PV.ref c.a))=((L.cs.map λc=>(c.n,c.a)).map λx=>(x.1,PV.ref x.2)):=by rw [TK];rfl
   rw [e,AM (f:=PV.ref) (l:=a) (by rw [TK];exact hm),TM,TM,TK];rfl
  rw [epu]
  have hrs:r ∉ L.cs.map Cf.r:=λh=>by
   obtain ⟨c,hc,e⟩:=TB.mp h
   have:=(b.lg c hc).l;rw [e,jr] at this;cases this
  have hro:r≠L.o:=λe=>by have:=b.rw;rw [← e,jr] at this;cases this
  have b2:=b1.add (c:=Cf.mk n a r [⟨L.t,(x:Rat),v⟩] none) (ep:=ep') l1 hrs hro
  have ok2:ba ⟨L.t,L.d,ep',L.o,L.cs ++ [Cf.mk n a r [⟨L.t,(x:Rat),v⟩] none],L.row ++ [n]⟩:=ok.toba.add (c:=Cf.mk n a r [⟨L.t,(x:Rat),v⟩] none) rfl rfl (sM.new ok.t0 ok.ts hx hv) rfl hm (by omega) hcs
  have bo2:(put J1 L.d (HQ.dct ((L.cs ++ [Cf.mk n a r [⟨L.t,(x:Rat),v⟩] none]).map λc=>(c.n,PV.ref c.a)) ep')) p=some (.ins cN [("now",fr L.t),("logs",.ref L.d),("row",.ref L.o)]):=by rw [ak (Ne.symm b1.Iw)];exact b1.ob
  have br2:(put J1 L.d (HQ.dct ((L.cs ++ [Cf.mk n a r [⟨L.t,(x:Rat),v⟩] none]).map λc=>(c.n,PV.ref c.a)) ep')) L.o=some (.lst (L.row.map .str)):=by rw [ak (Ne.symm b1.Rr)];exact b1.rw
  have mv2:Mv J1 (put (put J1 L.d (HQ.dct ((L.cs ++ [Cf.mk n a r [⟨L.t,(x:Rat),v⟩] none]).map λc=>(c.n,PV.ref c.a)) ep')) L.o (.lst ((L.row ++ [n]).map .str))) (λc=>(L.own p c∨c=a)∨c=r) (Ln.own ⟨L.t,L.d,ep',L.o,L.cs ++ [Cf.mk n a r [⟨L.t,(x:Rat),v⟩] none],L.row ++ [n]⟩ p):=by
   refine (gj (S':=λc=>(L.own p c∨c=a)∨c=r) (.inl (.inl (.inr (.inl rfl)))) λc h=>.inl h).trans (gj (.inl (.inl (.inr (.inr (.inl rfl))))) λc h=>.inl ?_)
   rcases h with h | h | h | ⟨d,hd,h⟩
   ·exact .inl (.inl (.inl h))
   ·exact .inl (.inl (.inr (.inl h)))
   ·exact .inl (.inl (.inr (.inr (.inl h))))
   ·rcases TQ.mp hd with hd | hd
    ·exact .inl (.inl (.inr (.inr (.inr ⟨d,hd,h⟩))))
    ·rw [TR] at hd;subst hd
     rcases h with h | h
     ·exact .inl (.inr h)
     ·exact .inr h
  have mv3:=mv1.trans mv2
  simp_all! [bo2,q_,br2]
  refine ⟨a_ (by rw [Tx];omega),?_⟩
  rw [show L.row.map PV.str ++ [PV.str n]=(L.row ++ [n]).map .str by rw [TM];rfl]
  have bo3:=b2.ob
  generalize (put (put J1 L.d (HQ.dct ((L.cs ++ [Cf.mk n a r [⟨L.t,(x:Rat),v⟩] none]).map λc=>(c.n,PV.ref c.a)) ep')) L.o (.lst ((L.row ++ [n]).map .str)))=J2 at b2 mv3 bo3 ⊢
  simp_all! [bo3]
  refine ⟨dg _ _ _ _,p,_,rfl,b2,ok2,λJ' o' b' mv'=>?_⟩
  exact q hg hB hm (by omega) J' _ b' (bU.settled ok2 o') ⟨a,r,rfl,rfl⟩ (mv3.trans mv')
 ·have hf:=qf hg hB
  by_cases h1:x.natAbs≤1000000
  ·have h2:¬ v.natAbs≤1000:=λh=>hB ⟨h1,h⟩
   rw [if_neg (by split <;> omega),if_pos (by split <;> omega)]
   simp_all! [fJ]
   exact hf
  ·rw [if_pos (by split <;> omega)]
   simp_all! [fJ]
   exact hf
abbrev jy:Stmt:=(L2.inClass (top 42) 7)
abbrev lQ:List Str:=["self"]
theorem ud:L2.aw ["self"] ["self"] (L2.aj jy):=dN
def zf (cN cL:Addr):cF:=λxs J Q _=>∃p L,xs=[.ref p]∧aX cN cL J p L∧Q (fr L.t) J
theorem tW {cN cL f:Addr} {fd:FuncData} (F:bZ K "clock" "Lane.clock" jy f fd) (Z:bP mg) (au:dD K mg "Lane" cN) (ay:aD K cN "now"):aL P w K mg base (cV P w) 1 f fd lQ (dn K (zf cN cL)):=by
 simp_arith [ud,(ar (aA (aR au.cl ay (rv 0))))]
 ·obtain ⟨p,L,rfl,_⟩:=h;rfl
 obtain ⟨p,L,rfl,b,q⟩:=h
 have bo:=b.ob
 refine hX ?_
 simp_all! [bo,q9]
 exact q
abbrev jC:Stmt:=(L2.inClass (top 42) 8)
abbrev h_:List Str:=["self"]
theorem ug:L2.aw ["self"] ["self"] (L2.aj jC):=dN
def si (cN cL:Addr):cF:=λxs J Q _=>∃p L,xs=[.ref p]∧aX cN cL J p L∧(Q (.fl (L.row.map .str)) J∨∀l,J l=none→Q (.ref l) (put J l (.lst (L.row.map .str))))
theorem t4 {cN cL f:Addr} {fd:FuncData} (F:bZ K "order" "Lane.order" jC f fd) (Z:bP mg) (au:dD K mg "Lane" cN) (az:aD K cN "row"):aL P w K mg base (cV P w) 1 f fd h_ (dn K (si cN cL)):=by
 simp_arith [ug,(ar (aA (cZ iE rfl Z.list boot_list (af (aR au.cl az (rv 0)) ag)))),F]
 ·obtain ⟨p,L,rfl,_⟩:=h;rfl
 obtain ⟨p,L,rfl,b,q⟩:=h
 have bo:=b.ob
 have br:=b.rw
 refine hX ?_
 simp_all! [bo,br,q_]
 intro l hl
 rcases q with q | q
 ·exact Fg.qQ (j7 hl) aq hl q
 ·exact Fg.same (q l hl)
def aF.v (b:aF):PV:=.tup [fr b.m,.str b.h,.str b.f]
theorem Fp (J:Hq) (b:aF):fB J b.v (.int 0)=some (fr b.m):=dC _ _
theorem Fq (J:Hq) (b:aF):fB J b.v (.int 1)=some (.str b.h):=fM _ _ _
theorem Fs (J:Hq) (b:aF):fB J b.v (.int 2)=some (.str b.f):=jY _ _ _ _
theorem R9 (J:Hq) (b:aF):CV J b.v=some "tuple":=rfl
theorem Oh (J:Hq) (b:aF):yi J b.v=some 3:=rfl
theorem Kw (b:aF):mK b.v=true:=by simp [aF.v,Cc,lA,yP,wx,wy]
theorem QQ (b:aF):HJ b.v=True:=eq_true ⟨Kw b,by simp [aF.v,fr,fI,eQ,dep,df]⟩
theorem QU (a b:aF):eqQ a.v b.v=decide (a=b):=by
 unfold aF.v
 rw [vF,dM,dM,dM,pZ,BG,eq_str,eq_str,UN,← US,← US]
 apply decide_eq_decide.mpr
 cases a;cases b
 simp [aF.mk.injEq]
theorem P5 (a:Rat) (h f:Str):PV.tup [fr a,.str h,.str f]=(aF.mk a h f).v:=rfl
theorem EO (J:Hq) (b:aF):∃xs,b.v=.tup xs∧¬ (HT.d5 xs.length 0 (some 1)=0∧HT.d5 xs.length xs.length none=xs.length)∧md xs (some 1) none=[b.h,b.f].map .str:=⟨_,rfl,λh=>absurd h.1 (show HT.d5 3 0 (some 1)≠0 by decide),rfl⟩
abbrev il:Stmt:=(top 21)
abbrev kH:List Str:=["one","other"]
theorem rZ:L2.aw ["one","other"] ["one","other"] (L2.aj il):=dN
def xa:cF:=λxs J Q _=>∃a b:aF,xs=[a.v,b.v]∧Sz 9000 a.m∧Sz 9000 b.m∧Q (.bl (a.lt b)) J
theorem Rg (a b c d:Str):mh [a,b] [c,d]=if a=c then decide (slt b d) else decide (slt a c):=by
 rw [oA]
 by_cases h:a=c
 ·rw [if_pos h,if_pos h,oA]
  by_cases k:b=d
  ·rw [if_pos k,m9];subst k;exact (decide_eq_false (by unfold slt;exact List.lt_irrefl _)).symm
  ·rw [if_neg k];rfl
 ·rw [if_neg h,if_neg h];rfl
theorem pS {f:Addr} {fd:FuncData} (F:bZ K "rings_ahead" "rings_ahead" il f fd) (Z:bP mg) (dX:bp P w K mg base 1 "less" fT dA):aL P w K mg base (cV P w) 2 f fd kH (dn K xa):=by
 simp_arith [rZ,(ai (aZ (aG (km hr.aU) (av ax (rv 0) ah) (av ax (rv 1) ah)) (ar (aA (aS dX B hr (af (av ax (rv 0) ah) (af (av ax (rv 1) ah) ag))))) aK)
   (ar (aA (fb (IL hr.Nk) (iS A_ (rv 0) (ju ah) lD) (iS A_ (rv 1) (ju ah) lD)))))]
 ·obtain ⟨a,b,rfl,_⟩:=h;rfl
 obtain ⟨a,b,rfl,sa,sb,q⟩:=h
 refine hX ?_
 simp_arith! [bS,Fp,Fq,Fs,dA,KC]
 unfold aF.lt at q
 by_cases e:a.m=b.m
 ·rw [if_pos e] at q ⊢
  obtain ⟨xs,h1,h2,h3⟩:=EO J a
  obtain ⟨ys,h4,h5,h6⟩:=EO J b
  refine Ax h1 ⟨h2,?_⟩
  refine Ax h4 ⟨h5,?_⟩
  exact ⟨[a.h,a.f],[b.h,b.f],congrArg PV.tup h3,congrArg PV.tup h6,by rw [Rg];exact q⟩
 ·rw [if_neg e] at q ⊢
  exact ⟨sa,sb,q⟩
theorem Oz (v:PV):([("rows",v)]:List (Str × PV)).lookup ("rows":Str)=some v:=rfl
theorem Mb {m:Str} (v:PV) (h:(m == ("rows":Str))=false):([("rows",v)]:List (Str × PV)).lookup m=none:=by rw [Ug,h];rfl
theorem Rh (v:PV):([("rows",v)]:List (Str × PV)).lookup ("drop":Str)=none:=Mb v (by decide +kernel)
theorem OA (v:PV):([("rows",v)]:List (Str × PV)).lookup ("put":Str)=none:=Mb v (by decide +kernel)
theorem OB (v:PV):([("rows",v)]:List (Str × PV)).lookup ("told":Str)=none:=Mb v (by decide +kernel)
theorem Jd {J:Hq} {r p:Addr} {a b c:HQ} (h:r≠p):put (put (put J r a) p b) r c=put (put J r c) p b:=by
 rw [Gk (Ne.symm h),eG]
structure Hg (cB:Addr) (J:Hq) (p r:Addr) (rows:List aF):Prop where
 o:J p=some (.ins cB [("rows",.ref r)])
 l:J r=some (.lst (rows.map aF.v))
abbrev ff:Stmt:=(L2.inClass (top 22) 0)
abbrev eA:List Str:=["self"]
theorem nL:L2.aw ["self"] ["self"] (L2.aj ff):=dN
def xb (cB:Addr):cF:=λxs J Q _=>∃p,xs=[.ref p]∧J p=some (.ins cB [])∧∀r,J r=none→Q .non (put (put J r (.lst [])) p (.ins cB [("rows",.ref r)]))
theorem tS {cB f:Addr} {fd:FuncData} (F:bZ K "__init__" "Bells.__init__" ff f fd) (bD:dD K mg "Bells" cB) (aV:aD K cB "rows"):aL P w K mg base (cV P w) 1 f fd eA (dn K (xb cB)):=by
 simp_arith [nL,(ar (d4 bD.cl aV (rv 0) (oN ag)))]
 ·obtain ⟨p,rfl,_⟩:=h;rfl
 obtain ⟨p,rfl,hp,q⟩:=h
 refine hX ?_
 simp_arith! [bS]
 intro r hr'
 have ne:p≠r:=by intro e;subst e;rw [hp] at hr';cases hr'
 exact fF (x:=[]) (by rw [ak ne];exact hp) ⟨by decide,q r hr'⟩
abbrev fW:Stmt:=(L2.inClass (top 22) 2)
abbrev lO:List Str:=["self","hind","fore"]
theorem ip:L2.aw ["self","hind","fore","kept","found"] ["self","hind","fore"] (L2.aj fW):=dN
def Cs (cB:Addr):cF:=λxs J Q _=>∃p r rows h f,xs=[.ref p,.str h,.str f]∧Hg cB J p r rows∧rows.length≤900∧∀r',J r'=none→Q (.bl (decide ((dJ h f rows).length < rows.length))) (put (put J r' (.lst ((dJ h f rows).map aF.v))) p (.ins cB [("rows",.ref r')]))
def tail3:PV→PV
 | .tup xs=>.tup (md xs (some 1) none)
 | _=>.non
def BY (h f:Str) (x:PV):Bool:=!eqQ (tail3 x) (.tup [.str h,.str f])
theorem LQ (h f:Str) (b:aF):BY h f b.v=!yX h f b:=by
 show (!eqQ (.tup [.str b.h,.str b.f]) (.tup [.str h,.str f]))=_
 rw [vF,dM,dM,pZ,eq_str,eq_str,UN,← US]
 rfl
theorem EZ (h f:Str):∀rows:List aF,((rows.map aF.v).filter (BY h f)).map (λx=>x)=(dJ h f rows).map aF.v
 | []=>rfl
 | b :: rows=>by
  have ih:=EZ h f rows
  unfold dJ at ih ⊢
  rw [TL,Uh,Uh,LQ]
  cases yX h f b <;> simp at ih ⊢ <;> exact ih
theorem tR {cB f:Addr} {fd:FuncData} (F:bZ K "drop" "Bells.drop" fW f fd) (Z:bP mg) (bD:dD K mg "Bells" cB) (aV:aD K cB "rows"):aL P w K mg base (cV P w) 1 f fd lO (dn K (Cs cB)):=by
 simp_arith [ip,(ai (Jp (i:=3) (L2.aj fW) ["self","hind","fore","kept","found"] [("hind",1),("fore",2)] rfl rfl rfl ip.nd rfl (Or.inl rfl) (dW (aR bD.cl aV (rv 0))) (λ_ _ _ _ _ _=>(rv 0)) (λ_ _ _ _ _ _=>(aG (km hr.aU) (iS A_ (rv 0) (ju ah) lD) (cx (af (rv 1) (af (rv 2) ag))))))
   (ai (aI (i:=4) ip.nd (fb iK (aQ b_ rfl Z.len boot_len (af (rv 3) ag)) (aQ b_ rfl Z.len boot_len (af (aR bD.cl aV (rv 0)) ag))))
   (ai (d4 bD.cl aV (rv 0) (rv 3))
   (ar (aA (rv 4))))))]
 ·obtain ⟨p,r,rows,h,f,rfl,_⟩:=h;rfl
 obtain ⟨p,r,rows,h,f,rfl,b,hl,q⟩:=h
 have bo:=b.o
 have bl:=b.l
 refine hX ?_
 simp_arith! [bS,MT,bo,bl,Oz]
 refine ⟨BY h f,λx=>x,⟨by rw [Tx];exact a_ (by omega),λJ' sub=>⟨sub _ _ bl,λx hx=>?_⟩⟩,λr' hr'=>?_⟩
 ·obtain ⟨b,_,rfl⟩:=TB.mp hx
  obtain ⟨xs,h1,h2,h3⟩:=EO J' b
  have hk:BY h f b.v=!eqQ (.tup (md xs (some 1) none)) (.tup [.str h,.str f]):=by rw [h1];rfl
  simp_arith! [bS]
  refine ⟨Ax h1 ⟨h2,?_⟩,λ_=>trivial⟩
  simp_arith! [bS]
  rw [hk,h3]
  refine ⟨⟨by simp [mK,kJ],by simp [fI,eQ,dep,df]⟩,by simp [mK,kJ],rfl⟩
 ·have ne:p≠r':=by intro e;subst e;rw [bo] at hr';cases hr'
  have nr:r≠r':=by intro e;subst e;rw [bl] at hr';cases hr'
  simp_arith! [bS,ak ne,ak nr,bo,bl,Oz,EZ,Tx,Int.ofNat_lt]
  exact ⟨by decide,q r' hr'⟩
abbrev kP:Stmt:=(L2.inClass (top 22) 1)
abbrev jg:List Str:=["self","moment","hind","fore"]
theorem dy:L2.aw ["self","moment","hind","fore","bell","low","high","middle"] ["self","moment","hind","fore"] (L2.aj kP):=dN
def A7 (cB:Addr):cF:=λxs J Q _=>∃p r rows m h f,xs=[.ref p,fr m,.str h,.str f]∧Hg cB J p r rows∧iY rows∧rows.length≤800∧Sz 9000 m∧(∀x∈rows,Sz 9000 x.m) ∧
 ∀r',J r'=none→Q .non (put (put J r' (.lst ((lJ ⟨m,h,f⟩ (dJ h f rows)).map aF.v))) p (.ins cB [("rows",.ref r')]))
theorem JW (a b:Nat):((a:Int) + (b:Int)).fdiv 2=(((a + b) / 2:Nat):Int):=by rw [Int.fdiv_eq_ediv_of_nonneg _ (by decide)];omega
theorem SE (a:Int):CQ a 2=True:=eq_true ⟨by decide,Bd.mono (Bd.small (by decide) (by decide)) (by decide)⟩
theorem EK {rows:List aF} {i:Nat} {b:aF} (h:rows[i]?=some b):de (rows.map aF.v) (i:Int)=some b.v:=bq (by rw [TN,h];rfl)
theorem vT {cB f:Addr} {fd:FuncData} (F:bZ K "put" "Bells.put" kP f fd) (Z:bP mg) (bD:dD K mg "Bells" cB) (aV:aD K cB "rows") (i8:cu P w K mg base cB 1 "drop" lO (Cs cB))
  (sS:bp P w K mg base 2 "rings_ahead" kH xa):aL P w K mg base (cV P w) 3 f fd jg (dn K (A7 cB)):=by
 simp_arith [dy,(ai (a7 (bz (pl:=_) i8 B hr (rv 0) (af (rv 2) (af (rv 3) ag))))
   (ai (aI (i:=4) dy.nd (cx (af (rv 1) (af (rv 2) (af (rv 3) ag)))))
   (ai (M0 (i:=5) (j:=6) rfl dy.nd rfl rfl (by decide) rfl rfl (af ah (af (aQ b_ rfl Z.len boot_len (af (aR bD.cl aV (rv 0)) ag)) ag)) rfl)
   (ai (nJ cy (aG iK (rv 5) (rv 6)) (ai (aI (i:=7) dy.nd (a8 p_ (a8 eZ (rv 5) (rv 6)) ah))
   (ar (aZ (bN (aS sS B hr (af (av ax (aR bD.cl aV (rv 0)) (rv 7)) (af (rv 4) ag)))) (ar (aI (i:=5) dy.nd (a8 eZ (rv 7) ah))) (ar (aI (i:=6) dy.nd (rv 7)))))))
   (ar (a7 (nE PySem.F.plainAttrs_list PySem.F.slot_list_insert PySem.F.type_list_insert oC (aR bD.cl aV (rv 0)) (af (rv 5) (af (rv 4) ag)))))))))]
 ·obtain ⟨p,r,rows,m,h,f,rfl,_⟩:=h;rfl
 obtain ⟨p,r,rows,m,h,f,rfl,b,srt,hl,sm,sr,q⟩:=h
 have bo:=b.o
 refine hX ?_
 simp_arith! [bS,bo,Rh]
 refine ⟨p,r,rows,h,f,rfl,b,by omega,λr' hr'=>?_⟩
 have ND:r'≠p:=by intro e;subst e;rw [bo] at hr';cases hr'
 have b1:Hg cB (put (put J r' (.lst ((dJ h f rows).map aF.v))) p (.ins cB [("rows",.ref r')])) p r' (dJ h f rows):=⟨aq,by rw [ak ND];exact aq⟩
 have kl:(dJ h f rows).length≤800:=T4 (om _ _ _) hl
 have ks:iY (dJ h f rows):=uB srt
 have kz:∀x∈dJ h f rows,Sz 9000 x.m:=λx hx=>sr x (TU.mp hx).1
 have q:=q r' hr'
 generalize hJ:put (put J r' (.lst ((dJ h f rows).map aF.v))) p (.ins cB [("rows",.ref r')])=J1 at b1 ⊢
 have hq:put J1 r' (.lst ((lJ ⟨m,h,f⟩ (dJ h f rows)).map aF.v))=put (put J r' (.lst ((lJ ⟨m,h,f⟩ (dJ h f rows)).map aF.v))) p (.ins cB [("rows",.ref r')]):=by rw [← hJ,Jd ND]
 rw [← hq] at q
 clear hq hJ hr'
 have bo:=b1.o
 have bl:=b1.l
 generalize dJ h f rows=ks' at *
 simp_arith! [bS,bo,bl,Oz,P5,Tx]
 refine ⟨λk τ J'=>∃(lo hi:Nat) (u:Option PV),τ=[some (.ref p),some (fr m),some (.str h),some (.str f),some (aF.mk m h f).v,some (.int lo),some (.int hi),u]∧J'=J1∧k=hi - lo∧lo≤hi∧hi≤ks'.length ∧
  (∀(j:Nat) x,j < lo→ks'[j]?=some x→x.lt ⟨m,h,f⟩=true)∧(∀(j:Nat) x,hi≤j→ks'[j]?=some x→x.lt ⟨m,h,f⟩=false),⟨_,0,ks'.length,none,rfl,rfl,rfl,Ue _,TF _,λj x hj=>absurd hj (Vl _),λj x hj e=>by rw [UE hj] at e;cases e⟩,?_⟩
 rintro k τ J' ⟨lo,hi,u,rfl,rfl,rfl,h1,h2,hlo,hhi⟩
 simp_arith! [bS,bo,bl,Oz,SE,JW,Int.ofNat_lt,xa]
 by_cases hlt:lo < hi
 ·rw [if_pos hlt]
  have hm:(lo + hi) / 2 < ks'.length:=by omega
  obtain ⟨x,hx⟩:∃x,ks'[(lo + hi) / 2]?=some x:=⟨_,Tz hm⟩
  obtain ⟨N,hN⟩:∃N:Sr→Hq→Prop,∀τ' J'',N τ' J''↔∃(lo' hi':Nat) (u:Option PV),τ'=[some (.ref p),some (fr m),some (.str h),some (.str f),some (aF.mk m h f).v,some (.int lo'),some (.int hi'),u]∧J''=J'∧lo'≤hi'∧hi'≤ks'.length∧hi' - lo' < hi - lo ∧
   (∀(j:Nat) x,j < lo'→ks'[j]?=some x→x.lt ⟨m,h,f⟩=true)∧(∀(j:Nat) x,hi'≤j→ks'[j]?=some x→x.lt ⟨m,h,f⟩=false):=⟨_,λ_ _=>Iff.rfl⟩
  refine ⟨N,λτ' J'' hn=>by obtain ⟨lo',hi',u,e1,e2,e3,e4,e5,e6,e7⟩:=(hN _ _).mp hn;exact ⟨_,e5,lo',hi',u,e1,e2,rfl,e3,e4,e6,e7⟩,fG (EK hx) ⟨x,⟨m,h,f⟩,rfl,kz x (TH hx),sm,?_⟩⟩
  simp_arith! [bS,SE,JW,Int.ofNat_lt]
  cases hc:x.lt ⟨m,h,f⟩ with
  | true =>
   rw [if_pos rfl]
   exact (hN _ _).mpr ⟨(lo + hi) / 2 + 1,hi,_,rfl,rfl,by omega,h2,by omega,λj y hj e=>CJ ks hx e (by omega) hc,hhi⟩
  | false =>
   rw [if_neg TY]
   exact (hN _ _).mpr ⟨lo,(lo + hi) / 2,_,rfl,rfl,by omega,by omega,by omega,hlo,λj y hj e=>GV ks hx e hj hc⟩
 ·rw [if_neg hlt]
  have e:lo=hi:=by omega
  subst e
  refine ⟨_,lo,rfl,rfl,by rw [Tx];exact h2,by rw [Tx];exact a_ (by omega),Uv h2 (Uv kl (by decide)),?_⟩
  rw [← Ib h2 hlo hhi,TM,TL,UW,VD] at q
  exact q
abbrev jv:Stmt:=(L2.inClass (top 22) 5)
abbrev g_:List Str:=["self"]
theorem uc:L2.aw ["self"] ["self"] (L2.aj jv):=dN
def xf (cB:Addr):cF:=λxs J Q _=>∃p r rows,xs=[.ref p]∧Hg cB J p r rows∧(Q (.fl (rows.map aF.v)) J∨∀l,J l=none→Q (.ref l) (put J l (.lst (rows.map aF.v))))
theorem tT {cB f:Addr} {fd:FuncData} (F:bZ K "told" "Bells.told" jv f fd) (Z:bP mg) (bD:dD K mg "Bells" cB) (aV:aD K cB "rows"):aL P w K mg base (cV P w) 1 f fd g_ (dn K (xf cB)):=by
 simp_arith [uc,(ar (aA (cZ iE rfl Z.list boot_list (af (aR bD.cl aV (rv 0)) ag)))),F]
 ·obtain ⟨p,r,rows,rfl,_⟩:=h;rfl
 obtain ⟨p,r,rows,rfl,b,q⟩:=h
 have bo:=b.o
 have bl:=b.l
 refine hX ?_
 simp_arith! [bS,bo,bl,Oz]
 intro l hl
 rcases q with q | q
 ·exact Fg.qQ (j7 hl) aq hl q
 ·exact Fg.same (q l hl)
def Cu:cF:=λxs J Q _=>∃t b:Int,xs=[.int t,.int b]∧b≠0∧Bd 9000 b∧Q (fr (Rat.divInt t b)) J
theorem tN (C:sG P w K mg base 2 "fraction" dj gG):bp P w K mg base 2 "fraction" dj Cu:=C.lift λxs J vs H Q2 E2 Q E rs r ⟨t,b,ex,h0,h1,q⟩ kn=>by
 subst ex
 obtain ⟨v,u,rfl,r1,r2⟩:=jI rs
 cases r1;cases r2
 exact ⟨t,b,rfl,h0,h1,wH r kn q⟩
theorem yp (l l':aP) (h:l.v≠l'.v):Rat.divInt ((l'.at 0 - l.at 0).num) (((l'.at 0 - l.at 0).den:Int) * (l.v - l'.v))=nh l l':=by
 rw [MR _ _ (by omega)];rfl
abbrev oT:Stmt:=(top 26)
abbrev rK:List Str:=["one","other"]
theorem mF:L2.aw ["one","other","gain","gap"] ["one","other"] (L2.aj oT):=dN
def CB:cF:=λxs J Q _=>∃l l':aP,xs=[l.V,l'.V]∧sH 900 l∧sH 900 l'∧(l.v=l'.v→Q .non J)∧(l.v≠l'.v→Q (fr (nh l l')) J)
theorem yB {f:Addr} {fd:FuncData} (F:bZ K "meeting" "meeting" oT f fd) (Z:bP mg) (N:qC K mg) (dY:bp P w K mg base 4 "place_on" gT pD) (mM:bp P w K mg base 3 "minus" kG (A6 λp q=>p - q)) (bT:bp P w K mg base 2 "fraction" dj Cu) :
  aL P w K mg base (cV P w) 5 f fd rK (dn K CB):=by
 obtain ⟨aN,gN,sN⟩:=N
 have rN:∀(J:Hq) (H:Hp),cv K J H (fr 0) (.ref aN):=λJ H=>⟨aN,_,rfl,sN H,⟨_,_,rfl,rfl,_,_,rfl,rfl,rfl⟩⟩
 simp_arith [mF,(ai (aI (i:=2) mF.nd (a8 gu (av ax (rv 0) ah) (av ax (rv 1) ah)))
   (ai (aZ (aG (cQ hr.aU) (rv 2) ah) (ar (aA mq)) aK)
   (ai (aI (i:=3) mF.nd (aS mM B hr (af (aS dY B hr (af (rv 1) (af (fV (v:=.ref aN) (fr 0) rfl gN rfl rN) ag))) (af (aS dY B hr (af (rv 0) (af (fV (v:=.ref aN) (fr 0) rfl gN rfl rN) ag))) ag))))
   (ar (aA (aS bT B hr (af (av ax (rv 3) ah) (af (a8 d3 (av ax (rv 3) ah) (rv 2)) ag))))))))]
 ·obtain ⟨l,l',rfl,_⟩:=h;rfl
 obtain ⟨l,l',rfl,sl,sl',q0,q1⟩:=h
 refine hX ?_
 have z1:Sz 900 (0:Rat):=⟨⟨by decide⟩,⟨by decide⟩⟩
 have s3:=jZ sl z1
 have s3':=jZ sl' z1
 have s4:Sz 6001 (l'.at 0 - l.at 0):=s3'.sub s3
 have bg:Bd 65 (l.v - l'.v):=sl.v.sub sl'.v
 simp_all! [lM]
 split
 ·rename_i e;simp_all! [];exact q0 (by omega)
 rename_i e
 have hv:l.v≠l'.v:=by omega
 simp_all! []
 refine ⟨l',0,rfl,sl'.m,sl'.p,z1,sl'.v,l,0,rfl,sl.m,sl.p,z1,sl.v,l'.at 0,l.at 0,rfl,s3'.mono (by decide),s3.mono (by decide),?_⟩
 simp_all! []
 refine ⟨.of s4.den bg,_,_,rfl,Int.mul_ne_zero (eS _) e,(Bd.mul s4.den bg (k:=6100)).mono (by decide),?_⟩
 rw [yp l l' hv]
 exact q1 hv
theorem yq {l l':aP} (sl:sH 900 l) (sl':sH 900 l') (h:l.v≠l'.v):Sz 8000 (nh l l'):=by
 rw [← yp l l' h]
 have z1:Sz 900 (0:Rat):=⟨⟨by decide⟩,⟨by decide⟩⟩
 have s4:Sz 6001 (l'.at 0 - l.at 0):=(jZ sl' z1).sub (jZ sl z1)
 have bg:Bd 65 (l.v - l'.v):=sl.v.sub sl'.v
 exact Sz.div (s4.num.mono (by decide)) ((Bd.mul s4.den bg (k:=6100)).mono (by decide)) (Int.mul_ne_zero (eS _) (by omega))
theorem ba.Qj {L:Ln} (h:ba L) {c:Cf} (hc:c∈L.cs):sH 900 c.cur:=(h.ck c hc _ (Cf.i7 (h.ne c hc)).2).OE
abbrev jB:Stmt:=(L2.inClass (top 42) 13)
abbrev hZ:List Str:=["self","name","other"]
theorem l5:L2.aw ["self","name","other","met"] ["self","name","other"] (L2.aj jB):=dN
def sh (cN cL eC:Addr):cF:=λxs J Q E=>∃p L n n',xs=[.ref p,.str n,.str n']∧aX cN cL J p L∧ba L∧(∀c∈L.cs,∀c'∈L.cs,c.n=n→c'.n=n'→c.g=none→c'.g=none→Q (gv (Io L.t c.cur c'.cur)) J)∧(n ∉ L.row∨n' ∉ L.row→E eC J)
theorem tZ {cN cL eC f:Addr} {fd:FuncData} (F:bZ K "meets" "Lane.meets" jB f fd) (Z:bP mg) (au:dD K mg "Lane" cN) (ay:aD K cN "now") (bG:cu P w K mg base cN 4 "leg_of" eD (nV cN cL eC)) (C1:bp P w K mg base 5 "meeting" rK CB) (dX:bp P w K mg base 1 "less" fT dA):aL P w K mg base (cV P w) 6 f fd hZ (dn K (sh cN cL eC)):=by
 simp_arith [l5,(ai (aI (i:=3) l5.nd (aS C1 B hr (af (bz (pl:=_) bG B hr (rv 0) (af (rv 1) ag)) (af (bz (pl:=_) bG B hr (rv 0) (af (rv 2) ag)) ag))))
   (ar (aA (Pz (dR (gy (aG rp (rv 3) mq) (fh (bN (aS dX B hr (af (aR au.cl ay (rv 0)) (af (rv 3) ag))))))) (rv 3) mq))))]
 ·obtain ⟨p,L,n,n',rfl,_⟩:=h;rfl
 obtain ⟨p,L,n,n',rfl,b,ok,q,qe⟩:=h
 have bo:=b.ob
 refine hX ?_
 simp_all! [bo]
 refine ⟨dg _ _ _ _,p,L,n,rfl,b,ok,λc hc e hg=>?_,λz=>qe (.inl z)⟩
 simp_all! [bo]
 refine ⟨dg _ _ _ _,p,L,n',rfl,b,ok,λc' hc' e' hg'=>?_,λz=>qe (.inr z)⟩
 have q:=q c hc c' hc' e e' hg hg'
 have sl:=ok.Qj hc
 have sl':=ok.Qj hc'
 unfold Io at q
 refine ⟨c.cur,c'.cur,rfl,sl,sl',λhv=>?_,λhv=>?_⟩
 ·rw [if_neg (λz=>z.1 hv)] at q
  simp_all! []
  exact q
 ·simp_all! [qX,bo,q9,dA]
  refine ⟨ok.Ng.mono (by decide),(yq sl sl' hv).mono (by decide),?_⟩
  split
  ·rename_i c1
   rw [if_pos ⟨hv,c1⟩] at q
   simp_all! []
   exact q
  ·rename_i c1
   rw [if_neg (λz=>c1 z.2)] at q
   exact q
theorem Tu (A:Nat):Sc g7 A 0:=⟨0,by rw [Rat.zero_mul];rfl,Ue _⟩
theorem aX.Ar {cN cL:Addr} {J:Hq} {p T:Addr} {L:Ln} (h:aX cN cL J p L) (hT:J T=Us .tab):¬ L.own p T:=by
 rintro (rfl | rfl | rfl | ⟨c,hc,rfl | rfl⟩)
 ·rw [h.ob] at hT;cases hT
 ·rw [h.dc] at hT;cases hT
 ·rw [h.rw] at hT;cases hT
 ·rw [(h.lg c hc).o] at hT;cases hT
 ·rw [(h.lg c hc).l] at hT;cases hT
theorem N7 {L:Ln} {n:Str} {l:aP} (h:(n,l)∈L.fs):∃c∈L.cs,c.n=n∧c.g=none∧c.cur=l:=by
 obtain ⟨c,hc,e⟩:=TB.mp h
 have:=Ln.c7.mp hc
 cases e
 exact ⟨c,this.1,rfl,this.2,rfl⟩
def o5:cF:=λxs J Q _=>∃a b:Int,xs=[.int a,.int b]∧Q (.int (Int.gcd a b:Nat)) J
theorem ym (C:sG P w K mg base 1 "shared" iQ sk):bp P w K mg base 1 "shared" iQ o5:=C.lift λxs J vs H Q2 E2 Q E rs r ⟨a,b,ex,q⟩ kn=>by
 subst ex
 obtain ⟨v,u,rfl,r1,r2⟩:=jI rs
 cases r1;cases r2
 exact ⟨a,b,rfl,kn (.int _) J _ H rfl r .refl q⟩
abbrev eJ:Stmt:=(top 18)
abbrev gw:List Str:=["pair"]
theorem mD:L2.aw ["pair"] ["pair"] (L2.aj eJ):=dN
def zd:cF:=λxs J Q _=>∃a b:Int,xs=[.tup [.int a,.int b]]∧Q (.bl (decide (1≤b∧Int.gcd a b=1))) J
theorem lK {f:Addr} {fd:FuncData} (F:bZ K "in_lowest_terms" "in_lowest_terms" eJ f fd) (Z:bP mg) (iw:bp P w K mg base 1 "shared" iQ o5):aL P w K mg base (cV P w) 2 f fd gw (dn K zd):=by
 simp_arith [mD,(ar (aA (AS (fb F6 (av ax (rv 0) ah) ah) (wF (fb (cQ hr.aU) (aS iw B hr (af (av ax (rv 0) ah) (af (av ax (rv 0) ah) ag))) ah)))))]
 ·obtain ⟨a,b,rfl,_⟩:=h;rfl
 obtain ⟨a,b,rfl,q⟩:=h
 refine hX ?_
 simp_all! []
 by_cases c:1≤b
 ·simp only [c,decide_true,true_and,if_true] at q ⊢
  simp_all! [o5]
  have:decide (((Int.gcd a b:Nat):Int)=1)=decide (Int.gcd a b=1):=decide_eq_decide.mpr (by omega)
  rw [this];exact q
 ·simp only [c,decide_false,false_and] at q ⊢
  rw [if_neg (λz=>z)]
  exact q
abbrev ij:Stmt:=(top 40)
abbrev kE:List Str:=["moment"]
theorem gE:L2.aw ["moment","top","bottom"] ["moment"] (L2.aj ij):=dN
def iG (a b:Int):Bool:=decide (b≤60∧1≤b∧Int.gcd a b=1∧0≤a∧a≤1000000 * b)
def Cv:cF:=λxs J Q _=>∃a b:Int,xs=[.tup [.int a,.int b]]∧Q (.bl (iG a b)) J
theorem pQ {f:Addr} {fd:FuncData} (F:bZ K "good_moment" "good_moment" ij f fd) (Z:bP mg) {nY nZ:Tok} (j4:mg "FINEST"=some (.int 60 nY)) (j5:mg "LATEST"=some (.int 1000000 nZ)) (mL:bp P w K mg base 2 "in_lowest_terms" gw zd):aL P w K mg base (cV P w) 3 f fd kE (dn K Cv):=by
 simp_arith [gE,(ai (rO (rv 0) (oQ (n:=2) rfl (cm (bA (i:=1) gE.nd) (cm (bA (i:=2) gE.nd) lB))))
   (ai (aZ (dR (kO (aG ph (rv 2) (fV (v:=.int 60) (.int 60) rfl j4 ⟨_,rfl⟩ (λ_ _=>rfl))) (gA (cP (bN (aS mL B hr (af (rv 0) ag))))))) (ar (aA gx)) aK)
   (ar (aA (GA Kt Kt ah (rv 1) (a8 d3 (fV (v:=.int 1000000) (.int 1000000) rfl j5 ⟨_,rfl⟩ (λ_ _=>rfl)) (rv 2)))))))]
 ·obtain ⟨a,b,rfl,_⟩:=h;rfl
 obtain ⟨a,b,rfl,q⟩:=h
 refine hX ?_
 unfold iG at q
 simp_all! []
 simp_all! []
 by_cases c1:60 < b
 ·rw [if_pos c1]
  rw [decide_eq_false (λz=>by omega)] at q
  exact q
 rw [if_neg c1]
 simp_all! []
 refine ⟨a,b,rfl,?_⟩
 by_cases c2:1≤b∧Int.gcd a b=1
 ·rw [decide_eq_true c2]
  simp_all! [wC]
  by_cases c3:0≤a
  ·simp only [c3,decide_true,if_true]
   refine ⟨.of (.small (x:=1000000) (by decide) (by decide)) (.small (x:=b) (by omega) (by omega)),?_⟩
   have:decide (a≤1000000 * b)=decide (b≤60∧1≤b∧Int.gcd a b=1∧0≤a∧a≤1000000 * b):=decide_eq_decide.mpr ⟨λz=>⟨by omega,c2.1,c2.2,c3,z⟩,λz=>z.2.2.2.2⟩
   rw [this];exact q
  ·rw [decide_eq_false (λz=>c3 z.2.2.2.1)] at q
   simp only [c3,decide_false]
   rw [if_neg (λz=>z)]
   exact q
 ·rw [decide_eq_false c2]
  rw [decide_eq_false (λz=>c2 ⟨z.2.1,z.2.2.1⟩)] at q
  simp_all! []
  exact q
theorem aX.less {cN cL:Addr} {J J':Hq} {p:Addr} {L:Ln} (h:aX cN cL J p L) (l:oa J J'):aX cN cL J' p L:=h.keep λa o _ e=>by
 rcases l a with z | z
 ·rw [← z];exact e
 ·rw [z] at e;cases e
theorem oz {J J':Hq} {p r:Addr} {x y:HQ} (l:oa J J') (hp:J p=none) (hr:J' r=none):oa J (put (put J' r x) p y):=λa=>by
 by_cases e:a=p
 ·exact .inr (by rw [e];exact hp)
 by_cases e2:a=r
 ·rcases l a with z | z
  ·right;rw [z,e2];exact hr
  ·exact .inr z
 ·rw [ak e,ak e2];exact l a
theorem uL {J:Hq} {p r:Addr} {x y z:HQ} (hp:J p=none) (hr:put J p x r=none):oa J (put (put (put J p x) r y) p z):=oz (j7 hp) hp hr
theorem xZ (xs:List PV) (k:Nat) (h:k≤xs.length):md xs (some (k:Int)) none=xs.drop k:=by
 unfold md HT.d5
 simp only [Int.toNat_natCast]
 rw [if_neg (by omega),V_ h]
 rw [UB (by rw [UP];exact TF _)]
theorem bU.keys {L:Ln} (ok:bU L):L.row.map PV.str=(cE (L.fs.map (key L.t))).map λk=>PV.str k.n:=by rw [ok.row];unfold cY;rw [TK];rfl
theorem vK {L:Ln} (ok:ba L) {a:Ky} (ha:a∈cE (L.fs.map (key L.t))) {c:Cf} (hc:c∈L.cs) (hg:c.g=none) (e:c.n=a.n):a=key L.t (c.n,c.cur):=by
 obtain ⟨x,hx,rfl⟩:=TB.mp ((bE _ _).mp ha)
 obtain ⟨c0,hc0,h1,h2,h3⟩:=N7 (n:=x.1) (l:=x.2) hx
 have:c0=c:=ok.uniq hc0 hc (h1.trans e.symm)
 subst this
 show key L.t (x.1,x.2)=_
 rw [← h3,← h1]
theorem lE {L:Ln} (ok:bU L) {a:Ky} (ha:a∈cE (L.fs.map (key L.t))):a.n∈L.row:=by
 rw [ok.row];unfold cY;exact TB.mpr ⟨a,ha,rfl⟩
theorem m_ {L:Ln} (ok:bU L) {a b:Ky} (ha:a∈cE (L.fs.map (key L.t))) (hb:b∈cE (L.fs.map (key L.t))) (h:b.v < a.v):Sz 9000 (gi L.t a b):=by
 obtain ⟨c,hc,hcn,hcg⟩:=ok.found (lE ok ha)
 obtain ⟨c',hc',hcn',hcg'⟩:=ok.found (lE ok hb)
 have ea:=vK ok.toba ha hc hcg hcn
 have eb:=vK ok.toba hb hc' hcg' hcn'
 have hv:c.cur.v≠c'.cur.v:=by rw [ea,eb] at h;exact λz=>by have:c'.cur.v < c.cur.v:=h;omega
 rw [ea,eb,← p8 hv]
 exact (yq (ok.Qj hc) (ok.Qj hc') hv).mono (by decide)
theorem bU.knd {L:Ln} (ok:bU L):((L.fs.map (key L.t)).map Ky.n).Nodup:=by rw [d9];exact ok.LH
theorem bU.Of {L:Ln} (ok:bU L):(cE (L.fs.map (key L.t))).length≤12:=by
 have h1:=ok.rl
 have h2:=congrArg UG ok.keys
 rw [Tx,Tx] at h2
 omega
theorem yr {L:Ln} (ok:bU L) {i j:Nat} {a b:Ky} (ha:(cE (L.fs.map (key L.t)))[i]?=some a) (hb:(cE (L.fs.map (key L.t)))[j]?=some b) (hij:i < j) {c c':Cf} (hc:c∈L.cs) (hc':c'∈L.cs) (hg:c.g=none) (hg':c'.g=none) (e:c.n=a.n) (e':c'.n=b.n) :
  Io L.t c.cur c'.cur=if b.v < a.v∧a.p < b.p then some (gi L.t a b) else none:=by
 have ea:=vK ok.toba (TH ha) hc hg e
 have eb:=vK ok.toba (TH hb) hc' hg' e'
 have hlt:a.lt b=true:=by
  obtain ⟨hil,ei⟩:=TC.mp ha
  obtain ⟨hjl,ej⟩:=TC.mp hb
  have:=Um.mp (dh ok.knd) i j hil hjl hij
  rw [ei,ej] at this;exact this
 rw [ea,eb] at hlt ⊢
 have key:=Ip hlt
 unfold Io
 by_cases z:c.cur.v≠c'.cur.v∧L.t < nh c.cur c'.cur
 ·rw [if_pos z,if_pos (show (Ov.key L.t (c'.n,c'.cur)).v < (Ov.key L.t (c.n,c.cur)).v∧(Ov.key L.t (c.n,c.cur)).p < (Ov.key L.t (c'.n,c'.cur)).p from key.mp z),p8 z.1]
 ·rw [if_neg z,if_neg (show ¬ ((Ov.key L.t (c'.n,c'.cur)).v < (Ov.key L.t (c.n,c.cur)).v∧(Ov.key L.t (c.n,c.cur)).p < (Ov.key L.t (c'.n,c'.cur)).p) from λy=>z (key.mpr y))]
theorem Jo {L:Ln} (ok:bU L) {i j:Nat} {a b:Ky} (ha:(cE (L.fs.map (key L.t)))[i]?=some a) (hb:(cE (L.fs.map (key L.t)))[j]?=some b) (hij:i < j) (h:b.v < a.v):a.p < b.p:=by
 obtain ⟨hil,ei⟩:=TC.mp ha
 obtain ⟨hjl,ej⟩:=TC.mp hb
 have:=Um.mp (dh ok.knd) i j hil hjl hij
 rw [ei,ej,Ky.lt_iff] at this
 rcases this with z | ⟨_,z | ⟨z,_⟩⟩
 ·exact z
 ·omega
 ·omega
abbrev fL:Stmt:=(L2.inClass (top 42) 6)
abbrev iN:List Str:=["self","moment"]
theorem bX:L2.aw ["self","moment","passings","at","hind","fore","met"] ["self","moment"] (L2.aj fL):=dN
theorem uM {J J':Hq} {l:Addr} {o:HQ} (h:oa J J'):oa (put J l o) (put J' l o):=λa=>by
 by_cases e:a=l
 ·subst e;rw [aq,aq];exact .inl rfl
 ·rw [ak e,ak e];exact h a
def CC (cN cL eM eP:Addr):cF:=λxs J Q E=>∃p L a b,xs=[.ref p,.tup [.int a,.int b]]∧aX cN cL J p L∧bU L∧(iG a b=false→E eM J)∧(∀m:Rat,m.num=a→(m.den:Int)=b→iG a b=true→(m < L.t→E eP J)∧(L.t≤m→Q (.fl ((pj L.t (L.fs.map (key L.t)) m).map aF.v)) J∨∀l,J l=none→Q (.ref l) (put J l (.lst ((pj L.t (L.fs.map (key L.t)) m).map aF.v)))))
theorem oE {cN cL cB eM eP eC f:Addr} {fd:FuncData} (F:bZ K "foretold" "Lane.foretold" fL f fd) (Z:bP mg) (au:dD K mg "Lane" cN) (ay:aD K cN "now") (az:aD K cN "row") (fj:Own K mg "BadMoment" eM) (qE:Own K mg "Past" eP) (sP:bp P w K mg base 3 "good_moment" kE Cv) (dX:bp P w K mg base 1 "less" fT dA) (k4:vq P w K mg base cB 1 "Bells" eA (xb cB)) (dt:cu P w K mg base cN 6 "meets" hZ (sh cN cL eC)) (d_:cu P w K mg base cB 3 "put" jg (A7 cB)) (dq:cu P w K mg base cB 1 "told" g_ (xf cB)):aL P w K mg base (cV P w) 7 f fd iN (dn K (CC cN cL eM eP)):=by
 simp_arith [bX,(ai (aZ (cP (bN (aS sP B hr (af (rv 1) ag)))) (ar (dQ fj rfl cH B.kn rfl (af bM ag))) aK)
   (ai (aZ (bN (aS dX B hr (af (rv 1) (af (aR au.cl ay (rv 0)) ag)))) (ar (dQ qE rfl cH B.kn rfl (af bM ag))) aK)
   (ai (aI (i:=2) bX.nd (nF k4 B hr))
   (ai (fe cy rfl (Jn rfl Z.enumerate (af (aR au.cl az (rv 0)) ag)) (oQ (n:=2) rfl (cm (bA (i:=3) bX.nd) (cm (bA (i:=4) bX.nd) lB))) (ar (fe cy rfl (dW (iS GS (aR au.cl az (rv 0)) (ju (a8 eZ (rv 3) ah)) lD)) (bA (i:=5) bX.nd) (ai (aI (i:=6) bX.nd (bz (pl:=_) dt B hr (rv 0) (af (rv 4) (af (rv 5) ag))))
   (ar (aZ (dR (gy (aG rp (rv 6) mq) (fh (cP (bN (aS dX B hr (af (rv 1) (af (rv 6) ag)))))))) (ar (a7 (bz (pl:=_) d_ B hr (rv 2) (af (rv 6) (af (rv 4) (af (rv 5) ag)))))) aK))))))
   (ar (aA (bC (pl:=_) dq B hr (rv 2)))))))),F]
 ·obtain ⟨p,L,a,b,rfl,_⟩:=h;rfl
 obtain ⟨p,L,a,bb,rfl,b,ok,qe,q⟩:=h
 have bo:=b.ob
 refine hX ?_
 simp_all! []
 refine ⟨a,bb,rfl,?_⟩
 cases hg:iG a bb with
 | false =>
  simp_all! [fJ]
  exact qe hg
 | true =>
  have hgm:=of_decide_eq_true hg
  obtain ⟨m,hm1,hm2⟩:∃m:Rat,m.num=a∧(m.den:Int)=bb:=⟨⟨a,bb.toNat,by omega,by
   have:=hgm.2.2.1
   unfold Int.gcd at this
   show Nat.gcd a.natAbs bb.toNat=1
   rw [show bb.toNat=bb.natAbs by omega];exact this⟩,rfl,by show ((bb.toNat:Nat):Int)=bb;omega⟩
  obtain ⟨q1,q2⟩:=q m hm1 hm2 hg
  have ef:PV.tup [.int a,.int bb]=fr m:=by rw [← hm1,← hm2];rfl
  have sm:Sz 900 m:=⟨(Bd.small (x:=m.num) (by omega) (by omega)).mono (by decide),(Bd.small (x:=(m.den:Int)) (by omega) (by omega)).mono (by decide)⟩
  simp_all! [bo,q9,ef]
  refine ⟨_,_,rfl,sm.mono (by decide),ok.Ng.mono (by decide),?_⟩
  by_cases c1:m < L.t
  ·rw [decide_eq_true c1]
   simp_all! [fJ]
   exact q1 c1
  rw [decide_eq_false c1]
  have q:=q2 (by grind)
  simp_all! []
  intro pb hpb
  refine ⟨pb,rfl,aq,λr0 hr0=>⟨rfl,?_⟩⟩
  have l0:=uL (y:=.lst []) (z:=.ins cB [("rows",.ref r0)]) hpb hr0
  have nr0:r0≠pb:=by intro e;subst e;rw [aq] at hr0;cases hr0
  have b0:Hg cB (put (put (put J pb (.ins cB [])) r0 (.lst [])) pb (.ins cB [("rows",.ref r0)])) pb r0 []:=⟨aq,by rw [ak nr0];exact aq⟩
  generalize put (put (put J pb (.ins cB [])) r0 (.lst [])) pb (.ins cB [("rows",.ref r0)])=J0 at l0 b0 ⊢
  simp_all! [(b.less l0).ob,(b.less l0).rw,q_]
  obtain ⟨ks,hks⟩:∃ks,cE (L.fs.map (key L.t))=ks:=⟨_,rfl⟩
  have hrow:L.row.map PV.str=ks.map λk=>PV.str k.n:=by rw [← hks];exact ok.keys
  have hkl:ks.length≤12:=by rw [← hks];exact ok.Of
  have hup:∀{ps:List (Ky × Ky)},(∀p∈ps,p.1∈ks∧p.2∈ks)→∀x∈cJ L.t (f' L.t m) ps,Sz 9000 x.m:=λhp x hx=>by
   obtain ⟨p,hp',hc,rfl⟩:=ot _ hx
   have:=of_decide_eq_true hc
   exact m_ ok (by rw [hks];exact (hp p hp').1) (by rw [hks];exact (hp p hp').2) this.1
  rw [hrow]
  obtain ⟨Inv,hInv⟩:∃Inv:Nat→Sr→Hq→Prop,∀i τ J',Inv i τ J'↔∃(r:Addr) (u3 u4 u5 u6:Option PV),τ=[some (.ref p),some (fr m),some (.ref pb),u3,u4,u5,u6]∧oa J J'∧Hg cB J' pb r (cJ L.t (f' L.t m) (zy ks i))∧(cJ L.t (f' L.t m) (zy ks i)).length≤12 * i:=⟨_,λ_ _ _=>Iff.rfl⟩
  refine fA Inv ((hInv _ _ _).mpr ⟨r0,_,_,_,_,rfl,l0,b0,TF _⟩) (λi τ J' h=>?_) ?_ ?_
  ·obtain ⟨r,_,_,_,_,_,l',_⟩:=(hInv _ _ _).mp h
   rw [(b.less l').rw,hrow]
  ·intro i x τ J' hx hv
   obtain ⟨r,u3,u4,u5,u6,rfl,l',bb,hle⟩:=(hInv _ _ _).mp hv
   clear hv
   have hi:i < ks.length:=by have:=(TC.mp hx).1;rw [k9,Tx] at this;exact this
   have ha:ks[i]?=some ks[i]:=Tz hi
   rw [uE _ i (.str (ks[i]).n) (by rw [TN,ha];rfl)] at hx
   cases hx
   generalize ks[i]=a at ha ⊢
   simp_all! [(b.less l').ob,(b.less l').rw,q_]
   rw [hrow,show (i:Int) + 1=((i + 1:Nat):Int) by omega,xZ _ _ (by rw [Tx];omega),← VD]
   have eup:zy ks (i + 1)=zy ks i ++ (ks.drop (i + 1)).map λb=>(a,b):=by show zy ks i ++ _=_;rw [ha]
   have mup:∀j,∀p∈zy ks i ++ ((ks.drop (i + 1)).take j).map (λb=>(a,b)),p.1∈ks∧p.2∈ks:=λj p hp=>by
    rcases TQ.mp hp with hp | hp
    ·obtain ⟨_,_,_,_,h3,h4⟩:=n8.mp hp
     exact ⟨TH h3,TH h4⟩
    ·obtain ⟨y,hy,rfl⟩:=TB.mp hp
     exact ⟨TH ha,List.mem_of_mem_drop (UK hy)⟩
   obtain ⟨In2,hIn2⟩:∃In2:Nat→Sr→Hq→Prop,∀j τ J',In2 j τ J'↔∃(r:Addr) (u5 u6:Option PV),τ=[some (.ref p),some (fr m),some (.ref pb),some (.int (i:Int)),some (.str a.n),u5,u6]∧oa J J'∧Hg cB J' pb r (cJ L.t (f' L.t m) (zy ks i ++ ((ks.drop (i + 1)).take j).map λb=>(a,b)))∧(cJ L.t (f' L.t m) (zy ks i ++ ((ks.drop (i + 1)).take j).map λb=>(a,b))).length≤12 * i + j:=⟨_,λ_ _ _=>Iff.rfl⟩
   refine fA In2 ((hIn2 _ _ _).mpr ⟨r,_,_,rfl,l',by simpa using bb,by simpa using hle⟩) (λ_ _ _ _=>trivial) ?_ ?_
   ·intro j x τ J2 hx hv
    obtain ⟨r2,u5,u6,rfl,l2,bb2,hle2⟩:=(hIn2 _ _ _).mp hv
    clear hv
    have hj:j < (ks.drop (i + 1)).length:=by have:=(TC.mp hx).1;rw [Tx] at this;exact this
    have hb:(ks.drop (i + 1))[j]?=some (ks.drop (i + 1))[j]:=Tz hj
    rw [TN,hb] at hx
    cases hx
    generalize (ks.drop (i + 1))[j]=y at hb ⊢
    have hb':ks[i + 1 + j]?=some y:=by rw [Vs] at hb;exact hb
    have hjl:j < 12:=by rw [UP] at hj;omega
    have ej:(ks.drop (i + 1)).take (j + 1)=(ks.drop (i + 1)).take j ++ [y]:=by rw [Ub,hb];rfl
    have ef2:cJ L.t (f' L.t m) (zy ks i ++ ((ks.drop (i + 1)).take (j + 1)).map λb=>(a,b))=lL L.t (f' L.t m) (cJ L.t (f' L.t m) (zy ks i ++ ((ks.drop (i + 1)).take j).map λb=>(a,b))) (a,y):=by
     rw [ej,TM,← Vd];exact eV _ _ _ _
    have srt:=lh L.t (f' L.t m) (zy ks i ++ ((ks.drop (i + 1)).take j).map λb=>(a,b))
    have szs:=hup (mup j)
    generalize cJ L.t (f' L.t m) (zy ks i ++ ((ks.drop (i + 1)).take j).map λb=>(a,b))=rows at bb2 hle2 ef2 srt szs
    have sv:f' L.t m (a,y)=false→∀{v5 v6},In2 (j + 1) [some (.ref p),some (fr m),some (.ref pb),some (.int (i:Int)),some (.str a.n),v5,v6] J2:=λhc v5 v6=>by
     have e:lL L.t (f' L.t m) rows (a,y)=rows:=by unfold lL;rw [if_neg (by rw [hc];decide)]
     exact (hIn2 _ _ _).mpr ⟨r2,_,_,rfl,l2,by rw [ef2,e];exact bb2,by rw [ef2,e];omega⟩
    have b2:=b.less l2
    simp_all! [b2.ob]
    refine ⟨dg _ _ _ _,p,L,a.n,y.n,rfl,b2,ok.toba,λc hc c' hc' e e' hg hg'=>?_,λz=>?_⟩
    ·have hmet:=yr ok (by rw [hks];exact ha) (by rw [hks];exact hb') (by omega) hc hc' hg hg' e e'
     rw [hmet]
     by_cases c2:y.v < a.v∧a.p < y.p
     ·rw [if_pos c2]
      have smk:=m_ ok (by rw [hks];exact TH ha) (by rw [hks];exact TH hb') c2.1
      simp_all! [gv,qX,dA]
      refine ⟨sm.mono (by decide),smk,?_⟩
      by_cases c3:m < gi L.t a y
      ·rw [if_pos c3]
       exact sv (decide_eq_false (λz=>by have:=z.2.2;grind))
      ·rw [if_neg c3]
       have hcp:f' L.t m (a,y)=true:=decide_eq_true ⟨c2.1,c2.2,by grind⟩
       have e:lL L.t (f' L.t m) rows (a,y)=lJ ⟨gi L.t a y,a.n,y.n⟩ (dJ a.n y.n rows):=by unfold lL;rw [if_pos hcp];rfl
       simp_all! [bb2.o]
       refine ⟨OA _,pb,r2,rows,gi L.t a y,a.n,y.n,rfl,bb2,srt,by omega,smk,szs,λr' hr'=>?_⟩
       have nr:r'≠pb:=by intro z;subst z;rw [bb2.o] at hr';cases hr'
       refine (hIn2 _ _ _).mpr ⟨r',_,_,rfl,oz l2 hpb hr',⟨aq,by rw [ak nr,aq,ef2,e]⟩,?_⟩
       rw [ef2,e,ya]
       have:=om a.n y.n rows
       omega
     ·rw [if_neg c2]
      simp_all! [gv]
      exact sv (decide_eq_false (λz=>c2 ⟨z.1,z.2.1⟩))
    ·rcases z with z | z
     ·exact absurd (lE ok (by rw [hks];exact TH ha)) z
     ·exact absurd (lE ok (by rw [hks];exact TH hb')) z
   ·intro τ J2 hv
    obtain ⟨r2,u5,u6,rfl,l2,bb2,hle2⟩:=(hIn2 _ _ _).mp hv
    rw [Tx,Uc,← eup] at bb2 hle2
    rw [UP] at hle2
    exact (hInv _ _ _).mpr ⟨r2,_,_,_,_,rfl,l2,bb2,by omega⟩
  ·intro τ J' hv
   obtain ⟨r,u3,u4,u5,u6,rfl,l',bb,hle⟩:=(hInv _ _ _).mp hv
   rw [k9,Tx,← hks,JO ok.knd] at bb
   simp_all! [bb.o]
   exact ⟨OB _,pb,r,_,rfl,bb,q.imp (λq=>Fg.less l' q) λq l hl=>Fg.less (uM l') (q l ((l' l).elim (λe=>e.trans hl) id))⟩
theorem x_ {m:Rat} (h:iG m.num m.den=true):Sc g7 MM m∧0≤m:=by
 have h:=of_decide_eq_true h
 have hd:m.den≤60:=by omega
 constructor
 ·have h1:Sc m.den m.num.natAbs m:=⟨m.num,by have:=cast_eq m;rw [this];rfl,TF _⟩
  obtain ⟨k,hk⟩:=SO m.den m.den_pos hd
  have h2:=h1.scale (E:=k)
  rw [show k * m.den=g7 by rw [hk,Nat.mul_comm]] at h2
  refine h2.mono ?_
  have h3:m.num.natAbs≤1000000 * m.den:=by omega
  have h4:k * m.num.natAbs≤k * (1000000 * m.den):=Nat.mul_le_mul_left _ h3
  have h5:k * (1000000 * m.den)=1000000 * g7:=by rw [hk];rw [Nat.mul_left_comm,Nat.mul_comm k]
  unfold MM
  omega
 ·exact Rat.num_nonneg.mp h.2.2.2.1
theorem ba.N8 {L:Ln} (h:ba L) {m:Rat} (hm:L.t≤m) (hg:iG m.num m.den=true):ba { L with t:=m } :=
 ⟨h.nd,h.ne,λc hc l hl=>Rat.le_trans (h.le c hc l hl) hm,h.ck,h.len,λc hc q e=>⟨(h.gz c hc q e).1,Rat.le_trans (h.gz c hc q e).2 hm⟩,(x_ hg).2,(x_ hg).1,h.many,h.rm,h.rn,h.rl⟩
abbrev jz:Stmt:=(L2.inClass (top 42) 5)
abbrev lR:List Str:=["self","moment"]
theorem lZ:L2.aw ["self","moment","passings"] ["self","moment"] (L2.aj jz):=dN
def KY (cN cL eM eP:Addr):cF:=λxs J Q E=>∃p L a b,xs=[.ref p,.tup [.int a,.int b]]∧aX cN cL J p L∧bU L∧(iG a b=false→E eM J)∧(∀m:Rat,m.num=a→(m.den:Int)=b→iG a b=true→(m < L.t→E eP J)∧(L.t≤m→∀J' o',aX cN cL J' p { L with t:=m,o:=o',row:=cY m L.fs }→bU { L with t:=m,o:=o',row:=cY m L.fs }→Mv J J' (L.own p) (Ln.own { L with t:=m,o:=o',row:=cY m L.fs } p)→Q (.fl ((pj L.t (L.fs.map (key L.t)) m).map aF.v)) J'))
theorem tX {cN cL eM eP f:Addr} {fd:FuncData} (F:bZ K "go_to" "Lane.go_to" jz f fd) (Z:bP mg) (au:dD K mg "Lane" cN) (ay:aD K cN "now") (fE:cu P w K mg base cN 7 "foretold" iN (CC cN cL eM eP)) (bh:cu P w K mg base cN 7 "settle" di (iW cN cL)):aL P w K mg base (cV P w) 8 f fd lR (dn K (KY cN cL eM eP)):=by
 simp_arith [lZ,(ai (aI (i:=2) lZ.nd (bz (pl:=_) fE B hr (rv 0) (af (rv 1) ag)))
   (ai (d4 au.cl ay (rv 0) (rv 1))
   (ai (a7 (bC (pl:=_) bh B hr (rv 0)))
   (ar (aA (rv 2))))))]
 ·obtain ⟨p,L,a,b,rfl,_⟩:=h;rfl
 obtain ⟨p,L,a,bb,rfl,b,ok,qe,q⟩:=h
 have bo:=b.ob
 refine hX ?_
 simp_all! [bo]
 refine ⟨dg _ _ _ _,p,L,a,bb,rfl,b,ok,qe,λm h1 h2 hg=>⟨(q m h1 h2 hg).1,λhm=>.inl ?_⟩⟩
 have q:=(q m h1 h2 hg).2 hm
 have ef:PV.tup [.int a,.int bb]=fr m:=by rw [← h1,← h2];rfl
 have hgm:iG m.num m.den=true:=by rw [h1,h2];exact hg
 have ok1:=ok.toba.N8 hm hgm
 simp_all! [bo,ef]
 refine ⟨by show (3:Nat) < 1000;decide,?_⟩
 have b1:aX cN cL (put J p (.ins cN [("now",fr m),("logs",.ref L.d),("row",.ref L.o)])) p { L with t:=m } :=
  ⟨aq,by show put J p _ L.d=_;rw [ak b.Iw];exact b.dc,by show put J p _ L.o=_;rw [ak b.Iz];exact b.rw,λc hc=>⟨by rw [ak (b.Qk hc)];exact (b.lg c hc).o,by rw [ak (b.ND hc)];exact (b.lg c hc).l⟩,b.ap,b.ao⟩
 have mv1:Mv J (put J p (.ins cN [("now",fr m),("logs",.ref L.d),("row",.ref L.o)])) (L.own p) (L.own p):=gj (.inl rfl) λa h=>.inl h
 generalize put J p (.ins cN [("now",fr m),("logs",.ref L.d),("row",.ref L.o)])=J1 at b1 mv1 ⊢
 simp_all! [b1.ob]
 refine ⟨dg _ _ _ _,p,{ L with t:=m },rfl,b1,ok1,λJ2 o' b2 mv2=>?_⟩
 simp_all! []
 exact q J2 o' b2 (bU.settled ok1 o') (mv1.trans mv2)
abbrev jx:Stmt:=(L2.inClass (top 42) 9)
abbrev lP:List Str:=["self"]
theorem dS:L2.aw ["self","ringing","hind","fore","met"] ["self"] (L2.aj jx):=dN
def ze (cN cL:Addr):cF:=λxs J Q E=>∃p L,xs=[.ref p]∧aX cN cL J p L∧bU L∧(Q (.fl ((i4 L.t (L.fs.map (key L.t))).map aF.v)) J∨∀l,J l=none→Q (.ref l) (put J l (.lst ((i4 L.t (L.fs.map (key L.t))).map aF.v))))
theorem tV {cN cL cB eC f:Addr} {fd:FuncData} (F:bZ K "bells" "Lane.bells" jx f fd) (Z:bP mg) (au:dD K mg "Lane" cN) (az:aD K cN "row") (k4:vq P w K mg base cB 1 "Bells" eA (xb cB)) (dt:cu P w K mg base cN 6 "meets" hZ (sh cN cL eC)) (d_:cu P w K mg base cB 3 "put" jg (A7 cB)) (dq:cu P w K mg base cB 1 "told" g_ (xf cB)):aL P w K mg base (cV P w) 7 f fd lP (dn K (ze cN cL)):=by
 simp_arith [dS,(ai (aI (i:=1) dS.nd (nF k4 B hr))
   (ai (fe cy rfl (MY rfl Z.zip (af (aR au.cl az (rv 0)) (af (iS GS (aR au.cl az (rv 0)) (ju ah) lD) ag))) (oQ (n:=2) rfl (cm (bA (i:=2) dS.nd) (cm (bA (i:=3) dS.nd) lB))) (ai (aI (i:=4) dS.nd (bz (pl:=_) dt B hr (rv 0) (af (rv 2) (af (rv 3) ag))))
   (ar (aZ (aG rp (rv 4) mq) (ar (a7 (bz (pl:=_) d_ B hr (rv 1) (af (rv 4) (af (rv 2) (af (rv 3) ag)))))) aK))))
   (ar (aA (bC (pl:=_) dq B hr (rv 1)))))),F]
 ·obtain ⟨p,L,rfl,_⟩:=h;rfl
 obtain ⟨p,L,rfl,b,ok,q⟩:=h
 refine hX ?_
 simp_all! []
 intro pb hpb
 refine ⟨pb,rfl,aq,λr0 hr0=>⟨rfl,?_⟩⟩
 have l0:=uL (y:=.lst []) (z:=.ins cB [("rows",.ref r0)]) hpb hr0
 have nr0:r0≠pb:=by intro e;subst e;rw [aq] at hr0;cases hr0
 have b0:Hg cB (put (put (put J pb (.ins cB [])) r0 (.lst [])) pb (.ins cB [("rows",.ref r0)])) pb r0 []:=⟨aq,by rw [ak nr0];exact aq⟩
 generalize put (put (put J pb (.ins cB [])) r0 (.lst [])) pb (.ins cB [("rows",.ref r0)])=J0 at l0 b0 ⊢
 obtain ⟨ks,hks⟩:∃ks,cE (L.fs.map (key L.t))=ks:=⟨_,rfl⟩
 have hrow:L.row.map PV.str=ks.map λk=>PV.str k.n:=by rw [← hks];exact ok.keys
 have hkl:ks.length≤12:=by rw [← hks];exact ok.Of
 have hct:md (ks.map λk=>PV.str k.n) (some 1) none=ks.tail.map λk=>PV.str k.n:=by
  cases ks with
  | nil=>rfl
  | cons x ks=>exact xZ (((x :: ks).map λk=>PV.str k.n)) 1 (by simp)
 have hup:∀{ps:List (Ky × Ky)},(∀p∈ps,p.1∈ks∧p.2∈ks)→∀x∈cJ L.t gQ ps,Sz 9000 x.m:=λhp x hx=>by
  obtain ⟨p,hp',hc,rfl⟩:=ot _ hx
  exact m_ ok (by rw [hks];exact (hp p hp').1) (by rw [hks];exact (hp p hp').2) (of_decide_eq_true hc)
 simp_all! [SN,(b.less l0).ob,(b.less l0).rw,q_,hrow,hct]
 have ez:((ks.map λk=>PV.str k.n).zip (ks.tail.map λk=>PV.str k.n)).map (λp=>PV.tup [p.1,p.2])=(ks.zip ks.tail).map λp=>PV.tup [.str p.1.n,.str p.2.n]:=by rw [List.zip_map,TK];rfl
 rw [ez]
 generalize hps:ks.zip ks.tail=ps
 have hpl:ps.length≤12:=by rw [← hps,Vm];omega
 have hpm:∀x∈ps,x.1∈ks∧x.2∈ks:=λx hx=>by
  rw [← hps] at hx
  obtain ⟨i,h3,h4⟩:=dB.mp (show (x.1,x.2)∈_ from hx)
  exact ⟨TH h3,TH h4⟩
 obtain ⟨Inv,hInv⟩:∃Inv:Nat→Sr→Hq→Prop,∀i τ J',Inv i τ J'↔∃(r:Addr) (u2 u3 u4:Option PV),τ=[some (.ref p),some (.ref pb),u2,u3,u4]∧oa J J'∧Hg cB J' pb r (cJ L.t gQ (ps.take i)):=⟨_,λ_ _ _=>Iff.rfl⟩
 refine fA Inv ((hInv _ _ _).mpr ⟨r0,_,_,_,rfl,l0,b0⟩) (λi τ J' h=>?_) ?_ ?_
 ·obtain ⟨r,_,_,_,_,l',_⟩:=(hInv _ _ _).mp h
  rw [(b.less l').rw,hrow]
 ·intro i x τ J' hx hv
  obtain ⟨r,u2,u3,u4,rfl,l',bb⟩:=(hInv _ _ _).mp hv
  clear hv
  have hi:i < ps.length:=by have:=(TC.mp hx).1;rw [Tx] at this;exact this
  have hpi:ps[i]?=some ps[i]:=Tz hi
  rw [TN,hpi] at hx
  cases hx
  have et:ps.take (i + 1)=ps.take i ++ [ps[i]]:=by rw [Ub,hpi];rfl
  have szs:=hup (ps:=ps.take i) (λp hp=>hpm p (UK hp))
  have srt:=lh L.t gQ (ps.take i)
  have hle:=uG L.t gQ (ps.take i)
  rw [T'] at hle
  rcases hab:ps[i] with ⟨a,y⟩
  rw [hab] at hpi et
  have ef2:cJ L.t gQ (ps.take (i + 1))=lL L.t gQ (cJ L.t gQ (ps.take i)) (a,y):=by rw [et];exact eV _ _ _ _
  generalize cJ L.t gQ (ps.take i)=rows at bb szs srt hle ef2
  rw [← hps] at hpi
  obtain ⟨ha,hb⟩:=UI.mp hpi
  rw [Vr] at hb
  simp only at ha hb
  have b2:=b.less l'
  simp_all! [b2.ob]
  refine ⟨dg _ _ _ _,p,L,a.n,y.n,rfl,b2,ok.toba,λc hc c' hc' e e' hg hg'=>?_,λz=>?_⟩
  ·have hmet:=yr ok (by rw [hks];exact ha) (by rw [hks];exact hb) (by omega) hc hc' hg hg' e e'
   rw [hmet]
   by_cases c2:y.v < a.v
   ·have c3:=Jo ok (by rw [hks];exact ha) (by rw [hks];exact hb) (by omega) c2
    rw [if_pos ⟨c2,c3⟩]
    have smk:=m_ ok (by rw [hks];exact TH ha) (by rw [hks];exact TH hb) c2
    have hcp:gQ (a,y)=true:=decide_eq_true c2
    have e:lL L.t gQ rows (a,y)=lJ ⟨gi L.t a y,a.n,y.n⟩ (dJ a.n y.n rows):=by unfold lL;rw [if_pos hcp];rfl
    simp_all! [gv,qX,bb.o]
    refine ⟨OA _,pb,r,rows,gi L.t a y,a.n,y.n,rfl,bb,srt,by omega,smk,szs,λr' hr'=>?_⟩
    have nr:r'≠pb:=by intro z;subst z;rw [bb.o] at hr';cases hr'
    exact (hInv _ _ _).mpr ⟨r',_,_,_,rfl,oz l' hpb hr',⟨aq,by rw [ak nr,aq,ef2,e]⟩⟩
   ·rw [if_neg (λz=>c2 z.1)]
    have e:lL L.t gQ rows (a,y)=rows:=by
     have hcf:gQ (a,y)=false:=decide_eq_false c2
     unfold lL;rw [if_neg (by rw [hcf];decide)]
    simp_all! [gv]
    exact (hInv _ _ _).mpr ⟨r,_,_,_,rfl,l',by rw [ef2,e];exact bb⟩
  ·rcases z with z | z
   ·exact absurd (lE ok (by rw [hks];exact TH ha)) z
   ·exact absurd (lE ok (by rw [hks];exact TH hb)) z
 ·intro τ J' hv
  obtain ⟨r,u2,u3,u4,rfl,l',bb⟩:=(hInv _ _ _).mp hv
  rw [Tx,Uc,← hps,← hks,zu ok.knd] at bb
  simp_all! [bb.o]
  exact ⟨OB _,pb,r,_,rfl,bb,q.imp (λq=>Fg.less l' q) λq l hl=>Fg.less (uM l') (q l ((l' l).elim (λe=>e.trans hl) id))⟩
def Cf.turn (c:Cf) (t:Rat) (v:Int):Cf:={ c with w:=turned c.w t v }
def cK (n:Str) (t:Rat) (v:Int) (c:Cf):Cf:=if c.n=n then c.turn t v else c
theorem n6 (n:Str) (t:Rat) (v:Int) (c:Cf):(cK n t v c).n=c.n∧(cK n t v c).a=c.a∧(cK n t v c).r=c.r∧(cK n t v c).g=c.g:=by unfold cK;split <;> exact ⟨rfl,rfl,rfl,rfl⟩
theorem zq {rows:List aP} {t:Rat} {v:Int} {l:aP} (h:rows.getLast?=some l):∃l',(turned rows t v).getLast?=some l'∧l'.v=v:=by
 obtain ⟨ls,rfl⟩:=List.getLast?_eq_some_iff.mp h
 rw [bR]
 split
 ·split
  ·rename_i e
   cases e2:ls.getLast? with
   | none=>rw [e2] at e;cases e
   | some k=>rw [e2] at e;exact ⟨k,rfl,Option.some.inj e⟩
  ·exact ⟨_,T1 ..,rfl⟩
 ·split
  ·rename_i e;exact ⟨l,T1 ..,e⟩
  ·exact ⟨_,T1 ..,rfl⟩
theorem dO {α β:Type} {f:α→β} {g:α→α} (h:∀x,f (g x)=f x) (l:List α):(l.map g).map f=l.map f:=by rw [TK];exact TZ λx _=>h x
theorem ba.map {L:Ln} (h:ba L) {f:Cf→Cf} (hn:∀c,(f c).n=c.n∧(f c).a=c.a∧(f c).r=c.r∧(f c).g=c.g) (hw:∀c∈L.cs,(f c).w≠[]∧(∀l∈(f c).w,l.m≤L.t∧sM l)∧(f c).w.length≤200):ba { L with cs:=L.cs.map f }:=by
 have mem:∀c∈L.cs.map f,∃c0∈L.cs,f c0=c:=λc hc=>by obtain ⟨c0,h0,e⟩:=TB.mp hc;exact ⟨c0,h0,e⟩
 have hfs:(Ln.fs { L with cs:=L.cs.map f }).map (·.1)=L.fs.map (·.1):=by
  rw [er,er]
  unfold Ln.DX
  show ((L.cs.map f).filter _).map Cf.n=_
  rw [Uo,TK]
  have e1:(λc:Cf=>c.g.isNone) ∘ f=λc=>c.g.isNone:=by funext c;show (f c).g.isNone=_;rw [(hn c).2.2.2]
  rw [e1]
  exact TZ λc _=>(hn c).1
 refine ⟨?_,?_,?_,?_,?_,?_,h.t0,h.ts,by show (L.cs.map f).length≤100;rw [Tx];exact h.many,λn=>by rw [hfs];exact h.rm n,h.rn,h.rl⟩
 ·show ((L.cs.map f).map Cf.n).Nodup
  rw [dO (λc=>(hn c).1)];exact h.nd
 ·intro c hc;obtain ⟨c0,h0,rfl⟩:=mem c hc;exact (hw c0 h0).1
 ·intro c hc l hl;obtain ⟨c0,h0,rfl⟩:=mem c hc;exact ((hw c0 h0).2.1 l hl).1
 ·intro c hc l hl;obtain ⟨c0,h0,rfl⟩:=mem c hc;exact ((hw c0 h0).2.1 l hl).2
 ·intro c hc;obtain ⟨c0,h0,rfl⟩:=mem c hc;exact (hw c0 h0).2.2
 ·intro c hc q e;obtain ⟨c0,h0,rfl⟩:=mem c hc;exact h.gz c0 h0 q (by rw [← (hn c0).2.2.2];exact e)
theorem ba.J_ {L:Ln} (h:ba L) {c:Cf} (hc:c∈L.cs):c.w≠[]∧(∀l∈c.w,l.m≤L.t∧sM l)∧c.w.length≤200:=⟨h.ne c hc,λl hl=>⟨h.le c hc l hl,h.ck c hc l hl⟩,h.len c hc⟩
theorem ba.K5 {L:Ln} (h:ba L) {c:Cf} (hc:c∈L.cs) (hl:c.w.length < 200) {v:Int} (hv:v.natAbs≤1000):(c.turn L.t v).w≠[]∧(∀l∈(c.turn L.t v).w,l.m≤L.t∧sM l)∧(c.turn L.t v).w.length≤200:=by
 refine ⟨lH (h.ne c hc),λl hl'=>?_,?_⟩
 ·rcases Bg hl' with k | ⟨l0,k,rfl⟩
  ·exact ⟨h.le c hc l k,h.ck c hc l k⟩
  ·exact ⟨Rat.le_refl,(h.ck c hc l0 k).at (h.le c hc l0 k) h.ts hv⟩
 ·have:=jH c.w L.t v
  show (turned c.w L.t v).length≤200
  omega
theorem aX.turn {cN cL:Addr} {J:Hq} {p:Addr} {L:Ln} (h:aX cN cL J p L) (ok:ba L) {c:Cf} (hc:c∈L.cs) {t:Rat} {v:Int}:aX cN cL (put J c.r (.lst ((turned c.w t v).map aP.V))) p { L with cs:=L.cs.map (cK c.n t v) }:=by
 have hcs:=n6 c.n t v
 refine ⟨by rw [ak (Ne.symm (h.ND hc))];exact h.ob,?_,?_,λx hx=>?_,?_,λx hx=>?_⟩
 ·show put J c.r _ L.d=_
  rw [ak (Ne.symm (h.SU hc)),h.dc]
  show _=Us (HQ.dct ((L.cs.map (cK c.n t v)).map λc=>(c.n,PV.ref c.a)) L.e)
  rw [dO (f:=λc:Cf=>(c.n,PV.ref c.a)) (λx=>by rw [(hcs x).1,(hcs x).2.1])]
 ·show put J c.r _ L.o=_
  rw [ak (Ne.symm (h.ao c hc))];exact h.rw
 ·obtain ⟨x0,h0,rfl⟩:=TB.mp hx
  have hl:=h.lg x0 h0
  refine ⟨?_,?_⟩
  ·rw [(hcs x0).2.1,(hcs x0).2.2.1,(hcs x0).2.2.2,ak (h.Tn h0 hc)];exact hl.o
  ·rw [(hcs x0).2.2.1]
   by_cases e:x0.n=c.n
   ·have:x0=c:=ok.uniq h0 hc e
    subst this
    rw [aq]
    unfold cK;rw [if_pos rfl];rfl
   ·have hr:x0.r≠c.r:=λz=>e (by
     obtain ⟨i,hi,rfl⟩:=Uj h0
     obtain ⟨j,hj,rfl⟩:=Uj hc
     have:=(UO (xs:=L.cs.map Cf.r) (i:=i) (j:=j) (h₀:=by simpa using hi) (h₁:=by simpa using hj) h.ap).mp (by rw [Uw,Uw];exact z)
     subst this;rfl)
    rw [ak hr]
    unfold cK;rw [if_neg e];exact hl.l
 ·show ((L.cs.map (cK c.n t v)).map Cf.r).Nodup
  rw [dO (λx=>(hcs x).2.2.1)];exact h.ap
 ·obtain ⟨x0,h0,rfl⟩:=TB.mp hx
  rw [(hcs x0).2.2.1];exact h.ao x0 h0
theorem wb {L:Ln} {p:Addr} {f:Cf→Cf} (hn:∀c,(f c).n=c.n∧(f c).a=c.a∧(f c).r=c.r∧(f c).g=c.g) (a:Addr):Ln.own { L with cs:=L.cs.map f } p a↔L.own p a:=by
 unfold Ln.own
 constructor
 ·rintro (h | h | h | ⟨c,hc,h⟩)
  ·exact .inl h
  ·exact .inr (.inl h)
  ·exact .inr (.inr (.inl h))
  ·obtain ⟨c0,h0,rfl⟩:=TB.mp hc
   rw [(hn c0).2.1,(hn c0).2.2.1] at h
   exact .inr (.inr (.inr ⟨c0,h0,h⟩))
 ·rintro (h | h | h | ⟨c,hc,h⟩)
  ·exact .inl h
  ·exact .inr (.inl h)
  ·exact .inr (.inr (.inl h))
  ·exact .inr (.inr (.inr ⟨f c,TB.mpr ⟨c,hc,rfl⟩,by rw [(hn c).2.1,(hn c).2.2.1];exact h⟩))
abbrev kR:Stmt:=(L2.inClass (top 42) 3)
abbrev jh:List Str:=["self","name","pace"]
theorem wX:L2.aw ["self","name","pace"] ["self","name","pace"] (L2.aj kR):=dN
def xm (cN cL eC eF:Addr):cF:=λxs J Q E=>∃p L n v,xs=[.ref p,.str n,.int v]∧aX cN cL J p L∧bU L∧(∀c∈L.cs,c.w.length < 200)∧(n ∉ L.row→E eC J)∧(n∈L.row→¬ v.natAbs≤1000→E eF J)∧(n∈L.row→v.natAbs≤1000→∀J' L',aX cN cL J' p L'→bU L'→L'.cs=L.cs.map (cK n L.t v)→L'.t=L.t→Mv J J' (L.own p) (L'.own p)→Q .non J')
theorem vW {cN cL eC eF f:Addr} {fd:FuncData} (F:bZ K "turn" "Lane.turn" kR f fd) (Z:bP mg) (au:dD K mg "Lane" cN) (aB:aD K cN "logs") (ay:aD K cN "now") {fZ:Tok} (d8:mg "FASTEST"=some (.int 1000 fZ)) (fk:Own K mg "TooFar" eF) (aY:cu P w K mg base cN 1 "must_be_there" cn (qm cN cL eC)) (eW:cu P w K mg base cL 5 "turn" kB (xj cL)) (bh:cu P w K mg base cN 7 "settle" di (iW cN cL)):aL P w K mg base (cV P w) 8 f fd jh (dn K (xm cN cL eC eF)):=by
 simp_arith [wX,(ai (a7 (bz (pl:=_) aY B hr (rv 0) (af (rv 1) ag)))
   (ai (aZ (aG ph (aQ zY rfl Z.abs boot_abs (af (rv 2) ag)) (fV (v:=.int 1000) (.int 1000) rfl d8 ⟨_,rfl⟩ (λ_ _=>rfl))) (ar (dQ fk rfl cH B.kn rfl (af bM ag))) aK)
   (ai (a7 (bz (pl:=_) eW B hr (av dG (aR au.cl aB (rv 0)) (rv 1)) (af (aR au.cl ay (rv 0)) (af (rv 2) ag))))
   (ar (a7 (bC (pl:=_) bh B hr (rv 0)))))))]
 ·obtain ⟨p,L,n,v,rfl,_⟩:=h;rfl
 obtain ⟨p,L,n,v,rfl,b,ok,hlen,qc,qf,q⟩:=h
 have bo:=b.ob
 have bd:=b.dc
 refine hX ?_
 simp_all! [bo]
 refine ⟨dg _ _ _ _,p,L,n,rfl,b,λhn=>?_,qc⟩
 simp_all! []
 have habs:(1000 < if v < 0 then -v else v)↔¬ v.natAbs≤1000:=by split <;> omega
 by_cases hv:v.natAbs≤1000
 ·rw [if_neg (λz=>habs.mp z hv)]
  obtain ⟨c,hc,rfl,hg⟩:=ok.found hn
  have lo:=(b.lg c hc).o
  have ok1:ba { L with cs:=L.cs.map (cK c.n L.t v) }:=ok.toba.map (n6 c.n L.t v) λx hx=>by
   unfold cK
   split
   ·exact ok.toba.K5 hx (hlen x hx) hv
   ·exact ok.toba.J_ hx
  have b1:=b.turn ok.toba hc (t:=L.t) (v:=v)
  have mv1:Mv J (put J c.r (.lst ((turned c.w L.t v).map aP.V))) (L.own p) (Ln.own { L with cs:=L.cs.map (cK c.n L.t v) } p):=gj (.inr (.inr (.inr ⟨c,hc,.inr rfl⟩))) λa h=>.inl ((wb (n6 c.n L.t v) a).mp h)
  simp_all! [bo,q9,tP,bd,ok.va hc,lo]
  refine ⟨OC _ _,c.a,c.r,c.w,c.g,L.t,v,rfl,b.lg c hc,ok.ne c hc,T4 (ok.len c hc) (by decide),ok.Ng,λl hl=>(ok.ck c hc l hl).OE,?_⟩
  generalize put J c.r (.lst ((turned c.w L.t v).map aP.V))=J1 at b1 mv1 ⊢
  simp_all! [b1.ob]
  refine ⟨dg _ _ _ _,p,_,rfl,b1,ok1,λJ2 o' b2 mv2=>?_⟩
  exact q hn hv J2 _ b2 (bU.settled ok1 o') rfl rfl (mv1.trans mv2)
 ·rw [if_pos (habs.mpr hv)]
  simp_all! [fJ]
  exact qf hn hv
def cO (t:Rat) (c:Cf):Cf:=if c.g.isNone=true then c.turn t (-c.cur.v) else c
def bW (t:Rat) (row:List Str) (c:Cf):Cf:=if c.n∈row then c.turn t (-c.cur.v) else c
theorem mU (t:Rat) (row:List Str) (c:Cf):(bW t row c).n=c.n∧(bW t row c).a=c.a∧(bW t row c).r=c.r∧(bW t row c).g=c.g:=by unfold bW;split <;> exact ⟨rfl,rfl,rfl,rfl⟩
theorem k6 {L:Ln} (ok:ba L):L.cs.map (bW L.t L.row)=L.cs.map (cO L.t):=by
 refine TZ λc hc=>?_
 have h:c.n∈L.row↔c.g.isNone=true:=by
  rw [ok.rm,er,TB]
  constructor
  ·rintro ⟨c',hc',e⟩
   have h':=Ln.c7.mp hc'
   rw [ok.uniq h'.1 hc e] at h'
   rw [h'.2];rfl
  ·intro e
   exact ⟨c,Ln.c7.mpr ⟨hc,by cases hg:c.g with | none=>rfl | some q=>rw [hg] at e;cases e⟩,rfl⟩
 unfold bW cO
 by_cases e:c.n∈L.row
 ·rw [if_pos e,if_pos (h.mp e)]
 ·rw [if_neg e,if_neg (λz=>e (h.mpr z))]
theorem ba.bW {L:Ln} (ok:ba L) (hlen:∀c∈L.cs,c.w.length < 200) (row:List Str):ba { L with cs:=L.cs.map (bW L.t row) }:=ok.map (mU L.t row) λx hx=>by
 unfold Ov.bW
 split
 ·exact ok.K5 hx (hlen x hx) (by have:=(ok.ck x hx _ (Cf.i7 (ok.ne x hx)).2).v;omega)
 ·exact ok.J_ hx
abbrev jw:Stmt:=(L2.inClass (top 42) 4)
abbrev hE:List Str:=["self"]
theorem iq:L2.aw ["self","name","pace"] ["self"] (L2.aj jw):=dN
def sf (cN cL:Addr):cF:=λxs J Q E=>∃p L,xs=[.ref p]∧aX cN cL J p L∧bU L∧(∀c∈L.cs,c.w.length < 200)∧(∀J' L',aX cN cL J' p L'→bU L'→L'.cs=L.cs.map (cO L.t)→L'.t=L.t→Mv J J' (L.own p) (L'.own p)→Q .non J')
theorem tU {cN cL eC f:Addr} {fd:FuncData} (F:bZ K "about" "Lane.about" jw f fd) (Z:bP mg) (au:dD K mg "Lane" cN) (az:aD K cN "row") (aB:aD K cN "logs") (ay:aD K cN "now") (bG:cu P w K mg base cN 4 "leg_of" eD (nV cN cL eC)) (eW:cu P w K mg base cL 5 "turn" kB (xj cL)) (bh:cu P w K mg base cN 7 "settle" di (iW cN cL)):aL P w K mg base (cV P w) 8 f fd hE (dn K (sf cN cL)):=by
 simp_arith [iq,(ai (fe cy rfl (dW (aR au.cl az (rv 0))) (bA (i:=1) iq.nd) (ai (aI (i:=2) iq.nd (av ax (bz (pl:=_) bG B hr (rv 0) (af (rv 1) ag)) ah))
   (ar (a7 (bz (pl:=_) eW B hr (av dG (aR au.cl aB (rv 0)) (rv 1)) (af (aR au.cl ay (rv 0)) (af (nH jJ (rv 2)) ag)))))))
   (ar (a7 (bC (pl:=_) bh B hr (rv 0)))))]
 ·obtain ⟨p,L,rfl,_⟩:=h;rfl
 obtain ⟨p,L,rfl,b,ok,hlen,q⟩:=h
 refine hX ?_
 simp_all! [b.ob,b.rw,q_]
 have hid:L.cs.map (bW L.t (L.row.take 0))=L.cs:=by
  have:∀c∈L.cs,bW L.t (L.row.take 0) c=c:=λc _=>by unfold bW;rw [if_neg (by simp)]
  rw [TZ this,VP]
 obtain ⟨Inv,hInv⟩:∃Inv:Nat→Sr→Hq→Prop,∀i τ J',Inv i τ J'↔∃(u1 u2:Option PV),τ=[some (.ref p),u1,u2]∧aX cN cL J' p { L with cs:=L.cs.map (bW L.t (L.row.take i)) }∧Mv J J' (L.own p) (L.own p):=⟨_,λ_ _ _=>Iff.rfl⟩
 refine fA Inv ((hInv _ _ _).mpr ⟨_,_,rfl,by rw [hid];exact b,Mv.refl _ _⟩) (λi τ J' h=>?_) ?_ ?_
 ·obtain ⟨_,_,_,b',_⟩:=(hInv _ _ _).mp h
  have:=b'.rw
  simp only at this
  rw [this]
 ·intro i x τ J' hx hv
  obtain ⟨u1,u2,rfl,b',mv'⟩:=(hInv _ _ _).mp hv
  clear hv
  have hi:i < L.row.length:=by have:=(TC.mp hx).1;simpa using this
  have hget:L.row[i]?=some L.row[i]:=Tz hi
  rw [TN,hget] at hx
  cases hx
  have hn:L.row[i]∈L.row:=Uk hi
  have et:L.row.take (i + 1)=L.row.take i ++ [L.row[i]]:=by rw [Ub,hget];rfl
  have hnd:(L.row.take (i + 1)).Nodup:=ok.rn.sublist (Uy _ _)
  rw [et] at hnd
  have hnew:=(eX hnd).2
  generalize L.row[i]=n at hn et hnew ⊢
  obtain ⟨c,hc,rfl,hg⟩:=ok.found hn
  have oki:=ok.toba.bW hlen (L.row.take i)
  have ecc:bW L.t (L.row.take i) c=c:=by unfold bW;rw [if_neg hnew]
  have hci:c∈L.cs.map (bW L.t (L.row.take i)):=TB.mpr ⟨c,hc,ecc⟩
  simp_all! [b'.ob]
  refine ⟨dg _ _ _ _,p,_,c.n,rfl,b',oki,λc' hc' e' hg'=>?_,λz=>absurd hn z⟩
  have ec':c'=c:=oki.uniq hc' hci e'
  subst ec'
  have hcv:=(ok.ck c' hc _ (Cf.i7 (ok.ne c' hc)).2).v
  have lo:=(b'.lg c' hci).o
  have bo':=b'.ob
  have bd':=b'.dc
  simp only at bo' bd'
  simp_all! [lM,bo',q9,tP,bd',lo]
  have hva:=oki.va hci
  simp only at hva
  simp_all! [hva,lo,bo',q9]
  refine ⟨OC _ _,c'.a,c'.r,c'.w,c'.g,L.t,-c'.cur.v,rfl,b'.lg c' hci,ok.ne c' hc,T4 (ok.len c' hc) (by decide),ok.Ng,λl hl=>(ok.ck c' hc l hl).OE,?_⟩
  have b1:=b'.turn oki hci (t:=L.t) (v:=-c'.cur.v)
  have em:(L.cs.map (bW L.t (L.row.take i))).map (cK c'.n L.t (-c'.cur.v))=L.cs.map (bW L.t (L.row.take (i + 1))):=by
   rw [TK]
   refine TZ λx hx=>?_
   show cK c'.n L.t (-c'.cur.v) (bW L.t (L.row.take i) x)=_
   by_cases e:x.n=c'.n
   ·have:x=c':=ok.uniq hx hc e
    subst this
    rw [ecc]
    unfold cK Ov.bW
    rw [if_pos rfl,if_pos (by rw [et];simp)]
   ·unfold cK
    rw [if_neg (by rw [(mU L.t (L.row.take i) x).1];exact e)]
    unfold Ov.bW
    rw [et]
    by_cases e2:x.n∈L.row.take i
    ·rw [if_pos e2,if_pos (TQ.mpr (.inl e2))]
    ·rw [if_neg e2,if_neg (λz=>by
      rcases TQ.mp z with z | z
      ·exact e2 z
      ·exact e (by simpa using z))]
  simp only [em] at b1
  refine (hInv _ _ _).mpr ⟨_,_,rfl,b1,mv'.trans (gj (.inr (.inr (.inr ⟨c',hc,.inr rfl⟩))) λa h=>.inl h)⟩
 ·intro τ J' hv
  obtain ⟨u1,u2,rfl,b',mv'⟩:=(hInv _ _ _).mp hv
  rw [Tx,Uc,k6 ok.toba] at b'
  have oki:ba { L with cs:=L.cs.map (cO L.t) }:=by rw [← k6 ok.toba];exact ok.toba.bW hlen L.row
  simp_all! [b'.ob]
  refine ⟨dg _ _ _ _,p,_,rfl,b',oki,λJ2 o' b2 mv2=>?_⟩
  refine q J2 _ b2 (bU.settled oki o') rfl rfl (mv'.trans ⟨λa o e n=>mv2.keep a o e λz=>n ?_,λa h=>?_,mv2.mono⟩)
  ·rw [← k6 ok.toba] at z;exact (wb (mU L.t L.row) a).mp z
  ·rcases mv2.own a h with h' | h'
   ·rw [← k6 ok.toba] at h';exact .inl ((wb (mU L.t L.row) a).mp h')
   ·exact .inr h'
def bF (n:Str) (t:Rat) (c:Cf):Cf:=if c.n=n then { c with g:=some t } else c
theorem fu (n:Str) (t:Rat) (c:Cf):(bF n t c).n=c.n∧(bF n t c).a=c.a∧(bF n t c).r=c.r∧(bF n t c).w=c.w:=by unfold bF;split <;> exact ⟨rfl,rfl,rfl,rfl⟩
theorem yg {L L':Ln} {n:Str} {t:Rat} (e:L'.cs=L.cs.map (bF n t)):L'.fs=L.fs.filter λx=>decide (x.1≠n):=by
 unfold Ln.fs Ln.DX
 rw [e,Uo,TK,Uo,List.filter_filter]
 have e1:(λc:Cf=>c.g.isNone) ∘ bF n t=λc=>((λx:Str × aP=>decide (x.1≠n)) ∘ λc:Cf=>(c.n,c.cur)) c && c.g.isNone:=by
  funext c
  show (bF n t c).g.isNone=(decide (c.n≠n) && c.g.isNone)
  unfold bF
  by_cases z:c.n=n
  ·rw [if_pos z];simp [z]
  ·rw [if_neg z];simp [z]
 rw [e1]
 refine TZ λc hc=>?_
 show ((bF n t c).n,(bF n t c).cur)=_
 unfold Cf.cur
 rw [(fu n t c).1,(fu n t c).2.2.2]
theorem yF {ks:List Ky} (h:(ks.map Ky.n).Nodup) (f:Ky→Bool):cE (ks.filter f)=(cE ks).filter f:=by
 have hs:((ks.filter f).map Ky.n).Nodup:=h.sublist (List.Sublist.map _ Vo)
 refine nW (lt:=Ky.lt) Ky.He Ky.tr (dh hs) ((dh h).filter _) λx=>?_
 rw [bE,TU,TU,bE]
theorem yH {t:Rat} {fs:List (Str × aP)} (h:(fs.map (·.1)).Nodup) (n:Str):cY t (fs.filter λx=>decide (x.1≠n))=(cY t fs).filter λx=>decide (x≠n):=by
 unfold cY
 have e:(fs.filter λx=>decide (x.1≠n)).map (key t)=(fs.map (key t)).filter λk=>decide (k.n≠n):=by rw [Uo];rfl
 rw [e,yF (by rw [d9];exact h),Uo]
 rfl
theorem erase_filter {l:List Str} (h:l.Nodup) {j:Nat} {n:Str} (hj:l[j]?=some n):l.eraseIdx j=l.filter λx=>decide (x≠n):=by
 obtain ⟨hl,e⟩:=TC.mp hj
 rw [List.eraseIdx_eq_take_drop_succ]
 have hd:l=l.take j ++ n :: l.drop (j + 1):=by rw [← e,← Ut hl,Vh]
 have hn:=h
 rw [hd,Uz] at hn
 have k1:∀x∈l.take j,x≠n:=λx hx=>hn.2.2 x hx n (by simp)
 have k2:∀x∈l.drop (j + 1),x≠n:=λx hx z=>(UM.mp hn.2.1).1 (by rw [← z];exact hx)
 conv=>rhs;rw [hd]
 rw [U5,Uh,if_neg (by simp),UA.mpr λx hx=>decide_eq_true (k1 x hx),UA.mpr λx hx=>decide_eq_true (k2 x hx)]
theorem bU.leave {L:Ln} (ok:bU L) (n:Str):bU { L with cs:=L.cs.map (bF n L.t),row:=L.row.filter λx=>decide (x≠n) }:=by
 have hfs:Ln.fs { L with cs:=L.cs.map (bF n L.t),row:=L.row.filter λx=>decide (x≠n) }=L.fs.filter λx=>decide (x.1≠n):=yg (L:=L) (t:=L.t) rfl
 have mem:∀c∈L.cs.map (bF n L.t),∃c0∈L.cs,bF n L.t c0=c:=λc hc=>by obtain ⟨c0,h0,e⟩:=TB.mp hc;exact ⟨c0,h0,e⟩
 have hw:∀c,(bF n L.t c).w=c.w:=λc=>(fu n L.t c).2.2.2
 refine ⟨⟨?_,?_,?_,?_,?_,?_,ok.t0,ok.ts,?_,?_,?_,?_⟩,?_⟩
 ·show ((L.cs.map (bF n L.t)).map Cf.n).Nodup
  rw [dO (λc=>(fu n L.t c).1)];exact ok.nd
 ·intro c hc;obtain ⟨c0,h0,rfl⟩:=mem c hc;rw [hw];exact ok.ne c0 h0
 ·intro c hc l hl;obtain ⟨c0,h0,rfl⟩:=mem c hc;rw [hw] at hl;exact ok.le c0 h0 l hl
 ·intro c hc l hl;obtain ⟨c0,h0,rfl⟩:=mem c hc;rw [hw] at hl;exact ok.ck c0 h0 l hl
 ·intro c hc;obtain ⟨c0,h0,rfl⟩:=mem c hc;rw [hw];exact ok.len c0 h0
 ·intro c hc q e
  obtain ⟨c0,h0,rfl⟩:=mem c hc
  unfold bF at e
  split at e
  ·cases e;exact ⟨ok.ts,Rat.le_refl⟩
  ·exact ok.gz c0 h0 q e
 ·show (L.cs.map (bF n L.t)).length≤100
  rw [Tx];exact ok.many
 ·intro m
  rw [hfs]
  show m∈L.row.filter _↔_
  rw [TU,ok.rm,TB,TB]
  constructor
  ·rintro ⟨⟨x,hx,rfl⟩,k⟩;exact ⟨x,TU.mpr ⟨hx,k⟩,rfl⟩
  ·rintro ⟨x,hx,rfl⟩;exact ⟨⟨x,(TU.mp hx).1,rfl⟩,(TU.mp hx).2⟩
 ·exact ok.rn.sublist Vo
 ·exact T4 (Uu _ _) ok.rl
 ·rw [hfs]
  show L.row.filter _=_
  rw [yH ok.LH,← ok.row]
theorem BH {α:Type} [DecidableEq α]:∀{l:List α} {x:α},x∈l→∃j:Nat,l[j]?=some x∧∀m:Nat,m < j→l[m]?≠some x
 | y :: l,x,h=>by
  by_cases e:y=x
  ·exact ⟨0,by rw [e];rfl,λm hm=>by omega⟩
  ·rcases TX.mp h with h | h
   ·exact absurd h.symm e
   ·obtain ⟨j,h1,h2⟩:=BH h
    refine ⟨j + 1,h1,λm hm=>?_⟩
    cases m with
    | zero=>intro z;exact e (Option.some.inj z)
    | succ m=>exact h2 m (by omega)
abbrev jA:Stmt:=(L2.inClass (top 42) 2)
abbrev lS:List Str:=["self","name"]
theorem uf:L2.aw ["self","name"] ["self","name"] (L2.aj jA):=dN
def zg (cN cL eC:Addr):cF:=λxs J Q E=>∃p L n,xs=[.ref p,.str n]∧aX cN cL J p L∧bU L∧(n ∉ L.row→E eC J)∧(n∈L.row→∀J' L',aX cN cL J' p L'→bU L'→L'.cs=L.cs.map (bF n L.t)→L'.t=L.t→Mv J J' (L.own p) (L'.own p)→Q .non J')
theorem tY {cN cL eC f:Addr} {fd:FuncData} (F:bZ K "leave" "Lane.leave" jA f fd) (Z:bP mg) (au:dD K mg "Lane" cN) (aB:aD K cN "logs") (ay:aD K cN "now") (az:aD K cN "row") (aY:cu P w K mg base cN 1 "must_be_there" cn (qm cN cL eC)) (ka:cu P w K mg base cL 1 "leave" nq (y8 cL)):aL P w K mg base (cV P w) 2 f fd lS (dn K (zg cN cL eC)):=by
 simp_arith [uf,(ai (a7 (bz (pl:=_) aY B hr (rv 0) (af (rv 1) ag)))
   (ai (a7 (bz (pl:=_) ka B hr (av dG (aR au.cl aB (rv 0)) (rv 1)) (af (aR au.cl ay (rv 0)) ag)))
   (ar (a7 (nE PySem.F.plainAttrs_list PySem.F.slot_list_remove PySem.F.type_list_remove DC (aR au.cl az (rv 0)) (af (rv 1) ag))))))]
 ·obtain ⟨p,L,n,rfl,_⟩:=h;rfl
 obtain ⟨p,L,n,rfl,b,ok,qc,q⟩:=h
 have bo:=b.ob
 have bd:=b.dc
 refine hX ?_
 simp_all! [bo]
 refine ⟨dg _ _ _ _,p,L,n,rfl,b,λhn=>?_,qc⟩
 obtain ⟨c,hc,rfl,hg⟩:=ok.found hn
 have lo:=(b.lg c hc).o
 simp_all! [bo,q9,tP,bd,ok.va hc,lo]
 refine ⟨Ri _ _,c.a,c.r,c.w,c.g,L.t,rfl,b.lg c hc,?_⟩
 simp_all! [ak (Ne.symm (b.Qk hc)),bo,q_,ak (Ne.symm (b.Rq hc)),b.rw]
 obtain ⟨j,h1,h2⟩:=BH hn
 refine ⟨L.row,rfl,j,h1,h2,?_⟩
 rw [erase_filter ok.rn h1]
 have hn':=fu c.n L.t
 have ok1:=ok.leave c.n
 refine q hn _ { L with cs:=L.cs.map (bF c.n L.t),row:=L.row.filter λx=>decide (x≠c.n) } ⟨?_,?_,aq,λx hx=>?_,?_,λx hx=>?_⟩ ok1 rfl rfl ?_
 ·rw [ak (Ne.symm b.Iz),ak (Ne.symm (b.Qk hc))];exact bo
 ·show put (put J c.a _) L.o _ L.d=_
  rw [ak b.Rr,ak (Ne.symm (b.SS hc)),bd]
  show _=some (HQ.dct ((L.cs.map (bF c.n L.t)).map λc=>(c.n,PV.ref c.a)) L.e)
  rw [dO (f:=λc:Cf=>(c.n,PV.ref c.a)) (λx=>by rw [(hn' x).1,(hn' x).2.1])]
 ·obtain ⟨x0,h0,rfl⟩:=TB.mp hx
  have hl:=b.lg x0 h0
  refine ⟨?_,?_⟩
  ·rw [(hn' x0).2.1,(hn' x0).2.2.1,ak (b.Rq h0)]
   by_cases e:x0.n=c.n
   ·have:x0=c:=ok.uniq h0 hc e
    subst this
    rw [aq]
    unfold bF;rw [if_pos rfl];rfl
   ·have ha:x0.a≠c.a:=λz=>by
     have hh:=hl.o
     have hh2:=(b.lg c hc).o
     rw [z,hh2] at hh
     have hrr:c.r=x0.r:=by
      have h3:=(HQ.ins.inj (Option.some.inj hh)).2
      have h4:=(List.cons.inj h3).1
      have h5:=(Prod.mk.inj h4).2
      exact PV.ref.inj h5
     obtain ⟨i,hi,rfl⟩:=Uj h0
     obtain ⟨j',hj',rfl⟩:=Uj hc
     have:=(UO (xs:=L.cs.map Cf.r) (i:=i) (j:=j') (h₀:=by simpa using hi) (h₁:=by simpa using hj') b.ap).mp (by rw [Uw,Uw];exact hrr.symm)
     subst this;exact e rfl
    rw [ak ha]
    unfold bF;rw [if_neg e];exact hl.o
  ·rw [(hn' x0).2.2.1,(hn' x0).2.2.2,ak (b.ao x0 h0),ak (λz=>by have h3:=hl.l;rw [z,lo] at h3;cases h3)];exact hl.l
 ·show ((L.cs.map (bF c.n L.t)).map Cf.r).Nodup
  rw [dO (λx=>(hn' x).2.2.1)];exact b.ap
 ·obtain ⟨x0,h0,rfl⟩:=TB.mp hx
  rw [(hn' x0).2.2.1];exact b.ao x0 h0
 ·have own':∀a,Ln.own { L with cs:=L.cs.map (bF c.n L.t),row:=L.row.filter λx=>decide (x≠c.n) } p a→L.own p a:=λa h=>by
   rcases h with h | h | h | ⟨x,hx,h⟩
   ·exact .inl h
   ·exact .inr (.inl h)
   ·exact .inr (.inr (.inl h))
   ·obtain ⟨c0,h0,rfl⟩:=TB.mp hx
    rw [(hn' c0).2.1,(hn' c0).2.2.1] at h
    exact .inr (.inr (.inr ⟨c0,h0,h⟩))
  refine (gj (S':=L.own p) (.inr (.inr (.inr ⟨c,hc,.inl rfl⟩))) λa h=>.inl h).trans (gj (.inr (.inr (.inl rfl))) λa h=>.inl (own' a h))
theorem Sub.trans {J J' J'':Hq} (h:Sub J J') (k:Sub J' J''):Sub J J'':=λa o e=>k a o (h a o e)
abbrev mx:Stmt:=(L2.inClass (top 29) 8)
abbrev pw:List Str:=["self"]
theorem fw:L2.aw ["self","moment","place","pace","other"] ["self"] (L2.aj mx):=dN
def Cz (cL:Addr):cF:=λxs J Q _=>∃p r rows g,xs=[.ref p]∧xH cL J p r rows g∧rows≠[]∧∀J' a' r',Sub J J'→J a'=none→J r'=none→xH cL J' a' r' rows g→Q (.ref a') J'
theorem yy {cL f:Addr} {fd:FuncData} (F:bZ K "twin" "Log.twin" mx f fd) (Z:bP mg) (a9:dD K mg "Log" cL) (aH:aD K cL "rows") (bx:aD K cL "gone") (ur:vq P w K mg base cL 1 "Log" fH (xi cL)):aL P w K mg base (cV P w) 3 f fd pw (dn K (Cz cL)):=by
 simp_arith [fw,(ai (rO (av ax (aR a9.cl aH (rv 0)) ah) (oQ (n:=3) rfl (cm (bA (i:=1) fw.nd) (cm (bA (i:=2) fw.nd) (cm (bA (i:=3) fw.nd) lB)))))
   (ai (aI (i:=4) fw.nd (Cn ur B hr (af (rv 1) (af (rv 2) (af (rv 3) ag)))))
   (ai (d4 a9.cl aH (rv 4) (cZ iE rfl Z.list boot_list (af (aR a9.cl aH (rv 0)) ag)))
   (ai (d4 a9.cl bx (rv 4) (aR a9.cl bx (rv 0)))
   (ar (aA (rv 4)))))))]
 ·obtain ⟨p,r,rows,g,rfl,_⟩:=h;rfl
 obtain ⟨p,r,rows,g,rfl,b,hne,q⟩:=h
 have bo:=b.o
 have bl:=b.l
 obtain ⟨l,ls,rfl⟩:∃l ls,rows=l :: ls:=UX hne
 refine hX ?_
 simp_arith! [bS,bo,bl,FD,aP.V]
 intro a ha
 refine ⟨a,l,rfl,aq,λr0 hr0=>⟨rfl,?_⟩⟩
 have ne1:∀{b u},J b=some u→b≠a:=λe z=>by subst z;rw [ha] at e;cases e
 have ne2:∀{b u},J b=some u→b≠r0:=λe z=>by subst z;rw [ak (ne1 e)] at hr0;rw [hr0] at e;cases e
 have nra:r0≠a:=by intro e;subst e;rw [aq] at hr0;cases hr0
 have sub:Sub J (put (put (put J a (.ins cL [])) r0 (.lst [l.V])) a (.ins cL [("rows",.ref r0),("gone",.non)])):=λb o e=>by rw [ak (ne1 e),ak (ne2 e),ak (ne1 e)];exact e
 have ho:(put (put (put J a (.ins cL [])) r0 (.lst [l.V])) a (.ins cL [("rows",.ref r0),("gone",.non)])) a=some (.ins cL [("rows",.ref r0),("gone",.non)]):=aq
 generalize (put (put (put J a (.ins cL [])) r0 (.lst [l.V])) a (.ins cL [("rows",.ref r0),("gone",.non)]))=J1 at sub ho ⊢
 refine fF (sub _ _ bo) (fG (FD _ _) (fG (show jU J1 (.ref r)=some ((l :: ls).map aP.V) by rw [yn,sub _ _ bl]) λr1 hr1=>?_))
 have n1:a≠r1:=by intro e;subst e;rw [ho] at hr1;cases hr1
 have n2:∀{b u},J b=some u→b≠r1:=λe z=>by subst z;rw [sub _ _ e] at hr1;cases hr1
 have hr:J r1=none:=by
  cases e:J r1 with
  | none=>rfl
  | some u=>exact absurd rfl (n2 e)
 refine fF (by rw [ak n1];exact ho) ⟨by show (2:Nat) < 1000;decide,?_⟩
 refine fF (by rw [ak (ne1 bo),ak (n2 bo)];exact sub _ _ bo) (fG (SQ _ _) (fF aq ⟨by rw [B_];show (2:Nat) < 1000;decide,?_⟩))
 rw [eG,B_,I9]
 refine q _ a r1 (λb o e=>by rw [ak (ne1 e),ak (n2 e)];exact sub _ _ e) ha hr ⟨aq,by rw [ak (Ne.symm n1)];exact aq⟩
abbrev gU:Stmt:=(L2.inClass (top 42) 20)
abbrev nk:List Str:=["self"]
theorem nM:L2.aw ["self","other"] ["self"] (L2.aj gU):=dN
def Cf.face (c:Cf):Str × List aP × Option Rat:=(c.n,c.w,c.g)
structure Ln.alike (L L':Ln):Prop where
 t:L'.t=L.t
 row:L'.row=L.row
 cs:L'.cs.map Cf.face=L.cs.map Cf.face
theorem fP (L:Ln):L.fs=((L.cs.map Cf.face).filter λf=>f.2.2.isNone).map λf=>(f.1,f.2.1.getLast?.getD ⟨0,0,0⟩):=by
 unfold Ln.fs Ln.DX
 rw [Uo,TK];rfl
theorem Ln.alike.fs {L L':Ln} (h:L.alike L'):L'.fs=L.fs:=by rw [fP,fP,h.cs]
theorem Ln.alike.ex {L L':Ln} (h:L.alike L') {c':Cf} (hc:c'∈L'.cs):∃c∈L.cs,c.n=c'.n∧c.w=c'.w∧c.g=c'.g:=by
 have:c'.face∈L.cs.map Cf.face:=by rw [← h.cs];exact TB.mpr ⟨c',hc,rfl⟩
 obtain ⟨c,hc,e⟩:=TB.mp this
 unfold Cf.face at e
 exact ⟨c,hc,congrArg (·.1) e,congrArg (·.2.1) e,congrArg (·.2.2) e⟩
theorem Ln.alike.nm {L L':Ln} (h:L.alike L'):L'.cs.map Cf.n=L.cs.map Cf.n:=by
 have:=congrArg (VX (·.1)) h.cs
 rw [TK,TK] at this;exact this
theorem Ln.alike.ok {L L':Ln} (h:L.alike L') (o:bU L):bU L':=by
 refine ⟨⟨by rw [h.nm];exact o.nd,λc hc=>?_,λc hc=>?_,λc hc=>?_,λc hc=>?_,λc hc=>?_,by rw [h.t];exact o.t0,by rw [h.t];exact o.ts,?_,by rw [h.row,h.fs];exact o.rm,by rw [h.row];exact o.rn,by rw [h.row];exact o.rl⟩,by rw [h.row,h.t,h.fs];exact o.row⟩
 ·obtain ⟨c0,h0,_,e,_⟩:=h.ex hc;rw [← e];exact o.ne c0 h0
 ·obtain ⟨c0,h0,_,e,_⟩:=h.ex hc;rw [← e,h.t];exact o.le c0 h0
 ·obtain ⟨c0,h0,_,e,_⟩:=h.ex hc;rw [← e];exact o.ck c0 h0
 ·obtain ⟨c0,h0,_,e,_⟩:=h.ex hc;rw [← e];exact o.len c0 h0
 ·obtain ⟨c0,h0,_,_,e⟩:=h.ex hc;rw [← e,h.t];exact o.gz c0 h0
 ·have:=congrArg UG h.nm;rw [Tx,Tx] at this;rw [this];exact o.many
theorem xH.PK {cL:Addr} {J J':Hq} {p r:Addr} {rows:List aP} {g:Option Rat} (h:xH cL J p r rows g) (s:Sub J J'):xH cL J' p r rows g:=⟨s _ _ h.o,s _ _ h.l⟩
def CG (cN cL:Addr):cF:=λxs J Q _=>∃p L,xs=[.ref p]∧aX cN cL J p L∧bU L∧∀J' p' L',Sub J J'→aX cN cL J' p' L'→bU L'→L.alike L'→(∀a,L'.own p' a→J a=none)→Q (.ref p') J'
theorem vX {cN cL f:Addr} {fd:FuncData} (F:bZ K "twin" "Lane.twin" gU f fd) (Z:bP mg) (au:dD K mg "Lane" cN) (ay:aD K cN "now") (aB:aD K cN "logs") (az:aD K cN "row") (oi:vq P w K mg base cN 1 "Lane" e_ (xk cN cL)) (ml:cu P w K mg base cL 3 "twin" pw (Cz cL)):aL P w K mg base (cV P w) 4 f fd nk (dn K (CG cN cL)):=by
 simp_arith [nM,(ai (aI (i:=1) nM.nd (nF oi B hr))
   (ai (d4 au.cl ay (rv 1) (aR au.cl ay (rv 0)))
   (ai (d4 au.cl aB (rv 1) (KS (L2.aj gU) ["self","other"] [("self",0)] rfl rfl rfl (wI (aR au.cl aB (rv 0))) (λ_ _ _ _ _ _=>(rv 0)) (λ_ _ _ _ _ _=>(bC (pl:=_) ml HR hr (av dG (aR au.cl aB (rv 1)) (rv 0))))))
   (ai (d4 au.cl az (rv 1) (cZ iE rfl Z.list boot_list (af (aR au.cl az (rv 0)) ag)))
   (ar (aA (rv 1)))))))]
 ·obtain ⟨p,L,rfl,_⟩:=h;rfl
 obtain ⟨p,L,rfl,b,ok,q⟩:=h
 refine hX ?_
 simp_all! []
 intro p' hp'
 refine ⟨p',rfl,aq,λJ1 d e o b1 mv1=>?_⟩
 have jp:∀{a u},J a=some u→a≠p':=λe z=>by subst z;rw [hp'] at e;cases e
 have sub:Sub J J1:=λa u e=>mv1.keep a u (by rw [ak (jp e)];exact e) (jp e)
 have tQ:∀a,Ln.own ⟨0,d,e,o,[],[]⟩ p' a→J a=none:=λa z=>by
  rcases mv1.own a z with z | z
  ·rw [z];exact hp'
  ·by_cases y:a=p'
   ·rw [y];exact hp'
   ·rw [ak y] at z;exact z
 have ob1:J1 p'=some (.ins cN [("now",fr 0),("logs",.ref d),("row",.ref o)]):=b1.ob
 clear b1 mv1
 have hbo:=sub _ _ b.ob
 refine ⟨rfl,hNq _ _ ?_⟩
 clear hNq Nq
 simp_all! [hbo,ob1,q9]
 refine ⟨by show (3:Nat) < 1000;decide,?_⟩
 have sub2:Sub J (put J1 p' (.ins cN [("now",fr L.t),("logs",.ref d),("row",.ref o)])):=λa u e=>by rw [ak (jp e)];exact sub _ _ e
 have ob2:put J1 p' (.ins cN [("now",fr L.t),("logs",.ref d),("row",.ref o)]) p'=some (.ins cN [("now",fr L.t),("logs",.ref d),("row",.ref o)]):=aq
 refine hNq _ _ ?_
 clear hNq Nq hbo sub ob1
 generalize put J1 p' (.ins cN [("now",fr L.t),("logs",.ref d),("row",.ref o)])=J2 at sub2 ob2 ⊢
 clear J1 tQ
 have hbo:=sub2 _ _ b.ob
 have hbd:=sub2 _ _ b.dc
 simp_all! [Qo,hbo,tP,hbd]
 intro D hD ep
 have n2:∀{a u},J2 a=some u→a≠D:=λe z=>by subst z;rw [hD] at e;cases e
 have jD:J D=none:=by
  cases e:J D with
  | none=>rfl
  | some u=>exact absurd rfl (n2 (sub2 _ _ e))
 obtain ⟨W,hW⟩:∃W:Nat→Hq→Prop,∀i J3,W i J3↔∃(cs:List Cf) (ep2:Nat),Sub J J3∧J3 D=some (.dct (cs.map λc=>(c.n,PV.ref c.a)) ep2)∧J3 p'=some (.ins cN [("now",fr L.t),("logs",.ref d),("row",.ref o)])∧cs.map Cf.face=(L.cs.take i).map Cf.face ∧
   (∀c∈cs,xH cL J3 c.a c.r c.w c.g∧J c.a=none∧J c.r=none)∧(cs.map Cf.r).Nodup:=⟨_,λ_ _=>Iff.rfl⟩
 refine ⟨W,(hW _ _).mpr ⟨[],ep,λa u e=>by rw [ak (n2 (sub2 _ _ e))];exact sub2 _ _ e,aq,by rw [ak (n2 ob2)];exact ob2,rfl,(by simp),VU⟩,?_,?_,?_⟩
 ·intro i J3 hw
  obtain ⟨cs,ep2,s3,hd3,ob3,fc,la,nd⟩:=(hW _ _).mp hw
  exact s3 _ _ b.dc
 ·intro i x J3 hx hw
  obtain ⟨cs,ep2,s3,hd3,ob3,fc,la,nd⟩:=(hW _ _).mp hw
  have hi:i < L.cs.length:=by have:=(TC.mp hx).1;simpa using this
  have hc:L.cs[i]∈L.cs:=Uk hi
  have et:L.cs.take (i + 1)=L.cs.take i ++ [L.cs[i]]:=by rw [Ub,Tz hi];rfl
  rw [TN,TN,Tz hi] at hx
  cases hx
  have hcd:=ok.toba.nd
  have hnot:L.cs[i].n ∉ cs.map Cf.n:=by
   have e1:cs.map Cf.n=(L.cs.take i).map Cf.n:=by
    have:=congrArg (VX (·.1)) fc
    rw [TK,TK] at this;exact this
   have e2:((L.cs.take (i + 1)).map Cf.n).Nodup:=hcd.sublist ((Uy _ _).map _)
   rw [et,TM] at e2
   rw [e1]
   exact (eX e2).2
  generalize L.cs[i]=c at hc et hnot
  have b3o:=s3 _ _ b.ob
  have b3d:=s3 _ _ b.dc
  have hva:=ok.toba.va hc
  have lg:=(b.lg c hc).PK s3
  have lo:=lg.o
  simp_all! [b3o,tP,b3d,hva,lo]
  refine ⟨Rn _ _,c.a,c.r,c.w,c.g,rfl,lg,ok.ne c hc,λJ4 a' r' s4 na nr l4=>?_⟩
  have hlen:cs.length≤100:=by
   have e1:=congrArg UG fc
   rw [Tx,Tx,T'] at e1
   have:=ok.many;omega
  have s34:Sub J J4:=s3.trans s4
  have n4:∀{a u},J3 a=some u→a≠a'∧a≠r':=λ{a u} e=>⟨λz=>by subst z;exact absurd (na.symm.trans e) (λy=>nomatch y),λz=>by subst z;exact absurd (nr.symm.trans e) (λy=>nomatch y)⟩
  have jn:∀{a},J3 a=none→J a=none:=λ{a} e=>by
   cases z:J a with
   | none=>rfl
   | some u=>have:=s3 _ _ z;rw [e] at this;cases this
  have nD':=n4 hd3
  have epu:sJ (cs.map λc=>(c.n,PV.ref c.a)) c.n (PV.ref a')=(cs ++ [Cf.mk c.n a' r' c.w c.g]).map λc=>(c.n,PV.ref c.a):=by
   unfold L2.sJ
   rw [if_neg,TM]
   ·rfl
   ·intro z
    obtain ⟨kv,hkv,e⟩:=VF.mp z
    obtain ⟨c0,h0,rfl⟩:=TB.mp hkv
    exact hnot (TB.mpr ⟨c0,h0,of_decide_eq_true e⟩)
  refine ⟨_,ep2,s4 _ _ hd3,a_ (by rw [Tx];omega),λep'=>(hW _ _).mpr ⟨cs ++ [⟨c.n,a',r',c.w,c.g⟩],ep',λa u e=>?_,?_,?_,?_,?_,?_⟩⟩
  ·rw [ak (λz=>by subst z;rw [jD] at e;cases e)];exact s34 _ _ e
  ·rw [epu];exact aq
  ·rw [ak (n2 ob2)];exact s4 _ _ ob3
  ·rw [et,TM,TM,fc];rfl
  ·intro c0 h0
   rcases TQ.mp h0 with h0 | h0
   ·obtain ⟨l1,l2,l3⟩:=la c0 h0
    have l1':=l1.PK s4
    exact ⟨⟨by rw [ak (λz=>by have:=l1.o;rw [z,hd3] at this;cases this)];exact l1'.o,by rw [ak (λz=>by have:=l1.l;rw [z,hd3] at this;cases this)];exact l1'.l⟩,l2,l3⟩
   ·rw [TR] at h0;subst h0
    exact ⟨⟨by rw [ak (Ne.symm nD'.1)];exact l4.o,by rw [ak (Ne.symm nD'.2)];exact l4.l⟩,jn na,jn nr⟩
  ·rw [TM,TL,Ux,Uz]
   refine ⟨nd,by simp,λx hx y hy e=>?_⟩
   rw [TR] at hy;subst hy;subst e
   obtain ⟨c0,h0,rfl⟩:=TB.mp hx
   exact (n4 (la c0 h0).1.l).2 rfl
 ·intro J3 hw
  obtain ⟨cs,ep2,s3,hd3,ob3,fc,la,nd⟩:=(hW _ _).mp hw
  rw [Tx,Tx,Uc] at fc
  have np:p'≠D:=n2 ob2
  simp_all! [ob3,Kj,if_false]
  refine ⟨by show (3:Nat) < 1000;decide,?_⟩
  have sub4:Sub J (put J3 p' (.ins cN [("now",fr L.t),("logs",.ref D),("row",.ref o)])):=λa u e=>by rw [ak (jp e)];exact s3 _ _ e
  have ob4:put J3 p' (.ins cN [("now",fr L.t),("logs",.ref D),("row",.ref o)]) p'=some (.ins cN [("now",fr L.t),("logs",.ref D),("row",.ref o)]):=aq
  have hd4:put J3 p' (.ins cN [("now",fr L.t),("logs",.ref D),("row",.ref o)]) D=some (.dct (cs.map λc=>(c.n,PV.ref c.a)) ep2):=by rw [ak (Ne.symm np)];exact hd3
  have la4:∀c∈cs,xH cL (put J3 p' (.ins cN [("now",fr L.t),("logs",.ref D),("row",.ref o)])) c.a c.r c.w c.g∧J c.a=none∧J c.r=none:=λc hc=>by
   obtain ⟨l1,l2,l3⟩:=la c hc
   refine ⟨⟨?_,?_⟩,l2,l3⟩
   ·rw [ak (Ae l1.o ob3 ra)];exact l1.o
   ·rw [ak (λz=>by have:=l1.l;rw [z,ob3] at this;cases this)];exact l1.l
  refine hNq _ _ ?_
  clear hNq Nq hw
  generalize put J3 p' (.ins cN [("now",fr L.t),("logs",.ref D),("row",.ref o)])=J4 at sub4 ob4 hd4 la4 ⊢
  clear la hd3 ob3 s3 J3 hW W
  have b4o:=sub4 _ _ b.ob
  have b4r:=sub4 _ _ b.rw
  simp_all! [b4o,q_,b4r]
  intro O hO
  have n4:∀{a u},J4 a=some u→a≠O:=λe z=>by subst z;rw [hO] at e;cases e
  refine fF (by rw [ak (n4 ob4)];exact ob4) ⟨by show (3:Nat) < 1000;decide,?_⟩
  rw [B9]
  refine hNq _ _ ?_
  clear hNq Nq
  simp_all! []
  have jO:J O=none:=by
   cases z:J O with
   | none=>rfl
   | some u=>exact absurd rfl (n4 (sub4 _ _ z))
  have al:L.alike ⟨L.t,D,ep2,O,cs,L.row⟩:=⟨rfl,rfl,fc⟩
  refine q _ p' ⟨L.t,D,ep2,O,cs,L.row⟩ (λa u e=>by rw [ak (jp e),ak (n4 (sub4 _ _ e))];exact sub4 _ _ e) ⟨aq,?_,?_,λc hc=>?_,nd,λc hc=>?_⟩ (al.ok ok) al ?_
  ·show put (put J4 O _) p' _ D=_
   rw [ak (Ne.symm np),ak (n4 hd4)];exact hd4
  ·show put (put J4 O _) p' _ O=_
   rw [ak (Ne.symm (n4 ob4))];exact aq
  ·obtain ⟨l1,l2,l3⟩:=la4 c hc
   exact ⟨by rw [ak (Ae l1.o ob4 ra),ak (n4 l1.o)];exact l1.o,by rw [ak (λz=>by have:=l1.l;rw [z,ob4] at this;cases this),ak (n4 l1.l)];exact l1.l⟩
  ·exact n4 (la4 c hc).1.l
  ·rintro a (rfl | rfl | rfl | ⟨c,hc,rfl | rfl⟩)
   ·exact hp'
   ·exact jD
   ·exact jO
   ·exact (la4 c hc).2.1
   ·exact (la4 c hc).2.2
abbrev nK:Stmt:=(top 52)
abbrev fg:List Str:=["_law_cell_here","_law_many"]
theorem eK:L2.aw ["_law_cell_here","_law_many","_law_signs","_law_row","_law_some","_law_body","_law_at_here","_law_out","_law_k"] ["_law_cell_here","_law_many"] (L2.aj nK):=dN
def CH:Sp:=λvs H Q _=>∃c m:Int,vs=[.int c,.int m]∧0≤m∧m≤36∧∀(r:Addr) (H':Hp) (xs:List Str),H r=none→bB H H'→H' r=some (.lst (xs.map V.str))→(xs.length:Int)=m→xs.Nodup→(∀x∈xs,good x=true)→Q (.ref r) H'
def menu:List Str:=["m","ab","a","zebra9","b0","0","abc","9zz","q7q7q7q7","aa","z","a1b2c3d4"]
def cX:Str:="abcdefghijklmnopqrstuvwxyz0123456789"
theorem Im:menu.Nodup:=by decide +kernel
theorem EH:cX.cps.toList.Nodup:=by decide +kernel
theorem k7:cX.cps.toList.length=36:=by decide +kernel
theorem Lq {α:Type} {xs:List α} {j:Int} (h0:0≤j) (h1:j < xs.length):de xs j=some (xs[j.toNat]'(by omega)):=by
 have h:=bq (xs:=xs) (j:=j.toNat) (Tz (by omega))
 rw [show ((j.toNat:Nat):Int)=j by omega] at h
 exact h
def JV {α:Type} (xs:List α) (z:α) (d:Int) (k:Nat):α:=xs.getD ((d + 5 * (k:Int)) % (xs.length:Int)).toNat z
section
variable {α:Type} {xs:List α} {z:α} (d:Int)
theorem qK (h:0 < xs.length) (k:Nat):0≤(d + 5 * (k:Int)) % (xs.length:Int)∧(d + 5 * (k:Int)) % (xs.length:Int) < (xs.length:Int):=⟨Int.emod_nonneg _ (by omega),Int.emod_lt_of_pos _ (by omega)⟩
theorem mZ (h:0 < xs.length) (k:Nat):xs[((d + 5 * (k:Int)) % (xs.length:Int)).toNat]?=some (JV xs z d k):=by
 have:=qK d h k
 unfold JV
 rw [List.getD_eq_getElem?_getD,Tz (by omega)]
 rfl
theorem Lz (h:0 < xs.length) (k:Nat):de xs ((d + 5 * (k:Int)) % (xs.length:Int))=some (JV xs z d k):=by
 have:=bq (mZ (z:=z) d h k)
 rwa [Int.toNat_of_nonneg (qK d h k).1] at this
theorem Bz (h:0 < xs.length) (k:Nat):JV xs z d k∈xs:=TH (mZ d h k)
theorem QX {M a b d u v:Int} (g:5 * u=1 + M * v) (a0:0≤a) (a1:a < M) (b0:0≤b) (b1:b < M) (e:(d + 5 * a) % M=(d + 5 * b) % M):a=b:=by
 have h:M ∣ 5 * (a - b):=by
  have:=Int.dvd_of_emod_eq_zero (Int.emod_eq_emod_iff_emod_sub_eq_zero.mp e)
  rwa [show d + 5 * a - (d + 5 * b)=5 * (a - b) by omega] at this
 obtain ⟨c,hc⟩:M ∣ a - b:=by
  obtain ⟨c,hc⟩:=h
  refine ⟨u * c - v * (a - b),?_⟩
  have h1:5 * u * (a - b)=u * (M * c):=by rw [← hc];grind
  rw [g] at h1
  grind
 rcases Int.lt_trichotomy c 0 with k | k | k
 ·have:M * c≤M * (-1):=Int.mul_le_mul_of_nonneg_left (by omega) (by omega)
  omega
 ·subst k;omega
 ·have:M * 1≤M * c:=Int.mul_le_mul_of_nonneg_left (by omega) (by omega)
  omega
theorem By (u v:Int) (hn:xs.Nodup) (g:5 * u=1 + (xs.length:Int) * v) {i j:Nat} (hi:i < xs.length) (hj:j < xs.length) (e:JV xs z d i=JV xs z d j):i=j:=by
 have h:0 < xs.length:=by omega
 have a:=mZ (z:=z) d h i
 have b:=mZ (z:=z) d h j
 rw [e] at a
 obtain ⟨a1,a2⟩:=TC.mp a
 obtain ⟨b1,b2⟩:=TC.mp b
 have e1:=(UO hn).mp (a2.trans b2.symm)
 have:=qK d h i
 have:=qK d h j
 exact Int.ofNat.inj (QX g (Int.natCast_nonneg i) (Int.ofNat_lt.mpr hi) (Int.natCast_nonneg j) (Int.ofNat_lt.mpr hj) (show (d + 5 * (i:Int)) % _=(d + 5 * (j:Int)) % _ by omega))
end
theorem FI:menu.length=12:=by decide +kernel
abbrev pick:Int→Nat→Str:=JV menu ""
theorem I8 (d:Int) (k:Nat):de (menu.map V.str) ((d + 5 * (k:Int)) % 12)=some (.str (pick d k)):=by
 have h:=qK (xs:=menu) d (by decide +kernel) k
 have g:=bq (xs:=menu.map V.str) (j:=((d + 5 * (k:Int)) % (menu.length:Int)).toNat) (by rw [TN,mZ (xs:=menu) (z:="") d (by decide +kernel) k];rfl)
 rw [Int.toNat_of_nonneg h.1,FI] at g
 exact g
theorem Gh (d:Int) {m:Nat} (hm:m≤12):((UR m).map (pick d)).Nodup:=by
 refine List.Pairwise.map (R:=λi j=>i < 12∧j < 12∧i≠j) _ (λi j ⟨a,b,c⟩ e=>c (By d 5 2 Im (by decide +kernel) a b e)) ?_
 refine List.Pairwise.imp_of_mem (R:=λi j=>i≠j) (λ{i j} hi hj ne=>?_) (List.nodup_range)
 rw [Ve] at hi hj
 exact ⟨by omega,by omega,ne⟩
theorem DB:∀x∈menu,good x=true:=by decide +kernel
theorem qG:∀c∈cX.cps.toList,d6 cG c=true:=by decide +kernel
theorem DV (d:Int) (k:Nat):good (pick d k)=true:=DB _ (Bz d (by decide +kernel) k)
theorem HZ {cs:List Nat} (h0:0 < cs.length) (h1:cs.length≤8) (h:∀c∈cs,d6 cG c=true):good ⟨cs.toArray⟩=true:=by
 unfold good
 rw [Ud,Ud]
 refine ⟨⟨decide_eq_true ?_,decide_eq_true ?_⟩,Vi.mpr λc hc=>h c (by simpa using hc)⟩
 ·show 1≤cs.toArray.size;rw [TJ];omega
 ·show cs.toArray.size≤8;rw [TJ];omega
abbrev sign:Int→Nat→Nat:=JV cX.cps.toList 0
theorem JA (d:Int) (k:Nat):de cX.cps.toList ((d + 5 * (k:Int)) % 36)=some (sign d k):=by
 have h:=Lz (xs:=cX.cps.toList) (z:=0) d (by decide +kernel) k
 rw [k7] at h
 exact h
theorem D4 (d:Int) (k:Nat):d6 cG (sign d k)=true:=qG _ (Bz d (by decide +kernel) k)
theorem GK (d:Int) {i j:Nat} (hi:i < 36) (hj:j < 36) (e:sign d i=sign d j):i=j:=By d (-7) (-1) EH (by decide +kernel) (by rw [k7];exact hi) (by rw [k7];exact hj) e
theorem G7 {d:Int} {n:Nat} {xs:List Str} (hl:xs.length≤36) (h:∀k x,xs[k]?=some x→x.cps.toList[n]?=some (sign d k)):xs.Nodup:=by
 refine Um.mpr λi j hi hj hij e=>?_
 have a:=h i _ (Tz hi)
 have b:=h j _ (Tz hj)
 rw [e] at a
 rw [a] at b
 have:=GK d (by omega) (by omega) (Option.some.inj b)
 omega
theorem ES {xs:List V} {k:Int} (h:0≤k):oj xs none (some k)=xs.take k.toNat:=by
 obtain ⟨j,rfl⟩:∃j:Nat,k=(j:Int):=⟨k.toNat,by omega⟩
 unfold oj
 rw [HT.yW,HT.wJ,Vf,Int.toNat_natCast]
 rcases Nat.le_total j xs.length with e | e
 ·rw [V_ e]
  rfl
 ·rw [Nat.min_eq_right e,Nat.sub_zero,UB (TF _),UB e]
theorem F3 (cs:List Nat):((cs.map one).map (·.length)).sum=cs.length:=by
 induction cs with
 | nil=>rfl
 | cons c cs ih =>
  rw [TL,TL,List.sum_cons,ih,T8]
  show 1 + cs.length=cs.length + 1
  omega
theorem PF {ds:List Int} (hD:Dig ds [3,36,8,36,36,36,36,36,36,36,36,840]):∃(d0 d1 d2 d11:Int) (es:List Int),de (ds.map V.int) 0=some (.int d0)∧de (ds.map V.int) 1=some (.int d1)∧de (ds.map V.int) 2=some (.int d2)∧de (ds.map V.int) 11=some (.int d11) ∧
  oj (ds.map V.int) (some 3) (some 11)=es.map V.int∧es.length=8∧(∀e∈es,0≤e∧e < 36)∧0≤d2∧d2 < 8:=by
 obtain ⟨d0,ds,rfl,_,_,hD⟩:=hD.cons
 obtain ⟨d1,ds,rfl,_,_,hD⟩:=hD.cons
 obtain ⟨d2,ds,rfl,d20,d21,hD⟩:=hD.cons
 have key:∀(n:Nat) {ds:List Int},Dig ds (Up n 36 ++ [840])→∃es d,ds=es ++ [d]∧es.length=n∧∀e∈es,0≤e∧e < 36:=by
  intro n
  induction n with
  | zero=>intro ds h;obtain ⟨d,ds,rfl,_,_,h⟩:=h.cons;cases h.nil;exact ⟨[],d,rfl,rfl,λe he=>by cases he⟩
  | succ n ih =>
   intro ds h
   obtain ⟨d,ds,rfl,h0,h1,h⟩:=h.cons
   obtain ⟨es,x,rfl,hl,he⟩:=ih h
   exact ⟨d :: es,x,rfl,congrArg Nat.succ hl,List.forall_mem_cons.mpr ⟨⟨h0,h1⟩,he⟩⟩
 obtain ⟨es,d11,rfl,hl,he⟩:=key 8 hD
 refine ⟨d0,d1,d2,d11,es,bq (j:=0) rfl,bq (j:=1) rfl,bq (j:=2) rfl,bq (j:=11) ?_,?_,hl,he,d20,d21⟩
 ·rw [TN,Ul,Ul,Ul,UC (by omega),hl];rfl
 ·have h11:((d0 :: d1 :: d2 :: (es ++ [d11])).map V.int).length=12:=by simp [hl]
  unfold oj
  rw [show (some (3:Int))=some ((3:Nat):Int) from rfl,show (some (11:Int))=some ((11:Nat):Int) from rfl,HT.wJ,HT.wJ,h11]
  show List.take 8 ((es ++ [d11]).map V.int)=_
  rw [TM,List.take_append_of_le_length (by simp [hl]),UB (by simp [hl])]
theorem Ie {p q a b:Prop} [Decidable p] [Decidable q]:(if p then if q then a else b else b)=if p∧q then a else b:=by by_cases hp:p <;> by_cases hq:q <;> simp [hp,hq]
theorem FR {f:Addr} {fd:FuncData} (F:bZ K "_law_names" "_law_names" nK f fd) (Z:Ed mg) (c9:sG P w K mg base 1 "_law_digits" cj (r_ K)):aL P w K mg base qw 2 f fd fg CH:=by
 refine F.ok eK (λvs H Q E h=>?_) (λcdv A outer s H vs Q E hr h=>?_)
 ·obtain ⟨c,m,rfl,_⟩:=h
  rfl
 obtain ⟨c,m,rfl,m0,m1,q⟩:=h
 refine ⟨_,(QB.run (aW (cU (i:=2) eK.nd rfl (Or.inr rfl) oI)
   (aW (cU (i:=3) eK.nd rfl (Or.inr rfl) (yL c9 hr (by decide) rfl (aT (pv 0) (aT (kr (F9 [.int 3,.int 36,.int 8,.int 36,.int 36,.int 36,.int 36,.int 36,.int 36,.int 36,.int 36,.int 840] rfl)) bH))))
   (aW (nB (Kx (wz (du F4 (cg gh (pv 3) aM (λ_ _=>rfl)) aM (eY _)) (qi (du Kr (pv 1) aM (eY _))))) (aW (cU (i:=4) eK.nd rfl (Or.inr rfl) (kr (F9 [.str "m",.str "ab",.str "a",.str "zebra9",.str "b0",.str "0",.str "abc",.str "9zz",.str "q7q7q7q7",.str "aa",.str "z",.str "a1b2c3d4"] rfl)))
   (bI (dH (IU (aj nK) ["_law_cell_here","_law_many","_law_signs","_law_row","_law_some","_law_body","_law_at_here","_law_out","_law_k"] [("_law_row",3),("_law_some",4)] rfl rfl rfl (fY rfl Z.range (aT (pv 1) bH)) (λ_ _ _ _ _ _=>(cg gh (pv 2) (bj gr (bj jf (cg gh (pv 1) aM (λ_ _=>rfl)) (bj cM aM (pv 0))) aM) (λ_ _=>rfl))))))) fU)
   (aW (Ja (i:=5) (aj nK) ["_law_cell_here","_law_many","_law_signs","_law_row","_law_some","_law_body","_law_at_here","_law_out","_law_k"] [("_law_signs",2)] rfl rfl rfl eK.nd rfl (Or.inl rfl) (ni (ku w8 (pv 3) (ly aM) (ly aM))) (λ_ _ _ _ _ _=>(cg Ft (pv 1) (pv 0) (λ_ _=>rfl))))
   (yO (nB (du F4 (cg gh (pv 3) aM (λ_ _=>rfl)) aM (eY _)) (bI (cU (i:=5) eK.nd rfl (Or.inl rfl) (ku w8 (pv 5) qg (ly (bj jf (cg gh (pv 3) aM (λ_ _=>rfl)) aM))))) fU)
   (aW (cU (i:=6) eK.nd rfl (Or.inl rfl) (bj gr (cg gh (pv 3) aM (λ_ _=>rfl)) (dP i5 rfl Z.len boot_len (aT (pv 5) bH))))
   (aW (cU (i:=7) eK.nd rfl (Or.inl rfl) (kr bH))
   (aW (oJ PassesOwn.never rfl (fY rfl Z.range (aT (pv 1) bH)) (lq (i:=8) eK.nd rfl (Or.inl rfl)) (aW (wq (cg Ft (pv 2) (bj gr (bj jf (cg gh (pv 3) aM (λ_ _=>rfl)) (bj cM aM (pv 8))) aM) (λ_ _=>rfl)) (we (pv 5) (pv 6) set_list))
   (bI (lz (rE PySem.F.plainAttrs_list PySem.F.slot_list_append PySem.F.type_list_append iJ (pv 7) (aT (rE PySem.F.plainAttrs_str PySem.F.slot_str_join PySem.F.type_str_join Iu oI (aT (pv 5) bH)) bH))))))
   (bI (dH (pv 7)))))))))))),?_⟩
 refine ⟨_,rfl,(by show 12≤sizeLine;decide),λp hp=>?_⟩
 have ss:=kW (ss:=[3,36,8,36,36,36,36,36,36,36,36,840]) (by decide)
 refine ⟨c,p,[3,36,8,36,36,36,36,36,36,36,36,840],rfl,cW.of aE,ss,by decide,λr H1 ds _ g1 hr1 hD _=>?_⟩
 obtain ⟨d0,d1,d2,d11,es,at0,at1,at2,at11,hcut,el,be,d20,d21⟩:=PF hD
 clear hD
 generalize ds.map V.int=row at hr1 at0 at1 at2 at11 hcut
 have g1:=(bB.new hp _).trans g1
 dsimp! [rJoin,hr1,at0,at1]
 rw [Ie]
 split
 ·refine ⟨(by show 12≤sizeLine;decide),λp2 hp2=>?_⟩
  have g2:=bB.new hp2 (.lst (menu.map V.str))
  have h2:(upd H1 p2 (.lst (menu.map V.str))) p2=some (.lst (menu.map V.str)):=aE
  have hr2:=g2 _ _ hr1
  refine ⟨_,rfl,m,rfl,by omega,by omega,λD hD=>?_⟩
  refine Fz (lo:=0) (n:=m.toNat) (λi H'=>bB (upd H1 p2 (.lst (menu.map V.str))) H'∧H' D=some (.lst (((UR i).map (pick d1)).map V.str))) ⟨bB.new hD _,aE⟩ ?_ ?_
  ·rintro i H' R hi ⟨g,hd⟩ k
   have hr3:=g _ _ hr2
   have h3:=g _ _ h2
   dsimp! [rJoin,hr3,h3,at1,Int.zero_add]
   refine ⟨.of (Bd.small (by decide) (by decide)) (Bd.small (x:=(i:Int)) (by omega) (by omega)),_,I8 d1 i,?_⟩
   refine k _ _ _ hd (by rw [Tx,Tx,Vx];exact a_ (by omega)) ⟨g.NH hD _,?_⟩
   rw [aE]
   simp [List.range_succ]
  ·rintro H' ⟨g,hd⟩
   exact q D H' _ (g1.free (g2.free hD)) (g1.trans (g2.trans g)) hd (by rw [Tx,Vx];omega) (Gh d1 (by omega)) (λx hx=>by obtain ⟨k,_,rfl⟩:=TB.mp hx;exact DV d1 k)
 refine ⟨_,rfl,3,rfl,11,rfl,r,_,rfl,cW.of hr1,λp2 hp2=>⟨p2,rfl,⟨_,cW.of aE⟩,λD hD=>?_⟩⟩
 rw [hcut] at hD ⊢
 have g2:=bB.new hp2 (.lst (es.map V.int))
 have hr2:=g2 _ _ hr1
 have h2:(upd H1 p2 (.lst (es.map V.int))) p2=some (.lst (es.map V.int)):=aE
 have al:=k7
 have al2:cX.length≤sizeLine:=by decide +kernel
 refine Ih (K:=K) (a:=p2) (xs:=es.map V.int) (λi H'=>bB (upd H1 p2 (.lst (es.map V.int))) H'∧∃cs:List Nat,cs.length=i∧(∀c∈cs,d6 cG c=true)∧H' D=some (.lst ((cs.map one).map V.str)))
  ⟨bB.new hD _,[],rfl,(λc hc=>by cases hc),aE⟩ (λi H' _ ⟨g,_⟩=>cW.of (g _ _ h2)) ?_ ?_
 ·rintro i y H' R hi ⟨g,cs,hcs,hca,hd⟩ k
  have hil:=(TC.mp hi).1
  obtain ⟨z,rfl,hz⟩:=qV hi
  obtain ⟨z0,z1⟩:=be z (TH hz)
  have at1:=Lq (xs:=cX.cps.toList) z0 (by rw [al];exact z1)
  dsimp! [rJoin]
  refine ⟨al2,_,at1,?_⟩
  refine k _ _ _ hd (by rw [Tx,Tx,hcs];rw [Tx] at hil;exact a_ (by omega)) ⟨g.NH hD _,cs ++ [cX.cps.toList[z.toNat]'(by rw [al];omega)],by rw [T7,hcs];rfl,?_,?_⟩
  ·intro c hc
   rcases TQ.mp hc with hc | hc
   ·exact hca c hc
   ·rw [TR] at hc;subst hc;exact qG _ (Uk _)
  rw [aE,TM,TM]
  rfl
 rintro H2 ⟨g,cs,hcs,hca,hd⟩
 have hr3:=g _ _ hr2
 have g:=g1.trans (g2.trans g)
 have hcs:cs.length=8:=hcs.trans ((Tx _).trans el)
 obtain ⟨M,hM⟩:∃M:L2.St→Hp→Prop,∀σ' H',M σ' H'↔∃(D:Addr) (cs:List Nat),σ'=[some (.int c),some (.int m),some (.str cX),some (.ref r),none,some (.ref D),none,none,none]∧bB H H'∧H D=none∧H' r=some (.lst row)∧D≠r∧0 < cs.length∧cs.length≤8∧(∀c∈cs,d6 cG c=true)∧H' D=some (.lst ((cs.map one).map V.str)):=⟨_,λ_ _=>Iff.rfl⟩
 have fD:H D=none:=g1.free (g2.free hD)
 have nDr:D≠r:=(cb hr2 hD).symm
 refine ⟨M,?_,?_⟩
 ·dsimp! [rJoin,hr3,at0,at2]
  split
  ·refine ⟨_,cW.of hd,λp4 hp4=>(hM _ _).mpr ⟨p4,cs.take (d2 + 1).toNat,rfl,g.trans (bB.new hp4 _),g.free hp4,?_,?_,?_,?_,(λc hc=>hca c (UK hc)),?_⟩⟩
   ·exact (bB.new hp4 _) _ _ hr3
   ·exact (cb hr3 hp4).symm
   ·rw [T'];omega
   ·rw [T'];omega
   ·rw [aE,ES (by omega),UW,UW]
  ·exact (hM _ _).mpr ⟨D,cs,rfl,g,fD,hr3,nDr,by omega,by omega,hca,hd⟩
 clear hca hd hr3 g fD nDr hcs
 intro σ5 H5 hm
 obtain ⟨D,cs,rfl,g,fD,hr3,nDr,l0,l1,hca,hd⟩:=(hM _ _).mp hm
 clear hm hM M
 have e0s:(Str.ofString "").length=0:=by decide +kernel
 have hl:((cs.map one).map V.str).length=cs.length:=by rw [Tx,Tx]
 have hlp:(0:Int) < (((cs.map one).map V.str).length:Nat):=by rw [hl];omega
 have a0:=Int.emod_nonneg d11 (show (((cs.map one).map V.str).length:Int)≠0 by omega)
 have a1:=Int.emod_lt_of_pos d11 hlp
 refine ⟨_,rfl,r,_,11,_,rfl,rfl,hr3,at11,_,rfl,D,rfl,_,.inl (cW.of hd),_,_,rfl,rfl,hlp,?_⟩
 generalize hat:d11 % (((cs.map one).map V.str).length:Int)=at' at a0 a1
 rw [hl] at a1
 refine ⟨Ue _,λO hO=>?_⟩
 have gO:=bB.new hO (.lst [])
 have nOD:O≠D:=(cb hd hO).symm
 have nOr:O≠r:=(cb hr3 hO).symm
 have fO:H O=none:=g.free hO
 refine ⟨_,rfl,m,rfl,by omega,by omega,uI (lo:=0) (n:=m.toNat) (λi σ H'=>∃(v:Option V) (cs':List Nat) (xs:List Str),σ=[some (.int c),some (.int m),some (.str cX),some (.ref r),none,some (.ref D),some (.int at'),some (.ref O),v] ∧
  bB H H'∧H' r=some (.lst row)∧cs'.length=cs.length∧(∀c∈cs',d6 cG c=true)∧H' D=some (.lst ((cs'.map one).map V.str))∧H' O=some (.lst (xs.map V.str))∧xs.length=i∧(∀x∈xs,good x=true)∧∀k x,xs[k]?=some x→x.cps.toList[at'.toNat]?=some (sign d1 k)) ?_ ?_ ?_⟩
 ·exact ⟨none,cs,[],by rw [← hat];rfl,g.trans gO,gO _ _ hr3,rfl,hca,gO _ _ hd,aE,rfl,(λx hx=>by cases hx),λk x e=>by cases e⟩
 ·rintro i σ H' hi ⟨v,cs',xs,rfl,g',hr',hl',hca',hd',ho',hx,hxl,hs⟩
  have al2:cX.length≤sizeLine:=by decide +kernel
  have sg:=JA d1 i
  refine ⟨_,rfl,_,rfl,r,_,1,_,rfl,rfl,hr',at1,_,rfl,_,_,rfl,rfl,.of (Bd.small (by decide) (by decide)) (Bd.small (x:=0 + (i:Int)) (by omega) (by omega)),_,_,rfl,rfl,_,_,rfl,rfl,(show (0:Int) < 36 by decide),_,_,_,rfl,rfl,al2,(by rw [Int.zero_add];exact sg),?_⟩
  have ix:Eh ((cs'.map one).map V.str).length at'=some at'.toNat:=by
   unfold Eh
   rw [if_pos a0,if_pos (by rw [Tx,Tx,hl'];exact a1)]
  refine ⟨_,rfl,_,rfl,D,_,at',_,rfl,rfl,hd',ix,?_⟩
  have es:((cs'.map one).map V.str).set at'.toNat (.str ⟨#[sign d1 i]⟩)=((cs'.set at'.toNat (sign d1 i)).map one).map V.str:=by
   rw [List.map_set,List.map_set]
   rfl
  have gD:=bB.NH fD g' (.lst (((cs'.map one).map V.str).set at'.toNat (.str ⟨#[sign d1 i]⟩)))
  have hD2:(upd H' D (.lst (((cs'.map one).map V.str).set at'.toNat (.str ⟨#[sign d1 i]⟩)))) D=some (.lst (((cs'.set at'.toNat (sign d1 i)).map one).map V.str)):=by rw [aE,es]
  have hr2:(upd H' D (.lst (((cs'.map one).map V.str).set at'.toNat (.str ⟨#[sign d1 i]⟩)))) r=_:=(aO nDr.symm).trans hr'
  have ho2:(upd H' D (.lst (((cs'.map one).map V.str).set at'.toNat (.str ⟨#[sign d1 i]⟩)))) O=_:=(aO nOD).trans ho'
  have lc:(cs'.set at'.toNat (sign d1 i)).length=cs.length:=by rw [U2,hl']
  have hcn:∀c∈cs'.set at'.toNat (sign d1 i),d6 cG c=true:=λc hc=>by
   rcases List.mem_or_eq_of_mem_set hc with h | h
   ·exact hca' c h
   ·rw [h];exact D4 d1 i
  refine ⟨_,rfl,.inl ⟨rfl,_,cW.of ho2⟩,rfl,_,rfl,_,D,(cs'.set at'.toNat (sign d1 i)).map one,rfl,rfl,cW.of hD2,?_,O,_,_,rfl,rfl,ho2,?_,?_⟩
  ·rw [F3,Tx,lc,e0s]
   omega
  ·rw [Tx,hx]
   exact a_ (by omega)
  ·rw [join_ones]
   refine ⟨_,cs'.set at'.toNat (sign d1 i),xs ++ [⟨(cs'.set at'.toNat (sign d1 i)).toArray⟩],rfl,gD.NH fO _,(aO nOr.symm).trans hr2,lc,hcn,(aO nOD.symm).trans hD2,?_,by rw [T7,hx];rfl,?_,?_⟩
   ·rw [aE,TM]
    rfl
   ·intro x hx2
    rcases TQ.mp hx2 with h | h
    ·exact hxl x h
    ·simp only [TX,Ua,or_false] at h
     subst h
     exact HZ (by rw [lc];exact l0) (by rw [lc];exact l1) hcn
   ·intro k x e
    rcases Nat.lt_or_ge k xs.length with hk | hk
    ·rw [UH hk] at e
     exact hs k x e
    ·rw [UC hk] at e
     have ek:k=i:=by
      cases hz:k - xs.length with
      | zero=>omega
      | succ z=>rw [hz] at e;cases e
     rw [show k - xs.length=0 by omega] at e
     have ex:=Option.some.inj e
     subst ex
     rw [ek]
     show (cs'.set at'.toNat (sign d1 i))[at'.toNat]?=some (sign d1 i)
     rw [Ur (by omega)]
 ·rintro σ H' ⟨v,cs',xs,rfl,g',hr',hl',hca',hd',ho',hx,hxl,hs⟩
  exact ⟨_,rfl,q O H' xs fO g' ho' (by omega) (G7 (by omega) hs) hxl⟩
def zi:cF:=λxs J Q _=>∃c m:Int,xs=[.int c,.int m]∧0≤m∧m≤36∧∀ns:List Str,(ns.length:Int)=m→ns.Nodup→(∀x∈ns,good x=true)→Q (.fl (ns.map .str)) J
theorem uS {K:PySem.W.Frag} {J:Hq} {H:Hp}:∀ns:List Str,aJ K J H (ns.map PV.str) (ns.map V.str)
 | []=>rfl
 | n :: ns=>⟨_,_,rfl,rfl,uS ns⟩
theorem Ai (C:sG P w K mg base 2 "_law_names" fg CH):bp P w K mg base 2 "_law_names" fg zi:=C.lift λxs J vs H Q2 E2 Q E rs r ⟨c,m,ex,h0,h1,q⟩ kn=>by
 subst ex
 obtain ⟨v,u,rfl,r1,r2⟩:=jI rs
 cases r1;cases r2
 exact ⟨c,m,rfl,h0,h1,λp H' ns hp s e hl nd lx=>kn (.fl (ns.map .str)) J (.ref p) H' ⟨p,_,rfl,.inl ⟨r.free hp,.inl e⟩,uS ns⟩ (r.same s) (.same s) (q ns hl nd lx)⟩
abbrev wU:Stmt:=(top 46)
abbrev lY:List Str:=["_law_found"]
theorem GI:L2.aw ["_law_found"] ["_law_found"] (L2.aj wU):=dN
def su:cF:=λxs J Q _=>∃i:Int,xs=[.int i]∧Q (.bl true) J
theorem DN {f:Addr} {fd:FuncData} (F:bZ K "_law_whole" "_law_whole" wU f fd) (Z:bP mg):aL P w K mg base (cV P w) 1 f fd lY (dn K su):=by
 simp_arith [GI,(ar (aA (AS (aQ i6 rfl Z.isinstance boot_isinstance (af (rv 0) (af (nG rfl Z.int boot_int) ag))) (wF (MW (aQ i6 rfl Z.isinstance boot_isinstance (af (rv 0) (af (nG rfl Z.bool boot_bool) ag))))))))]
 ·obtain ⟨i,rfl,_⟩:=h;rfl
 obtain ⟨i,rfl,q⟩:=h
 refine hX ?_
 simp_arith! [bS]
 exact q
abbrev AZ:Stmt:=(top 48)
abbrev jl:List Str:=["_law_found","_law_due"]
theorem Ju:L2.aw ["_law_found","_law_due"] ["_law_found","_law_due"] (L2.aj AZ):=dN
def qo:cF:=λxs J Q _=>∃a:Rat,xs=[fr a,fr a]∧Q (.bl true) J
theorem FY {f:Addr} {fd:FuncData} (F:bZ K "_law_part" "_law_part" AZ f fd) (Z:bP mg) (Bn:bp P w K mg base 1 "_law_whole" lY su):aL P w K mg base (cV P w) 2 f fd jl (dn K qo):=by
 simp_arith [Ju,(ai (aZ (dR (kO (cP (bN (aQ i6 rfl Z.isinstance boot_isinstance (af (rv 0) (af (nG rfl Z.tuple boot_tuple) ag))))) (gA (aG (km hr.aU) (aQ b_ rfl Z.len boot_len (af (rv 0) ag)) ah)))) (ar (aA gx)) aK)
   (ai (aZ (dR (kO (cP (bN (aS Bn B hr (af (av ax (rv 0) ah) ag)))) (gA (cP (bN (aS Bn B hr (af (av ax (rv 0) ah) ag))))))) (ar (aA gx)) aK)
   (ar (aA (fb (cQ hr.aU) (rv 0) (rv 1))))))]
 ·obtain ⟨a,rfl,_⟩:=h;rfl
 obtain ⟨a,rfl,q⟩:=h
 refine hX ?_
 simp_arith! [bS,su]
 exact q
def wo (n m:Int):Int:=if m < 2 then n % 19 - 9 else if m=2 then n % 121 - 60 else n % 2000001 - 1000000
def wc (n m:Int):Int:=if m < 2 then n % 7 - 3 else if m=2 then n % 25 - 12 else n % 2001 - 1000
abbrev rT:Stmt:=(top 53)
abbrev kD:List Str:=["_law_number","_law_mode"]
theorem D1:L2.aw ["_law_number","_law_mode"] ["_law_number","_law_mode"] (L2.aj rT):=dN
def uX:cF:=λxs J Q _=>∃n m:Int,xs=[.int n,.int m]∧0≤n∧(∀v:Int,v.natAbs≤1000000→v=wo n m→Q (.int v) J)
theorem Au {f:Addr} {fd:FuncData} (F:bZ K "_law_placed" "_law_placed" rT f fd) (Z:bP mg):aL P w K mg base (cV P w) 1 f fd kD (dn K uX):=by
 simp_arith [D1,(ai (aZ (aG iK (rv 1) ah) (ar (aA (a8 gu (a8 e9 (rv 0) ah) ah))) aK)
   (ai (aZ (aG (cQ hr.aU) (rv 1) ah) (ar (aA (a8 gu (a8 e9 (rv 0) ah) ah))) aK)
   (ar (aA (a8 gu (a8 e9 (rv 0) ah) ah)))))]
 ·obtain ⟨n,m,rfl,_⟩:=h;rfl
 obtain ⟨n,m,rfl,n0,q⟩:=h
 refine hX ?_
 unfold wo at q
 simp_all! []
 split
 ·rename_i h;simp_all! [];exact ⟨by decide,q _ (by omega) (by rw [if_pos h])⟩
 rename_i h
 simp_all! []
 split
 ·rename_i h2;simp_all! [];exact ⟨by decide,q _ (by omega) (by rw [if_neg h,if_pos h2])⟩
 ·rename_i h2;simp_all! [];exact ⟨by decide,q _ (by omega) (by rw [if_neg h,if_neg h2])⟩
abbrev wQ:Stmt:=(top 54)
abbrev lX:List Str:=["_law_number","_law_mode"]
theorem GG:L2.aw ["_law_number","_law_mode"] ["_law_number","_law_mode"] (L2.aj wQ):=dN
def zk:cF:=λxs J Q _=>∃n m:Int,xs=[.int n,.int m]∧0≤n∧n < 2001∧(∀v:Int,v.natAbs≤1000→v=wc n m→Q (.int v) J)
theorem DM {f:Addr} {fd:FuncData} (F:bZ K "_law_paced" "_law_paced" wQ f fd) (Z:bP mg):aL P w K mg base (cV P w) 1 f fd lX (dn K zk):=by
 simp_arith [GG,(ai (aZ (aG iK (rv 1) ah) (ar (aA (a8 gu (a8 e9 (rv 0) ah) ah))) aK)
   (ai (aZ (aG (cQ hr.aU) (rv 1) ah) (ar (aA (a8 gu (a8 e9 (rv 0) ah) ah))) aK)
   (ar (aA (a8 gu (a8 e9 (rv 0) ah) ah)))))]
 ·obtain ⟨n,m,rfl,_⟩:=h;rfl
 obtain ⟨n,m,rfl,n0,n1,q⟩:=h
 refine hX ?_
 unfold wc at q
 simp_all! []
 split
 ·rename_i h;simp_all! [];exact ⟨by decide,q _ (by omega) (by rw [if_pos h])⟩
 rename_i h
 simp_all! []
 split
 ·rename_i h2;simp_all! [];exact ⟨by decide,q _ (by omega) (by rw [if_neg h,if_pos h2])⟩
 ·rename_i h2;simp_all! [];exact ⟨by decide,q _ (by omega) (by rw [if_neg h,if_neg h2])⟩
abbrev M4:Stmt:=(top 57)
abbrev ji:List Str:=["_law_leg","_law_moment"]
theorem y3:L2.aw ["_law_leg","_law_moment","_law_begun","_law_place","_law_way","_law_under"] ["_law_leg","_law_moment"] (L2.aj M4):=dN
theorem Ml {f:Addr} {fd:FuncData} (F:bZ K "_law_at" "_law_at" M4 f fd) (Z:bP mg) (xF:bp P w K mg base 1 "_law_low" fv sd):aL P w K mg base (cV P w) 2 f fd ji (dn K pD):=by
 simp_arith [y3,(ai (aI (i:=2) y3.nd (av ax (rv 0) ah))
   (ai (aI (i:=3) y3.nd (av ax (rv 0) ah))
   (ai (aI (i:=4) y3.nd (a8 d3 (av ax (rv 0) ah) (a8 gu (a8 d3 (av ax (rv 1) ah) (av ax (rv 2) ah)) (a8 d3 (av ax (rv 2) ah) (av ax (rv 1) ah)))))
   (ai (aI (i:=5) y3.nd (a8 d3 (av ax (rv 1) ah) (av ax (rv 2) ah)))
   (ar (aA (aS xF B hr (af (a8 eZ (a8 d3 (av ax (rv 3) ah) (rv 5)) (a8 d3 (rv 4) (av ax (rv 3) ah))) (af (a8 d3 (av ax (rv 3) ah) (rv 5)) ag)))))))))]
 ·obtain ⟨l,t,rfl,_⟩:=h;rfl
 obtain ⟨l,m,rfl,sb,sp,sm,bv,q⟩:=h
 refine hX ?_
 simp_all! [BX,Od,lM]
 have bn:Bd 1801 (m.num * l.m.den - l.m.num * m.den):=.sub (.mul sm.num sb.den (TF _)) (.mul sb.num sm.den (TF _))
 have bu:Bd 1800 ((m.den:Int) * l.m.den):=.mul sm.den sb.den
 have bw:Bd 1900 (l.v * (m.num * l.m.den - l.m.num * m.den)):=.mul bv bn
 refine ⟨.of sm.num sb.den,.of sb.num sm.den,.of bv bn,?_⟩
 simp_all! []
 refine ⟨.of sm.den sb.den,?_⟩
 simp_all! [sd]
 refine ⟨.of sp.num bu,.of bw sp.den,.of sp.den bu,Int.mul_pos (me _) (Int.mul_pos (me _) (me _)),.mul sp.den bu,?_⟩
 rw [NZ]
 exact q
def sD (b m:Int):Int:=1 + b % (if m=0 then 4 else if m=1 then 6 else 60)
def xp (n u m:Int):Int:=if m=3 then 1 + n.fdiv 8 % (500 * u) else 1 + n.fdiv 8 % (2 * u)
def vM (c:Rat) (n b m:Int):Rat:=if n % 8=0 then c else Rat.divInt ((c.num * sD b m).fdiv c.den + xp n (sD b m) m) (sD b m)
abbrev wN:Stmt:=(top 55)
abbrev lV:List Str:=["_law_clock","_law_number","_law_bottom","_law_mode"]
theorem nQ:L2.aw ["_law_clock","_law_number","_law_bottom","_law_mode","_law_under","_law_steps"] ["_law_clock","_law_number","_law_bottom","_law_mode"] (L2.aj wN):=dN
def CA:cF:=λxs J Q _=>∃(c:Rat) (n b m:Int),xs=[fr c,.int n,.int b,.int m]∧0≤n∧0≤b∧0≤m∧m < 4∧n < 2 ^ 60∧Sz 900 c∧∀q,Later c q→q=vM c n b m→Q (fr q) J
theorem DK {f:Addr} {fd:FuncData} (F:bZ K "_law_later" "_law_later" wN f fd) (Z:bP mg) (xF:bp P w K mg base 1 "_law_low" fv sd):aL P w K mg base (cV P w) 2 f fd lV (dn K CA):=by
 simp_arith [nQ,(ai (aZ (aG (cQ hr.aU) (a8 e9 (rv 1) ah) ah) (ar (aA (rv 0))) aK)
   (ai (aI (i:=4) nQ.nd (a8 eZ ah (a8 e9 (rv 2) (av ax (uR (AR [.int 4,.int 6,.int 60,.int 60] rfl [.int 4,.int 6,.int 60,.int 60] rfl)) (rv 3)))))
   (ai (aI (i:=5) nQ.nd (a8 eZ ah (a8 e9 (a8 p_ (rv 1) ah) (a8 d3 ah (rv 4)))))
   (dw (aZ (aG (cQ hr.aU) (rv 3) ah) (ar (aI (i:=5) nQ.nd (a8 eZ ah (a8 e9 (a8 p_ (rv 1) ah) (a8 d3 ah (rv 4)))))) aK)
   (ar (aA (aS xF B hr (af (a8 eZ (a8 p_ (a8 d3 (av ax (rv 0) ah) (rv 4)) (av ax (rv 0) ah)) (rv 5)) (af (rv 4) ag)))))))))]
 ·obtain ⟨c,n,b,m,rfl,_⟩:=h;rfl
 obtain ⟨c,n,b,m,rfl,n0,b0,m0,m1,n2,sc,q⟩:=h
 refine hX ?_
 simp_all! []
 refine ⟨by decide,?_⟩
 split
 ·rename_i h8
  simp_all! []
  exact q c (.inl rfl) (by unfold vM;rw [if_pos h8])
 rename_i h8
 obtain ⟨x,hx,x0,x1,xe⟩:∃x:Int,de [PV.int 4,PV.int 6,PV.int 60,PV.int 60] m=some (.int x)∧1≤x∧x≤60∧x=(if m=0 then 4 else if m=1 then 6 else 60):=by
  rcases (by omega:m=0∨m=1∨m=2∨m=3) with e | e | e | e <;> subst e
  ·exact ⟨4,dC _ _,by decide,by decide,rfl⟩
  ·exact ⟨6,fM _ _ _,by decide,by decide,rfl⟩
  ·exact ⟨60,jY _ _ _ _,by decide,by decide,rfl⟩
  ·exact ⟨60,EJ _ _ _ _ _,by decide,by decide,rfl⟩
 have u0:0≤b % x:=Int.emod_nonneg _ (by omega)
 have u1:b % x < x:=Int.emod_lt_of_pos _ (by omega)
 have bu:Bd 64 (1 + b % x):=.small (by omega) (by omega)
 have b8:Bd 9000 8:=(Bd.small (x:=8) (by decide) (by decide)).mono (by decide)
 simp_all! [hx]
 refine ⟨by omega,?_⟩
 simp_all! []
 refine ⟨⟨by decide,b8⟩,.of (.small (x:=2) (by decide) (by decide)) bu,by omega,?_⟩
 have ue:1 + b % x=sD b m:=by unfold sD;rw [xe]
 generalize hu:1 + b % x=u at *
 have k0:0≤n.fdiv 8:=by rw [Int.fdiv_eq_ediv_of_nonneg _ (by decide)];exact Int.ediv_nonneg n0 (by decide)
 obtain ⟨M,hM⟩:∃M:Sr→Hq→Prop,∀τ' J',M τ' J'↔∃s:Int,τ'=[some (fr c),some (.int n),some (.int b),some (.int m),some (.int u),some (.int s)]∧J'=J∧1≤s∧s≤500 * u∧s=xp n u m:=⟨_,λ_ _=>Iff.rfl⟩
 simp_all! []
 refine ⟨M,?_,?_⟩
 ·simp_arith! [bS]
  have h2:0≤n.fdiv 8 % (2 * u):=Int.emod_nonneg _ (by omega)
  have h3:n.fdiv 8 % (2 * u) < 2 * u:=Int.emod_lt_of_pos _ (by omega)
  have h4:0≤n.fdiv 8 % (500 * u):=Int.emod_nonneg _ (by omega)
  have h5:n.fdiv 8 % (500 * u) < 500 * u:=Int.emod_lt_of_pos _ (by omega)
  split
  ·rename_i h3'
   refine ⟨⟨by decide,b8⟩,.of (.small (x:=500) (by decide) (by decide)) bu,by omega,(hM _ _).mpr ⟨_,rfl,rfl,by omega,by omega,by unfold xp;rw [if_pos h3']⟩⟩
  ·rename_i h3'
   exact (hM _ _).mpr ⟨_,rfl,rfl,by omega,by omega,by unfold xp;rw [if_neg h3']⟩
 ·intro τ' J' hm
  obtain ⟨s,rfl,rfl,s0,s1,se⟩:=(hM _ _).mp hm
  clear hm hM M
  simp_arith! [bS,sd]
  refine ⟨.of sc.num bu,⟨eS c,sc.den.mono (by decide)⟩,by omega,bu.mono (by decide),?_⟩
  obtain ⟨u',rfl⟩:=Int.eq_ofNat_of_zero_le (show 0≤u by omega)
  obtain ⟨s',rfl⟩:=Int.eq_ofNat_of_zero_le (show 0≤s by omega)
  exact q _ (.inr ⟨u',s',by omega,by omega,by omega,by omega,rfl⟩) (by unfold vM;rw [if_neg h8,← ue,← se])
theorem Dm {α:Type} {V:α→PV} {lt:α→α→Bool} {ys:List α} {b:α} {r:Addr} {sp:cF} {E2:Addr→Hq→Prop} {D:En} {τ:Sr} {J:Hq} {iO iA iR:Nat}
  (hO:τ[iO]?=some (some (.ref r))) (hR:τ[iR]?=some (some (V b))) (hA:τ[iA]?=some (some (.int 0))) (nO:iA≠iO) (nR:iA≠iR) (hJ:J r=some (.lst (ys.map V)))
  (hb:∀y∈ys,∀R:PV→Hq→Prop,R (.bl (lt y b)) J→sp [V y,V b] J R E2)
  (high:∀{i j:Nat} {x y:α},ys[i]?=some x→ys[j]?=some y→i≤j→lt x b=false→lt y b=false)
  (fin:∀j:Nat,j≤ys.length→(∀(k:Nat) y,k < j→ys[k]?=some y→lt y b=true)→(∀(k:Nat) y,j≤k→ys[k]?=some y→lt y b=false)→D.nx (τ.set iA (some (.int j))) J) :
  Gw (Jf (rB (xE (Gp λi j=>.bl (decide (i < j))) (jm iA) (Pe MQ (kL (jm iO) ub)))) (rB (yR sp E2 (kL (xE KA (jm iO) (jm iA)) (kL (jm iR) ub))))) (ua (xE (Gp λi j=>.int (i + j)) (jm iA) (rC (.int 1))) (HV iA)) D τ J:=by
 have hl:iA < τ.length:=(TC.mp hA).1
 have sO:∀x,(τ.set iA x)[iO]?=some (some (.ref r)):=λx=>by rw [UJ nO];exact hO
 have sR:∀x,(τ.set iA x)[iR]?=some (some (V b)):=λx=>by rw [UJ nR];exact hR
 have sA:∀x,(τ.set iA x)[iA]?=some x:=λx=>Ur hl
 refine ⟨λm τ' J'=>∃j:Nat,j≤ys.length∧m=ys.length - j∧τ'=τ.set iA (some (.int j))∧J'=J∧∀(k:Nat) y,k < j→ys[k]?=some y→lt y b=true,⟨ys.length,0,Ue _,rfl,?_,rfl,λk y hk=>by omega⟩,?_⟩
 ·have h2:=List.set_getElem_self hl
  rw [(TC.mp hA).2] at h2
  exact h2.symm
 rintro m τ' J' ⟨j,hj,rfl,rfl,rfl,hlow⟩
 simp_all! [sO,sA,hJ,Tx]
 by_cases c0:j < ys.length
 ·rw [if_pos (by omega)]
  obtain ⟨y,hy⟩:∃y,ys[j]?=some y:=⟨_,Tz c0⟩
  have ha:de (ys.map V) (j:Int)=some (V y):=bq (by rw [TN,hy];rfl)
  simp_all! [sO,sA,sR,hJ,ha]
  refine hb y (TH hy) _ ?_
  refine v_ rfl ?_
  cases hc:lt y b with
  | true =>
   rw [if_pos rfl]
   obtain ⟨N,hN⟩:∃N:Sr→Hq→Prop,∀τ' J'',N τ' J''↔∃i:Nat,i≤ys.length∧ys.length - (j + 1)=ys.length - i∧τ'=τ.set iA (some (.int i))∧J''=J'∧∀(k:Nat) y,k < i→ys[k]?=some y→lt y b=true:=⟨_,λ_ _=>Iff.rfl⟩
   refine ⟨N,λτ'' J'' h=>⟨ys.length - (j + 1),by omega,(hN _ _).mp h⟩,?_⟩
   simp_arith! [bS,sA]
   refine (hN _ _).mpr ⟨j + 1,by omega,rfl,by rw [List.set_set,Int.natCast_succ],rfl,λk z hk e=>?_⟩
   rcases U_ (Nat.lt_succ_iff.mp hk) with h | h
   ·exact hlow k z h e
   ·subst h;rw [hy] at e;cases e;exact hc
  | false =>
   rw [if_neg (by decide)]
   exact fin j hj hlow λk z hk e=>high hy e hk hc
 ·rw [if_neg (by omega)]
  exact fin j hj hlow λk z hk e=>by rw [UE (by omega)] at e;cases e
section
variable {X:Cx}
theorem mS.or {f:Value→Value→Sem Value} {q q':mT} (h:mS X f q) (h':mS X f q'):mS X f (λx y J Q=>q x y J Q∨q' x y J Q):=by
 obtain ⟨r,a,lr⟩:=h
 obtain ⟨r',a',lr'⟩:=h'
 refine ⟨λx y H Q=>r x y H Q∨r' x y H Q,λpins s σ H x y v u Q I rx ry h=>?_,λJ H x y v w Q2 Q rx ry rr h k=>?_⟩
 ·rcases h with h | h
  ·exact a pins s σ H x y v u Q I rx ry h
  ·exact a' pins s σ H x y v u Q I rx ry h
 ·rcases h with h | h
  ·exact .inl (lr J H x y v w Q2 Q rx ry rr h k)
  ·exact .inr (lr' J H x y v w Q2 Q rx ry rr h k)
end
def Ky.V (k:Ky):PV:=.tup [fr k.p,.int k.v,.str k.n]
theorem Ob (J:Hq) (k:Ky):fB J k.V (.int 0)=some (fr k.p):=dC _ _
theorem Oc (J:Hq) (k:Ky):fB J k.V (.int 1)=some (.int k.v):=fM _ _ _
theorem JZ (J:Hq) (k:Ky):fB J k.V (.int 2)=some (.str k.n):=jY _ _ _ _
theorem P6 (p:Rat) (v:Int) (n:Str):PV.tup [fr p,.int v,.str n]=(Ky.mk p v n).V:=rfl
theorem uA (p q:Rat):(p.num * (q.den:Int) < q.num * (p.den:Int))=(p < q):=propext (Rat.lt_iff p q).symm
abbrev rR:Stmt:=(top 60)
abbrev kC:List Str:=["_law_one","_law_two"]
theorem oW:L2.aw ["_law_one","_law_two","_law_here","_law_there"] ["_law_one","_law_two"] (L2.aj rR):=dN
def y6:cF:=λxs J Q _=>(∃a b:Ky,xs=[a.V,b.V]∧Sz 9000 a.p∧Sz 9000 b.p∧Q (.bl (a.lt b)) J)∨(∃a b:aF,xs=[a.v,b.v]∧Sz 9000 a.m∧Sz 9000 b.m∧Q (.bl (a.lt b)) J)
theorem As {f:Addr} {fd:FuncData} (F:bZ K "_law_before" "_law_before" rR f fd) (Z:bP mg):aL P w K mg base (cV P w) 1 f fd kC (dn K y6):=by
 simp_arith [oW,(ai (aI (i:=2) oW.nd (a8 d3 (av ax (av ax (rv 0) ah) ah) (av ax (av ax (rv 1) ah) ah)))
   (ai (aI (i:=3) oW.nd (a8 d3 (av ax (av ax (rv 1) ah) ah) (av ax (av ax (rv 0) ah) ah)))
   (ai (aZ (aG (km hr.aU) (rv 2) (rv 3)) (ar (aA (fb iK (rv 2) (rv 3)))) aK)
   (ai (aZ (aG (km hr.aU) (av ax (rv 0) ah) (av ax (rv 1) ah)) (ar (aA (fb (mS.or iK Az) (av ax (rv 0) ah) (av ax (rv 1) ah)))) aK)
   (ar (aA (fb Az (av ax (rv 0) ah) (av ax (rv 1) ah))))))))]
 ·rcases h with ⟨a,b,rfl,_⟩ | ⟨a,b,rfl,_⟩ <;> rfl
 refine hX ?_
 rcases h with ⟨a,b,rfl,sa,sb,q⟩ | ⟨a,b,rfl,sa,sb,q⟩
 ·simp_arith! [bS,Ob,Oc,JZ]
  refine ⟨.of sa.num sb.den,.of sb.num sa.den,?_⟩
  unfold Ky.lt at q
  by_cases e:a.p=b.p
  ·rw [if_pos e] at q
   rw [if_pos ((k8 _ _).mpr e)]
   by_cases k:a.v=b.v
   ·rw [if_pos k] at q ⊢;exact q
   ·rw [if_neg k] at q ⊢;exact .inl q
  ·rw [if_neg e] at q
   rw [if_neg (λz=>e ((k8 _ _).mp z))]
   simp only [uA]
   exact q
 ·simp_arith! [bS,Fp,Fq,Fs]
  refine ⟨.of sa.num sb.den,.of sb.num sa.den,?_⟩
  unfold aF.lt at q
  by_cases e:a.m=b.m
  ·rw [if_pos e] at q
   rw [if_pos ((k8 _ _).mpr e)]
   by_cases k:a.h=b.h
   ·rw [if_pos k] at q ⊢;exact q
   ·rw [if_neg k] at q ⊢;exact .inr q
  ·rw [if_neg e] at q
   rw [if_neg (λz=>e ((k8 _ _).mp z))]
   simp only [uA]
   exact q
abbrev qj:Stmt:=(top 61)
abbrev lW:List Str:=["_law_legs","_law_moment"]
theorem iT:L2.aw ["_law_legs","_law_moment","_law_out","_law_name","_law_row","_law_at_here"] ["_law_legs","_law_moment"] (L2.aj qj):=dN
def zj:cF:=λxs J Q _=>∃(D:Addr) (fs:List (Str × aP)) (ep:Nat) (t:Rat),xs=[.ref D,fr t]∧J D=some (.dct (bJ fs) ep)∧(fs.map (·.1)).Nodup∧fs.length≤100∧Sz 900 t∧(∀x∈fs,sH 900 x.2)∧Q (.fl ((cY t fs).map .str)) J
theorem DL {f:Addr} {fd:FuncData} (F:bZ K "_law_order" "_law_order" qj f fd) (Z:bP mg) (CZ:bp P w K mg base 2 "_law_at" ji pD) (Ej:bp P w K mg base 1 "_law_before" kC y6):aL P w K mg base (cV P w) 3 f fd lW (dn K zj):=by
 simp_arith [iT,(ai (aI (i:=2) iT.nd (oN ag))
   (ai (fe cy rfl (wI (rv 0)) (bA (i:=3) iT.nd) (ai (aI (i:=4) iT.nd (cx (af (aS CZ B hr (af (av dG (rv 0) (rv 3)) (af (rv 1) ag))) (af (av ax (av dG (rv 0) (rv 3)) ah) (af (rv 3) ag)))))
   (ai (aI (i:=5) iT.nd ah)
   (ai (nJ cy (dR (gy (aG iK (rv 5) (aQ b_ rfl Z.len boot_len (af (rv 2) ag))) (fh (bN (aS Ej B hr (af (av ax (rv 2) (rv 5)) (af (rv 4) ag))))))) (ar (aI (i:=5) iT.nd (a8 eZ (rv 5) ah))))
   (ar (a7 (nE PySem.F.plainAttrs_list PySem.F.slot_list_insert PySem.F.type_list_insert oC (rv 2) (af (rv 5) (af (rv 4) ag)))))))))
   (ar (aA (PB (L2.aj qj) ["_law_legs","_law_moment","_law_out","_law_name","_law_row","_law_at_here"] [] rfl rfl rfl (dW (rv 2)) (λ_ _ _ _ _ _=>(av ax (rv 0) ah))))))),F]
 ·obtain ⟨D,fs,ep,t,rfl,_⟩:=h;rfl
 obtain ⟨D,fs,ep,t,rfl,hD,hnd,hlen,st,sl,q⟩:=h
 refine hX ?_
 simp_all! []
 intro r hr'
 have nDr:D≠r:=by intro e;subst e;rw [hD] at hr';cases hr'
 simp_all! [ak nDr,hD]
 have hkv:(bJ fs).map (λkv=>PV.str kv.1)=fs.map λx=>PV.str x.1:=by unfold bJ;rw [TK];rfl
 rw [hkv]
 obtain ⟨Inv,hInv⟩:∃Inv:Nat→Sr→Hq→Prop,∀i τ J',Inv i τ J'↔∃(u3 u4 u5:Option PV),τ=[some (.ref D),some (fr t),some (.ref r),u3,u4,u5]∧J'=put J r (.lst ((cE ((fs.take i).map (key t))).map Ky.V)):=⟨_,λ_ _ _=>Iff.rfl⟩
 refine fA Inv ((hInv _ _ _).mpr ⟨_,_,_,rfl,rfl⟩) (λi τ J' h=>?_) ?_ ?_
 ·obtain ⟨_,_,_,_,rfl⟩:=(hInv _ _ _).mp h
  rw [ak nDr];exact hD
 ·intro i x τ J' hx hv
  obtain ⟨u3,u4,u5,rfl,rfl⟩:=(hInv _ _ _).mp hv
  clear hv
  have hi:i < fs.length:=by have:=(TC.mp hx).1;simpa using this
  rw [TN,Tz hi] at hx
  cases hx
  rcases hfi:fs[i] with ⟨n,l⟩
  have hmem:(n,l)∈fs:=by rw [← hfi];exact Uk hi
  have et:fs.take (i + 1)=fs.take i ++ [(n,l)]:=by rw [Ub,Tz hi,hfi];rfl
  have hndt:((fs.take i).map (·.1)).Nodup:=by rw [UW];exact hnd.sublist (Uy _ _)
  obtain ⟨ys,hys⟩:∃ys,cE ((fs.take i).map (key t))=ys:=⟨_,rfl⟩
  have srt:pL Ky.lt ys:=by rw [← hys];exact dh (by rw [d9];exact hndt)
  have hyl:ys.length=i:=by rw [← hys,ko,Tx,T'];omega
  have hym:∀y∈ys,Sz 9000 y.p:=λy hy=>by
   rw [← hys,bE,TB] at hy
   obtain ⟨x',hx',rfl⟩:=hy
   exact (jZ (sl x' (UK hx')) st).mono (by decide)
  have en:cE ((fs.take (i + 1)).map (key t))=pM Ky.lt (key t (n,l)) ys:=by rw [et,TM,TL,Ux,iM,hys]
  rw [hys]
  have hvn:mI (bJ fs) n=some l.V:=iu (f:=aP.V) hnd hmem
  have sll:=sl _ hmem
  simp_all! [ak nDr,hD,hvn]
  refine ⟨l,t,rfl,sll.m,sll.p,st,sll.v,?_⟩
  simp_all! [ak nDr,hD,hvn,lM,P6]
  have ek:(Ky.mk (l.at t) l.v n)=key t (n,l):=rfl
  rw [ek]
  have skn:Sz 9000 (key t (n,l)).p:=(jZ sll st).mono (by decide)
  generalize key t (n,l)=kn at en skn ⊢
  refine Dm (V:=Ky.V) (lt:=Ky.lt) (ys:=ys) (b:=kn) (iO:=2) (iA:=5) (iR:=4) rfl rfl rfl (by decide) (by decide) aq (λy hy R hR=>.inl ⟨y,kn,rfl,hym y hy,skn,hR⟩) (λhx hy h k=>D5 (lt:=Ky.lt) Ky.tr srt hx hy h k) λj hj hlow hhigh=>?_
  simp_all! [aq]
  refine ⟨_,j,rfl,rfl,by rw [Tx];exact hj,a_ (by rw [Tx];omega),by omega,?_⟩
  rw [eG]
  refine (hInv _ _ _).mpr ⟨_,_,_,rfl,?_⟩
  rw [en,← BS hj hlow hhigh,TM,TL,UW,VD]
 ·intro τ J' hv
  obtain ⟨u3,u4,u5,rfl,rfl⟩:=(hInv _ _ _).mp hv
  rw [Tx,Uc]
  simp_all! [wD,aq]
  refine ⟨λ_=>true,(λx=>match x with | .tup [_,_,n]=>n | _=>.non),⟨a_ (by rw [Tx,ko,Tx];omega),λJ2 hs=>⟨hs _ _ aq,λx hx=>⟨⟨rfl,rfl⟩,λ_=>?_⟩⟩⟩,?_⟩
  ·obtain ⟨y,hy,rfl⟩:=TB.mp hx
   simp_arith! [bS,JZ]
   rfl
  ·rw [UA.mpr λ_ _=>rfl,TK]
   have e:(cY t fs).map PV.str=(cE (fs.map (key t))).map ((λx=>match x with | .tup [_,_,n]=>n | _=>.non) ∘ Ky.V):=by unfold cY;rw [TK];rfl
   rw [e] at q
   exact Fg.less (j7 hr') q
abbrev wV:Stmt:=(top 49)
abbrev ib:List Str:=["_law_found","_law_due"]
theorem y4:L2.aw ["_law_found","_law_due","_law_one"] ["_law_found","_law_due"] (L2.aj wV):=dN
def xo:cF:=λxs J Q _=>∃ss:List Str,xs=[.fl (ss.map .str),.fl (ss.map .str)]∧ss.length≤900∧Q (.bl true) J
theorem Gj (ss:List Str):kJ (ss.map PV.str)=true:=by
 induction ss with
 | nil=>rfl
 | cons x ss ih=>rw [TL,lA,wy,ih];rfl
theorem EU (ss:List Str):df (eQ (ss.map PV.str))≤1:=by
 induction ss with
 | nil=>simp [eQ,df]
 | cons x ss ih=>simp only [TL,eQ,fI,df,dep];omega
theorem Bw (ss:List Str):HJ (.fl (ss.map .str)):=⟨by unfold mK;exact Gj ss,by
 have:=EU ss
 simp only [fI,dep];omega⟩
theorem DO {f:Addr} {fd:FuncData} (F:bZ K "_law_words" "_law_words" wV f fd) (Z:bP mg):aL P w K mg base (cV P w) 1 f fd ib (dn K xo):=by
 simp_arith [y4,(ai (aZ (dR (kO (cP (bN (aQ i6 rfl Z.isinstance boot_isinstance (af (rv 0) (af (nG rfl Z.list boot_list) ag))))) (gA (aG (km hr.aU) (aQ b_ rfl Z.len boot_len (af (rv 0) ag)) (aQ b_ rfl Z.len boot_len (af (rv 1) ag)))))) (ar (aA gx)) aK)
   (ai (fe cy rfl (dW (rv 0)) (bA (i:=2) y4.nd) (ar (aZ (cP (bN (aQ i6 rfl Z.isinstance boot_isinstance (af (rv 2) (af (nG rfl Z.str boot_str) ag))))) (ar (aA gx)) aK)))
   (ar (aA (fb (cQ hr.aU) (rv 0) (rv 1))))))]
 ·obtain ⟨ss,rfl,_⟩:=h;rfl
 obtain ⟨ss,rfl,hl,q⟩:=h
 refine hX ?_
 simp_all! [Tx]
 obtain ⟨Inv,hInv⟩:∃Inv:Nat→Sr→Hq→Prop,∀i τ J',Inv i τ J'↔∃u:Option PV,τ=[some (.fl (ss.map .str)),some (.fl (ss.map .str)),u]∧J'=J:=⟨_,λ_ _ _=>Iff.rfl⟩
 refine fA Inv ((hInv _ _ _).mpr ⟨_,rfl,rfl⟩) (λ_ _ _ _=>trivial) ?_ ?_
 ·intro i x τ J' hx hv
  obtain ⟨u,rfl,rfl⟩:=(hInv _ _ _).mp hv
  obtain ⟨y,_,rfl⟩:=TB.mp (TH hx)
  simp_all! []
  exact (hInv _ _ _).mpr ⟨_,rfl,rfl⟩
 ·intro τ J' hv
  obtain ⟨u,rfl,rfl⟩:=(hInv _ _ _).mp hv
  simp_all! []
  refine ⟨Bw ss,(Bw ss).1,?_⟩
  rw [eq_self];exact q
abbrev oU:Stmt:=(top 50)
abbrev jN:List Str:=["_law_found","_law_due"]
theorem A4:L2.aw ["_law_found","_law_due"] ["_law_found","_law_due"] (L2.aj oU):=dN
def o4:cF:=λxs J Q _=>∃a:aF,xs=[a.v,a.v]∧Q (.bl true) J
theorem yC {f:Addr} {fd:FuncData} (F:bZ K "_law_passrow" "_law_passrow" oU f fd) (Z:bP mg) (zD:bp P w K mg base 2 "_law_part" jl qo):aL P w K mg base (cV P w) 3 f fd jN (dn K o4):=by
 simp_arith [A4,(ai (aZ (dR (kO (cP (bN (aQ i6 rfl Z.isinstance boot_isinstance (af (rv 0) (af (nG rfl Z.tuple boot_tuple) ag))))) (gA (aG (km hr.aU) (aQ b_ rfl Z.len boot_len (af (rv 0) ag)) ah)))) (ar (aA gx)) aK)
   (ai (aZ (dR (kO (cP (bN (aQ i6 rfl Z.isinstance boot_isinstance (af (av ax (rv 0) ah) (af (nG rfl Z.str boot_str) ag))))) (gA (cP (bN (aQ i6 rfl Z.isinstance boot_isinstance (af (av ax (rv 0) ah) (af (nG rfl Z.str boot_str) ag)))))))) (ar (aA gx)) aK)
   (ar (aA (AS (aS zD B hr (af (av ax (rv 0) ah) (af (av ax (rv 1) ah) ag))) (wF (fb (cQ hr.aU) (rv 0) (rv 1))))))))]
 ·obtain ⟨a,rfl,_⟩:=h;rfl
 obtain ⟨a,rfl,q⟩:=h
 refine hX ?_
 simp_arith! [bS,qo,Fp,Fq,Fs,R9,Oh,QQ,Kw,QU]
 exact q
abbrev mB:Stmt:=(top 51)
abbrev iP:List Str:=["_law_found","_law_due"]
theorem pB:L2.aw ["_law_found","_law_due","_law_k"] ["_law_found","_law_due"] (L2.aj mB):=dN
def sj:cF:=λxs J Q _=>∃(rows:List aF) (x:PV),xs=[x,.fl (rows.map aF.v)]∧jU J x=some (rows.map aF.v)∧rows.length≤900∧Q (.bl true) J
theorem v8 {f:Addr} {fd:FuncData} (F:bZ K "_law_passrows" "_law_passrows" mB f fd) (Z:bP mg) (C2:bp P w K mg base 3 "_law_passrow" jN o4):aL P w K mg base (cV P w) 4 f fd iP (dn K sj):=by
 simp_arith [pB,(ai (aZ (dR (kO (cP (bN (aQ i6 rfl Z.isinstance boot_isinstance (af (rv 0) (af (nG rfl Z.list boot_list) ag))))) (gA (aG (km hr.aU) (aQ b_ rfl Z.len boot_len (af (rv 0) ag)) (aQ b_ rfl Z.len boot_len (af (rv 1) ag)))))) (ar (aA gx)) aK)
   (ai (fe cy rfl (oR rfl Z.range (af (aQ b_ rfl Z.len boot_len (af (rv 1) ag)) ag)) (bA (i:=2) pB.nd) (ar (aZ (cP (bN (aS C2 B hr (af (av ax (rv 0) (rv 2)) (af (av ax (rv 1) (rv 2)) ag))))) (ar (aA gx)) aK)))
   (ar (aA gx))))]
 ·obtain ⟨rows,x,rfl,_⟩:=h;rfl
 obtain ⟨rows,x,rfl,hx,hl,q⟩:=h
 refine hX ?_
 simp_arith! [bS,Tx,OD hx,FF hx]
 refine ⟨by omega,by omega,HS (λi τ J'=>∃u:Option PV,τ=[some x,some (.fl (rows.map aF.v)),u]∧J'=J) ⟨none,rfl,rfl⟩ ?_ ?_⟩
 ·rintro i τ J' hi ⟨u,rfl,rfl⟩
  have hi:i < rows.length:=by omega
  have ha:de (rows.map aF.v) (0 + (i:Int))=some (rows[i].v):=by rw [Int.zero_add];exact EK (Tz hi)
  simp_arith! [bS,Kh hx,ha,o4]
  exact ⟨_,rfl,rfl⟩
 ·rintro τ J' ⟨u,rfl,rfl⟩
  exact q
theorem bU.N6 {L:Ln} (ok:bU L):L.fs.length≤12:=by
 have:=ok.rl
 rw [ok.row,yI] at this;exact this
theorem zT (t:Rat) (ks:List Ky) (h:(ks.map Ky.n).Nodup):(i4 t ks).length≤ks.length:=by
 rw [← zu h]
 have h1:=uG t gQ ((cE ks).zip (cE ks).tail)
 rw [Vm,ko] at h1
 omega
def NP (t:Rat) (fs gs:List (Str × aP)):Prop:=∀x,x∈fs.map (key t)↔x∈gs.map (key t)
def sT:List aP→Prop
 | a :: b :: r=>b.p=a.at b.m∧sT (b :: r)
 | _=>True
theorem iB:∀(ls:List aP) (l:aP),sT (ls ++ [l])↔sT ls∧∀k,ls.getLast?=some k→l.p=k.at l.m
 | [],l=>⟨λ_=>⟨trivial,λk h=>nomatch h⟩,λ_=>trivial⟩
 | [a],l=>⟨λh=>⟨trivial,λk e=>by cases e;exact h.1⟩,λh=>⟨h.2 a rfl,trivial⟩⟩
 | a :: b :: r,l=>by
  have ih:=iB (b :: r) l
  show (b.p=a.at b.m∧sT ((b :: r) ++ [l]))↔_
  rw [ih,VE]
  constructor
  ·rintro ⟨h1,h2,h3⟩;exact ⟨⟨h1,h2⟩,h3⟩
  ·rintro ⟨⟨h1,h2⟩,h3⟩;exact ⟨h1,h2,h3⟩
def iz (l l':aP):Prop:=l.v=l'.v∧∀t,l.at t=l'.at t
theorem iz.key {l l':aP} (h:iz l l') (n:Str) (t:Rat):key t (n,l)=key t (n,l'):=by unfold Ov.key;simp only;rw [h.1,h.2 t]
theorem vA (l:aP):l.at l.m=l.p:=by unfold aP.at;grind
theorem Cp {l l':aP} {t:Rat} (hv:l.v=l'.v) (h:l.at t=l'.at t):iz l l':=⟨hv,λs=>by
 unfold aP.at at h ⊢
 rw [hv] at h ⊢
 generalize (l'.v:Rat)=x at h ⊢
 grind⟩
theorem kX {rows:List aP} {t:Rat} {v:Int} (h:sT rows) (ne:rows≠[]):sT (turned rows t v)∧∀l,rows.getLast?=some l→∀l',(turned rows t v).getLast?=some l'→iz ⟨t,l.at t,v⟩ l':=by
 obtain ⟨ls,l,rfl⟩:∃ls l,rows=ls ++ [l]:=⟨rows.dropLast,rows.getLast ne,(T_ ne).symm⟩
 obtain ⟨h1,h2⟩:=(iB ls l).mp h
 have new:∀{q:List aP},(q ++ [aP.mk t (l.at t) v]).getLast?=some (aP.mk t (l.at t) v):=λ{q}=>T1 ..
 rw [bR]
 simp only [T1,Option.some.injEq]
 split
 ·rename_i e
  have el:l.at t=l.p:=by rw [← e];exact vA l
  split
  ·rename_i ev
   refine ⟨h1,λl0 h0 l' h'=>?_⟩
   subst h0
   rw [h'] at ev
   have hv:l'.v=v:=Option.some.inj ev
   have hp:=h2 l' h'
   rw [e] at hp
   refine Cp (t:=t) hv.symm ?_
   show l.at t + (t - t) * (v:Rat)=_
   rw [← hp,el];grind
  ·refine ⟨(iB _ _).mpr ⟨h1,λk hk=>?_⟩,λl0 h0 l' h'=>?_⟩
   ·show l.at t=k.at t
    rw [el,h2 k hk,e]
   ·subst h0
    rw [new] at h';cases h';exact ⟨rfl,λ_=>rfl⟩
 ·split
  ·rename_i ev
   refine ⟨h,λl0 h0 l' h'=>?_⟩
   subst h0
   rw [T1] at h';cases h'
   refine Cp (t:=t) ev.symm ?_
   show l.at t + (t - t) * (v:Rat)=_
   grind
  ·refine ⟨(iB _ _).mpr ⟨h,λk hk=>?_⟩,λl0 h0 l' h'=>?_⟩
   ·rw [T1] at hk;cases hk;rfl
   ·subst h0
    rw [new] at h';cases h';exact ⟨rfl,λ_=>rfl⟩
structure Rl (L:Ln) (gs:List (Str × aP)):Prop where
 nm:gs.map (·.1)=L.fs.map (·.1)
 ln:∀n l l',(n,l)∈gs→(n,l')∈L.fs→iz l l'
 ck:∀x∈gs,sM x.2
 le:∀x∈gs,x.2.m≤L.t
 ct:∀c∈L.cs,sT c.w
theorem Rl.same {L:Ln} {gs:List (Str × aP)} (h:Rl L gs) (t:Rat):NP t L.fs gs:=λx=>by
 have other:∀{as bs:List (Str × aP)},as.map (·.1)=bs.map (·.1)→∀{n l},(n,l)∈as→∃l',(n,l')∈bs:=λ{as bs} e {n l} hm=>by
  have:n∈bs.map (·.1):=by rw [← e];exact TB.mpr ⟨_,hm,rfl⟩
  obtain ⟨y,hy,e'⟩:=TB.mp this
  exact ⟨y.2,by rw [← e'];exact hy⟩
 rw [TB,TB]
 constructor
 ·rintro ⟨⟨n,l⟩,hm,rfl⟩
  obtain ⟨l',hl'⟩:=other h.nm.symm hm
  exact ⟨(n,l'),hl',(h.ln n l' l hl' hm).key n t⟩
 ·rintro ⟨⟨n,l⟩,hm,rfl⟩
  obtain ⟨l',hl'⟩:=other h.nm hm
  exact ⟨(n,l'),hl',((h.ln n l l' hm hl').key n t).symm⟩
theorem Rl.sz {L:Ln} {gs:List (Str × aP)} (h:Rl L gs):∀x∈gs,sH 240 x.2:=λx hx=>by
 have hk:=h.ck x hx
 exact ⟨hk.SR.mono (by decide),hk.SW.mono (by decide),.small (by have:=hk.v;omega) (by have:=hk.v;omega)⟩
theorem Rl.nd {L:Ln} {gs:List (Str × aP)} (h:Rl L gs) (ok:ba L):(gs.map (·.1)).Nodup:=by rw [h.nm];exact ok.LH
theorem Rl.len {L:Ln} {gs:List (Str × aP)} (h:Rl L gs):gs.length=L.fs.length:=by have:=congrArg UG h.nm;rw [Tx,Tx] at this;exact this
theorem AN {fs:List (Str × aP)} {n:Str} {l:aP} (hm:n∈fs.map (·.1)):sJ (bJ fs) n l.V=bJ (fs.map λx=>if x.1=n then (x.1,l) else x):=by
 unfold sJ bJ
 rw [if_pos,TK,TK]
 ·refine TZ λx _=>?_
  show (if x.1=n then (x.1,l.V) else (x.1,x.2.V))=_
  show _=((if x.1=n then (x.1,l) else x).1,(if x.1=n then (x.1,l) else x).2.V)
  split <;> rfl
 ·obtain ⟨x,hx,e⟩:=TB.mp hm
  rw [VF]
  exact ⟨(x.1,x.2.V),TB.mpr ⟨x,hx,rfl⟩,decide_eq_true e⟩
def pF (n:Str) (t:Rat) (v:Int) (gs:List (Str × aP)):List (Str × aP):=gs.map λx=>if x.1=n then (x.1,⟨t,x.2.at t,v⟩) else x
def b9 (t:Rat) (gs:List (Str × aP)):List (Str × aP):=gs.map λx=>(x.1,⟨t,x.2.at t,-x.2.v⟩)
theorem E5 {L:Ln} {f:Cf→Cf} (hn:∀c,(f c).n=c.n∧(f c).a=c.a∧(f c).r=c.r∧(f c).g=c.g) {L':Ln} (e:L'.cs=L.cs.map f):L'.fs=L.DX.map λc=>(c.n,(f c).cur):=by
 unfold Ln.fs Ln.DX
 rw [e,Uo,TK]
 have e1:(λc:Cf=>c.g.isNone) ∘ f=λc=>c.g.isNone:=by funext c;show (f c).g.isNone=_;rw [(hn c).2.2.2]
 rw [e1]
 exact TZ λc _=>by show ((f c).n,(f c).cur)=_;rw [(hn c).1]
theorem xY {c:Cf} {t:Rat} {v:Int} (h:sT c.w) (ne:c.w≠[]):iz ⟨t,c.cur.at t,v⟩ (c.turn t v).cur:=by
 have h1:=(Cf.i7 ne).1
 have h2:=(Cf.i7 (c:=c.turn t v) (lH ne)).1
 exact (kX h ne).2 _ h1 _ h2
theorem iz.turn {l l':aP} (h:iz l l') (t:Rat) (v:Int):iz ⟨t,l.at t,v⟩ ⟨t,l'.at t,v⟩:=by rw [h.2 t];exact ⟨rfl,λ_=>rfl⟩
theorem iz.trans {l l' l'':aP} (h:iz l l') (k:iz l' l''):iz l l'':=⟨h.1.trans k.1,λt=>(h.2 t).trans (k.2 t)⟩
theorem Rl.turn {L L':Ln} {gs:List (Str × aP)} (h:Rl L gs) (ok:ba L) {n:Str} {v:Int} (hv:v.natAbs≤1000) (e:L'.cs=L.cs.map (cK n L.t v)) (et:L'.t=L.t):Rl L' (pF n L.t v gs):=by
 have hn:=n6 n L.t v
 have hfs:=E5 hn e
 have nm:(pF n L.t v gs).map (·.1)=gs.map (·.1):=by
  unfold pF;rw [TK];exact TZ λx _=>by show (if x.1=n then (x.1,_) else x).1=x.1;split <;> rfl
 refine ⟨?_,?_,?_,?_,?_⟩
 ·rw [nm,h.nm,hfs];unfold Ln.fs;rw [TK,TK];rfl
 ·intro m l l' hl hl'
  obtain ⟨x,hx,ex⟩:=TB.mp hl
  rw [hfs] at hl'
  obtain ⟨c,hc,ec⟩:=TB.mp hl'
  have hcs:=(Ln.c7.mp hc).1
  have hold:(c.n,c.cur)∈L.fs:=TB.mpr ⟨c,hc,rfl⟩
  cases ec
  by_cases z:x.1=n
  ·rw [if_pos z] at ex
   have ex1:x.1=c.n:=(Prod.mk.inj ex).1
   have ex2:aP.mk L.t (x.2.at L.t) v=l:=(Prod.mk.inj ex).2
   subst ex2
   have hs:=h.ln x.1 x.2 c.cur hx (by rw [ex1];exact hold)
   have zc:c.n=n:=by rw [← z];exact ex1.symm
   unfold cK
   rw [if_pos zc]
   exact (hs.turn L.t v).trans (xY (h.ct c hcs) (ok.ne c hcs))
  ·rw [if_neg z] at ex
   subst ex
   have zc:¬ c.n=n:=z
   unfold cK
   rw [if_neg zc]
   exact h.ln c.n l c.cur hx hold
 ·intro x hx
  obtain ⟨y,hy,rfl⟩:=TB.mp hx
  split
  ·exact (h.ck y hy).at (h.le y hy) ok.ts hv
  ·exact h.ck y hy
 ·intro x hx
  rw [et]
  obtain ⟨y,hy,rfl⟩:=TB.mp hx
  split
  ·exact Rat.le_refl
  ·exact h.le y hy
 ·intro c hc
  rw [e] at hc
  obtain ⟨c0,h0,rfl⟩:=TB.mp hc
  unfold cK
  split
  ·exact (kX (h.ct c0 h0) (ok.ne c0 h0)).1
  ·exact h.ct c0 h0
theorem qF (t:Rat) (c:Cf):(cO t c).n=c.n∧(cO t c).a=c.a∧(cO t c).r=c.r∧(cO t c).g=c.g:=by unfold cO;split <;> exact ⟨rfl,rfl,rfl,rfl⟩
theorem Rl.about {L L':Ln} {gs:List (Str × aP)} (h:Rl L gs) (ok:ba L) (e:L'.cs=L.cs.map (cO L.t)) (et:L'.t=L.t):Rl L' (b9 L.t gs):=by
 have hn:=qF L.t
 have hfs:=E5 hn e
 have nm:(b9 L.t gs).map (·.1)=gs.map (·.1):=by
  unfold b9;rw [TK];rfl
 refine ⟨?_,?_,?_,?_,?_⟩
 ·rw [nm,h.nm,hfs];unfold Ln.fs;rw [TK,TK];rfl
 ·intro m l l' hl hl'
  obtain ⟨x,hx,ex⟩:=TB.mp hl
  rw [hfs] at hl'
  obtain ⟨c,hc,ec⟩:=TB.mp hl'
  have hcs:=Ln.c7.mp hc
  have hold:(c.n,c.cur)∈L.fs:=TB.mpr ⟨c,hc,rfl⟩
  cases ec
  obtain ⟨xn,xl⟩:=x
  cases ex
  have hs:=h.ln c.n xl c.cur hx hold
  have ea:cO L.t c=c.turn L.t (-c.cur.v):=by unfold cO;rw [if_pos (by rw [hcs.2];rfl)]
  rw [ea,hs.1]
  exact (hs.turn L.t _).trans (xY (h.ct c hcs.1) (ok.ne c hcs.1))
 ·intro x hx
  obtain ⟨y,hy,rfl⟩:=TB.mp hx
  exact (h.ck y hy).at (h.le y hy) ok.ts (by have:=(h.ck y hy).v;omega)
 ·intro x hx
  rw [et]
  obtain ⟨y,hy,rfl⟩:=TB.mp hx
  exact Rat.le_refl
 ·intro c hc
  rw [e] at hc
  obtain ⟨c0,h0,rfl⟩:=TB.mp hc
  unfold cO
  split
  ·exact (kX (h.ct c0 h0) (ok.ne c0 h0)).1
  ·exact h.ct c0 h0
theorem Rl.join {L L':Ln} {gs:List (Str × aP)} (h:Rl L gs) (ok':ba L') {n:Str} {x v:Int} (hv:v.natAbs≤1000) (hx:x.natAbs≤1000000) (j:L.joined n x v L') (t0:0≤L.t) (ts:Sc g7 MM L.t) (hnew:n ∉ L.fs.map (·.1)):Rl L' (gs ++ [(n,⟨L.t,(x:Rat),v⟩)]):=by
 obtain ⟨a,r,ecs,et⟩:=j
 have efs:L'.fs=L.fs ++ [(n,⟨L.t,(x:Rat),v⟩)]:=BK L ecs rfl
 refine ⟨?_,?_,?_,?_,?_⟩
 ·rw [efs,TM,TM,h.nm]
 ·intro m l l' hl hl'
  rw [efs] at hl'
  have h1:∀{k},(n,k)∈gs→False:=λhk=>hnew (by rw [← h.nm];exact TB.mpr ⟨_,hk,rfl⟩)
  have h2:∀{k},(n,k)∈L.fs→False:=λhk=>hnew (TB.mpr ⟨_,hk,rfl⟩)
  rcases TQ.mp hl with hl | hl <;> rcases TQ.mp hl' with hl' | hl'
  ·exact h.ln m l l' hl hl'
  ·rw [TR] at hl';cases hl';exact (h1 hl).elim
  ·rw [TR] at hl;cases hl;exact (h2 hl').elim
  ·rw [TR] at hl hl';cases hl;cases hl';exact ⟨rfl,λ_=>rfl⟩
 ·intro y hy
  rcases TQ.mp hy with hy | hy
  ·exact h.ck y hy
  ·rw [TR] at hy;subst hy;exact sM.new t0 ts hx hv
 ·intro y hy
  rw [et]
  rcases TQ.mp hy with hy | hy
  ·exact h.le y hy
  ·rw [TR] at hy;subst hy;exact Rat.le_refl
 ·intro c hc
  rw [ecs] at hc
  rcases TQ.mp hc with hc | hc
  ·exact h.ct c hc
  ·rw [TR] at hc;subst hc;exact trivial
def j6 (n:Str) (gs:List (Str × aP)):List (Str × aP):=gs.filter λx=>decide (x.1≠n)
theorem Rl.leave {L L':Ln} {gs:List (Str × aP)} (h:Rl L gs) {n:Str} (e:L'.cs=L.cs.map (bF n L.t)) (et:L'.t=L.t):Rl L' (j6 n gs):=by
 have hfs:L'.fs=L.fs.filter λx=>decide (x.1≠n):=yg e
 have hf:∀l:List (Str × aP),(l.filter λx=>decide (x.1≠n)).map (·.1)=(l.map (·.1)).filter λy=>decide (y≠n):=λl=>by rw [Uo];rfl
 refine ⟨?_,?_,?_,?_,?_⟩
 ·unfold j6;rw [hf,hfs,hf,h.nm]
 ·intro m l l' hl hl'
  rw [hfs] at hl'
  exact h.ln m l l' (TU.mp hl).1 (TU.mp hl').1
 ·intro x hx;exact h.ck x (TU.mp hx).1
 ·intro x hx;rw [et];exact h.le x (TU.mp hx).1
 ·intro c hc
  rw [e] at hc
  obtain ⟨c0,h0,rfl⟩:=TB.mp hc
  rw [(fu n L.t c0).2.2.2];exact h.ct c0 h0
abbrev wK:Stmt:=(top 58)
abbrev ia:List Str:=["_law_legs","_law_clock","_law_deed_here"]
theorem yZ:L2.aw ["_law_legs","_law_clock","_law_deed_here","_law_name"] ["_law_legs","_law_clock","_law_deed_here"] (L2.aj wK):=dN
def ft (n:Str) (x v:Int):PV:=.tup [.str "join",.str n,.int x,.int v]
def g6 (n:Str) (v:Int):PV:=.tup [.str "turn",.str n,.int v]
def f_:PV:=.tup [.str "about"]
def fC (n:Str):PV:=.tup [.str "leave",.str n]
def Hd (m:Rat):PV:=.tup [.str "go",fr m]
def ql:cF:=λxs J Q _=>∃(D:Addr) (gs:List (Str × aP)) (ep:Nat) (t:Rat) (dv:PV),xs=[.ref D,fr t,dv]∧J D=some (.dct (bJ gs) ep)∧(gs.map (·.1)).Nodup∧gs.length≤100∧Sz 900 t∧(∀x∈gs,sH 900 x.2) ∧
 ((∃n x v,dv=ft n x v∧n ∉ gs.map (·.1)∧∀ep',Q (fr t) (put J D (.dct (bJ (gs ++ [(n,⟨t,(x:Rat),v⟩)])) ep'))) ∨
  (∃n v,dv=g6 n v∧n∈gs.map (·.1)∧∀ep',Q (fr t) (put J D (.dct (bJ (pF n t v gs)) ep'))) ∨
  (dv=f_∧∀ep',Q (fr t) (put J D (.dct (bJ (b9 t gs)) ep'))) ∨
  (∃n,dv=fC n∧n∈gs.map (·.1)∧∀ep',Q (fr t) (put J D (.dct (bJ (j6 n gs)) ep'))) ∨
  (∃m,dv=Hd m∧Q (fr m) J))
theorem K0:(("join":Str)="go")=False:=eq_false (by decide +kernel)
theorem K2:(("turn":Str)="go")=False:=eq_false (by decide +kernel)
theorem KZ:(("about":Str)="go")=False:=eq_false (by decide +kernel)
theorem Ly {c:l9} {a u:iX} {D:En} {τ:Sr} {J:Hq} (hc:∀R:Bool→Hq→Prop,R false J→c τ J R) (hu:u D τ J):Gu (AQ c a rL) u D τ J :=
 ⟨λτ' J'=>τ'=τ∧J'=J,hc _ (by rw [if_neg (by decide)];exact ⟨rfl,rfl⟩),λτ' J' h=>by obtain ⟨rfl,rfl⟩:=h;exact hu⟩
theorem fN {c:l9} {a u:iX} {D:En} {τ:Sr} {J:Hq} (M:Sr→Hq→Prop) (hc:∀R:Bool→Hq→Prop,R true J→c τ J R) (ha:a { D with nx:=M } τ J) (hu:∀τ' J',M τ' J'→u D τ' J'):Gu (AQ c a rL) u D τ J :=
 ⟨M,hc _ (by rw [if_pos rfl];exact ha),hu⟩
theorem CY {x y:Str} {i:Nat} {dv:PV} {τ:Sr} {J:Hq} (h:τ[i]?=some (some dv)) (h0:fB J dv (.int 0)=some (.str x)) (R:Bool→Hq→Prop) (hr:R (decide (x=y)) J):rB (xE (Kz id) (xE KA (jm i) (rC (.int 0))) (rC (.str y))) τ J R :=
 Mm h (fG h0 ⟨⟨rfl,by simp [fI,dep]⟩,rfl,v_ rfl (by rw [eq_str];exact hr)⟩)
theorem c8 {x y:Str} {i:Nat} {dv:PV} {τ:Sr} {J:Hq} {a u:iX} {D:En} (h:τ[i]?=some (some dv)) (h0:fB J dv (.int 0)=some (.str x)) (n:decide (x=y)=false) (hu:u D τ J):Gu (AQ (rB (xE (Kz id) (xE KA (jm i) (rC (.int 0))) (rC (.str y)))) a rL) u D τ J:=Ly (λR hr'=>CY h h0 R (by rw [n];exact hr')) hu
theorem vH {x:Str} {i:Nat} {dv:PV} {τ:Sr} {J:Hq} (h:τ[i]?=some (some dv)) (h0:fB J dv (.int 0)=some (.str x)) (R:Bool→Hq→Prop) (hr:R true J):rB (xE (Kz id) (xE KA (jm i) (rC (.int 0))) (rC (.str x))) τ J R:=CY h h0 R (by rw [decide_eq_true rfl];exact hr)
def eR (t:Rat) (gs:List (Str × aP)) (i:Nat):List (Str × aP):=b9 t (gs.take i) ++ gs.drop i
theorem uv (t:Rat) (gs:List (Str × aP)) (i:Nat):(eR t gs i).map (·.1)=gs.map (·.1):=by
 unfold eR b9
 rw [TM,TK]
 have:((gs.take i).map ((λx:Str × aP=>x.1) ∘ λx=>(x.1,(⟨t,x.2.at t,-x.2.v⟩:aP))))=(gs.take i).map (·.1):=TZ λ_ _=>rfl
 rw [this,← TM,Vh]
theorem xQ (t:Rat) (gs:List (Str × aP)) (hnd:(gs.map (·.1)).Nodup) (i:Nat) (h:i < gs.length):(eR t gs i).map (λx=>if x.1=gs[i].1 then (x.1,(⟨t,gs[i].2.at t,-gs[i].2.v⟩:aP)) else x)=eR t gs (i + 1):=by
 have hd:gs.drop i=gs[i] :: gs.drop (i + 1):=Ut h
 have ht:gs.take (i + 1)=gs.take i ++ [gs[i]]:=by rw [Ub,Tz h];rfl
 have hn2:(gs.map (·.1))=(gs.take i).map (·.1) ++ (gs[i].1 :: (gs.drop (i + 1)).map (·.1)):=by
  rw [← TL (f:=λx:Str × aP=>x.1),← hd,← TM,Vh]
 rw [hn2,Uz] at hnd
 unfold eR b9
 rw [hd,ht,TM,TM,TL,if_pos rfl,Vd]
 congr 1
 ·rw [TK]
  refine TZ λx hx=>?_
  show (if x.1=gs[i].1 then _ else _)=_
  rw [if_neg (hnd.2.2 x.1 (TB.mpr ⟨x,hx,rfl⟩) gs[i].1 (by simp))]
 ·show _ :: _=_ :: _
  congr 1
  have hno:=(UM.mp hnd.2.1).1
  have:∀x∈gs.drop (i + 1),(if x.1=gs[i].1 then (x.1,(⟨t,gs[i].2.at t,-gs[i].2.v⟩:aP)) else x)=x:=λx hx=>if_neg λz=>hno (by rw [← z];exact TB.mpr ⟨x,hx,rfl⟩)
  rw [TZ this,VP]
  rfl
theorem K1:(("leave":Str)="go")=False:=eq_false (by decide +kernel)
theorem DI {f:Addr} {fd:FuncData} (F:bZ K "_law_acted" "_law_acted" wK f fd) (Z:bP mg) (CZ:bp P w K mg base 2 "_law_at" ji pD):aL P w K mg base (cV P w) 3 f fd ia (dn K ql):=by
 simp_arith [yZ,(dw (aZ (aG (cQ hr.aU) (av ax (rv 2) ah) bM) (ar (rQ nX (rv 0) (av ax (rv 2) ah) (cx (af (rv 1) (af (cx (af (av ax (rv 2) ah) (af ah ag))) (af (av ax (rv 2) ah) ag)))))) aK)
   (dw (aZ (aG (cQ hr.aU) (av ax (rv 2) ah) bM) (ar (a7 (nE PySem.F.plainAttrs_dict PySem.F.slot_dict_pop PySem.F.type_dict_pop Ir (rv 0) (af (av ax (rv 2) ah) ag)))) aK)
   (dw (aZ (aG (cQ hr.aU) (av ax (rv 2) ah) bM) (ar (rQ nX (rv 0) (av ax (rv 2) ah) (cx (af (rv 1) (af (aS CZ B hr (af (av dG (rv 0) (av ax (rv 2) ah)) (af (rv 1) ag))) (af (av ax (rv 2) ah) ag)))))) aK)
   (dw (aZ (aG (cQ hr.aU) (av ax (rv 2) ah) bM) (ar (fe cy rfl (dW (cZ (qJ rfl) rfl Z.list boot_list (af (rv 0) ag))) (bA (i:=3) yZ.nd) (ar (rQ nX (rv 0) (rv 3) (cx (af (rv 1) (af (aS CZ B hr (af (av dG (rv 0) (rv 3)) (af (rv 1) ag))) (af (nH jJ (av ax (av dG (rv 0) (rv 3)) ah)) ag)))))))) aK)
   (ai (aZ (aG (cQ hr.aU) (av ax (rv 2) ah) bM) (ar (aA (av ax (rv 2) ah))) aK)
   (ar (aA (rv 1))))))))]
 ·obtain ⟨D,gs,ep,t,dv,rfl,_⟩:=h;rfl
 obtain ⟨D,gs,ep,t,dv,rfl,hD,hnd,hlen,st,sl,h⟩:=h
 refine hX ?_
 rcases h with ⟨n,x,v,rfl,hn,q⟩ | ⟨n,v,rfl,hn,q⟩ | ⟨rfl,q⟩ | ⟨n,rfl,hn,q⟩ | ⟨m,rfl,q⟩
 ·have i0:∀J,fB J (ft n x v) (.int 0)=some (.str "join"):=λJ=>dC _ _
  have i1:∀J,fB J (ft n x v) (.int 1)=some (.str n):=λJ=>fM _ _ _
  have i2:∀J,fB J (ft n x v) (.int 2)=some (.int x):=λJ=>jY _ _ _ _
  have i3:∀J,fB J (ft n x v) (.int 3)=some (.int v):=λJ=>rfl
  refine fN (λτ' J'=>∃ep',τ'=[some (.ref D),some (fr t),some (ft n x v),none]∧J'=put J D (.dct (bJ (gs ++ [(n,⟨t,(x:Rat),v⟩)])) ep')) (vH rfl (i0 _)) ?_ ?_
  ·simp_all! [i1,i2,i3,hD,LK,sC]
   refine ⟨a_ (by unfold bJ;rw [Tx];omega),λep'=>⟨ep',?_⟩⟩
   have epu:sJ (bJ gs) n (aP.mk t (x:Rat) v).V=bJ (gs ++ [(n,⟨t,(x:Rat),v⟩)]):=AM (f:=aP.V) (l:=⟨t,(x:Rat),v⟩) hn
   rw [epu]
  rintro τ' J' ⟨ep',rfl,rfl⟩
  refine c8 rfl (i0 _) (by decide +kernel) ?_
  refine c8 rfl (i0 _) (by decide +kernel) ?_
  refine c8 rfl (i0 _) (by decide +kernel) ?_
  simp_all! [i0,K0,if_false]
  exact q ep'
 ·have i0:∀J,fB J (g6 n v) (.int 0)=some (.str "turn"):=λJ=>dC _ _
  have i1:∀J,fB J (g6 n v) (.int 1)=some (.str n):=λJ=>fM _ _ _
  have i2:∀J,fB J (g6 n v) (.int 2)=some (.int v):=λJ=>jY _ _ _ _
  refine c8 rfl (i0 _) (by decide +kernel) ?_
  refine c8 rfl (i0 _) (by decide +kernel) ?_
  refine fN (λτ' J'=>∃ep',τ'=[some (.ref D),some (fr t),some (g6 n v),none]∧J'=put J D (.dct (bJ (pF n t v gs)) ep')) (vH rfl (i0 _)) ?_ ?_
  ·obtain ⟨l,hl,hvl⟩:=xB (f:=aP.V) hnd hn
   have hvl:mI (bJ gs) n=some l.V:=hvl
   have sll:=sl _ hl
   simp_all! [i1,i2,hD,hvl]
   refine ⟨l,t,rfl,sll.m,sll.p,st,sll.v,?_⟩
   simp_all! [i1,i2,hD,sC]
   refine ⟨a_ (by unfold bJ;rw [Tx];omega),λep'=>⟨ep',?_⟩⟩
   rw [AN hn]
   have:(gs.map λx=>if x.1=n then (x.1,(⟨t,l.at t,v⟩:aP)) else x)=pF n t v gs:=TZ λx hx=>by
    by_cases z:x.1=n
    ·have hx':mI (bJ gs) n=some x.2.V:=iu (f:=aP.V) hnd (by rw [← z];exact hx)
     rw [hvl] at hx'
     have ex:l=x.2:=by have:=Option.some.inj hx';rw [NR] at this;exact this
     rw [if_pos z,if_pos z,ex]
    ·rw [if_neg z,if_neg z]
   rw [this]
  rintro τ' J' ⟨ep',rfl,rfl⟩
  refine c8 rfl (i0 _) (by decide +kernel) ?_
  simp_all! [i0,K2,if_false]
  exact q ep'
 ·have i0:∀J,fB J f_ (.int 0)=some (.str "about"):=λJ=>dC _ _
  refine c8 rfl (i0 _) (by decide +kernel) ?_
  refine c8 rfl (i0 _) (by decide +kernel) ?_
  refine c8 rfl (i0 _) (by decide +kernel) ?_
  refine fN (λτ' J'=>∃u ep',τ'=[some (.ref D),some (fr t),some f_,u]∧J'=put J D (.dct (bJ (b9 t gs)) ep')) (vH rfl (i0 _)) ?_ ?_
  ·simp_all! [hD]
   have hkv:(bJ gs).map (λkv=>PV.str kv.1)=gs.map λx=>PV.str x.1:=by unfold bJ;rw [TK];rfl
   rw [hkv]
   obtain ⟨Inv,hInv⟩:∃Inv:Nat→Sr→Hq→Prop,∀i τ J',Inv i τ J'↔∃(u:Option PV) (ep':Nat),τ=[some (.ref D),some (fr t),some f_,u]∧J'=put J D (.dct (bJ (eR t gs i)) ep'):=⟨_,λ_ _ _=>Iff.rfl⟩
   refine fA Inv ((hInv _ _ _).mpr ⟨_,ep,rfl,by show J=put J D (.dct (bJ gs) ep);rw [AO hD]⟩) (λ_ _ _ _=>trivial) ?_ ?_
   ·intro i x τ J' hx hv
    obtain ⟨u,ep',rfl,rfl⟩:=(hInv _ _ _).mp hv
    clear hv
    have hi:i < gs.length:=by have:=(TC.mp hx).1;simpa using this
    rw [TN,Tz hi] at hx
    cases hx
    have hnd':((eR t gs i).map (·.1)).Nodup:=by rw [uv];exact hnd
    have hmem:gs[i]∈eR t gs i:=by unfold eR;rw [Ut hi];exact TQ.mpr (.inr Ui)
    have hva:mI (bJ (eR t gs i)) gs[i].1=some gs[i].2.V:=iu (f:=aP.V) hnd' hmem
    have hstep:=xQ t gs hnd i hi
    have hin:gs[i].1∈(eR t gs i).map (·.1):=TB.mpr ⟨_,hmem,rfl⟩
    have hlen':(eR t gs i).length=gs.length:=by have:=congrArg UG (uv t gs i);rw [Tx,Tx] at this;exact this
    have sll:=sl _ (Uk hi)
    generalize gs[i]=y at hva hstep hin sll ⊢
    simp_all! [aq,hva]
    refine ⟨y.2,t,rfl,sll.m,sll.p,st,sll.v,?_⟩
    simp_all! [aq,hva,lM,sC]
    refine ⟨a_ (by unfold bJ;rw [Tx];omega),λep2=>(hInv _ _ _).mpr ⟨_,ep2,rfl,?_⟩⟩
    rw [eG,AN hin,hstep]
   ·intro τ J' hv
    obtain ⟨u,ep',rfl,rfl⟩:=(hInv _ _ _).mp hv
    refine ⟨u,rfl,ep',?_⟩
    rw [Tx]
    unfold eR
    rw [Uc,VG,Uq]
  rintro τ' J' ⟨u,ep',rfl,rfl⟩
  simp_all! [i0,KZ,if_false]
  exact q ep'
 ·have i0:∀J,fB J (fC n) (.int 0)=some (.str "leave"):=λJ=>dC _ _
  have i1:∀J,fB J (fC n) (.int 1)=some (.str n):=λJ=>fM _ _ _
  refine c8 rfl (i0 _) (by decide +kernel) ?_
  refine fN (λτ' J'=>∃ep',τ'=[some (.ref D),some (fr t),some (fC n),none]∧J'=put J D (.dct (bJ (j6 n gs)) ep')) (vH rfl (i0 _)) ?_ ?_
  ·obtain ⟨l,hl,hvl⟩:=xB (f:=aP.V) hnd hn
   have hvl:mI (bJ gs) n=some l.V:=hvl
   simp_all! [i1,hD,hvl]
   have edr:Eg (bJ gs) n=bJ (j6 n gs):=by unfold Eg bJ j6;rw [Uo];rfl
   intro ep'
   exact ⟨ep',by rw [edr]⟩
  rintro τ' J' ⟨ep',rfl,rfl⟩
  refine c8 rfl (i0 _) (by decide +kernel) ?_
  refine c8 rfl (i0 _) (by decide +kernel) ?_
  simp_all! [i0,K1,if_false]
  exact q ep'
 ·have i0:∀J,fB J (Hd m) (.int 0)=some (.str "go"):=λJ=>dC _ _
  have i1:∀J,fB J (Hd m) (.int 1)=some (fr m):=λJ=>fM _ _ _
  refine c8 rfl (i0 _) (by decide +kernel) ?_
  refine c8 rfl (i0 _) (by decide +kernel) ?_
  refine c8 rfl (i0 _) (by decide +kernel) ?_
  refine c8 rfl (i0 _) (by decide +kernel) ?_
  simp_all! [i0,i1,if_true]
  exact q
abbrev AW:Stmt:=(top 59)
abbrev jk:List Str:=["_law_lane","_law_deed_here"]
theorem Js:L2.aw ["_law_lane","_law_deed_here"] ["_law_lane","_law_deed_here"] (L2.aj AW):=dN
def xh (cN cL T:Addr):cF:=λxs J Q _=>∃p L dv,xs=[.ref p,dv]∧aX cN cL J p L∧bU L ∧
 ((∃n x v,dv=ft n x v∧J T=some .tab∧good n=true∧NA x v∧n ∉ L.cs.map Cf.n∧L.row.length < 12∧L.cs.length < 100∧n.length≤sizeLine∧∀J' L',aX cN cL J' p L'→bU L'→L.joined n x v L'→Mv J J' (L.own p) (L'.own p)→Q (.fl []) J') ∨
  (∃n v,dv=g6 n v∧n∈L.row∧v.natAbs≤1000∧(∀c∈L.cs,c.w.length < 200)∧∀J' L',aX cN cL J' p L'→bU L'→L'.cs=L.cs.map (cK n L.t v)→L'.t=L.t→Mv J J' (L.own p) (L'.own p)→Q (.fl []) J') ∨
  (dv=f_∧(∀c∈L.cs,c.w.length < 200)∧∀J' L',aX cN cL J' p L'→bU L'→L'.cs=L.cs.map (cO L.t)→L'.t=L.t→Mv J J' (L.own p) (L'.own p)→Q (.fl []) J') ∨
  (∃n,dv=fC n∧n∈L.row∧∀J' L',aX cN cL J' p L'→bU L'→L'.cs=L.cs.map (bF n L.t)→L'.t=L.t→Mv J J' (L.own p) (L'.own p)→Q (.fl []) J') ∨
  (∃m:Rat,dv=Hd m∧iG m.num m.den=true∧L.t≤m∧∀J' o',aX cN cL J' p { L with t:=m,o:=o',row:=cY m L.fs }→bU { L with t:=m,o:=o',row:=cY m L.fs }→Mv J J' (L.own p) (Ln.own { L with t:=m,o:=o',row:=cY m L.fs } p)→Q (.fl ((pj L.t (L.fs.map (key L.t)) m).map aF.v)) J'))
theorem FW {cN cL T eB eF eT eU eC eM eP f:Addr} {fd:FuncData} (F:bZ K "_law_done" "_law_done" AW f fd) (Z:bP mg) (j_:cu P w K mg base cN 8 "join" nj (CF cN cL T eB eF eT eU)) (i_:cu P w K mg base cN 2 "leave" lS (zg cN cL eC)) (ed:cu P w K mg base cN 8 "turn" jh (xm cN cL eC eF)) (cD:cu P w K mg base cN 8 "about" hE (sf cN cL)) (i9:cu P w K mg base cN 8 "go_to" lR (KY cN cL eM eP)):aL P w K mg base (cV P w) 9 f fd jk (dn K (xh cN cL T)):=by
 simp_arith [Js,(dw (aZ (aG (cQ hr.aU) (av ax (rv 1) ah) bM) (ar (a7 (bz (pl:=_) j_ B hr (rv 0) (af (av ax (rv 1) ah) (af (av ax (rv 1) ah) (af (av ax (rv 1) ah) ag)))))) aK)
   (dw (aZ (aG (cQ hr.aU) (av ax (rv 1) ah) bM) (ar (a7 (bz (pl:=_) i_ B hr (rv 0) (af (av ax (rv 1) ah) ag)))) aK)
   (dw (aZ (aG (cQ hr.aU) (av ax (rv 1) ah) bM) (ar (a7 (bz (pl:=_) ed B hr (rv 0) (af (av ax (rv 1) ah) (af (av ax (rv 1) ah) ag))))) aK)
   (dw (aZ (aG (cQ hr.aU) (av ax (rv 1) ah) bM) (ar (a7 (bC (pl:=_) cD B hr (rv 0)))) aK)
   (ai (aZ (aG (cQ hr.aU) (av ax (rv 1) ah) bM) (ar (aA (bz (pl:=_) i9 B hr (rv 0) (af (av ax (rv 1) ah) ag)))) aK)
   (ar (aA (uR ag))))))))]
 ·obtain ⟨p,L,dv,rfl,_⟩:=h;rfl
 obtain ⟨p,L,dv,rfl,b,ok,h⟩:=h
 have bo:=b.ob
 refine hX ?_
 rcases h with ⟨n,x,v,rfl,hT,hg,hb,hn,hr12,hc,hl,q⟩ | ⟨n,v,rfl,hn,hv,hw,q⟩ | ⟨rfl,hw,q⟩ | ⟨n,rfl,hn,q⟩ | ⟨m,rfl,hg,hm,q⟩
 ·have i0:∀J,fB J (ft n x v) (.int 0)=some (.str "join"):=λJ=>dC _ _
  have i1:∀J,fB J (ft n x v) (.int 1)=some (.str n):=λJ=>fM _ _ _
  have i2:∀J,fB J (ft n x v) (.int 2)=some (.int x):=λJ=>jY _ _ _ _
  have i3:∀J,fB J (ft n x v) (.int 3)=some (.int v):=λJ=>rfl
  refine fN (λτ' J'=>τ'=[some (.ref p),some (ft n x v)]∧Q (.fl []) J') (vH rfl (i0 _)) ?_ ?_
  ·simp_all! [bo,i1,i2,i3]
   exact ⟨dg _ _ _ _,p,L,n,x,v,rfl,b,ok,hT,hl,hc,(λz=>by rw [hg] at z;cases z),(λ_ z=>absurd hb z),(λ_ _ z=>absurd z hn),(λ_ _ _ z=>by omega),λ_ _ _ _ J1 L1 b1 ok1 jn mv=>q J1 L1 b1 ok1 jn mv⟩
  rintro τ' J' ⟨rfl,hq⟩
  refine c8 rfl (i0 _) (by decide +kernel) ?_
  refine c8 rfl (i0 _) (by decide +kernel) ?_
  refine c8 rfl (i0 _) (by decide +kernel) ?_
  simp_all! [i0,K0,if_false]
  exact hq
 ·have i0:∀J,fB J (g6 n v) (.int 0)=some (.str "turn"):=λJ=>dC _ _
  have i1:∀J,fB J (g6 n v) (.int 1)=some (.str n):=λJ=>fM _ _ _
  have i2:∀J,fB J (g6 n v) (.int 2)=some (.int v):=λJ=>jY _ _ _ _
  refine c8 rfl (i0 _) (by decide +kernel) ?_
  refine c8 rfl (i0 _) (by decide +kernel) ?_
  refine fN (λτ' J'=>τ'=[some (.ref p),some (g6 n v)]∧Q (.fl []) J') (vH rfl (i0 _)) ?_ ?_
  ·simp_all! [bo,i1,i2]
   exact ⟨dg _ _ _ _,p,L,n,v,rfl,b,ok,hw,λz=>absurd hn z,λ_ z=>absurd hv z,λ_ _ J1 L1 b1 ok1 e t1 mv=>q J1 L1 b1 ok1 e t1 mv⟩
  rintro τ' J' ⟨rfl,hq⟩
  refine c8 rfl (i0 _) (by decide +kernel) ?_
  simp_all! [i0,K2,if_false]
  exact hq
 ·have i0:∀J,fB J f_ (.int 0)=some (.str "about"):=λJ=>dC _ _
  refine c8 rfl (i0 _) (by decide +kernel) ?_
  refine c8 rfl (i0 _) (by decide +kernel) ?_
  refine c8 rfl (i0 _) (by decide +kernel) ?_
  refine fN (λτ' J'=>τ'=[some (.ref p),some (f_)]∧Q (.fl []) J') (vH rfl (i0 _)) ?_ ?_
  ·simp_all! [bo]
   exact ⟨dg _ _ _ _,p,L,rfl,b,ok,hw,λJ1 L1 b1 ok1 e t1 mv=>q J1 L1 b1 ok1 e t1 mv⟩
  rintro τ' J' ⟨rfl,hq⟩
  simp_all! [i0,KZ,if_false]
  exact hq
 ·have i0:∀J,fB J (fC n) (.int 0)=some (.str "leave"):=λJ=>dC _ _
  have i1:∀J,fB J (fC n) (.int 1)=some (.str n):=λJ=>fM _ _ _
  refine c8 rfl (i0 _) (by decide +kernel) ?_
  refine fN (λτ' J'=>τ'=[some (.ref p),some (fC n)]∧Q (.fl []) J') (vH rfl (i0 _)) ?_ ?_
  ·simp_all! [bo,i1]
   exact ⟨dg _ _ _ _,p,L,n,rfl,b,ok,λz=>absurd hn z,λ_ J1 L1 b1 ok1 e t1 mv=>q J1 L1 b1 ok1 e t1 mv⟩
  rintro τ' J' ⟨rfl,hq⟩
  refine c8 rfl (i0 _) (by decide +kernel) ?_
  refine c8 rfl (i0 _) (by decide +kernel) ?_
  simp_all! [i0,K1,if_false]
  exact hq
 ·have i0:∀J,fB J (Hd m) (.int 0)=some (.str "go"):=λJ=>dC _ _
  have i1:∀J,fB J (Hd m) (.int 1)=some (fr m):=λJ=>fM _ _ _
  refine c8 rfl (i0 _) (by decide +kernel) ?_
  refine c8 rfl (i0 _) (by decide +kernel) ?_
  refine c8 rfl (i0 _) (by decide +kernel) ?_
  refine c8 rfl (i0 _) (by decide +kernel) ?_
  simp_all! [i0,i1,if_true,bo]
  refine ⟨dg _ _ _ _,p,L,m.num,m.den,rfl,b,ok,(λz=>by rw [hg] at z;cases z),λm' e1 e2 _=>?_⟩
  obtain rfl:m'=m:=Rat.ext e1 (by omega)
  exact ⟨λz=>absurd z (Rat.not_lt.mpr hm),λ_ J1 o1 b1 ok1 mv1=>q J1 o1 b1 ok1 mv1⟩
abbrev wM:Stmt:=(top 56)
abbrev jj:List Str:=["_law_row","_law_mode","_law_names_here","_law_used","_law_legs","_law_clock"]
theorem qk:L2.aw ["_law_row","_law_mode","_law_names_here","_law_used","_law_legs","_law_clock","_law_there","_law_fresh","_law_name"] ["_law_row","_law_mode","_law_names_here","_law_used","_law_legs","_law_clock"] (L2.aj wM):=dN
def Et (names used:List Str) (gs:List (Str × aP)) (t:Rat) (dv:PV):Prop :=
 (∃n x v,dv=ft n x v∧n∈names∧n ∉ used∧gs.length < 12∧x.natAbs≤1000000∧v.natAbs≤1000) ∨
 (∃n v,dv=g6 n v∧n∈gs.map (·.1)∧v.natAbs≤1000)∨dv=f_∨(∃n,dv=fC n∧n∈gs.map (·.1))∨∃m,dv=Hd m∧Later t m
def yM (xs:List Str) (r:Int):Str:=(xs[(r % (xs.length:Int)).toNat]?).getD ""
def BD (r0 r1 r2 r3 r4 r5 m:Int) (names used gn:List Str) (t:Rat):PV :=
 if 0 < (names.filter λx=>!decide (x∈used)).length∧gn.length < 12∧(r0 < 3∨gn.length < 2∧r0 < 8) then ft (yM (names.filter λx=>!decide (x∈used)) r1) (wo r2 m) (wc r3 m)
 else if (r0=3∨r0=4)∧0 < gn.length then g6 (yM gn r1) (wc r3 m)
 else if r0=5∧2 < gn.length then fC (yM gn r1)
 else if r0=6 then f_ else Hd (vM t r4 r5 m)
def A8:cF:=λxs J Q _=>∃(r0 r1 r2 r3 r4 r5 m:Int) (names used:List Str) (U D:Addr) (gs:List (Str × aP)) (ep:Nat) (t:Rat),xs=[.fl [.int r0,.int r1,.int r2,.int r3,.int r4,.int r5],.int m,.fl (names.map .str),.ref U,.ref D,fr t]∧J U=some (.lst (used.map .str))∧J D=some (.dct (bJ gs) ep)∧names.length≤40∧gs.length≤100 ∧
 0≤r1∧0≤r2∧0≤r3∧r3 < 2001∧0≤r4∧r4 < 2 ^ 60∧0≤r5∧0≤m∧m < 4∧Sz 900 t∧∀dv,Et names used gs t dv→dv=BD r0 r1 r2 r3 r4 r5 m names used (gs.map (·.1)) t→Q dv J
theorem vG {c:l9} {a u:iX} {D:En} {τ:Sr} {J:Hq} (b:Prop) [Decidable b] (hc:∀R:Bool→Hq→Prop,R (decide b) J→c τ J R) (h1:b→∀N,a { D with nx:=N } τ J) (h2:¬ b→u D τ J):bS (AQ c a rL) u D τ J:=by
 refine hc _ ?_
 by_cases h:b
 ·rw [decide_eq_true h,if_pos rfl];exact h1 h _
 ·rw [decide_eq_false h,if_neg (by decide)];exact h2 h
theorem Jk {R:Bool→Hq→Prop} {b c:Bool} {J:Hq} (h:R b J) (e:b=true↔c=true):R c J:=by rw [← UL.mpr e];exact h
theorem wj {xs:List Str} {r:Int} (h0:0≤r) (hl:0 < xs.length):∃n∈xs,de (xs.map PV.str) (r % (xs.length:Int))=some (.str n)∧n=yM xs r:=by
 obtain ⟨j,hj⟩:∃j:Nat,r % (xs.length:Int)=j:=⟨(r % (xs.length:Int)).toNat,by have:=Int.emod_nonneg r (b:=(xs.length:Int)) (by omega);omega⟩
 have hjl:j < xs.length:=by have:=Int.emod_lt_of_pos r (b:=(xs.length:Int)) (by omega);omega
 exact ⟨xs[j],Uk hjl,by rw [hj];exact bq (by rw [TN,Tz hjl];rfl),by unfold yM;rw [hj,Int.toNat_natCast,Tz hjl];rfl⟩
theorem FV {f:Addr} {fd:FuncData} (F:bZ K "_law_deed" "_law_deed" wM f fd) (Z:bP mg) (El:bp P w K mg base 1 "_law_placed" kD uX) (Bl:bp P w K mg base 1 "_law_paced" lX zk) (Hh:bp P w K mg base 2 "_law_later" lV CA):aL P w K mg base (cV P w) 3 f fd jj (dn K A8):=by
 simp_arith [qk,(ai (aI (i:=6) qk.nd (cZ (qJ rfl) rfl Z.list boot_list (af (rv 4) ag)))
   (ai (MZ (i:=7) (L2.aj wM) ["_law_row","_law_mode","_law_names_here","_law_used","_law_legs","_law_clock","_law_there","_law_fresh","_law_name"] [("_law_used",3)] rfl rfl rfl qk.nd rfl (Or.inl rfl) (dW (rv 2)) (λ_ _ _ _ _ _=>(rv 0)) (λ_ _ _ _ _ _=>(aG B5 (rv 0) (rv 1))))
   (ai (aZ (dR (gy (aG ph (aQ b_ rfl Z.len boot_len (af (rv 7) ag)) ah) (gy (aG iK (aQ b_ rfl Z.len boot_len (af (rv 6) ag)) ah) (fh (dR (kO (aG iK (av ax (rv 0) ah) ah) (gA (dR (gy (aG iK (aQ b_ rfl Z.len boot_len (af (rv 6) ag)) ah) (fh (aG iK (av ax (rv 0) ah) ah))))))))))) (ai (aI (i:=8) qk.nd (av ax (rv 7) (a8 e9 (av ax (rv 0) ah) (aQ b_ rfl Z.len boot_len (af (rv 7) ag)))))
   (ar (aA (cx (af bM (af (rv 8) (af (aS El B hr (af (av ax (rv 0) ah) (af (rv 1) ag))) (af (aS Bl B hr (af (av ax (rv 0) ah) (af (rv 1) ag))) ag)))))))) aK)
   (ai (aZ (dR (gy (aG MB (av ax (rv 0) ah) (cx (af ah (af ah ag)))) (fh (aG ph (aQ b_ rfl Z.len boot_len (af (rv 6) ag)) ah)))) (ar (aA (cx (af bM (af (av ax (rv 6) (a8 e9 (av ax (rv 0) ah) (aQ b_ rfl Z.len boot_len (af (rv 6) ag)))) (af (aS Bl B hr (af (av ax (rv 0) ah) (af (rv 1) ag))) ag)))))) aK)
   (ai (aZ (dR (gy (aG (cQ hr.aU) (av ax (rv 0) ah) ah) (fh (aG ph (aQ b_ rfl Z.len boot_len (af (rv 6) ag)) ah)))) (ar (aA (cx (af bM (af (av ax (rv 6) (a8 e9 (av ax (rv 0) ah) (aQ b_ rfl Z.len boot_len (af (rv 6) ag)))) ag))))) aK)
   (ai (aZ (aG (cQ hr.aU) (av ax (rv 0) ah) ah) (ar (aA (cx (af bM ag)))) aK)
   (ar (aA (cx (af bM (af (aS Hh B hr (af (rv 5) (af (av ax (rv 0) ah) (af (av ax (rv 0) ah) (af (rv 1) ag))))) ag)))))))))))]
 ·obtain ⟨r0,r1,r2,r3,r4,r5,m,names,used,U,D,gs,ep,t,rfl,_⟩:=h;rfl
 obtain ⟨r0,r1,r2,r3,r4,r5,m,names,used,U,D,gs,ep,t,rfl,hU,hD,hnl,hgl,r10,r20,r30,r31,r40,r41,r50,m0,m1,st,q⟩:=h
 have hkv:(bJ gs).map (λkv=>PV.str kv.1)=(gs.map (·.1)).map PV.str:=by unfold bJ;rw [TK,TK];rfl
 refine hX ?_
 simp_all! [hD,hkv,wD]
 obtain ⟨pn,hpn⟩:∃pn:Str→Bool,∀x,pn x=!decide (x∈used):=⟨_,λ_=>rfl⟩
 refine ⟨λx=>match x with | .str s=>pn s | _=>false,id,⟨by rw [Tx];exact Uv hnl (by decide),λJ' sub=>⟨trivial,λx hx=>?_⟩⟩,?_⟩
 ·obtain ⟨s,hs,rfl⟩:=TB.mp hx
  have hU':=sub _ _ hU
  simp_all! [pV]
  refine ⟨⟨s,used,rfl,by show (match J' U with | some (.lst xs)=>some xs | _=>none)=_;rw [hU'],v_ rfl ⟨(hpn s).symm,rfl⟩⟩,λ_=>trivial⟩
 have ef:((names.map PV.str).filter λx=>match x with | .str s=>pn s | _=>false).map id=(names.filter pn).map PV.str:=by rw [List.map_id,Uo];rfl
 rw [ef]
 have hfr:∀n∈names.filter pn,n∈names∧n ∉ used:=λn hn=>by
  obtain ⟨h1,h2⟩:=TU.mp hn
  rw [hpn] at h2
  exact ⟨h1,by simpa using h2⟩
 have epn:pn=λx=>!decide (x∈used):=funext hpn
 unfold BD at q
 rw [← epn] at q
 generalize names.filter pn=fresh at hfr q ⊢
 have gl:(gs.map (·.1)).length=gs.length:=Tx _
 generalize hgn:gs.map (·.1)=gn at gl q ⊢
 rw [gl] at q
 refine hNq _ _ ?_
 clear hNq Nq
 refine vG (0 < fresh.length∧gs.length < 12∧(r0 < 3∨gs.length < 2∧r0 < 8)) (λR hR=>?_) (λhb N=>?_) (λhb=>?_)
 ·simp_arith! [bS,Tx]
  (repeat' (first | split | simp_arith! [bS,Tx])) <;> exact Jk hR (by simp only [decide_eq_true_eq,T2,eq_self,iff_true,iff_false];omega)
 ·obtain ⟨n,hn,ha,en⟩:=wj r10 hb.1
  rw [if_pos hb] at q
  simp_all! [Tx,ha]
  refine ⟨by omega,?_⟩
  simp_all! []
  refine ⟨r2,m,rfl,r20,λx hx ex=>⟨r3,m,rfl,r30,r31,λv hv ev=>?_⟩⟩
  exact q _ (.inl ⟨n,x,v,rfl,(hfr n hn).1,(hfr n hn).2,hb.2.1,hx,hv⟩) (by rw [en,ex,ev];rfl)
 rw [if_neg hb] at q
 clear hb
 refine vG ((r0=3∨r0=4)∧0 < gs.length) (λR hR=>?_) (λhb N=>?_) (λhb=>?_)
 ·simp_all! [Tx]
  refine ⟨r0,[3,4],rfl,rfl,v_ rfl ?_⟩
  (repeat' (first | split | simp_arith! [bS,Tx])) <;> exact Jk hR (by simp only [decide_eq_true_eq,T2,id_eq,TX,Ua,or_false,eq_self,iff_true,iff_false] at *;omega)
 ·obtain ⟨n,hn,ha,en⟩:=wj (xs:=gn) r10 (by omega)
  rw [if_pos hb] at q
  simp_all! [Tx,ha]
  refine ⟨by omega,?_⟩
  simp_all! []
  refine ⟨r3,m,rfl,r30,r31,λv hv ev=>?_⟩
  exact q _ (.inr (.inl ⟨n,v,rfl,by rw [hgn];exact hn,hv⟩)) (by rw [en,ev];rfl)
 rw [if_neg hb] at q
 clear hb
 refine vG (r0=5∧2 < gs.length) (λR hR=>?_) (λhb N=>?_) (λhb=>?_)
 ·simp_arith! [bS,Tx]
  (repeat' (first | split | simp_arith! [bS,Tx])) <;> exact Jk hR (by simp only [decide_eq_true_eq,T2,eq_self,iff_true,iff_false];omega)
 ·obtain ⟨n,hn,ha,en⟩:=wj (xs:=gn) r10 (by omega)
  rw [if_pos hb] at q
  simp_all! [Tx,ha]
  exact ⟨by omega,q _ (.inr (.inr (.inr (.inl ⟨n,rfl,by rw [hgn];exact hn⟩)))) (by rw [en];rfl)⟩
 rw [if_neg hb] at q
 clear hb
 refine vG (r0=6) (λR hR=>?_) (λhb N=>?_) (λhb=>?_)
 ·simp_arith! [bS]
  exact Jk hR (by simp only [decide_eq_true_eq,T2])
 ·simp_all! []
  rw [if_pos hb] at q
  exact q _ (.inr (.inr (.inl rfl))) rfl
 rw [if_neg hb] at q
 simp_all! []
 exact ⟨t,r4,r5,m,rfl,r40,r50,m0,m1,r41,st,λm' hm' em'=>q _ (.inr (.inr (.inr (.inr ⟨m',rfl,hm'⟩)))) (by rw [em'];rfl)⟩
theorem Fb {m:Rat} (h0:0≤m) (hd:m.den≤60) (h1:m.num≤1000000 * (m.den:Int)):iG m.num m.den=true:=by
 refine decide_eq_true ⟨by omega,by have:=m.den_pos;omega,?_,Rat.num_nonneg.mpr h0,h1⟩
 have:=m.reduced
 unfold Int.gcd
 exact this
theorem Ds {c q:Rat} (h:Later c q) (hc:c.den≤60):q.den≤60:=by
 rcases h with rfl | ⟨u,s,u0,u1,s0,s1,rfl⟩
 ·exact hc
 ·have:=vE (t:=(c.num * (u:Int)).fdiv (c.den:Int) + (s:Int)) (b:=(u:Int)) (by omega)
  omega
theorem LZ {q:Rat}:q.num≤1000000 * (q.den:Int)↔q≤1000000:=by
 rw [Rat.le_iff]
 have h3:(1000000:Rat).num=1000000:=rfl
 have h4:((1000000:Rat).den:Int)=1:=rfl
 rw [h3,h4]
 omega
abbrev A3:Stmt:=(top 62)
abbrev nA:List Str:=["_law_lane","_law_names_here","_law_cells","_law_mode"]
theorem gZ:L2.aw ["_law_lane","_law_names_here","_law_cells","_law_mode","_law_legs","_law_used","_law_clock","_law_cell_here","_law_row","_law_deed_here"] ["_law_lane","_law_names_here","_law_cells","_law_mode"] (L2.aj A3):=dN
structure Wk (cN cL:Addr) (J0:Hq) (S0:Addr→Prop) (J:Hq) (p:Addr) (L:Ln) (D U:Addr) (gs:List (Str × aP)) (ep:Nat) (used:List Str) (k:Nat):Prop where
 b:aX cN cL J p L
 ok:bU L
 rl:Rl L gs
 hD:J D=some (.dct (bJ gs) ep)
 hU:J U=some (.lst (used.map .str))
 nD:¬ L.own p D
 nU:¬ L.own p U
 mv:Mv J0 J S0 (λa=>L.own p a∨a=D∨a=U)
 td:L.t.den≤60
 tl:L.t≤((500 * k:Nat):Rat)
 wl:∀c∈L.cs,c.w.length≤1 + k
theorem Rl.go {L:Ln} {gs:List (Str × aP)} (h:Rl L gs) {m:Rat} (hm:L.t≤m) {o:Addr} {row:List Str}:Rl { L with t:=m,o:=o,row:=row } gs:=⟨h.nm,h.ln,h.ck,λx hx=>Rat.le_trans (h.le x hx) hm,h.ct⟩
theorem Fv {c q:Rat} (h:Later c q) (c0:0≤c):q≤c + 500:=by
 rcases h with rfl | ⟨u,s,u0,u1,s0,s1,rfl⟩
 ·grind
 rw [Rat.divInt_eq_div]
 have hu:(0:Rat) < ((u:Int):Rat):=by exact_mod_cast (show (0:Int) < u by omega)
 have h1:((s:Int):Rat)≤500 * ((u:Int):Rat):=by exact_mod_cast (show (s:Int)≤500 * u by omega)
 have hd:(0:Rat) < ((c.den:Int):Rat):=by exact_mod_cast (show (0:Int) < c.den by have:=c.den_pos;omega)
 have h2:((((c.num * (u:Int)).fdiv (c.den:Int)):Int):Rat)≤c * ((u:Int):Rat):=by
  have e1:(c.num * (u:Int)).fdiv (c.den:Int) * (c.den:Int)≤c.num * u:=by
   rw [Int.fdiv_eq_ediv_of_nonneg _ (by omega)]
   exact Int.ediv_mul_le _ (by have:=c.den_pos;omega)
  have e2:((((c.num * (u:Int)).fdiv (c.den:Int)):Int):Rat) * ((c.den:Int):Rat)≤(c.num:Rat) * ((u:Int):Rat):=by
   rw [← Rat.intCast_mul,← Rat.intCast_mul];exact Rat.intCast_le_intCast.mpr e1
  have e3:(c.num:Rat)=c * ((c.den:Int):Rat):=cast_eq c
  rw [e3] at e2
  generalize ((((c.num * (u:Int)).fdiv (c.den:Int)):Int):Rat)=x at e2 ⊢
  generalize ((c.den:Int):Rat)=y at e2 hd
  generalize ((u:Int):Rat)=z at e2 ⊢
  by_cases k:c * z < x
  ·have:0 < (x - c * z) * y:=Rat.mul_pos (by grind) hd
   grind
  ·grind
 rw [Rat.intCast_add]
 generalize ((((c.num * (u:Int)).fdiv (c.den:Int)):Int):Rat)=a at h2 ⊢
 generalize ((s:Int):Rat)=x at h1 ⊢
 generalize ((u:Int):Rat)=y at h1 h2 hu ⊢
 have e:(a + x) / y * y=a + x:=by grind
 generalize (a + x) / y=z at e ⊢
 by_cases k:c + 500 < z
 ·have:0 < (z - (c + 500)) * y:=Rat.mul_pos (by grind) hu
  grind
 ·grind
section
variable {cN cL:Addr} {J0 J:Hq} {S0:Addr→Prop} {p:Addr} {L:Ln} {D U:Addr} {gs:List (Str × aP)} {ep:Nat} {used:List Str} {k:Nat}
theorem Wk.ne (h:Wk cN cL J0 S0 J p L D U gs ep used k):U≠D:=λe=>by have:=h.hU;rw [e,h.hD] at this;cases this
theorem Wk.kept (h:Wk cN cL J0 S0 J p L D U gs ep used k) {T:Addr} {o:HQ} (hT:J0 T=some o) (nT:¬ S0 T):J T=some o:=h.mv.keep _ _ hT nT
theorem Wk.next (h:Wk cN cL J0 S0 J p L D U gs ep used k) {J1:Hq} {L1:Ln} {gs1:List (Str × aP)} {k1:Nat} (b1:aX cN cL J1 p L1) (ok1:bU L1) (mv:Mv J J1 (L.own p) (L1.own p)) (rl1:Rl L1 gs1) (td:L1.t.den≤60) (tl:L1.t≤((500 * k1:Nat):Rat)) (wl:∀c∈L1.cs,c.w.length≤1 + k1) (ep':Nat):Wk cN cL J0 S0 (put J1 D (.dct (bJ gs1) ep')) p L1 D U gs1 ep' used k1:=by
 have new:∀{x o},J x=some o→¬ L.own p x→¬ L1.own p x:=λhx nx z=>by
  rcases mv.own _ z with q | q
  ·exact nx q
  ·rw [hx] at q;cases q
 have nD1:=new h.hD h.nD
 have hD1:=mv.keep _ _ h.hD h.nD
 have hU1:=mv.keep _ _ h.hU h.nU
 have mv1:Mv J J1 (λa=>L.own p a∨a=D∨a=U) (λa=>L1.own p a∨a=D∨a=U) :=
  ⟨λa o e n=>mv.keep a o e λz=>n (.inl z),λa z=>z.elim (λz=>(mv.own a z).imp .inl id) (λz=>.inl (.inr z)),mv.mono⟩
 refine ⟨b1.keep λa u ow e=>?_,ok1,rl1,aq,?_,nD1,new h.hU h.nU,(h.mv.trans mv1).trans (gj (.inr (.inl rfl)) λa z=>.inl z),td,tl,wl⟩
 ·rw [ak (λz=>by subst z;exact nD1 ow)];exact e
 ·rw [ak h.ne];exact hU1
theorem Wk.push (h:Wk cN cL J0 S0 J p L D U gs ep used k) (n:Str):Wk cN cL J0 S0 (put J U (.lst ((used ++ [n]).map .str))) p L D U gs ep (used ++ [n]) k:=by
 refine ⟨h.b.keep λa u ow e=>?_,h.ok,h.rl,?_,aq,h.nD,h.nU,h.mv.trans (gj (.inr (.inr rfl)) λa z=>.inl z),h.td,h.tl,h.wl⟩
 ·rw [ak (λz=>by subst z;exact h.nU ow)];exact e
 ·rw [ak (λe=>h.ne e.symm)];exact h.hD
theorem Wk.up (h:Wk cN cL J0 S0 J p L D U gs ep used k):Sz 900 L.t∧(gs.map (·.1)).Nodup∧gs.length≤12∧∀x∈gs,sH 900 x.2 :=
 ⟨h.ok.Ng,h.rl.nd h.ok.toba,by rw [h.rl.len];exact h.ok.N6,λx hx=>(h.rl.sz x hx).mono (by decide)⟩
end
theorem Aq {q:Rat} {k:Nat} (hk:k≤2000) (h:q≤((500 * k:Nat):Rat)):q≤1000000:=by
 refine Rat.le_trans h ?_
 have:((500 * k:Nat):Rat)≤((1000000:Nat):Rat):=by exact_mod_cast (show 500 * k≤1000000 by omega)
 exact this
theorem CK {a b:Rat} {k:Nat} (h:b≤a + 500) (ha:a≤((500 * k:Nat):Rat)):b≤((500 * (k + 1):Nat):Rat):=by
 have e:((500 * (k + 1):Nat):Rat)=((500 * k:Nat):Rat) + 500:=by
  rw [show 500 * (k + 1)=500 * k + 500 by omega];exact Rat.natCast_add _ _
 rw [e];grind
theorem JB {a:Rat} {k:Nat} (ha:a≤((500 * k:Nat):Rat)):a≤((500 * (k + 1):Nat):Rat):=CK (a:=a) (by grind) ha
abbrev Face:=Str × List aP × Option Rat
structure sI where
 t:Rat
 fc:List Face
 gs:List (Str × aP)
 us:List Str
def eg (L:Ln) (gs:List (Str × aP)) (us:List Str):sI:=⟨L.t,L.cs.map Cf.face,gs,us⟩
def lN (dv:PV) (s:sI):sI :=
 match dv with
 | .tup [.str _,.str n,.int x,.int v]=>⟨s.t,s.fc ++ [(n,[⟨s.t,(x:Rat),v⟩],none)],s.gs ++ [(n,⟨s.t,(x:Rat),v⟩)],s.us ++ [n]⟩
 | .tup [.str _,.str n,.int v]=>⟨s.t,s.fc.map λf=>if f.1=n then (f.1,turned f.2.1 s.t v,f.2.2) else f,pF n s.t v s.gs,s.us⟩
 | .tup [.str _]=>⟨s.t,s.fc.map λf=>if f.2.2.isNone=true then (f.1,turned f.2.1 s.t (-(f.2.1.getLast?.getD ⟨0,0,0⟩).v),f.2.2) else f,b9 s.t s.gs,s.us⟩
 | .tup [.str _,.str n]=>⟨s.t,s.fc.map λf=>if f.1=n then (f.1,f.2.1,some s.t) else f,j6 n s.gs,s.us⟩
 | .tup [.str _,.tup [.int a,.int b]]=>⟨Rat.divInt a b,s.fc,s.gs,s.us⟩
 | _=>s
section
variable {L L1:Ln} {gs:List (Str × aP)} {us:List Str} {n:Str} {v:Int}
theorem IA {x:Int} (j:L.joined n x v L1):eg L1 (gs ++ [(n,⟨L.t,(x:Rat),v⟩)]) (us ++ [n])=lN (ft n x v) (eg L gs us):=by
 obtain ⟨a,r,ecs,et⟩:=j
 show sI.mk _ _ _ _=sI.mk _ _ _ _
 rw [et,ecs,TM];rfl
theorem iI {f:Cf→Cf} {F:Face→Face} (h:∀c,(f c).face=F c.face) (cs:List Cf):(cs.map f).map Cf.face=(cs.map Cf.face).map F:=by
 rw [TK,TK];exact TZ λc _=>h c
theorem IB (e:L1.cs=L.cs.map (cK n L.t v)) (t1:L1.t=L.t):eg L1 (pF n L.t v gs) us=lN (g6 n v) (eg L gs us):=by
 show sI.mk _ _ _ _=sI.mk _ _ _ _
 rw [t1,e,iI (F:=λf=>if f.1=n then (f.1,turned f.2.1 L.t v,f.2.2) else f) (λc=>by unfold cK Cf.face;by_cases h:c.n=n <;> simp [h,Cf.turn])];rfl
theorem FO (e:L1.cs=L.cs.map (cO L.t)) (t1:L1.t=L.t):eg L1 (b9 L.t gs) us=lN f_ (eg L gs us):=by
 show sI.mk _ _ _ _=sI.mk _ _ _ _
 rw [t1,e,iI (F:=λf=>if f.2.2.isNone=true then (f.1,turned f.2.1 L.t (-(f.2.1.getLast?.getD ⟨0,0,0⟩).v),f.2.2) else f) (λc=>by unfold cO Cf.face;by_cases h:c.g.isNone=true <;> simp [h,Cf.turn,Cf.cur])];rfl
theorem FP (e:L1.cs=L.cs.map (bF n L.t)) (t1:L1.t=L.t):eg L1 (j6 n gs) us=lN (fC n) (eg L gs us):=by
 show sI.mk _ _ _ _=sI.mk _ _ _ _
 rw [t1,e,iI (F:=λf=>if f.1=n then (f.1,f.2.1,some L.t) else f) (λc=>by unfold bF Cf.face;by_cases h:c.n=n <;> simp [h])];rfl
theorem OH {m:Rat} {o:Addr} {row:List Str}:eg { L with t:=m,o:=o,row:=row } gs us=lN (Hd m) (eg L gs us):=by
 show sI.mk m _ _ _=sI.mk (Rat.divInt m.num m.den) _ _ _
 rw [Rat.num_divInt_den];rfl
end
def yT (m:Int) (names:List Str):List Int→sI→sI
 | [],s=>s
 | c :: cs,s=>yT m names cs (match x4 c [10,97,2000001,2001,400000,60] with
  | [r0,r1,r2,r3,r4,r5]=>lN (BD r0 r1 r2 r3 r4 r5 m names s.us (s.gs.map (·.1)) s.t) s
  | _=>s)
theorem uU (m:Int) (names:List Str) (c:Int):∀(cs:List Int) (s:sI),yT m names (cs ++ [c]) s=yT m names [c] (yT m names cs s)
 | [],_=>rfl
 | x :: cs,s=>uU m names c cs _
theorem GC {m c r0 r1 r2 r3 r4 r5:Int} {names:List Str} {s:sI} (h:[r0,r1,r2,r3,r4,r5]=x4 c [10,97,2000001,2001,400000,60]):yT m names [c] s=lN (BD r0 r1 r2 r3 r4 r5 m names s.us (s.gs.map (·.1)) s.t) s:=by
 simp only [yT]
 rw [← h]
def HE:List aP→Prop
 | a :: b :: r=>(a.m≠b.m∧a.v≠b.v)∧HE (b :: r)
 | _=>True
theorem kj:∀(ls:List aP) (l:aP),HE (ls ++ [l])↔HE ls∧∀k,ls.getLast?=some k→k.m≠l.m∧k.v≠l.v
 | [],l=>⟨λ_=>⟨trivial,λk h=>nomatch h⟩,λ_=>trivial⟩
 | [a],l=>⟨λh=>⟨trivial,λk e=>by cases e;exact h.1⟩,λh=>⟨h.2 a rfl,trivial⟩⟩
 | a :: b :: r,l=>by
  have ih:=kj (b :: r) l
  show ((a.m≠b.m∧a.v≠b.v)∧HE ((b :: r) ++ [l]))↔_
  rw [ih,VE]
  constructor
  ·rintro ⟨h1,h2,h3⟩;exact ⟨⟨h1,h2⟩,h3⟩
  ·rintro ⟨⟨h1,h2⟩,h3⟩;exact ⟨h1,h2,h3⟩
theorem rb {w:List aP} {t:Rat} {v:Int} (h:HE w) (ne:w≠[]):HE (turned w t v):=by
 obtain ⟨ls,l,rfl⟩:∃ls l,w=ls ++ [l]:=⟨w.dropLast,w.getLast ne,(T_ ne).symm⟩
 obtain ⟨h1,h2⟩:=(kj ls l).mp h
 rw [bR]
 split
 ·rename_i e
  split
  ·exact h1
  ·rename_i n
   refine (kj _ _).mpr ⟨h1,λk hk=>⟨by show k.m≠t;rw [← e];exact (h2 k hk).1,λz=>n ?_⟩⟩
   rw [hk];exact congrArg some z
 ·rename_i e
  split
  ·exact h
  ·rename_i n
   refine (kj _ _).mpr ⟨h,λk hk=>?_⟩
   rw [T1] at hk
   cases hk
   exact ⟨e,n⟩
theorem zp {w:List aP} {t:Rat} {l0:aP} (h:HE w) (hc:sT w) (hl:w.getLast?=some l0):turned (turned w t (-l0.v)) t l0.v=w:=by
 have ne:w≠[]:=λz=>by rw [z] at hl;cases hl
 obtain ⟨ls,l,rfl⟩:∃ls l,w=ls ++ [l]:=⟨w.dropLast,w.getLast ne,(T_ ne).symm⟩
 rw [T1] at hl
 have hl:=Option.some.inj hl
 subst hl
 obtain ⟨h1,h2⟩:=(kj ls l).mp h
 obtain ⟨c1,c2⟩:=(iB ls l).mp hc
 rw [bR ls l]
 by_cases e:l.m=t
 ·subst e
  have el:(⟨l.m,l.p,l.v⟩:aP)=l:=rfl
  rw [if_pos rfl]
  by_cases n:ls.getLast?.map aP.v=some (-l.v)
  ·rw [if_pos n]
   obtain ⟨k,hk,hv⟩:=U'.mp n
   have nl:ls≠[]:=λz=>by rw [z] at hk;cases hk
   obtain ⟨ks,k',rfl⟩:∃ks k',ls=ks ++ [k']:=⟨ls.dropLast,ls.getLast nl,(T_ nl).symm⟩
   rw [T1] at hk
   cases hk
   have h3:=h2 k (T1 ..)
   rw [bR,if_neg h3.1,if_neg h3.2,← c2 k (T1 ..)]
  ·rw [if_neg n,bR,if_pos rfl]
   have n2:¬ ls.getLast?.map aP.v=some l.v:=λz=>by
    obtain ⟨k,hk,hv⟩:=U'.mp z
    exact (h2 k hk).2 hv
   rw [if_neg n2]
   congr 1
   have e1:(⟨l.m,l.at l.m,-l.v⟩:aP).at l.m=l.p:=by rw [vA l];exact vA ⟨l.m,l.p,-l.v⟩
   rw [e1]
 ·rw [if_neg e]
  by_cases n:l.v=-l.v
  ·rw [if_pos n,bR,if_neg e,if_pos rfl]
  ·rw [if_neg n,bR,if_pos rfl,if_pos (by rw [T1];rfl)]
def C9 (fc:List Face):Prop:=∀f∈fc,HE f.2.1∧f.2.1≠[]
theorem FN (dv:PV) {s:sI} (h:C9 s.fc):C9 (lN dv s).fc:=by
 have hmap:∀F:Face→Face,(∀f∈s.fc,HE (F f).2.1∧(F f).2.1≠[])→C9 (s.fc.map F):=λF k f hf=>by
  obtain ⟨g,hg,rfl⟩:=TB.mp hf
  exact k g hg
 unfold lN
 split
 ·intro f hf
  rcases TQ.mp hf with hf | hf
  ·exact h f hf
  ·rw [TR] at hf;subst hf;exact ⟨trivial,by simp⟩
 ·refine hmap _ λf hf=>?_
  split
  ·exact ⟨rb (h f hf).1 (h f hf).2,lH (h f hf).2⟩
  ·exact h f hf
 ·refine hmap _ λf hf=>?_
  split
  ·exact ⟨rb (h f hf).1 (h f hf).2,lH (h f hf).2⟩
  ·exact h f hf
 ·refine hmap _ λf hf=>?_
  split
  ·exact h f hf
  ·exact h f hf
 ·exact h
 ·exact h
theorem H0 {n:Str} (hg:good n=true):n.length≤sizeLine:=by
 have h8:n.cps.size≤8:=by
  unfold good at hg
  rw [Ud,Ud] at hg
  exact of_decide_eq_true hg.1.2
 exact T4 h8 (by decide)
theorem vc {cN cL T p D U:Addr} {J0 J:Hq} {S0:Addr→Prop} {L:Ln} {gs:List (Str × aP)} {ep:Nat} {used names:List Str} {i:Nat} {dv:PV} {E2:Addr→Hq→Prop} {Dn:En} {τ:Sr} {iL iU iD iC iV:Nat}
  (hL:τ[iL]?=some (some (.ref p))) (hU:τ[iU]?=some (some (.ref U))) (hDt:τ[iD]?=some (some (.ref D))) (hC:τ[iC]?=some (some (fr L.t))) (hV:τ[iV]?=some (some dv))
  (wk:Wk cN cL J0 S0 J p L D U gs ep used i) (hun:L.cs.map Cf.n=used) (hus:∀n∈used,n∈names) (hul:used.length≤i) (hi:i < 90) (hng:∀n∈names,good n=true) (hT:J0 T=some .tab) (nT:¬ S0 T) (hdv:Et names used gs L.t dv)
  (fin:∀J1 L1 gs1 ep1 used1 t1,L1.t=t1→Wk cN cL J0 S0 J1 p L1 D U gs1 ep1 used1 (i + 1)→L1.cs.map Cf.n=used1→(∀n∈used1,n∈names)→used1.length≤i + 1→eg L1 gs1 used1=lN dv (eg L gs used)→Dn.nx (τ.set iC (some (fr t1))) J1) :
  Gu (AQ (rB (xE (Kz id) (xE KA (jm iV) (rC (.int 0))) (rC (.str "join")))) (Ck (RM "list" wB (jm iU) (kL (xE KA (jm iV) (rC (.int 1))) ub))) rL)
   (bS (Ck (yR (xh cN cL T) E2 (kL (jm iL) (kL (jm iV) ub)))) (ua (yR ql E2 (kL (jm iD) (kL (jm iC) (kL (jm iV) ub)))) (HV iC))) Dn τ J:=by
 obtain ⟨st,gnd,gl,gsz⟩:=wk.up
 have hT':∀{J1:Hq} {L1 gs1 ep1 us k1},Wk cN cL J0 S0 J1 p L1 D U gs1 ep1 us k1→J1 T=some .tab:=λwk'=>wk'.kept hT nT
 have hw200:∀c∈L.cs,c.w.length < 200:=λc hc=>by have:=wk.wl c hc;omega
 have tl1:L.t≤((500 * (i + 1):Nat):Rat):=JB wk.tl
 have hfl:L.fs.length=gs.length:=wk.rl.len.symm
 have hrow:∀n,n∈gs.map (·.1)→n∈L.row:=λn hn=>(wk.ok.rm n).mpr (by rw [← wk.rl.nm];exact hn)
 rcases hdv with ⟨n,x,v,rfl,hn,hnu,hgl,hx,hv⟩ | ⟨n,v,rfl,hn,hv⟩ | rfl | ⟨n,rfl,hn⟩ | ⟨m',rfl,hm'⟩
 ·have i0:∀J,fB J (ft n x v) (.int 0)=some (.str "join"):=λJ=>dC _ _
  have i1:∀J,fB J (ft n x v) (.int 1)=some (.str n):=λJ=>fM _ _ _
  refine fN (λτ' J2=>τ'=τ∧J2=put J U (.lst ((used ++ [n]).map .str))) (vH hV (i0 _)) ?_ ?_
  ·simp_all! [hU,hV,i1,wk.hU,Tx]
   exact ⟨T3 (show used.length < 100 by omega) (by decide),by rw [TM];rfl⟩
  rintro τ' J2 ⟨rfl,rfl⟩
  have wk2:=wk.push n
  generalize put J U (.lst ((used ++ [n]).map .str))=J2 at wk2 ⊢
  have hnc:n ∉ L.cs.map Cf.n:=by rw [hun];exact hnu
  have hcl':L.cs.length < 100:=by have:=congrArg UG hun;rw [Tx] at this;omega
  have hnf:n ∉ L.fs.map (·.1):=λz=>hnc (by
   rw [er,TB] at z
   obtain ⟨c',hc',e'⟩:=z
   exact TB.mpr ⟨c',(Ln.c7.mp hc').1,e'⟩)
  simp_all! [hL,hDt,hC,hV]
  refine ⟨p,L,_,rfl,wk2.b,wk2.ok,.inl ⟨n,x,v,rfl,hT' wk2,hng n hn,⟨hx,hv⟩,hnc,by rw [wk.ok.row,yI];omega,hcl',H0 (hng n hn),λJ3 L3 b3 ok3 jn mv3=>?_⟩⟩
  have rl3:=wk2.rl.join ok3.toba hv hx jn wk.ok.t0 wk.ok.ts hnf
  have nxj:=IA (gs:=gs) (us:=used) jn
  obtain ⟨a,r,ecs,et⟩:=jn
  simp_all! [hL,hDt,hC,hV]
  refine ⟨D,gs,ep,L.t,_,rfl,mv3.keep _ _ wk2.hD wk2.nD,gnd,by omega,st,gsz,.inl ⟨n,x,v,rfl,by rw [wk.rl.nm];exact hnf,λep'=>?_⟩⟩
  refine fin _ L3 _ ep' (used ++ [n]) _ et (wk2.next b3 ok3 mv3 rl3 (by rw [et];exact wk.td) (by rw [et];exact tl1) (λc hc=>?_) ep') ?_ (λy hy=>?_) (by rw [T7];show used.length + 1≤_;omega) nxj
  ·rw [ecs] at hc
   rcases TQ.mp hc with hc | hc
   ·have:=wk.wl c hc;omega
   ·rw [TR] at hc;subst hc;show 1≤_;omega
  ·rw [ecs,TM,hun];rfl
  ·rcases TQ.mp hy with hy | hy
   ·exact hus y hy
   ·rw [TR] at hy;subst hy;exact hn
 ·have i0:∀J,fB J (g6 n v) (.int 0)=some (.str "turn"):=λJ=>dC _ _
  refine c8 hV (i0 _) (by decide +kernel) ?_
  simp_all! [hL,hDt,hC,hV]
  refine ⟨p,L,_,rfl,wk.b,wk.ok,.inr (.inl ⟨n,v,rfl,hrow n hn,hv,hw200,λJ3 L3 b3 ok3 e t1 mv3=>?_⟩)⟩
  simp_all! [hL,hDt,hC,hV]
  refine ⟨D,gs,ep,L.t,_,rfl,mv3.keep _ _ wk.hD wk.nD,gnd,by omega,st,gsz,.inr (.inl ⟨n,v,rfl,hn,λep'=>?_⟩)⟩
  refine fin _ L3 _ ep' used _ t1 (wk.next b3 ok3 mv3 (wk.rl.turn wk.ok.toba hv e t1) (by rw [t1];exact wk.td) (by rw [t1];exact tl1) (λc hc=>?_) ep') (by rw [e,dO (λc=>(n6 n L.t v c).1)];exact hun) hus (by omega) (IB e t1)
  rw [e] at hc
  obtain ⟨c0,h0,rfl⟩:=TB.mp hc
  have h1:=wk.wl c0 h0
  unfold cK
  split
  ·have:=jH c0.w L.t v
   show (turned c0.w L.t v).length≤_
   omega
  ·omega
 ·have i0:∀J,fB J f_ (.int 0)=some (.str "about"):=λJ=>dC _ _
  refine c8 hV (i0 _) (by decide +kernel) ?_
  simp_all! [hL,hDt,hC,hV]
  refine ⟨p,L,_,rfl,wk.b,wk.ok,.inr (.inr (.inl ⟨rfl,hw200,λJ3 L3 b3 ok3 e t1 mv3=>?_⟩))⟩
  simp_all! [hL,hDt,hC,hV]
  refine ⟨D,gs,ep,L.t,_,rfl,mv3.keep _ _ wk.hD wk.nD,gnd,by omega,st,gsz,.inr (.inr (.inl ⟨rfl,λep'=>?_⟩))⟩
  refine fin _ L3 _ ep' used _ t1 (wk.next b3 ok3 mv3 (wk.rl.about wk.ok.toba e t1) (by rw [t1];exact wk.td) (by rw [t1];exact tl1) (λc hc=>?_) ep') (by rw [e,dO (λc=>(qF L.t c).1)];exact hun) hus (by omega) (FO e t1)
  rw [e] at hc
  obtain ⟨c0,h0,rfl⟩:=TB.mp hc
  have h1:=wk.wl c0 h0
  unfold cO
  split
  ·have:=jH c0.w L.t (-c0.cur.v)
   show (turned c0.w L.t (-c0.cur.v)).length≤_
   omega
  ·omega
 ·have i0:∀J,fB J (fC n) (.int 0)=some (.str "leave"):=λJ=>dC _ _
  refine c8 hV (i0 _) (by decide +kernel) ?_
  simp_all! [hL,hDt,hC,hV]
  refine ⟨p,L,_,rfl,wk.b,wk.ok,.inr (.inr (.inr (.inl ⟨n,rfl,hrow n hn,λJ3 L3 b3 ok3 e t1 mv3=>?_⟩)))⟩
  simp_all! [hL,hDt,hC,hV]
  refine ⟨D,gs,ep,L.t,_,rfl,mv3.keep _ _ wk.hD wk.nD,gnd,by omega,st,gsz,.inr (.inr (.inr (.inl ⟨n,rfl,hn,λep'=>?_⟩)))⟩
  refine fin _ L3 _ ep' used _ t1 (wk.next b3 ok3 mv3 (wk.rl.leave e t1) (by rw [t1];exact wk.td) (by rw [t1];exact tl1) (λc hc=>?_) ep') (by rw [e,dO (λc=>(fu n L.t c).1)];exact hun) hus (by omega) (FP e t1)
  rw [e] at hc
  obtain ⟨c0,h0,rfl⟩:=TB.mp hc
  have h1:=wk.wl c0 h0
  rw [(fu n L.t c0).2.2.2];omega
 ·have i0:∀J,fB J (Hd m') (.int 0)=some (.str "go"):=λJ=>dC _ _
  refine c8 hV (i0 _) (by decide +kernel) ?_
  have tl3:=CK (Fv hm' wk.ok.t0) wk.tl
  have td3:=Ds hm' wk.td
  have hg:iG m'.num m'.den=true:=Fb (Rat.le_trans wk.ok.t0 (hm'.le)) td3 (LZ.mpr (Aq (by omega) tl3))
  simp_all! [hL,hDt,hC,hV]
  refine ⟨p,L,_,rfl,wk.b,wk.ok,.inr (.inr (.inr (.inr ⟨m',rfl,hg,hm'.le,λJ3 o3 b3 ok3 mv3=>?_⟩)))⟩
  simp_all! [hL,hDt,hC,hV]
  have hD3:=mv3.keep _ _ wk.hD wk.nD
  refine ⟨D,gs,ep,L.t,_,rfl,hD3,gnd,by omega,st,gsz,.inr (.inr (.inr (.inr ⟨m',rfl,?_⟩)))⟩
  have w3:=wk.next b3 ok3 mv3 (wk.rl.go hm'.le) td3 tl3 (λc hc=>by have:=wk.wl c hc;omega) ep
  rw [AO hD3] at w3
  exact fin _ _ _ ep used _ rfl w3 hun hus (by omega) OH
def GR (cN cL T:Addr):cF:=λxs J Q _=>∃(p:Addr) (L0:Ln) (names:List Str) (cells:List Int) (m:Int),xs=[.ref p,.fl (names.map .str),.fl (cells.map .int),.int m]∧aX cN cL J p L0∧bU L0∧L0.cs=[]∧L0.t=0∧J T=some .tab∧names.length≤40∧(∀n∈names,good n=true)∧cells.length≤40∧0≤m∧m < 4 ∧
 ∀J' L D U gs ep used,Wk cN cL J (L0.own p) J' p L D U gs ep used cells.length→L.cs.map Cf.n=used→(∀n∈used,n∈names)→used.length≤cells.length→C9 (L.cs.map Cf.face)→Q (.tup [.ref D,fr L.t,.ref U]) J'
theorem FZ {cN cL T f:Addr} {fd:FuncData} (F:bZ K "_law_walk" "_law_walk" A3 f fd) (Z:bP mg) (c9:bp P w K mg base 1 "_law_digits" cj xg) (zA:bp P w K mg base 3 "_law_deed" jj A8) (zB:bp P w K mg base 9 "_law_done" jk (xh cN cL T)) (vd:bp P w K mg base 3 "_law_acted" ia ql):aL P w K mg base (cV P w) 10 f fd nA (dn K (GR cN cL T)):=by
 simp_arith [gZ,(ai (aI (i:=4) gZ.nd Co)
   (ai (aI (i:=5) gZ.nd (oN ag))
   (ai (aI (i:=6) gZ.nd (cx (af ah (af ah ag))))
   (ai (fe cy rfl (dW (rv 2)) (bA (i:=7) gZ.nd) (ai (aI (i:=8) gZ.nd (aS c9 B hr (af (rv 7) (af (uR (AR [.int 10,.int 97,.int 2000001,.int 2001,.int 400000,.int 60] rfl [.int 10,.int 97,.int 2000001,.int 2001,.int 400000,.int 60] rfl)) ag))))
   (ai (aI (i:=9) gZ.nd (aS zA B hr (af (rv 8) (af (rv 3) (af (rv 1) (af (rv 5) (af (rv 4) (af (rv 6) ag))))))))
   (dw (aZ (aG (cQ hr.aU) (av ax (rv 9) ah) bM) (ar (a7 (nE PySem.F.plainAttrs_list PySem.F.slot_list_append PySem.F.type_list_append lj (rv 5) (af (av ax (rv 9) ah) ag)))) aK)
   (ai (a7 (aS zB B hr (af (rv 0) (af (rv 9) ag))))
   (ar (aI (i:=6) gZ.nd (aS vd B hr (af (rv 4) (af (rv 6) (af (rv 9) ag)))))))))))
   (ar (aA (cx (af (rv 4) (af (rv 6) (af (rv 5) ag))))))))))]
 ·obtain ⟨p,L0,names,cells,m,rfl,_⟩:=h;rfl
 obtain ⟨p,L0,names,cells,m,rfl,b,ok,cs0,t0,hT,hnl,hng,hcl,m0,m1,q⟩:=h
 refine hX ?_
 simp_all! []
 intro D hD ep
 simp_all! []
 intro U hU
 have nDU:D≠U:=λe=>by subst e;rw [aq] at hU;cases hU
 have hU0:J U=none:=by rw [ak (λe=>nDU e.symm)] at hU;exact hU
 have w0:Wk cN cL J (L0.own p) (put (put J D (.dct [] ep)) U (.lst [])) p L0 D U [] ep [] 0:=by
  refine ⟨(b.fresh hD).fresh hU,ok,⟨by unfold Ln.fs Ln.DX;rw [cs0];rfl,(by simp),(by simp),(by simp),(by rw [cs0];simp)⟩,by rw [ak nDU];exact aq,aq,λz=>b.some z hD,λz=>b.some z hU0,?_,by rw [t0];decide,by rw [t0];decide,by rw [cs0];simp⟩
  have hh:=(Mv.tQ (S:=L0.own p) (o:=.dct [] ep) hD).trans (Mv.tQ (o:=.lst []) hU)
  exact ⟨hh.keep,λa z=>hh.own a (z.elim (λz=>.inl (.inl z)) λz=>z.elim (λz=>.inl (.inr z)) .inr),hh.mono⟩
 generalize put (put J D (.dct [] ep)) U (.lst [])=J1 at w0 ⊢
 clear hU hU0
 simp_all! []
 obtain ⟨Inv,hInv⟩:∃Inv:Nat→Sr→Hq→Prop,∀i τ J',Inv i τ J'↔∃(L:Ln) (gs:List (Str × aP)) (ep:Nat) (used:List Str) (u7 u8 u9:Option PV),τ=[some (.ref p),some (.fl (names.map .str)),some (.fl (cells.map .int)),some (.int m),some (.ref D),some (.ref U),some (fr L.t),u7,u8,u9]∧Wk cN cL J (L0.own p) J' p L D U gs ep used i∧L.cs.map Cf.n=used∧(∀n∈used,n∈names)∧used.length≤i∧C9 (L.cs.map Cf.face):=⟨_,λ_ _ _=>Iff.rfl⟩
 refine fA Inv ((hInv _ _ _).mpr ⟨L0,[],ep,[],_,_,_,by rw [t0];rfl,w0,by rw [cs0];rfl,(by simp),TF _,λf hf=>by rw [cs0] at hf;cases hf⟩) (λ_ _ _ _=>trivial) ?_ ?_
 ·intro i x τ J' hx hv
  obtain ⟨L,gs,ep,used,u7,u8,u9,rfl,wk,hun,hus,hul,hnr⟩:=(hInv _ _ _).mp hv
  clear hv
  have hi:i < cells.length:=by have:=(TC.mp hx).1;simpa using this
  rw [TN,Tz hi] at hx
  cases hx
  generalize cells[i]=c
  simp_all! []
  refine ⟨c,[10,97,2000001,2001,400000,60],rfl,kW (by decide),by decide,λds hG _=>?_⟩
  obtain ⟨r0,ds,rfl,_,_,hG⟩:=hG.cons
  obtain ⟨r1,ds,rfl,r10,_,hG⟩:=hG.cons
  obtain ⟨r2,ds,rfl,r20,_,hG⟩:=hG.cons
  obtain ⟨r3,ds,rfl,r30,r31,hG⟩:=hG.cons
  obtain ⟨r4,ds,rfl,r40,r41,hG⟩:=hG.cons
  obtain ⟨r5,ds,rfl,r50,_,hG⟩:=hG.cons
  cases hG.nil
  obtain ⟨st,gnd,gl,gsz⟩:=wk.up
  simp_all! []
  refine ⟨r0,r1,r2,r3,r4,r5,m,names,used,U,D,gs,ep,L.t,rfl,wk.hU,wk.hD,hnl,by omega,r10,r20,r30,r31,r40,by omega,r50,m0,m1,st,λdv hdv _=>?_⟩
  refine hNq _ _ ?_
  clear hNq Nq
  refine vc (iL:=0) (iU:=5) (iD:=4) (iC:=6) (iV:=9) rfl rfl rfl rfl rfl wk hun hus hul (by omega) hng hT (b.Ar hT) hdv λJ1 L1 gs1 ep1 used1 t1 e1 wk1 h1 h2 h3 h4=>?_
  subst e1
  exact (hInv _ _ _).mpr ⟨L1,gs1,ep1,used1,_,_,_,rfl,wk1,h1,h2,h3,by have h5:=FN dv (s:=eg L gs used) hnr;rw [← h4] at h5;exact h5⟩
 ·intro τ J' hv
  obtain ⟨L,gs,ep,used,u7,u8,u9,rfl,wk,hun,hus,hul,hnr⟩:=(hInv _ _ _).mp hv
  simp_all! []
  rw [Tx] at wk hul
  exact q J' L D U gs ep used wk hun hus hul hnr
def o9 (ns:List Int) (k:Int):Int:=if k < (ns.length:Int) then ns.getD k.toNat 0 else 5 + 17 * k
def Ct:cF:=λxs J Q _=>∃(ns:List Int) (k:Int),xs=[.fl (ns.map .int),.int k]∧0≤k∧k < 1000∧Q (.int (o9 ns k)) J
theorem FU {f:Addr} {fd:FuncData} (F:bZ K "_law_cell" "_law_cell" AV f fd) (Z:bP mg):aL P w K mg base (cV P w) 1 f fd nu (dn K Ct):=by
 simp_arith [Jr,(ai (aZ (aG iK (rv 1) (aQ b_ rfl Z.len boot_len (af (rv 0) ag))) (ar (aA (av ax (rv 0) (rv 1)))) aK)
   (ar (aA (a8 eZ ah (a8 d3 ah (rv 1))))))]
 ·obtain ⟨ns,k,rfl,_⟩:=h;rfl
 obtain ⟨ns,k,rfl,h0,h1,q⟩:=h
 unfold o9 at q
 refine hX ?_
 simp_arith! [bS,Tx]
 split
 ·rename_i c
  rw [if_pos c] at q
  obtain ⟨j,rfl⟩:=Int.eq_ofNat_of_zero_le h0
  have hj:j < ns.length:=by omega
  refine fG (x:=.int ns[j]) (bq (by rw [TN,Tz hj];rfl)) ?_
  simpa [Wu,hj] using q
 ·rename_i c
  rw [if_neg c] at q
  exact ⟨.of (.small (x:=17) (by decide) (by decide)) (.small (x:=k) (by omega) (by omega)),q⟩
def Nz:PV→Int
 | .int i=>i
 | _=>0
theorem ER (ss:List Str):md (ss.map .str) none (some (-1))=(ss.dropLast).map PV.str:=by
 unfold md
 rw [HT.yW,Vf,Nat.sub_zero,List.map_dropLast,Vg]
 have e:HT.d5 (ss.map PV.str).length (ss.map PV.str).length (some (-1))=(ss.map PV.str).length - 1:=by
  show (if (-1:Int) < 0 then (-1 + ((ss.map PV.str).length:Int)).toNat else min (-1:Int).toNat (ss.map PV.str).length)=_
  rw [if_pos (by decide)];omega
 rw [e]
abbrev ig:Stmt:=(L2.inClass (top 42) 21)
abbrev kA:List Str:=["self","name"]
theorem rX:L2.aw ["self","name"] ["self","name"] (L2.aj ig):=dN
def zh (cN cL eC:Addr):cF:=λxs J Q E=>∃p L n,xs=[.ref p,.str n]∧aX cN cL J p L∧ba L∧(∀c∈L.cs,c.n=n→Q (.ref c.a) J)∧(n ∉ L.cs.map Cf.n→E eC J)
theorem rh {cN cL eC f:Addr} {fd:FuncData} (F:bZ K "log_of" "Lane.log_of" ig f fd) (Z:bP mg) (au:dD K mg "Lane" cN) (aB:aD K cN "logs") (d7:Own K mg "NoCraft" eC):aL P w K mg base (cV P w) 1 f fd kA (dn K (zh cN cL eC)):=by
 simp_arith [rX,(ai (aZ (aG IM (rv 1) (aR au.cl aB (rv 0))) (ar (dQ d7 rfl cH B.kn rfl (af bM ag))) aK)
   (ar (aA (av dG (aR au.cl aB (rv 0)) (rv 1)))))]
 ·obtain ⟨p,L,n,rfl,_⟩:=h;rfl
 obtain ⟨p,L,n,rfl,b,ok,q,qe⟩:=h
 have bo:=b.ob
 have bd:=b.dc
 refine hX ?_
 simp_all! [bo,tP,bd,ok.S8]
 by_cases c:n∈L.cs.map Cf.n
 ·rw [if_pos (by simpa using c)]
  obtain ⟨c0,hc,rfl⟩:=TB.mp c
  simp_all! [bo,tP,bd,ok.va hc]
  exact q c0 hc rfl
 ·rw [if_neg (by simpa using c)]
  simp_all! [fJ]
  exact qe c
abbrev gB:Stmt:=(L2.inClass (top 42) 16)
abbrev jM:List Str:=["self","name"]
theorem pT:L2.aw ["self","name"] ["self","name"] (L2.aj gB):=dN
def CD (cN cL eC:Addr):cF:=λxs J Q E=>∃p L n,xs=[.ref p,.str n]∧aX cN cL J p L∧ba L∧(∀c∈L.cs,c.n=n→Q (.fl (c.w.map aP.V)) J∨∀l,J l=none→Q (.ref l) (put J l (.lst (c.w.map aP.V))))∧(n ∉ L.cs.map Cf.n→E eC J)
theorem pP {cN cL eC f:Addr} {fd:FuncData} (F:bZ K "history" "Lane.history" gB f fd) (Z:bP mg) (au:dD K mg "Lane" cN) (g8:cu P w K mg base cN 1 "log_of" kA (zh cN cL eC)) (mj:cu P w K mg base cL 1 "legs" pq (Cy cL)):aL P w K mg base (cV P w) 2 f fd jM (dn K (CD cN cL eC)):=by
 simp_arith [pT,(ar (aA (bC (pl:=_) mj B hr (bz (pl:=_) g8 B hr (rv 0) (af (rv 1) ag)))))]
 ·obtain ⟨p,L,n,rfl,_⟩:=h;rfl
 obtain ⟨p,L,n,rfl,b,ok,q,qe⟩:=h
 have bo:=b.ob
 refine hX ?_
 simp_all! [bo]
 refine ⟨dg _ _ _ _,p,L,n,rfl,b,ok,λc hc e=>?_,qe⟩
 have lo:=(b.lg c hc).o
 simp_all! [lo]
 exact ⟨Rj _ _,c.a,c.r,c.w,c.g,rfl,b.lg c hc,q c hc e⟩
abbrev AY:Stmt:=(top 63)
abbrev nv:List Str:=["_law_lane","_law_state","_law_names_here","_law_cells","_law_mode"]
theorem gX:L2.aw ["_law_lane","_law_state","_law_names_here","_law_cells","_law_mode","_law_legs","_law_clock","_law_used","_law_cell_here","_law_row","_law_deed_here"] ["_law_lane","_law_state","_law_names_here","_law_cells","_law_mode"] (L2.aj AY):=dN
theorem Ij {J:Hq} {D:Addr} {o:HQ} {x:PV} {ys:List PV} (h:jU J x=some ys) (hD:J D=none):jU (put J D o) x=some ys:=by
 rcases iH h with rfl | ⟨a,rfl,ha⟩
 ·rfl
 ·rw [yn,ak (λz=>by subst z;rw [hD] at ha;cases ha),ha]
def GQ (cN cL T:Addr):cF:=λxs J Q _=>∃(p:Addr) (L0:Ln) (D0:Addr) (xU:PV) (gs0:List (Str × aP)) (ep0:Nat) (used0 names:List Str) (cells:List Int) (m:Int) (k0:Nat),xs=[.ref p,.tup [.ref D0,fr L0.t,xU],.fl (names.map .str),.fl (cells.map .int),.int m]∧aX cN cL J p L0∧bU L0∧Rl L0 gs0∧J D0=some (.dct (bJ gs0) ep0)∧jU J xU=some (used0.map .str) ∧
 L0.cs.map Cf.n=used0∧(∀n∈used0,n∈names)∧used0.length≤k0∧L0.t.den≤60∧L0.t≤((500 * k0:Nat):Rat)∧(∀c∈L0.cs,c.w.length≤1 + k0)∧J T=some .tab∧names.length≤40∧(∀n∈names,good n=true)∧k0 + cells.length≤80∧0≤m∧m < 4 ∧
 ∀J' L D U gs ep used,Wk cN cL J (L0.own p) J' p L D U gs ep used (k0 + cells.length)→L.cs.map Cf.n=used→(∀n∈used,n∈names)→used.length≤k0 + cells.length→eg L gs used=yT m names cells (eg L0 gs0 used0)→Q (.tup [.ref D,fr L.t,.ref U]) J'
theorem FX {cN cL T f:Addr} {fd:FuncData} (F:bZ K "_law_more" "_law_more" AY f fd) (Z:bP mg) (c9:bp P w K mg base 1 "_law_digits" cj xg) (zA:bp P w K mg base 3 "_law_deed" jj A8) (zB:bp P w K mg base 9 "_law_done" jk (xh cN cL T)) (vd:bp P w K mg base 3 "_law_acted" ia ql):aL P w K mg base (cV P w) 10 f fd nv (dn K (GQ cN cL T)):=by
 simp_arith [gX,(ai (aI (i:=5) gX.nd (cZ EN rfl Z.dict boot_dict (af (av ax (rv 1) ah) ag)))
   (ai (aI (i:=6) gX.nd (av ax (rv 1) ah))
   (ai (aI (i:=7) gX.nd (cZ iE rfl Z.list boot_list (af (av ax (rv 1) ah) ag)))
   (ai (fe cy rfl (dW (rv 3)) (bA (i:=8) gX.nd) (ai (aI (i:=9) gX.nd (aS c9 B hr (af (rv 8) (af (uR (AR [.int 10,.int 97,.int 2000001,.int 2001,.int 400000,.int 60] rfl [.int 10,.int 97,.int 2000001,.int 2001,.int 400000,.int 60] rfl)) ag))))
   (ai (aI (i:=10) gX.nd (aS zA B hr (af (rv 9) (af (rv 4) (af (rv 2) (af (rv 7) (af (rv 5) (af (rv 6) ag))))))))
   (dw (aZ (aG (cQ hr.aU) (av ax (rv 10) ah) bM) (ar (a7 (nE PySem.F.plainAttrs_list PySem.F.slot_list_append PySem.F.type_list_append lj (rv 7) (af (av ax (rv 10) ah) ag)))) aK)
   (ai (a7 (aS zB B hr (af (rv 0) (af (rv 10) ag))))
   (ar (aI (i:=6) gX.nd (aS vd B hr (af (rv 5) (af (rv 6) (af (rv 10) ag)))))))))))
   (ar (aA (cx (af (rv 5) (af (rv 6) (af (rv 7) ag))))))))))]
 ·obtain ⟨p,L0,D0,xU,gs0,ep0,used0,names,cells,m,k0,rfl,_⟩:=h;rfl
 obtain ⟨p,L0,D0,xU,gs0,ep0,used0,names,cells,m,k0,rfl,b,ok,rl0,hD0,hU0,hun0,hus0,hul0,td0,tl0,wl0,hT,hnl,hng,hcl,m0,m1,q⟩:=h
 refine hX ?_
 simp_all! [Gn,hD0]
 intro D hD ep
 refine hNq _ _ ?_
 clear hNq Nq
 simp_all! []
 have hU1:=Ij (o:=.dct (bJ gs0) ep) hU0 hD
 simp only [hU1]
 refine fG rfl λU hU=>?_
 have nDU:D≠U:=λe=>by subst e;rw [aq] at hU;cases hU
 have hUn:J U=none:=by rw [ak (λe=>nDU e.symm)] at hU;exact hU
 have w0:Wk cN cL J (L0.own p) (put (put J D (.dct (bJ gs0) ep)) U (.lst (used0.map .str))) p L0 D U gs0 ep used0 k0:=by
  refine ⟨(b.fresh hD).fresh hU,ok,rl0,by rw [ak nDU];exact aq,aq,λz=>b.some z hD,λz=>b.some z hUn,?_,td0,tl0,wl0⟩
  have hh:=(Mv.tQ (S:=L0.own p) (o:=.dct (bJ gs0) ep) hD).trans (Mv.tQ (o:=.lst (used0.map .str)) hU)
  exact ⟨hh.keep,λa z=>hh.own a (z.elim (λz=>.inl (.inl z)) λz=>z.elim (λz=>.inl (.inr z)) .inr),hh.mono⟩
 generalize put (put J D (.dct (bJ gs0) ep)) U (.lst (used0.map .str))=J1 at w0 ⊢
 clear hU hUn hU1
 refine hNq _ _ ?_
 clear hNq Nq
 simp_all! []
 obtain ⟨Inv,hInv⟩:∃Inv:Nat→Sr→Hq→Prop,∀i τ J',Inv i τ J'↔∃(L:Ln) (gs:List (Str × aP)) (ep:Nat) (used:List Str) (u7 u8 u9:Option PV),τ=[some (.ref p),some (.tup [.ref D0,fr L0.t,xU]),some (.fl (names.map .str)),some (.fl (cells.map .int)),some (.int m),some (.ref D),some (fr L.t),some (.ref U),u7,u8,u9]∧Wk cN cL J (L0.own p) J' p L D U gs ep used (k0 + i)∧L.cs.map Cf.n=used∧(∀n∈used,n∈names)∧used.length≤k0 + i∧eg L gs used=yT m names (cells.take i) (eg L0 gs0 used0):=⟨_,λ_ _ _=>Iff.rfl⟩
 refine fA Inv ((hInv _ _ _).mpr ⟨L0,gs0,ep,used0,_,_,_,rfl,w0,hun0,hus0,hul0,rfl⟩) (λ_ _ _ _=>trivial) ?_ ?_
 ·intro i x τ J' hx hv
  obtain ⟨L,gs,ep,used,u7,u8,u9,rfl,wk,hun,hus,hul,hrun⟩:=(hInv _ _ _).mp hv
  clear hv
  have hi:i < cells.length:=by have:=(TC.mp hx).1;simpa using this
  rw [TN,Tz hi] at hx
  cases hx
  have et:cells.take (i + 1)=cells.take i ++ [cells[i]]:=by rw [Ub,Tz hi];rfl
  generalize cells[i]=c at et
  simp_all! []
  refine ⟨c,[10,97,2000001,2001,400000,60],rfl,kW (by decide),by decide,λds hG hds=>?_⟩
  obtain ⟨r0,ds,rfl,_,_,hG⟩:=hG.cons
  obtain ⟨r1,ds,rfl,r10,_,hG⟩:=hG.cons
  obtain ⟨r2,ds,rfl,r20,_,hG⟩:=hG.cons
  obtain ⟨r3,ds,rfl,r30,r31,hG⟩:=hG.cons
  obtain ⟨r4,ds,rfl,r40,r41,hG⟩:=hG.cons
  obtain ⟨r5,ds,rfl,r50,_,hG⟩:=hG.cons
  cases hG.nil
  obtain ⟨st,gnd,gl,gsz⟩:=wk.up
  simp_all! []
  refine ⟨r0,r1,r2,r3,r4,r5,m,names,used,U,D,gs,ep,L.t,rfl,wk.hU,wk.hD,hnl,by omega,r10,r20,r30,r31,r40,by omega,r50,m0,m1,st,λdv hdv hde=>?_⟩
  refine hNq _ _ ?_
  clear hNq Nq
  refine vc (iL:=0) (iU:=7) (iD:=5) (iC:=6) (iV:=10) rfl rfl rfl rfl rfl wk hun hus hul (by omega) hng hT (b.Ar hT) hdv λJ1 L1 gs1 ep1 used1 t1 e1 wk1 h1 h2 h3 h4=>?_
  subst e1
  refine (hInv _ _ _).mpr ⟨L1,gs1,ep1,used1,_,_,_,rfl,wk1,h1,h2,h3,?_⟩
  rw [h4,et,uU,← hrun,hde]
  exact (GC (s:=eg L gs used) (names:=names) (m:=m) hds).symm
 ·intro τ J' hv
  obtain ⟨L,gs,ep,used,u7,u8,u9,rfl,wk,hun,hus,hul,hrun⟩:=(hInv _ _ _).mp hv
  simp_all! []
  rw [Tx] at wk hul hrun
  rw [Uc] at hrun
  exact q J' L D U gs ep used wk hun hus hul hrun
theorem Ln.alike.PH {L L':Ln} (h:L.alike L'):i4 L'.t (L'.fs.map (key L'.t))=i4 L.t (L.fs.map (key L.t)):=by rw [h.t,h.fs]
theorem ML (l:aP):mK l.V=true:=by simp [aP.V,Cc,lA,yP,Cb,wx]
theorem Cd:∀ls:List aP,kJ (ls.map aP.V)=true
 | []=>rfl
 | l :: ls=>by rw [TL,lA,ML,Cd ls];rfl
theorem BE:∀ls:List aP,df (eQ (ls.map aP.V))≤2
 | []=>by simp [eQ,df]
 | l :: ls=>by
  have:=BE ls
  rw [TL]
  simp only [eQ,df]
  have h1:dep (fI l.V)≤2:=by simp [aP.V,fr,fI,eQ,dep,df]
  omega
theorem N3 (ls:List aP):HJ (.fl (ls.map aP.V)):=⟨by simpa [mK] using Cd ls,by have:=BE ls;simp only [fI,dep];omega⟩
abbrev wL:Stmt:=(top 64)
abbrev lU:List Str:=["_law_lane","_law_other","_law_used"]
theorem y0:L2.aw ["_law_lane","_law_other","_law_used","_law_name"] ["_law_lane","_law_other","_law_used"] (L2.aj wL):=dN
def Cr (cN cL:Addr):cF:=λxs J Q _=>∃(p o:Addr) (L O:Ln) (xU:PV) (used:List Str),xs=[.ref p,.ref o,xU]∧jU J xU=some (used.map .str)∧aX cN cL J p L∧aX cN cL J o O∧bU L∧bU O∧L.alike O∧L.cs.map Cf.n=used∧Q (.bl true) J
theorem DJ {cN cL eC f:Addr} {fd:FuncData} (F:bZ K "_law_alike" "_law_alike" wL f fd) (Z:bP mg) (zD:bp P w K mg base 2 "_law_part" jl qo) (vh:bp P w K mg base 1 "_law_words" ib xo) (zE:bp P w K mg base 4 "_law_passrows" iP sj) (fR:cu P w K mg base cN 1 "clock" lQ (zf cN cL)) (cT:cu P w K mg base cN 1 "order" h_ (si cN cL)) (eu:cu P w K mg base cN 2 "history" jM (CD cN cL eC)) (fQ:cu P w K mg base cN 7 "bells" lP (ze cN cL)):aL P w K mg base (cV P w) 8 f fd lU (dn K (Cr cN cL)):=by
 simp_arith [y0,(ai (aZ (dR (kO (cP (bN (aS zD B hr (af (bC (pl:=_) fR B hr (rv 1)) (af (bC (pl:=_) fR B hr (rv 0)) ag))))) (gA (cP (bN (aS vh B hr (af (bC (pl:=_) cT B hr (rv 1)) (af (bC (pl:=_) cT B hr (rv 0)) ag)))))))) (ar (aA gx)) aK)
   (ai (fe cy rfl (dW (rv 2)) (bA (i:=3) y0.nd) (ar (aZ (aG (km hr.aU) (bz (pl:=_) eu B hr (rv 1) (af (rv 3) ag)) (bz (pl:=_) eu B hr (rv 0) (af (rv 3) ag))) (ar (aA gx)) aK)))
   (ar (aA (aS zE B hr (af (bC (pl:=_) fQ B hr (rv 1)) (af (bC (pl:=_) fQ B hr (rv 0)) ag)))))))]
 ·obtain ⟨p,o,L,O,xU,used,rfl,_⟩:=h;rfl
 obtain ⟨p,o,L,O,xU,used,rfl,hU,b,c,okL,okO,al,hun,q⟩:=h
 have bo:=b.ob
 have co:=c.ob
 refine hX ?_
 simp_all! [bo,co]
 refine ⟨dg _ _ _ _,o,O,rfl,c,?_⟩
 simp_all! [bo]
 refine ⟨dg _ _ _ _,p,L,rfl,b,L.t,by rw [al.t],?_⟩
 simp_all! [bo,co]
 refine ⟨dg _ _ _ _,o,O,rfl,c,.inl ?_⟩
 simp_all! [bo]
 refine ⟨dg _ _ _ _,p,L,rfl,b,.inl ⟨L.row,by rw [al.row],T4 okL.rl (by decide),?_⟩⟩
 refine hNq _ _ ?_
 clear hNq Nq
 simp_all! []
 obtain ⟨it,hit,hxs,hok⟩:∃it:xG,NC J xU=some it∧it.xs=used.map .str∧it.ok J:=by
  rcases iH hU with rfl | ⟨a,rfl,ha⟩
  ·exact ⟨_,rfl,rfl,trivial⟩
  ·exact ⟨⟨used.map .str,λJ'=>J' a=some (.lst (used.map .str))⟩,by unfold NC;simp only [ha],rfl,ha⟩
 rw [hit]
 obtain ⟨Inv,hInv⟩:∃Inv:Nat→Sr→Hq→Prop,∀i τ J',Inv i τ J'↔∃(u3:Option PV),τ=[some (.ref p),some (.ref o),some xU,u3]∧J'=J:=⟨_,λ_ _ _=>Iff.rfl⟩
 refine fA Inv ((hInv _ _ _).mpr ⟨_,rfl,rfl⟩) (λi τ J' hv=>?_) ?_ ?_
 ·obtain ⟨u3,rfl,rfl⟩:=(hInv _ _ _).mp hv;exact hok
 ·intro i x τ J' hx hv
  obtain ⟨u3,rfl,rfl⟩:=(hInv _ _ _).mp hv
  clear hv
  rw [hxs] at hx
  obtain ⟨n,hn,rfl⟩:=TB.mp (TH hx)
  rw [← hun] at hn
  obtain ⟨c0,h0,rfl⟩:=TB.mp hn
  have hnO:c0.n∈O.cs.map Cf.n:=by
   have e:O.cs.map Cf.n=L.cs.map Cf.n:=by
    have:=congrArg (VX (·.1)) al.cs
    rw [TK,TK] at this
    exact this
   rw [e];exact hn
  simp_all! [bo,co]
  refine ⟨dg _ _ _ _,o,O,c0.n,rfl,c,okO.toba,λc1 h1 e1=>.inl ?_,λz=>absurd hnO z⟩
  obtain ⟨c2,h2,en,ew,_⟩:=al.ex h1
  obtain rfl:c2=c0:=okL.uniq h2 h0 (en.trans e1)
  simp_all! [bo]
  refine ⟨dg _ _ _ _,p,L,c2.n,rfl,b,okL.toba,λc3 h3 e3=>.inl ?_,λz=>absurd hn z⟩
  obtain rfl:c3=c2:=okL.uniq h3 h2 e3
  rw [ew]
  have cf:=N3 c1.w
  simp_all! [cf,cf.1,eq_self]
  exact (hInv _ _ _).mpr ⟨_,rfl,rfl⟩
 intro τ J' hv
 obtain ⟨u3,rfl,rfl⟩:=(hInv _ _ _).mp hv
 clear hv
 refine hNq _ _ ?_
 clear hNq Nq
 simp_all! [bo,co]
 refine ⟨dg _ _ _ _,o,O,rfl,c,okO,.inl ?_⟩
 simp_all! [bo]
 refine ⟨dg _ _ _ _,p,L,rfl,b,okL,.inl ?_⟩
 rw [al.PH]
 have hbl:=zT L.t (L.fs.map (key L.t)) okL.knd
 have hfl:=okL.N6
 rw [Tx] at hbl
 exact ⟨_,_,rfl,rfl,by omega,q⟩
theorem jc {α:Type} {f:α→α}:∀{l:List α},(∀x∈l,f x=x)→l.map f=l
 | [],_=>rfl
 | x :: l,h=>by rw [TL,h x (Ui ..),jc λy hy=>h y (T9 _ hy)]
def bV (t:Rat) (f:Face):Face:=if f.2.2.isNone=true then (f.1,turned f.2.1 t (-(f.2.1.getLast?.getD ⟨0,0,0⟩).v),f.2.2) else f
theorem gP (L:Ln) (t:Rat):(L.cs.map (cO t)).map Cf.face=(L.cs.map Cf.face).map (bV t):=iI (λc=>by unfold cO bV Cf.face;by_cases h:c.g.isNone=true <;> simp [h,Cf.turn,Cf.cur]) _
theorem xR {fc:List Face} {t:Rat} (hn:C9 fc) (hc:∀f∈fc,sT f.2.1):(fc.map (bV t)).map (bV t)=fc:=by
 rw [TK]
 refine jc λf hf=>?_
 show bV t (bV t f)=f
 unfold bV
 by_cases h:f.2.2.isNone=true
 ·rw [if_pos h,if_pos h]
  have ne:=(hn f hf).2
  have hl:f.2.1.getLast?=some (f.2.1.getLast ne):=Vj ne
  obtain ⟨l',h1,h2⟩:=zq (t:=t) (v:=-(f.2.1.getLast ne).v) hl
  rw [hl]
  show (f.1,turned (turned f.2.1 t (-(f.2.1.getLast ne).v)) t (-(((turned f.2.1 t (-(f.2.1.getLast ne).v)).getLast?).getD ⟨0,0,0⟩).v),f.2.2)=f
  rw [h1]
  show (f.1,turned (turned f.2.1 t (-(f.2.1.getLast ne).v)) t (-l'.v),f.2.2)=f
  rw [h2,Int.neg_neg,zp (hn f hf).1 (hc f hf) hl]
 ·rw [if_neg h,if_neg h]
def dm (t:Rat) (ns:List Str) (fc:List Face):List Face:=fc.map λf=>if f.1∈ns then bV t f else f
theorem xA (t:Rat) (fc:List Face):dm t [] fc=fc:=jc λf _=>by rw [if_neg (by simp)]
theorem uk {t:Rat} {ns:List Str} {fc:List Face} {n:Str} {v:Int} (hn:n ∉ ns) (h:∀f∈fc,f.1=n→f.2.2.isNone=true∧-(f.2.1.getLast?.getD ⟨0,0,0⟩).v=v) :
  ((dm t ns fc).map λf=>if f.1=n then (f.1,turned f.2.1 t v,f.2.2) else f)=dm t (ns ++ [n]) fc:=by
 unfold dm
 rw [TK]
 refine TZ λf hf=>?_
 have hn1:∀g:Face,(bV t g).1=g.1:=λg=>by unfold bV;split <;> rfl
 show (λg:Face=>if g.1=n then (g.1,turned g.2.1 t v,g.2.2) else g) (if f.1∈ns then bV t f else f)=_
 by_cases e:f.1=n
 ·have e1:f.1 ∉ ns:=by rw [e];exact hn
  obtain ⟨h1,h2⟩:=h f hf e
  rw [if_neg e1,if_pos (show f.1∈ns ++ [n] by rw [e];simp)]
  show (if f.1=n then (f.1,turned f.2.1 t v,f.2.2) else f)=_
  rw [if_pos e]
  unfold bV
  rw [if_pos h1,h2]
 ·by_cases m:f.1∈ns
  ·rw [if_pos m,if_pos (UY _ m)]
   show (if (bV t f).1=n then _ else _)=_
   rw [if_neg (by rw [hn1];exact e)]
  ·rw [if_neg m]
   show (if f.1=n then _ else _)=_
   rw [if_neg e,if_neg (λz=>(TQ.mp z).elim m λz=>e (TR.mp z))]
theorem xx {t:Rat} {ns:List Str} {fc:List Face} (h:∀f∈fc,f.2.2.isNone=true→f.1∈ns):dm t ns fc=fc.map (bV t):=by
 unfold dm
 refine TZ λf hf=>?_
 by_cases m:f.1∈ns
 ·rw [if_pos m]
 ·rw [if_neg m]
  unfold bV
  rw [if_neg (λz=>m (h f hf z))]
theorem Be (L:Ln) (n:Str) (t:Rat) (v:Int):(L.cs.map (cK n t v)).map Cf.face=(L.cs.map Cf.face).map λf=>if f.1=n then (f.1,turned f.2.1 t v,f.2.2) else f:=iI (λc=>by unfold cK Cf.face;by_cases h:c.n=n <;> simp [h,Cf.turn]) _
theorem xP (t:Rat) (f:Face):(bV t f).1=f.1∧(bV t f).2.2=f.2.2∧(bV t f).2.1.length≤f.2.1.length + 1:=by
 unfold bV
 split
 ·exact ⟨rfl,rfl,jH _ _ _⟩
 ·exact ⟨rfl,rfl,V8 _⟩
theorem mH (t:Rat) (ns:List Str) (f:Face):(if f.1∈ns then bV t f else f).1=f.1∧(if f.1∈ns then bV t f else f).2.2=f.2.2∧(if f.1∈ns then bV t f else f).2.1.length≤f.2.1.length + 1:=by
 split
 ·exact xP t f
 ·exact ⟨rfl,rfl,V8 _⟩
theorem BJ (L:Ln):L.fs.map (·.1)=((L.cs.map Cf.face).filter λf=>f.2.2.isNone).map (·.1):=by rw [fP,TK];rfl
theorem um (t:Rat) (ns:List Str) (fc:List Face):((dm t ns fc).filter λf=>f.2.2.isNone).map (·.1)=(fc.filter λf=>f.2.2.isNone).map (·.1):=by
 unfold dm
 rw [Uo,TK]
 have e:((λf:Face=>f.2.2.isNone) ∘ λf=>if f.1∈ns then bV t f else f)=λf:Face=>f.2.2.isNone:=funext λf=>by show (if f.1∈ns then bV t f else f).2.2.isNone=_;rw [(mH t ns f).2.1]
 rw [e]
 exact TZ λf _=>(mH t ns f).1
theorem xy {t:Rat} {ns:List Str} {fc:List Face} {k:Nat} (h:∀f∈fc,f.2.1.length≤k):∀f∈dm t ns fc,f.2.1.length≤k + 1:=λf hf=>by
 obtain ⟨g,hg,rfl⟩:=TB.mp hf
 exact T4 (mH t ns g).2.2 (V7 (h g hg))
theorem p5 {L:Ln} {k:Nat} (h:∀c∈L.cs,c.w.length≤k):∀f∈L.cs.map Cf.face,f.2.1.length≤k:=λf hf=>by
 obtain ⟨c,hc,rfl⟩:=TB.mp hf
 exact h c hc
theorem qv {L:Ln} {k:Nat} (h:∀f∈L.cs.map Cf.face,f.2.1.length≤k):∀c∈L.cs,c.w.length≤k:=λc hc=>h c.face (TB.mpr ⟨c,hc,rfl⟩)
theorem xS {L L':Ln} {t:Rat} {k:Nat} (h:∀c∈L.cs,c.w.length≤k) (e:L'.cs=L.cs.map (cO t)):∀c∈L'.cs,c.w.length≤k + 1:=qv λf hf=>by
 rw [e,gP] at hf
 obtain ⟨g,hg,rfl⟩:=TB.mp hf
 exact T4 (xP t g).2.2 (V7 (p5 h g hg))
def eL (t:Rat) (ns:List Str) (gs:List (Str × aP)):List (Str × aP):=gs.map λx=>if x.1∈ns then (x.1,⟨t,x.2.at t,-x.2.v⟩) else x
theorem Bi (t:Rat) (gs:List (Str × aP)):eL t [] gs=gs:=jc λx _=>by rw [if_neg (by simp)]
theorem uZ (t:Rat) (ns:List Str) (gs:List (Str × aP)):(eL t ns gs).map (·.1)=gs.map (·.1):=by
 unfold eL
 rw [TK]
 exact TZ λx _=>by show (if x.1∈ns then (x.1,_) else x).1=x.1;split <;> rfl
theorem Bh {t:Rat} {ns:List Str} {gs:List (Str × aP)} (h:∀x∈gs,x.1∈ns):eL t ns gs=b9 t gs:=TZ λx hx=>if_pos (h x hx)
theorem Bj {t:Rat} {ns:List Str} {gs:List (Str × aP)} {n:Str} {l:aP} (hm:(n,l)∈gs) (hn:n ∉ ns):(n,l)∈eL t ns gs:=TB.mpr ⟨(n,l),hm,if_neg hn⟩
theorem zr {t:Rat} {ns:List Str} {gs:List (Str × aP)} {n:Str} {l:aP} (hnd:(gs.map (·.1)).Nodup) (hm:(n,l)∈gs) (hn:n ∉ ns):((eL t ns gs).map λx=>if x.1=n then (x.1,(⟨t,l.at t,-l.v⟩:aP)) else x)=eL t (ns ++ [n]) gs:=by
 unfold eL
 rw [TK]
 refine TZ λx hx=>?_
 show (λy:Str × aP=>if y.1=n then (y.1,(⟨t,l.at t,-l.v⟩:aP)) else y) (if x.1∈ns then (x.1,⟨t,x.2.at t,-x.2.v⟩) else x)=_
 by_cases e:x.1=n
 ·have el:x.2=l:=by
   have h1:=iu (f:=λl:aP=>l) hnd hm
   have h2:=iu (f:=λl:aP=>l) hnd (n:=n) (l:=x.2) (by rw [← e];exact hx)
   exact Option.some.inj (h2.symm.trans h1)
  rw [if_neg (by rw [e];exact hn),if_pos (show x.1∈ns ++ [n] by rw [e];simp),el]
  exact if_pos e
 ·by_cases m:x.1∈ns
  ·rw [if_pos m,if_pos (UY _ m)]
   exact if_neg e
  ·rw [if_neg m,if_neg (λz=>(TQ.mp z).elim m λz=>e (TR.mp z))]
   exact if_neg e
theorem Mv.fresh {J J':Hq} {S S':Addr→Prop} (mv:Mv J J' S S') {x:Addr} {o:HQ} (hx:J x=some o) (nx:¬ S x):¬ S' x:=λz=>by
 rcases mv.own _ z with q | q
 ·exact nx q
 ·rw [hx] at q;cases q
theorem aX.off {cN cL:Addr} {J J':Hq} {p:Addr} {L:Ln} {S S':Addr→Prop} (h:aX cN cL J p L) (mv:Mv J J' S S') (n:∀a,L.own p a→¬ S a):aX cN cL J' p L:=h.keep λa o ow e=>mv.keep a o e (n a ow)
theorem aX.sub {cN cL:Addr} {J J':Hq} {p:Addr} {L:Ln} (h:aX cN cL J p L) (s:Sub J J'):aX cN cL J' p L:=h.keep λa o _ e=>s a o e
theorem Rl.alike {L L':Ln} {gs:List (Str × aP)} (h:Rl L gs) (al:L.alike L'):Rl L' gs:=⟨by rw [al.fs];exact h.nm,λn l l' a b=>h.ln n l l' a (by rw [al.fs] at b;exact b),h.ck,λx hx=>by rw [al.t];exact h.le x hx,λc hc=>by obtain ⟨c0,h0,_,e,_⟩:=al.ex hc;rw [← e];exact h.ct c0 h0⟩
abbrev uV:Stmt:=(top 65)
abbrev MJ:List Str:=["_law_script"]
theorem dI:L2.aw ["_law_script","_law_head","_law_names_here","_law_lane","_law_cells","_law_legs","_law_clock","_law_used","_law_row","_law_other","_law_twice","_law_there","_law_name","_law_more_here","_law_ones"] ["_law_script"] (L2.aj uV):=dN
theorem IG {cN cL T eC eF f:Addr} {fd:FuncData} (F:bZ K "law" "law" uV f fd) (Z:bP mg) (qx:bp P w K mg base 1 "_law_cell" nu Ct) (c9:bp P w K mg base 1 "_law_digits" cj xg) (vf:bp P w K mg base 2 "_law_names" fg zi) (K6:bp P w K mg base 10 "_law_walk" nA (GR cN cL T)) (oi:vq P w K mg base cN 1 "Lane" e_ (xk cN cL)) (gS:cu P w K mg base cN 4 "twin" nk (CG cN cL)) (cD:cu P w K mg base cN 8 "about" hE (sf cN cL)) (ed:cu P w K mg base cN 8 "turn" jh (xm cN cL eC eF)) (cT:cu P w K mg base cN 1 "order" h_ (si cN cL)) (CZ:bp P w K mg base 2 "_law_at" ji pD) (vh:bp P w K mg base 1 "_law_words" ib xo) (Hi:bp P w K mg base 3 "_law_order" lW zj) (ve:bp P w K mg base 8 "_law_alike" lU (Cr cN cL)) (Ek:bp P w K mg base 10 "_law_more" nv (GQ cN cL T)) :
  aL P w K mg base (cV P w) 11 f fd MJ (dn K (A9 [T])):=by
 simp_arith [dI,(ai (aI (i:=1) dI.nd (aS c9 B hr (af (aS qx B hr (af (rv 0) (af ah ag))) (af (uR (af ah (af ah (af ah ag)))) ag))))
   (ai (aI (i:=2) dI.nd (aS vf B hr (af (aS qx B hr (af (rv 0) (af ah ag))) (af (a8 eZ ah (av ax (rv 1) ah)) ag))))
   (ai (aI (i:=3) dI.nd (nF oi B hr))
   (ai (KU (i:=4) (L2.aj uV) ["_law_script","_law_head","_law_names_here","_law_lane","_law_cells","_law_legs","_law_clock","_law_used","_law_row","_law_other","_law_twice","_law_there","_law_name","_law_more_here","_law_ones"] [("_law_script",0)] rfl rfl rfl dI.nd rfl (Or.inl rfl) (oR rfl Z.range (af (av ax (rv 1) ah) ag)) (λ_ _ _ _ _ _=>(aS qx HR hr (af (rv 1) (af (a8 eZ ah (rv 0)) ag)))))
   (ai (rO (aS K6 B hr (af (rv 3) (af (iS GS (rv 2) lD (ju (nH jJ ah))) (af (rv 4) (af (av ax (rv 1) ah) ag))))) (oQ (n:=3) rfl (cm (bA (i:=5) dI.nd) (cm (bA (i:=6) dI.nd) (cm (bA (i:=7) dI.nd) lB)))))
   (ai (aI (i:=8) dI.nd (aS c9 B hr (af (aS qx B hr (af (rv 0) (af ah ag))) (af (uR (af ah (af ah ag))) ag))))
   (ai (aI (i:=9) dI.nd (bC (pl:=_) gS B hr (rv 3)))
   (ai (aI (i:=10) dI.nd (bC (pl:=_) gS B hr (rv 3)))
   (ai (a7 (bC (pl:=_) cD B hr (rv 10)))
   (ai (a7 (bC (pl:=_) cD B hr (rv 10)))
   (ai (aZ (cP (bN (aS ve B hr (af (rv 3) (af (rv 10) (af (rv 7) ag)))))) (ar (aA gx)) aK)
   (ai (a7 (bC (pl:=_) cD B hr (rv 3)))
   (ai (aI (i:=11) dI.nd (cZ (qJ rfl) rfl Z.list boot_list (af (rv 5) ag)))
   (dw (aZ (aG (cQ hr.aU) (av ax (rv 8) ah) ah) (ar (aI (i:=11) dI.nd (Jm (rv 11) (ju (nH jJ ah))))) aK)
   (ai (fe cy rfl (dW (rv 11)) (bA (i:=12) dI.nd) (ai (a7 (bz (pl:=_) ed B hr (rv 9) (af (rv 12) (af (nH jJ (av ax (av dG (rv 5) (rv 12)) ah)) ag))))
   (ar (rQ nX (rv 5) (rv 12) (cx (af (rv 6) (af (aS CZ B hr (af (av dG (rv 5) (rv 12)) (af (rv 6) ag))) (af (nH jJ (av ax (av dG (rv 5) (rv 12)) ah)) ag))))))))
   (ai (aZ (dR (kO (cP (bN (aS ve B hr (af (rv 3) (af (rv 9) (af (rv 7) ag)))))) (gA (cP (bN (aS vh B hr (af (bC (pl:=_) cT B hr (rv 3)) (af (aS Hi B hr (af (rv 5) (af (rv 6) ag))) ag)))))))) (ar (aA gx)) aK)
   (ai (KU (i:=13) (L2.aj uV) ["_law_script","_law_head","_law_names_here","_law_lane","_law_cells","_law_legs","_law_clock","_law_used","_law_row","_law_other","_law_twice","_law_there","_law_name","_law_more_here","_law_ones"] [("_law_script",0)] rfl rfl rfl dI.nd rfl (Or.inl rfl) (oR rfl Z.range (af (av ax (rv 8) ah) ag)) (λ_ _ _ _ _ _=>(aS qx HR hr (af (rv 1) (af (a8 eZ ah (rv 0)) ag)))))
   (ai (aI (i:=14) dI.nd (aS Ek B hr (af (rv 3) (af (cx (af (rv 5) (af (rv 6) (af (rv 7) ag)))) (af (rv 2) (af (rv 13) (af (av ax (rv 1) ah) ag)))))))
   (ai (a7 (aS Ek B hr (af (rv 9) (af (cx (af (rv 5) (af (rv 6) (af (rv 7) ag)))) (af (rv 2) (af (rv 13) (af (av ax (rv 1) ah) ag)))))))
   (ar (aA (aS ve B hr (af (rv 3) (af (rv 9) (af (av ax (rv 14) ah) ag)))))))))))))))))))))))))]
 ·obtain ⟨ns,rfl,_⟩:=h;rfl
 obtain ⟨ns,rfl,hl,hT,hJ,q⟩:=h
 have hT:J T=some .tab:=hT T (by simp)
 refine hX ?_
 simp_all! []
 refine ⟨ns,0,rfl,by decide,by decide,_,[21,7,4],rfl,kW (by decide),by decide,λds hD _=>?_⟩
 obtain ⟨d0,ds,rfl,d00,d01,hD⟩:=hD.cons
 obtain ⟨d1,ds,rfl,d10,d11,hD⟩:=hD.cons
 obtain ⟨d2,ds,rfl,d20,d21,hD⟩:=hD.cons
 cases hD.nil
 simp_all! []
 refine ⟨ns,1,rfl,by decide,by decide,_,3 + d1,rfl,by omega,by omega,λnames nl nd ng=>?_⟩
 simp_all! []
 intro p hp
 refine ⟨p,rfl,aq,λJ1 d e o b mv=>?_⟩
 have mvJ:Mv J J1 (λ_=>False) (Ln.own ⟨0,d,e,o,[],[]⟩ p):=by
  refine (Mv.tQ (S:=λ_=>False) hp).trans ⟨λa u h n=>mv.keep a u h λz=>n (.inr z),λa z=>(mv.own a z).imp .inr id,mv.mono⟩
 have okN:∀d e o,bU ⟨0,d,e,o,[],[]⟩:=λd e o=>⟨⟨VU,(by simp),(by simp),(by simp),(by simp),(by simp),Rat.le_refl,Tu _,(by show 0≤100;decide),(by intro n;simp [Ln.fs,Ln.DX]),VU,(by show 0≤12;decide)⟩,rfl⟩
 have hT1:J1 T=some .tab:=mvJ.keep _ _ hT λz=>z
 simp_all! [wD]
 refine ⟨by omega,by omega,λ_=>true,λx=>.int (o9 ns (8 + Nz x)),⟨by rw [fq];exact a_ (by omega),λJ' _=>⟨trivial,λx hx=>⟨⟨rfl,rfl⟩,λ_=>?_⟩⟩⟩,?_⟩
 ·obtain ⟨i,hi⟩:=T5.mp hx
  obtain ⟨i1,rfl⟩:=(m6 _ _ _ _).mp hi
  simp_all! []
  exact ⟨ns,_,rfl,by omega,by omega,rfl,rfl⟩
 obtain ⟨cs,hcs,hcl⟩:∃cs:List Int,((ox 0 d0.toNat).filter λ_=>true).map (λx=>PV.int (o9 ns (8 + Nz x)))=cs.map .int∧cs.length≤21:=⟨((ox 0 d0.toNat).filter λ_=>true).map (λx=>o9 ns (8 + Nz x)),by rw [TK];rfl,by
  rw [Tx]
  exact T4 (Uu _ _) (by rw [fq];omega)⟩
 rw [hcs]
 simp_all! [ER]
 have hnl:names.dropLast.length≤40:=by rw [VQ];omega
 refine ⟨p,_,names.dropLast,cs,d2,rfl,b,okN _ _ _,rfl,rfl,hT1,hnl,(λn hn=>ng n (VT _ hn)),by omega,d20,d21,λJ2 L D U gs ep used wk hun hus hul hnr=>?_⟩
 have hT2:J2 T=some .tab:=wk.kept hT1 (b.Ar hT1)
 have hus:∀n∈used,n∈names:=λn hn=>VT _ (hus n hn)
 obtain ⟨st,gnd,gl,gsz⟩:=wk.up
 clear mvJ mv hcs b hT1
 simp_all! []
 refine ⟨ns,2,rfl,by decide,by decide,_,[2,7],rfl,kW (by decide),by decide,λds hQ _=>?_⟩
 obtain ⟨e0,ds,rfl,e00,e01,hQ⟩:=hQ.cons
 obtain ⟨e1,ds,rfl,e10,e11,hQ⟩:=hQ.cons
 cases hQ.nil
 have bo:=wk.b.ob
 simp_all! [bo]
 refine ⟨dg _ _ _ _,p,L,rfl,wk.b,wk.ok,λJ3 p2 L2 s3 b2 ok2 al2 own2=>?_⟩
 refine hNq _ _ ?_
 clear hNq Nq
 have b13:=wk.b.sub s3
 have bo3:=b13.ob
 simp_all! [bo3]
 refine ⟨dg _ _ _ _,p,L,rfl,b13,wk.ok,λJ4 p3 L3 s4 b3 ok3 al3 own3=>?_⟩
 refine hNq _ _ ?_
 clear hNq Nq
 have wlL:∀c∈L.cs,c.w.length≤1 + cs.length:=wk.wl
 have wl3:∀c∈L3.cs,c.w.length≤1 + cs.length:=qv λf hf=>p5 wlL f (by rw [← al3.cs];exact hf)
 have bo4:=b3.ob
 simp_all! [bo4]
 refine ⟨dg _ _ _ _,p3,L3,rfl,b3,ok3,(λc hc=>by have:=wl3 c hc;omega),λJ5 L4 b5 ok5 e5 t5 mv5=>?_⟩
 refine hNq _ _ ?_
 clear hNq Nq
 have wl5:=xS wl3 e5
 have bo5:=b5.ob
 simp_all! [bo5]
 refine ⟨dg _ _ _ _,p3,L4,rfl,b5,ok5,(λc hc=>by have:=wl5 c hc;omega),λJ6 L5 b6 ok6 e6 t6 mv6=>?_⟩
 refine hNq _ _ ?_
 clear hNq Nq
 have mv46:=mv5.trans mv6
 have s24:Sub J2 J4:=λa u e=>s4 _ _ (s3 _ _ e)
 have own3':∀{a u},J2 a=some u→¬ L3.own p3 a:=λ{a u} h z=>by have:=own3 _ z;rw [s3 _ _ h] at this;cases this
 have hD6:=mv46.keep _ _ (s24 _ _ wk.hD) (own3' wk.hD)
 have hU6:=mv46.keep _ _ (s24 _ _ wk.hU) (own3' wk.hU)
 have hT6:=mv46.keep _ _ (s24 _ _ hT2) (own3' hT2)
 have b16:=(wk.b.sub s24).off mv46 λa z y=>b13.some z (own3 a y)
 have b26:=(b2.sub s4).off mv46 λa z y=>b2.some z (own3 a y)
 have f6:L5.cs.map Cf.face=L.cs.map Cf.face:=by
  rw [e6,gP,e5,gP,t5,al3.t,al3.cs]
  exact xR hnr λf hf=>by
   obtain ⟨c,hc,rfl⟩:=TB.mp hf
   exact wk.rl.ct c hc
 have t16:L5.t=L.t:=t6.trans (t5.trans al3.t)
 have al6:L.alike L5:=⟨t16,by rw [ok6.row,wk.ok.row,t16,fP L5,fP L,f6],f6⟩
 simp_all! []
 refine ⟨p,p3,L,L5,.ref U,used,rfl,by rw [yn,hU6],b16,b6,wk.ok,ok6,al6,hun,?_⟩
 refine hNq _ _ ?_
 clear hNq Nq
 have bo6:=b16.ob
 simp_all! [bo6]
 refine ⟨dg _ _ _ _,p,L,rfl,b16,wk.ok,(λc hc=>by have:=wlL c hc;omega),λJ7 L1 b7 ok7 e7 t7 mv7=>?_⟩
 refine hNq _ _ ?_
 clear hNq Nq
 have hD7:=mv7.keep _ _ hD6 wk.nD
 have hU7:=mv7.keep _ _ hU6 wk.nU
 have hT7:=mv7.keep _ _ hT6 (b16.Ar hT6)
 have nD7:=mv7.fresh hD6 wk.nD
 have nU7:=mv7.fresh hU6 wk.nU
 have b27:=b26.off mv7 λa z y=>wk.b.some y (own2 a z)
 have sep7:∀a,L2.own p2 a→¬ L1.own p a:=λa z y=>(mv7.own _ y).elim (λy=>wk.b.some y (own2 a z)) λy=>b26.some z y
 have isJ:∀{a u},J2 a=some u→¬ L2.own p2 a:=λh z=>by have:=own2 _ z;rw [h] at this;cases this
 have nD2:=isJ wk.hD
 have nU2:=isJ wk.hU
 have hkv:(bJ gs).map (λkv=>PV.str kv.1)=(gs.map (·.1)).map PV.str:=by unfold bJ;rw [TK,TK];rfl
 simp_all! [hD7,hkv]
 obtain ⟨M,hM⟩:∃M:Sr→Hq→Prop,∀τ' J',M τ' J'↔∃th:List Str,τ'=[some (.fl (ns.map .int)),some (.fl [.int d0,.int d1,.int d2]),some (.fl (names.map .str)),some (.ref p),some (.fl (cs.map .int)),some (.ref D),some (fr L.t),some (.ref U),some (.fl [.int e0,.int e1]),some (.ref p2),some (.ref p3),some (.fl (th.map .str)),none,none,none]∧J'=J7∧th.Nodup∧∀n,n∈th↔n∈gs.map (·.1):=⟨_,λ_ _=>Iff.rfl⟩
 refine ⟨M,?_,?_⟩
 ·simp_all! [KI,RZ]
  split
  ·exact (hM _ _).mpr ⟨(gs.map (·.1)).reverse,by rw [List.map_reverse],rfl,List.pairwise_reverse.mpr (gnd.imp Ne.symm),λn=>List.mem_reverse⟩
  ·exact (hM _ _).mpr ⟨gs.map (·.1),rfl,rfl,gnd,λ_=>Iff.rfl⟩
 intro τ' J' hm
 obtain ⟨th,rfl,rfl,thnd,thm⟩:=(hM _ _).mp hm
 clear hm hM M
 simp_all! []
 have face0:L2.cs.map Cf.face=dm L.t (th.take 0) (L.cs.map Cf.face):=by rw [Vv,xA];exact al2.cs
 have legs0:bJ (eL L.t (th.take 0) gs)=bJ gs:=by rw [Vv,Bi]
 obtain ⟨Inv,hInv⟩:∃Inv:Nat→Sr→Hq→Prop,∀i τ J',Inv i τ J'↔∃(O:Ln) (ep':Nat) (u12:Option PV),τ=[some (.fl (ns.map .int)),some (.fl [.int d0,.int d1,.int d2]),some (.fl (names.map .str)),some (.ref p),some (.fl (cs.map .int)),some (.ref D),some (fr L.t),some (.ref U),some (.fl [.int e0,.int e1]),some (.ref p2),some (.ref p3),some (.fl (th.map .str)),u12,none,none]∧aX cN cL J' p2 O∧bU O∧O.t=L.t∧O.cs.map Cf.face=dm L.t (th.take i) (L.cs.map Cf.face)∧(∀a,O.own p2 a→¬ L1.own p a)∧aX cN cL J' p L1∧J' D=some (.dct (bJ (eL L.t (th.take i) gs)) ep')∧J' U=some (.lst (used.map .str))∧J' T=some .tab∧¬ O.own p2 D∧¬ O.own p2 U:=⟨_,λ_ _ _=>Iff.rfl⟩
 refine fA Inv ((hInv _ _ _).mpr ⟨L2,ep,_,rfl,b27,ok2,al2.t,face0,sep7,b7,by rw [legs0];exact hD7,hU7,hT7,nD2,nU2⟩) (λ_ _ _ _=>trivial) ?_ ?_
 ·intro i x τ J' hx hv
  obtain ⟨O,ep',u12,rfl,bO,okO,tO,fO,sepO,bL,hDi,hUi,hTi,nDi,nUi⟩:=(hInv _ _ _).mp hv
  clear hv
  have hi:i < th.length:=by have:=(TC.mp hx).1;simpa using this
  rw [TN,Tz hi] at hx
  cases hx
  have et:th.take (i + 1)=th.take i ++ [th[i]]:=by rw [Ub,Tz hi];rfl
  have hnd:=thnd.sublist (Uy (i + 1) th)
  rw [et] at hnd
  have hnot:=(eX hnd).2
  have hin:=(thm _).mp (Uk hi)
  generalize th[i]=n at hin et hnot ⊢
  obtain ⟨l,hml⟩:∃l,(n,l)∈gs:=by
   obtain ⟨x,hx,e⟩:=TB.mp hin
   exact ⟨x.2,by rw [← e];exact hx⟩
  have hva:mI (bJ (eL L.t (th.take i) gs)) n=some l.V:=iu (f:=aP.V) (by rw [uZ];exact gnd) (Bj hml hnot)
  have hrow:n∈O.row:=(okO.rm n).mpr (by rw [BJ,fO,um,← BJ,← wk.rl.nm];exact hin)
  have hlv:l.v.natAbs≤1000:=(wk.rl.ck _ hml).v
  have wlO:∀c∈O.cs,c.w.length < 200:=λc hc=>by
   have:=qv (λf hf=>xy (p5 wlL) f (by rw [← fO];exact hf)) c hc
   omega
  have boO:=bO.ob
  simp_all! [hDi,hva,lM,boO]
  refine ⟨dg _ _ _ _,p2,O,n,-l.v,rfl,bO,okO,wlO,λz=>absurd hrow z,λ_ z=>absurd (show (-l.v).natAbs≤1000 by omega) z,λ_ _ J8 O' b8 ok8 e8 t8 mv8=>?_⟩
  refine hNq _ _ ?_
  clear hNq Nq
  have hD8:=mv8.keep _ _ hDi nDi
  have sll:=gsz _ hml
  simp_all! [hD8,hva]
  refine ⟨l,L.t,rfl,sll.m,sll.p,st,sll.v,?_⟩
  simp_all! [hD8,hva,lM,sC]
  have hin':n∈(eL L.t (th.take i) gs).map (·.1):=by rw [uZ];exact hin
  have hlen':(eL L.t (th.take i) gs).length≤12:=by unfold eL;rw [Tx];exact gl
  refine ⟨a_ (by unfold bJ;rw [Tx];omega),λep2=>(hInv _ _ _).mpr ⟨O',ep2,_,rfl,?_⟩⟩
  have nD8:=mv8.fresh hDi nDi
  have nU8:=mv8.fresh hUi nUi
  have nTD:T≠D:=λe=>by rw [e,hDi] at hTi;cases hTi
  refine ⟨b8.keep λa u ow e=>?_,ok8,t8.trans tO,?_,λa z y=>?_,(bL.off mv8 λa z y=>sepO a y z).keep λa u ow e=>?_,?_,?_,?_,nD8,nU8⟩
  ·rw [ak (λz=>by subst z;exact nD8 ow)];exact e
  ·rw [e8,Be,fO,tO,et]
   refine uk hnot λf hf e=>?_
   obtain ⟨c,hc,rfl⟩:=TB.mp hf
   have hnL:n∈L.row:=(wk.ok.rm n).mpr (by rw [← wk.rl.nm];exact hin)
   obtain ⟨c0,h0,hcn,hcg⟩:=wk.ok.found hnL
   obtain rfl:c=c0:=wk.ok.uniq hc h0 (show c.n=c0.n by rw [hcn];exact e)
   have sl:l.v=c.cur.v:=(wk.rl.ln n l c.cur hml (TB.mpr ⟨c,Ln.c7.mpr ⟨hc,hcg⟩,by rw [hcn]⟩)).1
   exact ⟨by show c.g.isNone=true;rw [hcg];rfl,by rw [sl];rfl⟩
  ·rcases mv8.own _ z with z | z
   ·exact sepO a z y
   ·exact bL.some y z
  ·rw [ak (λz=>by subst z;exact nD7 ow)];exact e
  ·rw [aq,AN hin',zr gnd hml hnot,et]
  ·rw [ak wk.ne];exact mv8.keep _ _ hUi nUi
  ·rw [ak nTD];exact mv8.keep _ _ hTi (bO.Ar hTi)
 intro τ J' hv
 obtain ⟨O,ep',u12,rfl,bO,okO,tO,fO,sepO,bL,hDi,hUi,hTi,nDi,nUi⟩:=(hInv _ _ _).mp hv
 clear hv hInv Inv
 rw [Tx,Uc] at fO hDi
 rw [xx λf hf e=>(thm _).mpr (by
  obtain ⟨c,hc,rfl⟩:=TB.mp hf
  rw [wk.rl.nm,er]
  exact TB.mpr ⟨c,Ln.c7.mpr ⟨hc,Option.isNone_iff_eq_none.mp e⟩,rfl⟩)] at fO
 rw [Bh λx hx=>(thm _).mpr (TB.mpr ⟨x,hx,rfl⟩)] at hDi
 have f18:O.cs.map Cf.face=L1.cs.map Cf.face:=by rw [fO,e7,gP]
 have al8:L1.alike O:=⟨by rw [tO,t7],by rw [okO.row,ok7.row,tO,t7,fP O,fP L1,f18],f18⟩
 have hun1:L1.cs.map Cf.n=used:=by rw [e7,dO (λc=>(qF L.t c).1)];exact hun
 have rl1:Rl L1 (b9 L.t gs):=wk.rl.about wk.ok.toba e7 t7
 have and1:((b9 L.t gs).map (·.1)).Nodup:=rl1.nd ok7.toba
 have al1:(b9 L.t gs).length≤12:=by unfold b9;rw [Tx];exact gl
 have asz:∀x∈b9 L.t gs,sH 900 x.2:=λx hx=>(rl1.sz x hx).mono (by decide)
 have row1:L1.row=cY L.t (b9 L.t gs):=by rw [ok7.row,t7];exact yG ok7.LH and1 (rl1.same L.t)
 refine hNq _ _ ?_
 clear hNq Nq
 have boL:=bL.ob
 simp_all! []
 refine ⟨p,p2,L1,O,.ref U,used,rfl,by rw [yn,hUi],bL,bO,ok7,okO,al8,hun1,?_⟩
 simp_all! [boL]
 refine ⟨dg _ _ _ _,p,L1,rfl,bL,.inl ?_⟩
 simp_all! []
 refine ⟨D,b9 L.t gs,ep',L.t,rfl,hDi,and1,by omega,st,asz,?_⟩
 refine ⟨L1.row,by rw [row1],T4 ok7.rl (by decide),?_⟩
 refine hNq _ _ ?_
 clear hNq Nq
 simp_all! [wD]
 refine ⟨by omega,by omega,λ_=>true,λx=>.int (o9 ns (36 + Nz x)),⟨by rw [fq];exact a_ (by omega),λJ' _=>⟨trivial,λx hx=>⟨⟨rfl,rfl⟩,λ_=>?_⟩⟩⟩,?_⟩
 ·obtain ⟨i,hi⟩:=T5.mp hx
  obtain ⟨i1,rfl⟩:=(m6 _ _ _ _).mp hi
  simp_all! []
  exact ⟨ns,_,rfl,by omega,by omega,rfl,rfl⟩
 obtain ⟨ms,hms,hml⟩:∃ms:List Int,((ox 0 e1.toNat).filter λ_=>true).map (λx=>PV.int (o9 ns (36 + Nz x)))=ms.map .int∧ms.length≤7:=⟨((ox 0 e1.toNat).filter λ_=>true).map (λx=>o9 ns (36 + Nz x)),by rw [TK];rfl,by
  rw [Tx]
  exact T4 (Uu _ _) (by rw [fq];omega)⟩
 rw [hms]
 refine hNq _ _ ?_
 clear hNq Nq hms
 have hnl4:names.length≤40:=by omega
 have rlO:Rl O (b9 L.t gs):=rl1.alike al8
 have wlI:∀c∈L1.cs,c.w.length≤1 + (cs.length + 8):=λc hc=>by have:=xS wlL e7 c hc;omega
 have wlO:∀c∈O.cs,c.w.length≤1 + (cs.length + 8):=qv λf hf=>p5 wlI f (by rw [← f18];exact hf)
 have td1:L1.t.den≤60:=by rw [t7];exact wk.td
 have tl8:L1.t≤((500 * (cs.length + 8):Nat):Rat):=by rw [t7];exact Rat.le_trans wk.tl (by exact_mod_cast (show 500 * cs.length≤500 * (cs.length + 8) by omega))
 simp_all! []
 refine ⟨p,L1,D,.ref U,b9 L.t gs,ep',used,names,ms,d2,cs.length + 8,by rw [t7],bL,ok7,rl1,hDi,by rw [yn,hUi],hun1,hus,by omega,td1,tl8,wlI,hTi,hnl4,ng,by omega,d20,d21,λJ6 L6 D6 U6 gs6 ep6 used6 wk6 hun6 hus6 hul6 run6=>?_⟩
 refine hNq _ _ ?_
 clear hNq Nq
 have sep6:∀a,(L6.own p a∨a=D6∨a=U6)→¬ O.own p2 a:=λa z y=>by
  rcases wk6.mv.own _ z with z | z
  ·exact sepO a y z
  ·exact bO.some y z
 have b56:=bO.off wk6.mv λa z=>sepO a z
 have hD6:=wk6.mv.keep _ _ hDi nD7
 have hU6:=wk6.mv.keep _ _ hUi nU7
 have hT6:=wk6.mv.keep _ _ hTi (bL.Ar hTi)
 have cnO:O.cs.map Cf.n=used:=by rw [al8.nm];exact hun1
 simp_all! []
 refine ⟨p2,O,D,.ref U,b9 L.t gs,ep',used,names,ms,d2,cs.length + 8,by rw [tO],b56,okO,rlO,hD6,by rw [yn,hU6],cnO,hus,by omega,by rw [al8.t];exact td1,by rw [al8.t];exact tl8,wlO,hT6,hnl4,ng,by omega,d20,d21,λJ7 L7 D7 U7 gs7 ep7 used7 wk7 hun7 hus7 hul7 run7=>?_⟩
 refine hNq _ _ ?_
 clear hNq Nq
 have e0':eg O (b9 L.t gs) used=eg L1 (b9 L.t gs) used:=by
  show sI.mk _ _ _ _=sI.mk _ _ _ _
  rw [al8.t,f18]
 rw [e0',← run6] at run7
 have et:=congrArg sI.t run7
 have ef:L7.cs.map Cf.face=L6.cs.map Cf.face:=congrArg sI.fc run7
 have et:L7.t=L6.t:=et
 have efs:L7.fs=L6.fs:=by rw [fP,fP,ef]
 have al7:L6.alike L7:=⟨et,by rw [wk7.ok.row,wk6.ok.row,et,efs],ef⟩
 have b67:=wk6.b.off wk7.mv λa z=>sep6 a (.inl z)
 have hU67:=wk7.mv.keep _ _ wk6.hU (sep6 U6 (.inr (.inr rfl)))
 have hT7:=wk7.mv.keep _ _ hT6 (b56.Ar hT6)
 have a2:de [PV.ref D6,fr L6.t,PV.ref U6] 2=some (.ref U6):=jY _ _ _ _
 simp_all! [a2]
 exact ⟨p,p2,L6,L7,.ref U6,used6,rfl,by rw [yn,hU67],b67,wk7.b,wk6.ok,wk7.ok,al7,hun6,q J7 (by simpa using hT7)⟩
end
theorem Ll {P:Program} {w:World} {K:PySem.W.Frag} {mg:Str→Option Value} (Z:bP mg) (N:qC K mg) {jG:Tok} (gg:mg "FARTHEST"=some (.int 1000000 jG)) {fZ:Tok} (d8:mg "FASTEST"=some (.int 1000 fZ)) {nY:Tok} (j4:mg "FINEST"=some (.int 60 nY)) {nZ:Tok} (j5:mg "LATEST"=some (.int 1000000 nZ)) {lG:Tok} (iF:mg "LONGEST"=some (.int 8 lG)) {xu:Tok} (qS:mg "MOST"=some (.int 12 xu)) {qr:Tok} (m4:mg "SIGNS"=some (.str "abcdefghijklmnopqrstuvwxyz0123456789" qr)) {pd:Addr} (fj:Own K mg "BadMoment" pd) {uC:Addr} (iy:Own K mg "BadName" uC) {EV:Addr} (qD:Own K mg "Full" EV) {uD:Addr} (d7:Own K mg "NoCraft" uD) {qN:Addr} (f7:Own K mg "NotThere" qN) {EW:Addr} (qE:Own K mg "Past" EW) {BF:Addr} (mR:Own K mg "Taken" BF) {x5:Addr} (fk:Own K mg "TooFar" x5) (X_Log:∃C,dD K mg "Log" C∧aD K C "rows"∧aD K C "gone"∧dF K C "__init__" "Log.__init__" gC∧dF K C "turn" "Log.turn" mw∧dF K C "leave" "Log.leave" kS∧dF K C "legs" "Log.legs" mr∧dF K C "twin" "Log.twin" mx∧dF K C "there" "Log.there" kT∧dF K C "leg_at" "Log.leg_at" jE) (X_Lane:∃C,dD K mg "Lane" C∧aD K C "now"∧aD K C "logs"∧aD K C "row"∧dF K C "__init__" "Lane.__init__" fK∧dF K C "twin" "Lane.twin" gU∧dF K C "must_be_there" "Lane.must_be_there" dk∧dF K C "leg_of" "Lane.leg_of" ie∧dF K C "settle" "Lane.settle" fi∧dF K C "join" "Lane.join" kQ∧dF K C "clock" "Lane.clock" jy∧dF K C "order" "Lane.order" jC∧dF K C "log_of" "Lane.log_of" ig∧dF K C "history" "Lane.history" gB∧dF K C "meets" "Lane.meets" jB∧dF K C "foretold" "Lane.foretold" fL∧dF K C "go_to" "Lane.go_to" jz∧dF K C "bells" "Lane.bells" jx∧dF K C "turn" "Lane.turn" kR∧dF K C "about" "Lane.about" jw∧dF K C "leave" "Lane.leave" jA) (X_Bells:∃C,dD K mg "Bells" C∧aD K C "rows"∧dF K C "__init__" "Bells.__init__" ff∧dF K C "drop" "Bells.drop" fW∧dF K C "put" "Bells.put" kP∧dF K C "told" "Bells.told" jv) (K7:Def K mg "_law_cell" AV) (Ep:Def K mg "_law_digits" rS) (Es:Def K mg "shared" rV) (zG:Def K mg "fraction" my) (NM:Def K mg "_law_low" GD) (K_:Def K mg "less" AX) (Lb:Def K mg "plus" A2) (Hm:Def K mg "minus" wO) (Hs:Def K mg "times" wR) {gM:Addr} (gL:zK K mg "good_name" gW gM) (Hn:Def K mg "_law_names" nK) (zJ:Def K mg "place_on" mC) (C3:Def K mg "last_by" oS) (sV:Def K mg "lies_behind" ik) (zH:Def K mg "in_order" mz) (sW:Def K mg "rings_ahead" il) (C4:Def K mg "meeting" oT) (mO:Def K mg "in_lowest_terms" eJ) (sU:Def K mg "good_moment" ij) (Ht:Def K mg "_law_whole" wU) (La:Def K mg "_law_part" AZ) (Hu:Def K mg "_law_words" wV) (C5:Def K mg "_law_passrow" oU) (zI:Def K mg "_law_passrows" mB) (Er:Def K mg "_law_placed" rT) (Hr:Def K mg "_law_paced" wQ) (Qx:Def K mg "_law_at" M4) (Hl:Def K mg "_law_later" wN) (Hj:Def K mg "_law_acted" wK) (Eo:Def K mg "_law_before" rR) (Ho:Def K mg "_law_order" qj) (K9:Def K mg "_law_done" AW) (K8:Def K mg "_law_deed" wM) (Lc:Def K mg "_law_walk" A3) (K':Def K mg "_law_more" AY) (Hk:Def K mg "_law_alike" wL) {f:Addr} {fd:FuncData} (F:bZ K "law" "law" uV f fd) (base:Heap) (Bm:BMain mg base) :
  aL P w K mg base (cV P w) 11 f fd ["_law_script"] (dn K (A9 [gM])):=by
 obtain ⟨xV,a9,aH,bx,pJ,xK,vo,xJ,xM,vp,tG⟩:=X_Log
 obtain ⟨QN,au,ay,aB,az,og,vn,jP,qz,qB,vj,tu,tF,qA,pI,tE,oh,tw,tq,vm,tm,tD⟩:=X_Lane
 obtain ⟨Qi,bD,aV,mQ,s_,vi,tj⟩:=X_Bells
 have Lf:=K7.fo (P:=P) (w:=w) (base:=base) (λ_ _ F=>FU F Z) λ_ _ _ _ _ _=>jT λ_ _=>rfl
 have c9:=Ep.EL (P:=P) (w:=w) (base:=base) (λ_ _ F=>DG F Z.toEd) λ_ _ _ _ _ _=>jT λ_ _=>rfl
 have qy:=yj c9
 have iw:=Es.EL (P:=P) (w:=w) (base:=base) (λ_ _ F=>DH F Z.toEd) λ_ _ _ _ _ _=>jT λ_ _=>rfl
 have EC:=ym iw
 have bT:=zG.EL (λ_ _ F=>yz F Z.toEd iw) λ_ _ _ _ _ _=>jT λ_ _=>rfl
 have zM:=tN bT
 have xF:=NM.EL (P:=P) (w:=w) (base:=base) (λ_ _ F=>Mj F Z.toEd) λ_ _ _ _ _ _=>jT λ_ _=>rfl
 have JS:=FC xF
 have dX:=K_.EL (P:=P) (w:=w) (base:=base) (λ_ _ F=>IE F Z.toEd) λ_ _ _ _ _ _=>jT λ_ _=>rfl
 have n_:=Dw dX
 have zF:=Lb.EL (λ_ _ F=>IF F Z.toEd bT) λ_ _ _ _ _ _=>jT λ_ _=>rfl
 have mM:=Hm.EL (λ_ _ F=>FQ F Z.toEd bT) λ_ _ _ _ _ _=>jT λ_ _=>rfl
 have vg:=Hs.EL (λ_ _ F=>FT F Z.toEd bT) λ_ _ _ _ _ _=>jT λ_ _=>rfl
 have Lh:=Dx zF
 have Bq:=Ah mM
 have HC:=Aj vg
 have jV:=gL.EL (P:=P) (w:=w) (base:=base) (λ_ _ _ F=>v3 F Z.toEd Bm iF m4) λ_ _ _ _ _ _=>zw λ_=>rfl
 have xI:=qZ jV
 have vf:=Hn.EL (λ_ _ F=>FR F Z.toEd c9) λ_ _ _ _ _ _=>jT λ_ _=>rfl
 have Hz:=Ai vf
 have l6:=zJ.fo (λ_ _ F=>v9 F Z Lh Bq HC) λ_ _ _ _ _ _=>jT λ_ _=>rfl
 have C6:=C3.fo (λ_ _ F=>yA F Z n_) λ_ _ _ _ _ _=>jT λ_ _=>rfl
 have sY:=sV.fo (λ_ _ F=>pR F Z l6 n_) λ_ _ _ _ _ _=>QL λ_ _ _ _ _=>rfl
 have zN:=zH.fo (λ_ _ F=>v7 F Z sY) λ_ _ _ _ _ _=>jT λ_ _=>rfl
 have ur:=pJ.Rp (P:=P) (w:=w) (base:=base) a9 (λ_ _ F=>yv F a9 aH bx) λ_ _ _ _ _ _=>Nx λ_ _ _ _=>rfl
 have eW:=xK.pO (mg:=mg) a9.cl (λ_ _ F=>yx F Z a9 aH l6) λ_ _ _ _ _ _=>Lm λ_ _ _=>rfl
 have ka:=vo.pO (P:=P) (w:=w) (base:=base) (mg:=mg) a9.cl (λ_ _ F=>vY F Z a9 bx) λ_ _ _ _ _ _=>jT λ_ _=>rfl
 have mj:=xJ.pO (P:=P) (w:=w) (base:=base) (mg:=mg) a9.cl (λ_ _ F=>yw F Z a9 aH) λ_ _ _ _ _ _=>zw λ_=>rfl
 have ml:=xM.pO (mg:=mg) a9.cl (λ_ _ F=>yy F Z a9 aH bx ur) λ_ _ _ _ _ _=>zw λ_=>rfl
 have kb:=vp.pO (mg:=mg) a9.cl (λ_ _ F=>vZ F Z a9 aH bx n_) λ_ _ _ _ _ _=>jT λ_ _=>rfl
 have jb:=tG.pO (mg:=mg) a9.cl (λ_ _ F=>t9 F Z a9 aH f7 kb C6) λ_ _ _ _ _ _=>jT λ_ _=>rfl
 have oi:=og.Rp (P:=P) (w:=w) (base:=base) au (λ_ _ F=>vU F (cL:=xV) N au ay aB az) λ_ _ _ _ _ _=>zw λ_=>rfl
 have gS:=vn.pO (mg:=mg) au.cl (λ_ _ F=>vX F Z au ay aB az oi ml) λ_ _ _ _ _ _=>zw λ_=>rfl
 have aY:=jP.pO (P:=P) (w:=w) (base:=base) (mg:=mg) au.cl (λ_ _ F=>jR F Z (cL:=xV) au az d7) λ_ _ _ _ _ _=>jT λ_ _=>rfl
 have bG:=qz.pO (mg:=mg) au.cl (λ_ _ F=>rg F Z au aB ay aY jb) λ_ _ _ _ _ _=>jT λ_ _=>rfl
 have bh:=qB.pO (mg:=mg) au.cl (λ_ _ F=>rj F Z au az ay bG zN) λ_ _ _ _ _ _=>zw λ_=>rfl
 have j_:=vj.pO (mg:=mg) au.cl (λ_ _ F=>vV F Z au az ay aB gg d8 qS iy fk mR qD xI ur bh) λ_ _ _ _ _ _=>Nx λ_ _ _ _=>rfl
 have fR:=tu.pO (P:=P) (w:=w) (base:=base) (mg:=mg) au.cl (λ_ _ F=>tW F Z (cL:=xV) au ay) λ_ _ _ _ _ _=>zw λ_=>rfl
 have cT:=tF.pO (P:=P) (w:=w) (base:=base) (mg:=mg) au.cl (λ_ _ F=>t4 F Z (cL:=xV) au az) λ_ _ _ _ _ _=>zw λ_=>rfl
 have g8:=qA.pO (P:=P) (w:=w) (base:=base) (mg:=mg) au.cl (λ_ _ F=>rh F Z (cL:=xV) au aB d7) λ_ _ _ _ _ _=>jT λ_ _=>rfl
 have eu:=pI.pO (mg:=mg) au.cl (λ_ _ F=>pP F Z au g8 mj) λ_ _ _ _ _ _=>jT λ_ _=>rfl
 have sZ:=sW.fo (λ_ _ F=>pS F Z n_) λ_ _ _ _ _ _=>jT λ_ _=>rfl
 have k4:=mQ.Rp (P:=P) (w:=w) (base:=base) bD (λ_ _ F=>tS F bD aV) λ_ _ _ _ _ _=>zw λ_=>rfl
 have i8:=s_.pO (P:=P) (w:=w) (base:=base) (mg:=mg) bD.cl (λ_ _ F=>tR F Z bD aV) λ_ _ _ _ _ _=>Lm λ_ _ _=>rfl
 have d_:=vi.pO (mg:=mg) bD.cl (λ_ _ F=>vT F Z bD aV i8 sZ) λ_ _ _ _ _ _=>Nx λ_ _ _ _=>rfl
 have dq:=tj.pO (P:=P) (w:=w) (base:=base) (mg:=mg) bD.cl (λ_ _ F=>tT F Z bD aV) λ_ _ _ _ _ _=>zw λ_=>rfl
 have C7:=C4.fo (λ_ _ F=>yB F Z N l6 Bq zM) λ_ _ _ _ _ _=>jT λ_ _=>rfl
 have dt:=tE.pO (mg:=mg) au.cl (λ_ _ F=>tZ F Z au ay bG C7 n_) λ_ _ _ _ _ _=>Lm λ_ _ _=>rfl
 have mP:=mO.fo (λ_ _ F=>lK F Z EC) λ_ _ _ _ _ _=>zw λ_=>rfl
 have sX:=sU.fo (λ_ _ F=>pQ F Z j4 j5 mP) λ_ _ _ _ _ _=>zw λ_=>rfl
 have fE:=oh.pO (mg:=mg) au.cl (λ_ _ F=>oE F Z au ay az fj qE sX n_ k4 dt d_ dq) λ_ _ _ _ _ _=>jT λ_ _=>rfl
 have i9:=tw.pO (mg:=mg) au.cl (λ_ _ F=>tX F Z au ay fE bh) λ_ _ _ _ _ _=>jT λ_ _=>rfl
 have fQ:=tq.pO (mg:=mg) au.cl (λ_ _ F=>tV F Z au az k4 dt d_ dq) λ_ _ _ _ _ _=>zw λ_=>rfl
 have ed:=vm.pO (mg:=mg) au.cl (λ_ _ F=>vW F Z au aB ay d8 fk aY eW bh) λ_ _ _ _ _ _=>Lm λ_ _ _=>rfl
 have cD:=tm.pO (mg:=mg) au.cl (λ_ _ F=>tU F Z au az aB ay bG eW bh) λ_ _ _ _ _ _=>zw λ_=>rfl
 have i_:=tD.pO (mg:=mg) au.cl (λ_ _ F=>tY F Z au aB ay az aY ka) λ_ _ _ _ _ _=>jT λ_ _=>rfl
 have HD:=Ht.fo (P:=P) (w:=w) (base:=base) (λ_ _ F=>DN F Z) λ_ _ _ _ _ _=>zw λ_=>rfl
 have EA:=La.fo (λ_ _ F=>FY F Z HD) λ_ _ _ _ _ _=>jT λ_ _=>rfl
 have Br:=Hu.fo (P:=P) (w:=w) (base:=base) (λ_ _ F=>DO F Z) λ_ _ _ _ _ _=>jT λ_ _=>rfl
 have C8:=C5.fo (λ_ _ F=>yC F Z EA) λ_ _ _ _ _ _=>jT λ_ _=>rfl
 have zO:=zI.fo (λ_ _ F=>v8 F Z C8) λ_ _ _ _ _ _=>jT λ_ _=>rfl
 have EB:=Er.fo (P:=P) (w:=w) (base:=base) (λ_ _ F=>Au F Z) λ_ _ _ _ _ _=>jT λ_ _=>rfl
 have HB:=Hr.fo (P:=P) (w:=w) (base:=base) (λ_ _ F=>DM F Z) λ_ _ _ _ _ _=>jT λ_ _=>rfl
 have Le:=Qx.fo (λ_ _ F=>Ml F Z JS) λ_ _ _ _ _ _=>jT λ_ _=>rfl
 have Hy:=Hl.fo (λ_ _ F=>DK F Z JS) λ_ _ _ _ _ _=>Nx λ_ _ _ _=>rfl
 have Bp:=Hj.fo (λ_ _ F=>DI F Z Le) λ_ _ _ _ _ _=>Lm λ_ _ _=>rfl
 have Ex:=Eo.fo (P:=P) (w:=w) (base:=base) (λ_ _ F=>As F Z) λ_ _ _ _ _ _=>jT λ_ _=>rfl
 have HA:=Ho.fo (λ_ _ F=>DL F Z Le Ex) λ_ _ _ _ _ _=>jT λ_ _=>rfl
 have Ez:=K9.fo (λ_ _ F=>FW F Z j_ i_ ed cD i9) λ_ _ _ _ _ _=>jT λ_ _=>rfl
 have Ey:=K8.fo (λ_ _ F=>FV F Z EB HB Hy) λ_ _ _ _ _ _=>Td λ_ _ _ _ _ _=>rfl
 have Li:=Lc.fo (λ_ _ F=>FZ F Z qy Ey Ez Bp) λ_ _ _ _ _ _=>Nx λ_ _ _ _=>rfl
 have Lg:=K'.fo (λ_ _ F=>FX F Z qy Ey Ez Bp) λ_ _ _ _ _ _=>QL λ_ _ _ _ _=>rfl
 have Hx:=Hk.fo (λ_ _ F=>DJ F Z EA Br zO fR cT eu fQ) λ_ _ _ _ _ _=>Lm λ_ _ _=>rfl
 exact IG F Z Lf qy Hz Li oi gS cD ed cT Le Br HA Hx Lg
end Ov
namespace PySem.W.Fast
def tw2643280211814728565:=0
def tw17089349629603903062:=0
def tw5131943652649285262:=0
def tw13590804884762956597:=0
def tw3568286808082651080:=0
def tw18225077338613972436:=0
def tw14670282833636116731:=0
def tw14043746958093975489:=0
def tw14079927729871639448:=0
def tw7177335673121975330:=0
def tw8357556316608976256:=0
def tw112027205665386021:=0
def tw8399637032177334220:=0
def tw7160503288419678050:=0
def tw16903933692010020612:=0
def tw17759593159441889111:=0
def tw11870227238338721374:=0
def tw17513177769741683333:=0
def tw1364158463931987152:=0
def tw4513612210527725894:=0
def tw13394358882972198983:=0
def tw3837976083898528087:=0
def tw15185898139130371083:=0
def tw3288836221818546347:=0
def tw17141687685063559343:=0
def tw17152182324974104653:=0
def tw2073583518246832789:=0
def tw6747926075478148434:=0
def tw2028174368374184134:=0
def tw16687910304604418684:=0
def tw9175453469335179335:=0
def tw12801954201398755325:=0
def tw7700540477513341977:=0
def tw4037860051651491604:=0
def tw7464444290073583801:=0
def tw5111557391727973583:=0
def tw4270466352182399629:=0
def tw11815455338175569631:=0
def tw10673782051748989921:=0
def tw17821013703375601973:=0
def tw15848132934245629659:=0
def tw14575574947230620512:=0
def tw17019519685406689916:=0
def tw5095081525521509288:=0
def tw2425642032282162452:=0
def tw1910075651198513287:=0
def tw13543774351399463552:=0
def tw8114977718329564479:=0
def tw6827204244279396470:=0
def tw9318157364070680061:=0
def tw10048835419669090749:=0
def tw17959569185525571062:=0
def tw17141097570450384600:=0
def tw4825510804436037975:=0
def tw6012948333802856357:=0
def tw3059033443618262507:=0
def tw489559208275062428:=0
def tw10180927689838400090:=0
def tw15586064706057569287:=0
def tw8291045479895680133:=0
def tw12516482687340642273:=0
def tw8342938719106759494:=0
def tw13029100799753135929:=0
def tw2815745861191282053:=0
def tw15763332804187730785:=0
def tw4674261574728032692:=0
def tw6575001829498945000:=0
def tw121115682889144948:=0
def tw5050022432256146973:=0
def tw2298789613517483140:=0
def tw5081018019175857510:=0
def tw11748410232364572141:=0
def tw18423647717123370906:=0
def tw18400538157641048854:=0
def tw7098375783193223511:=0
def tw12907919051654136540:=0
def tw10373968132172539387:=0
def tw2161305274471608151:=0
def tw8179948195867662795:=0
def tw13047348155407036487:=0
def tw14634146380393190158:=0
def tw14557274492583025542:=0
def tw6147178504846446747:=0
def tw12905202866047490210:=0
def tw8426889923101005044:=0
def tw12725173286382326801:=0
def tw2827398709522236982:=0
def tw1416423340857715405:=0
def tw5140765347755910118:=0
def tw16096131639098012574:=0
def tw15844412784975534268:=0
def tw14815912157948051769:=0
def tw12733574658752233694:=0
def tw2289443275787012859:=0
def tw16793033058249250722:=0
def tw6904175937156006173:=0
def tw5959383474539594067:=0
def tw556967943340570408:=0
def tw14146678585266422390:=0
def tw5608497730957489769:=0
def tw3639024561261607585:=0
def tw5754643390975654517:=0
def tw10519921615191709635:=0
def tw14166420945241755808:=0
def tw3534362942015167874:=0
def tw41031289665884640:=0
def tw15874173949067594917:=0
def tw11047642172194140400:=0
def tw1104174369981230034:=0
def tw1093810560994957371:=0
def tw2615123788767664173:=0
def tw4270712479823442987:=0
def tw17884482831811000091:=0
def tw7013429365586514562:=0
def tw12319092885523351362:=0
def tw13821273337674197665:=0
def tw10451009443128842265:=0
def tw6524801890444782755:=0
def tw5607835498390804081:=0
def tw15564972730344008296:=0
def tw3423154316973951736:=0
def tw14503305795598808188:=0
def tw12496402185090856513:=0
def tw13777501398501848538:=0
def tw931718075663070951:=0
def tw15408487980193672091:=0
def tw12688242482063011806:=0
def tw3200375012547157739:=0
def tw13177104359096316374:=0
def tw16612146162684432293:=0
def tw12927533584710350810:=0
def tw16109871131689791082:=0
def tw10276310491335453419:=0
def tw7991068141121635895:=0
def tw16476897010746106913:=0
def tw782955827891599467:=0
def tw10913097817503911986:=0
def tw16518495746836749118:=0
def tw11674966281218465537:=0
def tw4099534583083677419:=0
def tw623016678149556958:=0
def tw4687047183155838045:=0
def tw12184153549049914494:=0
def tw3424426564083153226:=0
def tw13657262417067524945:=0
def tw9130661712073240845:=0
def tw2684900535504995057:=0
def tw11277115572675272334:=0
def tw3591807080428528962:=0
def tw4420681939274424108:=0
def tw1389138924594386018:=0
def tw15491946361291427265:=0
def tw8095695891151551752:=0
def tw13043125813931203992:=0
def tw6221876645031949790:=0
def tw3060577315461149682:=0
def tw8628950412041186554:=0
def tw9783657579368889865:=0
def tw15161831165163625032:=0
def tw13155274525413000805:=0
def tw12792879549308576587:=0
def tw15034683954346579153:=0
def tw796935385850295045:=0
def tw158881520821906615:=0
def tw15716652956919048118:=0
def tw9734071022437552187:=0
def tw1394427397980917216:=0
def tw13372559679479183231:=0
def tw4922621005623472060:=0
def tw16140568579103519368:=0
def tw2994156321735271226:=0
def tw10847708305753290518:=0
def tw340159862546810543:=0
def tw16822700214075248805:=0
def tw4056119815810929130:=0
def tw4329775047345608273:=0
def tw5103284854031379479:=0
def tw2181271889667678185:=0
def tw17799712999771356184:=0
def tw18397130142850361138:=0
def tw13764766740157224587:=0
def tw4430161466017815148:=0
def tw9015447658943153133:=0
def tw10702901837843237540:=0
def tw10207713390191654668:=0
def tw4670106305732561386:=0
def tw3744310755675129327:=0
def tw1904769188353595755:=0
def tw317216577440446917:=0
def tw12143606157147303818:=0
def tw11924722256902638928:=0
def tw17973985187194300857:=0
def tw11386775050640664557:=0
def tw8771777198837586867:=0
def tw4005347989755110416:=0
def tw12592093397668411333:=0
def tw3778936268164531509:=0
def tw13556641218529141410:=0
def tw15362410960426613330:=0
def tw6458790487691006676:=0
def tw16739451338686656704:=0
def tw13674390584787492480:=0
def tw3701088782404046570:=0
def tw13444890122386026625:=0
def tw215586972952991848:=0
def tw11514638206137782636:=0
def tw3856691107650823132:=0
def tw4726122058395361291:=0
def tw11705671544184153058:=0
def tw16200007543680847316:=0
def tw11776527631287277110:=0
def tw12631679216996769943:=0
def tw17019604262409051786:=0
def tw2530224592705263259:=0
def tw1605599016159319597:=0
def tw6457805273989858555:=0
def tw16317935283120385520:=0
def tw15432294482234582343:=0
def tw4576174144057918283:=0
def tw10579602264467636491:=0
def tw5622597631702465542:=0
def tw16795718209680908922:=0
def tw8886256609164256922:=0
def tw8663114343446715148:=0
def tw13454724301959890566:=0
def tw6773343370029797691:=0
def tw12248350307558947081:=0
def tw8271338681506370691:=0
def tw18030987478504371315:=0
def tw4877210965641862158:=0
def tw7443948680976035234:=0
def tw9459300433447214758:=0
def tw3068682122785156181:=0
def tw12359848802032530501:=0
def tw3996342743817716186:=0
def tw3341940280094586696:=0
def tw16702317530424747076:=0
def tw9160614233712036402:=0
def tw8998959425679537154:=0
def tw9304011799701948421:=0
def tw5660449790078582103:=0
def tw3974574616306825559:=0
def tw2179344365747477171:=0
def tw2008999425931183363:=0
def tw12429288824520207022:=0
def tw10665309028045606093:=0
def tw2455744849813042992:=0
def tw129333234066198511:=0
def tw911538464966068214:=0
def tw10011864673704555207:=0
def tw4419919376327658069:=0
def tw9431540449446908151:=0
def tw11952031221170887068:=0
def tw7922263189251895752:=0
def tw16804036585929023498:=0
def tw7087050563306454320:=0
def tw2565660494052455790:=0
def tw13476127536441910901:=0
def tw5767461826382212872:=0
def tw11656965639384222635:=0
def tw1764307459301376698:=0
def tw10762712590476272708:=0
def tw17026656244091346340:=0
def tw5609385894544423498:=0
def tw7053258857734891304:=0
def tw10663110650585619874:=0
def tw18062617488032329233:=0
def tw2569536114520186146:=0
def tw2194813526948446755:=0
def tw3530398180108467317:=0
def tw2766092363429814786:=0
def tw6404288202726754655:=0
def tw5610482011790735843:=0
def tw10231950862166309993:=0
def tw459804657531460161:=0
end PySem.W.Fast
open PySem PySem.W PyProof.Rows
set_option hygiene false
local macro_rules | `(tactic| simp_arith)=>`(tactic| (dsimp only [L2.pH];refine' Ov.LB KX G ?a ?l ?c ?k;(case a=>k_is);(case l=>k_is);(case c=>k_is);(case k=>k_is)))
set_option maxRecDepth 100000 in
set_option maxHeartbeats 0 in
theorem PySem.Challenge.cw_overhaul_k49_about_is_each_turned_holds : PySem.Challenge.rw_overhaul_k49_about_is_each_turned.Holds := by
 w_on;o_law;k_head;(case hw=>w_witness2)
 k_fill
 refine Ov.Ha (l:=PySem.Challenge.rw_overhaul_k49_about_is_each_turned) (n:=63) (k:=11) (x:="_law_script") (sp:=Ov.GN) ["good_name"] rfl (by decide) rfl ⟨rfl,by decide,by decide⟩ (λw h Y=>PySem.W.kIn_of Y) ?Nm ?F (λtabs K H a ns hl hT hS hA hK=>⟨a,ns,rfl,hS,hl,hT,hA,hK,λ_ e=>⟨rfl,e⟩⟩)
 case Nm=>decide +kernel
 case F =>
  intro w mg fa h KX G hmg
  obtain ⟨gM,gL⟩:∃T,Ov.zK (L2.pH KX) mg "good_name" Ov.gW T:=by
   dsimp only [L2.pH]
   refine' ⟨_,Ov.HL KX G ?ga ?gl ?gc ?gk ?gt ?gp ?gb ?ge ?go⟩
   (case ga=>k_is);(case gl=>k_is);(case gc=>k_is);(case gk=>k_is);(case gt=>k_is);(case gp=>rfl);(case gb=>kernel_rfl);(case ge=>decide);(case go=>kernel_rfl)
  have NL:Ov.Def (L2.pH KX) mg "law" Ov.uV:=by simp_arith
  have Z:Ov.bP mg:=by
   refine' ⟨Ov.Ed.mk (PySem.W.mg_none_of KX G ?z0) (PySem.W.mg_none_of KX G ?z1) (PySem.W.mg_none_of KX G ?z2) (PySem.W.mg_none_of KX G ?z3) (PySem.W.mg_none_of KX G ?z4) (PySem.W.mg_none_of KX G ?z5) (PySem.W.mg_none_of KX G ?z6) (PySem.W.mg_none_of KX G ?z7) (PySem.W.mg_none_of KX G ?z8) (PySem.W.mg_none_of KX G ?z9),PySem.W.mg_none_of KX G ?w0,PySem.W.mg_none_of KX G ?w1,PySem.W.mg_none_of KX G ?w2,PySem.W.mg_none_of KX G ?w3,PySem.W.mg_none_of KX G ?w4⟩
   (case z0=>k_is);(case z1=>k_is);(case z2=>k_is);(case z3=>k_is);(case z4=>k_is);(case z5=>k_is);(case z6=>k_is);(case z7=>k_is);(case z8=>k_is);(case z9=>k_is);(case w0=>k_is);(case w1=>k_is);(case w2=>k_is);(case w3=>k_is);(case w4=>k_is)
  have N:Ov.qC (L2.pH KX) mg:=by
   dsimp only [L2.pH]
   refine' Ov.DE KX G ?a ?l
   (case a=>k_is);(case l=>k_is)
  obtain ⟨pd,fj⟩:∃C,Ov.Own (L2.pH KX) mg "BadMoment" C:=by
   dsimp only [L2.pH]
   refine' ⟨_,Ov.kq KX G ?a ?b⟩
   (case a=>k_is);(case b=>kernel_rfl)
  obtain ⟨uC,iy⟩:∃C,Ov.Own (L2.pH KX) mg "BadName" C:=by
   dsimp only [L2.pH]
   refine' ⟨_,Ov.kq KX G ?a ?b⟩
   (case a=>k_is);(case b=>kernel_rfl)
  obtain ⟨EV,qD⟩:∃C,Ov.Own (L2.pH KX) mg "Full" C:=by
   dsimp only [L2.pH]
   refine' ⟨_,Ov.kq KX G ?a ?b⟩
   (case a=>k_is);(case b=>kernel_rfl)
  obtain ⟨uD,d7⟩:∃C,Ov.Own (L2.pH KX) mg "NoCraft" C:=by
   dsimp only [L2.pH]
   refine' ⟨_,Ov.kq KX G ?a ?b⟩
   (case a=>k_is);(case b=>kernel_rfl)
  obtain ⟨qN,f7⟩:∃C,Ov.Own (L2.pH KX) mg "NotThere" C:=by
   dsimp only [L2.pH]
   refine' ⟨_,Ov.kq KX G ?a ?b⟩
   (case a=>k_is);(case b=>kernel_rfl)
  obtain ⟨EW,qE⟩:∃C,Ov.Own (L2.pH KX) mg "Past" C:=by
   dsimp only [L2.pH]
   refine' ⟨_,Ov.kq KX G ?a ?b⟩
   (case a=>k_is);(case b=>kernel_rfl)
  obtain ⟨BF,mR⟩:∃C,Ov.Own (L2.pH KX) mg "Taken" C:=by
   dsimp only [L2.pH]
   refine' ⟨_,Ov.kq KX G ?a ?b⟩
   (case a=>k_is);(case b=>kernel_rfl)
  obtain ⟨x5,fk⟩:∃C,Ov.Own (L2.pH KX) mg "TooFar" C:=by
   dsimp only [L2.pH]
   refine' ⟨_,Ov.kq KX G ?a ?b⟩
   (case a=>k_is);(case b=>kernel_rfl)
  obtain ⟨jG,gg⟩:∃t,mg "FARTHEST"=some (.int 1000000 t):=by
   refine' Ov.const_int KX G ?cz ?cw
   (case cz=>k_is);(case cw=>kernel_rfl)
  obtain ⟨fZ,d8⟩:∃t,mg "FASTEST"=some (.int 1000 t):=by
   refine' Ov.const_int KX G ?cz ?cw
   (case cz=>k_is);(case cw=>kernel_rfl)
  obtain ⟨nY,j4⟩:∃t,mg "FINEST"=some (.int 60 t):=by
   refine' Ov.const_int KX G ?cz ?cw
   (case cz=>k_is);(case cw=>kernel_rfl)
  obtain ⟨nZ,j5⟩:∃t,mg "LATEST"=some (.int 1000000 t):=by
   refine' Ov.const_int KX G ?cz ?cw
   (case cz=>k_is);(case cw=>kernel_rfl)
  obtain ⟨lG,iF⟩:∃t,mg "LONGEST"=some (.int 8 t):=by
   refine' Ov.const_int KX G ?cz ?cw
   (case cz=>k_is);(case cw=>kernel_rfl)
  obtain ⟨xu,qS⟩:∃t,mg "MOST"=some (.int 12 t):=by
   refine' Ov.const_int KX G ?cz ?cw
   (case cz=>k_is);(case cw=>kernel_rfl)
  obtain ⟨qr,m4⟩:∃t,mg "SIGNS"=some (.str "abcdefghijklmnopqrstuvwxyz0123456789" t):=by
   refine' Ov.Dg KX G ?cz ?cw
   (case cz=>k_is);(case cw=>kernel_rfl)
  obtain ⟨fd,F,hb⟩:=Ov.LY NL hmg (λ_ _ _ _ _ _ _=>rfl)
  exact ⟨fd,[gM],hb,(λT hT=>by simp only [TX,Ua,or_false] at hT;rcases hT with rfl <;> first | exact ⟨_,by simp,_,gL⟩),λbase _ _ Bm=>Ov.Du (Ov.Ll Z N gg d8 j4 j5 iF qS m4 fj iy qD d7 f7 qE mR fk (by dsimp only [L2.pH];refine' ⟨_,Ov.vJ KX G ?a ?pg ?hd ?po ?sa ?mk ?kc,?n0,?n1,Ov.bc ?m0a ?m0i ?m0l ?m0c ?m0k,Ov.bc ?m1a ?m1i ?m1l ?m1c ?m1k,Ov.bc ?m2a ?m2i ?m2l ?m2c ?m2k,Ov.bc ?m3a ?m3i ?m3l ?m3c ?m3k,Ov.bc ?m4a ?m4i ?m4l ?m4c ?m4k,Ov.bc ?m5a ?m5i ?m5l ?m5c ?m5k,Ov.bc ?m6a ?m6i ?m6l ?m6c ?m6k⟩;(case a=>k_is);(case pg=>k_is);(case hd=>k_is);(case po=>k_is);(case sa=>k_is);(case mk=>k_is);(case kc=>k_is);(case n0=>(show PySem.W.findIn _ _ _=_;k_is));(case n1=>(show PySem.W.findIn _ _ _=_;k_is));(case m0a=>k_is);(case m0i=>k_is);(case m0l=>k_is);(case m0c=>k_is);(case m0k=>k_is);(case m1a=>k_is);(case m1i=>k_is);(case m1l=>k_is);(case m1c=>k_is);(case m1k=>k_is);(case m2a=>k_is);(case m2i=>k_is);(case m2l=>k_is);(case m2c=>k_is);(case m2k=>k_is);(case m3a=>k_is);(case m3i=>k_is);(case m3l=>k_is);(case m3c=>k_is);(case m3k=>k_is);(case m4a=>k_is);(case m4i=>k_is);(case m4l=>k_is);(case m4c=>k_is);(case m4k=>k_is);(case m5a=>k_is);(case m5i=>k_is);(case m5l=>k_is);(case m5c=>k_is);(case m5k=>k_is);(case m6a=>k_is);(case m6i=>k_is);(case m6l=>k_is);(case m6c=>k_is);(case m6k=>k_is)) (by dsimp only [L2.pH];refine' ⟨_,Ov.vJ KX G ?a ?pg ?hd ?po ?sa ?mk ?kc,?n0,?n1,?n2,Ov.bc ?m0a ?m0i ?m0l ?m0c ?m0k,Ov.bc ?m1a ?m1i ?m1l ?m1c ?m1k,Ov.bc ?m2a ?m2i ?m2l ?m2c ?m2k,Ov.bc ?m3a ?m3i ?m3l ?m3c ?m3k,Ov.bc ?m4a ?m4i ?m4l ?m4c ?m4k,Ov.bc ?m5a ?m5i ?m5l ?m5c ?m5k,Ov.bc ?m6a ?m6i ?m6l ?m6c ?m6k,Ov.bc ?m7a ?m7i ?m7l ?m7c ?m7k,Ov.bc ?m8a ?m8i ?m8l ?m8c ?m8k,Ov.bc ?m9a ?m9i ?m9l ?m9c ?m9k,Ov.bc ?m10a ?m10i ?m10l ?m10c ?m10k,Ov.bc ?m11a ?m11i ?m11l ?m11c ?m11k,Ov.bc ?m12a ?m12i ?m12l ?m12c ?m12k,Ov.bc ?m13a ?m13i ?m13l ?m13c ?m13k,Ov.bc ?m14a ?m14i ?m14l ?m14c ?m14k,Ov.bc ?m15a ?m15i ?m15l ?m15c ?m15k,Ov.bc ?m16a ?m16i ?m16l ?m16c ?m16k⟩;(case a=>k_is);(case pg=>k_is);(case hd=>k_is);(case po=>k_is);(case sa=>k_is);(case mk=>k_is);(case kc=>k_is);(case n0=>(show PySem.W.findIn _ _ _=_;k_is));(case n1=>(show PySem.W.findIn _ _ _=_;k_is));(case n2=>(show PySem.W.findIn _ _ _=_;k_is));(case m0a=>k_is);(case m0i=>k_is);(case m0l=>k_is);(case m0c=>k_is);(case m0k=>k_is);(case m1a=>k_is);(case m1i=>k_is);(case m1l=>k_is);(case m1c=>k_is);(case m1k=>k_is);(case m2a=>k_is);(case m2i=>k_is);(case m2l=>k_is);(case m2c=>k_is);(case m2k=>k_is);(case m3a=>k_is);(case m3i=>k_is);(case m3l=>k_is);(case m3c=>k_is);(case m3k=>k_is);(case m4a=>k_is);(case m4i=>k_is);(case m4l=>k_is);(case m4c=>k_is);(case m4k=>k_is);(case m5a=>k_is);(case m5i=>k_is);(case m5l=>k_is);(case m5c=>k_is);(case m5k=>k_is);(case m6a=>k_is);(case m6i=>k_is);(case m6l=>k_is);(case m6c=>k_is);(case m6k=>k_is);(case m7a=>k_is);(case m7i=>k_is);(case m7l=>k_is);(case m7c=>k_is);(case m7k=>k_is);(case m8a=>k_is);(case m8i=>k_is);(case m8l=>k_is);(case m8c=>k_is);(case m8k=>k_is);(case m9a=>k_is);(case m9i=>k_is);(case m9l=>k_is);(case m9c=>k_is);(case m9k=>k_is);(case m10a=>k_is);(case m10i=>k_is);(case m10l=>k_is);(case m10c=>k_is);(case m10k=>k_is);(case m11a=>k_is);(case m11i=>k_is);(case m11l=>k_is);(case m11c=>k_is);(case m11k=>k_is);(case m12a=>k_is);(case m12i=>k_is);(case m12l=>k_is);(case m12c=>k_is);(case m12k=>k_is);(case m13a=>k_is);(case m13i=>k_is);(case m13l=>k_is);(case m13c=>k_is);(case m13k=>k_is);(case m14a=>k_is);(case m14i=>k_is);(case m14l=>k_is);(case m14c=>k_is);(case m14k=>k_is);(case m15a=>k_is);(case m15i=>k_is);(case m15l=>k_is);(case m15c=>k_is);(case m15k=>k_is);(case m16a=>k_is);(case m16i=>k_is);(case m16l=>k_is);(case m16c=>k_is);(case m16k=>k_is)) (by dsimp only [L2.pH];refine' ⟨_,Ov.vJ KX G ?a ?pg ?hd ?po ?sa ?mk ?kc,?n0,Ov.bc ?m0a ?m0i ?m0l ?m0c ?m0k,Ov.bc ?m1a ?m1i ?m1l ?m1c ?m1k,Ov.bc ?m2a ?m2i ?m2l ?m2c ?m2k,Ov.bc ?m3a ?m3i ?m3l ?m3c ?m3k⟩;(case a=>k_is);(case pg=>k_is);(case hd=>k_is);(case po=>k_is);(case sa=>k_is);(case mk=>k_is);(case kc=>k_is);(case n0=>(show PySem.W.findIn _ _ _=_;k_is));(case m0a=>k_is);(case m0i=>k_is);(case m0l=>k_is);(case m0c=>k_is);(case m0k=>k_is);(case m1a=>k_is);(case m1i=>k_is);(case m1l=>k_is);(case m1c=>k_is);(case m1k=>k_is);(case m2a=>k_is);(case m2i=>k_is);(case m2l=>k_is);(case m2c=>k_is);(case m2k=>k_is);(case m3a=>k_is);(case m3i=>k_is);(case m3l=>k_is);(case m3c=>k_is);(case m3k=>k_is)) (by simp_arith) (by simp_arith) (by simp_arith) (by simp_arith) (by simp_arith) (by simp_arith) (by simp_arith) (by simp_arith) (by simp_arith) gL (by simp_arith) (by simp_arith) (by simp_arith) (by simp_arith) (by simp_arith) (by simp_arith) (by simp_arith) (by simp_arith) (by simp_arith) (by simp_arith) (by simp_arith) (by simp_arith) (by simp_arith) (by simp_arith) (by simp_arith) (by simp_arith) (by simp_arith) (by simp_arith) (by simp_arith) (by simp_arith) (by simp_arith) (by simp_arith) (by simp_arith) (by simp_arith) (by simp_arith) (by simp_arith) F base Bm)⟩
