import PyProof.Rows.All
import Wide.All
import OpenK.AllK
import Wide.FinOn
import Lean
import PyProof.EqAt
import PyProof.EqKinds
import PyProof.TupleCall
import PyProof.NeKinds
import PyProof.CompFree
import PyProof.CompMap
import PyProof.ListRange
import PyProof.Rows.SortWalk
import PyProof.ExcArgsOwn
import PyProof.ExcAttrAll.ValueError
import KE.KTryMore
import PyProof.GenCompD
import PyProof.StrWalks
import PyProof.ConsumeS
import PyProof.StrOps2
import KE.KRevIter
import PyProof.Rows.FStr
import PyProof.ZipIter
import PyProof.DictWalks
import PyProof.DictCompW
import PyProof.DictRoads
import PyProof.MeetsDictList
import KE.KDictList
import PyProof.EnumFor
import PyProof.EnumMake
import PyProof.WalksEnum
import KE.KIntText
import PyProof.Rows.StrNews
import KE.KDictOf
import KE.KxMul
import PySem.Challenge.RW_overhaul_k56_whole_looks_each_time
noncomputable section
set_option compiler.extract_closed false
set_option Elab.async false
set_option linter.all false
set_option maxRecDepth 100000
open List renaming length_map→Us,getElem?_eq_getElem→Ut,mem_map→Uu,getElem?_eq_some_iff→Uv,getElem?_map→Uw,map_map→Ux,map_append→Uy,mem_of_getElem?→Uz,map_cons→UA,mem_append→UB,size_toArray→UD,mem_singleton→UE,mem_append_right→UG,mem_cons→UH,mem_filter→UI,map_congr_left→UK,take_add_one→UN,mem_iff_getElem?→UO,getElem_mem→UP,take_length→UQ,length_append→UR,mem_cons_of_mem→US,length_cons→UT,not_mem_nil→UU,getLast?_concat→UX,mem_cons_self→UY,length_take→UZ,filter_cons→U0,filter_map→U2,exists_cons_of_ne_nil→U3,lookup_cons→U4,dropLast_concat_getLast→U6,getElem_of_mem→U7,filter_eq_self→U8,mem_of_mem_take→U9,getElem_map→U_,take_sublist→U',map_nil→Va,append_nil→Vc,getElem?_set_self→Vd,filterMap_cons→Ve,nodup_append→Vg,pairwise_iff_getElem→Vh,map_take→Vj,take_of_length_le→Vk,getElem_inj→Vl,getElem?_eq_none→Vn,filter_append→Vo,length→Vp,getElem?_append_left→Vq,getElem?_zip_eq_some→Vr,getElem?_set_ne→Vs,dropLast_concat→Vt,nodup_cons→Vu,getElem?_cons_succ→Vv,length_drop→Vx,range→Vz,replicate→VA,filter_nil→VB,length_filter_le→VC,cons_lt_cons_iff→VE,getElem?_append_right→VF,getD_eq_getElem?_getD→VG,mem_append_left→VH,drop_eq_getElem_cons→VI,mem_flatMap→VL,mem_filterMap→VM,length_set→VN,any_cons→VO,getElem?_cons_zero→VQ,length_nil→VR,pairwise_cons→VS,lookup→VV,eraseIdxIfInBounds_toArray→VW,foldl_append→VX,mem_range→VY,take_append_drop→V1,all_eq_true→V2,any_eq_true→V3,map_drop→V4,head?_cons→V6,mem_map_of_mem→V7,filter_sublist→V8,getElem?_tail→V_,getElem?_drop→V',map_id'→Wa,drop_zero→Wb,getElem?_eq_none_iff→Wc,nodup_nil→Wd,append_assoc→Wf,eraseIdx_cons_succ→Wg,lookup_eq_some_iff→Wh,map→Wi,filter_eq_nil_iff→Wl,of_mem_zip→Wn,dropLast_eq_take→Wq,length_zip→Ws,eq_nil_or_concat→Wt,concat_eq_append→Wu,pairwise_append→Ww,mem_of_getLast?→Wx,getElem?_range→Wy,all_cons→Wz,zip_cons_cons→WA,length_range→WC,nil_lt_cons→WI,forIn_cons→WK,getD→Xb
open Nat renaming le_refl→UC,lt_of_lt_of_le→UJ,le_trans→UM,ne_of_lt→UW,zero_le→Vb,lt_of_le_of_lt→Vi,lt_irrefl→Vm,le_add_right→Vy,lt_succ_self→VJ,lt_or_eq_of_le→VT,not_lt_zero→V5,le_of_lt→V9,mul_div_cancel_left→Wj,ne_of_gt→Wm,lt_trichotomy→WD,min_self→WG,min_eq_left→WL
open Bool renaming false_eq_true→UL,and_eq_true→U1,false_ne_true→U5,and_true→Vw,decide_and→VD,false_and→VZ,and_false→V0,eq_iff_iff→Wo,beq_eq_decide_eq→Wr,and_eq_true_iff→Wv,not_eq_true'→WB
open Option renaming some→Vf,map_some→VP,map_eq_some_iff→VU,isSome_iff_exists→We,getD_none→WH
namespace L2
open PySem PySem.Spec PyProof.Rows
abbrev Key:=Sum Int Str
def Kw:Key→Value→Bool
 | .inl k,v=>Value.isInt k v
 | .inr x,v=>Value.isStrOf x v
def R1 (w:World):Key→Int
 | .inl k=>hashInt k
 | .inr x=>hashStr w x
theorem cV:∀{k:Key} {v:Value},Kw k v=true→(∃i t,k=Sum.inl i∧v=Value.int i t)∨(∃x t,k=Sum.inr x∧v=Value.str x t)
 | .inl i,v,h=>by
  obtain ⟨t,e⟩:=Value.isInt_shape (k:=i) (v:=v) h
  exact .inl ⟨i,t,rfl,e⟩
 | .inr x,v,h=>by
  obtain ⟨t,e⟩:=Value.isStrOf_shape (x:=x) (v:=v) h
  exact .inr ⟨x,t,rfl,e⟩
theorem Ms (a b:Int):decide ((Sum.inl a:Key)=Sum.inl b)=(a == b):=by
 by_cases e:a=b
 ·subst e;simp
 ·have h:¬ (Sum.inl a:Key)=Sum.inl b:=λq=>e (Sum.inl.inj q)
  rw [decide_eq_false h]
  exact (beq_eq_false_iff_ne.mpr e).symm
theorem Mw (a b:Str):decide ((Sum.inr a:Key)=Sum.inr b)=decide (a=b):=by
 by_cases e:a=b
 ·subst e;simp
 ·have h:¬ (Sum.inr a:Key)=Sum.inr b:=λq=>e (Sum.inr.inj q)
  rw [decide_eq_false h,decide_eq_false e]
theorem Mt (a:Int) (b:Str):decide ((Sum.inl a:Key)=Sum.inr b)=false:=decide_eq_false (λq=>nomatch q)
theorem Mu (a:Str) (b:Int):decide ((Sum.inr a:Key)=Sum.inl b)=false:=decide_eq_false (λq=>nomatch q)
def IQ (prog:Program) (w:World):PySem.KeyKind prog w Key where
 is:=Kw
 hash:=R1 w
 inj:=λv a b ha hb=>by
  rcases cV ha with ⟨i,t,rfl,rfl⟩ | ⟨x,t,rfl,rfl⟩
  ·rcases cV hb with ⟨j,u,rfl,e⟩ | ⟨y,u,rfl,e⟩
   ·injection e with e1 _;rw [e1]
   ·exact nomatch e
  ·rcases cV hb with ⟨j,u,rfl,e⟩ | ⟨y,u,rfl,e⟩
   ·exact nomatch e
   ·injection e with e1 _;rw [e1]
 byValue:=λk v h=>by
  rcases cV h with ⟨i,t,rfl,rfl⟩ | ⟨x,t,rfl,rfl⟩ <;> rfl
 pyHash:=λhv h=>by
  rcases cV hv with ⟨i,t,rfl,rfl⟩ | ⟨x,t,rfl,rfl⟩
  ·exact wpAny_pyHash_int h
  ·exact wpAny_pyHash_str h
 eqBool:=λhu hv h=>by
  rcases cV hu with ⟨i,t,rfl,rfl⟩ | ⟨x,t,rfl,rfl⟩
  ·rcases cV hv with ⟨j,u,rfl,rfl⟩ | ⟨y,u,rfl,rfl⟩
   ·rw [Ms] at h;exact wpAny_eqBool_int h
   ·rw [Mt] at h;exact SeqAt.EqAt.int_str i t y u _ _ _ _ h
  ·rcases cV hv with ⟨j,u,rfl,rfl⟩ | ⟨y,u,rfl,rfl⟩
   ·rw [Mu] at h;exact SeqAt.EqAt.str_int x t j u _ _ _ _ h
   ·rw [Mw] at h;exact wpAny_eqBool_str h
 «strs»:=λk x t v h=>by
  rcases cV h with ⟨i,u,rfl,e⟩ | ⟨y,u,rfl,e⟩
  ·exact nomatch e
  ·injection e with e1 _
   subst e1
   cases v <;> rfl
end L2
namespace L2
open PySem PySem.Spec PyProof.Rows
inductive V where
 | non | bl (b:Bool) | int (i:Int) | str (x:Str) | byt (b:Array UInt8) | flt (b:UInt64) | ref (a:Addr) | ty (n:String)
 deriving DecidableEq
def RelV:V→Value→Prop
 | .non,u=>u=Value.none
 | .bl b,u=>u=Value.bool b
 | .int i,u=>∃t,u=Value.int i t
 | .str x,u=>∃t,u=Value.str x t
 | .byt b,u=>∃t,u=Value.bytes b t
 | .flt b,u=>∃t,u=Value.float b t
 | .ref a,u=>u=Value.ref a
 | .ty n,u=>u=Value.type n
abbrev Vals:List V→List Value→Prop:=Paired RelV
theorem Vals.length {xs:List V} {us:List Value} (r:Vals xs us):xs.length=us.length:=Paired.length r
theorem Vals.get:∀{xs:List V} {us:List Value} {i:Nat} {x:V},Vals xs us→xs[i]?=some x→∃u,us[i]?=some u∧RelV x u
 | _,_,_,_,.nil,e=>by simp at e
 | _,_,0,_,.cons r _,e=>by simp at e;subst e;exact ⟨_,rfl,r⟩
 | _,_,i + 1,x,.cons _ t,e=>by
  obtain ⟨u,h1,h2⟩:=Vals.get (i:=i) (x:=x) t (by simpa using e)
  exact ⟨u,by simpa using h1,h2⟩
theorem Vals.set {x:V} {u:Value} (r:RelV x u):∀{xs:List V} {us:List Value} (i:Nat),Vals xs us→Vals (xs.set i x) (us.set i u)
 | _,_,_,.nil=>.nil
 | _,_,0,.cons _ t=>.cons r t
 | _,_,i + 1,.cons q t=>.cons q (Vals.set r i t)
theorem Vals.append:∀{xs ys:List V} {us ws:List Value},Vals xs us→Vals ys ws→Vals (xs ++ ys) (us ++ ws)
 | _,_,_,_,.nil,s=>s
 | _,_,_,_,.cons r t,s=>.cons r (Vals.append t s)
theorem Vals.take:∀{xs:List V} {us:List Value} (n:Nat),Vals xs us→Vals (xs.take n) (us.take n)
 | _,_,0,_=>.nil
 | _,_,_ + 1,.nil=>.nil
 | _,_,n + 1,.cons r t=>.cons r (Vals.take n t)
theorem Vals.drop:∀{xs:List V} {us:List Value} (n:Nat),Vals xs us→Vals (xs.drop n) (us.drop n)
 | _,_,0,r=>r
 | _,_,_ + 1,.nil=>.nil
 | _,_,n + 1,.cons _ t=>Vals.drop n t
def um:Option V→Option Value→Prop
 | some v,some u=>RelV v u
 | none,none=>True
 | _,_=>False
def KV {κ:Type}:List (κ × V)→List (κ × Value)→Prop:=Paired λ(p:κ × V) (q:κ × Value)=>p.1=q.1∧RelV p.2 q.2
def kV:Key→V
 | .inl i=>.int i
 | .inr x=>.str x
inductive HO where
 | lst (xs:List V)
 | tup (xs:List V)
 | dK (kvs:List (Key × V)) | dE (kvs:List (Str × V)) (ep:Nat)
 | set (S:Int→Bool) (n:Nat)
 | ins (C dx:Addr) (fs:List (Str × V))
 | own (x:Addr)
 | xd (fs:List (Str × V))
 | met (f x:Addr)
 | Ol (lo hi:Int)
 | pf (o:Obj) (u:HO)
 | tbl (ps:Array Value)
 | ext (φ:Heap→Prop)
abbrev Hp:=Addr→Option HO
def upd (H:Hp) (a:Addr) (o:HO):Hp:=λb=>if b=a then some o else H b
theorem aZ {H:Hp} {a:Addr} {o:HO}:upd H a o a=some o:=by unfold upd;rw [if_pos rfl]
theorem aW {H:Hp} {a b:Addr} {o:HO} (h:b≠a):upd H a o b=H b:=by unfold upd;rw [if_neg h]
theorem fJ {H:Hp} {a b:Addr} {o:HO} (h:H a=some o) (h':H b=none):a≠b:=by
 intro e;subst e;rw [h] at h';cases h'
section
variable (P:Program) (w:World)
def dH (H:Hp) (h:Heap) (a:Addr):HO→Prop
 | .lst xs=>xs.length≤sizeLine∧∃(its:List Value) (n:Nat),Vals xs its∧h.get? a=some { cls:=.type "list",data:=.seq its.toArray n }
 | .tup xs=>xs.length≤sizeLine∧∃its:List Value,Vals xs its∧IsTup h a its.toArray
 | .dK kvs=>kvs.length≤sizeLine∧(a == sysModules)=false∧∃vs,KV kvs vs∧h.DictOf (IQ P w) a vs
 | .dE kvs ep=>kvs.length≤sizeLine∧(a == sysModules)=false∧∃vs,KV kvs vs∧h.DictAt (strKind P w) a vs ep
 | .set S n=>h.SetOf (intKind P w) a S n
 | .ins C dx fs=>H dx=some (.own a)∧fs.length≤1000∧dx≠a∧h.get? a=some (PySem.W.instObj C dx) ∧
   ∃mA,h.Ns1 dx mA∧(∀f,um (fs.lookup f) (mA f))∧PySem.Within mA (fs.map (·.1))
 | .own _=>∃o,h.get? a=some o
 | .xd fs=>∃mA,h.Ns1 a mA∧∀f,um (fs.lookup f) (mA f)
 | .Ol lo hi=>∃t u v,h.get? a=some { cls:=.type "range",data:=.fields #[.int lo t,.int hi u,.int 1 v] }
 | .pf o u=>h.get? a=some o∧dH H h a u
 | .tbl ps=>h.get? a=some { cls:=.none,data:=.fields ps }
 | .met f x=>h.get? a=some (PySem.W.methodObj (.ref f) (.ref x))
 | .ext φ=>φ h∧(∃o,h.get? a=some o)∧∀h1 h2:Heap,φ h1→(∀o,h1.get? a=some o→h2.get? a=some o)→φ h2
def ni (H:Hp) (h:Heap):Prop:=∀a o,H a=some o→dH P w H h a o
end
section
variable {P:Program} {w:World} {H H':Hp} {h h':Heap} {a:Addr} {o:HO}
theorem dH.lt (x:dH P w H h a o):a < h.objs.size:=by
 cases o with
 | lst xs=>obtain ⟨_,_,_,_,e⟩:=x;exact Heap.lt_size e
 | tup xs=>obtain ⟨_,_,_,p⟩:=x;exact p.lt
 | dK kvs=>obtain ⟨_,_,_,_,o,_,_,e,_⟩:=x;exact Heap.lt_size e
 | dE kvs ep=>obtain ⟨_,_,_,_,o,_,e,_⟩:=x;exact Heap.lt_size e
 | set S n=>obtain ⟨o,_,_,_,e,_⟩:=x;exact Heap.lt_size e
 | ins C dx fs=>obtain ⟨_,_,_,e,_⟩:=x;exact Heap.lt_size e
 | own y=>obtain ⟨_,e⟩:=x;exact Heap.lt_size e
 | xd fs=>obtain ⟨_,⟨_,_,_,e,_⟩,_⟩:=x;exact Heap.lt_size e
 | Ol lo hi=>obtain ⟨_,_,_,e⟩:=x;exact Heap.lt_size e
 | pf ob u=>obtain ⟨e,_⟩:=x;exact Heap.lt_size e
 | tbl ps=>exact Heap.lt_size (show h.get? a=some _ from x)
 | met f y=>exact Heap.lt_size (show h.get? a=some _ from x)
 | ext φ=>obtain ⟨_,⟨_,e⟩,_⟩:=x;exact Heap.lt_size e
theorem dH.m9 (x:dH P w H h a o) (k:∀b u,(b=a∨H b=some (.own a))→h.get? b=some u→h'.get? b=some u)
  (ho:∀b,H b=some (.own a)→H' b=some (.own a)) (ht:∀b xs,H b=some (.tup xs)→H' b=some (.tup xs)):dH P w H' h' a o:=by
 induction o with
 | lst xs=>obtain ⟨z,its,n,r,e⟩:=x;exact ⟨z,its,n,r,k _ _ (.inl rfl) e⟩
 | tup xs=>obtain ⟨z,its,r,ob,e,c⟩:=x;exact ⟨z,its,r,ob,k _ _ (.inl rfl) e,c⟩
 | dK kvs=>obtain ⟨z,y,vs,r,ob,es,ep,e,c⟩:=x;exact ⟨z,y,vs,r,ob,es,ep,k _ _ (.inl rfl) e,c⟩
 | dE kvs ep=>obtain ⟨z,y,vs,r,ob,es,e,c⟩:=x;exact ⟨z,y,vs,r,ob,es,k _ _ (.inl rfl) e,c⟩
 | set S n=>obtain ⟨ob,es,ep,t,e,c⟩:=x;exact ⟨ob,es,ep,t,k _ _ (.inl rfl) e,c⟩
 | ins C dx fs =>
  obtain ⟨d,z,ne,e,mA,⟨od,es,ep,e2,c⟩,r⟩:=x
  exact ⟨ho _ d,z,ne,k _ _ (.inl rfl) e,mA,⟨od,es,ep,k _ _ (.inr d) e2,c⟩,r⟩
 | own y=>obtain ⟨ob,e⟩:=x;exact ⟨ob,k _ _ (.inl rfl) e⟩
 | xd fs=>obtain ⟨mA,⟨od,es,ep,e,c⟩,r⟩:=x;exact ⟨mA,⟨od,es,ep,k _ _ (.inl rfl) e,c⟩,r⟩
 | Ol lo hi=>obtain ⟨t,u,v,e⟩:=x;exact ⟨t,u,v,k _ _ (.inl rfl) e⟩
 | pf ob u ih=>obtain ⟨e,q⟩:=x;exact ⟨k _ _ (.inl rfl) e,ih q⟩
 | tbl ps =>
  have e:h.get? a=some { cls:=.none,data:=.fields ps }:=x
  show h'.get? a=some { cls:=.none,data:=.fields ps }
  exact k a _ (.inl rfl) e
 | met f y =>
  have e:h.get? a=some (PySem.W.methodObj (.ref f) (.ref y)):=x
  show h'.get? a=some (PySem.W.methodObj (.ref f) (.ref y))
  exact k a _ (.inl rfl) e
 | ext φ=>obtain ⟨p,⟨o,e⟩,st⟩:=x;exact ⟨st _ _ p λo q=>k _ _ (.inl rfl) q,⟨o,k _ _ (.inl rfl) e⟩,st⟩
theorem ni.lt (x:ni P w H h) (e:H a=some o):a < h.objs.size:=(x a o e).lt
theorem ni.fresh (x:ni P w H h) (e:h.objs.size≤a):H a=none:=by
 cases q:H a with
 | none=>rfl
 | some u=>exact absurd (UJ (x.lt q) e) (Vm _)
theorem ni.kept (x:ni P w H h) (k:∀b u,h.get? b=some u→h'.get? b=some u):ni P w H h':=λa o e =>
 (x a o e).m9 (λb u _ q=>k b u q) (λ_ q=>q) λ_ _ q=>q
theorem ni.laid (x:ni P w H h) (k:∀b u,h.get? b=some u→h'.get? b=some u) (hp:h.objs.size≤a) (new:dH P w (upd H a o) h' a o):ni P w (upd H a o) h':=λb u e=>by
 have hn:=x.fresh hp
 by_cases hb:b=a
 ·subst hb;rw [aZ] at e;cases e;exact new
 ·rw [aW hb] at e
  exact (x b u e).m9 (λc v _ q=>k c v q) (λc q=>by rw [aW (fJ q hn)];exact q) λc xs q=>by rw [aW (fJ q hn)];exact q
end
def Rd (H:Hp) (a:Addr) (u:HO):Prop:=H a=some u∨∃o,H a=some (.pf o u)
theorem Rd.ok {P:Program} {w:World} {H:Hp} {h:Heap} {a:Addr} {u:HO} (r:Rd H a u) (x:ni P w H h):dH P w H h a u:=by
 rcases r with r | ⟨o,r⟩
 ·exact x a u r
 ·obtain ⟨_,q⟩:=x a _ r
  exact q
def Q5:Option HO→Prop
 | some (.lst _)=>True
 | some (.dK _)=>True
 | some (.dE _ _)=>True
 | some (.set _ _)=>True
 | some (.ins _ _ _)=>True
 | some (.ext _)=>True
 | _=>False
section
variable {P:Program} {w:World} {H:Hp} {h h':Heap} {x e:Addr} {o':HO}
theorem ni.write (ok:ni P w H h) (mu:Q5 (H x)) (he:e=x∨H e=some (.own x)) (k:∀b u,b≠e→h.get? b=some u→h'.get? b=some u) (heo:∃u,h'.get? e=some u)
  (new:dH P w (upd H x o') h' x o'):ni P w (upd H x o') h':=λb u q=>by
 have nown:∀c y,H c=some (.own y)→c≠x:=λc y r z=>by subst z;rw [r] at mu;exact mu
 have ntup:∀c xs,H c=some (.tup xs)→c≠x:=λc xs r z=>by subst z;rw [r] at mu;exact mu
 by_cases hb:b=x
 ·subst hb;rw [aZ] at q;cases q;exact new
 ·rw [aW hb] at q
  by_cases hbe:b=e
  ·have q':H b=some (.own x):=by
    rcases he with z | z
    ·exact absurd (hbe.trans z) hb
    ·rw [hbe];exact z
   rw [q] at q';cases q'
   obtain ⟨v,hv⟩:=heo
   exact ⟨v,by rw [hbe];exact hv⟩
  ·refine (ok b u q).m9 (λc v hc r=>k c v ?_ r) (λc r=>by rw [aW (nown c b r)];exact r) λc xs r=>by rw [aW (ntup c xs r)];exact r
   rcases hc with rfl | hc
   ·exact hbe
   ·rintro rfl
    rcases he with z | z
    ·exact nown c b hc z
    ·rw [hc] at z;cases z;exact hb rfl
end
structure Un (fs ex:List Addr) (H H':Hp) (h h':Heap):Prop where
 keep:∀b o,h.get? b=some o→H b=none→b ∉ fs→b ∉ ex→h'.get? b=some o
 slot:∀b o,h.get? b=some o→H b=none→b∈fs→b ∉ ex→∃sl,h'.get? b=some { o with slots:=sl }
 free:∀b o,h.get? b=some o→H b=none→b ∉ ex→H' b=none
 there:∀b o,h.get? b=some o→b ∉ ex→∃o',h'.get? b=some o'
 tups:∀b xs,H b=some (.tup xs)→H' b=some (.tup xs)
 frzs:∀b o u,H b=some (.pf o u)→H' b=some (.pf o u)
 tbls:∀b ps,H b=some (.tbl ps)→∃more,H' b=some (.tbl (ps ++ more))
section
variable {fs fs' ex ex':List Addr} {H H1 H2:Hp} {h h1 h2 h':Heap} {a x e:Addr} {o:HO}
theorem Un.any (u:Un fs ex H H1 h h1) {b:Addr} {ob:Obj} (q:h.get? b=some ob) (n:H b=none) (hx:b ∉ ex):∃sl,h1.get? b=some { ob with slots:=sl }:=by
 by_cases hb:b∈fs
 ·exact u.slot b ob q n hb hx
 ·exact ⟨ob.slots,u.keep b ob q n hb hx⟩
theorem Un.kept (k:∀b u,h.get? b=some u→h'.get? b=some u):Un fs ex H H h h' :=
 ⟨λb ob q _ _ _=>k b ob q,λb ob q _ _ _=>⟨ob.slots,k b ob q⟩,λ_ _ _ n _=>n,λb ob q _=>⟨ob,k b ob q⟩,λ_ _ q=>q,λ_ _ _ q=>q,λ_ ps q=>⟨#[],by rw [q];simp⟩⟩
theorem Un.refl:Un fs ex H H h h:=Un.kept λ_ _ q=>q
theorem Un.laid (k:∀b u,h.get? b=some u→h'.get? b=some u) (hp:h.objs.size≤a) (hn:H a=none):Un fs ex H (upd H a o) h h' where
 keep:=λb u q _ _ _=>k b u q
 slot:=λb u q _ _ _=>⟨u.slots,k b u q⟩
 free:=λb u q n _=>by rw [aW (UW (UJ (Heap.lt_size q) hp))];exact n
 there:=λb u q _=>⟨u,k b u q⟩
 tups:=λb xs q=>by rw [aW (fJ q hn)];exact q
 frzs:=λb u xs q=>by rw [aW (fJ q hn)];exact q
 tbls:=λb ps q=>⟨#[],by rw [aW (fJ q hn),q];simp⟩
theorem Un.write (mu:Q5 (H x)) (he:e=x∨H e=some (.own x)) (k:∀b u,b≠e→h.get? b=some u→h'.get? b=some u) (heo:∃u,h'.get? e=some u):Un fs ex H (upd H x o) h h':=by
 have hx:∀b,H b=none→b≠x:=λb n z=>by subst z;rw [n] at mu;exact mu
 have hb:∀b,H b=none→b≠e:=λb n z=>by
  subst z
  rcases he with r | r
  ·exact hx b n r
  ·rw [n] at r;cases r
 have hm:∀b u,H b=some u→¬ Q5 (some u)→b≠x:=λb u q nm z=>by subst z;rw [q] at mu;exact nm mu
 refine ⟨λb u q n _ _=>k b u (hb b n) q,λb u q n _ _=>⟨u.slots,k b u (hb b n) q⟩,λb u q n _=>by rw [aW (hx b n)];exact n,λb u q _=>?_,
  λb xs q=>by rw [aW (hm b _ q λz=>z)];exact q,λb u xs q=>by rw [aW (hm b _ q λz=>z)];exact q,λb ps q=>⟨#[],by rw [aW (hm b _ q λz=>z),q];simp⟩⟩
 by_cases hbe:b=e
 ·subst hbe;exact heo
 ·exact ⟨u,k b u hbe q⟩
end
def Rm (h:Heap) (H:Hp):List Addr:=(Vz h.objs.size).filter λa=>(H a).isSome
def uq (h:Heap) (H:Hp):Heap:=PySem.W.hideAll h (Rm h H)
theorem DI (h:Heap) (H:Hp):(uq h H).objs.size=h.objs.size:=PySem.W.hideAll_size _ _
theorem Ft {h:Heap} {H:Hp} {b:Addr} {o:Obj} (e:h.get? b=some o) (n:H b=none):(uq h H).get? b=some o :=
 PySem.W.hideAll_get _ e λhm=>by
  have q:(H b).isSome=true:=(UI.mp hm).2
  rw [n] at q;simp at q
theorem I9 {h:Heap} {H:Hp} {b:Addr} {o:Obj} (e:(uq h H).get? b=some o):h.get? b=some o∧H b=none:=by
 have e':h.get? b=some o:=PySem.W.of_hideAll (Rm h H) e
 refine ⟨e',?_⟩
 cases q:H b with
 | none=>rfl
 | some x =>
  have hm:b∈Rm h H:=UI.mpr ⟨VY.mpr (Heap.lt_size e'),by simp [q]⟩
  have z:(uq h H).get? b=none:=PySem.W.hideAll_none (Rm h H) hm
  rw [z] at e;cases e
def Ip (g h:Heap) (L:Addr):List (Addr × Obj):=(Vz h.objs.size).filterMap λa=>if a=L∨(g.get? a).isSome=true then none else (h.get? a).map λo=>(a,o)
def rest (g h:Heap) (L d:Addr):List (Addr × Obj):=(Ip g h L).filter λp=>decide (p.1≠d)
end L2
namespace L2
open PySem PySem.Spec PyProof.Rows
structure Mod (K:PySem.W.Frag) (mg:Str→Option Value) (base:Heap):Prop where
 kin:K.In base
 glob:base.Ns mainGlobals mg
 blt:∃mb,base.Ns builtinsNs mb∧∀x:Str,x≠"__name__"→mb x=bootBuiltins x
 nolimit:base.NoLimit
structure Cx where
 prog:Program
 w:World
 K:PySem.W.Frag
 mg:Str→Option Value
 base:Heap
 A:Around
 N:List Str
 s₀:Shared
 H₀:Hp
 env:Env
 outer:List Env
 stack:List Env
 ex:List Addr
 fn:Str→Bool
 calm:Bool
 pn:List (Addr × Obj)
 xe:Value→Shared→Prop
def j3 (l:List Env):List Addr:=l.filterMap (·.frame)
abbrev Cx.fs (X:Cx):List Addr:=j3 X.outer
def rL (sc:Scope) (x:Str):Prop:=sc.names.lookup x=some .local∨sc.names.lookup x=some .cell∨sc.names.lookup x=some .free
def Loc (sc:Scope) (x:Str):Prop:=sc.names.lookup x=some .local∨sc.names.lookup x=some .cell
def Look (env:Env) (h:Heap) (m:Str→Option Value) (x:Str) (u:Value):Prop :=
 (env.kindOf x=some .local∧m x=some u)∨((env.kindOf x=some .cell∨env.kindOf x=some .free)∧∃c,env.cells.lookup x=some c∧h.IsCell c (some u))
structure Cx.Ok (X:Cx):Prop where
 mod:Mod X.K X.mg X.base
 kind:X.env.scope.kind=.function
 glob:X.env.globals=mainGlobals
 blt:X.env.builtins=builtinsNs
 above:X.s₀.heap.objs.size≤X.env.locals
 inj:∀x y c,X.env.cells.lookup x=some c→X.env.cells.lookup y=some c→x=y
 has:∀x,(X.env.kindOf x=some .cell∨X.env.kindOf x=some .free)→∃c,X.env.cells.lookup x=some c
 cab:∀x c,X.fn x=true→X.env.cells.lookup x=some c→X.s₀.heap.objs.size≤c
 hd:X.calm=true→X.A.handled=none
 frames:X.A.frames=some X.stack
 stk:X.stack=X.outer∨(X.stack=X.env :: X.outer∧X.env.frame=some X.env.locals)
 exf:∀b∈X.ex,b≠X.env.locals∧∀x c,X.env.cells.lookup x=some c→c≠b
 bs:∀b o,X.base.get? b=some o→X.s₀.heap.get? b=some o∧X.H₀ b=none
 bsz:X.base.objs.size≤X.s₀.heap.objs.size
 noex:∀b o,X.base.get? b=some o→b ∉ X.ex
 exfs:∀b∈X.ex,b ∉ X.fs
 ph:X.s₀.heap.FunFrames X.base X.outer
 frf:∀b∈X.fs,X.H₀ b=none
structure Inv (X:Cx) (pins:List (Addr × Obj)) (σ:List (Option V)) (H:Hp) (s:Shared):Prop where
 ok:X.Ok
 os:s.os=X.s₀.os
 bare:AllBare s.gens
 base:Un X.fs X.ex X.H₀ H X.s₀.heap s.heap
 loc:∃m,s.heap.Ns X.env.locals m∧∀(i:Nat) (x:Str) (v:V),X.N[i]?=some x→σ[i]?=some (some v)→rL X.env.scope x→∃u,RelV v u∧Look X.env s.heap m x u
 cell:∀x c,X.env.cells.lookup x=some c→∃v,s.heap.IsCell c v
 free:H X.env.locals=none
 freeC:∀x c,X.env.cells.lookup x=some c→H c=none
 pin:∀p∈X.pn ++ pins,s.heap.get? p.1=some p.2∧H p.1=none∧p.1≠X.env.locals∧p.1 ∉ X.fs∧∀v,p.2.data≠.cell v
 hok:ni X.prog X.w H s.heap
 len:σ.length=X.N.length
section
variable {X:Cx} {pins:List (Addr × Obj)} {σ:List (Option V)} {H H':Hp} {s:Shared} {h':Heap}
theorem Cx.Ok.Sh (ok:X.Ok) {b:Addr} {o:Obj} (e:X.base.get? b=some o):b ∉ X.fs:=λhb=>by
 have:=(ok.ph.mem hb).1
 rw [e] at this;cases this
theorem Inv.bs (I:Inv X pins σ H s):∀b o,X.base.get? b=some o→s.heap.get? b=some o∧H b=none:=λb o e =>
 ⟨I.base.keep b o (I.ok.bs b o e).1 (I.ok.bs b o e).2 (I.ok.Sh e) (I.ok.noex b o e),I.base.free b o (I.ok.bs b o e).1 (I.ok.bs b o e).2 (I.ok.noex b o e)⟩
theorem Inv.bk (I:Inv X pins σ H s):∀b o,X.base.get? b=some o→s.heap.get? b=some o:=λb o e=>(I.bs b o e).1
theorem Inv.mod (I:Inv X pins σ H s):Mod X.K X.mg X.base:=I.ok.mod
theorem Inv.nW (I:Inv X pins σ H s):X.K.In s.heap:=I.ok.mod.kin.keeps I.bk
theorem Inv.nolimit (I:Inv X pins σ H s):s.heap.NoLimit:=I.ok.mod.nolimit.keeps I.bk
theorem Inv.fr (I:Inv X pins σ H s):∃m,Fr X.base X.env.locals s.heap m :=
 let ⟨m,hn,_⟩:=I.loc
 ⟨m,hn,I.bk,UM I.ok.bsz I.ok.above⟩
theorem Inv.lt (I:Inv X pins σ H s):X.env.locals < s.heap.objs.size:=let ⟨_,hn,_⟩:=I.loc;hn.lt
theorem Inv.sz (I:Inv X pins σ H s):X.s₀.heap.objs.size≤s.heap.objs.size:=UM I.ok.above (V9 I.lt)
theorem Inv.Si (I:Inv X pins σ H s) {a:Addr} (h:s.heap.objs.size≤a):a ∉ X.fs:=λhb=>by
 obtain ⟨_,o,ho,_⟩:=I.ok.ph.mem hb
 exact absurd (UJ (Heap.lt_size ho) (UM I.sz h)) (Vm _)
theorem Inv.L7 (I:Inv X pins σ H s):∀x c,X.env.cells.lookup x=some c→c≠X.env.locals:=λx c e z=>by
 obtain ⟨v,o,ho,hd⟩:=I.cell x c e
 obtain ⟨m,⟨o',es,ep,ho',hd',_⟩,_⟩:=I.loc
 rw [z,ho'] at ho;cases ho;rw [hd'] at hd;cases hd
theorem Inv.ph (I:Inv X pins σ H s):s.heap.FunFrames X.base X.outer:=by
 have all:∀(l:List Env),(∀b∈j3 l,b∈X.fs)→X.s₀.heap.FunFrames X.base l→s.heap.FunFrames X.base l:=by
  intro l
  induction l with
  | nil=>intro _ _;trivial
  | cons env r ih =>
   intro hs hl
   obtain ⟨hk,⟨L,o,hf,hn,ho,hd⟩,hr⟩:=hl
   have hL:L∈X.fs:=hs L (by unfold j3;rw [Ve,hf];exact UY)
   obtain ⟨sl,e⟩:=I.base.slot L o ho (I.ok.frf L hL) hL λz=>I.ok.exfs L z hL
   exact ⟨hk,⟨L,_,hf,hn,e,hd⟩,ih (λb hb=>hs b (by unfold j3;rw [Ve,hf];exact US _ hb)) hr⟩
 exact all X.outer (λ_ hb=>hb) I.ok.ph
theorem Inv.stack (I:Inv X pins σ H s):s.heap.FunFrames X.base X.stack:=by
 rcases I.ok.stk with e | ⟨e,hf⟩
 ·rw [e];exact I.ph
 ·rw [e]
  obtain ⟨m,hn,_⟩:=I.loc
  refine .cons (by rw [I.ok.kind];decide) hf hn ?_ I.ph
  exact Heap.get?_none_of_le (UM I.ok.bsz I.ok.above)
theorem Inv.p5 (I:Inv X pins σ H s):∀b∈j3 X.stack,b∈X.env.locals :: X.fs:=λb hb=>by
 rcases I.ok.stk with e | ⟨e,hf⟩
 ·rw [e] at hb;exact US _ hb
 ·rw [e] at hb
  unfold j3 at hb
  rw [Ve,hf] at hb
  exact hb
theorem Inv.x6 (I:Inv X pins σ H s):∀b∈j3 X.stack,H b=none:=λb hb=>by
 rcases UH.mp (I.p5 b hb) with e | hb
 ·rw [e];exact I.free
 ·obtain ⟨_,o,ho,_⟩:=I.ok.ph.mem hb
  exact I.base.free b o ho (I.ok.frf b hb) λz=>I.ok.exfs b z hb
theorem Inv.step {g':Array GenState} {t':Nat} {d':Drawn} {ch:List Addr} (I:Inv X pins σ H s)
  (hch:∀b∈ch,(b∈X.ex∨X.s₀.heap.objs.size≤b)∧b≠X.env.locals∧(∀x c,X.env.cells.lookup x=some c→c≠b)∧∀p∈X.pn ++ pins,p.1≠b)
  (keep:∀b o,b≠X.env.locals→b ∉ X.fs→b ∉ ch→s.heap.get? b=some o→H b=none→h'.get? b=some o)
  (slot:∀b o,b≠X.env.locals→b∈X.fs→b ∉ ch→s.heap.get? b=some o→H b=none→∃sl,h'.get? b=some { o with slots:=sl }) (free:∀b o,b ∉ ch→s.heap.get? b=some o→H b=none→H' b=none)
  (there:∀b o,b ∉ ch→s.heap.get? b=some o→∃o',h'.get? b=some o')
  (tups:∀b xs,H b=some (.tup xs)→H' b=some (.tup xs)) (frzs:∀b o u,H b=some (.pf o u)→H' b=some (.pf o u)) (tbls:∀b ps,H b=some (.tbl ps)→∃more,H' b=some (.tbl (ps ++ more)))
  (ns:∀m,s.heap.Ns X.env.locals m→h'.Ns X.env.locals m) (hok:ni X.prog X.w H' h') (hg:AllBare g') :
  Inv X pins σ H' { s with heap:=h',gens:=g',drawn:=d',toks:=t' }:=by
 have neL:∀b o,X.s₀.heap.get? b=some o→b≠X.env.locals:=λb o e=>UW (UJ (Heap.lt_size e) I.ok.above)
 have neC:∀b o,X.s₀.heap.get? b=some o→b ∉ X.ex→b ∉ ch:=λb o e hx hb=>by
  rcases (hch b hb).1 with z | z
  ·exact hx z
  ·exact absurd (UJ (Heap.lt_size e) z) (Vm _)
 have cellK:∀x c,X.env.cells.lookup x=some c→∀v,s.heap.IsCell c v→h'.IsCell c v:=λx c e v ⟨o,ho,hd⟩=>by
  have nch:c ∉ ch:=λz=>(hch c z).2.2.1 x c e rfl
  by_cases hc:c∈X.fs
  ·obtain ⟨sl,q⟩:=slot c o (I.L7 x c e) hc nch ho (I.freeC x c e)
   exact ⟨_,q,hd⟩
  ·exact ⟨o,keep c o (I.L7 x c e) hc nch ho (I.freeC x c e),hd⟩
 refine ⟨I.ok,I.os,hg,⟨λb o e n hb hx=>?_,λb o e n hb hx=>?_,λb o e n hx=>?_,λb o e hx=>?_,λb xs e=>tups b xs (I.base.tups b xs e),λb o xs e=>frzs b o xs (I.base.frzs b o xs e),λb ps e=>?_⟩,?_,λx c e=>?_,?_,λx c e=>?_,λp hp=>?_,hok,I.len⟩
 ·exact keep b o (neL b o e) hb (neC b o e hx) (I.base.keep b o e n hb hx) (I.base.free b o e n hx)
 ·obtain ⟨sl,e1⟩:=I.base.slot b o e n hb hx
  obtain ⟨sl',e2⟩:=slot b _ (neL b o e) hb (neC b o e hx) e1 (I.base.free b o e n hx)
  exact ⟨sl',e2⟩
 ·obtain ⟨o',e1⟩:=I.base.there b o e hx
  exact free b o' (neC b o e hx) e1 (I.base.free b o e n hx)
 ·obtain ⟨o',e1⟩:=I.base.there b o e hx
  exact there b o' (neC b o e hx) e1
 ·obtain ⟨m1,e1⟩:=I.base.tbls b ps e
  obtain ⟨m2,e2⟩:=tbls b _ e1
  exact ⟨m1 ++ m2,by rw [e2,Array.append_assoc]⟩
 ·obtain ⟨m,hn,hl⟩:=I.loc
  refine ⟨m,ns m hn,λi x v e1 e2 e3=>?_⟩
  obtain ⟨u,r,l⟩:=hl i x v e1 e2 e3
  refine ⟨u,r,?_⟩
  rcases l with l | ⟨k,c,e,z⟩
  ·exact .inl l
  ·exact .inr ⟨k,c,e,cellK x c e _ z⟩
 ·obtain ⟨v,z⟩:=I.cell x c e
  exact ⟨v,cellK x c e v z⟩
 ·obtain ⟨m,⟨o,_,_,ho,_⟩,_⟩:=I.loc
  exact free _ o (λz=>(hch _ z).2.1 rfl) ho I.free
 ·obtain ⟨v,o,ho,hd⟩:=I.cell x c e
  exact free c o (λz=>(hch c z).2.2.1 x c e rfl) ho (I.freeC x c e)
 ·obtain ⟨e,n,ne,nf,d⟩:=I.pin p hp
  have nch:p.1 ∉ ch:=λz=>(hch p.1 z).2.2.2 p hp rfl
  exact ⟨keep p.1 p.2 ne nf nch e n,free p.1 p.2 nch e n,ne,nf,d⟩
theorem Inv.un {t':Nat} (I:Inv X pins σ H s) (u:Un X.fs [] H H' s.heap h') (hok:ni X.prog X.w H' h'):Inv X pins σ H' { s with heap:=h',toks:=t' }:=by
 obtain ⟨m,⟨o,es,ep,ho,r⟩,_⟩:=id I.loc
 obtain ⟨sl,hL⟩:=u.any ho I.free (by simp)
 exact I.step (g':=s.gens) (d':=s.drawn) (ch:=[]) (λ_ z=>nomatch z) (λb o _ hb _ e n=>u.keep b o e n hb (by simp)) (λb o _ hb _ e n=>u.slot b o e n hb (by simp)) (λb o _ e n=>u.free b o e n (by simp)) (λb o _ e=>u.there b o e (by simp)) u.tups u.frzs u.tbls (λm' hm=>by
  obtain ⟨o',es',ep',ho',r'⟩:=hm
  rw [ho] at ho';cases ho'
  exact ⟨_,es',ep',hL,r'⟩) hok I.bare
theorem Inv.call {g':Array GenState} {t':Nat} {d':Drawn} {ch:List Addr} (I:Inv X pins σ H s) (u:Un (j3 X.stack) ch H H' s.heap h') (hok:ni X.prog X.w H' h') (hg:AllBare g')
  (hch:∀b∈ch,(b∈X.ex∨X.s₀.heap.objs.size≤b)∧b≠X.env.locals∧(∀x c,X.env.cells.lookup x=some c→c≠b)∧∀p∈X.pn ++ pins,p.1≠b) :
  Inv X pins σ H' { s with heap:=h',gens:=g',drawn:=d',toks:=t' }:=by
 obtain ⟨m,⟨o,es,ep,ho,r⟩,_⟩:=id I.loc
 obtain ⟨sl,hL⟩:=u.any ho I.free λz=>(hch _ z).2.1 rfl
 exact I.step (ch:=ch) hch (λb o hL hb hc e n=>u.keep b o e n (λz=>(UH.mp (I.p5 b z)).elim hL hb) hc) (λb o _ _ hc e n=>u.any e n hc) (λb o hc e n=>u.free b o e n hc) (λb o hc e=>u.there b o e hc) u.tups u.frzs u.tbls (λm' hm=>by
  obtain ⟨o',es',ep',ho',r'⟩:=hm
  rw [ho] at ho';cases ho'
  exact ⟨_,es',ep',hL,r'⟩) hok hg
theorem Inv.turned {t':Nat} {it:Addr} (I:Inv X pins σ H s) (k:∀b o,b≠it→s.heap.get? b=some o→h'.get? b=some o) (hn:H it=none) (hL:it≠X.env.locals)
  (h1:it∈X.ex∨X.s₀.heap.objs.size≤it) (h2:∀x c,X.env.cells.lookup x=some c→c≠it) (h3:∀p∈X.pn ++ pins,p.1≠it):Inv X pins σ H { s with heap:=h',toks:=t' }:=by
 have nit:∀b u,H b=some u→b≠it:=λb u e z=>by rw [z,hn] at e;cases e
 refine I.step (g':=s.gens) (d':=s.drawn) (ch:=[it]) (λb hb=>?_) (λb o _ _ hc e _=>k b o (λz=>hc (by simp [z])) e) (λb o _ _ hc e _=>⟨o.slots,k b o (λz=>hc (by simp [z])) e⟩) (λ_ _ _ _ n=>n)
  (λb o hc e=>⟨o,k b o (λz=>hc (by simp [z])) e⟩) (λ_ _ e=>e) (λ_ _ _ e=>e) (λb ps e=>⟨#[],by rw [e];simp⟩) (λm hm=>?_) (λb u e=>?_) I.bare
 ·have e:b=it:=by simpa using hb
  subst e
  exact ⟨h1,hL,h2,h3⟩
 ·obtain ⟨o,es,ep,ho,r⟩:=hm
  exact ⟨o,es,ep,k _ o (Ne.symm hL) ho,r⟩
 ·refine (I.hok b u e).m9 (λc v hc q=>k c v ?_ q) (λ_ q=>q) λ_ _ q=>q
  rcases hc with z | z
  ·rw [z];exact nit b u e
  ·exact nit c _ z
theorem Inv.tok (I:Inv X pins σ H s) (t:Nat):Inv X pins σ H { s with toks:=t }:=I.un (h':=s.heap) (t':=t) Un.refl I.hok
theorem Inv.kept {t':Nat} (I:Inv X pins σ H s) (k:∀b u,s.heap.get? b=some u→h'.get? b=some u):Inv X pins σ H { s with heap:=h',toks:=t' }:=I.un (Un.kept k) (I.hok.kept k)
theorem Inv.laid {a:Addr} {o:HO} {t':Nat} (I:Inv X pins σ H s) (k:∀b u,s.heap.get? b=some u→h'.get? b=some u) (hp:s.heap.objs.size≤a) (new:dH X.prog X.w (upd H a o) h' a o) :
  Inv X pins σ (upd H a o) { s with heap:=h',toks:=t' }:=I.un (Un.laid k hp (I.hok.fresh hp)) (I.hok.laid k hp new)
theorem Inv.write {x e:Addr} {o:HO} {t':Nat} (I:Inv X pins σ H s) (mu:Q5 (H x)) (he:e=x∨H e=some (.own x)) (k:∀b u,b≠e→s.heap.get? b=some u→h'.get? b=some u) (heo:∃u,h'.get? e=some u)
  (new:dH X.prog X.w (upd H x o) h' x o):Inv X pins σ (upd H x o) { s with heap:=h',toks:=t' }:=I.un (Un.write mu he k heo) (I.hok.write mu he k heo new)
theorem Inv.Cn {pins':List (Addr × Obj)} (I:Inv X pins σ H s) (h:∀p∈pins',s.heap.get? p.1=some p.2∧H p.1=none∧p.1≠X.env.locals∧p.1 ∉ X.fs∧∀v,p.2.data≠.cell v):Inv X pins' σ H s :=
 ⟨I.ok,I.os,I.bare,I.base,I.loc,I.cell,I.free,I.freeC,λp hp=>(UB.mp hp).elim (λz=>I.pin p (VH _ z)) (h p),I.hok,I.len⟩
theorem yW {N:List Str} (hN:N.Nodup) {i j:Nat} {x:Str} (a:N[i]?=some x) (b:N[j]?=some x):i=j:=by
 obtain ⟨h1,e1⟩:=Uv.mp a
 obtain ⟨h2,e2⟩:=Uv.mp b
 exact (Vl hN).mp (e1.trans e2.symm)
theorem p6 {M:Model} {A:Around} {E:Value→Shared→Prop} {i:Nat} {x:Str} {v:V} {u:Value} {Q:Unit→Shared→Prop} (I:Inv X pins σ H s) (hN:X.N.Nodup) (hi:X.N[i]?=some x) (hx:Loc X.env.scope x) (r:RelV v u)
  (h:∀s',Inv X pins (σ.set i (some v)) H s'→(∃a,Heap.SameBut a s.heap s'.heap∧(a=X.env.locals∨X.env.cells.lookup x=some a))→Q () s') (hf:X.fn x=true∨X.env.scope.names.lookup x=some .local:=by first | exact .inl rfl | exact .inr rfl | assumption):wpAny M A (storeName X.env x u) Q E s:=by
 obtain ⟨m,hn,hl⟩:=id I.loc
 have hcls:(X.env.scope.kind == .class || (X.env.scope.kind == .module && X.env.locals != X.env.globals))=false:=by rw [I.ok.kind];rfl
 have hiσ:i < σ.length:=by rw [I.len];exact (Uv.mp hi).1
 have L7:=I.L7
 have tracked:∀{a:Addr} {h':Heap},(∃o,s.heap.get? a=some o∧H a=none)→Heap.SameBut a s.heap h'→ni X.prog X.w H h':=λ{a h'} ha hs b ob e=>by
  obtain ⟨_,_,hfree⟩:=ha
  refine (I.hok b ob e).m9 (λc w' hc q=>(hs.2 c ?_).trans q) (λ_ q=>q) λ_ _ q=>q
  rintro rfl
  rcases hc with rfl | hc
  ·rw [hfree] at e;cases e
  ·rw [hfree] at hc;cases hc
 rcases hx with hk | hk
 ·refine wpAny_storeName_local hk hn (λh' hn' hs=>?_) hcls
  obtain ⟨oL,_,_,hoL,_⟩:=id hn
  refine h _ ⟨I.ok,I.os,I.bare,⟨λb o e n hb hx=>?_,λb o e n hb hx=>?_,I.base.free,λb o e hx=>?_,I.base.tups,I.base.frzs,I.base.tbls⟩,⟨_,hn',λj y v' e1 e2 e3=>?_⟩,λy c e=>?_,I.free,I.freeC,λp hp=>?_,tracked ⟨oL,hoL,I.free⟩ hs,by simpa using I.len⟩ ⟨_,hs,.inl rfl⟩
  ·exact (hs.2 b (UW (UJ (Heap.lt_size e) I.ok.above))).trans (I.base.keep b o e n hb hx)
  ·obtain ⟨sl,e1⟩:=I.base.slot b o e n hb hx
   exact ⟨sl,(hs.2 b (UW (UJ (Heap.lt_size e) I.ok.above))).trans e1⟩
  ·obtain ⟨o',e1⟩:=I.base.there b o e hx
   exact ⟨o',(hs.2 b (UW (UJ (Heap.lt_size e) I.ok.above))).trans e1⟩
  ·by_cases hj:j=i
   ·subst hj
    rw [hi] at e1;cases e1
    rw [Vd hiσ] at e2
    cases e2
    exact ⟨u,r,.inl ⟨hk,by simp⟩⟩
   ·rw [Vs (Ne.symm hj)] at e2
    obtain ⟨u',r',q⟩:=hl j y v' e1 e2 e3
    refine ⟨u',r',?_⟩
    rcases q with ⟨k,e⟩ | ⟨k,c,e,z⟩
    ·refine .inl ⟨k,?_⟩
     have:y≠x:=λe=>hj (yW hN e1 (e ▸ hi))
     simp [this,e]
    ·exact .inr ⟨k,c,e,z.sameBut hs (L7 y c e)⟩
  ·obtain ⟨w',z⟩:=I.cell y c e
   exact ⟨w',z.sameBut hs (L7 y c e)⟩
  ·obtain ⟨e,n,ne,nf,d⟩:=I.pin p hp
   exact ⟨(hs.2 p.1 ne).trans e,n,ne,nf,d⟩
 ·have hfn:X.fn x=true:=by
   rcases hf with z | z
   ·exact z
   ·rw [z] at hk;cases hk
  obtain ⟨c,hc⟩:=I.ok.has x (.inl hk)
  obtain ⟨w',z⟩:=I.cell x c hc
  refine wpAny_storeName_cell I.ok.kind hk hc z (λh' hc' hs=>?_)
  obtain ⟨oc,hoc,hocd⟩:=id z
  refine h { s with heap:=h' } ⟨I.ok,I.os,I.bare,⟨λb o e n hb hx=>?_,λb o e n hb hx=>?_,I.base.free,λb o e hx=>?_,I.base.tups,I.base.frzs,I.base.tbls⟩,⟨m,hn.sameBut hs (Ne.symm (L7 x c hc)),λj y v' e1 e2 e3=>?_⟩,λy c' e=>?_,I.free,I.freeC,λp hp=>?_,tracked ⟨oc,hoc,I.freeC x c hc⟩ hs,by simpa using I.len⟩ ⟨c,hs,.inr hc⟩
  ·exact (hs.2 b (UW (UJ (Heap.lt_size e) (I.ok.cab x c hfn hc)))).trans (I.base.keep b o e n hb hx)
  ·obtain ⟨sl,e1⟩:=I.base.slot b o e n hb hx
   exact ⟨sl,(hs.2 b (UW (UJ (Heap.lt_size e) (I.ok.cab x c hfn hc)))).trans e1⟩
  ·obtain ⟨o',e1⟩:=I.base.there b o e hx
   exact ⟨o',(hs.2 b (UW (UJ (Heap.lt_size e) (I.ok.cab x c hfn hc)))).trans e1⟩
  ·by_cases hj:j=i
   ·subst hj
    rw [hi] at e1;cases e1
    rw [Vd hiσ] at e2
    cases e2
    exact ⟨u,r,.inr ⟨.inl hk,c,hc,hc'⟩⟩
   ·rw [Vs (Ne.symm hj)] at e2
    obtain ⟨u',r',q⟩:=hl j y v' e1 e2 e3
    refine ⟨u',r',?_⟩
    rcases q with q | ⟨k,c',e,z'⟩
    ·exact .inl q
    ·refine .inr ⟨k,c',e,z'.sameBut hs ?_⟩
     rintro rfl
     exact hj (yW hN e1 (I.ok.inj _ _ _ e hc ▸ hi))
  ·by_cases hcc:c'=c
   ·subst hcc;exact ⟨_,hc'⟩
   ·obtain ⟨w2,z2⟩:=I.cell y c' e
    exact ⟨w2,z2.sameBut hs hcc⟩
  ·obtain ⟨e,n,ne,nf,d⟩:=I.pin p hp
   refine ⟨(hs.2 p.1 ?_).trans e,n,ne,nf,d⟩
   intro q
   rw [q,hoc] at e
   have q':oc=p.2:=Option.some.inj e
   exact d w' (by rw [← q'];exact hocd)
theorem ia {M:Model} {A:Around} {E:Value→Shared→Prop} {i:Nat} {x:Str} {v:V} {u:Value} {Q:Unit→Shared→Prop} (I:Inv X pins σ H s) (hN:X.N.Nodup) (hi:X.N[i]?=some x) (hx:Loc X.env.scope x) (r:RelV v u)
  (h:∀s',Inv X pins (σ.set i (some v)) H s'→Q () s') (hf:X.fn x=true∨X.env.scope.names.lookup x=some .local:=by first | exact .inl rfl | exact .inr rfl | assumption):wpAny M A (storeName X.env x u) Q E s :=
 p6 I hN hi hx r (λs' I' _=>h s' I') hf
theorem Inv.OO {s':Shared} {ch:List Addr} (I:Inv X pins σ H s) (ho:s'.os=s.os) (u:Un (j3 X.stack) ch H H' s.heap s'.heap) (hok:ni X.prog X.w H' s'.heap) (hg:AllBare s'.gens)
  (hch:∀b∈ch,(b∈X.ex∨X.s₀.heap.objs.size≤b)∧b≠X.env.locals∧(∀x c,X.env.cells.lookup x=some c→c≠b)∧∀p∈X.pn ++ pins,p.1≠b):Inv X pins σ H' s':=by
 obtain ⟨h',g',d',t',o'⟩:=s'
 have e:o'=s.os:=ho
 subst e
 exact I.call (g':=g') (t':=t') (d':=d') u hok hg hch
end
abbrev XK:=Value→Option Addr→Hp→Prop
abbrev St:=List (Option V)
abbrev VK:=V→Hp→Prop
abbrev TE:=St→Hp→VK→Prop
abbrev TT:=St→Hp→(Bool→Hp→Prop)→Prop
abbrev TA:=St→Hp→(List V→Hp→Prop)→Prop
structure Ends where
 nx:St→Hp→Prop
 rt:VK
 bk:St→Hp→Prop:=λ_ _=>False
 ct:St→Hp→Prop:=λ_ _=>False
abbrev TS:=Ends→St→Hp→Prop
def EP (X:Cx) (pins:List (Addr × Obj)) (σ:St) (Q:VK) (u:Value) (s':Shared):Prop:=∃v H',Inv X pins σ H' s'∧RelV v u∧Q v H'
def TP (X:Cx) (pins:List (Addr × Obj)) (σ:St) (Q:Bool→Hp→Prop) (b:Bool) (s':Shared):Prop:=∃H',Inv X pins σ H' s'∧Q b H'
def AP (X:Cx) (pins:List (Addr × Obj)) (σ:St) (Q:List V→Hp→Prop) (us:List Value) (s':Shared):Prop:=∃vs H',Inv X pins σ H' s'∧Vals vs us∧Q vs H'
def SP (X:Cx) (pins:List (Addr × Obj)) (D:Ends) (f:Flow) (s':Shared):Prop :=
 match f with
 | .next=>∃σ' H',Inv X pins σ' H' s'∧D.nx σ' H'
 | .brk=>∃σ' H',Inv X pins σ' H' s'∧D.bk σ' H'
 | .cont=>∃σ' H',Inv X pins σ' H' s'∧D.ct σ' H'
 | .ret u=>∃v σ' H',Inv X pins σ' H' s'∧RelV v u∧D.rt v H'
def PE (X:Cx) (e:Expr) (t:TE):Prop :=
 ∀(pins:List (Addr × Obj)) (s:Shared) (σ:St) (H:Hp) (Q:VK),Inv X pins σ H s→t σ H Q→wpAny (model X.prog X.w) X.A (eval e X.env) (EP X pins σ Q) X.xe s
def PT (X:Cx) (e:Expr) (t:TT):Prop :=
 ∀(pins:List (Addr × Obj)) (s:Shared) (σ:St) (H:Hp) (Q:Bool→Hp→Prop),Inv X pins σ H s→t σ H Q→wpAny (model X.prog X.w) X.A (isTrue e X.env (eval e X.env)) (TP X pins σ Q) X.xe s
def PW (X:Cx) (e:Expr) (t:TT):Prop :=
 ∀(whole:Sem Value) (pins:List (Addr × Obj)) (s:Shared) (σ:St) (H:Hp) (Q:Bool→Hp→Prop),Inv X pins σ H s→t σ H Q→wpAny (model X.prog X.w) X.A (isTrue e X.env whole) (TP X pins σ Q) X.xe s
theorem PW.pt {X:Cx} {e:Expr} {t:TT} (h:PW X e t):PT X e t:=h _
def PA (X:Cx) (es:List Expr) (t:TA):Prop :=
 ∀(pos:Pos) (pins:List (Addr × Obj)) (s:Shared) (σ:St) (H:Hp) (Q:List V→Hp→Prop),Inv X pins σ H s→t σ H Q→wpAny (model X.prog X.w) X.A (spliced (backTo pos (starEach es X.env))) (AP X pins σ Q) X.xe s
def PS (X:Cx) (st:Stmt) (t:TS):Prop :=
 ∀(pins:List (Addr × Obj)) (s:Shared) (σ:St) (H:Hp) (D:Ends),Inv X pins σ H s→t D σ H→wpAny (model X.prog X.w) X.A (exec st X.env) (SP X pins D) X.xe s
def yu (X:Cx) (st:List Stmt) (t:TS):Prop :=
 ∀(pins:List (Addr × Obj)) (s:Shared) (σ:St) (H:Hp) (D:Ends),Inv X pins σ H s→t D σ H→wpAny (model X.prog X.w) X.A (execs st X.env) (SP X pins D) X.xe s
theorem cM {α:Type} {t:Sem α} {Q Q':α→Shared→Prop} {M:Model} {A:Around} {E:Value→Shared→Prop} {s:Shared} (h:wpAny M A t Q E s) (hQ:∀a s,Q a s→Q' a s):wpAny M A t Q' E s:=wpAny_mono h hQ λ_ _ x=>x
end L2
namespace L2
open PySem PySem.Spec PyProof.Rows
section
variable {X:Cx}
def NS (i:Nat):TE:=λσ H Q=>∃v,σ[i]?=some (some v)∧Q v H
def tC (v:V):TE:=λ_ H Q=>Q v H
theorem M6 {i:Nat} {x:Str} {pos:Pos} (hN:X.N[i]?=some x) (hv:rL X.env.scope x) (hd:(x == ("__debug__":Str))=false:=by decide) (hcd:(x == ("__classdict__":Str))=false:=by decide):PE X (.Name x pos) (NS i):=by
 intro pins s σ H Q I h
 obtain ⟨v,e,h⟩:=h
 obtain ⟨m,hn,hl⟩:=I.loc
 obtain ⟨u,r,l⟩:=hl i x v hN e hv
 have fin:EP X pins σ Q u s:=⟨v,H,I,r,h⟩
 rcases l with ⟨hk,hm⟩ | ⟨hk,c,hc,hcell⟩
 ·exact wpAny_Name (wpAny_loadName_local I.ok.kind hk hn hm fin) hd
 ·rcases hk with hk | hk
  ·exact wpAny_Name (wpAny_loadName_cell I.ok.kind hk hc hcell fin) hd
  ·exact wpAny_Name (wpAny_loadName_free I.ok.kind hk hc hcell fin hcd) hd
theorem wY {i j pos}:PE X (.Constant (.int i) j pos) (tC (.int i)):=λ_ _ _ H _ I h=>wpAny_Constant_int ⟨.int i,H,I.tok _,⟨_,rfl⟩,h⟩
theorem Cm {b j pos}:PE X (.Constant (.bool b) j pos) (tC (.bl b)):=λ_ _ _ H _ I h=>Constant_bool ⟨.bl b,H,I,rfl,h⟩
theorem AU {j pos}:PE X (.Constant .none j pos) (tC .non):=λ_ _ _ H _ I h=>Constant_none ⟨.non,H,I,rfl,h⟩
theorem w6 {x j pos}:PE X (.Constant (.str x) j pos) (tC (.str x)):=λ_ _ _ H _ I h=>Calls.Constant_str ⟨.str x,H,I.tok _,⟨_,rfl⟩,h⟩
def Gl (X:Cx) (x:Str):Prop:=X.env.kindOf x=some .globalImplicit
theorem nZ {E:Value→Shared→Prop} {pins:List (Addr × Obj)} {s:Shared} {σ:St} {H:Hp} {x:Str} {u:Value} {pos:Pos} {Q:Value→Shared→Prop} (I:Inv X pins σ H s) (hg:Gl X x) (hm:X.mg x=some u) (h:Q u s)
  (hd:(x == ("__debug__":Str))=false:=by decide):wpAny (model X.prog X.w) X.A (eval (.Name x pos) X.env) Q E s :=
 Calls.Name_function_global I.ok.kind hg (Calls.loadGlobal_global (by rw [I.ok.glob];exact I.mod.glob.keeps I.bk) hm h) hd
theorem mI {E:Value→Shared→Prop} {pins:List (Addr × Obj)} {s:Shared} {σ:St} {H:Hp} {x:Str} {u:Value} {pos:Pos} {Q:Value→Shared→Prop} (I:Inv X pins σ H s) (hg:Gl X x) (hm:X.mg x=none) (hv:bootBuiltins x=some u) (h:Q u s)
  (hn:x≠"__name__":=by decide) (hd:(x == ("__debug__":Str))=false:=by decide):wpAny (model X.prog X.w) X.A (eval (.Name x pos) X.env) Q E s:=by
 obtain ⟨mb,h1,h2⟩:=I.mod.blt
 exact Calls.Name_function_global I.ok.kind hg (Calls.loadGlobal_builtin (by rw [I.ok.glob];exact I.mod.glob.keeps I.bk) hm (by rw [I.ok.blt];exact h1.keeps I.bk) ((h2 x hn).trans hv) h) hd
theorem wX {x:Str} {v:V} {u:Value} {pos:Pos} (hg:Gl X x) (hm:X.mg x=some u) (r:RelV v u) (hd:(x == ("__debug__":Str))=false:=by decide):PE X (.Name x pos) (tC v) :=
 λ_ _ _ H _ I h=>nZ I hg hm ⟨v,H,I,r,h⟩ hd
theorem wV {x:Str} {v:V} {u:Value} {pos:Pos} (hg:Gl X x) (hm:X.mg x=none) (hv:bootBuiltins x=some u) (r:RelV v u) (hn:x≠"__name__":=by decide) (hd:(x == ("__debug__":Str))=false:=by decide):PE X (.Name x pos) (tC v) :=
 λ_ _ _ H _ I h=>mI I hg hm hv ⟨v,H,I,r,h⟩ hn hd
variable {a b:Expr} {ta tb:TE} {pos:Pos}
def tB (t:TE):TT:=λσ H Q=>t σ H λx H1=>∃c,x=.bl c∧Q c H1
theorem A_ {e:Expr} {t:TE} (h:PE X e t) (he:∀whole,isTrue e X.env whole=(do let v ← whole;standAt e.pos;holding [v] (truthy v)):=by intro _;rfl):PT X e (tB t):=by
 intro pins s σ H Q I hw
 refine isTrue_plain (cM (h pins s σ H _ I hw) λv s1 ⟨x,H1,I1,r1,q1⟩=>?_) (he _)
 obtain ⟨d,rfl,q⟩:=q1
 cases r1
 exact wpAny_truthy_bool ⟨H1,I1,q⟩
variable {tA tB':TT} {rest:List Expr}
def J_ (t u:TT):TT:=λσ H Q=>t σ H λc H1=>if c=true then u σ H1 Q else Q false H1
def Rk (t u:TT):TT:=λσ H Q=>t σ H λc H1=>if c=true then Q true H1 else u σ H1 Q
def NL (t:TT):TT:=λσ H Q=>t σ H λc H1=>Q (!c) H1
theorem xq (ha:PT X a tA):PW X (.BoolOp .And [a] pos) tA:=by
 intro wh pins s σ H Q I h
 refine isTrue_and (cM (ha pins s σ H Q I h) λc s1 e=>?_)
 cases c with
 | true=>exact isTrue_and_nil e
 | false=>exact e
theorem Bc (ha:PT X a tA):PW X (.BoolOp .Or [a] pos) tA:=by
 intro wh pins s σ H Q I h
 refine isTrue_or (cM (ha pins s σ H Q I h) λc s1 e=>?_)
 cases c with
 | false=>exact isTrue_or_nil e
 | true=>exact e
theorem Bb (ha:PT X a tA) (hb:PW X (.BoolOp .And (b :: rest) pos) tB'):PW X (.BoolOp .And (a :: b :: rest) pos) (J_ tA tB'):=by
 intro wh pins s σ H Q I h
 refine isTrue_and (cM (ha pins s σ H _ I h) λc s1 ⟨H1,I1,q1⟩=>?_)
 cases c with
 | true=>exact hb wh pins s1 σ H1 Q I1 q1
 | false=>exact ⟨H1,I1,q1⟩
theorem GJ (ha:PT X a tA) (hb:PW X (.BoolOp .Or (b :: rest) pos) tB'):PW X (.BoolOp .Or (a :: b :: rest) pos) (Rk tA tB'):=by
 intro wh pins s σ H Q I h
 refine isTrue_or (cM (ha pins s σ H _ I h) λc s1 ⟨H1,I1,q1⟩=>?_)
 cases c with
 | true=>exact ⟨H1,I1,q1⟩
 | false=>exact hb wh pins s1 σ H1 Q I1 q1
theorem A9 (ha:PT X a tA):PT X (.UnaryOp .Not a pos) (NL tA):=by
 intro pins s σ H Q I h
 exact isTrue_not (ha pins s σ H (λc H1=>Q (!c) H1) I h)
def Hn (ta tb:TE):TE:=λσ H Q=>ta σ H λx H1=>∃c,x=.bl c∧if c=true then tb σ H1 Q else Q (.bl false) H1
def NM (ta tb:TE):TE:=λσ H Q=>ta σ H λx H1=>∃c,x=.bl c∧if c=true then Q (.bl true) H1 else tb σ H1 Q
def Hw (ta:TE):TE:=λσ H Q=>ta σ H λx H1=>∃c,x=.bl c∧Q (.bl (!c)) H1
theorem AW {op} {t:TE} (h:PE X a t):PE X (.BoolOp op [a] pos) t:=λpins s σ H Q I hw=>BoolOp_one (h pins s σ H Q I hw)
theorem AS (ha:PE X a ta) (hb:PE X (.BoolOp .And (b :: rest) pos) tb):PE X (.BoolOp .And (a :: b :: rest) pos) (Hn ta tb):=by
 intro pins s σ H Q I h
 refine BoolOp_and (cM (ha pins s σ H _ I h) λv s1 ⟨x,H1,I1,r1,q1⟩=>?_)
 obtain ⟨c,rfl,q1⟩:=q1
 cases r1
 refine wpAny_truthy_bool ?_
 cases c with
 | true=>exact hb pins s1 σ H1 Q I1 q1
 | false=>exact ⟨.bl false,H1,I1,rfl,q1⟩
theorem Gy (ha:PE X a ta) (hb:PE X (.BoolOp .Or (b :: rest) pos) tb):PE X (.BoolOp .Or (a :: b :: rest) pos) (NM ta tb):=by
 intro pins s σ H Q I h
 refine BoolOp_or (cM (ha pins s σ H _ I h) λv s1 ⟨x,H1,I1,r1,q1⟩=>?_)
 obtain ⟨c,rfl,q1⟩:=q1
 cases r1
 refine wpAny_truthy_bool ?_
 cases c with
 | false=>exact hb pins s1 σ H1 Q I1 q1
 | true=>exact ⟨.bl true,H1,I1,rfl,q1⟩
theorem AV (ha:PE X a ta):PE X (.UnaryOp .Not a pos) (Hw ta):=by
 intro pins s σ H Q I h
 refine UnaryOp_ (cM (ha pins s σ H _ I h) λv s1 ⟨x,H1,I1,r1,q1⟩=>?_)
 obtain ⟨c,rfl,q1⟩:=q1
 cases r1
 exact not_of (wpAny_truthy_bool ⟨.bl (!c),H1,I1,rfl,q1⟩)
def SU (t:TT) (ta tb:TE):TE:=λσ H Q=>t σ H λc H1=>if c=true then ta σ H1 Q else tb σ H1 Q
theorem sJ {c:Expr} (hc:PT X c tA) (ha:PE X a ta) (hb:PE X b tb):PE X (.IfExp c a b pos) (SU tA ta tb):=by
 intro pins s σ H Q I h
 refine wpAny_IfExp (cM (hc pins s σ H _ I h) λd s1 ⟨H1,I1,q1⟩=>?_)
 cases d with
 | true=>exact ha pins s1 σ H1 Q I1 q1
 | false=>exact hb pins s1 σ H1 Q I1 q1
end
end L2
namespace L2
open PySem PySem.Spec PyProof.Rows
def dY (K:PySem.W.Frag) (H:Hp) (a:Addr) (xs:List V):Prop :=
 Rd H a (.lst xs) ∨
  ∃(o:Obj) (its:Array Value) (n:Nat),K.lookup a=some o∧o.cls=.type "list"∧o.dict=none∧o.data=.seq its n∧its.size≤sizeLine∧Vals xs its.toList
def f' (K:PySem.W.Frag) (H:Hp) (a:Addr) (xs:List V):Prop :=
 Rd H a (.tup xs) ∨
  ∃(o:Obj) (its:Array Value) (n:Nat),K.lookup a=some o∧o.cls=.type "tuple"∧o.data=.seq its n∧its.size≤sizeLine∧Vals xs its.toList
def Rv:Value→Option V
 | .none=>some .non
 | .bool b=>some (.bl b)
 | .int i _=>some (.int i)
 | .str x _=>some (.str x)
 | .bytes b _=>some (.byt b)
 | .float b _=>some (.flt b)
 | .ref a=>some (.ref a)
 | .type n=>some (.ty n)
 | _=>none
theorem RelV.abs {x:V} {u:Value} (r:RelV x u):Rv u=some x:=by
 cases x with
 | non=>cases r;rfl
 | bl _=>cases r;rfl
 | int _=>obtain ⟨t,rfl⟩:=r;rfl
 | str _=>obtain ⟨t,rfl⟩:=r;rfl
 | byt _=>obtain ⟨t,rfl⟩:=r;rfl
 | flt _=>obtain ⟨t,rfl⟩:=r;rfl
 | ref _=>cases r;rfl
 | ty _=>cases r;rfl
theorem RelV.inj {x y:V} {u:Value} (r:RelV x u) (q:RelV y u):x=y:=Option.some.inj (r.abs.symm.trans q.abs)
theorem Vals.inj:∀{xs ys:List V} {us:List Value},Vals xs us→Vals ys us→xs=ys
 | _,_,_,.nil,.nil=>rfl
 | _,_,_,.cons r t,.cons r' t'=>by rw [r.inj r',Vals.inj t t']
section
variable {X:Cx} {pins:List (Addr × Obj)} {σ:St} {H:Hp} {s:Shared} {a:Addr} {xs ys:List V}
theorem dY.of {K:PySem.W.Frag} (h:H a=some (.lst xs)):dY K H a xs:=.inl (.inl h)
theorem f'.of {K:PySem.W.Frag} (h:H a=some (.tup xs)):f' K H a xs:=.inl (.inl h)
theorem Inv.list (I:Inv X pins σ H s) (h:dY X.K H a xs):∃its:List Value,Vals xs its∧PlainL s.heap a its.toArray∧xs.length≤sizeLine:=by
 rcases h with h | ⟨o,its,n,hk,hc,hd,hs,hz,r⟩
 ·obtain ⟨z,its,n,r,e⟩:=h.ok I.hok
  exact ⟨its,r,⟨_,n,e,rfl,rfl,rfl⟩,z⟩
 ·refine ⟨its.toList,r,⟨o,n,I.nW a o hk,hc,hd,by simpa using hs⟩,?_⟩
  have e:=r.length
  simp only [Array.length_toList] at e
  omega
theorem Inv.tuple (I:Inv X pins σ H s) (h:f' X.K H a xs):∃its:List Value,Vals xs its∧IsTup s.heap a its.toArray∧xs.length≤sizeLine:=by
 rcases h with h | ⟨o,its,n,hk,hc,hs,hz,r⟩
 ·obtain ⟨z,its,r,p⟩:=h.ok I.hok
  exact ⟨its,r,p,z⟩
 ·refine ⟨its.toList,r,⟨o,I.nW a o hk,hc,n,by simpa using hs⟩,?_⟩
  have e:=r.length
  simp only [Array.length_toList] at e
  omega
theorem Inv.ku (I:Inv X pins σ H s) (h:dY X.K H a xs) (h':dY X.K H a ys):xs=ys:=by
 obtain ⟨its,r,⟨o,n,e,_,_,d⟩,_⟩:=I.list h
 obtain ⟨its',r',⟨o',n',e',_,_,d'⟩,_⟩:=I.list h'
 rw [e] at e';cases e'
 rw [d] at d'
 injection d' with d1 _
 have:its=its':=by simpa using congrArg Array.toList d1
 subst this
 exact r.inj r'
theorem Inv.Ez (I:Inv X pins σ H s) (h:f' X.K H a xs) (h':f' X.K H a ys):xs=ys:=by
 obtain ⟨its,r,⟨o,e,_,n,d⟩,_⟩:=I.tuple h
 obtain ⟨its',r',⟨o',e',_,n',d'⟩,_⟩:=I.tuple h'
 rw [e] at e';cases e'
 rw [d] at d'
 injection d' with d1 _
 have:its=its':=by simpa using congrArg Array.toList d1
 subst this
 exact r.inj r'
end
abbrev Cx.uM (X:Cx) (E:Value→Shared→Prop):Cx:={ X with xe:=E }
abbrev Cx.Rf (X:Cx):Cx:=X.uM λ_ _=>False
theorem Cx.Ok.uM {X:Cx} (ok:X.Ok) (E:Value→Shared→Prop):(X.uM E).Ok :=
 ⟨ok.mod,ok.kind,ok.glob,ok.blt,ok.above,ok.inj,ok.has,ok.cab,ok.hd,ok.frames,ok.stk,ok.exf,ok.bs,ok.bsz,ok.noex,ok.exfs,ok.ph,ok.frf⟩
theorem Cx.Ok.lz {X:Cx} {E:Value→Shared→Prop} (ok:(X.uM E).Ok):X.Ok :=
 ⟨ok.mod,ok.kind,ok.glob,ok.blt,ok.above,ok.inj,ok.has,ok.cab,ok.hd,ok.frames,ok.stk,ok.exf,ok.bs,ok.bsz,ok.noex,ok.exfs,ok.ph,ok.frf⟩
section
variable {X:Cx} {pins:List (Addr × Obj)} {σ:St} {H:Hp} {s:Shared} {E:Value→Shared→Prop}
theorem Inv.uM (I:Inv X pins σ H s) (E:Value→Shared→Prop):Inv (X.uM E) pins σ H s:=⟨I.ok.uM E,I.os,I.bare,I.base,I.loc,I.cell,I.free,I.freeC,I.pin,I.hok,I.len⟩
theorem Inv.lz (I:Inv (X.uM E) pins σ H s):Inv X pins σ H s:=⟨I.ok.lz,I.os,I.bare,I.base,I.loc,I.cell,I.free,I.freeC,I.pin,I.hok,I.len⟩
theorem SP.lz {D:Ends} {f:Flow} {s':Shared} (h:SP (X.uM E) pins D f s'):SP X pins D f s':=by
 cases f with
 | next=>obtain ⟨σ',H',I,q⟩:=h;exact ⟨σ',H',I.lz,q⟩
 | brk=>obtain ⟨σ',H',I,q⟩:=h;exact ⟨σ',H',I.lz,q⟩
 | cont=>obtain ⟨σ',H',I,q⟩:=h;exact ⟨σ',H',I.lz,q⟩
 | ret u=>obtain ⟨v,σ',H',I,r,q⟩:=h;exact ⟨v,σ',H',I.lz,r,q⟩
theorem yu.Rf {st:List Stmt} {t:TS} (h:yu X.Rf st t):yu X st t:=λpins s σ H D I hw =>
 wpAny_mono (h pins s σ H D (I.uM _) hw) (λ_ _ q=>q.lz) λ_ _ z=>False.elim z
end
section
variable {X:Cx} {st:Stmt} {rest:List Stmt} {t u:TS} {e:Expr} {te:TE} {pos:Pos}
def Hv:TS:=λD σ H=>D.nx σ H
def NQ (t u:TS):TS:=λD σ H=>t { D with nx:=u D } σ H
theorem xi:yu X [] Hv:=λ_ _ σ H _ I h=>wpAny_execs_nil ⟨σ,H,I,h⟩
theorem oE (h1:PS X st t) (h2:yu X rest u):yu X (st :: rest) (NQ t u):=by
 intro pins s σ H D I h
 refine wpAny_execs_cons (cM (h1 pins s σ H { D with nx:=u D } I h) λf s1 q=>?_)
 cases f with
 | next =>
  obtain ⟨σ',H',I',q⟩:=q
  exact h2 pins s1 σ' H' D I' q
 | ret v=>exact q
 | brk=>exact q
 | cont=>exact q
theorem xj (h1:PS X st t):yu X [st] t:=by
 intro pins s σ H D I h
 refine wpAny_execs_cons (cM (h1 pins s σ H D I h) λf s1 q=>?_)
 cases f with
 | next=>exact wpAny_execs_nil q
 | ret v=>exact q
 | brk=>exact q
 | cont=>exact q
def NG:TS:=λD σ H=>D.bk σ H
def Hr:TS:=λD σ H=>D.ct σ H
theorem kR:PS X (.Continue pos) Hr:=λ_ _ σ H _ I h=>wpAny_Continue ⟨σ,H,I,h⟩
theorem Inv.quiet {pins:List (Addr × Obj)} {σ:St} {H:Hp} {s:Shared} (I:Inv X pins σ H s):interactive X.env=false:=by simp [interactive,I.ok.kind]
def Hs (te:TE):TS:=λD σ H=>te σ H λ_ H1=>D.nx σ H1
theorem xg (he:PE X e te) (hs:swapsWith e none pos.line X.env=pure false:=by rfl):PS X (.Expr e pos) (Hs te):=by
 intro pins s σ H D I h
 exact wpAny_Expr_any (cM (he pins s σ H _ I h) λv s1 ⟨x,H1,I1,r1,q1⟩=>⟨σ,H1,I1,q1⟩) I.quiet hs
def NP (te:TE):TS:=λD σ H=>te σ H D.rt
theorem A7 (he:PE X e te):PS X (.Return (some e) pos) (NP te):=by
 intro pins s σ H D I h
 exact wpAny_Return_some (cM (he pins s σ H _ I h) λv s1 ⟨x,H1,I1,r1,q1⟩=>⟨x,σ,H1,I1,r1,q1⟩)
def Hy:TS:=λD _ H=>D.rt .non H
theorem xh:PS X (.Return none pos) Hy:=λ_ _ σ H _ I h=>wpAny_Return_none ⟨.non,σ,H,I,rfl,h⟩
def NJ (c:TT) (t u:TS):TS:=λD σ H=>c σ H λb H1=>if b=true then t D σ H1 else u D σ H1
theorem GC {c:Expr} {a b:List Stmt} {tc:TT} (hc:PT X c tc) (ha:yu X a t) (hb:yu X b u):PS X (.If c a b pos) (NJ tc t u):=by
 intro pins s σ H D I h
 refine wpAny_If (cM (hc pins s σ H _ I h) λd s1 ⟨H1,I1,q1⟩=>?_)
 cases d with
 | true=>exact ha pins s1 σ H1 D I1 q1
 | false=>exact hb pins s1 σ H1 D I1 q1
def NK:TS:=λ_ _ _=>False
end
abbrev TG:=V→St→Hp→(St→Hp→Prop)→Prop
abbrev mF:=List V→St→Hp→(St→Hp→Prop)→Prop
def PG (X:Cx) (target:Expr) (t:TG):Prop :=
 ∀(pins:List (Addr × Obj)) (s:Shared) (σ:St) (H:Hp) (v:V) (u:Value) (Q:St→Hp→Prop),Inv X pins σ H s→RelV v u→t v σ H Q →
  wpAny (model X.prog X.w) X.A (assign target X.env u) (λ_ s'=>∃σ' H',Inv X pins σ' H' s'∧Q σ' H') X.xe s
def Kk (X:Cx) (ts:List Expr) (t:mF):Prop :=
 ∀(pins:List (Addr × Obj)) (s:Shared) (σ:St) (H:Hp) (vs:List V) (us:List Value) (Q:St→Hp→Prop),Inv X pins σ H s→Vals vs us→t vs σ H Q →
  wpAny (model X.prog X.w) X.A (assignInOrder ((assignEach ts X.env).map (·.2)) us) (λ_ s'=>∃σ' H',Inv X pins σ' H' s'∧Q σ' H') X.xe s
abbrev gw:=V→V→V→Hp→(Hp→Prop)→Prop
def gu (X:Cx) (t:gw):Prop :=
 ∀(pins:List (Addr × Obj)) (s:Shared) (σ:St) (H:Hp) (o i v:V) (ov iv u:Value) (Q:Hp→Prop),Inv X pins σ H s→RelV o ov→RelV i iv→RelV v u→t o i v H Q →
  wpAny (model X.prog X.w) X.A (setItem ov iv u) (λ_ s'=>∃H',Inv X pins σ H' s'∧Q H') X.xe s
abbrev Q_:=V→V→Hp→VK→Prop
def Rt (X:Cx) (op:Operator) (t:Q_):Prop :=
 ∀(pins:List (Addr × Obj)) (s:Shared) (σ:St) (H:Hp) (x y:V) (v u:Value) (Q:VK),Inv X pins σ H s→RelV x v→RelV y u→t x y H Q →
  wpAny (model X.prog X.w) X.A (inplaceOp op v u) (EP X pins σ Q) X.xe s
section
variable {X:Cx} {pos:Pos}
def vd (i:Nat):TG:=λv σ H Q=>Q (σ.set i (some v)) H
theorem w8 {i:Nat} {x:Str} (hN:X.N.Nodup) (hi:X.N[i]?=some x) (hx:Loc X.env.scope x) (hf:X.fn x=true∨X.env.scope.names.lookup x=some .local:=by first | exact .inl rfl | exact .inr rfl | assumption):PG X (.Name x pos) (vd i):=by
 intro pins s σ H v u Q I r h
 exact wpAny_assign_Name (ia I hN hi hx r (λs' I'=>⟨_,H,I',h⟩) hf)
def Mh:mF:=λvs σ H Q=>vs=[]∧Q σ H
def Fi (t:TG) (u:mF):mF:=λvs σ H Q=>∃v r,vs=v :: r∧t v σ H λσ' H'=>u r σ' H' Q
theorem w9:Kk X [] Mh:=by
 intro pins s σ H vs us Q I r h
 obtain ⟨e,h⟩:=h
 subst e
 cases r
 exact assignInOrder_nil ⟨σ,H,I,h⟩
theorem sM {e:Expr} {es:List Expr} {t:TG} {u:mF} (h1:PG X e t) (h2:Kk X es u)
  (hs:(assignEach (e :: es) X.env).map (·.2)=assign e X.env :: (assignEach es X.env).map (·.2):=by rfl):Kk X (e :: es) (Fi t u):=by
 intro pins s σ H vs us Q I r h
 obtain ⟨v,vr,e1,h⟩:=h
 subst e1
 cases r with
 | cons r rr =>
  rw [hs]
  refine assignInOrder_cons (cM (h1 pins s σ H _ _ _ I r h) λ_ s1 ⟨σ1,H1,I1,q1⟩=>?_)
  exact h2 pins s1 σ1 H1 _ _ Q I1 rr q1
def Mj (K:PySem.W.Frag) (n:Nat) (t:mF):TG:=λv σ H Q=>∃a xs,v=.ref a∧f' K H a xs∧xs.length=n∧t xs σ H Q
theorem AZ {es:List Expr} {k:Nat} {t:mF} {n:Nat} (hc:X.calm=true) (h:Kk X es t)
  (hn:(assignEach es X.env).length=n:=by rfl) (hst:(assignEach es X.env).findIdx? (·.1)=none:=by rfl):PG X (.Tuple es k pos) (Mj X.K n t):=by
 intro pins s σ H v u Q I r hw
 obtain ⟨a,xs,e1,hq,hl,hw⟩:=hw
 subst e1
 cases r
 obtain ⟨its,rv,ht,hz⟩:=I.tuple hq
 refine assign_Tuple_tuple (I.ok.hd hc) ht (by simp [hn,← hl,rv.length]) hst λh' hx=>?_
 have I1:Inv X pins σ H { s with heap:=h' }:=I.kept (t':=s.toks) λb o e=>hx b o (UW (Heap.lt_size e)) e
 exact h pins _ σ H xs _ Q I1 (by simpa using rv) hw
def Mi (to ti:TE) (t:gw):TG:=λv σ H Q=>to σ H λo H1=>ti σ H1 λi H2=>t o i v H2 λH3=>Q σ H3
theorem AY {o i:Expr} {to ti:TE} {t:gw} (ho:PE X o to) (hi:PE X i ti) (hs:gu X t)
  (ha:∀v,assign (.Subscript o i pos) X.env v=(do
   let ov ← holding [v] (eval o X.env)
   let iv ← holding [v,ov] (eval i X.env)
   standAt pos
   holding [v,ov,iv] (setItem ov iv v)
   release [v,ov,iv] []):=by intro _;rfl):PG X (.Subscript o i pos) (Mi to ti t):=by
 intro pins s σ H v u Q I r h
 rw [ha]
 refine wpAny_bind (wpAny_holding (cM (ho pins s σ H _ I h) λov s1 ⟨x,H1,I1,r1,q1⟩=>?_))
 refine wpAny_bind (wpAny_holding (cM (hi pins s1 σ H1 _ I1 q1) λiv s2 ⟨y,H2,I2,r2,q2⟩=>?_))
 refine wpAny_bind (wpAny_standAt (wpAny_bind (wpAny_holding (cM (hs pins s2 σ H2 x y v ov iv u _ I2 r1 r2 r q2) λ_ s3 ⟨H3,I3,q3⟩=>?_))))
 exact wpAny_release ⟨σ,H3,I3,q3⟩
def Ex (te:TE) (g:TG):TS:=λD σ H=>te σ H λx H1=>g x σ H1 D.nx
theorem A3 {tg e:Expr} {te:TE} {g:TG} (he:PE X e te) (hg:PG X tg g) (hs:swapsWithSole [tg] e pos.line X.env=pure false:=by rfl) (hw:swappedStores [tg] e X.env=pure none:=by rfl)
  (h1:(assignEach [tg] X.env).map (·.2)=[assign tg X.env]:=by rfl):PS X (.Assign [tg] e pos) (Ex te g):=by
 intro pins s σ H D I h
 refine wpAny_Assign_stores (cM (he pins s σ H _ I h) λv s1 ⟨x,H1,I1,r1,q1⟩=>?_) hs hw
 rw [h1]
 exact cM (hg pins s1 σ H1 x v _ I1 r1 q1) λ_ s2 q=>q
theorem A8 {i:Nat} {x:Str} {e:Expr} {te:TE} {pos':Pos} (hN:X.N.Nodup) (hi:X.N[i]?=some x) (hx:Loc X.env.scope x) (he:PE X e te) (hs:swapsWith e (some (.Name x pos')) pos.line X.env=pure false:=by rfl) (hf:X.fn x=true∨X.env.scope.names.lookup x=some .local:=by first | exact .inl rfl | exact .inr rfl | assumption) :
  PS X (.Assign [.Name x pos'] e pos) (Ex te (vd i)):=by
 intro pins s σ H D I h
 refine wpAny_Assign_Name (cM (he pins s σ H _ I h) λv s1 ⟨y,H1,I1,r1,q1⟩=>?_) hs
 exact ia I1 hN hi hx r1 (λs2 I2=>⟨_,H1,I2,q1⟩) hf
def NN (i j:Nat) (ta:TA):TS:=λD σ H=>ta σ H λvs H1=>∃v w,vs=[v,w]∧D.nx ((σ.set i (some v)).set j (some w)) H1
theorem A6 {i j:Nat} {x y:Str} {a b:Expr} {ta:TA} {px py pt:Pos} {kt k2 pt2} (hc:X.calm=true) (hN:X.N.Nodup) (hi:X.N[i]?=some x) (hj:X.N[j]?=some y) (hij:i≠j)
  (hx:X.env.scope.names.lookup x=some .local) (hy:X.env.scope.names.lookup y=some .local) (ha:PA X [a,b] ta)
  (hw:swappedStores [.Tuple [.Name x px,.Name y py] kt pt] (.Tuple [a,b] k2 pt2) X.env=pure (some [x,y]))
  (hs:swapsWithSole [.Tuple [.Name x px,.Name y py] kt pt] (.Tuple [a,b] k2 pt2) pos.line X.env=pure false:=by rfl) :
  PS X (.Assign [.Tuple [.Name x px,.Name y py] kt pt] (.Tuple [a,b] k2 pt2) pos) (NN i j ta):=by
 intro pins s σ H D I h
 rw [exec_Assign_arm]
 refine wpAny_bind (wpAny_standAt ?_)
 rw [hs]
 refine wpAny_bind (wpAny_pure ?_)
 rw [if_neg (by decide)]
 refine wpAny_bind (Tuple_ (cM (ha _ pins s σ H _ I h) λus s1 ⟨vs,H1,I1,r1,q1⟩=>?_))
 obtain ⟨v,w,e1,q1⟩:=q1
 subst e1
 obtain ⟨u1,u2,rfl,rv,rw'⟩:∃u1 u2,us=[u1,u2]∧RelV v u1∧RelV w u2:=by
  cases r1 with
  | cons p q =>
   cases q with
   | cons p' q' =>
    cases q'
    exact ⟨_,_,rfl,p,p'⟩
 refine wpAny_newObj_type ?_ (by show 2≤sizeLine;decide)
 have I2:Inv X pins σ H1 { s1 with heap:=s1.heap.push { cls:=.type "tuple",data:=.seq [u1,u2].toArray } }:=I1.kept (t':=s1.toks) λb o e=>Heap.get?_push_of_some _ e
 rw [hw]
 refine wpAny_bind (wpAny_pure ?_)
 show wpAny (model X.prog X.w) X.A (do rule "assign.swapped-stores";let items ← unpackItems (.ref s1.heap.objs.size) 2 none;assignInOrder [λv=>bindName X.env y v,λv=>bindName X.env x v] items.reverse;pure Flow.next) _ _ _
 refine wpAny_bind (wpAny_rule (wpAny_bind (unpackItems_tuple (items:=#[u1,u2]) (I.ok.hd hc) (IsTup.new s1.heap _) λh' hx'=>?_)))
 have I3:=I2.kept (h':=h') (t':=s1.toks) λb o e=>hx' b o (UW (Heap.lt_size e)) e
 show wpAny _ _ (assignInOrder [λv=>bindName X.env y v,λv=>bindName X.env x v] [u2,u1] >>= λ_=>pure Flow.next) _ _ _
 refine wpAny_bind (assignInOrder_cons (wpAny_bindName (ia I3 hN hj (.inl hy) rw' (λs2 I4=>?_) (.inr hy))))
 refine assignInOrder_cons (wpAny_bindName (ia I4 hN hi (.inl hx) rv (λs3 I5=>assignInOrder_nil (wpAny_pure ?_)) (.inr hx)))
 rw [List.set_comm _ _ (Ne.symm hij)] at I5
 exact ⟨_,H1,I5,q1⟩
def SN (i:Nat) (te:TE) (ti:Q_):TS:=λD σ H=>∃x,σ[i]?=some (some x)∧te σ H λy H1=>ti x y H1 λz H2=>D.nx (σ.set i (some z)) H2
theorem M8 {i:Nat} {x:Str} {e:Expr} {te:TE} {op:Operator} {ti:Q_} {pos':Pos} (hN:X.N.Nodup) (hi:X.N[i]?=some x) (hx:Loc X.env.scope x) (he:PE X e te) (ho:Rt X op ti) (hf:X.fn x=true∨X.env.scope.names.lookup x=some .local:=by first | exact .inl rfl | exact .inr rfl | assumption) :
  PS X (.AugAssign (.Name x pos') op e pos) (SN i te ti):=by
 intro pins s σ H D I h
 obtain ⟨v,e1,h⟩:=h
 obtain ⟨m,hn,hl⟩:=I.loc
 have vis:rL X.env.scope x:=by rcases hx with k | k;exact .inl k;exact .inr (.inl k)
 obtain ⟨u,r,l⟩:=hl i x v hi e1 vis
 refine wpAny_AugAssign_Name ?_
 have go:wpAny (model X.prog X.w) X.A (eval e X.env) (λw s₂=>wpAny (model X.prog X.w) X.A (inplaceOp op u w) (λr s₃=>wpAny (model X.prog X.w) X.A (storeName X.env x r) (λ_=>SP X pins D .next) X.xe s₃) X.xe s₂) X.xe s:=by
  refine cM (he pins s σ H _ I h) λw s1 ⟨y,H1,I1,r1,q1⟩=>?_
  refine cM (ho pins s1 σ H1 v y u w _ I1 r r1 q1) λz s2 ⟨zv,H2,I2,r2,q2⟩=>?_
  exact ia I2 hN hi hx r2 (λs3 I3=>⟨_,H2,I3,q2⟩) hf
 rcases l with ⟨hk,hm⟩ | ⟨hk,c,hc,hcell⟩
 ·exact wpAny_loadName_local I.ok.kind hk hn hm go
 ·rcases hk with hk | hk
  ·exact wpAny_loadName_cell I.ok.kind hk hc hcell go
  ·rcases hx with k | k
   ·have:X.env.scope.names.lookup x=some .free:=hk
    rw [k] at this;cases this
   ·have:X.env.scope.names.lookup x=some .free:=hk
    rw [k] at this;cases this
def Ui (f:Int→Int→Int):Q_:=λx y H Q=>∃i j,x=.int i∧y=.int j∧Q (.int (f i j)) H
theorem Mm:Rt X .Sub (Ui λi j=>i - j):=by
 intro pins s σ H x y v u Q I r1 r2 h
 obtain ⟨i,j,e1,e2,q⟩:=h
 subst e1;subst e2
 obtain ⟨t,rfl⟩:=r1
 obtain ⟨t',rfl⟩:=r2
 exact isub_int ⟨.int _,H,I.tok _,⟨_,rfl⟩,q⟩
end
section
variable {X:Cx} {pos:Pos}
def Bz (c:TT) (tb:TS):TS:=λD σ H=>∃W:Nat→St→Hp→Prop,(∃m,W m σ H)∧∀m σ H,W m σ H →
 c σ H λb H1=>if b=true then ∃N:St→Hp→Prop,(∀σ' H',N σ' H'→∃m',m' < m∧W m' σ' H')∧tb { D with nx:=N,ct:=N,bk:=D.nx } σ H1 else D.nx σ H1
theorem sS {c:Expr} {body:List Stmt} {tc:TT} {tb:TS} (hp:PassesOwn (model X.prog X.w) X.A X.env X.xe) (hc:PT X c tc) (hb:yu X body tb):PS X (.While c body [] pos) (Bz tc tb):=by
 intro pins s σ H D I h
 obtain ⟨W,⟨m0,w0⟩,turn⟩:=h
 refine wpAny_While (codeAny_whileLoop (λn s'=>∃σ' H',Inv X pins σ' H' s'∧W n σ' H') ?_ m0 ⟨σ,H,I,w0⟩)
 rintro n s1 ⟨σ1,H1,I1,w1⟩
 refine wpAny_passesOwn hp (cM (hc pins s1 σ1 H1 _ I1 (turn n σ1 H1 w1)) λb s2 ⟨H2,I2,q2⟩=>?_)
 cases b with
 | true =>
  obtain ⟨N,hN,q2⟩:=q2
  rw [if_pos rfl]
  refine wpAny_passesOwn hp (cM (hb pins s2 σ1 H2 _ I2 q2) λf s3 q3=>?_)
  cases f with
  | next =>
   obtain ⟨σ3,H3,I3,n3⟩:=q3
   obtain ⟨m',hm,w3⟩:=hN σ3 H3 n3
   exact ⟨m',hm,σ3,H3,I3,w3⟩
  | cont =>
   obtain ⟨σ3,H3,I3,n3⟩:=q3
   obtain ⟨m',hm,w3⟩:=hN σ3 H3 n3
   exact ⟨m',hm,σ3,H3,I3,w3⟩
  | brk=>exact q3
  | ret v=>exact q3
 | false =>
  rw [if_neg U5]
  exact wpAny_execs_nil ⟨σ1,H2,I2,q2⟩
end
structure It where
 go:Nat→Hp→Prop
 yld:Nat→Hp→V→Hp→Prop
 stop:Nat→Hp→Prop
def l5 (X:Cx) (pins:List (Addr × Obj)) (H:Hp) (b:Addr):Prop :=
 H b=none∧b≠X.env.locals∧b ∉ X.fs∧(b∈X.ex∨X.s₀.heap.objs.size≤b)∧(∀x c,X.env.cells.lookup x=some c→c≠b)∧∀p∈X.pn ++ pins,p.1≠b
theorem Inv.Fe {X:Cx} {pins:List (Addr × Obj)} {σ:St} {H H':Hp} {s:Shared} {b:Addr} (I:Inv X pins σ H s) (hb:s.heap.objs.size≤b) (hn:H' b=none):l5 X pins H' b:=by
 refine ⟨hn,Wm (UJ I.lt hb),I.Si hb,.inr (UM I.sz hb),λx c e z=>?_,λp hp z=>?_⟩
 ·obtain ⟨v,q⟩:=I.cell x c e
  exact absurd (UJ q.lt (by rw [z];exact hb)) (Vm _)
 ·exact absurd (UJ (Heap.lt_size (I.pin p hp).1) (by rw [z];exact hb)) (Vm _)
structure Turn (P:Program) (w:World) (K:PySem.W.Frag) (tg:Expr) (J:It) (fp:List Addr) (it:Addr) (tn:Nat→Heap→Prop):Prop where
 mem:it∈fp
 obj:∀i h,tn i h→∀b∈fp,∃o,h.get? b=some o∧∀v,o.data≠.cell v
 keep:∀i h h',tn i h→(∀b∈fp,∀o,h.get? b=some o→h'.get? b=some o)→tn i h'
 item:∀(X:Cx),X.prog=P→X.w=w→X.K=K→X.calm=true→∀(i:Nat) (pins:List (Addr × Obj)) (s:Shared) (σ:St) (H:Hp) (E:Value→Shared→Prop),Inv X pins σ H s→(∀b∈fp,l5 X pins H b)→tn i s.heap→J.go i H →
  wpAny (model P w) X.A (pyNext (.ref it)) (λr s1=>∃u,r=some u ∧
   wpAny (model P w) X.A (letOwnedTupleGo tg (.ref it) u) (λ_ s2=>∃x H',Inv X pins σ H' s2∧RelV x u∧J.yld i H x H'∧tn (i + 1) s2.heap∧∀b∈fp,H' b=none) E s1) E s
 done:∀(X:Cx),X.prog=P→X.w=w→X.K=K→X.calm=true→∀(i:Nat) (pins:List (Addr × Obj)) (s:Shared) (σ:St) (H:Hp) (E:Value→Shared→Prop),Inv X pins σ H s→(∀b∈fp,l5 X pins H b)→tn i s.heap→J.stop i H →
  wpAny (model P w) X.A (pyNext (.ref it)) (λr s1=>r=none∧Inv X pins σ H s1) E s
 self:∀(A:Around) (i:Nat) (s:Shared) (Q:Value→Shared→Prop) (E:Value→Shared→Prop),tn i s.heap→Q (.ref it) s→wpAny (model P w) A (pyIter (.ref it)) Q E s
abbrev TI:=St→Hp→(It→Hp→Prop)→Prop
def Tw (X:Cx) (pins:List (Addr × Obj)) (σ:St) (tg:Expr) (R:It→Hp→Prop) (itv:Value) (s2:Shared):Prop :=
 ∃(it:Addr) (fp:List Addr) (tn:Nat→Heap→Prop) (J:It) (H':Hp),itv=.ref it∧Inv X pins σ H' s2∧Turn X.prog X.w X.K tg J fp it tn∧tn 0 s2.heap∧(∀b∈fp,l5 X pins H' b)∧R J H'
def PI (X:Cx) (tg iter:Expr) (wi:TI):Prop :=
 ∀(pins:List (Addr × Obj)) (s:Shared) (σ:St) (H:Hp) (R:It→Hp→Prop),Inv X pins σ H s→wi σ H R →
  wpAny (model X.prog X.w) X.A (eval iter X.env) (λv s1=>wpAny (model X.prog X.w) X.A (pyIter v) (Tw X pins σ tg R) X.xe s1) X.xe s
theorem Fp {M:Model} {A:Around} {E:Value→Shared→Prop} {s:Shared} {tg:Expr} {it:Addr} {u:Value} {o:Obj} {n:String} {vs:Array Value} {Q:Unit→Shared→Prop} (ho:s.heap.get? it=some o) (hc:o.cls=.type n) (hd:o.data=.fields vs)
  (hn:["enumerate","zip","dict_itemiterator","dict_reverseitemiterator","odict_iterator","itertools.zip_longest","itertools.pairwise"].contains n=false) (hQ:Q () s):wpAny M A (letOwnedTupleGo tg (.ref it) u) Q E s:=by
 unfold letOwnedTupleGo
 cases tg <;> first
  | exact wpAny_pure hQ
  | (cases u <;> first
    | exact wpAny_pure hQ
    | (refine wpAny_bind (wpAny_load ho ?_)
       rw [hc,hd]
       show wpAny M A (if (["enumerate","zip","dict_itemiterator","dict_reverseitemiterator","odict_iterator","itertools.zip_longest","itertools.pairwise"].contains n && vs[0]? == some (rawInt _))=true then _ else _) Q E s
       rw [if_neg (by intro h;rw [hn,VZ] at h;cases h)]
       exact wpAny_pure hQ))
def Rq (K:PySem.W.Frag) (a:Addr):It :=
 ⟨λi H=>∃xs x,dY K H a xs∧xs[i]?=some x,λi H x H'=>H'=H∧∀xs,dY K H a xs→xs[i]?=some x,λi H=>∃xs,dY K H a xs∧xs.length≤i⟩
def T' (K:PySem.W.Frag) (a:Addr):It :=
 ⟨λi H=>∃xs x,f' K H a xs∧xs[i]?=some x,λi H x H'=>H'=H∧∀xs,f' K H a xs→xs[i]?=some x,λi H=>∃xs,f' K H a xs∧xs.length≤i⟩
def Oy (lo:Int) (n:Nat):It:=⟨λi _=>i < n,λi H x H'=>H'=H∧x=.int (lo + i),λi _=>n≤i⟩
theorem EC {P:Program} {w:World} {K:PySem.W.Frag} {tg:Expr} (a it:Addr):Turn P w K tg (Rq K a) [it] it (λi h=>h.IsListIter it a i) where
 mem:=by simp
 obj:=λi h st b hb=>by
  have e:b=it:=by simpa using hb
  subst e
  obtain ⟨o,e,c,d⟩:=st
  exact ⟨o,e,λv z=>by rw [d] at z;cases z⟩
 keep:=λi h h' st k=>st.at λo e=>k it (by simp) o e
 item:=by
  intro X hP hw hK hc i pins s σ H E I hf st hg
  subst hP hw hK
  obtain ⟨xs,x,hq,hx⟩:=hg
  obtain ⟨its,rv,p,hz⟩:=I.list hq
  obtain ⟨u,hu,ru⟩:=rv.get hx
  obtain ⟨f0,f1,f2,f3,f4,f5⟩:=hf it (by simp)
  refine wpAny_pyNext_list_item st p.isList (x:=u) (by simpa using hu) λh' st' sb=>?_
  have I1:Inv X pins σ H { s with heap:=h' }:=I.turned (t':=s.toks) (λb o hb e=>(sb.2 b hb).trans e) f0 f1 f3 f4 f5
  obtain ⟨o,e,c,d⟩:=id st'
  exact ⟨u,rfl,Fp (s:={ s with heap:=h' }) e c d (by decide) ⟨x,H,I1,ru,⟨rfl,λys hy=>by rw [I.ku hy hq];exact hx⟩,st',λb hb=>(hf b hb).1⟩⟩
 done:=by
  intro X hP hw hK hc i pins s σ H E I hf st hg
  subst hP hw hK
  obtain ⟨xs,hq,hx⟩:=hg
  obtain ⟨its,rv,p,hz⟩:=I.list hq
  obtain ⟨f0,f1,f2,f3,f4,f5⟩:=hf it (by simp)
  have hl:=rv.length
  exact wpAny_pyNext_list_end (I.ok.hd hc) st p.isList (by simp;omega) λh' eb=>⟨rfl,I.turned (t':=s.toks) (λb o hb e=>eb b o hb e) f0 f1 f3 f4 f5⟩
 self:=λ_ _ _ _ _ st h=>wpAny_pyIter_listiter st h
theorem BB {P:Program} {w:World} {K:PySem.W.Frag} {tg:Expr} (it:Addr) (lo:Int) (n:Nat):Turn P w K tg (Oy lo n) [it] it (λi h=>IsRangeIter h it (lo + (i:Nat) * 1) ((n:Int) - (i:Nat)) 1) where
 mem:=by simp
 obj:=λi h st b hb=>by
  have e:b=it:=by simpa using hb
  subst e
  exact ⟨_,st,λv z=>by
   have z':Data.fields _=Data.cell v:=z
   cases z'⟩
 keep:=λi h h' st k=>k it (by simp) _ st
 item:=by
  intro X hP hw hK hc i pins s σ H E I hf st hg
  subst hP hw hK
  obtain ⟨f0,f1,f2,f3,f4,f5⟩:=hf it (by simp)
  have W:=Walks.range (prog:=X.prog) (w:=X.w) (I.ok.hd hc) it lo 1 n
  refine W.item i s _ _ hg st λv h' tk hv st' kk=>?_
  obtain ⟨t,rfl⟩:=hv
  have I1:Inv X pins σ H { s with heap:=h',toks:=tk }:=I.turned (λb o hb e=>kk b o (by simpa using hb) e) f0 f1 f3 f4 f5
  refine ⟨_,rfl,Fp (s:={ s with heap:=h',toks:=tk }) (n:="range_iterator") st' rfl rfl (by decide) ⟨.int (lo + i),H,I1,⟨t,?_⟩,⟨rfl,rfl⟩,st',λb hb=>(hf b hb).1⟩⟩
  rw [Int.mul_one]
 done:=by
  intro X hP hw hK hc i pins s σ H E I hf st hg
  subst hP hw hK
  obtain ⟨f0,f1,f2,f3,f4,f5⟩:=hf it (by simp)
  exact wpAny_pyNext_range_end (I.ok.hd hc) st (by have:n≤i:=hg;omega) λh' eb=>⟨rfl,I.turned (t':=s.toks) (λb o hb e=>eb b o hb e) f0 f1 f3 f4 f5⟩
 self:=λ_ _ _ _ _ st h=>wpAny_pyIter_rangeiter st h
end L2
namespace L2
open PySem PySem.Spec PyProof.Rows
section
variable {X:Cx} {tg:Expr}
def Fu (K:PySem.W.Frag) (tl:TE):TI:=λσ H R=>tl σ H λx H1=>∃a,x=.ref a∧(∃xs,dY K H1 a xs)∧R (Rq K a) H1
def RJ (K:PySem.W.Frag) (tl:TE):TI:=λσ H R=>tl σ H λx H1=>∃a,x=.ref a∧(∃xs,f' K H1 a xs)∧R (T' K a) H1
theorem w_ {l:Expr} {tl:TE} (hl:PE X l tl):PI X tg l (Fu X.K tl):=by
 intro pins s σ H R I h
 refine cM (hl pins s σ H _ I h) λv s1 ⟨x,H1,I1,r1,q1⟩=>?_
 obtain ⟨a,e,⟨xs,hq⟩,q⟩:=q1
 subst e
 cases r1
 obtain ⟨its,rv,p,hz⟩:=I1.list hq
 refine wpAny_pyIter_list p.isList ?_
 refine ⟨s1.heap.objs.size,[s1.heap.objs.size],_,_,H1,rfl,I1.kept (t':=s1.toks) λb o e=>Heap.get?_push_of_some _ e,EC a _,⟨_,Heap.get?_push_size _ rfl,rfl,rfl⟩,λb hb=>?_,q⟩
 have e:b=s1.heap.objs.size:=by simpa using hb
 subst e
 exact I1.Fe (UC _) (I1.hok.fresh (UC _))
theorem GV {pins:List (Addr × Obj)} {σ:St} {H:Hp} {s:Shared} {R:It→Hp→Prop} {E:Value→Shared→Prop} {lo hi:Int} {t u v:Tok} {tk:Nat} (I:Inv X pins σ H s) (h1:-(2 ^ 62)≤lo) (h2:lo < 2 ^ 62) (h3:-(2 ^ 62)≤hi) (h4:hi < 2 ^ 62)
  (q:R (Oy lo (hi - lo).toNat) H):wpAny (model X.prog X.w) X.A (pyIter (.ref s.heap.objs.size)) (Tw X pins σ tg R) E { s with heap:=s.heap.push { cls:=.type "range",data:=.fields #[.int lo t,.int hi u,.int 1 v] },toks:=tk }:=by
 refine wpAny_pyIter_range (IsRange.new ..) (small_one h1 h2 h3 h4) ?_
 have I1:Inv X pins σ H { s with heap:=s.heap.push { cls:=.type "range",data:=.fields #[.int lo t,.int hi u,.int 1 v] },toks:=tk }:=I.kept λb o e=>Heap.get?_push_of_some _ e
 refine ⟨(s.heap.push { cls:=.type "range",data:=.fields #[.int lo t,.int hi u,.int 1 v] }).objs.size,[(s.heap.push { cls:=.type "range",data:=.fields #[.int lo t,.int hi u,.int 1 v] }).objs.size],_,_,H,rfl,
  I1.kept (t':=tk) λb o e=>Heap.get?_push_of_some _ e,BB _ lo (hi - lo).toNat,?_,λb hb=>?_,q⟩
 ·have e1:lo + ((0:Nat):Int) * 1=lo:=by simp
  have e2:(((hi - lo).toNat:Nat):Int) - ((0:Nat):Int)=Builtin.Range.rangeSize lo hi 1:=by rw [rangeSize_one];split <;> omega
  show IsRangeIter _ _ (lo + ((0:Nat):Int) * 1) ((((hi - lo).toNat:Nat):Int) - ((0:Nat):Int)) 1
  rw [e1,e2]
  exact Heap.get?_push_size _ rfl
 ·have e:b=(s.heap.push { cls:=.type "range",data:=.fields #[.int lo t,.int hi u,.int 1 v] }).objs.size:=by simpa using hb
  subst e
  exact I1.Fe (UC _) (I1.hok.fresh (UC _))
def Fv (ta:TA):TI:=λσ H R=>ta σ H λvs H1=>∃j:Int,vs=[.int j]∧-(2 ^ 62)≤j∧j < 2 ^ 62∧R (Oy 0 j.toNat) H1
def O0 (ta:TA):TI:=λσ H R=>ta σ H λvs H1=>∃i j:Int,vs=[.int i,.int j]∧(-(2 ^ 62)≤i∧i < 2 ^ 62∧-(2 ^ 62)≤j∧j < 2 ^ 62)∧R (Oy i (j - i).toNat) H1
theorem pJ {a:Expr} {ta:TA} {p pos:Pos} (hg:Gl X "range") (hm:X.mg "range"=none) (ha:PA X [a] ta) (hs:starEach [a] X.env=[(false,eval a X.env)]:=by rfl):PI X tg (.Call (.Name "range" p) [a] [] pos) (Fv ta):=by
 intro pins s σ H R I h
 refine Call_ (mI I hg hm boot_range (PyProof.Rows.callWith_type1 (cM (ha pos pins s σ H _ I h) λus s1 ⟨vs,H1,I1,r1,q1⟩=>?_) hs rfl))
 obtain ⟨j,e,q1,q2,q⟩:=q1
 subst e
 cases r1 with
 | cons r rr =>
  cases rr
  obtain ⟨t,rfl⟩:=r
  exact call_range_1 (GV I1 (by omega) (by omega) q1 q2 (by simpa using q))
def NI (wi:TI) (g:TG) (tb:TS):TS:=λD σ H=>wi σ H λJ H1=>∃W:Nat→Nat→St→Hp→Prop,(∃m,W 0 m σ H1)∧∀i m σ H,W i m σ H →
 (J.stop i H∧D.nx σ H)∨(J.go i H∧∃N:St→Hp→Prop,(∀σ' H',N σ' H'→∃m',m' < m∧W (i + 1) m' σ' H')∧∀x H',J.yld i H x H'→g x σ H' λσ2 H2=>tb { D with nx:=N,ct:=N,bk:=D.nx } σ2 H2)
def xa (fp:List Addr) (h:Heap):List (Addr × Obj):=fp.filterMap λb=>(h.get? b).map λo=>(b,o)
theorem cZ {fp:List Addr} {h:Heap} {b:Addr} {o:Obj} (hb:b∈fp) (e:h.get? b=some o):(b,o)∈xa fp h:=VM.mpr ⟨b,hb,by rw [e];rfl⟩
theorem D3 {fp:List Addr} {h:Heap} {p:Addr × Obj} (hp:p∈xa fp h):p.1∈fp∧h.get? p.1=some p.2:=by
 obtain ⟨b,hb,e⟩:=VM.mp hp
 cases q:h.get? b with
 | none=>rw [q] at e;cases e
 | some o =>
  rw [q] at e
  have e':(b,o)=p:=Option.some.inj e
  subst e'
  exact ⟨hb,q⟩
theorem Inv.pinned {pins:List (Addr × Obj)} {σ:St} {H:Hp} {s:Shared} {fp:List Addr} (I:Inv X pins σ H s) (hf:∀b∈fp,l5 X pins H b) (ho:∀b∈fp,∃o,s.heap.get? b=some o∧∀v,o.data≠.cell v):Inv X (pins ++ xa fp s.heap) σ H s :=
 I.Cn λp hp=>(UB.mp hp).elim (λz=>I.pin p (UG _ z)) λz=>by
  obtain ⟨hb,e⟩:=D3 z
  obtain ⟨f0,f1,f2,_⟩:=hf p.1 hb
  obtain ⟨o,e',d⟩:=ho p.1 hb
  rw [e] at e';cases e'
  exact ⟨e,f0,f1,f2,d⟩
theorem Inv.ie {pins pl:List (Addr × Obj)} {σ:St} {H:Hp} {s:Shared} (I:Inv X (pins ++ pl) σ H s):Inv X pins σ H s:=I.Cn λp hp=>I.pin p (UG _ (VH _ hp))
theorem A4 {iter:Expr} {body:List Stmt} {wi:TI} {g:TG} {tb:TS} {pos:Pos} (hp:PassesOwn (model X.prog X.w) X.A X.env X.xe) (hc:X.calm=true) (hi:PI X tg iter wi) (hg:PG X tg g) (hb:yu X body tb)
  (hs:∀x,foldedSetIterable iter X.env x=pure x:=by intro _;rfl):PS X (.For tg iter body [] pos) (NI wi g tb):=by
 intro pins s σ H D I h
 refine wpAny_For (cM (hi pins s σ H _ I h) λv s1 h1=>cM h1 λitv s2 h2=>?_) hs
 obtain ⟨it,fp,tn,J,H2,e,I2,T,st2,f2,W,⟨m0,w0⟩,turn⟩:=h2
 subst e
 have stat:∀{H':Hp},(∀b∈fp,H' b=none)→∀b∈fp,l5 X pins H' b:=λhn b hb=>⟨hn b hb,(f2 b hb).2⟩
 refine codeAny_forLoop_any (λn s'=>∃i σ' H',Inv X pins σ' H' s'∧tn i s'.heap∧(∀b∈fp,H' b=none)∧W i n σ' H') ?_ m0 ⟨0,σ,H2,I2,st2,λb hb=>(f2 b hb).1,w0⟩
 rintro n s3 ⟨i,σ3,H3,I3,st3,fr3,w3⟩
 rcases turn i n σ3 H3 w3 with ⟨stop,qn⟩ | ⟨go,N,hN,step⟩
 ·refine wpAny_passesOwn hp (cM (T.done X rfl rfl rfl hc i pins s3 σ3 H3 X.xe I3 (stat fr3) st3 stop) λr s4 ⟨hr,I4⟩=>?_)
  subst hr
  exact wpAny_execs_nil ⟨σ3,H3,I4,qn⟩
 ·refine wpAny_passesOwn hp (cM (T.item X rfl rfl rfl hc i pins s3 σ3 H3 X.xe I3 (stat fr3) st3 go) λr s4 ⟨u,hr,h4⟩=>?_)
  subst hr
  refine wpAny_passesOwn hp (cM h4 λ_ s5 ⟨x,H5,I5,r5,y5,st5,fr5⟩=>?_)
  have I5':=I5.pinned (stat fr5) (T.obj _ _ st5)
  refine wpAny_passesOwn hp (cM (hg _ s5 σ3 H5 x u _ I5' r5 (step x H5 y5)) λ_ s6 ⟨σ6,H6,I6,q6⟩=>?_)
  refine wpAny_passesOwn hp (cM (hb _ s6 σ6 H6 _ I6 q6) λf s7 q7=>?_)
  have again:∀{σ7:St} {H7:Hp},Inv X (pins ++ xa fp s5.heap) σ7 H7 s7→N σ7 H7→∃m,m < n∧∃i σ' H',Inv X pins σ' H' s7∧tn i s7.heap∧(∀b∈fp,H' b=none)∧W i m σ' H':=λ{σ7 H7} I7 n7=>by
   obtain ⟨m',hm,w7⟩:=hN σ7 H7 n7
   refine ⟨m',hm,i + 1,σ7,H7,I7.ie,T.keep _ _ _ st5 λb hb o e=>(I7.pin (b,o) (UG _ (UG _ (cZ hb e)))).1,λb hb=>?_,w7⟩
   obtain ⟨o,e,d⟩:=T.obj _ _ st5 b hb
   exact (I7.pin (b,o) (UG _ (UG _ (cZ hb e)))).2.1
  cases f with
  | next=>obtain ⟨σ7,H7,I7,n7⟩:=q7;exact again I7 n7
  | cont=>obtain ⟨σ7,H7,I7,n7⟩:=q7;exact again I7 n7
  | brk=>obtain ⟨σ7,H7,I7,q7⟩:=q7;exact ⟨σ7,H7,I7.ie,q7⟩
  | ret v=>obtain ⟨x7,σ7,H7,I7,r7,q7⟩:=q7;exact ⟨x7,σ7,H7,I7.ie,r7,q7⟩
end
end L2
namespace L2
open PySem PySem.Spec PyProof.Rows
abbrev R2:=V→V→Hp→VK→Prop
def fw (X:Cx) (f:Value→Value→Sem Value) (r:R2):Prop :=
 ∀(pins:List (Addr × Obj)) (s:Shared) (σ:St) (H:Hp) (x y:V) (v u:Value) (Q:VK),Inv X pins σ H s→RelV x v→RelV y u→r x y H Q →
  wpAny (model X.prog X.w) X.A (f v u) (EP X pins σ Q) X.xe s
def qO (X:Cx) (f:Value→Sem Value) (r:V→Hp→VK→Prop):Prop :=
 ∀(pins:List (Addr × Obj)) (s:Shared) (σ:St) (H:Hp) (x:V) (v:Value) (Q:VK),Inv X pins σ H s→RelV x v→r x H Q →
  wpAny (model X.prog X.w) X.A (f v) (EP X pins σ Q) X.xe s
def bS (X:Cx) (f:Value) (r:List V→Hp→VK→Prop):Prop :=
 ∀(pins:List (Addr × Obj)) (s:Shared) (σ:St) (H:Hp) (xs:List V) (us:List Value) (Q:VK),Inv X pins σ H s→Vals xs us→r xs H Q →
  wpAny (model X.prog X.w) X.A (call f us) (EP X pins σ Q) X.xe s
def Ru (X:Cx) (r:V→Hp→(Bool→Hp→Prop)→Prop):Prop :=
 ∀(pins:List (Addr × Obj)) (s:Shared) (σ:St) (H:Hp) (x:V) (v:Value) (Q:Bool→Hp→Prop),Inv X pins σ H s→RelV x v→r x H Q →
  wpAny (model X.prog X.w) X.A (truthy v) (TP X pins σ Q) X.xe s
def HM (r:R2) (ta tb:TE):TE:=λσ H Q=>ta σ H λx H1=>tb σ H1 λy H2=>r x y H2 Q
def SX (r:V→Hp→VK→Prop) (ta:TE):TE:=λσ H Q=>ta σ H λx H1=>r x H1 Q
def rI (C:Int→Int→Prop) (g:Int→Int→V):R2:=λx y H Q=>∃i j,x=.int i∧y=.int j∧C i j∧Q (g i j) H
def JE (g:Int→Int→V):R2:=λx y H Q=>∃i j,x=.int i∧y=.int j∧Q (g i j) H
def rU (g:Int→V):V→Hp→VK→Prop:=λx H Q=>∃i,x=.int i∧Q (g i) H
section
variable {X:Cx} {a b c:Expr} {ta tb tc:TE} {pos:Pos}
theorem LX (ha:PE X a ta) (hb:PE X b tb) {pins:List (Addr × Obj)} {s:Shared} {σ:St} {H:Hp} {R:V→V→Hp→Prop} (I:Inv X pins σ H s)
  (h:ta σ H λx H1=>tb σ H1 λy H2=>R x y H2) {Q:Value→Shared→Prop} {f:Value→Value→Sem Value}
  (hf:∀v u s2 x y H2,Inv X pins σ H2 s2→RelV x v→RelV y u→R x y H2→wpAny (model X.prog X.w) X.A (f v u) Q X.xe s2) :
  wpAny (model X.prog X.w) X.A (eval a X.env) (λv s₁=>wpAny (model X.prog X.w) X.A (eval b X.env) (λu s₂=>wpAny (model X.prog X.w) X.A (f v u) Q X.xe s₂) X.xe s₁) X.xe s:=by
 refine cM (ha pins s σ H _ I h) λv s1 ⟨x,H1,I1,r1,q1⟩=>?_
 refine cM (hb pins s1 σ H1 _ I1 q1) λu s2 ⟨y,H2,I2,r2,q2⟩=>?_
 exact hf v u s2 x y H2 I2 r1 r2 q2
theorem Gx {op:Operator} {r:R2} (ho:fw X (binaryOp op) r) (ha:PE X a ta) (hb:PE X b tb):PE X (.BinOp a op b pos) (HM r ta tb):=by
 intro pins s σ H Q I h
 exact wpAny_BinOp (LX ha hb I h λv u s2 x y H2 I2 rx ry q=>ho pins s2 σ H2 x y v u Q I2 rx ry q)
theorem Gz {op:UnaryOp} {r:V→Hp→VK→Prop} (ho:qO X (unaryOp op) r) (ha:PE X a ta):PE X (.UnaryOp op a pos) (SX r ta):=by
 intro pins s σ H Q I h
 exact UnaryOp_ (cM (ha pins s σ H _ I h) λv s1 ⟨x,H1,I1,r1,q1⟩=>ho pins s1 σ H1 x v Q I1 r1 q1)
theorem Rh {f:Value→Value→Sem Value} {C:Int→Int→Prop} {g:Int→Int→Int}
  (rule:∀(i j:Int) (t u:Tok) (s:Shared) (Q:Value→Shared→Prop) (E:Value→Shared→Prop),C i j→Q (.int (g i j) s.toks) { s with toks:=s.toks + 1 }→wpAny (model X.prog X.w) X.A (f (.int i t) (.int j u)) Q E s) :
  fw X f (rI C λi j=>.int (g i j)):=by
 intro pins s σ H x y v u Q I rx ry h
 obtain ⟨i,j,rfl,rfl,hc,q⟩:=h
 obtain ⟨t,rfl⟩:=rx
 obtain ⟨t',rfl⟩:=ry
 exact rule i j t t' s _ _ hc ⟨.int (g i j),H,I.tok _,⟨_,rfl⟩,q⟩
theorem PL {f:Value→Value→Sem Value} {g:Int→Int→Int}
  (rule:∀(i j:Int) (t u:Tok) (s:Shared) (Q:Value→Shared→Prop) (E:Value→Shared→Prop),Q (.int (g i j) s.toks) { s with toks:=s.toks + 1 }→wpAny (model X.prog X.w) X.A (f (.int i t) (.int j u)) Q E s) :
  fw X f (JE λi j=>.int (g i j)):=by
 intro pins s σ H x y v u Q I rx ry h
 obtain ⟨i,j,rfl,rfl,q⟩:=h
 obtain ⟨t,rfl⟩:=rx
 obtain ⟨t',rfl⟩:=ry
 exact rule i j t t' s _ _ ⟨.int (g i j),H,I.tok _,⟨_,rfl⟩,q⟩
theorem Jg {f:Value→Value→Sem Value} {g:Int→Int→Bool}
  (rule:∀(i j:Int) (t u:Tok) (s:Shared) (Q:Value→Shared→Prop) (E:Value→Shared→Prop),Q (.bool (g i j)) s→wpAny (model X.prog X.w) X.A (f (.int i t) (.int j u)) Q E s) :
  fw X f (JE λi j=>.bl (g i j)):=by
 intro pins s σ H x y v u Q I rx ry h
 obtain ⟨i,j,rfl,rfl,q⟩:=h
 obtain ⟨t,rfl⟩:=rx
 obtain ⟨t',rfl⟩:=ry
 exact rule i j t t' s _ _ ⟨.bl (g i j),H,I,rfl,q⟩
def Lj (i j:Int):Prop:=0≤j∧j≤1000000∧i.natAbs < 2 ^ 64
theorem MT:fw X (binaryOp .Add) (JE λi j=>.int (i + j)):=PL λ_ _ _ _ _ _ _ q=>add_int q
theorem M0:fw X (binaryOp .Sub) (JE λi j=>.int (i - j)):=PL λ_ _ _ _ _ _ _ q=>sub_int q
theorem MX:fw X (binaryOp .Mod) (rI (λ_ j=>0 < j) λi j=>.int (i % j)):=Rh λi j _ _ _ _ _ hc q=>by
 have h1:(0:Int) < j:=hc
 exact mod_int' (by omega) (by rw [Int.fmod_eq_emod_of_nonneg i (by omega)];exact q)
theorem MZ:fw X (binaryOp .Pow) (rI Lj λi j=>.int (i ^ j.toNat)):=Rh λ_ _ _ _ _ _ _ hc q=>pow_int_small hc.1 hc.2.1 hc.2.2 q
theorem Uq {f:Value→Sem Value} {g:Int→Int}
  (rule:∀(i:Int) (t:Tok) (s:Shared) (Q:Value→Shared→Prop) (E:Value→Shared→Prop),Q (.int (g i) s.toks) { s with toks:=s.toks + 1 }→wpAny (model X.prog X.w) X.A (f (.int i t)) Q E s) :
  qO X f (rU λi=>.int (g i)):=by
 intro pins s σ H x v Q I rx h
 obtain ⟨i,rfl,q⟩:=h
 obtain ⟨t,rfl⟩:=rx
 exact rule i t s _ _ ⟨.int (g i),H,I.tok _,⟨_,rfl⟩,q⟩
theorem NY:qO X (unaryOp .USub) (rU λi=>.int (-i)):=Uq λ_ _ _ _ _ q=>neg_int q
end
section
variable {X:Cx} {a b c:Expr} {ta tb tc:TE} {pos:Pos}
theorem Ao {pins:List (Addr × Obj)} {σ:St} {H:Hp} {s:Shared} {Q:VK} {k k':Bool} (I:Inv X pins σ H s) (q:Q (.bl k) H) (e:k=k'):EP X pins σ Q (.bool k') s:=by
 subst e
 exact ⟨.bl k,H,I,rfl,q⟩
theorem PR:fw X (compareOp .Lt) (JE λi j=>.bl (decide (i < j))):=Jg λ_ _ _ _ _ _ _ q=>lt_int q
theorem PQ:fw X (compareOp .LtE) (JE λi j=>.bl (decide (i≤j))):=Jg λ_ _ _ _ _ _ _ q=>le_int q
theorem PN:fw X (compareOp .Gt) (JE λi j=>.bl (decide (j < i))):=Jg λ_ _ _ _ _ _ _ q=>gt_int q
theorem PM:fw X (compareOp .GtE) (JE λi j=>.bl (decide (j≤i))):=Jg λ_ _ _ _ _ _ _ q=>ge_int q
theorem Ef:fw X (compareOp .Lt) (λx y H Q=>∃i j,x=.str i∧y=.str j∧Q (.bl (decide (i.cps.toList < j.cps.toList))) H):=by
 intro pins s σ H x y v u Q I rx ry h
 obtain ⟨i,j,rfl,rfl,q⟩:=h
 obtain ⟨t,rfl⟩:=rx
 obtain ⟨t',rfl⟩:=ry
 exact lt_str (Ao I q rfl)
theorem MW:fw X (compareOp .Is) (λx y H Q=>y=.non∧Q (.bl (decide (x=.non))) H):=by
 intro pins s σ H x y v u Q I rx ry h
 obtain ⟨rfl,q⟩:=h
 cases ry
 refine is_none_gen (Ao I q ?_)
 cases x <;> first
  | (cases rx;rfl)
  | (obtain ⟨t,rfl⟩:=rx;rfl)
theorem Jj:fw X (compareOp .IsNot) (λx y H Q=>y=.non∧Q (.bl (!decide (x=.non))) H):=by
 intro pins s σ H x y v u Q I rx ry h
 obtain ⟨rfl,q⟩:=h
 cases ry
 refine isnot_none_gen (Ao I q ?_)
 cases x <;> first
  | (cases rx;rfl)
  | (obtain ⟨t,rfl⟩:=rx;rfl)
theorem fw.or {f:Value→Value→Sem Value} {r r':R2} (h:fw X f r) (h':fw X f r'):fw X f (λx y H Q=>r x y H Q∨r' x y H Q):=by
 intro pins s σ H x y v u Q I rx ry q
 rcases q with q | q
 ·exact h pins s σ H x y v u Q I rx ry q
 ·exact h' pins s σ H x y v u Q I rx ry q
theorem F3 (b:Expr) {op:CmpOp} (h:op≠.In:=by decide) (h2:op≠.NotIn:=by decide):behindInMarks op b=false:=by
 have e1:(op == CmpOp.In)=false:=by cases op <;> first | rfl | exact absurd rfl h
 have e2:(op == CmpOp.NotIn)=false:=by cases op <;> first | rfl | exact absurd rfl h2
 cases b <;> simp [behindInMarks,e1,e2]
theorem wW {op:CmpOp} {r:R2} (ho:fw X (compareOp op) r) (ha:PE X a ta) (hb:PE X b tb) (hm:behindInMarks op b=false):PE X (.Compare a [op] [b] pos) (HM r ta tb):=by
 intro pins s σ H Q I h
 exact wpAny_Compare1 (LX ha hb I h λv u s2 x y H2 I2 rx ry q=>ho pins s2 σ H2 x y v u Q I2 rx ry q) hm
def Hz (t:TE):TT:=λσ H Q=>t σ H λx H'=>∃k,x=.bl k∧Q k H'
theorem xk {op:CmpOp} {r:R2} (ho:fw X (compareOp op) r) (ha:PE X a ta) (hb:PE X b tb) (hm:behindInMarks op b=false):PT X (.Compare a [op] [b] pos) (Hz (HM r ta tb)):=by
 intro pins s σ H Q I h
 refine wpAny_isTrue_Compare1 (cM (ha pins s σ H _ I h) λv s1 ⟨x,H1,I1,r1,q1⟩=>cM (hb pins s1 σ H1 _ I1 q1) λu s2 ⟨y,H2,I2,r2,q2⟩ =>
  cM (ho pins s2 σ H2 x y v u _ I2 r1 r2 q2) λc s3 ⟨z,H3,I3,r3,k,e,q3⟩=>?_) hm
 subst e
 cases r3
 exact wpAny_truthy_bool ⟨H3,I3,q3⟩
def Ho (r r':R2) (ta tb tc:TE):TE:=λσ H Q=>ta σ H λx H1=>tb σ H1 λy H2=>r x y H2 λz H3=>∃k,z=.bl k ∧
 (if k=true then tc σ H3 λw' H4=>r' y w' H4 Q else Q (.bl false) H3)
theorem Gr {op op':CmpOp} {r r':R2} (ho:fw X (compareOp op) r) (ho':fw X (compareOp op') r') (ha:PE X a ta) (hb:PE X b tb) (hc:PE X c tc)
  (hm:lastMarks [op,op'] [b,c]=false:=by with_unfolding_all rfl):PE X (.Compare a [op,op'] [b,c] pos) (Ho r r' ta tb tc):=by
 intro pins s σ H Q I h
 refine Compare_chain (cM (ha pins s σ H _ I h) λv s1 ⟨x,H1,I1,r1,q1⟩=>chain_link (cM (hb pins s1 σ H1 _ I1 q1) λu s2 ⟨y,H2,I2,r2,q2⟩ =>
  cM (ho pins s2 σ H2 x y v u _ I2 r1 r2 q2) λd s3 ⟨z,H3,I3,r3,k,e,q3⟩=>?_)) hm
 subst e
 cases r3
 refine wpAny_truthy_bool ?_
 cases k with
 | false=>exact ite_ff ⟨.bl false,H3,I3,rfl,q3⟩
 | true=>exact ite_tt (chain_last (cM (hc pins s3 σ H3 _ I3 q3) λw' s4 ⟨z',H4,I4,r4,q4⟩=>ho' pins s4 σ H4 y z' u w' Q I4 r2 r4 q4))
def LQ (K:PySem.W.Frag) (x:V) (H:Hp) (k:Bool):Prop :=
 match x with
 | .non=>k=false
 | .bl b=>k=b
 | .int i=>k=(i != 0)
 | .str y=>y.length≤sizeLine∧k=((y.length:Int) != 0)
 | .byt y=>y.size≤sizeLine∧k=((y.size:Int) != 0)
 | .ref p=>(∃xs,dY K H p xs∧k=!xs.isEmpty)∨(∃xs,f' K H p xs∧k=!xs.isEmpty)∨∃kvs ep,H p=some (.dE kvs ep)∧k=!kvs.isEmpty
 | _=>False
theorem Au {κ:Type} {kvs:List (κ × V)} {vs:List (κ × Value)} (r:KV kvs vs):(!vs.isEmpty)=!kvs.isEmpty:=by
 cases r <;> rfl
theorem sf {xs:List V} {its:List Value} (r:Vals xs its):(!its.toArray.isEmpty)=!xs.isEmpty:=by
 cases r <;> simp
theorem mK:(sizeLine:Nat) < 2 ^ 63:=by rw [sizeLine_eq];decide
theorem NU:Ru X (λx H Q=>∃k,LQ X.K x H k∧Q k H):=by
 intro pins s σ H x v Q I rx h
 obtain ⟨k,e,q⟩:=h
 have hl:=mK
 have hs:sizeLine=16777216:=sizeLine_eq
 cases x with
 | non =>
  cases rx
  have e':k=false:=e
  subst e'
  exact truthy_none ⟨H,I,q⟩
 | bl b =>
  cases rx
  have e':k=b:=e
  subst e'
  exact wpAny_truthy_bool ⟨H,I,q⟩
 | int i =>
  obtain ⟨t,rfl⟩:=rx
  have e':k=(i != 0):=e
  subst e'
  exact PySem.P.truthy_int ⟨H,I,q⟩
 | str y =>
  obtain ⟨t,rfl⟩:=rx
  obtain ⟨hy,e'⟩:y.length≤sizeLine∧k=((y.length:Int) != 0):=e
  subst e'
  exact PySem.P.truthy_str (by omega) ⟨H,I.tok _,q⟩
 | byt y =>
  obtain ⟨t,rfl⟩:=rx
  obtain ⟨hy,e'⟩:y.size≤sizeLine∧k=((y.size:Int) != 0):=e
  subst e'
  exact PySem.W.truthy_bytes (by omega) ⟨H,I.tok _,q⟩
 | ref p =>
  cases rx
  have e':(∃xs,dY X.K H p xs∧k=!xs.isEmpty)∨(∃xs,f' X.K H p xs∧k=!xs.isEmpty)∨∃kvs ep,H p=some (.dE kvs ep)∧k=!kvs.isEmpty:=e
  rcases e' with ⟨xs,hx,e'⟩ | ⟨xs,hx,e'⟩ | ⟨kvs,ep,hx,e'⟩
  ·subst e'
   obtain ⟨its,r,pl,hz⟩:=I.list hx
   have hlen:=r.length
   exact wpAny_truthy_list pl.isList (by simp only [UD];omega) ⟨H,I.tok _,by rw [sf r];exact q⟩
  ·subst e'
   obtain ⟨its,r,pl,hz⟩:=I.tuple hx
   have hlen:=r.length
   exact truthy_tuple pl (by simp only [UD];omega) ⟨H,I.tok _,by rw [sf r];exact q⟩
  ·subst e'
   obtain ⟨hz,hS,vs,r,m⟩:kvs.length≤sizeLine∧(p == sysModules)=false∧∃vs,KV kvs vs∧s.heap.DictAt (strKind X.prog X.w) p vs ep:=I.hok p _ hx
   have hlen:kvs.length=vs.length:=Paired.length r
   exact wpAny_truthy_dict hS m.dictOf (by omega) ⟨H,I.tok _,by rw [Au r];exact q⟩
 | _=>exact (show False from e).elim
theorem GD (ha:PE X a ta) (he:∀whole,isTrue a X.env whole=(do let v ← whole;standAt a.pos;holding [v] (truthy v))) :
  PT X a (λσ H Q=>ta σ H λx H'=>∃k,LQ X.K x H' k∧Q k H'):=by
 intro pins s σ H Q I h
 exact isTrue_plain (cM (ha pins s σ H _ I h) λv s1 ⟨x,H1,I1,r1,q1⟩=>NU pins s1 σ H1 x v Q I1 r1 q1) (he _)
theorem vals1 {x:V} {us:List Value} (r:Vals [x] us):∃u,us=[u]∧RelV x u:=by
 cases r with
 | cons r1 r2=>cases r2;exact ⟨_,rfl,r1⟩
theorem vals2 {x y:V} {us:List Value} (r:Vals [x,y] us):∃u w',us=[u,w']∧RelV x u∧RelV y w':=by
 cases r with
 | cons r1 r2 =>
  cases r2 with
  | cons r3 r4=>cases r4;exact ⟨_,_,rfl,r1,r3⟩
theorem E1:bS X (.builtin "abs") (λxs H Q=>∃i,xs=[.int i]∧Q (.int (if i < 0 then -i else i)) H):=by
 intro pins s σ H xs us Q I r h
 obtain ⟨i,rfl,q⟩:=h
 obtain ⟨u,rfl,t,rfl⟩:=vals1 r
 exact call_abs_int λu tk=>⟨.int (if i < 0 then -i else i),H,I.tok _,⟨_,rfl⟩,q⟩
theorem Dx:bS X (.type "int") (λxs H Q=>(∃i,xs=[.int i]∧Q (.int i) H)∨∃k,xs=[.bl k]∧Q (.int (if k then 1 else 0)) H):=by
 intro pins s σ H xs us Q I r h
 rcases h with ⟨i,rfl,q⟩ | ⟨k,rfl,q⟩
 ·obtain ⟨u,rfl,t,rfl⟩:=vals1 r
  exact call_int_int ⟨.int i,H,I,⟨_,rfl⟩,q⟩
 ·obtain ⟨u,rfl,r1⟩:=vals1 r
  cases r1
  exact call_int_bool ⟨.int (if k then 1 else 0),H,I.tok _,⟨_,rfl⟩,q⟩
end
end L2
namespace L2
open PySem PySem.Spec PyProof.Rows
structure Ad (h:Heap) (x dx C:Addr) (mA:Str→Option Value):Prop where
 obj:h.get? x=some (PySem.W.instObj C dx)
 ns:h.Ns1 dx mA
 ne:dx≠x
theorem DU {h:Heap} {dx:Addr} {mA:Str→Option Value} (n:h.Ns1 dx mA):∃od,h.get? dx=some od∧∀name,PySem.W.lookIn name od=some (mA name):=by
 obtain ⟨o,es,ep,ho,hd,hk,_,hm⟩:=n
 refine ⟨o,ho,λname=>?_⟩
 have e:=hm name
 unfold nsFind findBy at e
 rw [← Array.find?_toList] at e
 unfold PySem.W.lookIn
 rw [hd]
 dsimp only
 split
 ·rename_i y q
  rw [q] at e
  exact congrArg some e
 ·rename_i q
  rw [q] at e
  have a:es.toList.any (·.refKey)=false:=by
   rw [List.any_eq_false]
   intro y hy
   obtain ⟨z,t,hkey⟩:=hk y (Array.mem_toList_iff.mp hy)
   simp [DictEntry.refKey,hkey]
  have a':¬ es.toList.any (·.refKey)=true:=by rw [a];exact U5
  rw [if_neg a']
  exact congrArg some e
theorem Ad.look {h:Heap} {x dx C:Addr} {mA:Str→Option Value} (I:Ad h x dx C mA):∃od,PySem.W.InstAt h x (PySem.W.instObj C dx) C (some od)∧∀name,PySem.W.lookIn name od=some (mA name) :=
 let ⟨od,ho,hl⟩:=DU I.ns
 ⟨od,⟨I.obj,rfl,rfl,ho⟩,hl⟩
section
variable {prog:Program} {w:World} {A:Around} {E:Value→Shared→Prop} {s:Shared} {K:PySem.W.Frag} {x dx C f:Addr} {mA:Str→Option Value} {name:Str} {v:Value}
theorem get_map {expr:Bool} {Q:Value→Shared→Prop} (X:K.In s.heap) (I:Ad s.heap x dx C mA) (hg:PySem.W.plainGet K C name=true) (hh:PySem.W.hasDictIn K C=true)
  (ha:PySem.W.findIn K (.ref C) name=some none) (hv:mA name=some v) (hv':PySem.W.handedIn v=true) (h:Q v { s with toks:=s.toks + 1 }) :
  wpAny (model prog w) A (getAttr (.ref x) name expr) Q E s:=by
 obtain ⟨od,J,hl⟩:=I.look
 exact PySem.W.get_value X J (PySem.W.plainGet_of hg).1 (PySem.W.findObj_own hh ha rfl (by rw [hl,hv])) hv' h
theorem Fn {pl:Sem Bool} {Q:Value × List Value→Shared→Prop} (X:K.In s.heap) (I:Ad s.heap x dx C mA) (hg:PySem.W.plainGet K C name=true)
  (hf:PySem.W.findIn K (.ref C) name=some (some (.ref f))) (ht:PySem.W.isFn K (.ref f)=true) (hv:mA name=none) (h:Q (.ref f,[.ref x]) s) :
  wpAny (model prog w) A (getMethod (.ref x) name pl) Q E s:=by
 obtain ⟨od,J,hl⟩:=I.look
 exact PySem.W.method_fn X J (PySem.W.plainGet_of hg).1 (PySem.W.plainGet_of hg).2 hf (beq_iff_eq.mp ht) (by show (PySem.W.lookIn name od).map (·.isSome)=some false;rw [hl,hv];rfl) h
theorem JV {ns:List Str} {Q:Unit→Shared→Prop} (X:K.In s.heap) (I:Ad s.heap x dx C mA)
  (hs:PySem.W.findIn K (.ref C) "__setattr__"=some (some (.builtin "object.__setattr__"))) (hp:PySem.W.plainOver K C=true) (ht:PySem.W.takerIn K C name=some none) (hh:PySem.W.hasDictIn K C=true)
  (hw:PySem.Within mA ns) (hsz:ns.length≤sizeLine)
  (h:∀h',Ad h' x dx C (λy=>if y=name then some v else mA y)→Heap.SameBut dx s.heap h'→Q () { s with heap:=h',toks:=s.toks + 2 }) :
  wpAny (model prog w) A (setAttr (.ref x) name v) Q E s:=by
 obtain ⟨od,J,hl⟩:=I.look
 refine PySem.W.set_plain X J hs (PySem.W.osa_open (s:={ s with toks:=s.toks + 1 }) (r:=none) X J hp ht λb=>?_)
 obtain ⟨cd,hc,hd'⟩:=PySem.W.any_some hh
 have hx:s.heap.get? x=some ⟨.ref C,some dx,.plain,#[]⟩:=I.obj
 refine wpAny_bind (wpAny_pure (wpAny_bind (wpAny_bind (wpAny_loadPart hx (wpAny_bind (PySem.W.Looks.here (s:={ s with toks:=s.toks + 1 }) (PySem.W.looks_clsIn X hc) ?_))))))
 rw [hd']
 refine wpAny_pure (a:=some dx) (wpAny_bind (wpAny_pure (wpAny_bind ?_)))
 refine wpAny_nsSet1 (s:={ s with toks:=s.toks + 1 }) I.ns λh' hn2 hs2=>?_
 obtain ⟨oD,esD,epD,hoD,hdD,hcD⟩:=hn2.count (PySem.Within.cons name v hw)
 refine wpAny_bind (wpAny_lookBehind hoD (by rw [hdD];exact pastItsLine_dict (UM hcD (by rw [UT];omega))) ?_)
 exact wpAny_pure (h _ ⟨(hs2.2 _ (Ne.symm I.ne)).trans I.obj,hn2,I.ne⟩ hs2)
theorem FU {R:Result→Shared→Prop} {vs:List Value} {kw:List (Str × Value)} (X:K.In s.heap) (hm:PySem.W.makesIn K C=true)
  (hi:PySem.W.findIn K (.ref C) "__init__"=some (some (.ref f))) (hf:PySem.W.typeIn K (.ref f)=some (.type "function"))
  (h:codeAny (model prog w) (A.under (.builtin "type.__call__" ⟨.ref C :: vs,kw⟩)) (.call (.ref f) ⟨.ref (s.heap.objs.size + 1) :: vs,kw⟩) (PySem.W.InitBack (s.heap.objs.size + 1) R)
   { s with heap:=(s.heap.push PySem.W.emptyDict).push (PySem.W.instObj C s.heap.objs.size) }) :
  codeAny (model prog w) A (.call (.ref C) ⟨vs,kw⟩) R s:=by
 obtain ⟨hh,g,d,t,os⟩:=s
 exact PySem.W.make_core (PySem.W.makes_of X hm) (PySem.W.looks_findIn X hi) (λself=>PySem.W.bind_fn X self hf) (.inl rfl) h
end
def dR (f:Str) (v:V):List (Str × V)→List (Str × V)
 | []=>[(f,v)]
 | (g,x) :: r=>if g=f then (g,v) :: r else (g,x) :: dR f v r
theorem qd (f g:Str) (v:V):∀fs:List (Str × V),(dR f v fs).lookup g=if g=f then some v else fs.lookup g
 | []=>by
  show VV g [(f,v)]=_
  by_cases h:g=f
  ·have hb:(g == f)=true:=beq_iff_eq.mpr h
   simp only [VV,hb,if_pos h]
  ·have hb:(g == f)=false:=beq_eq_false_iff_ne.mpr h
   simp only [VV,hb,if_neg h]
 | (k,x) :: r=>by
  have ih:=qd f g v r
  rw [show dR f v ((k,x) :: r)=(if k=f then (k,v) :: r else (k,x) :: dR f v r) from rfl]
  by_cases hk:k=f
  ·rw [if_pos hk]
   by_cases h:g=k
   ·have hb:(g == k)=true:=beq_iff_eq.mpr h
    simp only [VV,hb,if_pos (h.trans hk)]
   ·have hb:(g == k)=false:=beq_eq_false_iff_ne.mpr h
    simp only [VV,hb,if_neg (λe:g=f=>h (e.trans hk.symm))]
  ·rw [if_neg hk]
   by_cases h:g=k
   ·have hb:(g == k)=true:=beq_iff_eq.mpr h
    simp only [VV,hb,if_neg (λe:g=f=>hk (h.symm.trans e))]
   ·have hb:(g == k)=false:=beq_eq_false_iff_ne.mpr h
    simp only [VV,hb]
    exact ih
theorem pq (f:Str) (v:V):∀fs:List (Str × V),f∈(dR f v fs).map (·.1)∧∀g,g∈fs.map (·.1)→g∈(dR f v fs).map (·.1)
 | []=>⟨by simp [dR],λg h=>by simp at h⟩
 | (k,x) :: r=>by
  obtain ⟨i1,i2⟩:=pq f v r
  rw [show dR f v ((k,x) :: r)=(if k=f then (k,v) :: r else (k,x) :: dR f v r) from rfl]
  by_cases hk:k=f
  ·rw [if_pos hk]
   subst hk
   exact ⟨by simp,λg h=>by simpa using h⟩
  ·rw [if_neg hk]
   refine ⟨?_,λg h=>?_⟩
   ·rw [UA]
    exact US _ i1
   ·rw [UA] at h ⊢
    rcases UH.mp h with e | e
    ·exact UH.mpr (.inl e)
    ·exact US _ (i2 g e)
theorem qa (f:Str) (v:V):∀fs:List (Str × V),(dR f v fs).length≤fs.length + 1
 | []=>by simp [dR]
 | (k,x) :: r=>by
  have ih:=qa f v r
  rw [show dR f v ((k,x) :: r)=(if k=f then (k,v) :: r else (k,x) :: dR f v r) from rfl]
  by_cases hk:k=f
  ·rw [if_pos hk,UT,UT];omega
  ·rw [if_neg hk,UT,UT];omega
theorem um.some_of {v:V} {o:Option Value} (r:um (some v) o):∃u,o=some u∧RelV v u:=by
 cases o with
 | none=>exact (show False from r).elim
 | some u=>exact ⟨u,rfl,r⟩
theorem um.none_of {o:Option Value} (r:um none o):o=none:=by
 cases o with
 | none=>rfl
 | some u=>exact (show False from r).elim
theorem DH {v:V} {u:Value} (r:RelV v u):PySem.W.handedIn u=true:=by
 cases v with
 | non=>cases (show u=Value.none from r);rfl
 | bl b=>cases (show u=Value.bool b from r);rfl
 | int i=>obtain ⟨t,e⟩:=(show ∃t,u=Value.int i t from r);cases e;rfl
 | str x=>obtain ⟨t,e⟩:=(show ∃t,u=Value.str x t from r);cases e;rfl
 | byt b=>obtain ⟨t,e⟩:=(show ∃t,u=Value.bytes b t from r);cases e;rfl
 | flt b=>obtain ⟨t,e⟩:=(show ∃t,u=Value.float b t from r);cases e;rfl
 | ref a=>cases (show u=Value.ref a from r);rfl
 | ty n=>cases (show u=Value.type n from r);rfl
section
variable {P:Program} {w:World} {H H':Hp} {h h':Heap} {a C dx:Addr} {fs fs':List (Str × V)}
theorem qR (hok:ni P w H h) (e:H a=some (.ins C dx fs)):∃mA,Ad h a dx C mA∧(∀f,um (fs.lookup f) (mA f))∧PySem.Within mA (fs.map (·.1))∧fs.length≤1000∧H dx=some (.own a):=by
 obtain ⟨d,z,ne,ob,mA,n,r,q⟩:=(show dH P w H h a (.ins C dx fs) from hok a _ e)
 exact ⟨mA,⟨ob,n,ne⟩,r,q,z,d⟩
end
structure ma (K:PySem.W.Frag) (C:Addr):Prop where
 pg:PySem.W.plainGet K C Str.empty=true
 hd:PySem.W.hasDictIn K C=true
 po:PySem.W.plainOver K C=true
 sa:PySem.W.findIn K (.ref C) "__setattr__"=some (some (.builtin "object.__setattr__"))
theorem ma.get {K:PySem.W.Frag} {C:Addr} (c:ma K C) (f:Str):PySem.W.plainGet K C f=true:=c.pg
def aK (K:PySem.W.Frag) (C:Addr) (f:Str):Prop:=PySem.W.findIn K (.ref C) f=some none
theorem aK.QH {K:PySem.W.Frag} {C:Addr} {f:Str} (n:aK K C f):PySem.W.takerIn K C f=some none:=by
 unfold PySem.W.takerIn
 rw [show PySem.W.findIn K (.ref C) f=some none from n]
 rfl
structure Meth (K:PySem.W.Frag) (C:Addr) (m:Str) (f:Addr):Prop where
 at_:PySem.W.findIn K (.ref C) m=some (some (.ref f))
 fn:PySem.W.isFn K (.ref f)=true
 kp:PySem.W.keepIn K (.ref f)=true
section
variable {X:Cx} {pins:List (Addr × Obj)} {σ:St} {H:Hp} {s:Shared} {a C dx:Addr} {fs:List (Str × V)} {f:Str} {v:V} {A:Around} {E:Value→Shared→Prop}
theorem Aq {b:Bool} {Q:Value→Shared→Prop} (I:Inv X pins σ H s) (e:H a=some (.ins C dx fs)) (c:ma X.K C) (n:aK X.K C f) (l:fs.lookup f=some v)
  (h:∀u s',Inv X pins σ H s'→RelV v u→Q u s'):wpAny (model X.prog X.w) A (getAttr (.ref a) f b) Q E s:=by
 obtain ⟨mA,O,r,_,_,_⟩:=qR I.hok e
 obtain ⟨u,hu,ru⟩:=um.some_of (v:=v) (o:=mA f) (by rw [← l];exact r f)
 exact get_map I.nW O (c.get f) c.hd n hu (DH ru) (h u _ (I.tok _) ru)
theorem rX {m:Str} {g:Addr} {pl:Sem Bool} {Q:Value × List Value→Shared→Prop} (I:Inv X pins σ H s) (e:H a=some (.ins C dx fs)) (c:ma X.K C) (k:Meth X.K C m g) (l:fs.lookup m=none)
  (h:Q (.ref g,[.ref a]) s):wpAny (model X.prog X.w) A (getMethod (.ref a) m pl) Q E s:=by
 obtain ⟨mA,O,r,_,_,_⟩:=qR I.hok e
 have hn:mA m=none:=um.none_of (by rw [← l];exact r m)
 exact Fn I.nW O (c.get m) k.at_ k.fn hn h
theorem Bt {y:V} {u:Value} {Q:Unit→Shared→Prop} (I:Inv X pins σ H s) (e:H a=some (.ins C dx fs)) (c:ma X.K C) (n:aK X.K C f) (hl:fs.length < 1000) (ry:RelV y u)
  (h:∀s',Inv X pins σ (upd H a (.ins C dx (dR f y fs))) s'→Q () s'):wpAny (model X.prog X.w) A (setAttr (.ref a) f u) Q E s:=by
 obtain ⟨mA,O,r,wi,_,ho⟩:=qR I.hok e
 have hz:(fs.map (·.1)).length≤sizeLine:=by rw [Us,sizeLine_eq];omega
 refine JV I.nW O c.sa c.po n.QH c.hd wi hz λh' O' sb=>h _ ?_
 have hd:∃o,h'.get? dx=some o:=let ⟨o,_,_,e',_⟩:=O'.ns;⟨o,e'⟩
 refine I.write (x:=a) (e:=dx) (by rw [e];exact True.intro) (.inr ho) (λb q hb z=>(sb.2 b hb).trans z) hd ?_
 refine ⟨by rw [aW O.ne];exact ho,?_,O.ne,O'.obj,_,O'.ns,λg=>?_,λg hg=>?_⟩
 ·have:=qa f y fs;omega
 ·show um ((dR f y fs).lookup g) (if g=f then some u else mA g)
  rw [qd]
  by_cases q:g=f
  ·rw [if_pos q,if_pos q];exact ry
  ·rw [if_neg q,if_neg q];exact r g
 ·by_cases q:g=f
  ·rw [q];exact (pq f y fs).1
  ·refine (pq f y fs).2 g (wi g λz=>hg ?_)
   show (if g=f then some u else mA g)=none
   rw [if_neg q];exact z
theorem Inv.made (I:Inv X pins σ H s):Inv X pins σ (upd (upd H s.heap.objs.size (.own (s.heap.objs.size + 1))) (s.heap.objs.size + 1) (.ins C s.heap.objs.size []))
  { s with heap:=(s.heap.push PySem.W.emptyDict).push (PySem.W.instObj C s.heap.objs.size) }:=by
 have e1:(s.heap.push PySem.W.emptyDict).get? s.heap.objs.size=some PySem.W.emptyDict:=Heap.get?_push_size s.heap rfl
 have e2:((s.heap.push PySem.W.emptyDict).push (PySem.W.instObj C s.heap.objs.size)).get? (s.heap.objs.size + 1)=some (PySem.W.instObj C s.heap.objs.size):=by
  have:=Heap.get?_push_size (s.heap.push PySem.W.emptyDict) (o:=PySem.W.instObj C s.heap.objs.size) rfl
  rwa [Heap.size_push] at this
 have e3:(s.heap.push PySem.W.emptyDict).Ns s.heap.objs.size (λ_=>none):=⟨PySem.W.emptyDict,#[],_,e1,rfl,(λe he=>absurd he (by simp)),λ_=>rfl⟩
 have I1:=I.laid (a:=s.heap.objs.size) (o:=.own (s.heap.objs.size + 1)) (h':=s.heap.push PySem.W.emptyDict) (t':=s.toks) (λb u q=>Heap.get?_push_of_some _ q) (UC _) ⟨_,e1⟩
 refine I1.laid (a:=s.heap.objs.size + 1) (o:=.ins C s.heap.objs.size []) (t':=s.toks) (λb u q=>Heap.get?_push_of_some _ q) (Nat.le_of_eq (Heap.size_push _ _)) ?_
 have ne:s.heap.objs.size≠s.heap.objs.size + 1:=UW (VJ _)
 refine ⟨by rw [aW ne,aZ],Vb _,ne,e2,λ_=>none,(Heap.Ns1.of_empty e3).at λo q=>Heap.get?_push_of_some _ q,λ_=>True.intro,λy hy=>absurd rfl hy⟩
theorem Ir {prog:Program} {w:World} {env:Env} {e:Expr} {f:Str} {pos:Pos} {s:Shared} {Q:Value→Shared→Prop} (hb:attributeBase e f env (eval e env)=eval e env)
  (h:wpAny (model prog w) A (eval e env) (λo s₁=>wpAny (model prog w) A (getAttr o f true) Q E s₁) E s):wpAny (model prog w) A (eval (.Attribute e f pos) env) Q E s :=
 Attribute_any_ h (by rw [arm_eval_Attribute,hb])
end
def SS (K:PySem.W.Frag) (ta:TE) (f:Str):TE:=λσ H Q=>ta σ H λx H1=>∃a C dx fs v,x=.ref a∧H1 a=some (.ins C dx fs)∧ma K C∧aK K C f∧fs.lookup f=some v∧Q v H1
def SM (K:PySem.W.Frag) (ta tv:TE) (f:Str):TS:=λD σ H=>tv σ H λy H1=>ta σ H1 λx H2=>∃a C dx fs,x=.ref a∧H2 a=some (.ins C dx fs)∧ma K C∧aK K C f∧fs.length < 1000 ∧
 D.nx σ (upd H2 a (.ins C dx (dR f y fs)))
section
variable {X:Cx} {o e value:Expr} {f:Str} {pos pos' tpos:Pos} {ta tv:TE}
theorem M5 (he:PE X e ta) (hb:attributeBase e f X.env (eval e X.env)=eval e X.env):PE X (.Attribute e f pos) (SS X.K ta f):=by
 intro pins s σ H Q I h
 refine Ir hb (cM (he pins s σ H _ I h) λu s1 ⟨x,H1,I1,rx,a,C,dx,fs,v,ex,ea,c,n,l,q⟩=>?_)
 subst ex
 obtain rfl:u=Value.ref a:=rx
 exact Aq I1 ea c n l λu' s2 I2 ru=>⟨v,H1,I2,ru,q⟩
theorem M9 (ha:PE X o ta) (hv:PE X value tv) (hs:swapsWith value (some (.Attribute o f pos')) pos.line X.env=pure false):PS X (.Assign [.Attribute o f pos'] value pos) (SM X.K ta tv f):=by
 intro pins s σ H D I h
 refine plainObj_wpAny_Assign_Attribute (cM (hv pins s σ H _ I h) λu s1 ⟨y,H1,I1,ry,q⟩=>cM (ha pins s1 σ H1 _ I1 q) λov s2 ⟨x,H2,I2,rx,a,C,dx,fs,ex,ea,c,n,l,q2⟩=>?_) hs
 subst ex
 obtain rfl:ov=Value.ref a:=rx
 exact Bt I2 ea c n l ry λs3 I3=>⟨σ,_,I3,q2⟩
end
section
variable {X:Cx} {pins:List (Addr × Obj)} {σ:St} {H:Hp} {s:Shared} {A:Around} {E:Value→Shared→Prop} {Q:Value→Shared→Prop} {c:Value} {b:Bool}
inductive fe (K:PySem.W.Frag) (H:Hp):V→Value→Prop where
 | non:fe K H .non (.type "NoneType")
 | bl (x:Bool):fe K H (.bl x) (.type "bool")
 | int (i:Int):fe K H (.int i) (.type "int")
 | str (x:Str):fe K H (.str x) (.type "str")
 | flt (x:UInt64):fe K H (.flt x) (.type "float")
 | lst {a:Addr} {xs:List V} (e:H a=some (.lst xs)):fe K H (.ref a) (.type "list")
 | pf {a:Addr} {o:Obj} {xs:List V} (e:H a=some (.pf o (.lst xs))):fe K H (.ref a) (.type "list")
 | tup {a:Addr} {xs:List V} (e:H a=some (.tup xs)):fe K H (.ref a) (.type "tuple")
 | dK {a:Addr} {kvs:List (Key × V)} (e:H a=some (.dK kvs)):fe K H (.ref a) (.type "dict")
 | dE {a:Addr} {kvs:List (Str × V)} {ep:Nat} (e:H a=some (.dE kvs ep)):fe K H (.ref a) (.type "dict")
 | ins {a C dx:Addr} {fs:List (Str × V)} (e:H a=some (.ins C dx fs)) (cl:ma K C) (ha:PySem.W.findIn K (.ref C) "__class__"=some (some (.builtin "object.__class__")))
   (hn:PySem.W.specialIn K (.builtin "object.__class__") "__get__"=some (some (.builtin "getset_descriptor.__get__"))) (htk:PySem.W.takesIn K (.builtin "object.__class__")=some true)
   (hm:PySem.W.mroIn K C (.type "object")=some true):fe K H (.ref a) (.ref C)
theorem DK {x:V} {u t:Value} (I:Inv X pins σ H s) (rx:RelV x u) (ty:fe X.K H x t) (e:PySem.W.kitOne X.K t c=some b) (h:∀tk,Q (.bool b) { s with toks:=tk }) :
  wpAny (model X.prog X.w) A (call (.builtin "isinstance") [u,c]) Q E s:=by
 cases ty with
 | non=>cases (show u=Value.none from rx);exact PySem.W.kia_one PySem.W.kitx_none I.nW True.intro e (λz=>nomatch z) h
 | bl y=>cases (show u=Value.bool y from rx);exact PySem.W.kia_one PySem.W.kitx_bool I.nW True.intro e (λz=>nomatch z) h
 | int i=>obtain ⟨t,q⟩:=(show ∃t,u=Value.int i t from rx);cases q;exact PySem.W.kia_one PySem.W.kitx_int I.nW True.intro e (λz=>nomatch z) h
 | str y=>obtain ⟨t,q⟩:=(show ∃t,u=Value.str y t from rx);cases q;exact PySem.W.kia_one PySem.W.kitx_str I.nW True.intro e (λz=>nomatch z) h
 | flt y=>obtain ⟨t,q⟩:=(show ∃t,u=Value.float y t from rx);cases q;exact PySem.W.kia_one PySem.W.kitx_float I.nW True.intro e (λz=>nomatch z) h
 | @lst a xs ea =>
  cases (show u=Value.ref a from rx)
  obtain ⟨_,_,n,_,h1⟩:=(show dH X.prog X.w H s.heap a (.lst xs) from I.hok a _ ea)
  exact PySem.W.kia_one PySem.W.kitx_list I.nW ⟨_,h1,rfl⟩ e (λz=>nomatch z) h
 | @pf a ob xs ea =>
  cases (show u=Value.ref a from rx)
  obtain ⟨_,_,_,n,_,h1⟩:=(show dH X.prog X.w H s.heap a (.pf ob (.lst xs)) from I.hok a _ ea)
  exact PySem.W.kia_one PySem.W.kitx_list I.nW ⟨_,h1,rfl⟩ e (λz=>nomatch z) h
 | @tup a xs ea =>
  cases (show u=Value.ref a from rx)
  obtain ⟨_,_,_,p⟩:=(show dH X.prog X.w H s.heap a (.tup xs) from I.hok a _ ea)
  obtain ⟨o,h1,h2,_⟩:=p
  exact PySem.W.kia_one PySem.W.kitx_tuple I.nW ⟨o,h1,h2⟩ e (λz=>nomatch z) h
 | @dK a kvs ea =>
  cases (show u=Value.ref a from rx)
  obtain ⟨_,_,vs,_,p⟩:=(show dH X.prog X.w H s.heap a (.dK kvs) from I.hok a _ ea)
  obtain ⟨o,es,ep,h1,h2,_⟩:=p
  exact PySem.W.kia_one PySem.W.kitx_dict I.nW ⟨o,h1,h2.1⟩ e (λz=>nomatch z) h
 | @dE a kvs ep ea =>
  cases (show u=Value.ref a from rx)
  obtain ⟨_,_,vs,_,o,es,h1,h2,_⟩:=(show dH X.prog X.w H s.heap a (.dE kvs ep) from I.hok a _ ea)
  exact PySem.W.kia_one PySem.W.kitx_dict I.nW ⟨o,h1,h2.1⟩ e (λz=>nomatch z) h
 | @ins a C dx fs ea cl ha hn htk hm =>
  cases (show u=Value.ref a from rx)
  obtain ⟨mA,O,_⟩:=qR I.hok ea
  obtain ⟨od,J,_⟩:=O.look
  exact PySem.W.kia_one (PySem.W.kitx_own (cl.get _) cl.hd ha hn htk hm) I.nW J e (λz=>nomatch z) h
end
end L2
namespace L2
open PySem PySem.Spec PyProof.Rows
structure bR (k:Nat) (A:Around):Prop where
 hd:A.handled=none
 dp:A.depth + 3 * k + 5 < recursionLimit
 un:A.units + 16 * k + 200 < cLine
theorem bR.mono {j k:Nat} {A:Around} (r:bR k A) (h:j≤k):bR j A:=⟨r.hd,by have:=r.dp;omega,by have:=r.un;omega⟩
theorem bR.deeper {k:Nat} {A:Around} (r:bR (k + 1) A) (env:Env):bR k (A.deeper env) :=
 ⟨r.hd,by have:=r.dp;show A.depth + 1 + 3 * k + 5 < _;omega,by have:=r.un;show A.units + 3 + 16 * k + 200 < _;omega⟩
theorem Az {A:Around} {C:Addr} {us:List Value} {kw:List (Str × Value)}:(A.under (.builtin "type.__call__" ⟨.ref C :: us,kw⟩)).depth=A.depth + 1:=by
 first | rfl | simp [Around.under,Code.weight,Code.isCreation,Code.isGuard,Code.isCaller,Code.frames,Code.isFrame,guardIds]
theorem AA {A:Around} {C:Addr} {us:List Value} {kw:List (Str × Value)}:(A.under (.builtin "type.__call__" ⟨.ref C :: us,kw⟩)).units=A.units + 1:=by
 first | rfl | simp [Around.under,Code.cUnits,Code.frames,Code.isFrame]
theorem bR.make {k:Nat} {A:Around} (r:bR (k + 1) A) (C:Addr) (us:List Value) (kw:List (Str × Value)):bR k (A.under (.builtin "type.__call__" ⟨.ref C :: us,kw⟩)) :=
 ⟨r.hd,by have:=r.dp;rw [Az];omega,by have:=r.un;rw [AA];omega⟩
theorem bR.depth {k:Nat} {A:Around} (r:bR k A):A.depth < recursionLimit:=by have:=r.dp;omega
theorem bR.NZ {k:Nat} {A:Around} (r:bR k A):A.units < cLine:=by have:=r.un;omega
def Ey:TA:=λ_ H Q=>Q [] H
def C5 (ta:TE) (tr:TA):TA:=λσ H Q=>ta σ H λx H1=>tr σ H1 λxs H2=>Q (x :: xs) H2
section
variable {X:Cx} {e:Expr} {es:List Expr} {te:TE} {t:TA} {pos:Pos}
theorem AR:PA X [] Ey:=λ_ _ _ _ H Q I h=>Calls.spliced_nil ⟨[],H,I,.nil,h⟩
theorem qX (ha:PE X e te) (hr:PA X es t) (hs:starEach (e :: es) X.env=(false,eval e X.env) :: starEach es X.env:=by rfl):PA X (e :: es) (C5 te t):=by
 intro pos pins s σ H Q I h
 rw [hs]
 show wpAny _ _ (spliced ((false,eval e X.env) :: backTo pos (starEach es X.env))) _ _ s
 refine Calls.spliced_cons (cM (ha pins s σ H _ I h) λu s1 ⟨x,H1,I1,r1,q1⟩=>?_)
 exact cM (hr pos pins s1 σ H1 _ I1 q1) λus s2 ⟨xs,H2,I2,r2,q2⟩=>⟨x :: xs,H2,I2,.cons r1 r2,q2⟩
def NR (t:TA):TE:=λσ H Q=>t σ H λxs H1=>xs.length≤sizeLine∧∀p,H1 p=none→Q (.ref p) (upd H1 p (.tup xs))
def Kb (t:TA):TE:=λσ H Q=>t σ H λxs H1=>xs.length≤sizeLine∧∀p,H1 p=none→Q (.ref p) (upd H1 p (.lst xs))
theorem AX {x1} (h:PA X es t):PE X (.Tuple es x1 pos) (NR t):=by
 intro pins s σ H Q I hq
 refine wpAny_Tuple_spliced (cM (h pos pins s σ H _ I hq) λus s1 ⟨xs,H1,I1,r,z,q⟩=>⟨by rw [← r.length];exact z,?_⟩)
 have hf:H1 s1.heap.objs.size=none:=I1.hok.fresh (UC _)
 refine ⟨.ref s1.heap.objs.size,upd H1 s1.heap.objs.size (.tup xs),I1.laid (t':=s1.toks) (λb u e=>Heap.get?_push_of_some _ e) (UC _) ?_,rfl,q _ hf⟩
 exact ⟨z,us,r,⟨_,Heap.get?_push_size _ rfl,rfl,_,rfl⟩⟩
theorem wZ (h:PA X es t):PE X (.List es pos) (Kb t):=by
 intro pins s σ H Q I hq
 refine wpAny_List_spliced (cM (h pos pins s σ H _ I hq) λus s1 ⟨xs,H1,I1,r,z,q⟩=>⟨by rw [← r.length];exact z,?_⟩)
 have hf:H1 s1.heap.objs.size=none:=I1.hok.fresh (UC _)
 refine ⟨.ref s1.heap.objs.size,upd H1 s1.heap.objs.size (.lst xs),I1.laid (t':=s1.toks) (λb u e=>Heap.get?_push_of_some _ e) (UC _) ?_,rfl,q _ hf⟩
 exact ⟨z,us,0,r,Heap.get?_push_size _ rfl⟩
end
abbrev Sp:=List V→Hp→VK→XK→Prop
abbrev nA:=List Env→Hp→Shared→XK→Value→Shared→Prop
structure z_ (P:Program) (w:World) (K:PySem.W.Frag) (mg:Str→Option Value) (base:Heap) (A:Around) (outer:List Env) (s:Shared) (H:Hp):Prop where
 frames:A.frames=some outer
 mod:Mod K mg base
 bs:∀b o,base.get? b=some o→s.heap.get? b=some o∧H b=none
 bsz:base.objs.size≤s.heap.objs.size
 ph:s.heap.FunFrames base outer
 frf:∀b∈j3 outer,H b=none
 hok:ni P w H s.heap
 bare:AllBare s.gens
def CE (outer:List Env) (P:Program) (w:World) (H:Hp) (s:Shared) (Q:VK) (u:Value) (s':Shared):Prop :=
 ∃v H',s'.os=s.os∧AllBare s'.gens∧Un (j3 outer) [] H H' s.heap s'.heap∧ni P w H' s'.heap∧RelV v u∧Q v H'
def CR (CX:nA) (outer:List Env) (P:Program) (w:World) (H:Hp) (s:Shared) (Q:VK) (E:XK) (r:Result) (s':Shared):Prop :=
 match r with
 | .ok (.ret u)=>CE outer P w H s Q u s'
 | .ok _=>False
 | .error e=>CX outer H s E e s'
structure aS (P:Program) (w:World) (K:PySem.W.Frag) (mg:Str→Option Value) (base:Heap) (CX:nA) (k:Nat) (f:Addr) (fd:FuncData) (ps:List Str) (sp:Sp):Prop where
 len:∀vs H Q E,sp vs H Q E→vs.length=ps.length
 run:∀(A:Around) (outer:List Env) (s:Shared) (H:Hp) (args:Args) (us:List Value) (vs:List V) (Q:VK) (E:XK),bR k A→z_ P w K mg base A outer s H→BindsTo s fd args (ps.zip us)→Vals vs us→sp vs H Q E →
  codeAny (model P w) A (.call (.ref f) args) (CR CX outer P w H s Q E) s
theorem aS.imp {P:Program} {w:World} {K:PySem.W.Frag} {mg:Str→Option Value} {base:Heap} {CX:nA} {k:Nat} {f:Addr} {fd:FuncData} {ps:List Str} {sp sp':Sp} (F:aS P w K mg base CX k f fd ps sp)
  (h:∀vs H Q E,sp' vs H Q E→sp vs H Q E):aS P w K mg base CX k f fd ps sp' :=
 ⟨λvs H Q E q=>F.len vs H Q E (h _ _ _ _ q),λA outer s H args us vs Q E hr he hb hv hs=>F.run A outer s H args us vs Q E hr he hb hv (h _ _ _ _ hs)⟩
theorem z_.make {P:Program} {w:World} {K:PySem.W.Frag} {mg:Str→Option Value} {base:Heap} {A:Around} {outer:List Env} {s:Shared} {H:Hp} (e:z_ P w K mg base A outer s H) (C:Addr) (us:List Value) (kw:List (Str × Value)) :
  z_ P w K mg base (A.under (.builtin "type.__call__" ⟨.ref C :: us,kw⟩)) outer s H:=⟨by first | exact e.frames | (simpa [Around.under,Code.envs,Code.isFrame,pushEnvs] using e.frames),e.mod,e.bs,e.bsz,e.ph,e.frf,e.hok,e.bare⟩
section
variable {X:Cx} {pins:List (Addr × Obj)} {σ:St} {H:Hp} {s s':Shared}
theorem Inv.OT (I:Inv X pins σ H s):z_ X.prog X.w X.K X.mg X.base X.A X.stack s H :=
 ⟨I.ok.frames,I.ok.mod,I.bs,UM I.ok.bsz I.sz,I.stack,I.x6,I.hok,I.bare⟩
theorem Inv.after {Q:VK} {u:Value} (I:Inv X pins σ H s) (h:CE X.stack X.prog X.w H s Q u s'):EP X pins σ Q u s':=by
 obtain ⟨v,H',os,bare,un,hok,r,q⟩:=h
 obtain ⟨hh,g,d,t,os'⟩:=s'
 obtain rfl:os'=s.os:=os
 exact ⟨v,H',I.call (h':=hh) (g':=g) (d':=d) (t':=t) (ch:=[]) un hok bare (λb z=>absurd z (by simp)),r,q⟩
end
def C4 (sp:Sp) (dvs:List V) (E:XK) (t:TA):TE:=λσ H Q=>t σ H λvs H1=>sp (vs ++ dvs) H1 Q E
def Hu (C:Addr) (m:Str) (sp:Sp) (dvs:List V) (E:XK) (ta:TE) (t:TA):TE:=λσ H Q=>ta σ H λx H1=>∃a dx fs,x=.ref a∧H1 a=some (.ins C dx fs)∧fs.lookup m=none ∧
 t σ H1 λvs H2=>sp (x :: (vs ++ dvs)) H2 Q E
def Ht (C:Addr) (sp:Sp) (dvs:List V) (E:XK) (t:TA):TE:=λσ H Q=>t σ H λvs H1=>∀x dx,H1 x=none→H1 dx=none→dx≠x →
 sp (.ref x :: (vs ++ dvs)) (upd (upd H1 dx (.own x)) x (.ins C dx [])) (λv H2=>v=.non∧Q (.ref x) H2) E
def Binds (K:PySem.W.Frag) (fd:FuncData) (ps:List Str) (ds:List Value):Prop :=
 ∀(s:Shared) (us:List Value),K.In s.heap→(us ++ ds).length=ps.length→BindsTo s fd ⟨us,[]⟩ (ps.zip (us ++ ds))
theorem Binds.all {K:PySem.W.Frag} {fd:FuncData} {ps:List Str} (h:∀us:List Value,us.length=ps.length→bindArgs fd ⟨us,[]⟩=pure (ps.zip us)):Binds K fd ps []:=λs us _ hl=>by
 rw [Vc] at hl ⊢
 exact .of_eq (h us hl)
def Passes (CX:nA) (X:Cx) (E:XK):Prop:=∀(pins:List (Addr × Obj)) (σ:St) (H:Hp) (s:Shared) (e:Value) (s':Shared),Inv X pins σ H s→CX X.stack H s E e s'→X.xe e s'
section
variable {X:Cx} {CX:nA} {k:Nat} {f C:Addr} {fd:FuncData} {ps:List Str} {sp:Sp} {dvs:List V} {ds:List Value} {E:XK} {x m:Str} {p pos apos:Pos} {e o:Expr} {es:List Expr} {ta:TE} {t:TA}
theorem Bi {pins:List (Addr × Obj)} {σ:St} {H:Hp} {s:Shared} {Q:VK} {us:List Value} {vs:List V} (F:aS X.prog X.w X.K X.mg X.base CX k f fd ps sp) (hr:bR k X.A) (hb:Binds X.K fd ps ds) (hd:Vals dvs ds) (hx:Passes CX X E)
  (I:Inv X pins σ H s) (r:Vals vs us) (h:sp (vs ++ dvs) H Q E):wpAny (model X.prog X.w) X.A (call (.ref f) us) (EP X pins σ Q) X.xe s:=by
 have r2:Vals (vs ++ dvs) (us ++ ds):=r.append hd
 have hl:(us ++ ds).length=ps.length:=by rw [← r2.length];exact F.len _ _ _ _ h
 refine wpAny_call (codeAny_mono (F.run X.A X.stack s H ⟨us,[]⟩ (us ++ ds) (vs ++ dvs) Q E hr I.OT (hb s us I.nW hl) r2 h) λr s' hq=>?_)
 cases r with
 | error e=>exact hx pins σ H s e s' I hq
 | ok fl =>
  cases fl with
  | ret u=>exact I.after hq
  | next=>exact False.elim hq
  | brk=>exact False.elim hq
  | cont=>exact False.elim hq
theorem Jo (F:aS X.prog X.w X.K X.mg X.base CX k f fd ps sp) (hr:bR k X.A) (hg:Gl X x) (hm:X.mg x=some (.ref f)) (hk:PySem.W.keepIn X.K (.ref f)=true) (hb:Binds X.K fd ps ds) (hd:Vals dvs ds) (hx:Passes CX X E)
  (ha:PA X (e :: es) t) (hdb:(x == ("__debug__":Str))=false:=by decide) (he:starEach (e :: es) X.env=(false,eval e X.env) :: starEach es X.env:=by rfl) (hpl:(backTo pos (starEach es X.env)).any (·.1)=false:=by rfl) :
  PE X (.Call (.Name x p) (e :: es) [] pos) (C4 sp dvs E t):=by
 intro pins s σ H Q I h
 refine wpAny_Call_Name_kw (nZ I hg hm ?_ hdb)
 refine PySem.W.callWith_K (h₀:=X.base) I.ok.mod.kin hk (cM (ha pos pins s σ H _ I h) λus s1 ⟨vs,H1,I1,r,q⟩=>⟨I1.nW,?_⟩) he hpl
 exact Bi F hr hb hd hx I1 r q
theorem Jr {pl:Sem Bool} (he:PE X o ta) (c:ma X.K C) (hm:Meth X.K C m f) (F:aS X.prog X.w X.K X.mg X.base CX k f fd ps sp) (hr:bR k X.A) (hb:Binds X.K fd ps ds) (hd:Vals dvs ds) (hx:Passes CX X E) (ha:PA X (e :: es) t)
  (hst:starEach (e :: es) X.env=(false,eval e X.env) :: starEach es X.env:=by rfl) (hpl:(backTo pos (starEach es X.env)).any (·.1)=false:=by rfl)
  (ht:eval (.Call (.Attribute o m apos) (e :: es) [] pos) X.env=(do
   let ov ← eval o X.env
   standAt apos.atName
   let (f,first) ← holding [ov] (getMethod ov m pl)
   callWith pos f first (backTo pos (starEach (e :: es) X.env)) (backToKw pos (keywordEach [] X.env))):=by rfl) :
  PE X (.Call (.Attribute o m apos) (e :: es) [] pos) (Hu C m sp dvs E ta t):=by
 intro pins s σ H Q I h
 refine PySem.W.methodCall_KW (pl:=pl) (cM (he pins s σ H _ I h) λu s1 ⟨x,H1,I1,rx,a,dx,fs,ex,ea,l,q⟩=>?_) ht
 subst ex
 obtain rfl:u=Value.ref a:=rx
 refine rX I1 ea c hm l ?_
 refine PySem.W.callWith_K (first:=[.ref a]) (h₀:=X.base) I.ok.mod.kin hm.kp (cM (ha pos pins s1 σ H1 _ I1 q) λus s2 ⟨vs,H2,I2,r,q2⟩=>⟨I2.nW,?_⟩) hst hpl
 exact Bi (us:=.ref a :: us) (vs:=.ref a :: vs) F hr hb hd hx I2 (.cons rfl r) q2
theorem Gw {pl:Sem Bool} (he:PE X o ta) (c:ma X.K C) (hm:Meth X.K C m f) (F:aS X.prog X.w X.K X.mg X.base CX k f fd ps sp) (hr:bR k X.A) (hb:Binds X.K fd ps ds) (hd:Vals dvs ds) (hx:Passes CX X E)
  (ht:eval (.Call (.Attribute o m apos) [] [] pos) X.env=(do
   let ov ← eval o X.env
   standAt apos.atName
   let (f,first) ← holding [ov] (getMethod ov m pl)
   callWith pos f first (backTo pos (starEach [] X.env)) (backToKw pos (keywordEach [] X.env))):=by rfl) :
  PE X (.Call (.Attribute o m apos) [] [] pos) (Hu C m sp dvs E ta Ey):=by
 intro pins s σ H Q I h
 refine PySem.W.methodCall_KW (pl:=pl) (cM (he pins s σ H _ I h) λu s1 ⟨x,H1,I1,rx,a,dx,fs,ex,ea,l,q⟩=>?_) ht
 subst ex
 obtain rfl:u=Value.ref a:=rx
 refine rX I1 ea c hm l ?_
 exact PySem.W.callWith_K0 (first:=[.ref a]) I1.nW hm.kp (Bi (us:=[.ref a]) (vs:=[.ref a]) F hr hb hd hx I1 (.cons rfl .nil) q)
structure Mk (K:PySem.W.Frag) (C f:Addr):Prop where
 makes:PySem.W.makesIn K C=true
 init:PySem.W.findIn K (.ref C) "__init__"=some (some (.ref f))
 fn:PySem.W.isFn K (.ref f)=true
 kp:PySem.W.keepIn K (.ref C)=true
theorem zt {pins:List (Addr × Obj)} {σ:St} {H:Hp} {s:Shared} {Q:VK} {us:List Value} {vs:List V} (M:Mk X.K C f) (F:aS X.prog X.w X.K X.mg X.base CX k f fd ps sp) (hr:bR (k + 1) X.A) (hb:Binds X.K fd ps ds) (hd:Vals dvs ds)
  (hx:Passes CX X E) (I:Inv X pins σ H s) (r:Vals vs us)
  (h:∀x dx,H x=none→H dx=none→dx≠x→sp (.ref x :: (vs ++ dvs)) (upd (upd H dx (.own x)) x (.ins C dx [])) (λv H2=>v=.non∧Q (.ref x) H2) E) :
  wpAny (model X.prog X.w) X.A (call (.ref C) us) (EP X pins σ Q) X.xe s:=by
 have hq:=h (s.heap.objs.size + 1) s.heap.objs.size (I.hok.fresh (Nat.le_succ _)) (I.hok.fresh (UC _)) (UW (VJ _))
 have I2:=Inv.made (C:=C) I
 have r2:Vals (V.ref (s.heap.objs.size + 1) :: (vs ++ dvs)) (Value.ref (s.heap.objs.size + 1) :: (us ++ ds)):=.cons rfl (r.append hd)
 have hl:(Value.ref (s.heap.objs.size + 1) :: us ++ ds).length=ps.length:=by
  have e:=r2.length
  rw [F.len _ _ _ _ hq] at e
  exact e.symm
 refine wpAny_call (FU (f:=f) I.nW M.makes M.init (beq_iff_eq.mp M.fn) (codeAny_mono (F.run _ X.stack _ _ ⟨Value.ref (s.heap.objs.size + 1) :: us,[]⟩ (Value.ref (s.heap.objs.size + 1) :: (us ++ ds)) _ _ E (hr.make C us [])
  (I2.OT.make C us []) (hb _ (Value.ref (s.heap.objs.size + 1) :: us) I2.nW hl) r2 hq) λr s' hq'=>?_))
 cases r with
 | error e=>exact hx pins σ _ _ e s' I2 hq'
 | ok fl =>
  cases fl with
  | ret u =>
   obtain ⟨v,H',I3,rv,ev,q3⟩:=I2.after hq'
   subst ev
   exact ⟨rv,⟨V.ref (s.heap.objs.size + 1),H',I3,rfl,q3⟩⟩
  | next=>exact False.elim hq'
  | brk=>exact False.elim hq'
  | cont=>exact False.elim hq'
theorem Jq (M:Mk X.K C f) (F:aS X.prog X.w X.K X.mg X.base CX k f fd ps sp) (hr:bR (k + 1) X.A) (hg:Gl X x) (hm:X.mg x=some (.ref C)) (hb:Binds X.K fd ps ds) (hd:Vals dvs ds) (hx:Passes CX X E)
  (ha:PA X (e :: es) t) (hdb:(x == ("__debug__":Str))=false:=by decide) (he:starEach (e :: es) X.env=(false,eval e X.env) :: starEach es X.env:=by rfl) (hpl:(backTo pos (starEach es X.env)).any (·.1)=false:=by rfl) :
  PE X (.Call (.Name x p) (e :: es) [] pos) (Ht C sp dvs E t):=by
 intro pins s σ H Q I h
 refine wpAny_Call_Name_kw (nZ I hg hm ?_ hdb)
 refine PySem.W.callWith_K (h₀:=X.base) I.ok.mod.kin M.kp (cM (ha pos pins s σ H _ I h) λus s1 ⟨vs,H1,I1,r,q⟩=>⟨I1.nW,?_⟩) he hpl
 exact zt M F hr hb hd hx I1 r q
theorem Gv (M:Mk X.K C f) (F:aS X.prog X.w X.K X.mg X.base CX k f fd ps sp) (hr:bR (k + 1) X.A) (hg:Gl X x) (hm:X.mg x=some (.ref C)) (hb:Binds X.K fd ps ds) (hd:Vals dvs ds) (hx:Passes CX X E)
  (hdb:(x == ("__debug__":Str))=false:=by decide):PE X (.Call (.Name x p) [] [] pos) (Ht C sp dvs E Ey):=by
 intro pins s σ H Q I h
 refine wpAny_Call_Name_kw (nZ I hg hm ?_ hdb)
 exact PySem.W.callWith_K0 I.nW M.kp (zt (us:=[]) M F hr hb hd hx I .nil h)
end
section
variable {X:Cx} {CX:nA} {k:Nat} {f C:Addr} {fd:FuncData} {ps ks:List Str} {sp:Sp} {E:XK} {x m:Str} {p pos apos kpos:Pos} {e o:Expr} {es:List Expr} {kws:List Keyword} {te ta:TE} {t tk:TA} {nm:Option Str}
variable {g:List Value→List Value→List Value} {gV:List V→List V→List V}
end
structure aw (N P:List Str) (sc:Scope):Prop where
 kind:sc.kind=.function
 co:sc.isCoroutine=false
 gen:sc.isGenerator=false
 nd:N.Nodup
 pre:N.take P.length=P
 par:∀x∈P,sc.names.lookup x=some .local∨sc.names.lookup x=some .cell
 nofree:∀y∈sc.names,y.2≠.free
theorem uW {kindOf:Str→Option NameKind} {x:Str}:∀{binds:List (Str × Value)} {m:Str→Option Value},(∀v,(x,v) ∉ binds)→bindL kindOf binds m x=m x
 | [],_,_=>rfl
 | (n,v) :: r,m,h=>by
  unfold bindL
  rw [uW λw hw=>h w (US _ hw)]
  split
  ·have:x≠n:=by rintro rfl;exact h v UY
   simp [this]
  ·rfl
theorem uU {kindOf:Str→Option NameKind} {x:Str}:∀{binds:List (Str × Value)} {m:Str→Option Value},(∀v,(x,v) ∉ binds)→bindC kindOf binds m x=m x
 | [],_,_=>rfl
 | (n,v) :: r,m,h=>by
  unfold bindC
  rw [uU λw hw=>h w (US _ hw)]
  split
  ·rfl
  ·have:x≠n:=by rintro rfl;exact h v UY
   simp [this]
theorem uV {kindOf:Str→Option NameKind} {x:Str} {v:Value}:∀{P:List Str} {vs:List Value} {i:Nat} {m:Str→Option Value},P.Nodup→P[i]?=some x→vs[i]?=some v→kindOf x=some .local →
  bindL kindOf (P.zip vs) m x=some v
 | [],_,_,_,_,h,_,_=>by simp at h
 | _ :: _,[],_,_,_,_,h,_=>by simp at h
 | p :: P,w :: vs,0,m,nd,h1,h2,hk=>by
  simp at h1 h2;subst h1;subst h2
  show bindL kindOf ((p,w) :: P.zip vs) m p=_
  unfold bindL
  rw [uW λv hv=>(Vu.mp nd).1 (Wn hv).1,if_pos hk]
  simp
 | p :: P,w :: vs,i + 1,m,nd,h1,h2,hk=>by
  show bindL kindOf ((p,w) :: P.zip vs) m x=_
  unfold bindL
  exact uV (i:=i) (Vu.mp nd).2 (by simpa using h1) (by simpa using h2) hk
theorem uT {kindOf:Str→Option NameKind} {x:Str} {v:Value}:∀{P:List Str} {vs:List Value} {i:Nat} {m:Str→Option Value},P.Nodup→P[i]?=some x→vs[i]?=some v→kindOf x≠some .local →
  bindC kindOf (P.zip vs) m x=some v
 | [],_,_,_,_,h,_,_=>by simp at h
 | _ :: _,[],_,_,_,_,h,_=>by simp at h
 | p :: P,w :: vs,0,m,nd,h1,h2,hk=>by
  simp at h1 h2;subst h1;subst h2
  show bindC kindOf ((p,w) :: P.zip vs) m p=_
  unfold bindC
  rw [uU λv hv=>(Vu.mp nd).1 (Wn hv).1,if_neg hk]
  simp
 | p :: P,w :: vs,i + 1,m,nd,h1,h2,hk=>by
  show bindC kindOf ((p,w) :: P.zip vs) m x=_
  unfold bindC
  exact uT (i:=i) (Vu.mp nd).2 (by simpa using h1) (by simpa using h2) hk
def start (N:List Str) (vs:List V):St:=vs.map some ++ VA (N.length - vs.length) none
def Ak (CX:nA) (P:Program) (w:World) (K:PySem.W.Frag) (mg:Str→Option Value) (base:Heap) (N:List Str) (qual:Str) (scope:Scope) (f:Addr) (cd:Value) (A:Around) (outer:List Env) (s:Shared) (H:Hp) (E:XK):Cx where
 prog:=P
 w:=w
 K:=K
 mg:=mg
 base:=base
 A:=A.deeper (envOfC qual scope s.heap.objs.size f cd)
 N:=N
 s₀:=s
 H₀:=H
 env:=envOfC qual scope s.heap.objs.size f cd
 outer:=outer
 stack:=envOfC qual scope s.heap.objs.size f cd :: outer
 ex:=[]
 calm:=true
 fn:=λ_=>true
 pn:=[]
 xe:=λe s'=>wpAny (model P w) (A.deeper (envOfC qual scope s.heap.objs.size f cd)) (leaving (envOfC qual scope s.heap.objs.size f cd) e) (λ_ s''=>CX outer H s E e s'') (λe' s''=>CX outer H s E e' s'') s'
theorem yA {sc:Scope} {n:Nat} {x:Str} (h:sc.names.lookup x=some .cell):∃c,(cellsFrom n sc.names []).lookup x=some c:=by
 have q:=PySem.W.cellsFrom_some sc.names n [] (.inl h)
 exact We.mp q
theorem DJ {CX:nA} {P:Program} {w:World} {K:PySem.W.Frag} {mg:Str→Option Value} {base:Heap} {N ps:List Str} {qual:Str} {scope:Scope} {f:Addr} {cd:Value} {A:Around} {outer:List Env} {s s1:Shared} {H:Hp} {E:XK} {us:List Value} {vs:List V}
  (S:aw N ps scope) (hd:A.handled=none) (e0:z_ P w K mg base A outer s H) (hl:vs.length=ps.length) (r:Vals vs us)
  (x:InCallC s s.heap.objs.size (bindL (envOfC qual scope s.heap.objs.size f cd).kindOf (ps.zip us) λ_=>none) (cellsFrom (s.heap.objs.size + 1) scope.names []) (bindC (envOfC qual scope s.heap.objs.size f cd).kindOf (ps.zip us) λ_=>none) s1) :
  Inv (Ak CX P w K mg base N qual scope f cd A outer s H E) [] (start N vs) H s1:=by
 have hpl:ps.length≤N.length:=by have:=congrArg Vp S.pre;rw [UZ] at this;omega
 obtain ⟨h1,tk,rfl,hk⟩:=x.done
 have noA:∀b:Addr,b ∉ (Ak CX P w K mg base N qual scope f cd A outer s H E).ex:=λb z=>absurd (show b∈([]:List Addr) from z) (by simp)
 refine ⟨⟨e0.mod,S.kind,rfl,rfl,UC _,λy z c h1 h2=>?_,λy hy=>?_,λy c _ h=>?_,λ_=>hd,Around.frames_deeper e0.frames,.inr ⟨rfl,rfl⟩,λb z=>absurd z (noA b),e0.bs,e0.bsz,λb _ _=>noA b,λb z=>absurd z (noA b),e0.ph,e0.frf⟩,
  rfl,e0.bare,Un.kept hk,⟨_,x.toInCall.ns,λi y v h1 h2 h3=>?_⟩,λy c h=>⟨_,x.cell y c h⟩,e0.hok.fresh (UC _),λy c h=>?_,λp hp=>absurd (show p∈([]:List (Addr × Obj)) from hp) (by simp),e0.hok.kept hk,?_⟩
 ·exact name_of_addr x.apart (PySem.mem_of_lookup h1) (PySem.mem_of_lookup h2)
 ·have hy:scope.names.lookup y=some .cell∨scope.names.lookup y=some .free:=hy
  rcases hy with hy | hy
  ·exact yA hy
  ·exact absurd rfl (S.nofree _ (PySem.mem_of_lookup hy))
 ·exact V9 (x.above y c (PySem.mem_of_lookup h))
 ·have hi:i < vs.length:=by
   unfold start at h2
   by_cases hi:i < vs.length
   ·exact hi
   ·rw [VF (by simpa using hi)] at h2
    rw [List.getElem?_replicate] at h2
    split at h2 <;> cases h2
  have ha:vs[i]?=some v:=by
   unfold start at h2
   rw [Vq (by simpa using hi),Uw] at h2
   cases e:vs[i]? with
   | none=>rw [e] at h2;cases h2
   | some a=>rw [e] at h2;cases h2;rfl
  obtain ⟨u,hu,rv⟩:=r.get ha
  have hp:ps[i]?=some y:=by
   rw [← S.pre,List.getElem?_take_of_lt (by omega)];exact h1
  have ndP:ps.Nodup:=by rw [← S.pre];exact S.nd.sublist (U' _ _)
  refine ⟨u,rv,?_⟩
  rcases S.par y (Uz hp) with k | k
  ·exact .inl ⟨k,uV ndP hp hu k⟩
  ·obtain ⟨c,e⟩:=yA (n:=s.heap.objs.size + 1) k
   refine .inr ⟨.inl k,c,e,?_⟩
   have q:=x.cell y c e
   rw [uT ndP hp hu (by show scope.names.lookup y≠_;rw [k];decide)] at q
   exact q
 ·exact e0.hok.fresh (V9 (x.above y c (PySem.mem_of_lookup h)))
 ·unfold start
  show _=N.length
  rw [UR,Us,List.length_replicate]
  omega
theorem Fd {CX:nA} {P:Program} {w:World} {K:PySem.W.Frag} {mg:Str→Option Value} {base:Heap} {k:Nat} {f:Addr} {name qual:Str} {params:Arguments} {body:List Stmt} {scope:Scope} {dV kV doc pm cdv ct oc:Value} {an od:Option Addr}
  {osl:Array (Option Value)} {N ps:List Str} {sp:Sp} (lk:K.lookup f=some ⟨oc,od,.func (PySem.W.fnOf name qual params body scope dV kV doc pm an cdv ct),osl⟩) (hcd:PySem.W.codeIn K cdv qual=true) (S:aw N ps scope)
  (len:∀vs H Q E,sp vs H Q E→vs.length=ps.length)
  (hbody:∀(A:Around) (outer:List Env) (s:Shared) (H:Hp) (vs:List V) (Q:VK) (E:XK),bR k (A.deeper (envOfC qual scope s.heap.objs.size f cdv))→sp vs H Q E →
   ∃t,yu (Ak CX P w K mg base N qual scope f cdv A outer s H E) body t∧t { nx:=λ_ H'=>Q .non H',rt:=Q } (start N vs) H) :
  aS P w K mg base CX (k + 1) f (PySem.W.fnOf name qual params body scope dV kV doc pm an cdv ct) ps sp:=by
 refine ⟨len,λA outer s H args us vs Q E hr e0 hb r hsp=>?_⟩
 have hl:=len _ _ _ _ hsp
 have KX:K.In s.heap:=e0.mod.kin.keeps λb o e=>(e0.bs b o e).1
 have lim:s.heap.NoLimit:=e0.mod.nolimit.keeps λb o e=>(e0.bs b o e).1
 have hkind:∀y∈ps.zip us,scope.names.lookup y.1=some .local∨(scope.names.lookup y.1=some .cell∧((cellsFrom (s.heap.objs.size + 1) scope.names []).lookup y.1).isSome=true):=λ⟨n,v⟩ hy=>by
  rcases S.par n (Wn hy).1 with q | q
  ·exact .inl q
  ·exact .inr ⟨q,PySem.W.cellsFrom_some _ _ _ (.inl q)⟩
 refine codeAny_call_function hr.depth (KX _ _ lk) rfl S.co S.gen rfl (PySem.W.codeRec_of KX hcd) (hb _ _ _ _ ?_)
 refine wpAny_newFunctionEnv_cells S.kind hkind λenv he s1 x=>?_
 subst he
 refine ⟨lim.keeps x.toInCall.keep,codeAny_func ?_⟩
 obtain ⟨t,ht,hq⟩:=hbody A outer s H vs Q E (hr.deeper _) hsp
 have I:Inv (Ak CX P w K mg base N qual scope f cdv A outer s H E) [] (start N vs) H s1:=DJ S hr.hd e0 hl r x
 refine wpAny_mono (ht [] s1 (start N vs) H _ I hq) (λfl s' hs=>?_) λe s' hs=>hs
 have fin:∀{σ':St} {H':Hp} {v:V} {u:Value},Inv (Ak CX P w K mg base N qual scope f cdv A outer s H E) [] σ' H' s'→RelV v u→Q v H'→CE outer P w H s Q u s' :=
  λ{σ' H' v u} J rv q=>⟨v,H',J.os,J.bare,J.base,J.hok,rv,q⟩
 cases fl with
 | ret u =>
  obtain ⟨v,σ',H',J,rv,q⟩:=hs
  exact fin J rv q
 | next =>
  obtain ⟨σ',H',J,q⟩:=hs
  exact fin (v:=V.non) (u:=Value.none) J rfl q
 | brk =>
  obtain ⟨_,_,_,q⟩:=hs
  exact False.elim q
 | cont =>
  obtain ⟨_,_,_,q⟩:=hs
  exact False.elim q
end L2
namespace L2
open PySem PySem.Spec PyProof.Rows
section
variable {X:Cx} {x:Str} {p pos:Pos} {e:Expr} {es:List Expr} {t:TA} {id T:String} {r:List V→Hp→VK→Prop}
def NH (r:List V→Hp→VK→Prop) (t:TA):TE:=λσ H Q=>t σ H λvs H1=>r vs H1 Q
theorem sI (hc:bS X (.builtin id) r) (hg:Gl X x) (hm:X.mg x=none) (hv:bootBuiltins x=some (.builtin id)) (ha:PA X (e :: es) t) (hn:x≠"__name__":=by decide) (hdb:(x == ("__debug__":Str))=false:=by decide)
  (he:starEach (e :: es) X.env=(false,eval e X.env) :: starEach es X.env:=by rfl) (hpl:(backTo pos (starEach es X.env)).any (·.1)=false:=by rfl):PE X (.Call (.Name x p) (e :: es) [] pos) (NH r t):=by
 intro pins s σ H Q I h
 refine wpAny_Call_Name_kw (mI I hg hm hv ?_ hn hdb)
 exact PyProof.Rows.callWith_builtin1 (cM (ha pos pins s σ H _ I h) λus s1 ⟨vs,H1,I1,r1,q1⟩=>hc pins s1 σ H1 vs us Q I1 r1 q1) he hpl
theorem pI (hc:bS X (.type T) r) (hg:Gl X x) (hm:X.mg x=none) (hv:bootBuiltins x=some (.type T)) (ha:PA X (e :: es) t) (hn:x≠"__name__":=by decide) (hdb:(x == ("__debug__":Str))=false:=by decide)
  (he:starEach (e :: es) X.env=(false,eval e X.env) :: starEach es X.env:=by rfl) (hpl:(backTo pos (starEach es X.env)).any (·.1)=false:=by rfl):PE X (.Call (.Name x p) (e :: es) [] pos) (NH r t):=by
 intro pins s σ H Q I h
 refine wpAny_Call_Name_kw (mI I hg hm hv ?_ hn hdb)
 exact PyProof.Rows.callWith_type1 (cM (ha pos pins s σ H _ I h) λus s1 ⟨vs,H1,I1,r1,q1⟩=>hc pins s1 σ H1 vs us Q I1 r1 q1) he hpl
end
end L2
namespace HT
open PySem PyProof.Rows
def lexLt:List Int→List Int→Bool
 | [],[]=>false
 | [],_ :: _=>true
 | _ :: _,[]=>false
 | x :: xs,y :: ys=>if x=y then lexLt xs ys else decide (x < y)
section
open PySem.SeqAt
open PySem.AutoSeq1 (wpAny_loadPart')
open PySem.MeetsSeq PySem.MeetsSeq2 PySem.MeetsSeq3
end
section
variable {prog:Program} {w:World} {A:Around} {E:Value→Shared→Prop} {s:Shared}
def fb (n d:Nat):Option Int→Nat
 | none=>d
 | some v=>if v < 0 then (v + (n:Int)).toNat else min v.toNat n
theorem G3 (n d:Nat):fb n d none=d:=rfl
theorem JP (n d k:Nat):fb n d (some (k:Int))=min k n:=by
 show (if (k:Int) < 0 then ((k:Int) + (n:Int)).toNat else min (k:Int).toNat n)=min k n
 rw [if_neg (by omega),Int.toNat_natCast]
theorem Nw (n d:Nat) (hd:d≤n) (o:Option Int):fb n d o≤n:=by
 cases o with
 | none=>exact hd
 | some v =>
  show (if v < 0 then (v + (n:Int)).toNat else min v.toNat n)≤n
  by_cases hv:v < 0
  ·rw [if_pos hv];omega
  ·rw [if_neg hv];exact Nat.min_le_right _ _
theorem BP (v:Int) (n d:Nat):(if v < 0 then max (v + (n:Int)) 0 else min v (n:Int))=((fb n d (some v):Nat):Int):=by
 show (if v < 0 then max (v + (n:Int)) 0 else min v (n:Int))=(((if v < 0 then (v + (n:Int)).toNat else min v.toNat n):Nat):Int)
 by_cases hv:v < 0
 ·simp only [if_pos hv];omega
 ·simp only [if_neg hv];omega
theorem Af (lo hi:Option Int) (n:Nat):Builtin.Slice.sliceAdjust lo hi 1 (n:Int)=(((fb n 0 lo:Nat):Int),((fb n n hi:Nat):Int)):=by
 have h1:¬ ((1:Int) < 0):=by omega
 unfold Builtin.Slice.sliceAdjust
 simp only [h1,if_false]
 refine Prod.ext ?_ ?_
 ·cases lo with
  | none=>rfl
  | some v=>exact BP v n 0
 ·cases hi with
  | none=>rfl
  | some v=>exact BP v n n
theorem A2 (i j:Nat):Builtin.Slice.slicePlaces (i:Int) (j:Int) 1=j - i:=by
 unfold Builtin.Slice.slicePlaces
 have h1:(1:Int) > 0:=by omega
 simp only [h1,if_true,Int.ediv_one]
 split <;> omega
theorem tF {v:Value} {o:Option Int} {Q:Option Int→Shared→Prop} (p:IsPart v o) (h:Q o s):wpAny (model prog w) A (Builtin.Slice.slicePartIndex v) Q E s:=by
 cases p with
 | none=>exact slicePart_none h
 | int i t=>exact slicePart_int h
theorem pW {sl:Addr} {vl vu:Value} {lo hi:Option Int} {n:Nat} {Q:Int × Int × Nat→Shared→Prop} (hs:s.heap.IsSliceOf sl vl vu .none) (pl:IsPart vl lo) (pu:IsPart vu hi)
  (h:Q (((fb n 0 lo:Nat):Int),1,fb n n hi - fb n 0 lo) s):wpAny (model prog w) A (Builtin.Slice.sliceApplied (.ref sl) (pure (n:Int))) Q E s:=by
 obtain ⟨os,hos,hcs,hds⟩:=id hs
 unfold Builtin.Slice.sliceApplied Builtin.Slice.sliceFields
 refine wpAny_bind (wpAny_bind (wpAny_field hos hds (x:=vl) rfl (wpAny_bind (wpAny_field hos hds (x:=vu) rfl (wpAny_bind (wpAny_field hos hds (x:=.none) rfl (wpAny_pure ?_)))))))
 refine wpAny_bind (slicePart_none ?_)
 show wpAny _ _ (if ((1:Int) == 0)=true then _ else _) _ _ s
 rw [if_neg (by decide)]
 refine wpAny_bind (tF pl (wpAny_bind (tF pu (wpAny_bind (wpAny_pure ?_)))))
 show wpAny _ _ (match Builtin.Slice.sliceAdjust lo hi 1 (n:Int) with | (lo,hi)=>pure (lo,(1:Int),Builtin.Slice.slicePlaces lo hi 1)) _ _ s
 rw [Af lo hi n]
 show wpAny _ _ (pure (((fb n 0 lo:Nat):Int),(1:Int),Builtin.Slice.slicePlaces ((fb n 0 lo:Nat):Int) ((fb n n hi:Nat):Int) 1)) _ _ s
 rw [A2]
 exact wpAny_pure h
theorem GA (xs:Array Value) (i k:Nat):((Vz k).filterMap λ(m:Nat)=>xs[((i:Int) + (m:Int) * 1).toNat]?).toArray=((xs.toList.drop i).take k).toArray:=by
 have e:(λ(m:Nat)=>xs[((i:Int) + (m:Int) * 1).toNat]?)=λm=>xs[i + m]?:=by
  funext m
  have:((i:Int) + (m:Int) * 1).toNat=i + m:=by omega
  rw [this]
 rw [e]
 have:=pick_run xs i k
 rw [List.filterMap_map] at this
 have e2:((λx=>xs[x]?) ∘ λx=>i + x)=λm=>xs[i + m]?:=rfl
 rw [e2] at this
 rw [this]
theorem nV {t sl:Addr} {items:Array Value} {vl vu:Value} {lo hi:Option Int} {Q:Value→Shared→Prop} (ht:IsTup s.heap t items) (hs:s.heap.IsSliceOf sl vl vu .none) (pl:IsPart vl lo) (pu:IsPart vu hi)
  (hw:¬ (fb items.size 0 lo=0∧fb items.size items.size hi=items.size))
  (h:Q (.ref s.heap.objs.size) { s with heap:=s.heap.push { cls:=.type "tuple",data:=.seq ((items.toList.drop (fb items.size 0 lo)).take (fb items.size items.size hi - fb items.size 0 lo)).toArray } })
  (hsz:items.size≤sizeLine):wpAny (model prog w) A (getItem (.ref t) (.ref sl)) Q E s:=by
 have htake:sizeOk (.seq ((items.toList.drop (fb items.size 0 lo)).take (fb items.size items.size hi - fb items.size 0 lo)).toArray):=by
  show ((items.toList.drop (fb items.size 0 lo)).take (fb items.size items.size hi - fb items.size 0 lo)).toArray.size≤sizeLine
  rw [UD,UZ,Vx,Array.length_toList]
  omega
 have hj:fb items.size items.size hi≤items.size:=Nw _ _ (UC _) hi
 obtain ⟨os,hos,hcs,hds⟩:=id hs
 have hTs:s.TypeIs (.ref sl) "slice":=⟨os,hos,hcs⟩
 unfold getItem
 try with_reducible refine wpAny_holding ?_
 first | refine wpAny_bind (wpAny_pure ?_) | skip
 refine wpAny_bind (wpAny_sequenceKey ht.typeIs (by decide) ?_)
 refine wpAny_bind (wpAny_callSpecial?_slot (name:=Str.ofString "__getitem__") ht.typeIs PyProof.Rows.slot_tuple_getitem
  (wpAny_call_entry PyProof.Rows.slot_tuple_getitem ht.typeIs entry_tuple_getitem ?_ (args_tuple_getitem _ _)))
 show wpAny _ _ (Builtin.Tuple.tupleItemsOf (.ref t) >>= _) _ _ s
 refine wpAny_bind (tupleItemsOf_ ht ?_)
 refine wpAny_bind (wpAny_typeOf hTs ?_)
 rw [if_pos (by decide)]
 refine wpAny_bind (pW hs pl pu ?_)
 have hno:¬ ((((fb items.size 0 lo:Nat):Int) == 0 && (1:Int) == 1 && (fb items.size items.size hi - fb items.size 0 lo) == items.size)=true):=by
  intro q
  rw [U1,U1] at q
  have q1:((fb items.size 0 lo:Nat):Int)=0:=eq_of_beq q.1.1
  have q2:fb items.size items.size hi - fb items.size 0 lo=items.size:=eq_of_beq q.2
  exact hw ⟨by omega,by omega⟩
 show wpAny _ _ (if (((fb items.size 0 lo:Nat):Int) == 0 && (1:Int) == 1 && (fb items.size items.size hi - fb items.size 0 lo) == items.size)=true then _ else _) _ _ s
 rw [if_neg hno,GA]
 first
  | exact wpAny_bind (m:=Builtin.Tuple.tupleExact _) (wpAny_newObj_type (wpAny_pure ⟨_,rfl,wpAny_pure h⟩) htake)
  | exact wpAny_bind (m:=Builtin.Tuple.tupleExact _) (wpAny_newObj_type (wpAny_bind (wpAny_pure (wpAny_pure ⟨_,rfl,wpAny_pure h⟩))) htake)
  | exact wpAny_bind (wpAny_bind (m:=Builtin.Tuple.tupleExact _) (wpAny_newObj_type (wpAny_pure (wpAny_pure ⟨_,rfl,wpAny_pure h⟩)) htake))
  | exact wpAny_bind (wpAny_bind (m:=Builtin.Tuple.tupleExact _) (wpAny_newObj_type (wpAny_pure ⟨_,rfl,wpAny_pure h⟩) htake))
end
end HT
namespace L2
open PySem PySem.Spec PyProof.Rows
abbrev TO:=St→Hp→(Option Int→Hp→Prop)→Prop
def PO (X:Cx) (e:Option Expr) (t:TO):Prop :=
 ∀(pins:List (Addr × Obj)) (s:Shared) (σ:St) (H:Hp) (Q:Option Int→Hp→Prop),Inv X pins σ H s→t σ H Q →
  wpAny (model X.prog X.w) X.A (evalPart e X.env) (λu s'=>∃o H',Inv X pins σ H' s'∧IsPart u o∧Q o H') X.xe s
def x8:TO:=λ_ H Q=>Q none H
def Hx (t:TE):TO:=λσ H Q=>t σ H λx H1=>∃i,x=.int i∧Q (some i) H1
theorem intsAre_of {ns:List Int}:∀{us:List Value},Vals (ns.map V.int) us→IntsAre us ns:=by
 induction ns with
 | nil=>intro us r;rw [Va] at r;cases r;exact .nil
 | cons n ns ih =>
  intro us r
  rw [UA] at r
  cases r with
  | cons r1 r2 =>
   obtain ⟨t,e⟩:=r1
   subst e
   exact .cons n t (ih r2)
section
variable {X:Cx} {e:Expr} {te:TE} {lo hi:Option Expr} {tl th:TO} {pos p2:Pos}
theorem xb:PO X none x8:=by
 intro pins s σ H Q I h
 rw [evalPart_none]
 exact wpAny_pure ⟨none,H,I,.none,h⟩
theorem xf (h:PE X e te):PO X (some e) (Hx te):=by
 intro pins s σ H Q I hw
 rw [evalPart_some]
 refine cM (h pins s σ H _ I hw) λu s1 ⟨x,H1,I1,r1,q1⟩=>?_
 obtain ⟨i,rfl,q⟩:=q1
 obtain ⟨t,rfl⟩:=r1
 exact ⟨some i,H1,I1,.int i t,q⟩
def oY (X:Cx) (r:V→Option Int→Option Int→Hp→VK→Prop):Prop :=
 ∀(pins:List (Addr × Obj)) (s:Shared) (σ:St) (H:Hp) (x:V) (v vl vu:Value) (lo hi:Option Int) (sl:Addr) (Q:VK),Inv X pins σ H s→RelV x v→s.heap.IsSliceOf sl vl vu .none→IsPart vl lo→IsPart vu hi→r x lo hi H Q →
  ∃T id,typeLookup (.type T) "__getitem__"=pure (some (.builtin id))∧s.TypeIs v T∧wpAny (model X.prog X.w) X.A (getItem v (.ref sl)) (EP X pins σ Q) X.xe s
theorem oY.or {r r':V→Option Int→Option Int→Hp→VK→Prop} (h:oY X r) (h':oY X r'):oY X (λx lo hi H Q=>r x lo hi H Q∨r' x lo hi H Q):=by
 intro pins s σ H x v vl vu lo hi sl Q I rx hs pl pu q
 rcases q with q | q
 ·exact h pins s σ H x v vl vu lo hi sl Q I rx hs pl pu q
 ·exact h' pins s σ H x v vl vu lo hi sl Q I rx hs pl pu q
def SW (r:V→Option Int→Option Int→Hp→VK→Prop) (te:TE) (tl th:TO):TE:=λσ H Q=>te σ H λx H1=>tl σ H1 λl H2=>th σ H2 λu H3=>r x l u H3 Q
theorem sL {r:V→Option Int→Option Int→Hp→VK→Prop} (hr:oY X r) (he:PE X e te) (hl:PO X lo tl) (hu:PO X hi th):PE X (.Subscript e (.Slice lo hi none p2) pos) (SW r te tl th):=by
 intro pins s σ H Q I h
 refine Subscript_ (cM (he pins s σ H _ I h) λv s1 ⟨x,H1,I1,r1,q1⟩=>?_)
 refine wpAny_Slice (cM (hl pins s1 σ H1 _ I1 q1) λvl s2 ⟨l,H2,I2,pl,q2⟩=>cM (hu pins s2 σ H2 _ I2 q2) λvu s3 ⟨u,H3,I3,pu,q3⟩=>?_)
 rw [evalPart_none]
 refine wpAny_pure ?_
 have I4:Inv X pins σ H3 { s3 with heap:=s3.heap.push { cls:=.type "slice",data:=.fields #[vl,vu,.none] } }:=I3.kept (t':=s3.toks) λb ob q=>Heap.get?_push_of_some _ q
 obtain ⟨T,id,hT,ht,hg⟩:=hr pins { s3 with heap:=s3.heap.push { cls:=.type "slice",data:=.fields #[vl,vu,.none] } } σ H3 x v vl vu l u s3.heap.objs.size Q I4 r1 (Heap.IsSliceOf.new ..) pl pu q3
 show wpAny (model X.prog X.w) X.A (subscriptTail e (.Slice lo hi none p2) v (.ref s3.heap.objs.size)) (EP X pins σ Q) X.xe { s3 with heap:=s3.heap.push { cls:=.type "slice",data:=.fields #[vl,vu,.none] } }
 exact tail_any (ops:=[.ref s3.heap.objs.size,v]) ht hT hg (by with_unfolding_all rfl)
def wd (xs:List V) (lo hi:Option Int):List V:=(xs.drop (HT.fb xs.length 0 lo)).take (HT.fb xs.length xs.length hi - HT.fb xs.length 0 lo)
theorem p9 (xs:List V) (lo hi:Option Int):(wd xs lo hi).length≤xs.length:=by
 unfold wd
 rw [UZ,Vx]
 omega
def SI (K:PySem.W.Frag):V→Option Int→Option Int→Hp→VK→Prop:=λx lo hi H Q=>∃a xs,x=.ref a∧f' K H a xs ∧
 ¬ (HT.fb xs.length 0 lo=0∧HT.fb xs.length xs.length hi=xs.length)∧∀p,H p=none→Q (.ref p) (upd H p (.tup (wd xs lo hi)))
theorem NB:oY X (SI X.K):=by
 intro pins s σ H x v vl vu lo hi sl Q I rx hs pl pu h
 obtain ⟨a,xs,rfl,hx,hw,q⟩:=h
 cases rx
 obtain ⟨its,r,ht,hz⟩:=I.tuple hx
 have hlen:its.toArray.size=xs.length:=by rw [UD];exact r.length.symm
 refine ⟨"tuple",_,PyProof.Rows.slot_tuple_getitem.lookup,ht.typeIs,?_⟩
 refine HT.nV ht hs pl pu (by rw [hlen];exact hw) ?_ (by rw [hlen];exact hz)
 rw [hlen]
 refine ⟨.ref s.heap.objs.size,_,I.laid (t':=s.toks) (o:=.tup (wd xs lo hi)) (λb ob q=>Heap.get?_push_of_some _ q) (UC _) ?_,rfl,q _ (I.hok.fresh (UC _))⟩
 exact ⟨UM (p9 xs lo hi) hz,_,(r.drop (HT.fb xs.length 0 lo)).take (HT.fb xs.length xs.length hi - HT.fb xs.length 0 lo),IsTup.new _ _⟩
end
end L2
namespace L2
open PySem PySem.Spec PyProof.Rows
def EF (n:Nat) (i:Int):Option Nat:=if 0≤i then (if i < n then some i.toNat else none) else if -(n:Int)≤i then some (i + n).toNat else none
def c4 {α:Type} (xs:List α) (i:Int):Option α:=(EF xs.length i).bind λj=>xs[j]?
theorem B' {n:Nat} {i:Int} {j:Nat} (h:EF n i=some j):seqIndex? i n=some j∧j < n∧-(n:Int)≤i∧i < n:=by
 unfold EF at h
 by_cases h0:0≤i
 ·rw [if_pos h0] at h
  by_cases h1:i < n
  ·rw [if_pos h1] at h
   have e:i.toNat=j:=Option.some.inj h
   exact ⟨by rw [seqIndex_of h0 h1,e],by omega,by omega,h1⟩
  ·rw [if_neg h1] at h;cases h
 ·rw [if_neg h0] at h
  by_cases h1:-(n:Int)≤i
  ·rw [if_pos h1] at h
   have e:(i + n).toNat=j:=Option.some.inj h
   exact ⟨by rw [seqIndex_neg (by omega) h1,e],by omega,h1,by omega⟩
  ·rw [if_neg h1] at h;cases h
theorem v3 {α:Type} {xs:List α} {i:Int} {v:α} (h:c4 xs i=some v):∃j,seqIndex? i xs.length=some j∧xs[j]?=some v∧j < xs.length∧-(xs.length:Int)≤i∧i < xs.length:=by
 unfold c4 at h
 cases e:EF xs.length i with
 | none=>rw [e] at h;cases h
 | some j =>
  rw [e] at h
  obtain ⟨h1,h2,h3,h4⟩:=B' e
  exact ⟨j,h1,h,h2,h3,h4⟩
theorem bP {α:Type} {xs:List α} {j:Nat} {v:α} (h:xs[j]?=some v):c4 xs (j:Int)=some v:=by
 have hj:j < xs.length:=(Uv.mp h).1
 have e:EF xs.length (j:Int)=some j:=by
  unfold EF
  rw [if_pos (by omega),if_pos (by omega)];simp
 unfold c4;rw [e];exact h
def b7 (b:Expr):Prop:=∀o i,subscripted b false o i=operate [o,i] (getItem o i)
def nj (X:Cx) (r:R2):Prop :=
 ∀(value slice:Expr) (pins:List (Addr × Obj)) (s:Shared) (σ:St) (H:Hp) (x y:V) (v u:Value) (Q:VK),Inv X pins σ H s→RelV x v→RelV y u→r x y H Q →
  subscripted slice false v u=operate [v,u] (getItem v u)→wpAny (model X.prog X.w) X.A (subscriptTail value slice v u) (EP X pins σ Q) X.xe s
def md (X:Cx) (id:String) (r:V→List V→Hp→VK→Prop):Prop :=
 ∀(pins:List (Addr × Obj)) (s:Shared) (σ:St) (H:Hp) (x:V) (xs:List V) (v:Value) (us:List Value) (Q:VK),Inv X pins σ H s→RelV x v→Vals xs us→r x xs H Q →
  wpAny (model X.prog X.w) X.A (call (.builtin id) (v :: us)) (EP X pins σ Q) X.xe s
section
variable {X:Cx} {a b:Expr} {ta tb:TE} {pos:Pos}
theorem nj.or {r r':R2} (h:nj X r) (h':nj X r'):nj X (λx y H Q=>r x y H Q∨r' x y H Q):=by
 intro value slice pins s σ H x y v u Q I rx ry q hs
 rcases q with q | q
 ·exact h value slice pins s σ H x y v u Q I rx ry q hs
 ·exact h' value slice pins s σ H x y v u Q I rx ry q hs
theorem md.or {id:String} {r r':V→List V→Hp→VK→Prop} (h:md X id r) (h':md X id r'):md X id (λx xs H Q=>r x xs H Q∨r' x xs H Q):=by
 intro pins s σ H x xs v us Q I rx rs q
 rcases q with q | q
 ·exact h pins s σ H x xs v us Q I rx rs q
 ·exact h' pins s σ H x xs v us Q I rx rs q
theorem Gs {r:R2} (hr:nj X r) (ha:PE X a ta) (hb:PE X b tb) (hs:b7 b):PE X (.Subscript a b pos) (HM r ta tb):=by
 intro pins s σ H Q I h
 exact Subscript_ (LX ha hb I h λv u s2 x y H2 I2 rx ry q=>hr a b pins s2 σ H2 x y v u Q I2 rx ry q (hs _ _))
def SA (K:PySem.W.Frag):R2:=λx y H Q=>∃p xs i v,x=.ref p∧y=.int i∧dY K H p xs∧c4 xs i=some v∧Q v H
def SE (K:PySem.W.Frag):R2:=λx y H Q=>∃p xs i v,x=.ref p∧y=.int i∧f' K H p xs∧c4 xs i=some v∧Q v H
def SD:R2:=λx y H Q=>∃z i c,x=.str z∧y=.int i∧z.length≤sizeLine∧c4 z.cps.toList i=some c∧Q (.str ⟨#[c]⟩) H
theorem IF:nj X (SA X.K):=by
 intro value slice pins s σ H x y v u Q I rx ry h hs
 obtain ⟨p,xs,i,z,rfl,rfl,hq,he,q⟩:=h
 cases rx
 obtain ⟨t,rfl⟩:=ry
 obtain ⟨its,r,pl,hz⟩:=I.list hq
 obtain ⟨j,h1,h2,h3,h4,h5⟩:=v3 he
 obtain ⟨w,ew,rw'⟩:=r.get h2
 have hl:=r.length
 have hn:=mK
 have fin:EP X pins σ Q w s:=⟨z,H,I,rw',q⟩
 by_cases h0:0≤i
 ·have hj:i.toNat=j:=by
   rw [seqIndex_of h0 h5] at h1
   exact Option.some.inj h1
  exact item_listR pl.isList h0 (by omega) (by rw [hj];simpa using ew) fin hs
 ·have hj:(i + (its.toArray.size:Int)).toNat=j:=by
   rw [seqIndex_neg (by omega) h4] at h1
   rw [UD,← hl]
   exact Option.some.inj h1
  exact subscriptTail_builtinR (x:=w) pl.isList.typeIs slot_list_getitem.lookup
   (wpAny_getItem_list_neg (Q:=λr s'=>r=w∧EP X pins σ Q r s') pl.isList (by omega) (by rw [UD] <;> omega) (by omega) (by rw [hj];simpa using ew) ⟨rfl,fin⟩) hs
theorem Mq:nj X (SE X.K):=by
 intro value slice pins s σ H x y v u Q I rx ry h hs
 obtain ⟨p,xs,i,z,rfl,rfl,hq,he,q⟩:=h
 cases rx
 obtain ⟨t,rfl⟩:=ry
 obtain ⟨its,r,pl,hz⟩:=I.tuple hq
 obtain ⟨j,h1,h2,h3,h4,h5⟩:=v3 he
 obtain ⟨w,ew,rw'⟩:=r.get h2
 have hl:=r.length
 have hn:=mK
 have fin:EP X pins σ Q w s:=⟨z,H,I,rw',q⟩
 exact subscriptTail_builtinR (x:=w) pl.typeIs slot_tuple_getitem.lookup
  (getItem_tuple (j:=j) (Q:=λr s'=>r=w∧EP X pins σ Q r s') pl (by omega) (by omega) (by rw [UD,← hl];exact h1) (by simpa using ew) ⟨rfl,fin⟩) hs
theorem Mp:nj X SD:=by
 intro value slice pins s σ H x y v u Q I rx ry h hs
 obtain ⟨z,i,c,rfl,rfl,hz,he,q⟩:=h
 obtain ⟨t,rfl⟩:=rx
 obtain ⟨t',rfl⟩:=ry
 obtain ⟨j,h1,h2,h3,h4,h5⟩:=v3 he
 have hl:z.cps.toList.length=z.length:=by simp [Str.length]
 rw [hl] at h1 h4 h5
 have hn:=mK
 exact tail_any (typeIs_str s z t) slot_str_getitem.lookup (getItem_str (c:=c) (by
  have e1:decide (i < -(2 ^ 63:Int))=false:=decide_eq_false (by omega)
  have e2:decide (i ≥ 2 ^ 63)=false:=decide_eq_false (by omega)
  rw [e1,e2,Bool.or_false]) (by rw [h1];simpa using h2) ⟨.str ⟨#[c]⟩,H,I.tok _,⟨_,rfl⟩,q⟩) hs
theorem AB (its:List Value) (n j:Nat) (u:Value):Obj.mapSeq (·.setIfInBounds j u) { cls:=.type "list",data:=.seq its.toArray n }={ cls:=.type "list",data:=.seq (its.set j u).toArray n }:=by
 simp [Obj.mapSeq]
theorem Inv.lst {pins:List (Addr × Obj)} {σ:St} {H:Hp} {s:Shared} {p:Addr} {xs:List V} (I:Inv X pins σ H s) (h:H p=some (.lst xs)) :
  ∃(its:List Value) (n:Nat),Vals xs its∧s.heap.get? p=some { cls:=.type "list",data:=.seq its.toArray n }∧xs.length≤sizeLine:=by
 obtain ⟨z,its,n,r,e⟩:=I.hok p _ h
 exact ⟨its,n,r,e,z⟩
theorem Inv.ME {pins:List (Addr × Obj)} {σ:St} {H:Hp} {s:Shared} {p:Addr} {xs ys:List V} {its its':List Value} {n n':Nat} {f:Obj→Obj} (I:Inv X pins σ H s) (h:H p=some (.lst xs))
  (ho:s.heap.get? p=some { cls:=.type "list",data:=.seq its.toArray n }) (hf:f { cls:=.type "list",data:=.seq its.toArray n }={ cls:=.type "list",data:=.seq its'.toArray n' }) (r:Vals ys its') (hz:ys.length≤sizeLine) (t:Nat) :
  Inv X pins σ (upd H p (.lst ys)) { s with heap:=s.heap.update p f,toks:=t }:=by
 have e:(s.heap.update p f).get? p=some { cls:=.type "list",data:=.seq its'.toArray n' }:=by
  rw [Heap.get?_update_self f ho (by rw [hf] <;> rfl),hf]
 refine I.write (x:=p) (e:=p) (by rw [h];trivial) (.inl rfl) (λb u hb q=>(Heap.get?_update_other _ _ (Ne.symm hb)).trans q) ⟨_,e⟩ ?_
 exact ⟨hz,its',n',r,e⟩
def Qt:V→V→V→Hp→(Hp→Prop)→Prop:=λo i v H Q=>∃p xs k j,o=.ref p∧i=.int k∧H p=some (.lst xs)∧EF xs.length k=some j∧Q (upd H p (.lst (xs.set j v)))
theorem set_list:gu X Qt:=by
 intro pins s σ H o i v ov iv u Q I ro ri rv h
 obtain ⟨p,xs,k,j,rfl,rfl,hp,hj,q⟩:=h
 cases ro
 obtain ⟨t,rfl⟩:=ri
 obtain ⟨its,n,r,ho,hz⟩:=I.lst hp
 obtain ⟨h1,h2,h3,h4⟩:=B' hj
 have hl:=r.length
 have hn:=mK
 have I':Inv X pins σ (upd H p (.lst (xs.set j v))) { s with heap:=s.heap.update p (Obj.mapSeq (·.setIfInBounds j u)) } :=
  I.ME hp ho (AB its n j u) (r.set rv j) (by rw [VN];exact hz) s.toks
 by_cases h0:0≤k
 ·have hk:k.toNat=j:=by
   rw [seqIndex_of h0 h4] at h1
   exact Option.some.inj h1
  exact PySem.W.ki_setAt ho h0 (by omega) (by rw [UD,← hl];exact h4) (by rw [hk];exact ⟨_,I',q⟩)
 ·have hk:(k + (its.toArray.size:Int)).toNat=j:=by
   rw [seqIndex_neg (by omega) h3] at h1
   rw [UD,← hl]
   exact Option.some.inj h1
  exact PySem.W.ki_setBack ho (by omega) (by rw [UD,← hl];exact h3) (by omega) (by rw [hk];exact ⟨_,I',q⟩)
theorem xS (lo hi:Option Int) (n:Nat):(sliceBounds lo hi none n).1=((HT.fb n 0 lo:Nat):Int)∧(sliceBounds lo hi none n).2.1=((HT.fb n n hi:Nat):Int)∧(sliceBounds lo hi none n).2.2=1:=by
 refine ⟨?_,?_,rfl⟩
 ·cases lo with
  | none=>simp [sliceBounds,HT.fb]
  | some i =>
   simp only [sliceBounds,HT.fb,WH,show (1:Int) > 0 by decide,if_true]
   by_cases h:i < 0
   ·simp only [h,if_true] <;> omega
   ·simp only [h,if_false] <;> omega
 ·cases hi with
  | none=>simp [sliceBounds,HT.fb]
  | some i =>
   simp only [sliceBounds,HT.fb,WH,show (1:Int) > 0 by decide,if_true]
   by_cases h:i < 0
   ·simp only [h,if_true] <;> omega
   ·simp only [h,if_false] <;> omega
theorem uK (its:List Value) (lo hi:Option Int):slicePick its.toArray lo hi none=((its.drop (HT.fb its.length 0 lo)).take (HT.fb its.length its.length hi - HT.fb its.length 0 lo)).toArray:=by
 obtain ⟨h1,h2,h3⟩:=xS lo hi its.toArray.size
 unfold slicePick
 rw [h1,h2,h3]
 simp only [sliceRange_one,pick_run,UD] <;> rfl
def SH (K:PySem.W.Frag):V→Option Int→Option Int→Hp→VK→Prop:=λx lo hi H Q=>∃a xs,x=.ref a∧dY K H a xs∧∀p,H p=none→Q (.ref p) (upd H p (.lst (wd xs lo hi)))
theorem CH:oY X (SH X.K):=by
 intro pins s σ H x v vl vu lo hi sl Q I rx hs pl pu h
 obtain ⟨a,xs,rfl,hx,q⟩:=h
 cases rx
 obtain ⟨its,r,ht,hz⟩:=I.list hx
 have hlen:=r.length
 refine ⟨"list",_,slot_list_getitem.lookup,ht.isList.typeIs,?_⟩
 refine wpAny_getItem_list_slice ht.isList hs pl pu .none (by simp) ?_ (by rw [UD] <;> omega)
 rw [uK,← hlen]
 refine ⟨.ref s.heap.objs.size,_,I.laid (t':=s.toks) (o:=.lst (wd xs lo hi)) (λb ob q=>Heap.get?_push_of_some _ q) (UC _) ?_,rfl,q _ (I.hok.fresh (UC _))⟩
 exact ⟨UM (p9 xs lo hi) hz,_,0,(r.drop (HT.fb xs.length 0 lo)).take (HT.fb xs.length xs.length hi - HT.fb xs.length 0 lo),Heap.get?_push_size _ rfl⟩
def jT:V→Bool
 | .non=>true
 | .bl _=>true
 | .int _=>true
 | .str _=>true
 | _=>false
def HK:V→V→Bool
 | .non,.non=>true
 | .bl a,.bl b=>a == b
 | .bl a,.int b=>(if a then 1 else 0) == b
 | .int a,.bl b=>a == (if b then 1 else 0)
 | .int a,.int b=>a == b
 | .str a,.str b=>a == b
 | _,_=>false
theorem Md {A:Around} {s:Shared} {y x:V} {u v:Value} (ry:RelV y u) (rx:RelV x v) (fy:jT y=true) (fx:jT x=true):SeqAt.EqAt A s u v (HK y x):=by
 cases y with
 | non =>
  cases ry
  cases x with
  | non=>cases rx;exact SeqAt.EqAt.same _
  | bl b=>cases rx;exact SeqAt.EqAt.none_bool b
  | int b=>obtain ⟨t,rfl⟩:=rx;exact SeqAt.EqAt.none_int b t
  | str b=>obtain ⟨t,rfl⟩:=rx;exact SeqAt.EqAt.none_str b t
  | _=>exact absurd (show false=true from fx) U5
 | bl a =>
  cases ry
  cases x with
  | non=>cases rx;exact SeqAt.EqAt.bool_none a
  | bl b=>cases rx;exact SeqAt.EqAt.bool_bool a b
  | int b=>obtain ⟨t,rfl⟩:=rx;exact SeqAt.EqAt.bool_int a b t
  | str b=>obtain ⟨t,rfl⟩:=rx;exact SeqAt.EqAt.bool_str a b t
  | _=>exact absurd (show false=true from fx) U5
 | int a =>
  obtain ⟨t',rfl⟩:=ry
  cases x with
  | non=>cases rx;exact SeqAt.EqAt.int_none a t'
  | bl b=>cases rx;exact SeqAt.EqAt.int_bool a t' b
  | int b=>obtain ⟨t,rfl⟩:=rx;exact SeqAt.EqAt.int_int a t' b t
  | str b=>obtain ⟨t,rfl⟩:=rx;exact SeqAt.EqAt.int_str a t' b t
  | _=>exact absurd (show false=true from fx) U5
 | str a =>
  obtain ⟨t',rfl⟩:=ry
  cases x with
  | non=>cases rx;exact SeqAt.EqAt.str_none a t'
  | bl b=>cases rx;exact SeqAt.EqAt.str_bool a t' b
  | int b=>obtain ⟨t,rfl⟩:=rx;exact SeqAt.EqAt.str_int a t' b t
  | str b=>obtain ⟨t,rfl⟩:=rx;exact SeqAt.EqAt.str_str a t' b t
  | _=>exact absurd (show false=true from fx) U5
 | _=>exact absurd (show false=true from fy) U5
def Am (x:V) (u:Value):Bool:=match u with
 | .none=>HK .non x
 | .bool b=>HK (.bl b) x
 | .int i _=>HK (.int i) x
 | .str z _=>HK (.str z) x
 | _=>false
theorem E9 {x y:V} {u:Value} (r:RelV y u) (f:jT y=true):Am x u=HK y x:=by
 cases y with
 | non=>cases r;rfl
 | bl b=>cases r;rfl
 | int i=>obtain ⟨t,rfl⟩:=r;rfl
 | str z=>obtain ⟨t,rfl⟩:=r;rfl
 | _=>exact absurd (show false=true from f) U5
theorem nL {x:V}:∀{xs:List V} {us:List Value},Vals xs us→xs.all jT=true→us.any (Am x)=xs.any λy=>HK y x
 | _,_,.nil,_=>rfl
 | y :: xs,u :: us,.cons r t,f=>by
  rw [Wz,U1] at f
  rw [VO,VO,E9 r f.1,nL t f.2]
theorem kJ {A:Around} {s:Shared} {x:V} {v:Value} (rx:RelV x v) (fx:jT x=true):∀{xs:List V} {us:List Value},Vals xs us→xs.all jT=true→∀u∈us,SeqAt.EqAt A s u v (Am x u)
 | _,_,.nil,_=>λu hu=>by cases hu
 | y :: xs,u :: us,.cons r t,f=>λu' hu=>by
  rw [Wz,U1] at f
  rcases UH.mp hu with rfl | hu
  ·rw [E9 r f.1];exact Md r rx f.1 fx
  ·exact kJ rx fx t f.2 u' hu
def Od (x:V) (xs:List V):Bool:=xs.any λy=>HK y x
def T7 (K:PySem.W.Frag) (neg:Bool):R2:=λx y H Q=>∃p xs,y=.ref p∧(dY K H p xs∨f' K H p xs)∧jT x=true∧xs.all jT=true∧Q (.bl (if neg then !Od x xs else Od x xs)) H
theorem Ee:fw X (compareOp .In) (T7 X.K false):=by
 intro pins s σ H x y v u Q I rx ry h
 obtain ⟨p,xs,rfl,hq,fx,fs,q⟩:=h
 cases ry
 rcases hq with hq | hq
 ·obtain ⟨its,r,pl,hz⟩:=I.list hq
  refine SeqAt.in_listAt (Am x) pl.isList (λw hw=>kJ rx fx r fs w (by simpa using hw)) ⟨.bl _,H,I,rfl,?_⟩
  rw [show its.toArray.any (Am x)=its.any (Am x) by simp,nL r fs]
  exact q
 ·obtain ⟨its,r,pl,hz⟩:=I.tuple hq
  refine SeqAt.in_tupleAt (Am x) pl (λw hw=>kJ rx fx r fs w (by simpa using hw)) ⟨.bl _,H,I,rfl,?_⟩
  rw [show its.toArray.any (Am x)=its.any (Am x) by simp,nL r fs]
  exact q
theorem wQ:fw X (compareOp .NotIn) (T7 X.K true):=by
 intro pins s σ H x y v u Q I rx ry h
 obtain ⟨p,xs,rfl,hq,fx,fs,q⟩:=h
 cases ry
 rcases hq with hq | hq
 ·obtain ⟨its,r,pl,hz⟩:=I.list hq
  refine SeqAt.notIn_listAt (Am x) pl.isList (λw hw=>kJ rx fx r fs w (by simpa using hw)) ⟨.bl _,H,I,rfl,?_⟩
  rw [show its.toArray.any (Am x)=its.any (Am x) by simp,nL r fs]
  exact q
 ·obtain ⟨its,r,pl,hz⟩:=I.tuple hq
  refine SeqAt.notIn_tupleAt (Am x) pl (λw hw=>kJ rx fx r fs w (by simpa using hw)) ⟨.bl _,H,I,rfl,?_⟩
  rw [show its.toArray.any (Am x)=its.any (Am x) by simp,nL r fs]
  exact q
theorem wa:bS X (.builtin "len") (λxs H Q=>∃p ys,xs=[.ref p]∧(dY X.K H p ys∨f' X.K H p ys)∧Q (.int ys.length) H):=by
 intro pins s σ H xs us Q I r h
 obtain ⟨p,ys,rfl,hq,q⟩:=h
 obtain ⟨u,rfl,rx⟩:=vals1 r
 cases rx
 have hn:=mK
 rcases hq with hq | hq
 ·obtain ⟨its,r',pl,hz⟩:=I.list hq
  have hlen:=r'.length
  exact Calls.call_len_list pl.isList (by simp only [UD] <;> omega) ⟨.int ys.length,H,I.tok _,⟨s.toks + 1,by rw [UD,hlen]⟩,q⟩
 ·obtain ⟨its,r',pl,hz⟩:=I.tuple hq
  have hlen:=r'.length
  exact len_tuple pl (by simp only [UD] <;> omega) ⟨.int ys.length,H,I.tok _,⟨s.toks + 1,by rw [UD,hlen]⟩,q⟩
theorem wb:bS X (.builtin "len") (λxs H Q=>∃z,xs=[.str z]∧z.length≤sizeLine∧Q (.int z.length) H):=by
 intro pins s σ H xs us Q I r h
 obtain ⟨z,rfl,hz,q⟩:=h
 obtain ⟨u,rfl,t,rfl⟩:=vals1 r
 have hn:=mK
 exact len_str (by omega) ⟨.int z.length,H,I.tok _,⟨_,rfl⟩,q⟩
theorem bS.or {f:Value} {r r':List V→Hp→VK→Prop} (h:bS X f r) (h':bS X f r'):bS X f (λxs H Q=>r xs H Q∨r' xs H Q):=by
 intro pins s σ H xs us Q I rs q
 rcases q with q | q
 ·exact h pins s σ H xs us Q I rs q
 ·exact h' pins s σ H xs us Q I rs q
theorem wc:bS X (.type "list") (λxs H Q=>∃p ys,xs=[.ref p]∧(dY X.K H p ys∨f' X.K H p ys)∧∀l,H l=none→Q (.ref l) (upd H l (.lst ys))):=by
 intro pins s σ H xs us Q I r h
 obtain ⟨p,ys,rfl,hq,q⟩:=h
 obtain ⟨u,rfl,rx⟩:=vals1 r
 cases rx
 have fin:∀(its:List Value),Vals ys its→ys.length≤sizeLine→∀(h':Heap) (c':Nat),(∀b o',s.heap.get? b=some o'→h'.get? b=some o') →
   h'.get? s.heap.objs.size=some { cls:=.type "list",dict:=none,data:=.seq its.toArray c',slots:=#[] }→EP X pins σ Q (.ref s.heap.objs.size) { s with heap:=h' }:=λits r' hz h' c' kp e =>
  ⟨.ref s.heap.objs.size,_,I.laid (t':=s.toks) kp (UC _) (show dH X.prog X.w _ h' _ (.lst ys) from ⟨hz,its,c',r',e⟩),rfl,q _ (I.hok.fresh (UC _))⟩
 rcases hq with hq | hq
 ·obtain ⟨its,r',pl,hz⟩:=I.list hq
  have hlen:=r'.length
  obtain ⟨o,ho,hc,n,hd⟩:=pl.isList
  exact call_list_seq p (.inl rfl) ho hc hd (λh' c' kp e=>fin its r' hz h' c' kp e) (by simp only [UD] <;> omega)
 ·obtain ⟨its,r',pl,hz⟩:=I.tuple hq
  have hlen:=r'.length
  obtain ⟨o,ho,hc,n,hd⟩:=pl
  exact call_list_seq p (.inr rfl) ho hc hd (λh' c' kp e=>fin its r' hz h' c' kp e) (by simp only [UD] <;> omega)
def Rn (K:PySem.W.Frag) (T:String) (x:V) (H:Hp):Prop:=match x with
 | .str _=>T="str"
 | .int _=>T="int"
 | .ref p=>(T="list"∧∃xs,dY K H p xs)∨(T="tuple"∧∃o,K.lookup p=some o∧o.cls=.type "tuple"∧o.dict=none) ∨
   (T="dict"∧((∃kvs,H p=some (.dK kvs))∨∃kvs ep,H p=some (.dE kvs ep)))∨(T="set"∧∃S n,H p=some (.set S n))
 | _=>False
theorem HC {pins:List (Addr × Obj)} {σ:St} {H:Hp} {s:Shared} {T:String} {x:V} {v:Value} (I:Inv X pins σ H s) (r:RelV x v) (ty:Rn X.K T x H) :
  s.TypeIs v T∧∀a,v=.ref a→∃ob,s.heap.get? a=some ob∧ob.dict=none:=by
 cases x with
 | str z =>
  obtain ⟨t,rfl⟩:=r
  cases (show T="str" from ty)
  exact ⟨typeIs_str s z t,λ_ e=>nomatch e⟩
 | int i =>
  obtain ⟨t,rfl⟩:=r
  cases (show T="int" from ty)
  exact ⟨typeIs_int s i t,λ_ e=>nomatch e⟩
 | ref p =>
  cases r
  rcases ty with ⟨rfl,xs,hq⟩ | ⟨rfl,o,hk,hc,hd⟩ | ⟨rfl,hk⟩ | ⟨rfl,S,n,hk⟩
  ·obtain ⟨its,_,pl,_⟩:=I.list hq
   refine ⟨pl.isList.typeIs,λa e=>?_⟩
   cases e
   obtain ⟨o,n,e,c,hd,_⟩:=pl
   exact ⟨o,e,hd⟩
  ·refine ⟨⟨o,I.nW p o hk,hc⟩,λa e=>?_⟩
   cases e
   exact ⟨o,I.nW _ o hk,hd⟩
  ·have z:∃o,s.heap.get? p=some o∧o.ExactDict:=by
    rcases hk with ⟨kvs,hk⟩ | ⟨kvs,ep,hk⟩
    ·obtain ⟨_,_,_,_,o,_,_,e,ex,_⟩:=I.hok p _ hk
     exact ⟨o,e,ex⟩
    ·obtain ⟨_,_,_,_,o,_,e,ex,_⟩:=I.hok p _ hk
     exact ⟨o,e,ex⟩
   obtain ⟨o,e,ex⟩:=z
   refine ⟨⟨o,e,ex.1⟩,λa e2=>?_⟩
   cases e2
   exact ⟨o,e,ex.2.1⟩
  ·obtain ⟨o,_,_,_,e,ex,_⟩:=I.hok p _ hk
   refine ⟨⟨o,e,ex.1⟩,λa e2=>?_⟩
   cases e2
   exact ⟨o,e,ex.2.1⟩
 | _=>exact False.elim ty
def SQ (K:PySem.W.Frag) (T:String) (r:V→List V→Hp→VK→Prop) (to:TE):TE:=λσ H Q=>to σ H λx H1=>Rn K T x H1∧r x [] H1 Q
def SO (K:PySem.W.Frag) (T:String) (r:V→List V→Hp→VK→Prop) (to:TE) (t:TA):TE:=λσ H Q=>to σ H λx H1=>Rn K T x H1∧t σ H1 λxs H2=>r x xs H2 Q
variable {o e:Expr} {es:List Expr} {to:TE} {t:TA} {name:Str} {apos cpos:Pos} {T id:String} {r:V→List V→Hp→VK→Prop}
theorem M4 (pa:PlainAttrs T) (slot:Slot T name id) (hty:typeOf (.builtin id)=pure (.type "method_descriptor")) (hm:md X id r) (ho:PE X o to)
  (hbase:attributeBase o name X.env (eval o X.env)=eval o X.env:=by rfl) (hline:(apos.endLine == cpos.line)=true:=by rfl):PE X (.Call (.Attribute o name apos) [] [] cpos) (SQ X.K T r to):=by
 intro pins s σ H Q I h
 refine wpAny_Call_method0_late hbase hline (cM (ho pins s σ H _ I h) λv s1 ⟨x,H1,I1,r1,ty,q1⟩=>?_)
 obtain ⟨h1,h2⟩:=HC I1 r1 ty
 exact ⟨T,id,pa,slot,hty,h1,h2,Calls.callWith_builtin rfl (PySem.evalArgs_none (hm pins s1 σ H1 x [] v [] Q I1 r1 .nil q1))⟩
theorem Gq (pa:PlainAttrs T) (slot:Slot T name id) (hty:typeOf (.builtin id)=pure (.type "method_descriptor")) (hm:md X id r) (ho:PE X o to) (ha:PA X (e :: es) t)
  (hbase:attributeBase o name X.env (eval o X.env)=eval o X.env:=by rfl)
  (hfew:((backTo cpos (starEach (e :: es) X.env)).all (λx=>!x.1) && (backToKw cpos (keywordEach [] X.env)).all (λx=>x.1.isSome)
   && decide ((e :: es).length + ([]:List Keyword).length + (if ([]:List Keyword).isEmpty then 0 else 1) < 30))=true:=by rfl)
  (hline:(apos.endLine == cpos.line)=true:=by rfl) (hs:starEach (e :: es) X.env=(false,eval e X.env) :: starEach es X.env:=by rfl) (hplain:(backTo cpos (starEach es X.env)).any (·.1)=false:=by rfl) :
  PE X (.Call (.Attribute o name apos) (e :: es) [] cpos) (SO X.K T r to t):=by
 intro pins s σ H Q I h
 refine wpAny_Call_method_late hbase hfew hline rfl (cM (ho pins s σ H _ I h) λv s1 ⟨x,H1,I1,r1,ty,q1⟩=>?_)
 obtain ⟨h1,h2⟩:=HC I1 r1 ty
 refine ⟨T,id,pa,slot,hty,h1,h2,?_⟩
 have hA:=ha cpos pins s1 σ H1 _ I1 q1
 rw [hs] at hA ⊢
 refine Calls.callWith_builtin (by show (false || (backTo cpos (starEach es X.env)).any (·.1))=false;rw [hplain] <;> rfl) (Calls.evalArgs_plain ?_)
 exact cM hA λus s2 ⟨vs,H2,I2,r2,q2⟩=>hm pins s2 σ H2 x vs v us Q I2 r1 r2 q2
end
end L2
namespace L2
open PySem PySem.Spec PyProof.Rows
def Tv (X:Cx) (id:String) (r:V→List V→Hp→VK→Prop):Prop :=
 ∀(pins:List (Addr × Obj)) (s:Shared) (σ:St) (H:Hp) (x:V) (xs:List V) (v:Value) (us:List Value) (Q:VK),Inv X pins σ H s→RelV x v→Vals xs us→r x xs H Q →
  wpAny (model X.prog X.w) X.A (call (.builtin id) (v :: us)) (EP X pins σ Q) X.xe s
theorem Vals.one {x:V} {us:List Value} (r:Vals [x] us):∃u,us=[u]∧RelV x u:=vals1 r
theorem Vals.two {x y:V} {us:List Value} (r:Vals [x,y] us):∃u v,us=[u,v]∧RelV x u∧RelV y v:=vals2 r
theorem Vals.zero:∀{us:List Value},Vals [] us→us=[]
 | _,.nil=>rfl
theorem Vals.dropLast {xs:List V} {us:List Value} (h:Vals xs us):Vals xs.dropLast us.dropLast:=by
 induction h with
 | nil=>exact .nil
 | cons r t ih =>
  cases t with
  | nil=>exact .nil
  | cons q t'=>exact .cons r ih
theorem Vals.eraseIdx:∀{xs:List V} {us:List Value} (i:Nat),Vals xs us→Vals (xs.eraseIdx i) (us.eraseIdx i)
 | _,_,_,.nil=>.nil
 | _,_,0,.cons _ t=>t
 | _,_,i + 1,.cons r t=>.cons r (Vals.eraseIdx i t)
theorem An {α:Type} (l:List α):l.eraseIdx (l.length - 1)=l.dropLast:=by
 induction l with
 | nil=>rfl
 | cons a r ih =>
  cases r with
  | nil=>rfl
  | cons b r =>
   have e:(a :: b :: r).length - 1=((b :: r).length - 1) + 1:=by
    have h1:(a :: b :: r).length=r.length + 2:=rfl
    have h2:(b :: r).length=r.length + 1:=rfl
    omega
   rw [e,Wg,ih]
   all_goals rfl
section
variable {X:Cx} {pins:List (Addr × Obj)} {σ:St} {H:Hp} {s:Shared} {l b:Addr} {xs ys zs:List V}
theorem Inv.IJ {its its':List Value} {n:Nat} {f:Array Value→Array Value} {t':Nat} (I:Inv X pins σ H s) (hH:H l=some (.lst xs))
  (e:s.heap.get? l=some { cls:=.type "list",data:=.seq its.toArray n }) (hf:f its.toArray=its'.toArray) (hv:Vals ys its') (hz:ys.length≤sizeLine) :
  Inv X pins σ (upd H l (.lst ys)) { s with heap:=s.heap.update l (Obj.mapSeq f),toks:=t' }:=by
 have q:=PySem.IsL.update e f
 rw [hf] at q
 refine I.write (x:=l) (e:=l) (by rw [hH];exact trivial) (.inl rfl) (λb' u hb hu=>(Heap.get?_update_other s.heap (Obj.mapSeq f) (Ne.symm hb)).trans hu) ⟨_,q⟩ ?_
 exact ⟨hz,its',_,hv,q⟩
theorem Inv.fresh (I:Inv X pins σ H s):H s.heap.objs.size=none:=I.hok.fresh (UC _)
theorem Inv.IK (I:Inv X pins σ H s) (hH:H l=some (.lst xs)):xs.length≤sizeLine∧∃(its:List Value) (n:Nat),Vals xs its∧xs.length=its.length∧s.heap.get? l=some { cls:=.type "list",data:=.seq its.toArray n }:=by
 obtain ⟨z,its,n,r,e⟩:=I.hok l _ hH
 exact ⟨z,its,n,r,r.length,e⟩
end
section
variable {X:Cx}
def JC:V→List V→Hp→VK→Prop:=λx vs H Q=>∃l xs y,x=.ref l∧vs=[y]∧H l=some (.lst xs)∧xs.length < sizeLine∧Q .non (upd H l (.lst (xs ++ [y])))
theorem vn:Tv X "list.append" JC:=by
 intro pins s σ H x vs v us Q I rx rv h
 obtain ⟨l,xs,y,rfl,rfl,hH,hz,q⟩:=h
 cases rx
 obtain ⟨u,rfl,ru⟩:=rv.one
 obtain ⟨z,its,n,r,hl,e⟩:=I.IK hH
 refine call_meets F.slot_list_append ⟨_,e,rfl⟩ F.entry_list_append (F.args_list_append_2 _ _) (PySem.list_append l its.toArray n u (by rw [UD];omega)) ⟨e,?_⟩
 refine ⟨.non,_,I.IJ (its':=its ++ [u]) hH e (by simp) (r.append (.cons ru .nil)) ?_,rfl,q⟩
 rw [UR,List.length_singleton]
 omega
def SG:V→List V→Hp→VK→Prop:=λx vs H Q=>∃l xs y,x=.ref l∧vs=[]∧H l=some (.lst xs)∧xs[xs.length - 1]?=some y∧Q y (upd H l (.lst xs.dropLast))
theorem MH:Tv X "list.pop" SG:=by
 intro pins s σ H x vs v us Q I rx rv h
 obtain ⟨l,xs,y,rfl,rfl,hH,hy,q⟩:=h
 cases rx
 have hus:=rv.zero
 subst hus
 obtain ⟨z,its,n,r,hl,e⟩:=I.IK hH
 obtain ⟨u,hu,ru⟩:=r.get hy
 have hy':its.toArray[its.toArray.size - 1]?=some u:=by
  show its.toArray[its.length - 1]?=some u
  rw [← Array.getElem?_toList,← hl]
  exact hu
 refine call_meets F.slot_list_pop ⟨_,e,rfl⟩ F.entry_list_pop (F.args_list_pop_1 _) (MeetsSeq.list_pop_last l its.toArray n u hy' (by rw [UD];omega)) ⟨e,?_⟩
 refine ⟨y,_,I.IJ (its':=its.dropLast) hH e ?_ r.dropLast ?_,ru,q⟩
 ·show its.toArray.eraseIdxIfInBounds (its.toArray.size - 1)=its.dropLast.toArray
  rw [UD,VW,An]
 ·rw [List.length_dropLast]
  omega
end
section
variable {prog:Program} {w:World} {A:Around} {E:Value→Shared→Prop} {s:Shared}
end
section
variable {X:Cx}
end
end L2
namespace Att
open PySem PySem.W PySem.Calls PyProof.Rows
theorem qB {P:Params} {h:Heap}:∀(ns:List Int) (vs:List Value),WellAll P h vs (ns.map WData.int)→IntsAre vs ns:=by
 intro ns
 induction ns with
 | nil =>
  intro vs w
  rw [Va] at w
  cases w
  exact .nil
 | cons n ns ih =>
  intro vs w
  rw [UA] at w
  cases w with
  | cons a b =>
   cases a
   exact .cons _ _ (ih _ b)
theorem Et {l:OpenLaw} {n:Nat} (hn:l.most=some n) {P:Params} {h:Heap} {args:List WData} {vals:List Value}
  (hpre:l.row.toRowW.claim.pre args=true) (hwl:WellAll P h vals args) :
  ∃a vs ns,vals=[Value.ref a]∧args=[WData.list (ns.map WData.int)]∧h.get? a=some { cls:=.type "list",data:=.seq vs.toArray }∧IntsAre vs ns∧ns.length≤n:=by
 have hsh:WShape.hasAll [] args [.list .int]=true:=(pre_splitW hpre).1
 have hc:l.pre.holds [] { args:=args }=true:=(pre_splitW hpre).2
 obtain ⟨d,r,rfl,h1,h2⟩:=hasAllW_cons hsh
 obtain rfl:=hasAllW_nil h2
 obtain ⟨xs,rfl,h3⟩:=hasW_list h1
 obtain ⟨ns,rfl⟩:=items_int h3
 have hlen:ns.length≤n:=by
  unfold OpenLaw.pre at hc
  have h4:(WTm.not (.lt (.lit (.int (n:Int))) (.len (.arg 0)))).holds [] { args:=[.list (ns.map .int)] }=true:=by
   have h4:=(holds_andW hc).1
   rw [hn] at h4
   exact h4
  have h5:=condW_of h4 (w_not (w_lt w_lit (w_len_list (w_arg rfl))))
  rw [Us] at h5
  refine Nat.le_of_not_lt λq=>?_
  have q':(n:Int) < ((ns.length:Nat):Int):=by omega
  first
   | (rw [decide_eq_true q'] at h5;exact absurd h5 (by decide))
   | (simp at h5;omega)
 cases hwl with
 | cons w1 w2 =>
  cases w2
  cases w1 with
  | list ho hall=>exact ⟨_,_,ns,rfl,rfl,ho,qB ns _ hall,hlen⟩
theorem El (l:OpenLaw) (args:List WData):l.row.toRowW.claim.post args (.bool true) args=true :=
 postW_of (r:=l.row.toRowW) (X:=(true == true))
  (show WShape.has [] (.bool true) .bool=true by first | rfl | decide | simp [WShape.has,WShape.arms,WShape.armsAll])
  (show (WTm.eq .res (.lit (.bool true))).value [] { args:=args,res:=some (.bool true),after:=args }=some (.bool (true == true)) from w_eq_bool (w_res rfl) w_lit) rfl
theorem yy {l:OpenLaw} {n:Nat} {q:Program} {loose:List Str} {XP:(Str→Option Value)→Heap→Prop} {YP:World→Heap→Prop} {d:DefRec}
  (hn:l.most=some n) (hdf:d.params.defaults=[])
  (call:∀(w:World) (s₀ s₁:Shared) (mg mb:Str→Option Value) (fa:Addr) (o:Obj) (pm cd doc:Value) (a:Addr) (vs:List Value) (ns:List Int),
   Ground q loose [] XP w s₀ mg mb s₁.heap→YP w s₁.heap →
   s₁.heap.get? fa=some o→o.data=.func (docDef d.name d.params d.body d.scope pm cd doc)→s₁.heap.CodeRec cd d.name→mg d.name=some (.ref fa) →
   s₁.heap.get? a=some { cls:=.type "list",data:=.seq vs.toArray }→IntsAre vs ns→ns.length≤n→s₁.gens=#[] →
   codeAny (model l.prog w) callerA (.call (.ref fa) ⟨[.ref a],[]⟩) (λr s'=>r=.ok (.ret (.bool true))∧OldK s₁.heap s'.heap∧s'.os=s₁.os∧AllBare s'.gens) s₁) :
  WalkO q loose XP YP l.row.toRowW d [] (λf vs=>PySem.call f vs):=by
 intro w s₀ s₁ mg mb G Y fa o pm cd doc dV kV ho hd hcd hD hmg hg args vals as hpre hlay hrd hwl hlo
 obtain rfl:dV=.none:=Dflts.none hD hdf
 obtain rfl:kV=.none:=Dflts.noKw hD
 obtain ⟨a,vs,ns,rfl,rfl,hobj,hints,hlen⟩:=Et hn hpre hwl
 refine enter_call (codeAny_mono (call w s₀ s₁ mg mb fa o pm cd doc a vs ns G Y ho (fd_plain hd) hcd hmg hobj hints hlen hg) λr s' hq=>?_)
 obtain ⟨rfl,h2,h3,h4⟩:=hq
 exact ⟨.inl ⟨.bool true,.bool true,[],rfl,λ_=>rfl,.bool true,El l _,λ_=>⟨List.Pairwise.nil,λ_ hm=>(nomatch hm)⟩⟩,h2,h3,h4⟩
section
variable {prog:Program} {w:World} {A:Around} {E:Value→Shared→Prop} {s:Shared} {K:Frag}
end
end Att
namespace L2
open PySem PySem.Spec PyProof.Rows
theorem vL:∀{vs:List Value} {ns:List Int},IntsAre vs ns→Vals (ns.map V.int) vs
 | _,_,.nil=>.nil
 | _,_,.cons n t h=>.cons ⟨t,rfl⟩ (vL h)
end L2
namespace L2
open PySem PySem.Spec PyProof.Rows
abbrev qv {K:PySem.W.Frag} {h:Heap} (_:K.In h):PySem.W.Frag:=K
end L2
namespace L2
open PySem PySem.Spec PyProof.Rows
def inClass (s:Stmt) (j:Nat):Stmt:=match s with
 | .ClassDef _ _ _ body _ _ _ _ _ _ _=>body.getD j (.Pass ⟨0,0,0,0⟩)
 | _=>.Pass ⟨0,0,0,0⟩
def dZ (s:Stmt):Arguments:=match s with
 | .FunctionDef _ a _ _ _ _ _ _ _ _=>a
 | _=>{ posonlyargs:=[],args:=[],vararg:=none,kwonlyargs:=[],kw_defaults:=[],kwarg:=none,defaults:=[] }
def cg (s:Stmt):List Stmt:=match s with
 | .FunctionDef _ _ b _ _ _ _ _ _ _=>b
 | _=>[]
def au (s:Stmt):Scope:=match s with
 | .FunctionDef _ _ _ _ _ _ sc _ _ _=>sc
 | _=>{ kind:=.function,names:=[],isGenerator:=false,isCoroutine:=false }
abbrev N8:nA:=λ_ _ _ _ _ _=>False
abbrev E0:XK:=λ_ _ _=>False
structure bU (K:PySem.W.Frag) (x qual:Str) (st:Stmt) (f:Addr) (fd:FuncData):Prop where
 ex:∃(oc:Value) (od:Option Addr) (kV doc pm:Value) (an:Option Addr) (cdv ct:Value) (osl:Array (Option Value)),
  fd=PySem.W.fnOf x qual (dZ st) (cg st) (au st) .none kV doc pm an cdv ct∧K.lookup f=some ⟨oc,od,.func fd,osl⟩∧PySem.W.codeIn K cdv qual=true
 kp:PySem.W.keepIn K (.ref f)=true
section
variable {P:Program} {w:World} {K:PySem.W.Frag} {mg:Str→Option Value} {base:Heap}
theorem bU.ok {x qual:Str} {st:Stmt} {f:Addr} {fd:FuncData} {N ps:List Str} {k:Nat} {sp:Sp} (F:bU K x qual st f fd) (S:aw N ps (au st)) (len:∀vs H Q E,sp vs H Q E→vs.length=ps.length)
  (hbody:∀(cdv:Value) (A:Around) (outer:List Env) (s:Shared) (H:Hp) (vs:List V) (Q:VK) (E:XK),bR k (A.deeper (envOfC qual (au st) s.heap.objs.size f cdv))→sp vs H Q E →
   ∃t,yu (Ak N8 P w K mg base N qual (au st) f cdv A outer s H E).Rf (cg st) t∧t { nx:=λ_ H'=>Q .non H',rt:=Q } (start N vs) H):aS P w K mg base N8 (k + 1) f fd ps sp:=by
 obtain ⟨oc,od,kV,doc,pm,an,cdv,ct,osl,rfl,lk,hcd⟩:=F.ex
 refine Fd lk hcd S len λA outer s H vs Q E hr hsp=>?_
 obtain ⟨t,h,q⟩:=hbody cdv A outer s H vs Q E hr hsp
 exact ⟨t,h.Rf,q⟩
theorem bU.binds {x qual:Str} {st:Stmt} {f:Addr} {fd:FuncData} {ps:List Str} (F:bU K x qual st f fd)
  (h:∀(kV doc pm:Value) (an:Option Addr) (cdv ct:Value) (us:List Value),us.length=ps.length→bindArgs (PySem.W.fnOf x qual (dZ st) (cg st) (au st) .none kV doc pm an cdv ct) ⟨us,[]⟩=pure (ps.zip us)):Binds K fd ps []:=by
 obtain ⟨oc,od,kV,doc,pm,an,cdv,ct,osl,rfl,lk,hcd⟩:=F.ex
 exact .all (h kV doc pm an cdv ct)
theorem Ap {x qual:Str} {st:Stmt} {f:Addr} {oc:Value} {od an:Option Addr} {osl:Array (Option Value)} {kV doc pm cdv ct:Value} (l:K.lookup f=some ⟨oc,od,.func (PySem.W.fnOf x qual (dZ st) (cg st) (au st) .none kV doc pm an cdv ct),osl⟩)
  (c:PySem.W.codeIn K cdv qual=true) (k:PySem.W.keepIn K (.ref f)=true):bU K x qual st f (PySem.W.fnOf x qual (dZ st) (cg st) (au st) .none kV doc pm an cdv ct):=⟨⟨oc,od,kV,doc,pm,an,cdv,ct,osl,rfl,l,c⟩,k⟩
end
theorem a7 {n:Nat} (h:n≤1000):n < sizeLine:=Vi h (by decide)
section
variable {X:Cx}
end
def cA (H H':Hp):Prop:=∀b o,H b=some o→H' b=some o
theorem cA.trans {H H1 H2:Hp} (a:cA H H1) (b:cA H1 H2):cA H H2:=λc o h=>b c o (a c o h)
theorem cA.free {H H':Hp} (e:cA H H') {l:Addr} (h:H' l=Option.none):H l=Option.none:=by
 cases q:H l with
 | none=>rfl
 | some o =>
  rw [e l o q] at h
  cases h
theorem cA.seq {K:PySem.W.Frag} {H H':Hp} {a:Addr} {xs:List V} (e:cA H H') (h:dY K H a xs):dY K H' a xs:=by
 rcases h with (h | ⟨o,h⟩) | h
 ·exact .inl (.inl (e _ _ h))
 ·exact .inl (.inr ⟨o,e _ _ h⟩)
 ·exact .inr h
end L2
namespace Ov
theorem yI {a b:Int} (h:b≠0):Int.gcd b (a % b)=Int.gcd a b:=by
 have e:a=b * (a / b) + a % b:=(Int.mul_ediv_add_emod a b).symm
 have d1:((Int.gcd b (a % b):Nat):Int) ∣ a:=by
  rw [e]
  exact Int.dvd_add (Int.dvd_trans (Int.gcd_dvd_left ..) (Int.dvd_mul_right ..)) (by rw [← e];exact Int.gcd_dvd_right ..)
 have d2:((Int.gcd a b:Nat):Int) ∣ a % b:=by
  have e2:a % b=a - b * (a / b):=by omega
  rw [e2]
  exact Int.dvd_sub (Int.gcd_dvd_left ..) (Int.dvd_trans (Int.gcd_dvd_right ..) (Int.dvd_mul_right ..))
 exact Nat.dvd_antisymm (Int.dvd_gcd d1 (Int.gcd_dvd_left ..)) (Int.dvd_gcd (Int.gcd_dvd_right ..) d2)
theorem B3 {a:Int} (h:0≤a):((Int.gcd a 0:Nat):Int)=a:=by
 rw [Int.gcd_zero_right];omega
theorem IA (a b:Int):Int.gcd (if a < 0 then -a else a) (if b < 0 then -b else b)=Int.gcd a b:=by
 split <;> split <;> simp [Int.gcd_neg,Int.neg_gcd]
theorem Fj (a b:Int):Int.gcd (if a < 0 then -a else a) b=Int.gcd a b:=by
 split <;> simp [Int.gcd_neg,Int.neg_gcd]
theorem B4 {t b:Int} (h:b≠0):0 < ((Int.gcd t b:Nat):Int):=by
 have:0 < Int.gcd t b:=Int.gcd_pos_of_ne_zero_right t h
 omega
theorem Ml {t b:Int} (h:b≠0):Int.gcd t b≤b.natAbs:=Nat.le_of_dvd (by omega) (Int.ofNat_dvd.mp (by rw [Int.dvd_natAbs];exact Int.gcd_dvd_right ..))
theorem wA {t b:Int} (h:0 < b):t.fdiv ((Int.gcd t b:Nat):Int)=(Rat.divInt t b).num:=by
 rw [Rat.num_divInt,Int.sign_eq_one_of_pos h,Int.one_mul,Int.gcd_comm b t,Int.fdiv_eq_ediv_of_nonneg _ (Int.natCast_nonneg _)]
theorem den_pos {t b:Int} (h:0 < b):b.fdiv ((Int.gcd t b:Nat):Int)=((Rat.divInt t b).den:Int):=by
 rw [Rat.den_divInt,if_neg (by omega),Int.gcd_comm b t,Int.fdiv_eq_ediv_of_nonneg _ (Int.natCast_nonneg _)]
 rw [Int.natCast_ediv]
 congr 1
 omega
theorem Ci {t b:Int} (h:b < 0):t.fdiv (-((Int.gcd t b:Nat):Int))=(Rat.divInt t b).num:=by
 have e:t.fdiv (-((Int.gcd t b:Nat):Int))=(-t).fdiv ((Int.gcd t b:Nat):Int):=by
  have:=Int.neg_fdiv_neg (a:=-t) (b:=((Int.gcd t b:Nat):Int))
  rw [← this];simp
 rw [e,Rat.num_divInt,Int.sign_eq_neg_one_of_neg h,Int.gcd_comm b t,Int.fdiv_eq_ediv_of_nonneg _ (Int.natCast_nonneg _)]
 congr 1
 omega
theorem Iv {t b:Int} (h:b < 0):b.fdiv (-((Int.gcd t b:Nat):Int))=((Rat.divInt t b).den:Int):=by
 have e:b.fdiv (-((Int.gcd t b:Nat):Int))=(-b).fdiv ((Int.gcd t b:Nat):Int):=by
  have:=Int.neg_fdiv_neg (a:=-b) (b:=((Int.gcd t b:Nat):Int))
  rw [← this];simp
 rw [e,Rat.den_divInt,if_neg (by omega),Int.gcd_comm b t,Int.fdiv_eq_ediv_of_nonneg _ (Int.natCast_nonneg _)]
 rw [Int.natCast_ediv]
 congr 1
 omega
theorem Cg (t b:Int):(Rat.divInt t b).num.natAbs≤t.natAbs:=by
 rcases Int.lt_trichotomy b 0 with h | h | h
 ·rw [← Ci h]
  exact Int.natAbs_fdiv_le_natAbs ..
 ·subst h;simp
 ·rw [← wA h,Int.fdiv_eq_ediv_of_nonneg _ (Int.natCast_nonneg _)]
  exact Int.natAbs_ediv_le_natAbs ..
theorem wg {t b:Int} (h:b≠0):(((Rat.divInt t b).den:Int)).natAbs≤b.natAbs:=by
 rw [Rat.den_divInt,if_neg h]
 exact Nat.div_le_self ..
theorem lW (p:Rat):Rat.divInt p.num p.den=p:=Rat.num_divInt_den p
theorem eV (p:Rat):(p.den:Int)≠0:=by have:=p.den_pos;omega
theorem cP (p:Rat):(0:Int) < p.den:=by have:=p.den_pos;omega
theorem add_eq (p q:Rat):Rat.divInt (p.num * q.den + q.num * p.den) (p.den * q.den)=p + q:=by
 rw [← Rat.divInt_add_divInt _ _ (eV p) (eV q),lW,lW]
theorem sub_eq (p q:Rat):Rat.divInt (p.num * q.den - q.num * p.den) (p.den * q.den)=p - q:=by
 rw [← Rat.divInt_sub_divInt _ _ (eV p) (eV q),lW,lW]
theorem mul_eq (p:Rat) (m:Int):Rat.divInt (p.num * m) p.den=p * m:=by
 have:=Rat.divInt_mul_divInt p.num m (d₁:=p.den) (d₂:=1)
 rw [lW,Int.mul_one] at this
 rw [← this,Rat.divInt_eq_div]
 congr 1
 grind
theorem cast_eq (p:Rat):(p.num:Rat)=p * (p.den:Int):=by
 have h:((p.den:Int):Rat)≠0:=by
  intro e
  exact eV p (by exact_mod_cast e)
 have e:=lW p
 rw [Rat.divInt_eq_div] at e
 grind
theorem dJ (p:Rat):((p.den:Int):Rat)≠0:=λe=>eV p (by exact_mod_cast e)
theorem OM (b p m:Rat) (v:Int):Rat.divInt (p.num * (m.den * b.den) + v * (m.num * b.den - b.num * m.den) * p.den) (p.den * (m.den * b.den))=p + (m - b) * v:=by
 have h:=dJ p
 have g:=dJ b
 have k:=dJ m
 simp only [Rat.divInt_eq_div,Rat.intCast_add,Rat.intCast_sub,Rat.intCast_mul,cast_eq p,cast_eq b,cast_eq m]
 generalize ((p.den:Int):Rat)=d at h ⊢
 generalize ((b.den:Int):Rat)=e at g ⊢
 generalize ((m.den:Int):Rat)=f at k ⊢
 generalize (v:Rat)=v
 grind
theorem df {n:Int} (h:n≠0):(n:Rat)≠0:=λe=>h (by exact_mod_cast e)
theorem Nh (g:Rat) (n:Int) (h:n≠0):Rat.divInt g.num (g.den * n)=g / n:=by
 have k:=dJ g
 have l:=df h
 simp only [Rat.divInt_eq_div,Rat.intCast_mul,cast_eq g]
 generalize ((g.den:Int):Rat)=d at k ⊢
 generalize (n:Rat)=n at l ⊢
 grind
end Ov
namespace Ov
open PySem PySem.Spec PyProof.Rows L2
structure Bd (n:Nat) (x:Int):Prop where
 lt:x.natAbs < 2 ^ n
theorem Bd.bits {n:Nat} {x:Int} (h:Bd n x):Builtin.Int.intBits x≤n:=intBits_le_iff.mpr h.lt
theorem Bd.of {n:Nat} {x:Int} (h:Builtin.Int.intBits x≤n):Bd n x:=⟨intBits_le_iff.mp h⟩
theorem Bd.mono {m n:Nat} {x:Int} (h:Bd m x) (hmn:m≤n):Bd n x:=.of (UM h.bits hmn)
theorem Bd.neg {n:Nat} {x:Int} (h:Bd n x):Bd n (-x):=.of (intBits_neg_le h.bits)
theorem Bd.add {m n k:Nat} {x y:Int} (h:Bd m x) (g:Bd n y) (hk:max m n + 1≤k:=by decide):Bd k (x + y):=(Bd.of (intBits_add_le h.bits g.bits)).mono hk
theorem Bd.sub {m n k:Nat} {x y:Int} (h:Bd m x) (g:Bd n y) (hk:max m n + 1≤k:=by decide):Bd k (x - y):=(Bd.of (intBits_sub_le h.bits g.bits)).mono hk
theorem Bd.mul {m n k:Nat} {x y:Int} (h:Bd m x) (g:Bd n y) (hk:m + n≤k:=by decide):Bd k (x * y):=(Bd.of (intBits_mul_le h.bits g.bits)).mono hk
theorem Bd.le {n:Nat} {x y:Int} (g:Bd n y) (h:x.natAbs≤y.natAbs):Bd n x:=⟨Vi h g.lt⟩
theorem Bd.small {x:Int} (h1:-(2 ^ 64) < x) (h2:x < 2 ^ 64):Bd 64 x:=.of (intBits_le_64 h1 h2)
theorem Bd.log {n:Nat} {x:Int} (h:Bd n x) (hn:n≤9000) (h0:x≠0):x.natAbs.log2 < 9000 :=
 UJ ((Nat.log2_lt (by omega)).mpr h.lt) hn
section
variable {X:Cx}
def CM (i j:Int):Prop:=∃m n,Bd m i∧Bd n j∧m + n≤134217728
theorem CM.of {m n:Nat} {i j:Int} (h:Bd m i) (g:Bd n j) (hk:m + n≤134217728:=by decide):CM i j:=⟨m,n,h,g,hk⟩
theorem Ji:fw X (binaryOp .Mult) (rI CM λi j=>.int (i * j)):=Rh λ_ _ _ _ _ _ _ hc q=>by
 obtain ⟨m,n,h,g,hk⟩:=hc
 exact mul_int q (IntMulOk.of_le h.bits g.bits hk)
def CQ (_ j:Int):Prop:=j≠0∧Bd 9000 j
theorem Gh:fw X (binaryOp .FloorDiv) (rI CQ λi j=>.int (i.fdiv j)):=Rh λ_ _ _ _ _ _ _ hc q =>
 floordiv_int hc.1 q (.inl (PyProof.noPylong_of_log2 (hc.2.log (UC _) hc.1)))
end
section
variable {X:Cx}
end
theorem de {α:Type} (x:α) (xs:List α):c4 (x :: xs) 0=some x:=bP (j:=0) rfl
theorem fU {α:Type} (x y:α) (xs:List α):c4 (x :: y :: xs) 1=some y:=bP (j:=1) rfl
theorem j_ {α:Type} (x y z:α) (xs:List α):c4 (x :: y :: z :: xs) 2=some z:=bP (j:=2) rfl
theorem Kl {α:Type} (x y z u:α) (xs:List α):c4 (x :: y :: z :: u :: xs) 3=some u:=bP (j:=3) rfl
theorem dt {N P:List Str} {sc:Scope} (a:sc.kind=.function:=by rfl) (b:sc.isCoroutine=false:=by rfl) (c:sc.isGenerator=false:=by rfl) (d:N.Nodup:=by decide +kernel) (e:N.take P.length=P:=by rfl) (f:∀x∈P,sc.names.lookup x=some .local∨sc.names.lookup x=some .cell:=by decide +kernel) (g:∀y∈sc.names,y.2≠.free:=by decide +kernel):aw N P sc:=⟨a,b,c,d,e,f,g⟩
def Def (K:PySem.W.Frag) (mg:Str→Option Value) (x:Str) (st:Stmt):Prop:=∃f fd,bU K x x st f fd∧mg x=some (.ref f)
theorem Ma {K:PySem.W.Frag} {h:Heap} {mg:Str→Option Value} {x:Str} {st:Stmt} (X:K.In h) (G:h.Ns mainGlobals mg) {f:Addr} {od an:Option Addr} {sl:Array (Option Value)} {oc kV dc pm cd ct:Value}
  (a:PySem.W.nsIn K mainGlobals x=some (some (.ref f))) (l:K.lookup f=some ⟨oc,od,.func (PySem.W.fnOf x x (dZ st) (cg st) (au st) .none kV dc pm an cd ct),sl⟩) (c:PySem.W.codeIn K cd x=true) (k:PySem.W.keepIn K (.ref f)=true) :
  Def K mg x st:=⟨f,_,Ap l c k,PySem.W.mg_of X G a⟩
theorem Mx {K:PySem.W.Frag} {mg:Str→Option Value} {st:Stmt} {fa:Addr} {p:Str} (D:Def K mg "law" st) (hfa:mg "law"=some (.ref fa))
  (hb:∀(kV doc pm:Value) (an:Option Addr) (cdv ct:Value) (u:Value),bindArgs (PySem.W.fnOf "law" "law" (dZ st) (cg st) (au st) .none kV doc pm an cdv ct) ⟨[u],[]⟩=pure [(p,u)]) :
  ∃fd,bU K "law" "law" st fa fd∧∀(s:Shared) (u:Value),BindsTo s fd ⟨[u],[]⟩ [(p,u)]:=by
 obtain ⟨f,fd,F,m⟩:=D
 have e:=m.symm.trans hfa
 cases e
 obtain ⟨oc,od,kV,doc,pm,an,cdv,ct,osl,rfl,lk,hcd⟩:=F.ex
 exact ⟨_,F,λs u=>.of_eq (hb kV doc pm an cdv ct u)⟩
structure To (mg:Str→Option Value):Prop where
 abs:mg "abs"=none
 len:mg "len"=none
 isinstance:mg "isinstance"=none
 range:mg "range"=none
 int:mg "int"=none
 bool:mg "bool"=none
 tuple:mg "tuple"=none
 list:mg "list"=none
 sorted:mg "sorted"=none
 all:mg "all"=none
theorem _root_.L2.cA.tup {K:PySem.W.Frag} {H H':Hp} {a:Addr} {xs:List V} (e:cA H H') (h:f' K H a xs):f' K H' a xs:=by
 rcases h with (h | ⟨o,h⟩) | h
 ·exact .inl (.inl (e _ _ h))
 ·exact .inl (.inr ⟨o,e _ _ h⟩)
 ·exact .inr h
theorem _root_.L2.cA.new {H:Hp} {p:Addr} (h:H p=none) (o:HO):cA H (upd H p o):=λb u q=>by rw [aW (fJ q h)];exact q
def Ur (K:PySem.W.Frag) (H:Hp) (a:Addr) (q:Rat):Prop:=f' K H a [.int q.num,.int q.den]
structure Sz (n:Nat) (q:Rat):Prop where
 num:Bd n q.num
 den:Bd n q.den
theorem Sz.mono {m n:Nat} {q:Rat} (h:Sz m q) (k:m≤n):Sz n q:=⟨h.num.mono k,h.den.mono k⟩
theorem JK (x y:Rat):(x.num=y.num∧(x.den:Int)=(y.den:Int))=(x=y):=propext
 ⟨λh=>Rat.ext h.1 (by have:=h.2;omega),λh=>by subst h;exact ⟨rfl,rfl⟩⟩
theorem kA (c:Str→NameKind→Bool):∀(names:List (Str × NameKind)) (y:Str),
  (names.map λ(x:Str × NameKind)=>if c x.1 x.2 then (x.1,NameKind.cell) else (x.1,x.2)).lookup y=(names.lookup y).map λk=>if c y k then NameKind.cell else k
 | [],_=>rfl
 | (n,k) :: r,y=>by
  have ih:=kA c r y
  cases hy:y == n with
  | true =>
   have e:y=n:=by simpa using hy
   subst e
   by_cases h:c y k=true <;> simp [U4,h]
  | false =>
   by_cases h:c n k=true <;> simp [U4,h,hy,ih]
theorem k4 (sc:Scope) (env:Env) (y:Str):(relabel sc env).names.lookup y=(sc.names.lookup y).map λk=>if (k == .free && env.scope.kind == .function && env.kindOf y == some .cell) then NameKind.cell else k:=by
 have h:=kA (λn k=>k == .free && env.scope.kind == .function && env.kindOf n == some .cell) sc.names y
 exact h
theorem mG {env:Env}:∀(names:List (Str × NameKind)) (acc:List (Str × Addr)),(∀y∈names,y.2=.free→∃c,env.cells.lookup y.1=some c)→(∀y c,acc.lookup y=some c→env.cells.lookup y=some c) →
  ∃cl,(forIn names acc λ(x:Str × NameKind) (r:List (Str × Addr))=>match x with
   | (name,kind)=>if (kind == NameKind.free)=true then (do let c ← cellOf env name;pure (ForInStep.yield ((name,c) :: r))) else (pure (ForInStep.yield r):Sem (ForInStep (List (Str × Addr)))))=(pure cl:Sem (List (Str × Addr))) ∧
   (∀y c,cl.lookup y=some c→env.cells.lookup y=some c)∧(∀y c,acc.lookup y=some c→∃c,cl.lookup y=some c)∧∀y∈names,y.2=.free→∃c,cl.lookup y.1=some c
 | [],acc,_,ha=>⟨acc,rfl,ha,λy c e=>⟨c,e⟩,λy hy=>by cases hy⟩
 | (n,k) :: r,acc,hn,ha=>by
  by_cases hk:k=.free
  ·subst hk
   obtain ⟨c,hc⟩:=hn (n,.free) UY rfl
   obtain ⟨cl,e,h1,h2,h3⟩:=mG r ((n,c) :: acc) (λy hy=>hn y (US _ hy)) (λy d e=>by
    rw [U4] at e
    cases hy:y == n with
    | true =>
     rw [hy] at e
     have e1:y=n:=by simpa using hy
     subst e1
     rw [hc]
     exact e
    | false=>rw [hy] at e;exact ha y d e)
   have self:∃d,cl.lookup n=some d:=h2 n c (by simp [U4])
   refine ⟨cl,?_,h1,λy d q=>?_,λy hy hf=>?_⟩
   ·rw [WK]
    have ec:cellOf env n=pure c:=by unfold cellOf;rw [hc]
    simp only [beq_self_eq_true,if_true,ec,pure_bind]
    exact e
   ·by_cases hy:y=n
    ·subst hy;exact self
    ·exact h2 y d (by rw [List.lookup_cons];have:(y == n)=false:=by simpa using hy
                      rw [this];exact q)
   ·rcases UH.mp hy with rfl | hy
    ·exact self
    ·exact h3 y hy hf
  ·obtain ⟨cl,e,h1,h2,h3⟩:=mG r acc (λy hy=>hn y (US _ hy)) ha
   refine ⟨cl,?_,h1,h2,λy hy hf=>?_⟩
   ·rw [WK]
    have hb:(k == NameKind.free)=false:=by simpa using hk
    simp only [hb,UL,if_false,pure_bind]
    exact e
   ·rcases UH.mp hy with rfl | hy
    ·exact absurd hf hk
    ·exact h3 y hy hf
theorem jx {sc:Scope} {env:Env} (h:∀y∈sc.names,y.2=.free→∃c,env.cells.lookup y.1=some c) :
  ∃cl,closureFor sc env=pure cl∧(∀y c,cl.lookup y=some c→env.cells.lookup y=some c)∧∀y∈sc.names,y.2=.free→∃c,cl.lookup y.1=some c:=by
 obtain ⟨cl,e,h1,_,h3⟩:=mG sc.names [] h (λy c z=>by cases z)
 refine ⟨cl,?_,h1,h3⟩
 unfold closureFor
 have e':=congrArg (λm=>m >>= λr=>(pure r:Sem (List (Str × Addr)))) e
 simp only [pure_bind] at e'
 exact e'
abbrev cX (sc osc:Scope) (N:List Str) (x:Str) (ks:List (Str × Nat)):Prop :=
 sc.kind=.function∧(∀y∈sc.names,y.2≠.cell)∧sc.names.lookup x=some .local∧(∀y∈sc.names,y.2=.local→sc.names.lookup y.1=some .local) ∧
 (∀y∈sc.names,y.2=.free→osc.names.lookup y.1=some .cell)∧(∀p∈ks,N[p.2]?=some p.1∧sc.names.lookup p.1=some .free)∧(x :: ks.map (·.1)).Nodup
def fW (X:Cx) (sc:Scope) (cl:List (Str × Addr)) (C:Addr) (x:Str) (ks:List (Str × Nat)) (s₀:Shared) (H₀:Hp) (fp:List Addr) (pins:List (Addr × Obj)):Cx :=
 { X with N:=x :: ks.map (·.1),s₀:=s₀,H₀:=H₀,env:=compEnvC sc cl C X.env,outer:=X.stack,ex:=fp,fn:=λ_=>false,pn:=X.pn ++ pins,xe:=λ_ _=>False }
def fP (ks:List (Str × Nat)) (σ:L2.St):L2.St:=ks.map λp=>(σ[p.2]?).getD none
section
variable {X:Cx} {pins:List (Addr × Obj)} {σ:L2.St} {H:Hp} {s:Shared} {sc:Scope} {cl:List (Str × Addr)} {x:Str} {ks:List (Str × Nat)} {fp:List Addr}
theorem get_map {α β:Type} (f:α→β) (l:List α) (i:Nat):(l.map f)[i]?=(l[i]?).map f:=Uw
theorem yL (I:Inv X pins σ H s) (ok:cX sc X.env.scope X.N x ks) (h1:∀y c,cl.lookup y=some c→X.env.cells.lookup y=some c) (h2:∀y∈sc.names,y.2=.free→∃c,cl.lookup y.1=some c)
  (hfp:∀b∈fp,l5 X pins H b∧∃o,s.heap.get? b=some o) {h4:Heap} {m:Str→Option Value} {t':Nat} (hn:h4.Ns s.heap.objs.size m) (kp:∀b o,s.heap.get? b=some o→h4.get? b=some o) :
  Inv (fW X sc cl s.heap.objs.size x ks s H fp pins) [] (none :: fP ks σ) H { s with heap:=h4,toks:=t' }:=by
 obtain ⟨kd,nc,lx,ll,fr,kk,nd⟩:=ok
 have fresh:H s.heap.objs.size=none:=I.hok.fresh (UC _)
 have lt:∀b o,s.heap.get? b=some o→b≠s.heap.objs.size:=λb o e=>UW (Heap.lt_size e)
 have cellLt:∀y c,X.env.cells.lookup y=some c→c≠s.heap.objs.size:=λy c e=>by
  obtain ⟨v,o,ho,_⟩:=I.cell y c e
  exact lt c o ho
 have sub:∀b∈j3 X.stack,b=X.env.locals∨b∈X.fs:=λb hb=>UH.mp (I.p5 b hb)
 have kof:∀y,(compEnvC sc cl s.heap.objs.size X.env).kindOf y=(relabel sc X.env).names.lookup y:=λy=>rfl
 have ok':(fW X sc cl s.heap.objs.size x ks s H fp pins).Ok:={
  mod:=I.ok.mod
  kind:=kd
  glob:=I.ok.glob
  blt:=I.ok.blt
  above:=UC _
  inj:=λy z c e1 e2=>I.ok.inj y z c (h1 y c e1) (h1 z c e2)
  has:=λy hy=>by
   rw [show (fW X sc cl s.heap.objs.size x ks s H fp pins).env.kindOf y=_ from kof y,k4] at hy
   cases e:sc.names.lookup y with
   | none=>rw [e] at hy;rcases hy with z | z <;> cases z
   | some k =>
    have hm:(y,k)∈sc.names:=by
     have:=Wh.mp e
     obtain ⟨l1,l2,q,_⟩:=this
     rw [q]
     simp
    by_cases hk:k=.free
    ·subst hk;exact h2 _ hm rfl
    ·have hb:(k == NameKind.free)=false:=by simpa using hk
     rw [e] at hy
     simp only [VP,hb,VZ,UL,if_false] at hy
     rcases hy with z | z
     ·exact absurd (Option.some.inj z) (nc _ hm)
     ·exact absurd (Option.some.inj z) hk
  cab:=λ_ _ z=>by cases z
  hd:=λz=>I.ok.hd z
  frames:=I.ok.frames
  stk:=.inl rfl
  exf:=λb hb=>⟨lt b _ (hfp b hb).2.choose_spec,λy c e=>(hfp b hb).1.2.2.2.2.1 y c (h1 y c e)⟩
  bs:=λb o e=>I.bs b o e
  bsz:=UM I.ok.bsz I.sz
  noex:=λb o e hb=>by
   rcases (hfp b hb).1.2.2.2.1 with z | z
   ·exact I.ok.noex b o e z
   ·exact absurd (UJ (Heap.lt_size e) (UM I.ok.bsz z)) (Vm _)
  exfs:=λb hb z=>by
   rcases sub b z with e | e
   ·exact (hfp b hb).1.2.1 e
   ·exact (hfp b hb).1.2.2.1 e
  ph:=I.stack
  frf:=I.x6 }
 obtain ⟨mX,hnX,hlX⟩:=I.loc
 refine ⟨ok',rfl,I.bare,Un.kept kp,⟨m,hn,λi y v e1 e2 e3=>?_⟩,λy c e=>?_,fresh,λy c e=>I.freeC y c (h1 y c e),λp hp=>?_,I.hok.kept kp,by simp [fW,fP]⟩
 ·cases i with
  | zero =>
   rw [VQ] at e2
   cases e2
  | succ i =>
   have e1':(ks.map (·.1))[i]?=some y:=by simpa [fW] using e1
   rw [Vv] at e2
   unfold fP at e2
   rw [Uw] at e1' e2
   cases ep:ks[i]? with
   | none=>rw [ep] at e1';cases e1'
   | some p =>
    rw [ep] at e1' e2
    have ey:p.1=y:=Option.some.inj e1'
    have ev:(σ[p.2]?).getD none=some v:=Option.some.inj e2
    obtain ⟨kN,kf⟩:=kk p (Uz ep)
    have es:σ[p.2]?=some (some v):=by
     cases q:σ[p.2]? with
     | none=>rw [q] at ev;cases ev
     | some w=>rw [q] at ev;exact congrArg some ev
    have hm:(p.1,NameKind.free)∈sc.names:=by
     obtain ⟨l1,l2,q,_⟩:=Wh.mp kf
     rw [q]
     simp
    have oc:X.env.scope.names.lookup p.1=some .cell:=fr _ hm rfl
    obtain ⟨u,ru,lu⟩:=hlX p.2 p.1 v kN es (.inr (.inl oc))
    refine ⟨u,ru,.inr ⟨.inl ?_,?_⟩⟩
    ·rw [show (fW X sc cl s.heap.objs.size x ks s H fp pins).env.kindOf y=_ from kof y,k4,← ey,kf]
     have k1:X.env.kindOf p.1=some .cell:=oc
     simp [I.ok.kind,k1]
    ·obtain ⟨c,hc⟩:=h2 _ hm rfl
     have hc:cl.lookup p.1=some c:=hc
     rcases lu with ⟨z,_⟩ | ⟨_,c',hc',z⟩
     ·have z':X.env.scope.names.lookup p.1=some .local:=z
      rw [oc] at z';cases z'
     ·have:=h1 _ _ hc
      rw [hc'] at this
      cases this
      obtain ⟨o,ho,hd⟩:=z
      exact ⟨_,by rw [← ey];exact hc,o,kp _ _ ho,hd⟩
 ·obtain ⟨v,o,ho,hd⟩:=I.cell y c (h1 y c e)
  exact ⟨v,o,kp _ _ ho,hd⟩
 ·rw [Vc] at hp
  obtain ⟨a1,a2,a3,a4,a5⟩:=I.pin p hp
  refine ⟨kp _ _ a1,a2,lt _ _ a1,λz=>?_,a5⟩
  rcases sub p.1 z with e | e
  ·exact a3 e
  ·exact a4 e
end
def HH (X:Cx) (ifs:List Expr) (t:TT):Prop :=
 ∀(pins:List (Addr × Obj)) (s:Shared) (σ:L2.St) (H:Hp) (Q:Bool→Hp→Prop),Inv X pins σ H s→t σ H Q →
  wpAny (model X.prog X.w) X.A (forIn ifs true λc r=>if r=true then do let ok ← isTrue c X.env (eval c X.env);pure (ForInStep.yield ok) else pure (ForInStep.yield r)) (TP X pins σ Q) X.xe s
theorem xm {X:Cx}:HH X [] (λ_ H Q=>Q true H):=λpins s σ H Q I h=>by rw [List.forIn_nil];exact wpAny_pure ⟨H,I,h⟩
theorem qY {X:Cx} {c:Expr} {t:TT} (h:PT X c t):HH X [c] t:=λpins s σ H Q I q=>wpAny_tests_one (h pins s σ H Q I q)
section
variable {prog:Program} {w:World} {A:Around} {R:Result→Shared→Prop} {s:Shared}
theorem DV {elt iter:Expr} {ifs:List Expr} {x:Str} {px:Pos} {sc:Scope} {pos:Pos} {it acc:Value} {env:Env} (I:Nat→Shared→Prop)
  (turn:∀n s,I n s→wpAny (model prog w) A (pyNext it) (λr s₁=>match r with
   | none=>R (.ok .next) s₁
   | some v=>wpAny (model prog w) A (letOwnedTupleGo (.Name x px) it v) (λ_ s₂=>wpAny (model prog w) A (assign (.Name x px) env v) (λ_ s₃=>wpAny (model prog w) A (forIn ifs true λc r=>if r=true then do let ok ← isTrue c env (eval c env);pure (ForInStep.yield ok) else pure (ForInStep.yield r)) (λok s₃=>if ok=true then wpAny (model prog w) A (eval elt env) (λy s₄ =>
     wpAny (model prog w) A (call (.builtin "list.append") [acc,y]) (λ_ s₅=>∃m,m < n∧I m s₅) (λ_ _=>False) s₄) (λ_ _=>False) s₃ else ∃m,m < n∧I m s₃) (λ_ _=>False) s₃) (λ_ _=>False) s₂) (λ_ _=>False) s₁) (λ_ _=>False) s)
  (n:Nat) (h:I n s):codeAny (model prog w) A (.compLoop (.ListComp elt [⟨.Name x px,iter,ifs,0⟩] sc pos) 0 it acc env) R s:=by
 refine codeAny_loop rfl I (λn s hI=>?_) n h
 show wpAny _ _ ((compTurn (.ListComp elt [⟨.Name x px,iter,ifs,0⟩] sc pos) 0 it acc env).onRaise (λx=>do noteFrame x env;theTreesLotGoes x)) _ _ s
 refine wpAny_noted ?_
 rw [compTurn_list]
 have no:∀(e:Value) (s':Shared),False→notedBy (model prog w) A env (λe s'=>R (.error e) s') e s':=λ_ _ z=>z.elim
 refine wpAny_bind (wpAny_standAt (wpAny_bind (wpAny_mono (turn n s hI) (λr s₁ h₁=>?_) no)))
 cases r with
 | none=>exact wpAny_pure h₁
 | some v =>
  refine wpAny_bind (wpAny_mono h₁ (λ_ s₂ h₂=>?_) no)
  refine wpAny_bind (wpAny_mono h₂ (λ_ s₃ h₃=>wpAny_bind (wpAny_mono h₃ (λok s₃' h₃'=>?_) no)) no)
  cases ok with
  | false=>exact wpAny_pure ⟨rfl,h₃'⟩
  | true =>
   exact wpAny_bind (wpAny_bind (wpAny_mono h₃' (λy s₄ h₄=>wpAny_bind (wpAny_mono h₄ (λ_ s₅ h₅=>wpAny_pure (wpAny_pure ⟨rfl,h₅⟩)) no)) no))
end
def Ka (wi:TI) (ks:List (Str × Nat)) (tc:TT) (te:TE):TE:=λσ H Q=>wi σ H λJ H1=>∀D,H1 D=none→∃W:Nat→Nat→Hp→Prop,(∃m,W 0 m (upd H1 D (.lst []))) ∧
 ∀i m H2,W i m H2→(J.stop i H2∧Q (.ref D) H2)∨(J.go i H2∧∀v H3,J.yld i H2 v H3→tc (some v :: fP ks σ) H3 λb H4=>if b=true then te (some v :: fP ks σ) H4 λy H5=>∃ys,H5 D=some (.lst ys)∧ys.length < sizeLine∧∃m',m' < m∧W (i + 1) m' (upd H5 D (.lst (ys ++ [y]))) else ∃m',m' < m∧W (i + 1) m' H4)
section
variable {X:Cx}
theorem zr {elt iter:Expr} {ifs:List Expr} {x:Str} {px:Pos} {sc:Scope} {pos:Pos} {te:TE} {tc:TT} {ks:List (Str × Nat)} {cl:List (Str × Addr)} {pins:List (Addr × Obj)} {σ:L2.St} {H:Hp} {s:Shared} {it:Addr} {fp:List Addr} {tn:Nat→Heap→Prop} {J:It} {Q:VK}
  {RR:Value→Addr→Result→Shared→Prop} {E:Value→Shared→Prop}
  (hc:X.calm=true) (ok:cX sc X.env.scope X.N x ks) (h1:∀y c,cl.lookup y=some c→X.env.cells.lookup y=some c) (h2:∀y∈sc.names,y.2=.free→∃c,cl.lookup y.1=some c)
  (he:∀cl C s₀ H₀ fp pins,PE (fW X sc cl C x ks s₀ H₀ fp pins) elt te) (hcn:∀cl C s₀ H₀ fp pins,HH (fW X sc cl C x ks s₀ H₀ fp pins) ifs tc)
  (I:Inv X pins σ H s) (T:Turn X.prog X.w X.K (.Name x px) J fp it tn) (st:tn 0 s.heap) (f:∀b∈fp,l5 X pins H b)
  (hw:∀D,H D=none→∃W:Nat→Nat→Hp→Prop,(∃m,W 0 m (upd H D (.lst [])))∧∀i m H2,W i m H2→(J.stop i H2∧Q (.ref D) H2) ∨
   (J.go i H2∧∀v H3,J.yld i H2 v H3→tc (some v :: fP ks σ) H3 λb H4=>if b=true then te (some v :: fP ks σ) H4 λy H5=>∃ys,H5 D=some (.lst ys)∧ys.length < sizeLine∧∃m',m' < m∧W (i + 1) m' (upd H5 D (.lst (ys ++ [y]))) else ∃m',m' < m∧W (i + 1) m' H4))
  (hR:∀(D C:Addr) (s':Shared) (H':Hp) (m:Str→Option Value),Inv X pins σ H' s'→Q (.ref D) H'→s'.heap.Ns C m→H' C=none→C≠X.env.locals→X.s₀.heap.objs.size≤C→(∀y c,X.env.cells.lookup y=some c→c≠C)→(∀p∈X.pn ++ pins,p.1≠C)→RR (.ref D) C (.ok .next) s') :
  wpAny (model X.prog X.w) X.A (newList []) (λacc s₃=>wpAny (model X.prog X.w) X.A (newFunctionEnv sc X.env.globals cl [] X.env.qual none .none (some X.env)) (λcenv s₄ =>
   codeAny (model X.prog X.w) X.A (.compStart (.ListComp elt [⟨.Name x px,iter,ifs,0⟩] sc pos) 0 (.ref it) acc { cenv with scope:=relabel sc X.env }) (RR acc cenv.locals) s₄) E s₃) E s:=by
 have okk:=ok
 obtain ⟨kd,nc,lx,ll,fr,kk,nd⟩:=okk
 have hD0:H s.heap.objs.size=none:=I.hok.fresh (UC _)
 obtain ⟨W,⟨m0,w0⟩,turn⟩:=hw s.heap.objs.size hD0
 refine wpAny_newObj_type ?_
 have I3:Inv X pins σ (upd H s.heap.objs.size (.lst [])) { s with heap:=s.heap.push { cls:=.type "list",dict:=none,data:=.seq ([]:List Value).toArray } } :=
  I.laid (t':=s.toks) (λb u e=>Heap.get?_push_of_some _ e) (UC _) (show dH X.prog X.w _ _ _ (.lst []) from ⟨Vb _,[],0,.nil,Heap.get?_push_size _ rfl⟩)
 have st3:tn 0 (s.heap.push { cls:=.type "list",dict:=none,data:=.seq ([]:List Value).toArray }):=T.keep 0 _ _ st λb hb o e=>Heap.get?_push_of_some _ e
 generalize hD:s.heap.objs.size=D at *
 generalize hH:upd H D (.lst [])=H3 at *
 generalize hs3:({ s with heap:=s.heap.push { cls:=.type "list",dict:=none,data:=.seq ([]:List Value).toArray } }:Shared)=s3 at *
 have e3:s.heap.push { cls:=.type "list",dict:=none,data:=.seq ([]:List Value).toArray }=s3.heap:=by rw [← hs3]
 rw [e3] at st3
 have fD:∀b∈fp,b≠D:=λb hb z=>by
  obtain ⟨o,ho,_⟩:=T.obj 0 _ st b hb
  have:=Heap.lt_size ho
  rw [z,← hD] at this
  exact Vm _ this
 have f3:∀b∈fp,l5 X pins H3 b:=λb hb=>⟨by rw [← hH,aW (fD b hb)];exact (f b hb).1,(f b hb).2⟩
 have g3:∀b∈fp,∃o,s3.heap.get? b=some o:=λb hb=>by
  obtain ⟨o,ho,_⟩:=T.obj 0 _ st3 b hb
  exact ⟨o,ho⟩
 refine wpAny_newFunctionEnv nc (by intro y hy;simp at hy) (λh₁ hns hsb=>?_) kd
 have kp:∀b o,s3.heap.get? b=some o→h₁.get? b=some o:=λb o e=>hsb.extBut b o (UW (Heap.lt_size e)) (Heap.get?_push_of_some _ e)
 have J0:=yL (fp:=fp) (cl:=cl) (t':=s3.toks + ([]:List (Str × Value)).length) I3 ok h1 h2 (λb hb=>⟨f3 b hb,g3 b hb⟩) hns kp
 have st4:tn 0 h₁:=T.keep 0 _ _ st3 λb hb o e=>kp b o e
 have ltC:∀b o,s3.heap.get? b=some o→b≠s3.heap.objs.size:=λb o e=>UW (Heap.lt_size e)
 have cC:∀y c,X.env.cells.lookup y=some c→c≠s3.heap.objs.size:=λy c e=>by
  obtain ⟨v,o,ho,_⟩:=I3.cell y c e
  exact ltC c o ho
 have pC:∀p∈X.pn ++ pins,p.1≠s3.heap.objs.size:=λp hp=>ltC _ _ (I3.pin p hp).1
 have lC:s3.heap.objs.size≠X.env.locals:=Wm I3.lt
 have fX:∀{H':Hp},(∀b∈fp,H' b=none)→∀b∈fp,l5 (fW X sc cl s3.heap.objs.size x ks s3 H3 fp pins) [] H' b:=λhn b hb=>by
  obtain ⟨o,ho⟩:=g3 b hb
  obtain ⟨_,q1,q2,q3,q4,q5⟩:=f b hb
  refine ⟨hn b hb,ltC b o ho,λz=>?_,.inl hb,λy c e=>q4 y c (h1 y c e),λp hp=>q5 p (by simpa [fW] using hp)⟩
  rcases UH.mp (I3.p5 b z) with e | e
  ·exact q1 e
  ·exact q2 e
 have back:∀{o:Option V} {H':Hp} {s':Shared},Inv (fW X sc cl s3.heap.objs.size x ks s3 H3 fp pins) [] (o :: fP ks σ) H' s'→Inv X pins σ H' s':=λ{o H' s'} J=>by
  obtain ⟨hh,g,d,t,os'⟩:=s'
  obtain rfl:os'=s3.os:=J.os
  exact I3.call (h':=hh) (g':=g) (d':=d) (t':=t) (ch:=fp) J.base J.hok J.bare λb hb=>⟨(f b hb).2.2.2.1,(f b hb).2.1,(f b hb).2.2.2.2.1,(f b hb).2.2.2.2.2⟩
 have lookX:(relabel sc X.env).names.lookup x=some .local:=lookup_relabel_local lx
 have loop:∀s',(∃(i:Nat) (o:Option V) (H':Hp),Inv (fW X sc cl s3.heap.objs.size x ks s3 H3 fp pins) [] (o :: fP ks σ) H' s'∧tn i s'.heap∧(∀b∈fp,H' b=none)∧W i m0 H') →
   codeAny (model X.prog X.w) X.A (.compLoop (.ListComp elt [⟨.Name x px,iter,ifs,0⟩] sc pos) 0 (.ref it) (.ref D) (compEnvC sc cl s3.heap.objs.size X.env)) (RR (.ref D) s3.heap.objs.size) s':=by
  intro s' hs'
  refine DV (λn s'=>∃(i:Nat) (o:Option V) (H':Hp),Inv (fW X sc cl s3.heap.objs.size x ks s3 H3 fp pins) [] (o :: fP ks σ) H' s'∧tn i s'.heap∧(∀b∈fp,H' b=none)∧W i n H') ?_ m0 hs'
  rintro n s5 ⟨i,o,H5,J5,t5,n5,w5⟩
  rcases turn i n H5 w5 with ⟨stop,hq⟩ | ⟨go,step⟩
  ·refine cM (T.done (fW X sc cl s3.heap.objs.size x ks s3 H3 fp pins) rfl rfl rfl hc i [] s5 _ H5 _ J5 (fX n5) t5 stop) λr s6 ⟨hr,J6⟩=>?_
   subst hr
   obtain ⟨m,hm,_⟩:=J6.loc
   exact hR D _ s6 H5 m (back J6) hq hm J6.free lC I3.sz cC pC
  ·refine cM (T.item (fW X sc cl s3.heap.objs.size x ks s3 H3 fp pins) rfl rfl rfl hc i [] s5 _ H5 _ J5 (fX n5) t5 go) λr s6 ⟨u,hr,h6⟩=>?_
   subst hr
   refine cM h6 λ_ s7 ⟨v,H7,J7,r7,y7,t7,n7⟩=>?_
   have J7':=J7.pinned (fX n7) (T.obj _ _ t7)
   refine wpAny_assign_Name (ia (X:=fW X sc cl s3.heap.objs.size x ks s3 H3 fp pins) (i:=0) J7' nd rfl (.inl lookX) r7 (λs8 J8=>?_) (.inr lookX))
   refine cM (hcn cl s3.heap.objs.size s3 H3 fp pins _ s8 _ H7 _ J8 (step v H7 y7)) λok s8' ⟨H8,J8',q8⟩=>?_
   cases ok with
   | false =>
    simp only [UL,if_false] at q8 ⊢
    obtain ⟨m',hm,w'⟩:=q8
    refine ⟨m',hm,i + 1,_,_,J8'.ie,?_,?_,w'⟩
    ·exact T.keep _ _ _ t7 λb hb o e=>(J8'.pin (b,o) (UG _ (UG _ (cZ hb e)))).1
    ·intro b hb
     obtain ⟨o,e,d⟩:=T.obj _ _ t7 b hb
     exact (J8'.pin (b,o) (UG _ (UG _ (cZ hb e)))).2.1
   | true =>
    simp only [if_true] at q8 ⊢
    refine cM (he cl s3.heap.objs.size s3 H3 fp pins _ s8' _ H8 _ J8' q8) λy s9 ⟨vy,H9,J9,r9,ys,hys,hz,m',hm,w'⟩=>?_
    refine cM (vn (X:=fW X sc cl s3.heap.objs.size x ks s3 H3 fp pins) _ s9 _ H9 (.ref D) [vy] (.ref D) [y] (λ_ H'=>H'=upd H9 D (.lst (ys ++ [vy]))) J9 rfl (.cons r9 .nil) ⟨D,ys,vy,rfl,rfl,hys,hz,rfl⟩) λ_ s10 ⟨_,H10,J10,_,eH⟩=>?_
    subst eH
    refine ⟨m',hm,i + 1,_,_,J10.ie,?_,?_,w'⟩
    ·exact T.keep _ _ _ t7 λb hb o e=>(J10.pin (b,o) (UG _ (UG _ (cZ hb e)))).1
    ·intro b hb
     obtain ⟨o,e,d⟩:=T.obj _ _ t7 b hb
     exact (J10.pin (b,o) (UG _ (UG _ (cZ hb e)))).2.1
 have l0:=loop _ ⟨0,none,H3,J0,st4,λb hb=>(f3 b hb).1,w0⟩
 exact codeAny_compStart_list l0 (T.self _ 0 _ _ _ st4 l0)
theorem n_ {sc osc:Scope} {N:List Str} {x:Str} {ks:List (Str × Nat)} (ok:cX sc osc N x ks) {pins:List (Addr × Obj)} {σ:L2.St} {H:Hp} {s:Shared} (I:Inv X pins σ H s) (ho:X.env.scope=osc):∀y∈sc.names,y.2=.free→∃c,X.env.cells.lookup y.1=some c:=λy hy hf =>
 I.ok.has y.1 (.inl (by show X.env.scope.names.lookup y.1=some .cell;rw [ho];exact ok.2.2.2.2.1 y hy hf))
theorem Gu {elt iter:Expr} {ifs:List Expr} {x:Str} {px:Pos} {sc:Scope} {pos:Pos} {wi:TI} {te:TE} {tc:TT} (osc:Scope) (N:List Str) (ks:List (Str × Nat)) (hc:X.calm=true) (ho:X.env.scope=osc) (hN:X.N=N) (hi:PI X (.Name x px) iter wi)
  (he:∀cl C s₀ H₀ fp pins,PE (fW X sc cl C x ks s₀ H₀ fp pins) elt te) (hcn:∀cl C s₀ H₀ fp pins,HH (fW X sc cl C x ks s₀ H₀ fp pins) ifs tc) (ok:cX sc osc N x ks:=by decide +kernel) (hs:∀x,foldedSetIterable iter X.env x=pure x:=by intro _;rfl) :
  PE X (.ListComp elt [⟨.Name x px,iter,ifs,0⟩] sc pos) (Ka wi ks tc te):=by
 intro pins s σ H Q I hw
 obtain ⟨cl,hcl,h1,h2⟩:=jx (n_ ok I ho)
 have ok':cX sc X.env.scope X.N x ks:=by rw [ho,hN];exact ok
 rw [eval_ListComp]
 refine wpAny_comprehension_free (use:=none) rfl hs hcl ok.1 ok.2.2.2.1 (cM (hi pins s σ H _ I hw) λv s1 h3=>cM h3 λitv s2 h4=>?_)
 obtain ⟨it,fp,tn,J,H2,rfl,I2,T,st2,f2,hR⟩:=h4
 refine zr (RR:=λacc C=>compPost (model X.prog X.w) X.A X.xe none (EP X pins σ Q) acc C) hc ok' h1 h2 he hcn I2 T st2 f2 hR ?_
 intro D C s' H' m J' q hn hC cl' cs cc cp
 refine ⟨m,hn,λh' hsb=>⟨.ref D,H',?_,rfl,q⟩⟩
 exact J'.turned (t':=s'.toks) (it:=C) (λb o ne e=>hsb.extBut b o ne e) hC cl' (.inr cs) cc cp
def QD (wi:TI) (ks:List (Str × Nat)) (tc:TT) (te:TE) (i:Nat):TS:=λD σ H=>Ka wi ks tc te σ H λv H1=>D.nx (σ.set i (some v)) H1
theorem A5 {elt iter:Expr} {ifs:List Expr} {x y:Str} {px py:Pos} {sc:Scope} {pos spos:Pos} {wi:TI} {te:TE} {tc:TT} {i:Nat} (osc:Scope) (N:List Str) (ks:List (Str × Nat)) (hc:X.calm=true) (ho:X.env.scope=osc) (hN:X.N=N) (hnd:X.N.Nodup) (hy:X.N[i]?=some y) (hl:Loc X.env.scope y)
  (hi:PI X (.Name x px) iter wi) (he:∀cl C s₀ H₀ fp pins,PE (fW X sc cl C x ks s₀ H₀ fp pins) elt te) (hcn:∀cl C s₀ H₀ fp pins,HH (fW X sc cl C x ks s₀ H₀ fp pins) ifs tc) (ok:cX sc osc N x ks:=by decide +kernel) (hs:∀x,foldedSetIterable iter X.env x=pure x:=by intro _;rfl)
  (hsw:swapsWith (.ListComp elt [⟨.Name x px,iter,ifs,0⟩] sc pos) (some (.Name y py)) spos.line X.env=pure true:=by rfl) (hf:X.fn y=true∨X.env.scope.names.lookup y=some .local:=by first | exact .inl rfl | exact .inr rfl | assumption) :
  PS X (.Assign [.Name y py] (.ListComp elt [⟨.Name x px,iter,ifs,0⟩] sc pos) spos) (QD wi ks tc te i):=by
 intro pins s σ H Dn I hw
 obtain ⟨cl,hcl,h1,h2⟩:=jx (n_ ok I ho)
 have ok':cX sc X.env.scope X.N x ks:=by rw [ho,hN];exact ok
 rw [exec_Assign_Name_used _ _ _ _ hsw]
 refine wpAny_bind (wpAny_standAt (wpAny_bind ?_))
 show wpAny _ X.A (do let _ ← comprehension (.ListComp elt [⟨.Name x px,iter,ifs,0⟩] sc pos) sc X.env _ (newList []) false (eval iter X.env) (some (assign (.Name y py) X.env))) _ _ s
 refine wpAny_bind (wpAny_mono (wpAny_comprehension_free (use:=some (assign (.Name y py) X.env)) (Q:=λ_ s'=>SP X pins Dn .next s') rfl hs hcl ok.1 ok.2.2.2.1
  (cM (hi pins s σ H _ I hw) λv s1 h3=>cM h3 λitv s2 h4=>?_)) (λ_ s' hq=>wpAny_pure (wpAny_pure hq)) λ_ _ e=>e)
 obtain ⟨it,fp,tn,J,H2,rfl,I2,T,st2,f2,hR⟩:=h4
 refine zr (Q:=λv H1=>Dn.nx (σ.set i (some v)) H1) (RR:=λacc C=>compPost (model X.prog X.w) X.A X.xe (some (assign (.Name y py) X.env)) (λ_ s'=>SP X pins Dn .next s') acc C) hc ok' h1 h2 he hcn I2 T st2 f2 hR ?_
 intro D C s' H' m J' q hn hC cl' cs cc cp
 show wpAny _ X.A (assign (.Name y py) X.env (.ref D)) _ _ _
 refine wpAny_assign_Name (p6 J' hnd hy hl (v:=.ref D) rfl (λs'' J'' ⟨a,hsb,ha⟩=>?_) hf)
 refine ⟨m,hn.sameBut hsb (λz=>?_),λh' hsb'=>⟨_,H',?_,q⟩⟩
 ·rcases ha with e | e
  ·exact cl' (z.trans e)
  ·exact cc _ _ e z.symm
 ·exact J''.turned (t':=s''.toks) (it:=C) (λb o ne e=>hsb'.extBut b o ne e) hC cl' (.inr cs) cc cp
def Rj (wi:TI) (ks:List (Str × Nat)) (te:TE):TE:=λσ H Q=>wi σ H λJ H1=>∀D,H1 D=none→∃W:Nat→Nat→Hp→Prop,(∃m,W 0 m (upd H1 D (.lst []))) ∧
 ∀i m H2,W i m H2→(J.stop i H2∧Q (.ref D) H2)∨(J.go i H2∧∀v H3,J.yld i H2 v H3→te (some v :: fP ks σ) H3 λy H4=>∃ys,H4 D=some (.lst ys)∧ys.length < sizeLine∧∃m',m' < m∧W (i + 1) m' (upd H4 D (.lst (ys ++ [y]))))
theorem PX {elt iter:Expr} {x:Str} {px:Pos} {sc:Scope} {pos:Pos} {wi:TI} {te:TE} (osc:Scope) (N:List Str) (ks:List (Str × Nat)) (hc:X.calm=true) (ho:X.env.scope=osc) (hN:X.N=N) (hi:PI X (.Name x px) iter wi)
  (he:∀cl C s₀ H₀ fp pins,PE (fW X sc cl C x ks s₀ H₀ fp pins) elt te) (ok:cX sc osc N x ks:=by decide +kernel) (hs:∀x,foldedSetIterable iter X.env x=pure x:=by intro _;rfl) :
  PE X (.ListComp elt [⟨.Name x px,iter,[],0⟩] sc pos) (Rj wi ks te):=λpins s σ H Q I hw=>Gu osc N ks hc ho hN hi he (λ_ _ _ _ _ _=>xm) ok hs pins s σ H Q I hw
def SV (wi:TI) (ks:List (Str × Nat)) (te:TE) (i:Nat):TS:=λD σ H=>Rj wi ks te σ H λv H1=>D.nx (σ.set i (some v)) H1
theorem P2 {elt iter:Expr} {x y:Str} {px py:Pos} {sc:Scope} {pos spos:Pos} {wi:TI} {te:TE} {i:Nat} (osc:Scope) (N:List Str) (ks:List (Str × Nat)) (hc:X.calm=true) (ho:X.env.scope=osc) (hN:X.N=N) (hnd:X.N.Nodup) (hy:X.N[i]?=some y) (hl:Loc X.env.scope y)
  (hi:PI X (.Name x px) iter wi) (he:∀cl C s₀ H₀ fp pins,PE (fW X sc cl C x ks s₀ H₀ fp pins) elt te) (ok:cX sc osc N x ks:=by decide +kernel) (hs:∀x,foldedSetIterable iter X.env x=pure x:=by intro _;rfl)
  (hsw:swapsWith (.ListComp elt [⟨.Name x px,iter,[],0⟩] sc pos) (some (.Name y py)) spos.line X.env=pure true:=by rfl) (hf:X.fn y=true∨X.env.scope.names.lookup y=some .local:=by first | exact .inl rfl | exact .inr rfl | assumption) :
  PS X (.Assign [.Name y py] (.ListComp elt [⟨.Name x px,iter,[],0⟩] sc pos) spos) (SV wi ks te i):=λpins s σ H D I hw=>A5 osc N ks hc ho hN hnd hy hl hi he (λ_ _ _ _ _ _=>xm) ok hs hsw hf pins s σ H D I hw
end
def one (c:Nat):Str:=⟨#[c]⟩
theorem vg:∀(cs:List Nat) (acc:Array Nat),(cs.map one).foldl (λacc (p:Str)=>acc ++ (Str.ofString "").cps ++ p.cps) acc=acc ++ cs.toArray
 | [],acc=>by simp
 | c :: cs,acc=>by
  have e:(Str.ofString "").cps=#[]:=by decide +kernel
  rw [UA,List.foldl_cons,vg cs]
  rw [e]
  show (acc ++ #[] ++ #[c]) ++ cs.toArray=_
  simp
theorem join_ones (cs:List Nat):Txt.join (Str.ofString "") (cs.map one)=⟨cs.toArray⟩:=by
 unfold Txt.join Builtin.Str.glued
 cases cs with
 | nil=>rfl
 | cons c cs =>
  simp only [UA,List.drop_succ_cons,Wb,List.headD_cons]
  rw [vg]
  show (⟨#[c] ++ cs.toArray⟩:Str)=_
  simp
theorem jM:∀{ys:List Str} {us:List Value},Vals (ys.map V.str) us→StrsAre us ys
 | [],_,.nil=>.nil
 | y :: ys,_,.cons r rr=>by
  obtain ⟨t,rfl⟩:=r
  exact .cons y t (jM rr)
section
variable {X:Cx}
def rJoin (K:PySem.W.Frag):V→List V→Hp→VK→Prop:=λx vs H Q=>∃z p ys,x=.str z∧vs=[.ref p]∧dY K H p (ys.map V.str)∧(ys.map (·.length)).sum + ys.length * z.length≤16777216∧Q (.str (Txt.join z ys)) H
theorem IV:md X "str.join" (rJoin X.K):=by
 intro pins s σ H x vs v us Q I rx rv h
 obtain ⟨z,p,ys,rfl,rfl,hp,hz,q⟩:=h
 obtain ⟨t,rfl⟩:=rx
 obtain ⟨u,rfl,ru⟩:=vals1 rv
 cases ru
 obtain ⟨its,r,pl,_⟩:=I.list hp
 exact join_list pl.isList (by simpa using jM r) hz λt' k=>⟨.str _,H,I.tok _,⟨_,rfl⟩,q⟩
end
def Aj:Expr→Option V
 | .Constant (.int i) _ _=>some (.int i)
 | .Constant (.str x) _ _=>some (.str x)
 | .Constant (.bool b) _ _=>some (.bl b)
 | _=>none
theorem zh {X:Cx}:∀{es:List Expr} (vs:List V),es.map Aj=vs.map some→PA X es (λ_ H Q=>Q vs H)
 | [],[],_=>λ_ _ _ _ H Q I h=>Calls.spliced_nil ⟨[],H,I,.nil,h⟩
 | [],_ :: _,h=>by cases h
 | _ :: _,[],h=>by cases h
 | e :: es,v :: vs,h=>by
  rw [UA,UA] at h
  injection h with h1 h2
  have ih:=zh (X:=X) (es:=es) vs h2
  have hs:starEach (e :: es) X.env=(false,eval e X.env) :: starEach es X.env:=by
   cases e <;> first | rfl | cases h1
  have he:PE X e (tC v):=by
   cases e with
   | Constant c j pos =>
    cases c with
    | int i=>cases h1;exact wY
    | str x=>cases h1;exact w6
    | bool b=>cases h1;exact Cm
    | _=>cases h1
   | _=>cases h1
  exact λpos pins s σ H Q I hq=>qX he ih hs pos pins s σ H Q I hq
end Ov
namespace Ov
open PySem PySem.Spec PyProof.Rows
open L2 (V HO Hp Inv Cx St VK TE TT TA TS TG mF TI TO gw Ends rL Loc Gl Rd RelV Vals fw qO bS nj oY md gu R2 NS tC HM SX Hz tB J_ Rk NL Hn NM Hw SU NR Kb Ey C5 NH C4 SO Ex NN vd Mh Fi Mj Mi NJ Bz NI Fu RJ Fv O0 NP Hy Hs Hr NG Hv NQ NK x8 Hx SW upd E0 bR b7)
structure QE (X:Cx) (e:Expr) (t:TE):Prop where
 run:L2.PE X e t
structure QT (X:Cx) (e:Expr) (t:TT):Prop where
 run:L2.PT X e t
structure QW (X:Cx) (e:Expr) (t:TT):Prop where
 run:L2.PW X e t
structure QA (X:Cx) (es:List Expr) (t:TA):Prop where
 run:L2.PA X es t
structure QS (X:Cx) (st:Stmt) (t:TS):Prop where
 run:L2.PS X st t
structure QB (X:Cx) (st:List Stmt) (t:TS):Prop where
 run:L2.yu X st t
structure QG (X:Cx) (e:Expr) (t:TG):Prop where
 run:L2.PG X e t
structure Q6 (X:Cx) (es:List Expr) (t:mF):Prop where
 run:L2.Kk X es t
structure QI (X:Cx) (tg e:Expr) (t:TI):Prop where
 run:L2.PI X tg e t
structure QO (X:Cx) (e:Option Expr) (t:TO):Prop where
 run:L2.PO X e t
section
variable {X:Cx} {a b c e o:Expr} {es rest:List Expr} {ta tb te tc to:TE} {tA tB':TT} {t:TA} {pos px p p2 apos cpos:Pos} {x:Str} {i j:Nat}
theorem wY {i:Int} {j pos}:QE X (.Constant (.int i) j pos) (tC (.int i)):=⟨L2.wY⟩
theorem Cm {b:Bool} {j pos}:QE X (.Constant (.bool b) j pos) (tC (.bl b)):=⟨L2.Cm⟩
theorem AU {j pos}:QE X (.Constant .none j pos) (tC .non):=⟨L2.AU⟩
theorem w6 {x:Str} {j pos}:QE X (.Constant (.str x) j pos) (tC (.str x)):=⟨L2.w6⟩
theorem wX {v:V} {u:Value} (hg:Gl X x) (hm:X.mg x=some u) (r:RelV v u) (hd:(x == ("__debug__":Str))=false:=by decide):QE X (.Name x pos) (tC v):=⟨L2.wX hg hm r hd⟩
theorem wV {v:V} {u:Value} (hg:Gl X x) (hm:X.mg x=none) (hv:bootBuiltins x=some u) (r:RelV v u) (hn:x≠"__name__":=by decide) (hd:(x == ("__debug__":Str))=false:=by decide):QE X (.Name x pos) (tC v):=⟨L2.wV hg hm hv r hn hd⟩
theorem Gx {op:Operator} {r:R2} (ho:fw X (binaryOp op) r) (ha:QE X a ta) (hb:QE X b tb):QE X (.BinOp a op b pos) (HM r ta tb):=⟨L2.Gx ho ha.run hb.run⟩
theorem Gz {op:UnaryOp} {r:V→Hp→VK→Prop} (ho:qO X (unaryOp op) r) (ha:QE X a ta):QE X (.UnaryOp op a pos) (SX r ta):=⟨L2.Gz ho ha.run⟩
theorem wW {op:CmpOp} {r:R2} (ho:fw X (compareOp op) r) (ha:QE X a ta) (hb:QE X b tb) (hm:behindInMarks op b=false):QE X (.Compare a [op] [b] pos) (HM r ta tb):=⟨L2.wW ho ha.run hb.run hm⟩
theorem xk {op:CmpOp} {r:R2} (ho:fw X (compareOp op) r) (ha:QE X a ta) (hb:QE X b tb) (hm:behindInMarks op b=false):QT X (.Compare a [op] [b] pos) (Hz (HM r ta tb)):=⟨L2.xk ho ha.run hb.run hm⟩
theorem AW {op} (h:QE X a ta):QE X (.BoolOp op [a] pos) ta:=⟨L2.AW h.run⟩
theorem AS (ha:QE X a ta) (hb:QE X (.BoolOp .And (b :: rest) pos) tb):QE X (.BoolOp .And (a :: b :: rest) pos) (Hn ta tb):=⟨L2.AS ha.run hb.run⟩
theorem Gy (ha:QE X a ta) (hb:QE X (.BoolOp .Or (b :: rest) pos) tb):QE X (.BoolOp .Or (a :: b :: rest) pos) (NM ta tb):=⟨L2.Gy ha.run hb.run⟩
theorem AV (ha:QE X a ta):QE X (.UnaryOp .Not a pos) (Hw ta):=⟨L2.AV ha.run⟩
theorem A9 (ha:QT X a tA):QT X (.UnaryOp .Not a pos) (NL tA):=⟨L2.A9 ha.run⟩
theorem xq (ha:QT X a tA):QW X (.BoolOp .And [a] pos) tA:=⟨L2.xq ha.run⟩
theorem Bc (ha:QT X a tA):QW X (.BoolOp .Or [a] pos) tA:=⟨L2.Bc ha.run⟩
theorem Bb (ha:QT X a tA) (hb:QW X (.BoolOp .And (b :: rest) pos) tB'):QW X (.BoolOp .And (a :: b :: rest) pos) (J_ tA tB'):=⟨L2.Bb ha.run hb.run⟩
theorem GJ (ha:QT X a tA) (hb:QW X (.BoolOp .Or (b :: rest) pos) tB'):QW X (.BoolOp .Or (a :: b :: rest) pos) (Rk tA tB'):=⟨L2.GJ ha.run hb.run⟩
theorem A_ (h:QE X e te) (he:∀whole,isTrue e X.env whole=(do let v ← whole;standAt e.pos;holding [v] (truthy v)):=by intro _;rfl):QT X e (tB te):=⟨L2.A_ h.run he⟩
theorem sJ (hc:QT X c tA) (ha:QE X a ta) (hb:QE X b tb):QE X (.IfExp c a b pos) (SU tA ta tb):=⟨L2.sJ hc.run ha.run hb.run⟩
theorem AR:QA X [] Ey:=⟨L2.AR⟩
theorem qX (ha:QE X e te) (hr:QA X es t) (hs:starEach (e :: es) X.env=(false,eval e X.env) :: starEach es X.env:=by rfl):QA X (e :: es) (C5 te t):=⟨L2.qX ha.run hr.run hs⟩
theorem AX {x1} (h:QA X es t):QE X (.Tuple es x1 pos) (NR t):=⟨L2.AX h.run⟩
theorem wZ (h:QA X es t):QE X (.List es pos) (Kb t):=⟨L2.wZ h.run⟩
theorem Gs {r:R2} (hr:nj X r) (ha:QE X a ta) (hb:QE X b tb) (hs:b7 b):QE X (.Subscript a b pos) (HM r ta tb):=⟨L2.Gs hr ha.run hb.run hs⟩
theorem xb:QO X none x8:=⟨L2.xb⟩
theorem xf (h:QE X e te):QO X (some e) (Hx te):=⟨L2.xf h.run⟩
theorem sL {lo hi:Option Expr} {tl th:TO} {r:V→Option Int→Option Int→Hp→VK→Prop} (hr:oY X r) (he:QE X e te) (hl:QO X lo tl) (hu:QO X hi th):QE X (.Subscript e (.Slice lo hi none p2) pos) (SW r te tl th):=⟨L2.sL hr he.run hl.run hu.run⟩
theorem sI {id:String} {r:List V→Hp→VK→Prop} (hc:bS X (.builtin id) r) (hg:Gl X x) (hm:X.mg x=none) (hv:bootBuiltins x=some (.builtin id)) (ha:QA X (e :: es) t) (hn:x≠"__name__":=by decide) (hdb:(x == ("__debug__":Str))=false:=by decide)
  (he:starEach (e :: es) X.env=(false,eval e X.env) :: starEach es X.env:=by rfl) (hpl:(backTo pos (starEach es X.env)).any (·.1)=false:=by rfl):QE X (.Call (.Name x p) (e :: es) [] pos) (NH r t):=⟨L2.sI hc hg hm hv ha.run hn hdb he hpl⟩
theorem pI {T:String} {r:List V→Hp→VK→Prop} (hc:bS X (.type T) r) (hg:Gl X x) (hm:X.mg x=none) (hv:bootBuiltins x=some (.type T)) (ha:QA X (e :: es) t) (hn:x≠"__name__":=by decide) (hdb:(x == ("__debug__":Str))=false:=by decide)
  (he:starEach (e :: es) X.env=(false,eval e X.env) :: starEach es X.env:=by rfl) (hpl:(backTo pos (starEach es X.env)).any (·.1)=false:=by rfl):QE X (.Call (.Name x p) (e :: es) [] pos) (NH r t):=⟨L2.pI hc hg hm hv ha.run hn hdb he hpl⟩
theorem Gq {name:Str} {T id:String} {r:V→List V→Hp→VK→Prop} (pa:PlainAttrs T) (slot:Slot T name id) (hty:typeOf (.builtin id)=pure (.type "method_descriptor")) (hm:md X id r) (ho:QE X o to) (ha:QA X (e :: es) t)
  (hbase:attributeBase o name X.env (eval o X.env)=eval o X.env:=by rfl)
  (hfew:((backTo cpos (starEach (e :: es) X.env)).all (λx=>!x.1) && (backToKw cpos (keywordEach [] X.env)).all (λx=>x.1.isSome)
   && decide ((e :: es).length + ([]:List Keyword).length + (if ([]:List Keyword).isEmpty then 0 else 1) < 30))=true:=by rfl)
  (hline:(apos.endLine == cpos.line)=true:=by rfl) (hs:starEach (e :: es) X.env=(false,eval e X.env) :: starEach es X.env:=by rfl) (hplain:(backTo cpos (starEach es X.env)).any (·.1)=false:=by rfl) :
  QE X (.Call (.Attribute o name apos) (e :: es) [] cpos) (SO X.K T r to t):=⟨L2.Gq pa slot hty hm ho.run ha.run hbase hfew hline hs hplain⟩
end
section
variable {X:Cx} {st:Stmt} {rest:List Stmt} {t u:TS} {e tg:Expr} {es:List Expr} {te:TE} {pos:Pos} {g:TG}
theorem xi:QB X [] Hv:=⟨L2.xi⟩
theorem oE (h1:QS X st t) (h2:QB X rest u):QB X (st :: rest) (NQ t u):=⟨L2.oE h1.run h2.run⟩
theorem xj (h1:QS X st t):QB X [st] t:=⟨L2.xj h1.run⟩
theorem kR:QS X (.Continue pos) Hr:=⟨L2.kR⟩
theorem xg (he:QE X e te) (hs:swapsWith e none pos.line X.env=pure false:=by rfl):QS X (.Expr e pos) (Hs te):=⟨L2.xg he.run hs⟩
theorem A7 (he:QE X e te):QS X (.Return (some e) pos) (NP te):=⟨L2.A7 he.run⟩
theorem xh:QS X (.Return none pos) Hy:=⟨L2.xh⟩
theorem GC {c:Expr} {a b:List Stmt} {tc:TT} (hc:QT X c tc) (ha:QB X a t) (hb:QB X b u):QS X (.If c a b pos) (NJ tc t u):=⟨L2.GC hc.run ha.run hb.run⟩
theorem sS {c:Expr} {body:List Stmt} {tc:TT} {tb:TS} (hp:PassesOwn (model X.prog X.w) X.A X.env X.xe) (hc:QT X c tc) (hb:QB X body tb):QS X (.While c body [] pos) (Bz tc tb):=⟨L2.sS hp hc.run hb.run⟩
theorem w8 {i:Nat} {x:Str} (hN:X.N.Nodup) (hi:X.N[i]?=some x) (hx:Loc X.env.scope x) (hf:X.fn x=true∨X.env.scope.names.lookup x=some .local:=by first | exact .inl rfl | exact .inr rfl | assumption):QG X (.Name x pos) (vd i):=⟨L2.w8 hN hi hx hf⟩
theorem w9:Q6 X [] Mh:=⟨L2.w9⟩
theorem sM {e:Expr} {es:List Expr} {t:TG} {u:mF} (h1:QG X e t) (h2:Q6 X es u)
  (hs:(assignEach (e :: es) X.env).map (·.2)=assign e X.env :: (assignEach es X.env).map (·.2):=by rfl):Q6 X (e :: es) (Fi t u):=⟨L2.sM h1.run h2.run hs⟩
theorem AZ {k:Nat} {t:mF} {n:Nat} (hc:X.calm=true) (h:Q6 X es t)
  (hn:(assignEach es X.env).length=n:=by rfl) (hst:(assignEach es X.env).findIdx? (·.1)=none:=by rfl):QG X (.Tuple es k pos) (Mj X.K n t):=⟨L2.AZ hc h.run hn hst⟩
theorem AY {o i:Expr} {to ti:TE} {t:gw} (ho:QE X o to) (hi:QE X i ti) (hs:gu X t)
  (ha:∀v,assign (.Subscript o i pos) X.env v=(do
   let ov ← holding [v] (eval o X.env)
   let iv ← holding [v,ov] (eval i X.env)
   standAt pos
   holding [v,ov,iv] (setItem ov iv v)
   release [v,ov,iv] []):=by intro _;rfl):QG X (.Subscript o i pos) (Mi to ti t):=⟨L2.AY ho.run hi.run hs ha⟩
theorem A3 {tg e:Expr} (he:QE X e te) (hg:QG X tg g) (hs:swapsWithSole [tg] e pos.line X.env=pure false:=by rfl) (hw:swappedStores [tg] e X.env=pure none:=by rfl)
  (h1:(assignEach [tg] X.env).map (·.2)=[assign tg X.env]:=by rfl):QS X (.Assign [tg] e pos) (Ex te g):=⟨L2.A3 he.run hg.run hs hw h1⟩
theorem A8 {i:Nat} {x:Str} {pos':Pos} (hN:X.N.Nodup) (hi:X.N[i]?=some x) (hx:Loc X.env.scope x) (he:QE X e te) (hs:swapsWith e (some (.Name x pos')) pos.line X.env=pure false:=by rfl) (hf:X.fn x=true∨X.env.scope.names.lookup x=some .local:=by first | exact .inl rfl | exact .inr rfl | assumption) :
  QS X (.Assign [.Name x pos'] e pos) (Ex te (vd i)):=⟨L2.A8 hN hi hx he.run hs hf⟩
theorem A6 {i j:Nat} {x y:Str} {a b:Expr} {ta:TA} {px py pt:Pos} {kt k2 pt2} (hc:X.calm=true) (hN:X.N.Nodup) (hi:X.N[i]?=some x) (hj:X.N[j]?=some y) (hij:i≠j)
  (hx:X.env.scope.names.lookup x=some .local) (hy:X.env.scope.names.lookup y=some .local) (ha:QA X [a,b] ta)
  (hw:swappedStores [.Tuple [.Name x px,.Name y py] kt pt] (.Tuple [a,b] k2 pt2) X.env=pure (some [x,y]))
  (hs:swapsWithSole [.Tuple [.Name x px,.Name y py] kt pt] (.Tuple [a,b] k2 pt2) pos.line X.env=pure false:=by rfl) :
  QS X (.Assign [.Tuple [.Name x px,.Name y py] kt pt] (.Tuple [a,b] k2 pt2) pos) (NN i j ta):=⟨L2.A6 hc hN hi hj hij hx hy ha.run hw hs⟩
theorem w_ {l:Expr} {tl:TE} (hl:QE X l tl):QI X tg l (Fu X.K tl):=⟨L2.w_ hl.run⟩
theorem pJ {a:Expr} {ta:TA} {p pos:Pos} (hg:Gl X "range") (hm:X.mg "range"=none) (ha:QA X [a] ta) (hs:starEach [a] X.env=[(false,eval a X.env)]:=by rfl):QI X tg (.Call (.Name "range" p) [a] [] pos) (Fv ta):=⟨L2.pJ hg hm ha.run hs⟩
theorem A4 {iter:Expr} {body:List Stmt} {wi:TI} {g:TG} {tb:TS} {pos:Pos} (hp:PassesOwn (model X.prog X.w) X.A X.env X.xe) (hc:X.calm=true) (hi:QI X tg iter wi) (hg:QG X tg g) (hb:QB X body tb)
  (hs:∀x,foldedSetIterable iter X.env x=pure x:=by intro _;rfl):QS X (.For tg iter body [] pos) (NI wi g tb):=⟨L2.A4 hp hc hi.run hg.run hb.run hs⟩
end
end Ov
namespace Ov
open PySem PySem.Spec PyProof.Rows
open L2 (V HO Hp Inv Cx VK TE TA Vals RelV fw bS dY R2 upd EP vals1 intsAre_of Gl)
section
variable {X:Cx}
end
end Ov
namespace Ov
open PySem PySem.Spec PyProof.Rows
open L2 (V HO Hp Inv Cx VK TE TA Vals RelV fw bS dY f' R2 upd cA)
inductive Py where
 | non | bl (b:Bool) | int (i:Int) | str (x:Str) | tup (xs:List Py) | lst (xs:List Py)
mutual
def At (K:PySem.W.Frag) (H:Hp):Py→V→Prop
 | .non,v=>v=.non
 | .bl b,v=>v=.bl b
 | .int i,v=>v=.int i
 | .str x,v=>v=.str x
 | .tup xs,v=>∃a vs,v=.ref a∧f' K H a vs∧tX K H xs vs
 | .lst xs,v=>∃a vs,v=.ref a∧dY K H a vs∧tX K H xs vs
def tX (K:PySem.W.Frag) (H:Hp):List Py→List V→Prop
 | [],vs=>vs=[]
 | x :: xs,vs=>∃v us,vs=v :: us∧At K H x v∧tX K H xs us
end
mutual
def lJ:Py→Py→Bool
 | .non,.non=>true
 | .bl a,.bl b=>a == b
 | .int a,.int b=>a == b
 | .bl a,.int b=>(if a then 1 else 0) == b
 | .int a,.bl b=>a == (if b then 1 else 0)
 | .str a,.str b=>a == b
 | .tup xs,.tup ys=>ki xs ys
 | .lst xs,.lst ys=>ki xs ys
 | _,_=>false
def ki:List Py→List Py→Bool
 | [],[]=>true
 | x :: xs,y :: ys=>lJ x y && ki xs ys
 | _,_=>false
end
mutual
def dep:Py→Nat
 | .tup xs=>eA xs + 1
 | .lst xs=>eA xs + 1
 | _=>0
def eA:List Py→Nat
 | []=>0
 | x :: xs=>max (dep x) (eA xs)
end
mutual
theorem yH:∀x:Py,lJ x x=true
 | .non=>rfl
 | .bl b=>by simp [lJ]
 | .int b=>by simp [lJ]
 | .str b=>by simp [lJ]
 | .tup xs=>by simpa [lJ] using pe xs
 | .lst xs=>by simpa [lJ] using pe xs
theorem pe:∀xs:List Py,ki xs xs=true
 | []=>rfl
 | x :: xs=>by simp [ki,yH x,pe xs]
end
mutual
theorem At.same {K:PySem.W.Frag} {H H':Hp} (e:cA H H'):∀{x:Py} {v:V},At K H x v→At K H' x v
 | .non,_,h=>h
 | .bl _,_,h=>h
 | .int _,_,h=>h
 | .str _,_,h=>h
 | .tup xs,_,⟨a,vs,e1,h,k⟩=>⟨a,vs,e1,e.tup h,tX.same e k⟩
 | .lst xs,_,⟨a,vs,e1,h,k⟩=>⟨a,vs,e1,e.seq h,tX.same e k⟩
theorem tX.same {K:PySem.W.Frag} {H H':Hp} (e:cA H H'):∀{xs:List Py} {vs:List V},tX K H xs vs→tX K H' xs vs
 | [],_,h=>h
 | _ :: _,_,⟨v,us,e1,h,k⟩=>⟨v,us,e1,At.same e h,tX.same e k⟩
end
theorem tX.length {K:PySem.W.Frag} {H:Hp}:∀{xs:List Py} {vs:List V},tX K H xs vs→xs.length=vs.length
 | [],_,h=>by cases h;rfl
 | _ :: xs,_,⟨v,us,e1,_,k⟩=>by subst e1;simp [tX.length k]
def DB (xs ys:List Py) (j:Nat):Bool:=match xs[j]?,ys[j]? with
 | some x,some y=>lJ x y
 | _,_=>false
theorem jv:∀(xs ys:List Py),((Vz (min xs.length ys.length)).all (DB xs ys) && (xs.length == ys.length))=ki xs ys
 | [],[]=>rfl
 | [],_ :: _=>by simp [ki]
 | _ :: _,[]=>by simp [ki]
 | x :: xs,y :: ys=>by
  have ih:=jv xs ys
  rw [UT,UT,Nat.succ_min_succ,List.range_succ_eq_map,Wz,List.all_map]
  have e1:(DB (x :: xs) (y :: ys) ∘ Nat.succ)=DB xs ys:=by
   funext j
   simp [DB]
  have e2:(xs.length + 1 == ys.length + 1)=(xs.length == ys.length):=by
   rw [Wo]
   simp
  rw [e1,e2,Bool.and_assoc,ih]
  simp [DB,ki]
section
variable {X:Cx} {pins:List (Addr × Obj)} {σ:L2.St} {H:Hp} {s:Shared}
mutual
theorem At.one (I:Inv X pins σ H s):∀{x y:Py} {v:V},At X.K H x v→At X.K H y v→lJ x y=true
 | .non,y,v,h,k=>by cases h;cases y <;> simp_all [At,lJ]
 | .bl b,y,v,h,k=>by cases h;cases y <;> simp_all [At,lJ]
 | .int b,y,v,h,k=>by cases h;cases y <;> simp_all [At,lJ]
 | .str b,y,v,h,k=>by cases h;cases y <;> simp_all [At,lJ]
 | .tup xs,y,v,h,k=>by
  obtain ⟨a,vs,rfl,h1,h2⟩:=h
  cases y with
  | tup ys =>
   obtain ⟨b,us,e,k1,k2⟩:=k
   cases e
   cases I.Ez h1 k1
   simpa [lJ] using tX.one I h2 k2
  | lst ys =>
   obtain ⟨b,us,e,k1,k2⟩:=k
   cases e
   obtain ⟨_,_,⟨o,e1,c1,_⟩,_⟩:=I.tuple h1
   obtain ⟨_,_,⟨o',n,e2,c2,_⟩,_⟩:=I.list k1
   rw [e1] at e2;cases e2;exact absurd (Value.type.inj (c1.symm.trans c2)) (by decide)
  | _=>cases k
 | .lst xs,y,v,h,k=>by
  obtain ⟨a,vs,rfl,h1,h2⟩:=h
  cases y with
  | lst ys =>
   obtain ⟨b,us,e,k1,k2⟩:=k
   cases e
   cases I.ku h1 k1
   simpa [lJ] using tX.one I h2 k2
  | tup ys =>
   obtain ⟨b,us,e,k1,k2⟩:=k
   cases e
   obtain ⟨_,_,⟨o,e1,c1,_⟩,_⟩:=I.tuple k1
   obtain ⟨_,_,⟨o',n,e2,c2,_⟩,_⟩:=I.list h1
   rw [e1] at e2;cases e2;exact absurd (Value.type.inj (c1.symm.trans c2)) (by decide)
  | _=>cases k
theorem tX.one (I:Inv X pins σ H s):∀{xs ys:List Py} {vs:List V},tX X.K H xs vs→tX X.K H ys vs→ki xs ys=true
 | [],ys,vs,h,k=>by
  cases h
  cases ys with
  | nil=>rfl
  | cons y ys=>obtain ⟨_,_,e,_⟩:=k;cases e
 | x :: xs,ys,vs,h,k=>by
  obtain ⟨v,us,rfl,h1,h2⟩:=h
  cases ys with
  | nil=>cases k
  | cons y ys =>
   obtain ⟨v',us',e,k1,k2⟩:=k
   cases e
   simp [ki,At.one I h1 k1,tX.one I h2 k2]
end
mutual
theorem RC (I:Inv X pins σ H s):∀(x y:Py) {v v':V} {u u':Value} {A:Around},At X.K H x v→At X.K H y v'→RelV v u→RelV v' u'→A.units + dep x < cLine→SeqAt.EqAt A s u u' (lJ x y)
 | .non,y,v,v',u,u',A,h,k,r,r',hu=>by
  cases h;cases r
  cases y with
  | non=>cases k;cases r';exact SeqAt.EqAt.same _
  | bl b=>cases k;cases r';exact SeqAt.EqAt.none_bool _
  | int b=>cases k;obtain ⟨t,rfl⟩:=r';exact SeqAt.EqAt.none_int _ _
  | str b=>cases k;obtain ⟨t,rfl⟩:=r';exact SeqAt.EqAt.none_str _ _
  | tup ys=>obtain ⟨a,vs,rfl,h1,h2⟩:=k;cases r';obtain ⟨_,_,p,_⟩:=I.tuple h1;exact SeqAt.EqAt.none_tuple p (by simpa [dep] using hu)
  | lst ys=>obtain ⟨a,vs,rfl,h1,h2⟩:=k;cases r';obtain ⟨_,_,p,_⟩:=I.list h1;exact SeqAt.EqAt.none_list p.isList (by simpa [dep] using hu)
 | .bl x,y,v,v',u,u',A,h,k,r,r',hu=>by
  cases h;cases r
  cases y with
  | non=>cases k;cases r';exact SeqAt.EqAt.bool_none _
  | bl b=>cases k;cases r';exact SeqAt.EqAt.bool_bool _ _
  | int b=>cases k;obtain ⟨t,rfl⟩:=r';exact SeqAt.EqAt.bool_int _ _ _
  | str b=>cases k;obtain ⟨t,rfl⟩:=r';exact SeqAt.EqAt.bool_str _ _ _
  | tup ys=>obtain ⟨a,vs,rfl,h1,h2⟩:=k;cases r';obtain ⟨_,_,p,_⟩:=I.tuple h1;exact SeqAt.EqAt.bool_tuple _ p (by simpa [dep] using hu)
  | lst ys=>obtain ⟨a,vs,rfl,h1,h2⟩:=k;cases r';obtain ⟨_,_,p,_⟩:=I.list h1;exact SeqAt.EqAt.bool_list _ p.isList (by simpa [dep] using hu)
 | .int x,y,v,v',u,u',A,h,k,r,r',hu=>by
  cases h;obtain ⟨t0,rfl⟩:=r
  cases y with
  | non=>cases k;cases r';exact SeqAt.EqAt.int_none _ _
  | bl b=>cases k;cases r';exact SeqAt.EqAt.int_bool _ _ _
  | int b=>cases k;obtain ⟨t,rfl⟩:=r';exact SeqAt.EqAt.int_int _ _ _ _
  | str b=>cases k;obtain ⟨t,rfl⟩:=r';exact SeqAt.EqAt.int_str _ _ _ _
  | tup ys=>obtain ⟨a,vs,rfl,h1,h2⟩:=k;cases r';obtain ⟨_,_,p,_⟩:=I.tuple h1;exact SeqAt.EqAt.int_tuple _ _ p (by simpa [dep] using hu)
  | lst ys=>obtain ⟨a,vs,rfl,h1,h2⟩:=k;cases r';obtain ⟨_,_,p,_⟩:=I.list h1;exact SeqAt.EqAt.int_list _ _ p.isList (by simpa [dep] using hu)
 | .str x,y,v,v',u,u',A,h,k,r,r',hu=>by
  cases h;obtain ⟨t0,rfl⟩:=r
  cases y with
  | non=>cases k;cases r';exact SeqAt.EqAt.str_none _ _
  | bl b=>cases k;cases r';exact SeqAt.EqAt.str_bool _ _ _
  | int b=>cases k;obtain ⟨t,rfl⟩:=r';exact SeqAt.EqAt.str_int _ _ _ _
  | str b=>cases k;obtain ⟨t,rfl⟩:=r';exact SeqAt.EqAt.str_str _ _ _ _
  | tup ys=>obtain ⟨a,vs,rfl,h1,h2⟩:=k;cases r';obtain ⟨_,_,p,_⟩:=I.tuple h1;exact SeqAt.EqAt.str_tuple _ _ p (by simpa [dep] using hu)
  | lst ys=>obtain ⟨a,vs,rfl,h1,h2⟩:=k;cases r';obtain ⟨_,_,p,_⟩:=I.list h1;exact SeqAt.EqAt.str_list _ _ p.isList (by simpa [dep] using hu)
 | .tup xs,y,v,v',u,u',A,h,k,r,r',hu=>by
  have h0:=h
  obtain ⟨a,vs,rfl,h1,h2⟩:=h
  cases r
  obtain ⟨is,r1,p1,_⟩:=I.tuple h1
  have hu0:A.units < cLine:=by omega
  have hu1:A.in1.units + eA xs < cLine:=by
   have e:dep (.tup xs)=eA xs + 1:=by rw [dep]
   rw [e] at hu
   show A.units + 1 + eA xs < cLine
   omega
  cases y with
  | non=>cases k;cases r';exact SeqAt.EqAt.tuple_none p1 hu0
  | bl b=>cases k;cases r';exact SeqAt.EqAt.tuple_bool _ p1 hu0
  | int b=>cases k;obtain ⟨t,rfl⟩:=r';exact SeqAt.EqAt.tuple_int _ _ p1 hu0
  | str b=>cases k;obtain ⟨t,rfl⟩:=r';exact SeqAt.EqAt.tuple_str _ _ p1 hu0
  | lst ys=>obtain ⟨b,us,rfl,k1,k2⟩:=k;cases r';obtain ⟨_,_,p,_⟩:=I.list k1;exact SeqAt.EqAt.tuple_list p1 p.isList hu0
  | tup ys =>
   have k0:=k
   obtain ⟨b,us,rfl,k1,k2⟩:=k
   cases r'
   by_cases hab:a=b
   ·subst hab
    rw [At.one I h0 k0]
    exact SeqAt.EqAt.same _
   ·obtain ⟨js,r2,p2,_⟩:=I.tuple k1
    refine SeqAt.EqAt.of_refs hab ?_
    have key:=SeqAt.RcAt.tuples (e:=DB xs ys) p1 p2 hu0 λj q1 q2=>rV I xs ys h2 k2 r1 r2 hu1 j (by simpa using q1) (by simpa using q2)
    have e1:is.length=xs.length:=by rw [← r1.length,h2.length]
    have e2:js.length=ys.length:=by rw [← r2.length,k2.length]
    simp only [UD] at key
    rw [e1,e2,jv] at key
    simpa [lJ] using key
 | .lst xs,y,v,v',u,u',A,h,k,r,r',hu=>by
  have h0:=h
  obtain ⟨a,vs,rfl,h1,h2⟩:=h
  cases r
  obtain ⟨is,r1,p1,_⟩:=I.list h1
  have hu0:A.units < cLine:=by omega
  have hu1:A.in1.units + eA xs < cLine:=by
   have e:dep (.lst xs)=eA xs + 1:=by rw [dep]
   rw [e] at hu
   show A.units + 1 + eA xs < cLine
   omega
  cases y with
  | non=>cases k;cases r';exact SeqAt.EqAt.list_none p1.isList hu0
  | bl b=>cases k;cases r';exact SeqAt.EqAt.list_bool _ p1.isList hu0
  | int b=>cases k;obtain ⟨t,rfl⟩:=r';exact SeqAt.EqAt.list_int _ _ p1.isList hu0
  | str b=>cases k;obtain ⟨t,rfl⟩:=r';exact SeqAt.EqAt.list_str _ _ p1.isList hu0
  | tup ys=>obtain ⟨b,us,rfl,k1,k2⟩:=k;cases r';obtain ⟨_,_,p,_⟩:=I.tuple k1;exact SeqAt.EqAt.list_tuple p1.isList p hu0
  | lst ys =>
   have k0:=k
   obtain ⟨b,us,rfl,k1,k2⟩:=k
   cases r'
   by_cases hab:a=b
   ·subst hab
    rw [At.one I h0 k0]
    exact SeqAt.EqAt.same _
   ·obtain ⟨js,r2,p2,_⟩:=I.list k1
    refine SeqAt.EqAt.of_refs hab ?_
    have e1:is.length=xs.length:=by rw [← r1.length,h2.length]
    have e2:js.length=ys.length:=by rw [← r2.length,k2.length]
    have ae:=jv xs ys
    by_cases hl:xs.length=ys.length
    ·have key:=SeqAt.RcAt.lists (e:=DB xs ys) p1.isList p2.isList (by simp only [UD];omega) hu0 λj q1 q2=>rV I xs ys h2 k2 r1 r2 hu1 j (by simpa using q1) (by simpa using q2)
     simp only [UD] at key
     rw [hl,WG] at ae
     have e3:(ys.length == ys.length)=true:=by simp
     rw [e3,Vw] at ae
     rw [e1,hl,ae] at key
     simpa [lJ] using key
    ·have key:=SeqAt.RcAt.lists_lengths p1.isList p2.isList (A:=A) (by simp only [UD];rw [e1,e2];simpa using hl) hu0
     have e3:ki xs ys=false:=by
      rw [← ae]
      have:(xs.length == ys.length)=false:=by simpa using hl
      rw [this,V0]
     simpa [lJ,e3] using key
theorem rV (I:Inv X pins σ H s):∀(xs ys:List Py) {vs us:List V} {is js:List Value} {A:Around},tX X.K H xs vs→tX X.K H ys us→Vals vs is→Vals us js→A.units + eA xs < cLine→∀j (h1:j < is.length) (h2:j < js.length),SeqAt.EqAt A s is[j] js[j] (DB xs ys j)
 | [],ys,vs,us,is,js,A,h,k,r,r',hu,j,h1,h2=>by
  cases h;cases r;exact absurd h1 (V5 _)
 | x :: xs,[],vs,us,is,js,A,h,k,r,r',hu,j,h1,h2=>by
  cases k;cases r';exact absurd h2 (V5 _)
 | x :: xs,y :: ys,vs,us,is,js,A,h,k,r,r',hu,j,h1,h2=>by
  obtain ⟨v,vs',rfl,a1,a2⟩:=h
  obtain ⟨v',us',rfl,b1,b2⟩:=k
  cases r with
  | cons q1 q2 =>
   cases r' with
   | cons z1 z2 =>
    have e:eA (x :: xs)=max (dep x) (eA xs):=by rw [eA]
    rw [e] at hu
    cases j with
    | zero=>exact RC I x y a1 b1 q1 z1 (by omega)
    | succ j =>
     have:=rV I xs ys a2 b2 q2 z2 (A:=A) (by omega) j (by simpa using h1) (by simpa using h2)
     simpa [DB] using this
end
theorem SK (I:Inv X pins σ H s) (x y:Py) {v v':V} {u u':Value} {A:Around} (h:At X.K H x v) (k:At X.K H y v') (r:RelV v u) (r':RelV v' u') (hu:A.units + dep x < cLine):SeqAt.RcAt A s u u' (lJ x y):=by
 have hu0:A.units < cLine:=by omega
 cases x with
 | non =>
  cases h;cases r
  cases y with
  | non=>cases k;cases r';exact SeqAt.RcAt.none_none
  | bl b=>cases k;cases r';exact SeqAt.RcAt.none_bool _
  | int b=>cases k;obtain ⟨t,rfl⟩:=r';exact SeqAt.RcAt.none_int _ _
  | str b=>cases k;obtain ⟨t,rfl⟩:=r';exact SeqAt.RcAt.none_str _ _
  | tup ys=>obtain ⟨b,us,rfl,k1,k2⟩:=k;cases r';obtain ⟨js,r2,p2,_⟩:=I.tuple k1;exact SeqAt.RcAt.none_tuple p2 hu0
  | lst ys=>obtain ⟨b,us,rfl,k1,k2⟩:=k;cases r';obtain ⟨js,r2,p2,_⟩:=I.list k1;exact SeqAt.RcAt.none_list p2.isList hu0
 | bl i =>
  cases h;cases r
  cases y with
  | non=>cases k;cases r';exact SeqAt.RcAt.bool_none _
  | bl b=>cases k;cases r';exact SeqAt.RcAt.bool_bool _ _
  | int b=>cases k;obtain ⟨t,rfl⟩:=r';exact SeqAt.RcAt.bool_int _ _ _
  | str b=>cases k;obtain ⟨t,rfl⟩:=r';exact SeqAt.RcAt.bool_str _ _ _
  | tup ys=>obtain ⟨b,us,rfl,k1,k2⟩:=k;cases r';obtain ⟨js,r2,p2,_⟩:=I.tuple k1;exact SeqAt.RcAt.bool_tuple _ p2 hu0
  | lst ys=>obtain ⟨b,us,rfl,k1,k2⟩:=k;cases r';obtain ⟨js,r2,p2,_⟩:=I.list k1;exact SeqAt.RcAt.bool_list _ p2.isList hu0
 | int i =>
  cases h;obtain ⟨t0,rfl⟩:=r
  cases y with
  | non=>cases k;cases r';exact SeqAt.RcAt.int_none _ _
  | bl b=>cases k;cases r';exact SeqAt.RcAt.int_bool _ _ _
  | int b=>cases k;obtain ⟨t,rfl⟩:=r';exact SeqAt.RcAt.int_int _ _ _ _
  | str b=>cases k;obtain ⟨t,rfl⟩:=r';exact SeqAt.RcAt.int_str _ _ _ _
  | tup ys=>obtain ⟨b,us,rfl,k1,k2⟩:=k;cases r';obtain ⟨js,r2,p2,_⟩:=I.tuple k1;exact SeqAt.RcAt.int_tuple _ _ p2 hu0
  | lst ys=>obtain ⟨b,us,rfl,k1,k2⟩:=k;cases r';obtain ⟨js,r2,p2,_⟩:=I.list k1;exact SeqAt.RcAt.int_list _ _ p2.isList hu0
 | str i =>
  cases h;obtain ⟨t0,rfl⟩:=r
  cases y with
  | non=>cases k;cases r';exact SeqAt.RcAt.str_none _ _
  | bl b=>cases k;cases r';exact SeqAt.RcAt.str_bool _ _ _
  | int b=>cases k;obtain ⟨t,rfl⟩:=r';exact SeqAt.RcAt.str_int _ _ _ _
  | str b=>cases k;obtain ⟨t,rfl⟩:=r';exact SeqAt.RcAt.str_str _ _ _ _
  | tup ys=>obtain ⟨b,us,rfl,k1,k2⟩:=k;cases r';obtain ⟨js,r2,p2,_⟩:=I.tuple k1;exact SeqAt.RcAt.str_tuple _ _ p2 hu0
  | lst ys=>obtain ⟨b,us,rfl,k1,k2⟩:=k;cases r';obtain ⟨js,r2,p2,_⟩:=I.list k1;exact SeqAt.RcAt.str_list _ _ p2.isList hu0
 | tup xs =>
  obtain ⟨a,vs,rfl,h1,h2⟩:=h
  cases r
  obtain ⟨is,r1,p1,_⟩:=I.tuple h1
  have hu1:A.in1.units + eA xs < cLine:=by
   have e:dep (.tup xs)=eA xs + 1:=by rw [dep]
   rw [e] at hu
   show A.units + 1 + eA xs < cLine
   omega
  cases y with
  | non=>cases k;cases r';exact SeqAt.RcAt.tuple_none p1 hu0
  | bl b=>cases k;cases r';exact SeqAt.RcAt.tuple_bool _ p1 hu0
  | int b=>cases k;obtain ⟨t,rfl⟩:=r';exact SeqAt.RcAt.tuple_int _ _ p1 hu0
  | str b=>cases k;obtain ⟨t,rfl⟩:=r';exact SeqAt.RcAt.tuple_str _ _ p1 hu0
  | tup ys =>
   obtain ⟨b,us,rfl,k1,k2⟩:=k;cases r';obtain ⟨js,r2,p2,_⟩:=I.tuple k1
   have e1:is.length=xs.length:=by rw [← r1.length,h2.length]
   have e2:js.length=ys.length:=by rw [← r2.length,k2.length]
   have ae:=jv xs ys
   have key:=SeqAt.RcAt.tuples (e:=DB xs ys) p1 p2 hu0 λj q1 q2=>rV I xs ys h2 k2 r1 r2 hu1 j (by simpa using q1) (by simpa using q2)
   simp only [UD] at key
   rw [e1,e2,ae] at key
   simpa [lJ] using key
  | lst ys=>obtain ⟨b,us,rfl,k1,k2⟩:=k;cases r';obtain ⟨js,r2,p2,_⟩:=I.list k1;exact SeqAt.RcAt.tuple_list p1 p2.isList hu0
 | lst xs =>
  obtain ⟨a,vs,rfl,h1,h2⟩:=h
  cases r
  obtain ⟨is,r1,p1,_⟩:=I.list h1
  have hu1:A.in1.units + eA xs < cLine:=by
   have e:dep (.lst xs)=eA xs + 1:=by rw [dep]
   rw [e] at hu
   show A.units + 1 + eA xs < cLine
   omega
  cases y with
  | non=>cases k;cases r';exact SeqAt.RcAt.list_none p1.isList hu0
  | bl b=>cases k;cases r';exact SeqAt.RcAt.list_bool _ p1.isList hu0
  | int b=>cases k;obtain ⟨t,rfl⟩:=r';exact SeqAt.RcAt.list_int _ _ p1.isList hu0
  | str b=>cases k;obtain ⟨t,rfl⟩:=r';exact SeqAt.RcAt.list_str _ _ p1.isList hu0
  | tup ys=>obtain ⟨b,us,rfl,k1,k2⟩:=k;cases r';obtain ⟨js,r2,p2,_⟩:=I.tuple k1;exact SeqAt.RcAt.list_tuple p1.isList p2 hu0
  | lst ys =>
   obtain ⟨b,us,rfl,k1,k2⟩:=k;cases r';obtain ⟨js,r2,p2,_⟩:=I.list k1
   have e1:is.length=xs.length:=by rw [← r1.length,h2.length]
   have e2:js.length=ys.length:=by rw [← r2.length,k2.length]
   have ae:=jv xs ys
   by_cases hl:xs.length=ys.length
   ·have key:=SeqAt.RcAt.lists (e:=DB xs ys) p1.isList p2.isList (by simp only [UD];omega) hu0 λj q1 q2=>rV I xs ys h2 k2 r1 r2 hu1 j (by simpa using q1) (by simpa using q2)
    simp only [UD] at key
    rw [hl,WG] at ae
    have e3:(ys.length == ys.length)=true:=by simp
    rw [e3,Vw] at ae
    rw [e1,hl,ae] at key
    simpa [lJ] using key
   ·have key:=SeqAt.RcAt.lists_lengths p1.isList p2.isList (A:=A) (by simp only [UD];rw [e1,e2];simpa using hl) hu0
    have e3:ki xs ys=false:=by
     rw [← ae]
     have:(xs.length == ys.length)=false:=by simpa using hl
     rw [this,V0]
    simpa [lJ,e3] using key
theorem Qy (I:Inv X pins σ H s) (x y:Py) {v v':V} {u u':Value} {A:Around} (h:At X.K H x v) (k:At X.K H y v') (r:RelV v u) (r':RelV v' u') (hu:A.units + dep x < cLine):SeqAt.RcNeAt A s u u' (!lJ x y):=by
 have hu0:A.units < cLine:=by omega
 cases x with
 | non =>
  cases h;cases r
  cases y with
  | non=>cases k;cases r';exact SeqAt.RcNeAt.none_none
  | bl b=>cases k;cases r';exact SeqAt.RcNeAt.none_bool _
  | int b=>cases k;obtain ⟨t,rfl⟩:=r';exact SeqAt.RcNeAt.none_int _ _
  | str b=>cases k;obtain ⟨t,rfl⟩:=r';exact SeqAt.RcNeAt.none_str _ _
  | tup ys=>obtain ⟨b,us,rfl,k1,k2⟩:=k;cases r';obtain ⟨js,r2,p2,_⟩:=I.tuple k1;exact SeqAt.RcNeAt.none_tuple p2 hu0
  | lst ys=>obtain ⟨b,us,rfl,k1,k2⟩:=k;cases r';obtain ⟨js,r2,p2,_⟩:=I.list k1;exact SeqAt.RcNeAt.none_list p2.isList hu0
 | bl i =>
  cases h;cases r
  cases y with
  | non=>cases k;cases r';exact SeqAt.RcNeAt.bool_none _
  | bl b=>cases k;cases r';exact SeqAt.RcNeAt.bool_bool _ _
  | int b=>cases k;obtain ⟨t,rfl⟩:=r';exact SeqAt.RcNeAt.bool_int _ _ _
  | str b=>cases k;obtain ⟨t,rfl⟩:=r';exact SeqAt.RcNeAt.bool_str _ _ _
  | tup ys=>obtain ⟨b,us,rfl,k1,k2⟩:=k;cases r';obtain ⟨js,r2,p2,_⟩:=I.tuple k1;exact SeqAt.RcNeAt.bool_tuple _ p2 hu0
  | lst ys=>obtain ⟨b,us,rfl,k1,k2⟩:=k;cases r';obtain ⟨js,r2,p2,_⟩:=I.list k1;exact SeqAt.RcNeAt.bool_list _ p2.isList hu0
 | int i =>
  cases h;obtain ⟨t0,rfl⟩:=r
  cases y with
  | non=>cases k;cases r';exact SeqAt.RcNeAt.int_none _ _
  | bl b=>cases k;cases r';exact SeqAt.RcNeAt.int_bool _ _ _
  | int b=>cases k;obtain ⟨t,rfl⟩:=r';exact SeqAt.RcNeAt.int_int _ _ _ _
  | str b=>cases k;obtain ⟨t,rfl⟩:=r';exact SeqAt.RcNeAt.int_str _ _ _ _
  | tup ys=>obtain ⟨b,us,rfl,k1,k2⟩:=k;cases r';obtain ⟨js,r2,p2,_⟩:=I.tuple k1;exact SeqAt.RcNeAt.int_tuple _ _ p2 hu0
  | lst ys=>obtain ⟨b,us,rfl,k1,k2⟩:=k;cases r';obtain ⟨js,r2,p2,_⟩:=I.list k1;exact SeqAt.RcNeAt.int_list _ _ p2.isList hu0
 | str i =>
  cases h;obtain ⟨t0,rfl⟩:=r
  cases y with
  | non=>cases k;cases r';exact SeqAt.RcNeAt.str_none _ _
  | bl b=>cases k;cases r';exact SeqAt.RcNeAt.str_bool _ _ _
  | int b=>cases k;obtain ⟨t,rfl⟩:=r';exact SeqAt.RcNeAt.str_int _ _ _ _
  | str b=>cases k;obtain ⟨t,rfl⟩:=r';exact SeqAt.RcNeAt.str_str _ _ _ _
  | tup ys=>obtain ⟨b,us,rfl,k1,k2⟩:=k;cases r';obtain ⟨js,r2,p2,_⟩:=I.tuple k1;exact SeqAt.RcNeAt.str_tuple _ _ p2 hu0
  | lst ys=>obtain ⟨b,us,rfl,k1,k2⟩:=k;cases r';obtain ⟨js,r2,p2,_⟩:=I.list k1;exact SeqAt.RcNeAt.str_list _ _ p2.isList hu0
 | tup xs =>
  obtain ⟨a,vs,rfl,h1,h2⟩:=h
  cases r
  obtain ⟨is,r1,p1,_⟩:=I.tuple h1
  have hu1:A.in1.units + eA xs < cLine:=by
   have e:dep (.tup xs)=eA xs + 1:=by rw [dep]
   rw [e] at hu
   show A.units + 1 + eA xs < cLine
   omega
  cases y with
  | non=>cases k;cases r';exact SeqAt.RcNeAt.tuple_none p1 hu0
  | bl b=>cases k;cases r';exact SeqAt.RcNeAt.tuple_bool _ p1 hu0
  | int b=>cases k;obtain ⟨t,rfl⟩:=r';exact SeqAt.RcNeAt.tuple_int _ _ p1 hu0
  | str b=>cases k;obtain ⟨t,rfl⟩:=r';exact SeqAt.RcNeAt.tuple_str _ _ p1 hu0
  | tup ys =>
   obtain ⟨b,us,rfl,k1,k2⟩:=k;cases r';obtain ⟨js,r2,p2,_⟩:=I.tuple k1
   have e1:is.length=xs.length:=by rw [← r1.length,h2.length]
   have e2:js.length=ys.length:=by rw [← r2.length,k2.length]
   have ae:=jv xs ys
   have key:=SeqAt.RcNeAt.tuples (e:=DB xs ys) p1 p2 hu0 λj q1 q2=>rV I xs ys h2 k2 r1 r2 hu1 j (by simpa using q1) (by simpa using q2)
   simp only [UD] at key
   rw [e1,e2,ae] at key
   simpa [lJ] using key
  | lst ys=>obtain ⟨b,us,rfl,k1,k2⟩:=k;cases r';obtain ⟨js,r2,p2,_⟩:=I.list k1;exact SeqAt.RcNeAt.tuple_list p1 p2.isList hu0
 | lst xs =>
  obtain ⟨a,vs,rfl,h1,h2⟩:=h
  cases r
  obtain ⟨is,r1,p1,_⟩:=I.list h1
  have hu1:A.in1.units + eA xs < cLine:=by
   have e:dep (.lst xs)=eA xs + 1:=by rw [dep]
   rw [e] at hu
   show A.units + 1 + eA xs < cLine
   omega
  cases y with
  | non=>cases k;cases r';exact SeqAt.RcNeAt.list_none p1.isList hu0
  | bl b=>cases k;cases r';exact SeqAt.RcNeAt.list_bool _ p1.isList hu0
  | int b=>cases k;obtain ⟨t,rfl⟩:=r';exact SeqAt.RcNeAt.list_int _ _ p1.isList hu0
  | str b=>cases k;obtain ⟨t,rfl⟩:=r';exact SeqAt.RcNeAt.list_str _ _ p1.isList hu0
  | tup ys=>obtain ⟨b,us,rfl,k1,k2⟩:=k;cases r';obtain ⟨js,r2,p2,_⟩:=I.tuple k1;exact SeqAt.RcNeAt.list_tuple p1.isList p2 hu0
  | lst ys =>
   obtain ⟨b,us,rfl,k1,k2⟩:=k;cases r';obtain ⟨js,r2,p2,_⟩:=I.list k1
   have e1:is.length=xs.length:=by rw [← r1.length,h2.length]
   have e2:js.length=ys.length:=by rw [← r2.length,k2.length]
   have ae:=jv xs ys
   by_cases hl:xs.length=ys.length
   ·have key:=SeqAt.RcNeAt.lists (e:=DB xs ys) p1.isList p2.isList (by simp only [UD];omega) hu0 λj q1 q2=>rV I xs ys h2 k2 r1 r2 hu1 j (by simpa using q1) (by simpa using q2)
    simp only [UD] at key
    rw [hl,WG] at ae
    have e3:(ys.length == ys.length)=true:=by simp
    rw [e3,Vw] at ae
    rw [e1,hl,ae] at key
    simpa [lJ] using key
   ·have key:=SeqAt.RcNeAt.lists_lengths p1.isList p2.isList (A:=A) (by simp only [UD];rw [e1,e2];simpa using hl) hu0
    have e3:ki xs ys=false:=by
     rw [← ae]
     have:(xs.length == ys.length)=false:=by simpa using hl
     rw [this,V0]
    simpa [lJ,e3] using key
def rP (K:PySem.W.Frag) (f:Bool→Bool):R2:=λv v' H Q=>∃x y:Py,At K H x v∧At K H y v'∧dep x≤60∧Q (.bl (f (lJ x y))) H
theorem MU (hu:X.A.units + 61 < cLine):fw X (compareOp .Eq) (rP X.K id):=by
 intro pins s σ H x y v u Q I rx ry h
 obtain ⟨a,b,h1,h2,d,q⟩:=h
 exact SK I a b h1 h2 rx ry (by omega) X.prog X.w X.xe _ ⟨.bl _,H,I,rfl,q⟩
theorem MY (hu:X.A.units + 61 < cLine):fw X (compareOp .NotEq) (rP X.K not):=by
 intro pins s σ H x y v u Q I rx ry h
 obtain ⟨a,b,h1,h2,d,q⟩:=h
 exact Qy I a b h1 h2 rx ry (by omega) X.prog X.w X.xe _ ⟨.bl _,H,I,rfl,q⟩
end
end Ov
namespace Ov
open PySem PySem.Spec PySem.Calls PyProof.Rows PySem.W Builtin.Getset_descriptor
section
variable {prog:Program} {w:World} {A:Around} {E:Value→Shared→Prop} {s:Shared} {K:Frag} {x D:Addr}
structure Io (K:Frag) (D:Addr):Prop where
 cls:(clsIn K D).isSome=true
 ga:findIn K (.ref D) "__getattribute__"=some (some (.builtin "BaseException.__getattribute__"))
 gt:findIn K (.ref D) "__getattr__"=some none
 ca:findIn K (.ref D) "__class__"=some (some (.builtin "object.__class__"))
 get:specialIn K (.builtin "object.__class__") "__get__"=some (some (.builtin "getset_descriptor.__get__"))
 tk:takesIn K (.builtin "object.__class__")=some true
 obj:mroIn K D (.type "object")=some true
 bex:subIn K (.ref D) (.type "BaseException")=some true
theorem Io.at {h:Heap} (Z:Io K D) (X:K.In h):∃c d cd sl,h.get? D=some ⟨c,d,.cls cd,sl⟩:=by
 obtain ⟨cd,q⟩:=We.mp Z.cls
 unfold clsIn at q
 split at q
 ·exact ⟨_,_,_,_,X _ _ (by assumption)⟩
 ·cases q
end
end Ov
namespace Ov
open PySem PySem.Spec PyProof.Rows L2
structure BH (P:Program) (w:World) (outer:List Env) (H:Hp) (s:Shared) (ea:Addr) (cls:Value) (H':Hp) (s':Shared):Prop where
 os:s'.os=s.os
 bare:AllBare s'.gens
 un:Un (j3 outer) [] H H' s.heap s'.heap
 hok:ni P w H' s'.heap
 fl:∃B t,Heap.FlyingW B outer ea cls (.ref t) s'.heap∧∀b o,s'.heap.get? b=some o→(H' b≠none∨∃o₀,s.heap.get? b=some o₀)→b ∉ j3 outer→B.get? b=some o
def cn (P:Program) (w:World):nA:=λouter H s E e s'=>∃ea cls H',e=.ref ea∧BH P w outer H s ea cls H' s'∧E cls none H'
theorem I8 {P:Program} {w:World} {H:Hp} {h:Heap} {a:Addr} {o:HO} (x:dH P w H h a o):∃ob,h.get? a=Vf ob:=by
 have lt:=x.lt
 cases o with
 | lst xs=>obtain ⟨_,_,_,_,e⟩:=x;exact ⟨_,e⟩
 | tup xs=>obtain ⟨_,_,_,ob,e,_⟩:=x;exact ⟨_,e⟩
 | dK kvs=>obtain ⟨_,_,_,_,o,_,_,e,_⟩:=x;exact ⟨_,e⟩
 | dE kvs ep=>obtain ⟨_,_,_,_,o,_,e,_⟩:=x;exact ⟨_,e⟩
 | set S n=>obtain ⟨o,_,_,_,e,_⟩:=x;exact ⟨_,e⟩
 | ins C dx fs=>obtain ⟨_,_,_,e,_⟩:=x;exact ⟨_,e⟩
 | own y=>exact x
 | xd fs=>obtain ⟨_,⟨_,_,_,e,_⟩,_⟩:=x;exact ⟨_,e⟩
 | Ol lo hi=>obtain ⟨_,_,_,e⟩:=x;exact ⟨_,e⟩
 | pf ob u=>obtain ⟨e,_⟩:=x;exact ⟨_,e⟩
 | tbl ps=>exact ⟨_,x⟩
 | met f y=>exact ⟨_,x⟩
 | ext φ=>obtain ⟨_,e,_⟩:=x;exact e
section
variable {X:Cx} {pins:List (Addr × Obj)} {σ:L2.St} {H H':Hp} {s:Shared} {ea t:Addr} {cls:Value} {B h1 h2:Heap}
theorem kj (I:Inv X pins σ H s) (un:Un (j3 X.stack) [] H H' s.heap h1) {b:Addr} (hb:b∈j3 X.stack):H' b=none∧∃o,h1.get? b=some o∧∀vs,o.data≠.fields vs:=by
 obtain ⟨_,o,ho,hn⟩:=I.stack.mem hb
 have n:=I.x6 b hb
 obtain ⟨sl,e⟩:=un.any ho n (by simp)
 exact ⟨un.free b o ho n (by simp),_,e,hn⟩
theorem B7 (I:Inv X pins σ H s) (un:Un (j3 X.stack) [] H H' s.heap h1) (cov:∀b o,h1.get? b=some o→(H' b≠none∨∃o₀,s.heap.get? b=some o₀)→b ∉ j3 X.stack→B.get? b=some o)
  (hB:B.StaysIn h2) (up:h1.UpToSlots h2):Un (j3 X.stack) [] H H' s.heap h2 where
 keep:=λb o e n hb hx=>hB b o (cov b o (un.keep b o e n hb hx) (.inr ⟨o,e⟩) hb)
 slot:=λb o e n hb hx=>by
  obtain ⟨sl,e1⟩:=un.slot b o e n hb hx
  obtain ⟨_,o',e2,hn⟩:=kj I un hb
  rw [e1] at e2;cases e2
  obtain ⟨sl',e3⟩:=up b _ e1 hn
  exact ⟨sl',e3⟩
 free:=un.free
 there:=λb o e hx=>by
  obtain ⟨o',e1⟩:=un.there b o e hx
  by_cases hb:b∈j3 X.stack
  ·obtain ⟨_,o2,e2,hn⟩:=kj I un hb
   obtain ⟨sl',e3⟩:=up b _ e2 hn
   exact ⟨_,e3⟩
  ·exact ⟨o',hB b o' (cov b o' e1 (.inr ⟨o,e⟩) hb)⟩
 tups:=un.tups
 frzs:=un.frzs
 tbls:=un.tbls
theorem B6 (I:Inv X pins σ H s) (un:Un (j3 X.stack) [] H H' s.heap h1) (cov:∀b o,h1.get? b=some o→(H' b≠none∨∃o₀,s.heap.get? b=some o₀)→b ∉ j3 X.stack→B.get? b=some o)
  (hB:B.StaysIn h2) (ok:ni X.prog X.w H' h1):ni X.prog X.w H' h2:=λa o e=>by
 have nf:∀b u,H' b=some u→b ∉ j3 X.stack:=λb u q hb=>by
  have:=(kj I un hb).1
  rw [q] at this;cases this
 refine (ok a o e).m9 (λb u hb q=>?_) (λ_ q=>q) λ_ _ q=>q
 rcases hb with rfl | hb
 ·exact hB _ _ (cov _ _ q (.inl (by rw [e];exact λz=>nomatch z)) (nf _ _ e))
 ·exact hB _ _ (cov _ _ q (.inl (by rw [hb];exact λz=>nomatch z)) (nf _ _ hb))
theorem E3 (un:Un (j3 X.stack) [] H H' s.heap h1) (ok:ni X.prog X.w H' h1) (cov:∀b o,h1.get? b=some o→(H' b≠none∨∃o₀,s.heap.get? b=some o₀)→b ∉ j3 X.stack→B.get? b=some o) (hB:B.StaysIn h2) :
  ∀b o,h2.get? b=some o→(H' b≠none∨∃o₀,s.heap.get? b=some o₀)→b ∉ j3 X.stack→B.get? b=some o:=λb o e hb nb=>by
 have:∃o1,h1.get? b=some o1:=by
  rcases hb with z | ⟨o₀,z⟩
  ·cases q:H' b with
   | none=>exact absurd q z
   | some u=>exact I8 (ok b u q)
  ·exact un.there b o₀ z (by simp)
 obtain ⟨o1,e1⟩:=this
 have c:=cov b o1 e1 hb nb
 have:=hB b o1 c
 rw [e] at this;cases this
 exact c
theorem B0 {s2:Shared} (I:Inv X pins σ H s) (hst:X.stack=X.env :: X.outer) (hfr:X.env.frame=some X.env.locals) (hex:X.ex=[]) (os:s2.os=s.os) (bare:AllBare s2.gens) (un:Un (j3 X.stack) [] H H' s.heap s2.heap)
  (ok:ni X.prog X.w H' s2.heap) (cov:∀b o,s2.heap.get? b=some o→(H' b≠none∨∃o₀,s.heap.get? b=some o₀)→b ∉ j3 X.stack→B.get? b=some o) (fl:Heap.FlyingW B X.outer ea cls (.ref t) s2.heap) :
  BH X.prog X.w X.outer X.H₀ X.s₀ ea cls H' s2:=by
 have nst:∀b o,X.s₀.heap.get? b=some o→b ∉ X.fs→b ∉ j3 X.stack:=λb o e nb hb=>by
  rcases UH.mp (I.p5 b hb) with z | z
  ·have:=UJ (Heap.lt_size e) I.ok.above
   rw [z] at this
   exact Vm _ this
  ·exact nb z
 have sub:∀b,b∈X.fs→b∈j3 X.stack:=λb hb=>by rw [hst];unfold j3;rw [Ve,hfr];exact US _ hb
 have nx:∀b:Addr,b ∉ X.ex:=λb=>by rw [hex];simp
 refine ⟨os.trans I.os,bare,⟨λb o e n hb _=>?_,λb o e n hb _=>?_,λb o e n _=>?_,λb o e _=>?_,λb xs q=>un.tups b xs (I.base.tups b xs q),λb o xs q=>un.frzs b o xs (I.base.frzs b o xs q),λb ps q=>?_⟩,ok,B,t,fl,λb o e hb nb=>?_⟩
 ·exact un.keep b o (I.base.keep b o e n hb (nx b)) (I.base.free b o e n (nx b)) (nst b o e hb) (by simp)
 ·obtain ⟨sl,e1⟩:=I.base.slot b o e n hb (nx b)
  obtain ⟨sl',e2⟩:=un.slot b _ e1 (I.base.free b o e n (nx b)) (sub b hb) (by simp)
  exact ⟨sl',e2⟩
 ·obtain ⟨o',e1⟩:=I.base.there b o e (nx b)
  exact un.free b o' e1 (I.base.free b o e n (nx b)) (by simp)
 ·obtain ⟨o',e1⟩:=I.base.there b o e (nx b)
  exact un.there b o' e1 (by simp)
 ·obtain ⟨m1,e1⟩:=I.base.tbls b ps q
  obtain ⟨m2,e2⟩:=un.tbls b _ e1
  exact ⟨m1 ++ m2,by rw [e2,Array.append_assoc]⟩
 ·rcases hb with z | ⟨o₀,z⟩
  ·exact cov b o e (.inl z) λhb=>z (kj I un hb).1
  ·obtain ⟨o1,e1⟩:=I.base.there b o₀ z (nx b)
   exact cov b o e (.inr ⟨o1,e1⟩) (nst b o₀ z nb)
theorem DP {E:XK} {e:Value} {s':Shared} {R:Value→Shared→Prop} (I:Inv X pins σ H s) (hst:X.stack=X.env :: X.outer) (hfr:X.env.frame=some X.env.locals) (hex:X.ex=[]) (h:cn X.prog X.w X.stack H s E e s') :
  wpAny (model X.prog X.w) X.A (leaving X.env e) (λ_ s''=>cn X.prog X.w X.outer X.H₀ X.s₀ E e s'') R s':=by
 obtain ⟨ea,cls,H',rfl,F,q⟩:=h
 obtain ⟨B,t,fl,cov⟩:=F.fl
 refine wpAny_leaves_onW (by rw [I.ok.frames,hst]) hfr (hst ▸ fl) λh2 fl2 up=>?_
 exact ⟨ea,cls,H',rfl,B0 (s2:={ s' with heap:=h2 }) I hst hfr hex F.os F.bare (B7 I F.un cov fl2.1 up) (B6 I F.un cov fl2.1 F.hok) (E3 F.un F.hok cov fl2.1) fl2,q⟩
theorem leave_new {E:XK} {e C:Addr} {args:List Value} {h':Heap} {R:Value→Shared→Prop} (I:Inv X pins σ H s) (hst:X.stack=X.env :: X.outer) (hfr:X.env.frame=some X.env.locals) (hex:X.ex=[])
  (hx:Heap.MadeExcOf s.heap h' e (.ref C) args) (q:E (.ref C) none H) :
  wpAny (model X.prog X.w) X.A (leaving X.env (.ref e)) (λ_ s''=>cn X.prog X.w X.outer X.H₀ X.s₀ E (.ref e) s'') R { s with heap:=h' }:=by
 have hin:∀env∈X.env :: X.outer,∀a,env.frame=some a→a∈j3 X.stack:=λenv he a ha=>by rw [hst];exact VM.mpr ⟨env,he,ha⟩
 have cov:∀b o,s.heap.get? b=some o→(H b≠none∨∃o₀,s.heap.get? b=some o₀)→b ∉ j3 X.stack→(PySem.W.hideAll s.heap (j3 X.stack)).get? b=some o:=λb o e _ nb=>PySem.W.hideAll_get _ e nb
 refine wpAny_leaves_madeW (base:=PySem.W.hideAll s.heap (j3 X.stack)) (by rw [I.ok.frames,hst]) hfr (λb o z=>PySem.W.of_hideAll _ z) (PySem.W.funFrames_hide (hst ▸ I.stack) hin) hx λh2 t fl _ _ up=>?_
 have up2:s.heap.UpToSlots h2:=(Heap.UpToSlots.of_keeps hx.keeps).trans up
 exact ⟨e,.ref C,H,rfl,B0 (s2:={ s with heap:=h2 }) I hst hfr hex rfl I.bare (B7 I Un.refl cov fl.1 up2) (B6 I Un.refl cov fl.1 I.hok) (E3 Un.refl I.hok cov fl.1) fl,q⟩
end
abbrev Rx:List Value:=[.type "ValueError",.type "Exception",.type "BaseException",.type "object"]
structure Own (K:PySem.W.Frag) (mg:Str→Option Value) (x:Str) (C:Addr):Prop where
 mg:mg x=some (.ref C)
 own:PySem.W.excIn K C Rx "ValueError.__new__"=true
 xc:Io K C
theorem Jn {K:PySem.W.Frag} {h:Heap} {C:Addr} {bmB:List Value} {newId:String} (X:K.In h) (q:PySem.W.excIn K C bmB newId=true) :
  ∃bm N nm qn bs hd sn sub ab col dd k0 k1 k2 k3 k5 mN,h.get? C=some (excClassObj nm qn C N bs bm hd sn sub ab col dd k0 k1 k2 k3 k5 newId)∧h.Ns N mN∧mN "__init__"=none∧OwnTail h bmB bm:=by
 unfold PySem.W.excIn at q
 split at q
 ·next dd cd sl ho =>
  split at q
  ·next C' bm k0 k1 k2 k3 n k5 hm hs =>
   simp only [beq_iff_eq,U1,WB] at q
   obtain ⟨⟨⟨⟨⟨rfl,rfl⟩,e3⟩,e4⟩,e5⟩,e6⟩:=q
   cases cd with
   | mk nm bs mro ns qn hd sn sub ab col del =>
    have hm:mro=.ref C' :: bm:=hm
    have e3:del=false:=e3
    subst hm;subst e3
    have hsl:sl=#[k0,k1,k2,k3,some (.builtin n),k5]:=Array.toList_inj.mp hs
    subst hsl
    exact ⟨bm,ns,nm,qn,bs,hd,sn,sub,ab,col,dd,k0,k1,k2,k3,k5,_,X _ _ ho,.of_isNs (PySem.W.isNs_of_in X e5),PySem.W.nsMap_none_of_in X e5 e6,PySem.W.tail_of_in X e4⟩
  ·cases q
 ·cases q
def NO (C:Addr) (E:XK) (t:TA):TS:=λ_ σ H=>t σ H λvs H1=>vs.length≤sizeLine∧E (.ref C) none H1
def Throws (X:Cx) (E:XK):Prop:=∀(pins:List (Addr × Obj)) (σ:L2.St) (H:Hp) (s:Shared) (e C:Addr) (args:List Value) (h':Heap),Inv X pins σ H s→Heap.MadeExcOf s.heap h' e (.ref C) args→E (.ref C) none H→X.xe (.ref e) { s with heap:=h' }
theorem Em {X:Cx} {E:XK} {x:Str} {C:Addr} {e:Expr} {es:List Expr} {np cpos pos:Pos} {t:TA} (O:Own X.K X.mg x C) (hc:X.calm=true) (hx:Throws X E) (hg:Gl X x) (ha:PA X (e :: es) t)
  (hd:(x == ("__debug__":Str))=false:=by decide) (he:starEach (e :: es) X.env=(false,eval e X.env) :: starEach es X.env:=by rfl) (hpl:(backTo cpos (starEach es X.env)).any (·.1)=false:=by rfl) :
  PS X (.Raise (some (.Call (.Name x np) (e :: es) [] cpos)) none pos) (NO C E t):=by
 intro pins s σ H D I h
 obtain ⟨bm,N,nm,qn,bs,hd',sn,sub,ab,col,dd,k0,k1,k2,k3,k5,mN,hC,hN,hni,T⟩:=Jn I.mod.kin O.own
 have hplain:(backTo cpos (starEach (e :: es) X.env)).any (·.1)=false:=by
  rw [he]
  show (false || (backTo cpos (starEach es X.env)).any (·.1))=false
  rw [hpl];rfl
 refine wpAny_Raise_call_subT (C:=C) (N:=N) (nm:=nm) (q:=qn) (bs:=bs) (hdct:=hd') (sn:=sn) (sub:=sub) (ab:=ab) (col:=col) (dd:=dd) (k0:=k0) (k1:=k1) (k2:=k2) (k3:=k3) (k5:=k5) PySem.F.excBase_ValueError (T.hasType (by decide +kernel)) (I.ok.hd hc) hplain hni ?_
 refine nZ I hg O.mg ⟨rfl,?_⟩ hd
 have key:=cM (ha cpos pins s σ H _ I h) (Q':=λus s1=>us.length≤sizeLine∧s1.heap.get? C=some (excClassObj nm qn C N bs bm hd' sn sub ab col dd k0 k1 k2 k3 k5 "ValueError.__new__")∧s1.heap.Ns N mN∧OwnTail s1.heap Rx bm ∧
  ∀h' e,Heap.MadeExcOf s1.heap h' e (.ref C) us→X.xe (.ref e) { s1 with heap:=h' }) λus s1 ⟨vs,H1,I1,r,z,q⟩ =>
   ⟨by rw [← r.length];exact z,I1.bk _ _ hC,hN.keeps I1.bk,T.keeps I1.bk,λh' ea hm=>hx pins σ H1 s1 ea C us h' I1 hm q⟩
 rw [he] at key ⊢
 exact PySem.Calls.evalArgs_plain (cM key λ_ _ z=>⟨rfl,z⟩)
section
variable {P:Program} {w:World} {K:PySem.W.Frag} {mg:Str→Option Value} {base:Heap} {N:List Str} {qual:Str} {scope:Scope} {f:Addr} {cd:Value} {A:Around} {outer:List Env} {s:Shared} {H:Hp} {E:XK}
abbrev yc (P:Program) (w:World) (K:PySem.W.Frag) (mg:Str→Option Value) (base:Heap) (N:List Str) (qual:Str) (scope:Scope) (f:Addr) (cd:Value) (A:Around) (outer:List Env) (s:Shared) (H:Hp) (E:XK):Cx:=Ak (cn P w) P w K mg base N qual scope f cd A outer s H E
theorem bW:Throws (yc P w K mg base N qual scope f cd A outer s H E) E:=λpins σ H1 s1 e C args h' I hm q =>
 leave_new (X:=yc P w K mg base N qual scope f cd A outer s H E) I rfl rfl rfl hm q
theorem rQ:Passes (cn P w) (yc P w K mg base N qual scope f cd A outer s H E) E:=λpins σ H1 s1 e s' I h =>
 DP (X:=yc P w K mg base N qual scope f cd A outer s H E) I rfl rfl rfl h
theorem bG:PassesOwn (model P w) (yc P w K mg base N qual scope f cd A outer s H E).A (yc P w K mg base N qual scope f cd A outer s H E).env (yc P w K mg base N qual scope f cd A outer s H E).xe:=PassesOwn.leaving
theorem Um {x qual:Str} {st:Stmt} {f:Addr} {fd:FuncData} {N ps:List Str} {k:Nat} {sp:Sp} (F:bU K x qual st f fd) (S:aw N ps (au st)) (len:∀vs H Q E,sp vs H Q E→vs.length=ps.length)
  (hbody:∀(cdv:Value) (A:Around) (outer:List Env) (s:Shared) (H:Hp) (vs:List V) (Q:VK) (E:XK),bR k (A.deeper (envOfC qual (au st) s.heap.objs.size f cdv))→sp vs H Q E →
   ∃t,QB (yc P w K mg base N qual (au st) f cdv A outer s H E) (cg st) t∧t { nx:=λ_ H'=>Q .non H',rt:=Q } (start N vs) H):aS P w K mg base (cn P w) (k + 1) f fd ps sp:=by
 obtain ⟨oc,od,kV,doc,pm,an,cdv,ct,osl,rfl,lk,hcd⟩:=F.ex
 refine Fd lk hcd S len λA outer s H vs Q E hr hsp=>?_
 obtain ⟨t,h,q⟩:=hbody cdv A outer s H vs Q E hr hsp
 exact ⟨t,h.run,q⟩
end
def Lr (P:Program) (w:World) (K:PySem.W.Frag) (mg:Str→Option Value) (base:Heap) (k:Nat) (x:Str) (ps:List Str) (sp:Sp):Prop :=
 ∃f fd,aS P w K mg base (cn P w) k f fd ps sp∧Binds K fd ps []∧PySem.W.keepIn K (.ref f)=true∧mg x=some (.ref f)
theorem Jp {X:Cx} {k k':Nat} {x:Str} {ps:List Str} {sp:Sp} {p pos:Pos} {e:Expr} {es:List Expr} {t:TA} {E:XK} (C:Lr X.prog X.w X.K X.mg X.base k x ps sp) (hx:Passes (cn X.prog X.w) X E) (hr:bR k' X.A) (hk:k≤k') (hg:Gl X x) (ha:PA X (e :: es) t)
  (hdb:(x == ("__debug__":Str))=false:=by decide) (he:starEach (e :: es) X.env=(false,eval e X.env) :: starEach es X.env:=by rfl) (hpl:(backTo pos (starEach es X.env)).any (·.1)=false:=by rfl) :
  PE X (.Call (.Name x p) (e :: es) [] pos) (C4 sp [] E t):=by
 obtain ⟨f,fd,F,b,kp,m⟩:=C
 exact Jo F (hr.mono hk) hg m kp b .nil hx ha hdb he hpl
theorem Def.Rz {P:Program} {w:World} {K:PySem.W.Frag} {mg:Str→Option Value} {base:Heap} {x:Str} {st:Stmt} {k:Nat} {ps:List Str} {sp:Sp} (D:Def K mg x st)
  (h:∀f fd,bU K x x st f fd→aS P w K mg base (cn P w) k f fd ps sp)
  (hb:∀(kV doc pm:Value) (an:Option Addr) (cdv ct:Value) (us:List Value),us.length=ps.length→bindArgs (PySem.W.fnOf x x (dZ st) (cg st) (au st) .none kV doc pm an cdv ct) ⟨us,[]⟩=pure (ps.zip us)) :
  Lr P w K mg base k x ps sp:=by
 obtain ⟨f,fd,F,m⟩:=D
 exact ⟨f,fd,h f fd F,F.binds hb,F.kp,m⟩
section
variable {X:Cx} {pins pn:List (Addr × Obj)} {σ:L2.St} {H H':Hp} {s:Shared}
theorem BH.new {ea:Addr} {cls:Value} {s':Shared} (I:Inv X pins σ H s) (F:BH X.prog X.w X.stack H s ea cls H' s'):H' ea=none∧s.heap.get? ea=none:=by
 obtain ⟨B,t,fl,cov⟩:=F.fl
 obtain ⟨oe,vs,he,_,hd,_⟩:=fl.first
 have nf:ea ∉ j3 X.stack:=λhb=>by
  obtain ⟨_,o,ho,hn⟩:=kj I F.un hb
  rw [he] at ho;cases ho
  exact hn vs hd
 have no:¬ (H' ea≠none∨∃o₀,s.heap.get? ea=some o₀):=λz=>by
  have:=cov ea oe he z nf
  rw [fl.2.1] at this;cases this
 refine ⟨?_,?_⟩
 ·cases q:H' ea with
  | none=>rfl
  | some u=>exact absurd (.inl (by rw [q];exact λz=>nomatch z)) no
 ·cases q:s.heap.get? ea with
  | none=>rfl
  | some u=>exact absurd (.inr ⟨u,q⟩) no
end
end Ov
namespace Ov
open PySem PySem.Spec PyProof.Rows
open L2 (V HO Hp Inv Cx St VK TE TT TA TS Ends Loc Gl RelV Vals fw bS C4 upd E0 bR XK Passes)
section
variable {X:Cx} {e:Expr} {es:List Expr} {t:TA} {x:Str} {np cpos pos p:Pos}
end
open PySem.W in
def HF (K:Frag) (D:Addr):Bool:=(clsIn K D).isSome && findIn K (.ref D) "__getattribute__" == some (some (.builtin "BaseException.__getattribute__")) && findIn K (.ref D) "__getattr__" == some none &&
 findIn K (.ref D) "__class__" == some (some (.builtin "object.__class__")) && specialIn K (.builtin "object.__class__") "__get__" == some (some (.builtin "getset_descriptor.__get__")) && takesIn K (.builtin "object.__class__") == some true &&
 mroIn K D (.type "object") == some true && subIn K (.ref D) (.type "BaseException") == some true
theorem Ki {K:PySem.W.Frag} {D:Addr} (h:HF K D=true):Io K D:=by
 simp only [HF,U1,beq_iff_eq] at h
 obtain ⟨⟨⟨⟨⟨⟨⟨a,b⟩,c⟩,d⟩,e⟩,f⟩,g⟩,i⟩:=h
 exact ⟨a,b,c,d,e,f,g,i⟩
open L2 (Ex Kb C5 Ey NS tC NH vd)
theorem _root_.L2.bR.aQ {k:Nat} {A:Around} (r:bR k A):A.units + 61 < cLine:=by have:=r.un;omega
end Ov
namespace Ov
open PySem PySem.Spec PyProof.Rows L2
def fB (P:Addr) (h:Heap):Prop:=∃ps:Array Value,h.get? P=some { cls:=.none,data:=.fields ps }∧TriplesOk ps.toList
def uN (K:PySem.W.Frag) (c P:Addr):Prop:=c≠P∧∃(o:Obj) (vs:Array Value) (file:Str) (tf:Tok) (flags:Int) (tg:Tok) (inF:Bool) (text:Int) (tt:Tok),
 K.lookup c=some o∧o.cls=.type "code"∧o.data=.fields vs∧vs[11]?=some (.ref P)∧vs.getD 18 .none=.str file tf∧vs.getD 7 .none=.int flags tg∧vs.getD 9 .none=.bool inF∧vs.getD 10 .none=.int text tt
def BMain (mg:Str→Option Value) (h:Heap):Prop:=∃bm ob,mg "__builtins__"=some (.ref bm)∧bm≠builtinsNs∧h.get? bm=some ob∧ob.cls=.type "module"∧ob.dict=some builtinsNs∧ob.data=.plain
theorem uN.at {K:PySem.W.Frag} {h:Heap} {c P:Addr} {ps:Array Value} (Z:uN K c P) (X:K.In h) (hp:h.get? P=some { cls:=.none,data:=.fields ps }) (tr:TriplesOk ps.toList):h.IsCode c P ps∧h.TableAt c P ps:=by
 obtain ⟨ne,o,vs,file,tf,flags,tg,inF,text,tt,lk,hc,hd,h11,h18,h7,h9,h10⟩:=Z
 have e11:vs.getD 11 .none=.ref P:=by
  rw [Array.getD_eq_getD_getElem?,h11];rfl
 exact ⟨⟨o,vs,file,tf,flags,tg,inF,text,tt,_,X _ _ lk,hd,e11,h18,h7,h9,h10,hp,rfl,tr,ne⟩,⟨o,vs,X _ _ lk,hc,hd,h11⟩,hp⟩
section
variable {X:Cx} {pins:List (Addr × Obj)} {σ:L2.St} {H:Hp} {s:Shared} {c P:Addr}
theorem IE {s':Shared} (I:Inv X pins σ H s) (hP:H P=some (.ext (fB P))) (os:s'.os=s.os) (bare:AllBare s'.gens) (k:∀b o,b≠P→s.heap.get? b=some o→s'.heap.get? b=some o) (t:fB P s'.heap):Inv X pins σ H s':=by
 have nP:∀b,H b=none→b≠P:=λb n z=>by rw [z,hP] at n;cases n
 have hok:ni X.prog X.w H s'.heap:=λb u e=>by
  by_cases hb:b=P
  ·subst hb
   rw [hP] at e;cases e
   obtain ⟨ps,hp,_⟩:=id t
   exact ⟨t,⟨_,hp⟩,((I.hok b _ hP)).2.2⟩
  ·refine (I.hok b u e).m9 (λd v hd q=>k d v ?_ q) (λ_ q=>q) λ_ _ q=>q
   rcases hd with rfl | hd
   ·exact hb
   ·intro z
    rw [z,hP] at hd;cases hd
 have un:Un (j3 X.stack) [] H H s.heap s'.heap:=⟨λb o e n _ _=>k b o (nP b n) e,λb o e n _ _=>⟨o.slots,k b o (nP b n) e⟩,λ_ _ _ n _=>n,λb o e _=>by
  by_cases hb:b=P
  ·subst hb
   obtain ⟨ps,hp,_⟩:=t
   exact ⟨_,hp⟩
  ·exact ⟨o,k b o hb e⟩,λ_ _ q=>q,λ_ _ _ q=>q,λ_ ps q=>⟨#[],by rw [q];simp⟩⟩
 exact I.OO os un hok bare λb z=>absurd z (by simp)
theorem Fm {M:Model} {A:Around} {E:Value→Shared→Prop} {env:Env} {pos:Pos} {q:Str} {sc:Scope} {Q:Value→Shared→Prop} {s:Shared} (hc:env.code=.ref c) (Z:uN X.K c P) (kin:X.K.In s.heap) (t:fB P s.heap)
  (h:∀code h' tk,(∀b o,b≠P→s.heap.get? b=some o→h'.get? b=some o)→s.heap.objs.size≤h'.objs.size→fB P h'→Q code { s with heap:=h',toks:=tk }):wpAny M A (genexprCode env pos q sc) Q E s:=by
 obtain ⟨ps,hp,tr⟩:=t
 obtain ⟨ic,ta⟩:=Z.at kin hp tr
 cases hf:codeAmong pos ps.toList with
 | some c'=>exact wpAny_genexprCode_hit hc ic hf (h c' s.heap s.toks (λ_ _ _ e=>e) (UC _) ⟨ps,hp,tr⟩)
 | none =>
  refine wpAny_genexprCodeX hc ic ta hf λc' h' tk ext l1 l2 ic' _ ta' _=>h _ h' tk (λb o nb e=>ext b o nb e) (V9 (Vi l1 l2)) ⟨_,ta'.2,?_⟩
  obtain ⟨_,_,_,_,_,_,_,_,_,_,_,_,_,_,_,_,_,hop,hpd,tr',_⟩:=ic'
  exact tr'
theorem EV {α:Type} (B:List α) (q:α→Bool):((Vz B.length).all λj=>(B[j]?).elim true q)=B.all q:=by
 rw [Wo,V2,V2]
 refine ⟨λh b hb=>?_,λh j hj=>?_⟩
 ·obtain ⟨j,hj,rfl⟩:=U7 hb
  have:=h j (VY.mpr hj)
  rwa [Ut hj] at this
 ·have hj:=VY.mp hj
  rw [Ut hj]
  exact h _ (UP hj)
def fv (tx:Str) (ch:Nat):Bool:=!(Builtin.Str.occurrences tx ⟨#[ch]⟩ 0 tx.length 1).isEmpty
def NF (P:Addr) (tx:Str) (ti:TE):TE:=λσ H Q=>ti σ H λv H1=>∃y:Str,v=.str y∧H1 P=some (.ext (fB P))∧Q (.bl (y.cps.toList.all (fv tx))) H1
theorem GP {prog:Program} {w:World} {env:Env} {scope:Scope} {x g:Str} {tx y:Str} {tt:Tok} {C:Addr} {code:Value} {fp wr:List Addr} {href:Heap} {D U:Nat} {p1 p2 p3:Pos} {mg:Str→Option Value} (sck:scope.kind=.function) (hx:scope.names.lookup x=some .local) (hg:scope.names.lookup g=some .globalImplicit)
  (ns:href.Ns env.globals mg) (hm:mg g=some (.str tx tt)) (h1:env.globals∈fp) (h2:env.globals ∉ wr) (hmk:behindInMarks .In (.Name g p2)=false) (hdx:(x == ("__debug__":Str))=false) (hdg:(g == ("__debug__":Str))=false) :
  QuietGenD prog w (genEnv scope [] C code builtinsNs env) x [] (.Compare (.Name x p1) [.In] [.Name g p2] p3) fp wr (SignAt y) (λ_=>true) (λi v=>∃ch,y.cps[i]?=some ch∧v=.bool (fv tx ch)) href D U where
 tests:=λA' E' i v s₂ m₂ _ _ _ _ _ _ _=>wpAny_pure ⟨rfl,_,_,rfl,λ_ _ e=>e⟩
 elt:=λA' E' i v s₂ m₂ _ _ _ hP _ hn hmx hk=>by
  obtain ⟨ch,u,hch,rfl⟩:=hP
  refine wpAny_Compare1 (wpAny_Name (wpAny_loadName_local (show (genEnv scope [] C code builtinsNs env).scope.kind=.function from sck) (show (genEnv scope [] C code builtinsNs env).kindOf x=some .local from hx) hn hmx ?_) hdx) hmk
  refine Calls.Name_function_global (show (genEnv scope [] C code builtinsNs env).scope.kind=.function from sck) (show (genEnv scope [] C code builtinsNs env).kindOf g=some .globalImplicit from hg) (Calls.loadGlobal_global (ns.at' λo e=>hk _ h1 h2 o e) hm ?_) hdg
  exact in_str ⟨⟨ch,hch,rfl⟩,_,_,rfl,λ_ _ e=>e⟩
theorem Ej {x g:Str} {p px p1 p2 p3 gpos cpos:Pos} {iter:Expr} {ti:TE} {scope:Scope} {tx:Str} {tt:Tok} (hcalm:X.calm=true) (Bm:BMain X.mg X.base) (hcode:X.env.code=.ref c) (Z:uN X.K c P) (hdep:X.A.depth < recursionLimit)
  (hgl:Gl X "all") (hma:X.mg "all"=none) (hsg:X.mg g=some (.str tx tt)) (hi:PE X iter ti) (sck:scope.kind=.function) (hco:scope.isCoroutine=false) (hclos:closureFor scope X.env=pure []) (hcell:∀y∈scope.names,y.2≠.cell)
  (h0:scope.names.lookup (".0":Str)=some NameKind.local) (hx:scope.names.lookup x=some .local) (hsc:scope.names.lookup g=some .globalImplicit) (hmk:behindInMarks .In (.Name g p2)=false) (hs:∀x,genFold iter X.env x=pure x)
  (hst:starEach [.GeneratorExp (.Compare (.Name x p1) [.In] [.Name g p2] p3) [⟨.Name x px,iter,[],0⟩] scope gpos] X.env=[(false,eval (.GeneratorExp (.Compare (.Name x p1) [.In] [.Name g p2] p3) [⟨.Name x px,iter,[],0⟩] scope gpos) X.env)])
  (hdx:(x == ("__debug__":Str))=false) (hdg:(g == ("__debug__":Str))=false) :
  PE X (.Call (.Name "all" p) [.GeneratorExp (.Compare (.Name x p1) [.In] [.Name g p2] p3) [⟨.Name x px,iter,[],0⟩] scope gpos] [] cpos) (NF P tx ti):=by
 intro pins s σ H Q I h
 refine wpAny_Call_Name_kw (mI I hgl hma PyProof.Rows.Boot.«all» ?_)
 refine PyProof.Rows.callWith_builtin1 ?_ hst rfl
 rw [hst]
 show wpAny _ _ (spliced ((false,eval (.GeneratorExp (.Compare (.Name x p1) [.In] [.Name g p2] p3) [⟨.Name x px,iter,[],0⟩] scope gpos) X.env) :: [])) _ _ s
 refine Calls.spliced_cons ?_
 refine wpAny_GeneratorExp_walksQD (I.ok.hd hcalm) hco hclos hcell h0 hx sck hdep ?_ hs
 refine cM (hi pins s σ H _ I h) λxv s1 ⟨v,H1,I1,r1,y,ev,hP,q⟩=>?_
 subst ev
 obtain ⟨ty,rfl⟩:=r1
 have t1:fB P s1.heap:=(I1.hok P _ hP).1
 have ltP:P < s1.heap.objs.size:=I1.hok.lt hP
 refine wpAny_pyIter_str λo St W st0=>?_
 have k1:∀b ob,s1.heap.get? b=some ob→(s1.heap.push o).get? b=some ob:=λb ob e=>Heap.get?_push_of_some _ e
 refine ⟨I1.nolimit.keeps k1,?_⟩
 have t2:fB P (s1.heap.push o):=let ⟨ps,hp,tr⟩:=t1;⟨ps,k1 _ _ hp,tr⟩
 refine Fm (X:=X) (s:={ s1 with heap:=s1.heap.push o }) hcode Z (I1.nW.keeps k1) t2 λcode h' tk k sz t'=>?_
 have kk:∀b ob,b≠P→s1.heap.get? b=some ob→h'.get? b=some ob:=λb ob nb e=>k b ob nb (k1 b ob e)
 have nsP:∀(b:Addr) (m:Str→Option Value),s1.heap.Ns b m→b≠P:=λb m hn z=>by
  obtain ⟨ob,es,ep,ho,hd,_⟩:=hn
  obtain ⟨ps,hp,_⟩:=t1
  rw [z,hp] at ho;cases ho;cases hd
 have nsK:∀(b:Addr) (m:Str→Option Value),s1.heap.Ns b m→h'.Ns b m:=λb m hn=>hn.at' λob e=>kk b ob (nsP b m hn) e
 have nsG:s1.heap.Ns X.env.globals X.mg:=by rw [I1.ok.glob];exact I1.mod.glob.keeps I1.bk
 have nl:h'.NoLimit:=let ⟨mc,h1,h2⟩:=I1.nolimit;⟨mc,nsK _ _ h1,h2⟩
 have ltC:cStatics < s1.heap.objs.size:=let ⟨mc,h1,_⟩:=I1.nolimit;h1.lt
 have szI:s1.heap.objs.size < h'.objs.size:=UJ (by rw [Heap.size_push];exact VJ _) sz
 obtain ⟨bm,ob,b1,b2,b3,b4,b5,b6⟩:=Bm
 have b3':=I1.bk _ _ b3
 have nbm:bm≠P:=λz=>by
  obtain ⟨ps,hp,_⟩:=t1
  rw [z,hp] at b3'
  rw [← Option.some.inj b3'] at b6;cases b6
 refine wpAny_builtinsFor (nsK _ _ nsG) b1 b2 (kk _ _ nbm b3') b4 b5 b6 ?_
 refine ⟨s1.heap.objs.size,[s1.heap.objs.size],[s1.heap.objs.size],y.cps.size,SignAt y,St,λ_=>true,λi v=>∃ch,y.cps[i]?=some ch∧v=.bool (fv tx ch),rfl,W,
  (W X.A (I.ok.hd hcalm)).frame _ _ _ st0 λb hb o' e=>k b o' (by rw [UE.mp hb];exact Wm ltP) e,λb hb=>by rw [UE.mp hb];exact szI,nl,
  λhb=>UW ltC (UE.mp hb),λhref kh=>GP sck hx hsc ((nsK _ _ nsG).keeps kh) hsg (VY.mpr (nsK _ _ nsG).lt) (λhb=>UW nsG.lt (UE.mp hb)) hmk hdx hdg,λa h5 tk5 gs hgs ltA szA k5 WS G=>?_⟩
 refine Calls.spliced_nil ?_
 have pall:passing (λ_=>true) y.cps.size 0=Vz y.cps.size:=by simp [passing]
 have WS:=WS.in4_1
 refine call_all_walkS (WS.self 0 _ _ _ G ⟨a,_,_,_,_,_,_,(λj=>(y.cps.toList[j]?).elim true (fv tx)),rfl,WS,G,λj v s Q E hv hQ=>?_,λs' hm=>?_⟩)
 ·obtain ⟨i,hi,ch,hch,rfl⟩:=hv
  rw [pall] at hi
  have hji:i=j:=by
   obtain ⟨hj,e⟩:=Uv.mp hi
   simpa using e.symm
  subst hji
  have e:y.cps.toList[i]?=some ch:=by simpa using hch
  simp only [e,Option.elim] at hQ
  exact wpAny_truthy_bool hQ
 ·have nwr:∀b,b < s1.heap.objs.size→b ∉ h'.objs.size :: [s1.heap.objs.size]:=λb hb hm=>by
   rcases UH.mp hm with z | z
   ·omega
   ·have:=UE.mp z
    omega
  refine ⟨.bl _,H1,IE I1 hP hm.os ((I1.bare.push hgs).movedS hm) (λb o' nb e=>hm.heap b o' (nwr b (Heap.lt_size e)) (k5 b o' (kk b o' nb e))) ?_,rfl,?_⟩
  ·obtain ⟨ps,hp,tr⟩:=t'
   exact ⟨ps,hm.heap P _ (nwr P ltP) (k5 P _ hp),tr⟩
  ·rw [pall]
   have e:y.cps.size=y.cps.toList.length:=by simp
   have z:=EV y.cps.toList (fv tx)
   rw [WC,e,z]
   exact q
end
section
variable {X:Cx} {c P:Addr}
end
structure Ie (K:PySem.W.Frag) (mg:Str→Option Value) (x:Str) (st:Stmt) (P:Addr) (f:Addr) (fd:FuncData) (c:Addr):Prop where
 fn:bU K x x st f fd
 mg:mg x=some (.ref f)
 code:fd.code=.ref c
 tab:uN K c P
 out:K.lookup P=none
def zZ (K:PySem.W.Frag) (mg:Str→Option Value) (x:Str) (st:Stmt) (P:Addr):Prop:=∃f fd c,Ie K mg x st P f fd c
section
variable {P:Program} {w:World} {K:PySem.W.Frag} {mg:Str→Option Value} {base:Heap}
end
def codeB (vs:Array Value):Bool:=(match vs.getD 18 .none with | .str _ _=>true | _=>false) && (match vs.getD 7 .none with | .int _ _=>true | _=>false) && (match vs.getD 9 .none with | .bool _=>true | _=>false) && (match vs.getD 10 .none with | .int _ _=>true | _=>false)
theorem Iu {K:PySem.W.Frag} {h:Heap} {mg:Str→Option Value} {x:Str} {st:Stmt} (X:K.In h) (G:h.Ns mainGlobals mg) {f c T:Addr} {od an od':Option Addr} {sl sl':Array (Option Value)} {vs:Array Value} {oc kV dc pm ct:Value}
  (a:PySem.W.nsIn K mainGlobals x=some (some (.ref f))) (l:K.lookup f=some ⟨oc,od,.func (PySem.W.fnOf x x (dZ st) (cg st) (au st) .none kV dc pm an (.ref c) ct),sl⟩) (cc:PySem.W.codeIn K (.ref c) x=true) (k:PySem.W.keepIn K (.ref f)=true)
  (t:K.lookup c=some ⟨.type "code",od',.fields vs,sl'⟩) (p:vs[11]?=some (.ref T)) (b:codeB vs=true) (ne:c≠T) (out:K.lookup T=none):zZ K mg x st T:=by
 refine ⟨f,_,c,Ap l cc k,PySem.W.mg_of X G a,rfl,⟨ne,?_⟩,out⟩
 simp only [codeB,U1] at b
 obtain ⟨⟨⟨b1,b2⟩,b3⟩,b4⟩:=b
 cases e1:vs.getD 18 .none with
 | str file tf =>
  cases e2:vs.getD 7 .none with
  | int fl tg =>
   cases e3:vs.getD 9 .none with
   | bool inF =>
    cases e4:vs.getD 10 .none with
    | int text tt=>exact ⟨_,vs,file,tf,fl,tg,inF,text,tt,t,rfl,rfl,p,e1,e2,e3,e4⟩
    | _=>rw [e4] at b4;cases b4
   | _=>rw [e3] at b3;cases b3
  | _=>rw [e2] at b2;cases b2
 | _=>rw [e1] at b1;cases b1
def OD (K:PySem.W.Frag) (mg:Str→Option Value) (names:List Str) (T:Addr):Prop:=∃x∈names,∃st,zZ K mg x st T
theorem DM {P:Program} {w:World} {K:PySem.W.Frag} {mg mb:Str→Option Value} {k:Nat} {fa a:Addr} {fd:FuncData} {x:Str} {sp:Sp} {s₁:Shared} {vs:List Value} {ns:List Int} {tabs:List Addr}
  (KX:K.In s₁.heap) (hns:s₁.heap.Ns mainGlobals mg) (hb:s₁.heap.Ns builtinsNs mb) (hbb:∀x:Str,x≠"__name__"→mb x=bootBuiltins x) (hlim:s₁.heap.NoLimit) (hg:s₁.gens=#[])
  (ha:s₁.heap.get? a=some { cls:=.type "list",data:=.seq vs.toArray }) (hi:IntsAre vs ns) (hl:ns.length≤sizeLine) (hr:bR k callerA) (hbm:BMain mg s₁.heap)
  (htab:∀T∈tabs,isCodeTable s₁.heap T∧s₁.heap.get? T=some { cls:=.none,data:=.fields #[] }∧K.lookup T=none)
  (F:∀base:Heap,K.In base→base.Ns mainGlobals mg→BMain mg base→aS P w K mg base N8 k fa fd [x] sp) (hbind:∀(s:Shared) (u:Value),BindsTo s fd ⟨[u],[]⟩ [(x,u)])
  (hsp:∀H:Hp,(∀T∈tabs,H T=some (.ext (fB T)))→dY K H a (ns.map V.int)→(∀b,H b≠none→b=a∨b∈tabs)→(∀u,H a=some u→∃o xs,u=.pf o (.lst xs))→sp [.ref a] H (λv H'=>v=.bl true∧cA H H') λ_ _ _=>False) :
  codeAny (model P w) callerA (.call (.ref fa) ⟨[.ref a],[]⟩) (λr s'=>r=.ok (.ret (.bool true))∧OldK s₁.heap s'.heap∧s'.os=s₁.os∧AllBare s'.gens) s₁:=by
 have rv:=vL hi
 have lenV:=hi.length
 have naT:∀T∈tabs,T≠a:=λT hT z=>by
  have:=(htab T hT).2.1
  rw [z,ha] at this
  have h1:=congrArg Obj.cls (Option.some.inj this)
  cases h1
 have core:∀H:Hp,(∀T∈tabs,H T=some (.ext (fB T)))→dY K H a (ns.map V.int)→ni P w H s₁.heap→(∀b,H b≠none→b=a∨b∈tabs)→(∀u,H a=some u→K.lookup a=none∧∃o xs,u=.pf o (.lst xs)) →
   codeAny (model P w) callerA (.call (.ref fa) ⟨[.ref a],[]⟩) (λr s'=>r=.ok (.ret (.bool true))∧OldK s₁.heap s'.heap∧s'.os=s₁.os∧AllBare s'.gens) s₁:=by
  intro H hT hS hok hA hK
  have base_of:∀{b:Addr} {o:Obj},s₁.heap.get? b=some o→H b=none→(uq s₁.heap H).get? b=some o:=λe n=>Ft e n
  have no:∀{b:Addr} {o:Obj},s₁.heap.get? b=some o→(∀xs n,o.data≠.seq xs n)→(∀xs,o.data≠.fields xs)→H b=none:=λ{b o} e d1 d2=>by
   cases q:H b with
   | none=>rfl
   | some u =>
    rcases hA b (by rw [q];simp) with rfl | hb
    ·rw [ha] at e;cases e;exact absurd rfl (d1 _ _)
    ·rw [(htab b hb).2.1] at e;cases e;exact absurd rfl (d2 _)
  have nsK:∀{b:Addr} {m:Str→Option Value},s₁.heap.Ns b m→(uq s₁.heap H).Ns b m:=λ{b m} ⟨o,es,ep,e,d,r⟩=>⟨o,es,ep,base_of e (no e (λ_ _ z=>by rw [d] at z;cases z) λ_ z=>by rw [d] at z;cases z),d,r⟩
  have hKb:K.In (uq s₁.heap H):=λb o e=>base_of (KX b o e) (by
   cases q:H b with
   | none=>rfl
   | some u =>
    rcases hA b (by rw [q];simp) with rfl | hb
    ·have:=(hK u q).1
     exact absurd (this.symm.trans e) (λz=>nomatch z)
    ·have:=(htab b hb).2.2
     exact absurd (this.symm.trans e) (λz=>nomatch z))
  have hM:Mod K mg (uq s₁.heap H):=⟨hKb,nsK hns,⟨mb,nsK hb,hbb⟩,let ⟨mc,h1,h2⟩:=hlim;⟨mc,nsK h1,h2⟩⟩
  have hbm':BMain mg (uq s₁.heap H):=by
   obtain ⟨bm,ob,b1,b2,b3,b4,b5,b6⟩:=hbm
   exact ⟨bm,ob,b1,b2,base_of b3 (no b3 (λ_ _ z=>by rw [b6] at z;cases z) λ_ z=>by rw [b6] at z;cases z),b4,b5,b6⟩
  have e0:z_ P w K mg (uq s₁.heap H) callerA [] s₁ H:=⟨rfl,hM,λb o e=>I9 e,Nat.le_of_eq (DI _ _),trivial,λb hb=>absurd (show b∈([]:List Addr) from hb) (by simp),hok,.of_eq hg⟩
  refine codeAny_mono ((F _ hKb (nsK hns) hbm').run callerA [] s₁ H ⟨[.ref a],[]⟩ [.ref a] [.ref a] _ _ hr e0 (hbind s₁ (.ref a)) (.cons rfl .nil) (hsp H hT hS hA λu z=>(hK u z).2)) λr s' h=>?_
  cases r with
  | error e=>exact False.elim h
  | ok fl =>
   cases fl with
   | next=>exact False.elim h
   | brk=>exact False.elim h
   | cont=>exact False.elim h
   | ret u =>
    obtain ⟨v,H',os,bare,un,hok',r',rfl,same⟩:=h
    obtain rfl:u=Value.bool true:=r'
    refine ⟨rfl,⟨λb o e=>?_,λb o e=>?_⟩,os,bare⟩
    ·cases q:H b with
     | none=>exact .inl (un.keep b o e q (by intro z;exact absurd (show b∈([]:List Addr) from z) (by simp)) (by simp))
     | some u =>
      have q':=same b u q
      rcases hA b (by rw [q];simp) with rfl | hb'
      ·obtain ⟨_,ob,xs,rfl⟩:=hK u q
       obtain ⟨e1,_⟩:=hok _ _ q
       obtain ⟨e2,_⟩:=hok' _ _ q'
       rw [e] at e1;cases e1
       exact .inl e2
      ·have hz:=hT b hb'
       rw [q] at hz;cases hz
       obtain ⟨⟨ps,hp,_⟩,_⟩:=hok' _ _ q'
       obtain ⟨t1,t2,_⟩:=htab b hb'
       rw [t2] at e;cases e
       exact .inr (.inl ⟨t1,rfl,#[],ps,rfl,by rw [hp];simp⟩)
    ·exact un.there b o e (by simp)
 have hTt:∀T∈tabs,∀H:Hp,dH P w H s₁.heap T (.ext (fB T)):=λT hT H=>by
  have:=(htab T hT).2.1
  exact ⟨⟨#[],this,trivial⟩,⟨_,this⟩,λh1 h2 ⟨ps,hp,tr⟩ kk=>⟨ps,kk _ hp,tr⟩⟩
 cases hk:K.lookup a with
 | some o =>
  have e:=KX a o hk
  rw [ha] at e
  cases e
  refine core (λb=>if b∈tabs then some (.ext (fB b)) else none) (λT hT=>if_pos hT) (.inr ⟨_,vs.toArray,_,hk,rfl,rfl,rfl,by rw [UD,lenV];exact hl,by simpa using rv⟩) (λb u z=>?_) (λb z=>?_) λu z=>?_
  ·by_cases hb:b∈tabs
   ·have z':=(if_pos hb).symm.trans z
    cases z'
    exact hTt b hb _
   ·have z':=(if_neg hb).symm.trans z
    cases z'
  ·by_cases hb:b∈tabs
   ·exact .inr hb
   ·exact absurd (if_neg hb) z
  ·have hb:a ∉ tabs:=λhb=>naT a hb rfl
   have z':=(if_neg hb).symm.trans z
   cases z'
 | none =>
  refine core (λb=>if b=a then some (.pf { cls:=.type "list",data:=.seq vs.toArray } (.lst (ns.map V.int))) else if b∈tabs then some (.ext (fB b)) else none) (λT hT=>?_) (.inl (.inr ⟨{ cls:=.type "list",data:=.seq vs.toArray },if_pos rfl⟩)) (λb u z=>?_) (λb z=>?_) λu z=>?_
  ·show (if T=a then _ else _)=_
   rw [if_neg (naT T hT),if_pos hT]
  ·by_cases hb:b=a
   ·have z':=(if_pos hb).symm.trans z
    cases z'
    subst hb
    exact ⟨ha,by rw [Us];exact hl,vs,_,rv,ha⟩
   ·have z:=(if_neg hb).symm.trans z
    by_cases hb:b∈tabs
    ·have z':=(if_pos hb).symm.trans z
     cases z'
     exact hTt b hb _
    ·have z':=(if_neg hb).symm.trans z
     cases z'
  ·by_cases hb:b=a
   ·exact .inl hb
   ·by_cases hb':b∈tabs
    ·exact .inr hb'
    ·exact absurd ((if_neg hb).trans (if_neg hb')) z
  ·have z':=(if_pos rfl).symm.trans z
   cases z'
   exact ⟨hk,_,_,rfl⟩
theorem NT {p:Program} {loose:List Str} {mean:ExcName→Option Value} {mg mb:Str→Option Value} {h:Heap} {K:PySem.W.Frag} {x:Str} {st:Stmt} {T:Addr} (Tp:Top p loose mean mg mb h) (KX:K.In h) (hx:∃d∈recsOf p,d.name=x) (D:zZ K mg x st T) :
  isCodeTable h T∧h.get? T=some { cls:=.none,data:=.fields #[] }∧K.lookup T=none:=by
 obtain ⟨f,fd,c,F⟩:=D
 obtain ⟨d,hd,rfl⟩:=hx
 obtain ⟨a',o',fd',c',P',h1,h2,h3,h4,h5,h6⟩:=Tp.tab d hd
 rw [F.mg] at h1;cases h1
 obtain ⟨oc,od,kV,doc,pm,an,cdv,ct,osl,rfl,lk,_⟩:=F.fn.ex
 have:=KX _ _ lk
 rw [h2] at this;cases this
 have e3:fd'=_:=(Data.func.inj h3).symm
 subst e3
 have e4:=F.code.symm.trans h4
 cases e4
 obtain ⟨_,oo,vs,_,_,_,_,_,_,_,lk',_,hd',h11,_⟩:=F.tab
 obtain ⟨⟨o2,vs2,g1,g2,g3,g4⟩,g5⟩:=id h6
 rw [KX _ _ lk'] at g1;cases g1
 rw [hd'] at g3;cases g3
 rw [h11] at g4;cases g4
 exact ⟨h6.isCodeTable,g5,F.out⟩
theorem HD {l:PySem.W.OpenLaw} {n k:Nat} {q:Program} {loose:List Str} {XP:(Str→Option Value)→Heap→Prop} {YP:World→Heap→Prop} {d:DefRec} {K:Params→PySem.W.Frag} {sp:List Addr→PySem.W.Frag→Sp} {x:Str} (names:List Str)
  (hn:l.most=some n) (hn2:n≤sizeLine) (hdf:d.params.defaults=[]) (hr:bR k callerA) (hY:∀(w:World) (h:Heap),YP w h→(K w.params).In h) (hnm:∀x∈names,∃d∈recsOf q,d.name=x)
  (F:∀(w:World) (mg:Str→Option Value) (fa:Addr) (h:Heap),(K w.params).In h→h.Ns mainGlobals mg→mg d.name=some (.ref fa) →
   ∃(fd:FuncData) (tabs:List Addr),(∀(s:Shared) (u:Value),BindsTo s fd ⟨[u],[]⟩ [(x,u)])∧(∀T∈tabs,OD (K w.params) mg names T) ∧
    ∀base:Heap,(K w.params).In base→base.Ns mainGlobals mg→BMain mg base→aS l.prog w (K w.params) mg base N8 k fa fd [x] (sp tabs (K w.params)))
  (hsp:∀(tabs:List Addr) (K:PySem.W.Frag) (H:Hp) (a:Addr) (ns:List Int),ns.length≤n→(∀T∈tabs,H T=some (.ext (fB T)))→dY K H a (ns.map V.int)→(∀b,H b≠none→b=a∨b∈tabs)→(∀u,H a=some u→∃o xs,u=.pf o (.lst xs))→sp tabs K [.ref a] H (λv H'=>v=.bl true∧cA H H') λ_ _ _=>False) :
  PySem.W.WalkO q loose XP YP l.row.toRowW d [] (λf vs=>PySem.call f vs):=by
 refine Att.yy hn hdf λw s₀ s₁ mg mb fa o pm cd doc a vs ns G Y ho hd hcd hmg hobj hints hlen hg=>?_
 have KX:=hY w _ Y
 obtain ⟨fd,tabs,hb,ht,hF⟩:=F w mg fa _ KX G.T.g hmg
 refine DM KX G.T.g G.T.b G.T.builtins G.T.nolimit hg hobj hints (UM hlen hn2) hr G.T.bmain (λT hT=>?_) hF hb (λH hT hS hA hK=>hsp tabs _ H a ns hlen hT hS hA hK)
 obtain ⟨x,hx,st,D⟩:=ht T hT
 exact NT G.T KX (hnm x hx) D
def FD (s:Str):Value→Bool
 | .str y _=>y == s
 | _=>false
def FC (i:Int):Value→Bool
 | .int j _=>j == i
 | _=>false
theorem Dz {K:PySem.W.Frag} {h:Heap} {mg:Str→Option Value} {x s:Str} {u:Value} (X:K.In h) (G:h.Ns mainGlobals mg) (e:PySem.W.nsIn K mainGlobals x=some (some u)) (hu:FD s u=true):∃t,mg x=some (.str s t):=by
 cases u with
 | str y t =>
  have:y=s:=by simpa [FD] using hu
  subst this
  exact ⟨t,PySem.W.mg_of X G e⟩
 | _=>cases hu
theorem const_int {K:PySem.W.Frag} {h:Heap} {mg:Str→Option Value} {x:Str} {i:Int} {u:Value} (X:K.In h) (G:h.Ns mainGlobals mg) (e:PySem.W.nsIn K mainGlobals x=some (some u)) (hu:FC i u=true):∃t,mg x=some (.int i t):=by
 cases u with
 | int y t =>
  have:y=i:=by simpa [FC] using hu
  subst this
  exact ⟨t,PySem.W.mg_of X G e⟩
 | _=>cases hu
def sgn (ch:Nat):Str:=⟨#[ch]⟩
section
variable {X:Cx} {tg:Expr}
end
end Ov
namespace Ov
open PySem PySem.Spec PyProof.Rows
open L2 (V HO Hp Inv Cx VK XK TE TT TA TS TG mF TI TO gw Ends rL Loc Gl Rd RelV Vals fw qO bS nj oY md gu R2 upd aZ aW dY f' Sp nA It cA)
inductive PV where
 | non | bl (b:Bool) | int (i:Int) | str (x:Str) | ref (a:Addr) | ty (n:String) | tup (xs:List PV) | fl (xs:List PV)
inductive HQ where
 | lst (xs:List PV) | ins (C:Addr) (fs:List (Str × PV)) | dct (kvs:List (Str × PV)) (ep:Nat) | tab | dtp (hs:List Str→Int) (ks:List (List Str))
def Rp (hs:List Str→Int) (a:Addr) (xs:List (List Str × Addr × Value)) (h:Heap):Prop:=(a == sysModules)=false∧xs.length≤sizeLine∧(xs.map (·.1)).Nodup∧∃o es ep,h.get? a=some o∧o.ExactDict∧o.data=.dict es ep∧es.toList=xs.map λx=>(⟨hs x.1,.ref x.2.1,x.2.2⟩:DictEntry)
abbrev Hq:=Addr→Option HQ
def put (J:Hq) (a:Addr) (o:HQ):Hq:=λb=>if b=a then some o else J b
theorem av {J:Hq} {a:Addr} {o:HQ}:put J a o a=some o:=by unfold put;rw [if_pos rfl]
theorem aq {J:Hq} {a b:Addr} {o:HQ} (h:b≠a):put J a o b=J b:=by unfold put;rw [if_neg h]
theorem cm {J:Hq} {a:Addr} {o u:HQ}:put (put J a o) a u=put J a u:=by
 funext b;unfold put;split <;> rfl
theorem GI {J:Hq} {a b:Addr} {o u:HQ} (h:a≠b):put (put J a o) b u=put (put J b u) a o:=by
 funext c;unfold put
 by_cases h1:c=b <;> by_cases h2:c=a <;> simp [h1,h2]
 ·exact absurd (h2.symm.trans h1) h
 ·intro z;exact absurd z.symm h
 ·intro z;exact absurd z h
theorem Ba {J:Hq} {a:Addr} {o:HQ} (h:J a=some o):put J a o=J:=by
 funext b;unfold put
 by_cases e:b=a
 ·subst e;rw [if_pos rfl,h]
 ·rw [if_neg e]
def EN (K:PySem.W.Frag) (J:Hq) (H:Hp) (a:Addr) (vs:List V):Prop:=(J a=none∧Rd H a (.lst vs))∨∃(o:Obj) (its:Array Value) (n:Nat),K.lookup a=some o∧o.cls=.type "list"∧o.dict=none∧o.data=.seq its n∧its.size≤sizeLine∧Vals vs its.toList
theorem EN.sq {K:PySem.W.Frag} {J:Hq} {H:Hp} {a:Addr} {vs:List V} (h:EN K J H a vs):dY K H a vs:=by
 rcases h with h | h
 ·exact .inl h.2
 ·exact .inr h
section
variable (K:PySem.W.Frag)
mutual
def cY (J:Hq) (H:Hp):PV→V→Prop
 | .non,v=>v=.non
 | .bl b,v=>v=.bl b
 | .int i,v=>v=.int i
 | .str x,v=>v=.str x
 | .ref a,v=>v=.ref a
 | .ty n,v=>v=.ty n
 | .tup xs,v=>∃a vs,v=.ref a∧f' K H a vs∧aY J H xs vs
 | .fl xs,v=>∃a vs,v=.ref a∧EN K J H a vs∧aY J H xs vs
def aY (J:Hq) (H:Hp):List PV→List V→Prop
 | [],vs=>vs=[]
 | x :: xs,vs=>∃v us,vs=v :: us∧cY J H x v∧aY J H xs us
end
def mD {κ:Type} (J:Hq) (H:Hp) (fs:List (κ × PV)) (gs:List (κ × V)):Prop:=fs.map (·.1)=gs.map (·.1)∧aY K J H (fs.map (·.2)) (gs.map (·.2))
def ES (J:Hq) (H:Hp) (a:Addr):HQ→Prop
 | .lst xs=>∃vs,H a=some (.lst vs)∧aY K J H xs vs
 | .ins C fs=>∃dx gs,H a=some (.ins C dx gs)∧mD K J H fs gs
 | .dct kvs ep=>∃gs,H a=some (.dE gs ep)∧mD K J H kvs gs
 | .tab=>H a=some (.ext (fB a))
 | .dtp hs ks=>∃xs:List (List Str × Addr × Value),xs.map (·.1)=ks∧H a=some (.ext (Rp hs a xs))∧∀x∈xs,f' K H x.2.1 (x.1.map V.str)
def Rep (J:Hq) (H:Hp):Prop:=∀a o,J a=some o→ES K J H a o
structure Ext (J:Hq) (H:Hp) (J':Hq) (H':Hp):Prop where
 tup:∀a vs,f' K H a vs→f' K H' a vs
 ll:∀a o,J a=none→H a=some o→((∃vs,o=.lst vs)∨∃ob vs,o=.pf ob (.lst vs))→J' a=none∧H' a=some o
end
section
variable {K:PySem.W.Frag} {J J' J'':Hq} {H H' H'':Hp}
theorem Ext.fl (e:Ext K J H J' H') (a:Addr) (vs:List V) (n:J a=none) (h:Rd H a (.lst vs)):J' a=none∧Rd H' a (.lst vs):=by
 rcases h with h | ⟨o,h⟩
 ·obtain ⟨a,b⟩:=e.ll a _ n h (.inl ⟨_,rfl⟩);exact ⟨a,.inl b⟩
 ·obtain ⟨a,b⟩:=e.ll a _ n h (.inr ⟨_,_,rfl⟩);exact ⟨a,.inr ⟨o,b⟩⟩
theorem Ext.flat (e:Ext K J H J' H') {a:Addr} {vs:List V} (h:EN K J H a vs):EN K J' H' a vs:=by
 rcases h with h | h
 ·exact .inl (e.fl a vs h.1 h.2)
 ·exact .inr h
mutual
theorem Ext.rep (e:Ext K J H J' H'):∀{x:PV} {v:V},cY K J H x v→cY K J' H' x v
 | .non,_,h=>h
 | .bl _,_,h=>h
 | .int _,_,h=>h
 | .str _,_,h=>h
 | .ref _,_,h=>h
 | .ty _,_,h=>h
 | .tup xs,_,⟨a,vs,e1,h,k⟩=>⟨a,vs,e1,e.tup _ _ h,Ext.jC e k⟩
 | .fl xs,_,⟨a,vs,e1,h,k⟩=>⟨a,vs,e1,e.flat h,Ext.jC e k⟩
theorem Ext.jC (e:Ext K J H J' H'):∀{xs:List PV} {vs:List V},aY K J H xs vs→aY K J' H' xs vs
 | [],_,h=>h
 | _ :: _,_,⟨v,us,e1,h,k⟩=>⟨v,us,e1,Ext.rep e h,Ext.jC e k⟩
end
theorem Ext.refl:Ext K J H J H:=⟨λ_ _ h=>h,λ_ _ n h _=>⟨n,h⟩⟩
theorem Ext.trans (a:Ext K J H J' H') (b:Ext K J' H' J'' H''):Ext K J H J'' H'' :=
 ⟨λc vs h=>b.tup c vs (a.tup c vs h),λc o n h z=>b.ll c o (a.ll c o n h z).1 (a.ll c o n h z).2 z⟩
theorem Ext.zp {κ:Type} (e:Ext K J H J' H') {fs:List (κ × PV)} {gs:List (κ × V)} (h:mD K J H fs gs):mD K J' H' fs gs:=⟨h.1,e.jC h.2⟩
theorem Ext.same (s:cA H H'):Ext K J H J H':=⟨λa vs h=>s.tup h,λa o n h _=>⟨n,s _ _ h⟩⟩
theorem ES.same (s:cA H H') {a:Addr} {o:HQ} (h:ES K J H a o):ES K J H' a o:=by
 have e:=Ext.same (K:=K) (J:=J) s
 cases o with
 | lst xs=>obtain ⟨vs,h1,h2⟩:=h;exact ⟨vs,s _ _ h1,e.jC h2⟩
 | ins C fs=>obtain ⟨dx,gs,h1,h2⟩:=h;exact ⟨dx,gs,s _ _ h1,e.zp h2⟩
 | dct kvs ep=>obtain ⟨gs,h1,h2⟩:=h;exact ⟨gs,s _ _ h1,e.zp h2⟩
 | tab=>exact s _ _ (show H a=some (.ext (fB a)) from h)
 | dtp hs ks=>obtain ⟨xs,h0,h1,h2⟩:=h;exact ⟨xs,h0,s _ _ h1,λx hx=>s.tup (h2 x hx)⟩
theorem Rep.same (s:cA H H') (h:Rep K J H):Rep K J H':=λa o q=>(h a o q).same s
theorem Ext.less (h:∀a,J' a=J a∨J' a=none):Ext K J H J' H:=⟨λ_ _ h=>h,λa o n z _=>⟨(h a).elim (λe=>e.trans n) (λe=>e),z⟩⟩
theorem Rep.less (h:∀a,J' a=J a∨J' a=none) (r:Rep K J H):Rep K J' H:=λa o q=>by
 have e:J a=some o:=by
  rcases h a with e | e
  ·rw [← e];exact q
  ·rw [e] at q;cases q
 have x:=Ext.less (K:=K) (H:=H) h
 have z:=r a o e
 cases o with
 | lst xs=>obtain ⟨vs,h1,h2⟩:=z;exact ⟨vs,h1,x.jC h2⟩
 | ins C fs=>obtain ⟨dx,gs,h1,h2⟩:=z;exact ⟨dx,gs,h1,x.zp h2⟩
 | dct kvs ep=>obtain ⟨gs,h1,h2⟩:=z;exact ⟨gs,h1,x.zp h2⟩
 | tab=>exact z
 | dtp hs ks=>exact z
theorem aY.length:∀{xs:List PV} {vs:List V},aY K J H xs vs→xs.length=vs.length
 | [],_,h=>by cases h;rfl
 | _ :: xs,_,⟨v,us,e1,_,k⟩=>by subst e1;simp [aY.length k]
theorem aY.get:∀{xs:List PV} {vs:List V} {i:Nat} {x:PV},aY K J H xs vs→xs[i]?=some x→∃v,vs[i]?=some v∧cY K J H x v
 | [],_,i,x,h,e=>by simp at e
 | y :: xs,_,0,x,⟨v,us,e1,h,k⟩,e=>by subst e1;simp at e;subst e;exact ⟨v,rfl,h⟩
 | y :: xs,_,i + 1,x,⟨v,us,e1,h,k⟩,e=>by
  subst e1
  obtain ⟨w,h1,h2⟩:=aY.get (i:=i) (x:=x) k (by simpa using e)
  exact ⟨w,by simpa using h1,h2⟩
theorem aY.get':∀{xs:List PV} {vs:List V} {i:Nat} {v:V},aY K J H xs vs→vs[i]?=some v→∃x,xs[i]?=some x∧cY K J H x v
 | [],_,i,x,h,e=>by cases h;simp at e
 | y :: xs,_,0,x,⟨v,us,e1,h,k⟩,e=>by subst e1;simp at e;subst e;exact ⟨y,rfl,h⟩
 | y :: xs,_,i + 1,x,⟨v,us,e1,h,k⟩,e=>by
  subst e1
  obtain ⟨w,h1,h2⟩:=aY.get' (i:=i) (v:=x) k (by simpa using e)
  exact ⟨w,by simpa using h1,h2⟩
theorem aY.append:∀{xs ys:List PV} {vs us:List V},aY K J H xs vs→aY K J H ys us→aY K J H (xs ++ ys) (vs ++ us)
 | [],_,_,_,h,k=>by cases h;exact k
 | x :: xs,ys,_,us,⟨v,ws,e1,h,h'⟩,k=>by subst e1;exact ⟨v,ws ++ us,rfl,h,aY.append h' k⟩
theorem aY.drop:∀(n:Nat) {xs:List PV} {vs:List V},aY K J H xs vs→aY K J H (xs.drop n) (vs.drop n)
 | 0,_,_,h=>h
 | n + 1,[],_,h=>by cases h;rfl
 | n + 1,x :: xs,_,⟨v,ws,e1,h,h'⟩=>by subst e1;exact aY.drop n h'
theorem aY.take:∀(n:Nat) {xs:List PV} {vs:List V},aY K J H xs vs→aY K J H (xs.take n) (vs.take n)
 | 0,_,_,h=>rfl
 | n + 1,[],_,h=>by cases h;rfl
 | n + 1,x :: xs,_,⟨v,ws,e1,h,h'⟩=>by subst e1;exact ⟨v,_,rfl,h,aY.take n h'⟩
theorem aY.set {x:PV} {v:V} (r:cY K J H x v):∀(n:Nat) {xs:List PV} {vs:List V},aY K J H xs vs→aY K J H (xs.set n x) (vs.set n v)
 | n,[],_,h=>by cases h;rfl
 | 0,y :: xs,_,⟨w,ws,e1,h,h'⟩=>by subst e1;exact ⟨v,ws,rfl,r,h'⟩
 | n + 1,y :: xs,_,⟨w,ws,e1,h,h'⟩=>by subst e1;exact ⟨w,_,rfl,h,aY.set r n h'⟩
theorem mD.look {κ:Type} [BEq κ] [LawfulBEq κ] {f:κ}:∀{fs:List (κ × PV)} {gs:List (κ × V)} {x:PV},mD K J H fs gs→fs.lookup f=some x→∃v,gs.lookup f=some v∧cY K J H x v
 | [],_,_,_,e=>by cases e
 | (k,y) :: fs,[],x,h,e=>by cases h.1
 | (k,y) :: fs,(k',w) :: gs,x,h,e=>by
  obtain ⟨h1,v,us,h2,h3,h4⟩:=h
  simp only [UA,List.cons.injEq] at h1 h2
  obtain ⟨rfl,h1⟩:=h1
  obtain ⟨rfl,rfl⟩:=h2
  rw [U4] at e ⊢
  cases hk:f == k with
  | true=>rw [hk] at e;cases e;exact ⟨w,rfl,h3⟩
  | false=>rw [hk] at e;exact mD.look ⟨h1,h4⟩ e
theorem mD.none {κ:Type} [BEq κ] [LawfulBEq κ] {f:κ}:∀{fs:List (κ × PV)} {gs:List (κ × V)},mD K J H fs gs→fs.lookup f=none→gs.lookup f=none
 | [],[],_,_=>rfl
 | [],_ :: _,h,e=>by cases h.1
 | (k,y) :: fs,[],h,e=>by cases h.1
 | (k,y) :: fs,(k',w) :: gs,h,e=>by
  obtain ⟨h1,v,us,h2,h3,h4⟩:=h
  simp only [UA,List.cons.injEq] at h1 h2
  obtain ⟨rfl,h1⟩:=h1
  obtain ⟨rfl,rfl⟩:=h2
  rw [U4] at e ⊢
  cases hk:f == k with
  | true=>rw [hk] at e;cases e
  | false=>rw [hk] at e;exact mD.none ⟨h1,h4⟩ e
end
section
variable {K:PySem.W.Frag} {J J':Hq} {H H':Hp} {p:Addr}
theorem IY {a p:Addr} {o:HQ} (r:Rep K J H) (h:J a=some o) (n:H p=none):a≠p:=by
 intro e;subst e
 have:=r _ _ h
 cases o with
 | lst xs=>obtain ⟨vs,h1,_⟩:=this;rw [n] at h1;cases h1
 | ins C fs=>obtain ⟨dx,gs,h1,_⟩:=this;rw [n] at h1;cases h1
 | dct kvs ep=>obtain ⟨gs,h1,_⟩:=this;rw [n] at h1;cases h1
 | tab=>have h1:H a=some (.ext (fB a)):=this;rw [n] at h1;cases h1
 | dtp hs ks=>obtain ⟨xs,_,h1,_⟩:=this;rw [n] at h1;cases h1
theorem Rep.free (r:Rep K J H) (n:H p=none):J p=none:=by
 cases e:J p with
 | none=>rfl
 | some o=>exact absurd rfl (IY r e n)
theorem Ext.laid {o:HO} {u:HQ} (n:H p=none):Ext K J H (put J p u) (upd H p o):=by
 refine ⟨λa vs h=>(cA.new n o).tup h,λa o' z h _=>⟨?_,cA.new n o _ _ h⟩⟩
 have ne:a≠p:=by intro e;subst e;rw [n] at h;cases h
 rw [aq ne];exact z
theorem Rep.ED {J':Hq} {H':Hp} (e:Ext K J H J' H') (r:Rep K J H) (p:Addr) (q:∀a,a≠p→J' a=J a) (s:∀a o,a≠p→J a≠none→H a=some o→H' a=some o) (h:∀u,J' p=some u→ES K J' H' p u):Rep K J' H':=λa o z=>by
 by_cases ep:a=p
 ·subst ep;exact h o z
 ·rw [q a ep] at z
  have t:=r a o z
  have jn:J a≠none:=by rw [z];exact λy=>nomatch y
  cases o with
  | lst xs=>obtain ⟨vs,h1,h2⟩:=t;exact ⟨vs,s _ _ ep jn h1,e.jC h2⟩
  | ins C fs=>obtain ⟨dx,gs,h1,h2⟩:=t;exact ⟨dx,gs,s _ _ ep jn h1,e.zp h2⟩
  | dct kvs eq=>obtain ⟨gs,h1,h2⟩:=t;exact ⟨gs,s _ _ ep jn h1,e.zp h2⟩
  | tab=>exact s _ _ ep jn (show H a=some (.ext (fB a)) from t)
  | dtp hs ks=>obtain ⟨xs,h0,h1,h2⟩:=t;exact ⟨xs,h0,s _ _ ep jn h1,λx hx=>e.tup _ _ (h2 x hx)⟩
theorem Rep.Cc {xs:List PV} {vs:List V} (r:Rep K J H) (n:H p=none) (h:aY K J H xs vs):Rep K (put J p (.lst xs)) (upd H p (.lst vs)):=by
 have e:=Ext.laid (K:=K) (J:=J) (o:=.lst vs) (u:=.lst xs) n
 refine r.ED e p (λa ne=>aq ne) (λa o ne _ z=>by rw [aW ne];exact z) λu z=>?_
 rw [av] at z;cases z
 exact ⟨vs,aZ,e.jC h⟩
theorem Ext.wrote {xs ys:List PV} {ws vs:List V} (h:J p=some (.lst xs)) (k:H p=some (.lst ws)):Ext K J H (put J p (.lst ys)) (upd H p (.lst vs)):=by
 have sm:∀a u,(∀l,u≠HO.lst l)∨a≠p→Rd H a u→Rd (upd H p (.lst vs)) a u:=λa u d z=>by
  have ne:a≠p:=by
   rcases d with d | d
   ·intro e;subst e
    rcases z with z | ⟨o,z⟩
    ·rw [k] at z;cases z;exact d _ rfl
    ·rw [k] at z;cases z
   ·exact d
  rcases z with z | ⟨o,z⟩
  ·exact .inl (by rw [aW ne];exact z)
  ·exact .inr ⟨o,by rw [aW ne];exact z⟩
 refine ⟨λa vs' z=>?_,λa o z q _=>?_⟩
 ·rcases z with z | z
  ·exact .inl (sm a _ (.inl λl e=>nomatch e) z)
  ·exact .inr z
 ·have ne:a≠p:=by intro e;subst e;rw [h] at z;cases z
  exact ⟨by rw [aq ne];exact z,by rw [aW ne];exact q⟩
theorem Rep.wrote {xs ys:List PV} {ws vs:List V} (r:Rep K J H) (h:J p=some (.lst xs)) (k:H p=some (.lst ws)) (q:aY K J H ys vs):Rep K (put J p (.lst ys)) (upd H p (.lst vs)):=by
 have e:=Ext.wrote (K:=K) (ys:=ys) (vs:=vs) h k
 refine r.ED e p (λa ne=>aq ne) (λa o ne _ z=>by rw [aW ne];exact z) λu z=>?_
 rw [av] at z;cases z
 exact ⟨vs,aZ,e.jC q⟩
end
abbrev Sr:=List (Option PV)
abbrev dq:=Sr→Hq→(PV→Hq→Prop)→Prop
abbrev me:=Sr→Hq→(Bool→Hq→Prop)→Prop
abbrev p8:=Sr→Hq→(List PV→Hq→Prop)→Prop
structure En where
 nx:Sr→Hq→Prop
 rt:PV→Hq→Prop
 bk:Sr→Hq→Prop:=λ_ _=>False
 ct:Sr→Hq→Prop:=λ_ _=>False
abbrev i8:=En→Sr→Hq→Prop
structure mE (K:PySem.W.Frag) (J:Hq) (H:Hp) (τ:Sr) (σ:L2.St):Prop where
 len:τ.length=σ.length
 get:∀(i:Nat) (x:PV),τ[i]?=some (some x)→∃v,σ[i]?=some (some v)∧cY K J H x v
theorem mE.ext {K:PySem.W.Frag} {J J':Hq} {H H':Hp} {τ:Sr} {σ:L2.St} (r:mE K J H τ σ) (e:Ext K J H J' H'):mE K J' H' τ σ :=
 ⟨r.len,λi x h=>let ⟨v,a,b⟩:=r.get i x h;⟨v,a,e.rep b⟩⟩
theorem mE.set {K:PySem.W.Frag} {J:Hq} {H:Hp} {τ:Sr} {σ:L2.St} (r:mE K J H τ σ) {x:PV} {v:V} (i:Nat) (h:cY K J H x v):mE K J H (τ.set i (some x)) (σ.set i (some v)):=by
 refine ⟨by rw [VN,VN,r.len],λj y e=>?_⟩
 by_cases hj:i=j
 ·subst hj
  by_cases hl:i < τ.length
  ·rw [Vd hl] at e
   cases e
   exact ⟨v,Vd (by rw [← r.len];exact hl),h⟩
  ·rw [Vn (by rw [VN];omega)] at e
   cases e
 ·rw [Vs hj] at e ⊢
  exact r.get j y e
abbrev G2:=Hq × Hp
structure yb (K:PySem.W.Frag) (G:G2) (τ:Sr) (J:Hq) (σ:L2.St) (H:Hp):Prop where
 sl:mE K J H τ σ
 hp:Rep K J H
 ext:Ext K G.1 G.2 J H
section
variable (K:PySem.W.Frag) (G:G2)
def LE (t:dq):TE:=λσ H Q=>∃τ J Q2,yb K G τ J σ H∧t τ J Q2∧∀x J' v H',cY K J' H' x v→Rep K J' H'→Ext K J H J' H'→Q2 x J'→Q v H'
def LT (t:me):TT:=λσ H Q=>∃τ J Q2,yb K G τ J σ H∧t τ J Q2∧∀b J' H',Rep K J' H'→Ext K J H J' H'→Q2 b J'→Q b H'
def LA (t:p8):TA:=λσ H Q=>∃τ J Q2,yb K G τ J σ H∧t τ J Q2∧∀xs J' vs H',aY K J' H' xs vs→Rep K J' H'→Ext K J H J' H'→Q2 xs J'→Q vs H'
structure Goes (J:Hq) (H:Hp) (D2:En) (D:Ends):Prop where
 nx:∀τ J' σ H',mE K J' H' τ σ→Rep K J' H'→Ext K J H J' H'→D2.nx τ J'→D.nx σ H'
 rt:∀x J' v H',cY K J' H' x v→Rep K J' H'→Ext K J H J' H'→D2.rt x J'→D.rt v H'
 bk:∀τ J' σ H',mE K J' H' τ σ→Rep K J' H'→Ext K J H J' H'→D2.bk τ J'→D.bk σ H'
 ct:∀τ J' σ H',mE K J' H' τ σ→Rep K J' H'→Ext K J H J' H'→D2.ct τ J'→D.ct σ H'
def LS (t:i8):TS:=λD σ H=>∃τ J D2,yb K G τ J σ H∧t D2 τ J∧Goes K J H D2 D
end
theorem Goes.ext {K:PySem.W.Frag} {J J':Hq} {H H':Hp} {D2:En} {D:Ends} (g:Goes K J H D2 D) (e:Ext K J H J' H'):Goes K J' H' D2 D :=
 ⟨λτ J1 σ H1 a b c=>g.nx τ J1 σ H1 a b (e.trans c),λx J1 v H1 a b c=>g.rt x J1 v H1 a b (e.trans c),λτ J1 σ H1 a b c=>g.bk τ J1 σ H1 a b (e.trans c),λτ J1 σ H1 a b c=>g.ct τ J1 σ H1 a b (e.trans c)⟩
theorem yb.go {K:PySem.W.Frag} {G:G2} {τ:Sr} {J J':Hq} {σ:L2.St} {H H':Hp} (a:yb K G τ J σ H) (r:Rep K J' H') (e:Ext K J H J' H'):yb K G τ J' σ H':=⟨a.sl.ext e,r,a.ext.trans e⟩
structure RE (X:Cx) (G:G2) (e:Expr) (t:dq):Prop where
 run:L2.PE X e (LE X.K G t)
structure RT (X:Cx) (G:G2) (e:Expr) (t:me):Prop where
 run:L2.PT X e (LT X.K G t)
structure RW (X:Cx) (G:G2) (e:Expr) (t:me):Prop where
 run:L2.PW X e (LT X.K G t)
structure RA (X:Cx) (G:G2) (es:List Expr) (t:p8):Prop where
 run:L2.PA X es (LA X.K G t)
structure RS (X:Cx) (G:G2) (st:Stmt) (t:i8):Prop where
 run:L2.PS X st (LS X.K G t)
structure RB (X:Cx) (G:G2) (st:List Stmt) (t:i8):Prop where
 run:L2.yu X st (LS X.K G t)
theorem kM {X:Cx} {e:Expr} {t t':TE} (h:L2.PE X e t) (k:∀σ H Q,t' σ H Q→t σ H Q):L2.PE X e t':=λpins s σ H Q I q=>h pins s σ H Q I (k _ _ _ q)
theorem Ri {X:Cx} {e:Expr} {t t':TT} (h:L2.PT X e t) (k:∀σ H Q,t' σ H Q→t σ H Q):L2.PT X e t':=λpins s σ H Q I q=>h pins s σ H Q I (k _ _ _ q)
theorem T2 {X:Cx} {e:Expr} {t t':TT} (h:L2.PW X e t) (k:∀σ H Q,t' σ H Q→t σ H Q):L2.PW X e t':=λwh pins s σ H Q I q=>h wh pins s σ H Q I (k _ _ _ q)
theorem So {X:Cx} {e:List Expr} {t t':TA} (h:L2.PA X e t) (k:∀σ H Q,t' σ H Q→t σ H Q):L2.PA X e t':=λpos pins s σ H Q I q=>h pos pins s σ H Q I (k _ _ _ q)
theorem zj {X:Cx} {e:Stmt} {t t':TS} (h:L2.PS X e t) (k:∀D σ H,t' D σ H→t D σ H):L2.PS X e t':=λpins s σ H D I q=>h pins s σ H D I (k _ _ _ q)
theorem Sq {X:Cx} {e:List Stmt} {t t':TS} (h:L2.yu X e t) (k:∀D σ H,t' D σ H→t D σ H):L2.yu X e t':=λpins s σ H D I q=>h pins s σ H D I (k _ _ _ q)
end Ov
namespace Ov
open PySem PySem.Spec PyProof.Rows
open L2 (V HO Hp Inv Cx VK XK TE TT TA TS TG mF TI TO gw Ends rL Loc Gl Rd RelV Vals fw qO bS nj oY md gu R2 upd aZ aW dY f' Sp nA It cA b7 bR Passes ma aK Meth Mk Binds aS bU aw c4 fe)
def ig {α:Sort _} (_:α):Type:=Unit
def dp {α:Sort _} {k:α}:ig k:=()
def vo {α:Type} (o:Option α) (k:α→Prop) (_:ig k:=dp):Prop:=match o with | some x=>k x | none=>False
def Of (o:Option (Option PV)) (k:PV→Prop) (_:ig k:=dp):Prop:=match o with | some (some x)=>k x | _=>False
def Ed (x:PV) (k:Int→Prop) (_:ig k:=dp):Prop:=match x with | .int i=>k i | _=>False
def KN (x:PV) (k:Bool→Prop) (_:ig k:=dp):Prop:=match x with | .bl i=>k i | _=>False
def EG (x:PV) (k:Str→Prop) (_:ig k:=dp):Prop:=match x with | .str i=>k i | _=>False
def Cj (x:PV) (k:Addr→Prop) (_:ig k:=dp):Prop:=match x with | .ref a=>k a | _=>False
def Og (x:PV) (k:List PV→Prop) (_:ig k:=dp):Prop:=match x with | .tup a=>k a | _=>False
def AK (xs:List PV) (k:PV→Prop) (_:ig k:=dp):Prop:=match xs with | [x]=>k x | _=>False
def Rg (o:Option HQ) (k:List PV→Prop) (_:ig k:=dp):Prop:=match o with | some (.lst xs)=>k xs | _=>False
def Ge (o:Option HQ) (k:List (Str × PV)→Nat→Prop) (_:ig k:=dp):Prop:=match o with | some (.dct xs e)=>k xs e | _=>False
def ML (C:Addr) (o:Option HQ) (k:List (Str × PV)→Prop) (_:ig k:=dp):Prop:=match o with | some (.ins C' fs)=>if C'=C then k fs else False | _=>False
def Sm (xs:List PV) (k:Prop) (_:ig k:=dp):Prop:=match xs with | []=>k | _=>False
def MN (xs:List PV) (k:PV→List PV→Prop) (_:ig k:=dp):Prop:=match xs with | x :: r=>k x r | []=>False
def MR (xs:List PV) (k:PV→PV→Prop) (_:ig k:=dp):Prop:=match xs with | [x,y]=>k x y | _=>False
theorem PB {k:Prop} {d:ig k}:Sm [] k d=k:=rfl
theorem MO {x:PV} {r:List PV} {k:PV→List PV→Prop} {d:ig k}:MN (x :: r) k d=k x r:=rfl
theorem PC {x y:PV} {k:PV→PV→Prop} {d:ig k}:MR [x,y] k d=k x y:=rfl
theorem MQ {xs:List PV} {k:Prop} {d:ig k} (h:Sm xs k d):xs=[]∧k:=by cases xs with | nil=>exact ⟨rfl,h⟩ | cons x r=>exact h.elim
theorem Jf {xs:List PV} {k:PV→List PV→Prop} {d:ig k} (h:MN xs k d):∃x r,xs=x :: r∧k x r:=by cases xs with | nil=>exact h.elim | cons x r=>exact ⟨_,_,rfl,h⟩
theorem AN {xs:List PV} {k:PV→PV→Prop} {d:ig k} (h:MR xs k d):∃x y,xs=[x,y]∧k x y:=by
 unfold MR at h
 split at h
 ·exact ⟨_,_,rfl,h⟩
 ·exact h.elim
theorem PF {α:Type} {x:α} {k:α→Prop} {d:ig k}:vo (some x) k d=k x:=rfl
theorem Pt {x:PV} {k:PV→Prop} {d:ig k}:Of (some (some x)) k d=k x:=rfl
theorem Px {x:Int} {k:Int→Prop} {d:ig k}:Ed (.int x) k d=k x:=rfl
theorem Pu {x:Bool} {k:Bool→Prop} {d:ig k}:KN (.bl x) k d=k x:=rfl
theorem PH {x:Str} {k:Str→Prop} {d:ig k}:EG (.str x) k d=k x:=rfl
theorem PD {x:Addr} {k:Addr→Prop} {d:ig k}:Cj (.ref x) k d=k x:=rfl
theorem PJ {x:List PV} {k:List PV→Prop} {d:ig k}:Og (.tup x) k d=k x:=rfl
theorem Pr {x:PV} {k:PV→Prop} {d:ig k}:AK [x] k d=k x:=rfl
theorem Pz {x:List PV} {k:List PV→Prop} {d:ig k}:Rg (some (.lst x)) k d=k x:=rfl
theorem Pw {x:List (Str × PV)} {e:Nat} {k:List (Str × PV)→Nat→Prop} {d:ig k}:Ge (some (.dct x e)) k d=k x e:=rfl
theorem KO {C:Addr} {x:List (Str × PV)} {k:List (Str × PV)→Prop} {d:ig k}:ML C (some (.ins C x)) k d=k x:=if_pos rfl
theorem eh {α:Type} {o:Option α} {k:α→Prop} {d:ig k} (h:vo o k d):∃x,o=some x∧k x:=by cases o with | none=>exact h.elim | some x=>exact ⟨x,rfl,h⟩
theorem fi {α:Type} {o:Option α} {x:α} {k:α→Prop} (e:o=some x) (h:k x):vo o k:=by rw [e];exact h
theorem Gb {o:Option (Option PV)} {k:PV→Prop} {d:ig k} (h:Of o k d):∃x,o=some (some x)∧k x:=by
 unfold Of at h
 split at h
 ·exact ⟨_,rfl,h⟩
 ·exact h.elim
theorem MK {o:Option (Option PV)} {x:PV} {k:PV→Prop} (e:o=some (some x)) (h:k x):Of o k:=by rw [e];exact h
theorem gT {x:PV} {k:Int→Prop} {d:ig k} (h:Ed x k d):∃i,x=.int i∧k i:=by cases x <;> first | exact ⟨_,rfl,h⟩ | exact False.elim h
theorem pH {x:PV} {k:Bool→Prop} {d:ig k} (h:KN x k d):∃i,x=.bl i∧k i:=by cases x <;> first | exact ⟨_,rfl,h⟩ | exact False.elim h
theorem iI {x:PV} {k:Str→Prop} {d:ig k} (h:EG x k d):∃i,x=.str i∧k i:=by cases x <;> first | exact ⟨_,rfl,h⟩ | exact False.elim h
theorem gh {x:PV} {k:Addr→Prop} {d:ig k} (h:Cj x k d):∃i,x=.ref i∧k i:=by cases x <;> first | exact ⟨_,rfl,h⟩ | exact False.elim h
theorem Gf {x:PV} {k:List PV→Prop} {d:ig k} (h:Og x k d):∃i,x=.tup i∧k i:=by cases x <;> first | exact ⟨_,rfl,h⟩ | exact False.elim h
theorem gS {xs:List PV} {k:PV→Prop} {d:ig k} (h:AK xs k d):∃x,xs=[x]∧k x:=by
 unfold AK at h
 split at h
 ·exact ⟨_,rfl,h⟩
 ·exact h.elim
theorem MP {o:Option HQ} {k:List PV→Prop} {d:ig k} (h:Rg o k d):∃x,o=some (.lst x)∧k x:=by
 unfold Rg at h
 split at h
 ·exact ⟨_,rfl,h⟩
 ·exact h.elim
theorem kK {o:Option HQ} {k:List (Str × PV)→Nat→Prop} {d:ig k} (h:Ge o k d):∃x e,o=some (.dct x e)∧k x e:=by
 unfold Ge at h
 split at h
 ·exact ⟨_,_,rfl,h⟩
 ·exact h.elim
theorem AM {C:Addr} {o:Option HQ} {k:List (Str × PV)→Prop} {d:ig k} (h:ML C o k d):∃x,o=some (.ins C x)∧k x:=by
 unfold ML at h
 split at h
 ·split at h
  ·rename_i e;subst e;exact ⟨_,rfl,h⟩
  ·exact h.elim
 ·exact h.elim
theorem AO {x:PV} {xs:List PV} {k:List PV→Prop} (e:x=.tup xs) (h:k xs):Og x k:=by rw [e];exact h
theorem AL {x:PV} {b:Bool} {k:Bool→Prop} (e:x=.bl b) (h:k b):KN x k:=by rw [e];exact h
theorem gg {C:Addr} {o:Option HQ} {x:List (Str × PV)} {k:List (Str × PV)→Prop} (e:o=some (.ins C x)) (h:k x):ML C o k:=by rw [e,KO];exact h
section
variable {X:Cx} {G:G2} {a b c e o:Expr} {es rest:List Expr} {ta tb te tc to:dq} {tA tB':me} {t:p8} {pos px p p2 apos cpos:Pos} {x:Str} {i j:Nat}
def sT (i:Nat):dq:=λτ J Q=>Of τ[i]? λx=>Q x J
theorem rv (i:Nat) {x:Str} {pos:Pos} (hN:X.N[i]?=some x:=by rfl) (hv:rL X.env.scope x:=by first | exact Or.inl rfl | exact Or.inr (Or.inl rfl) | exact Or.inr (Or.inr rfl)) (hd:(x == ("__debug__":Str))=false:=by decide)
  (hcd:(x == ("__classdict__":Str))=false:=by decide):RE X G (.Name x pos) (sT i) :=
 ⟨kM (L2.M6 hN hv hd hcd) λσ H Q ⟨τ,J,Q2,a2,hq,k⟩=>let ⟨y,ey,q⟩:=Gb hq;let ⟨v,e1,r⟩:=a2.sl.get i y ey;⟨v,e1,k y J v H r a2.hp .refl q⟩⟩
def rC (x:PV):dq:=λ_ J Q=>Q x J
theorem ag {i:Int} {j pos}:RE X G (.Constant (.int i) j pos) (rC (.int i)):=⟨kM L2.wY λσ H Q ⟨τ,J,Q2,a2,q,k⟩=>k (.int i) J _ H rfl a2.hp .refl q⟩
theorem dw {b:Bool} {j pos}:RE X G (.Constant (.bool b) j pos) (rC (.bl b)):=⟨kM L2.Cm λσ H Q ⟨τ,J,Q2,a2,q,k⟩=>k (.bl b) J _ H rfl a2.hp .refl q⟩
theorem dk {j pos}:RE X G (.Constant .none j pos) (rC .non):=⟨kM L2.AU λσ H Q ⟨τ,J,Q2,a2,q,k⟩=>k .non J _ H rfl a2.hp .refl q⟩
theorem bJ {x:Str} {j pos}:RE X G (.Constant (.str x) j pos) (rC (.str x)):=⟨kM L2.w6 λσ H Q ⟨τ,J,Q2,a2,q,k⟩=>k (.str x) J _ H rfl a2.hp .refl q⟩
theorem fq {v:V} {u:Value} (y:PV) (hg:Gl X x) (hm:X.mg x=some u) (r:RelV v u) (hr:∀J H,cY X.K J H y v) (hd:(x == ("__debug__":Str))=false:=by decide):RE X G (.Name x pos) (rC y) :=
 ⟨kM (L2.wX hg hm r hd) λσ H Q ⟨τ,J,Q2,a2,q,k⟩=>k y J v H (hr J H) a2.hp .refl q⟩
theorem kZ {n:String} (hg:Gl X x) (hm:X.mg x=none) (hv:bootBuiltins x=some (.type n)) (hn:x≠"__name__":=by decide) (hd:(x == ("__debug__":Str))=false:=by decide):RE X G (.Name x pos) (rC (.ty n)) :=
 ⟨kM (L2.wV (v:=.ty n) hg hm hv rfl hn hd) λσ H Q ⟨τ,J,Q2,a2,q,k⟩=>k (.ty n) J _ H rfl a2.hp .refl q⟩
abbrev nt:=PV→PV→Hq→(PV→Hq→Prop)→Prop
abbrev OB:=PV→Hq→(PV→Hq→Prop)→Prop
abbrev zQ:=List PV→Hq→(PV→Hq→Prop)→Prop
def Kn (K:PySem.W.Frag) (J:Hq) (H:Hp) (Q2:PV→Hq→Prop) (Q:VK):Prop:=∀z J' u H',cY K J' H' z u→Rep K J' H'→Ext K J H J' H'→Q2 z J'→Q u H'
def LR (K:PySem.W.Frag) (r:R2) (q:nt):Prop:=∀J H x y v w Q2 Q,cY K J H x v→cY K J H y w→Rep K J H→q x y J Q2→Kn K J H Q2 Q→r v w H Q
def Uc (K:PySem.W.Frag) (r:V→Hp→VK→Prop) (q:OB):Prop:=∀J H x v Q2 Q,cY K J H x v→Rep K J H→q x J Q2→Kn K J H Q2 Q→r v H Q
def Tu (K:PySem.W.Frag) (r:List V→Hp→VK→Prop) (q:zQ):Prop:=∀J H xs vs Q2 Q,aY K J H xs vs→Rep K J H→q xs J Q2→Kn K J H Q2 Q→r vs H Q
def nk (X:Cx) (f:Value→Value→Sem Value) (q:nt):Prop:=∃r,fw X f r∧LR X.K r q
def Tx (X:Cx) (f:Value→Sem Value) (q:OB):Prop:=∃r,qO X f r∧Uc X.K r q
def Q4 (X:Cx) (q:nt):Prop:=∃r,nj X r∧LR X.K r q
def HG (X:Cx) (f:Value) (q:zQ):Prop:=∃r,bS X f r∧Tu X.K r q
def Bf (q:nt) (ta tb:dq):dq:=λτ J Q=>ta τ J λx J1=>tb τ J1 λy J2=>q x y J2 Q
def T9 (q:OB) (ta:dq):dq:=λτ J Q=>ta τ J λx J1=>q x J1 Q
theorem qW {r:R2} {q:nt} (lr:LR X.K r q):∀σ H Q,LE X.K G (Bf q ta tb) σ H Q→L2.HM r (LE X.K G ta) (LE X.K G tb) σ H Q:=λσ H Q ⟨τ,J,Q2,a2,h,k⟩ =>
 ⟨τ,J,_,a2,h,λx J1 v H1 rx r1 e1 q1=>⟨τ,J1,_,a2.go r1 e1,q1,λy J2 w H2 ry r2 e2 q2 =>
  lr J2 H2 x y v w Q2 Q (e2.rep rx) ry r2 q2 λz J' u H' rz rr ee qq=>k z J' u H' rz rr ((e1.trans e2).trans ee) qq⟩⟩
theorem ay {op:Operator} {q:nt} (ho:nk X (binaryOp op) q) (ha:RE X G a ta) (hb:RE X G b tb):RE X G (.BinOp a op b pos) (Bf q ta tb):=by
 obtain ⟨r,h,lr⟩:=ho
 exact ⟨kM (L2.Gx h ha.run hb.run) (qW lr)⟩
theorem oG {op:UnaryOp} {q:OB} (ho:Tx X (unaryOp op) q) (ha:RE X G a ta):RE X G (.UnaryOp op a pos) (T9 q ta):=by
 obtain ⟨r,h,lr⟩:=ho
 exact ⟨kM (L2.Gz h ha.run) λσ H Q ⟨τ,J,Q2,a2,h,k⟩=>⟨τ,J,_,a2,h,λx J1 v H1 rx r1 e1 q1 =>
  lr J1 H1 x v Q2 Q rx r1 q1 λz J' u H' rz rr ee qq=>k z J' u H' rz rr (e1.trans ee) qq⟩⟩
theorem aj {q:nt} (hr:Q4 X q) (ha:RE X G a ta) (hb:RE X G b tb) (hs:b7 b:=by exact λ_ _=>rfl):RE X G (.Subscript a b pos) (Bf q ta tb):=by
 obtain ⟨r,h,lr⟩:=hr
 exact ⟨kM (L2.Gs h ha.run hb.run hs) (qW lr)⟩
theorem er {op:CmpOp} {q:nt} (ho:nk X (compareOp op) q) (ha:RE X G a ta) (hb:RE X G b tb) (hm:behindInMarks op b=false:=by first | exact L2.F3 _ | with_unfolding_all rfl):RE X G (.Compare a [op] [b] pos) (Bf q ta tb):=by
 obtain ⟨r,h,lr⟩:=ho
 exact ⟨kM (L2.wW h ha.run hb.run hm) (qW lr)⟩
def rB (t:dq):me:=λτ J Q=>t τ J λx J1=>KN x λk=>Q k J1
theorem aE {op:CmpOp} {q:nt} (ho:nk X (compareOp op) q) (ha:RE X G a ta) (hb:RE X G b tb) (hm:behindInMarks op b=false:=by first | exact L2.F3 _ | with_unfolding_all rfl):RT X G (.Compare a [op] [b] pos) (rB (Bf q ta tb)):=by
 obtain ⟨r,h,lr⟩:=ho
 refine ⟨Ri (L2.xk h ha.run hb.run hm) λσ H Q ⟨τ,J,Q2,a2,h,k⟩=>?_⟩
 refine qW lr σ H _ ⟨τ,J,_,a2,h,λz J' u H' rz rr ee qq=>?_⟩
 obtain ⟨b,rfl,q⟩:=pH qq
 exact ⟨b,rz,k b J' H' rr ee q⟩
theorem bq (h:RE X G e te) (he:∀whole,isTrue e X.env whole=(do let v ← whole;standAt e.pos;holding [v] (truthy v)):=by intro _;rfl):RT X G e (rB te) :=
 ⟨Ri (L2.A_ h.run he) λσ H Q ⟨τ,J,Q2,a2,h,k⟩=>⟨τ,J,_,a2,h,λz J' u H' rz rr ee qq=>by obtain ⟨b,eb,q⟩:=pH qq;subst eb;exact ⟨b,rz,k b J' H' rr ee q⟩⟩⟩
def x_ (J:Hq):PV→Option Bool
 | .non=>some false
 | .bl b=>some b
 | .int i=>some (i != 0)
 | .tup xs=>some (!xs.isEmpty)
 | .fl xs=>some (!xs.isEmpty)
 | .ref a=>match J a with
  | some (.lst xs)=>some (!xs.isEmpty)
  | some (.dct kvs _)=>some (!kvs.isEmpty)
  | _=>none
 | _=>none
theorem iq {α β:Type} {xs:List α} {ys:List β} (h:xs.length=ys.length):xs.isEmpty=ys.isEmpty:=by cases xs <;> cases ys <;> simp_all
theorem Kc {K:PySem.W.Frag} {J:Hq} {H:Hp} {x:PV} {v:V} {k:Bool} (r:cY K J H x v) (hp:Rep K J H) (h:x_ J x=some k):L2.LQ K v H k:=by
 cases x with
 | non=>cases r;cases h;rfl
 | bl b=>cases r;cases h;rfl
 | int i=>cases r;cases h;rfl
 | str s=>cases h
 | ty n=>cases h
 | tup xs=>obtain ⟨a,vs,rfl,h1,h2⟩:=r;cases h;exact .inr (.inl ⟨vs,h1,by rw [iq h2.length]⟩)
 | fl xs=>obtain ⟨a,vs,rfl,h1,h2⟩:=r;cases h;exact .inl ⟨vs,h1.sq,by rw [iq h2.length]⟩
 | ref a =>
  cases r
  unfold x_ at h
  dsimp only at h
  cases e:J a with
  | none=>rw [e] at h;cases h
  | some o =>
   rw [e] at h
   have z:=hp a o e
   cases o with
   | lst xs=>obtain ⟨vs,h1,h2⟩:=z;cases h;exact .inl ⟨vs,.inl (.inl h1),by rw [iq h2.length]⟩
   | ins C fs=>cases h
   | tab=>cases h
   | dtp hs ks=>cases h
   | dct kvs ep =>
    obtain ⟨gs,h1,h2⟩:=z;cases h
    refine .inr (.inr ⟨gs,ep,h1,?_⟩)
    have:=congrArg Vp h2.1
    simp only [Us] at this
    rw [iq this]
def Qu (te:dq):me:=λτ J Q=>te τ J λx J1=>vo (x_ J1 x) λk=>Q k J1
theorem Nv (h:RE X G e te) (he:∀whole,isTrue e X.env whole=(do let v ← whole;standAt e.pos;holding [v] (truthy v)):=by intro _;rfl):RT X G e (Qu te) :=
 ⟨Ri (L2.GD h.run he) λσ H Q ⟨τ,J,Q2,a2,h,k⟩=>⟨τ,J,_,a2,h,λz J' u H' rz rr ee qq=>let ⟨b,eb,q⟩:=eh qq;⟨b,Kc rz rr eb,k b J' H' rr ee q⟩⟩⟩
def JB (t u:me):me:=λτ J Q=>t τ J λc J1=>if c=true then u τ J1 Q else Q false J1
def SF (t u:me):me:=λτ J Q=>t τ J λc J1=>if c=true then Q true J1 else u τ J1 Q
def Qn (t:me):me:=λτ J Q=>t τ J λc J1=>Q (!c) J1
theorem bT (ha:RT X G a tA):RT X G (.UnaryOp .Not a pos) (Qn tA):=⟨Ri (L2.A9 ha.run) λσ H Q ⟨τ,J,Q2,a2,h,k⟩=>⟨τ,J,_,a2,h,λb J' H' rr ee q=>k _ J' H' rr ee q⟩⟩
theorem c5 (ha:RT X G a tA):RW X G (.BoolOp .And [a] pos) tA:=⟨L2.xq ha.run⟩
theorem dm (ha:RT X G a tA):RW X G (.BoolOp .Or [a] pos) tA:=⟨L2.Bc ha.run⟩
theorem EX {σ:L2.St} {H:Hp} {Q:Bool→Hp→Prop}:LT X.K G (JB tA tB') σ H Q→L2.J_ (LT X.K G tA) (LT X.K G tB') σ H Q:=λ⟨τ,J,Q2,a2,h,k⟩ =>
 ⟨τ,J,_,a2,h,λb J' H' rr ee q=>by
  cases b with
  | true=>simp only [if_true] at q ⊢;exact ⟨τ,J',Q2,a2.go rr ee,q,λb J2 H2 r2 e2 q2=>k b J2 H2 r2 (ee.trans e2) q2⟩
  | false=>simp only [UL,if_false] at q ⊢;exact k _ J' H' rr ee q⟩
theorem Jm {σ:L2.St} {H:Hp} {Q:Bool→Hp→Prop}:LT X.K G (SF tA tB') σ H Q→L2.Rk (LT X.K G tA) (LT X.K G tB') σ H Q:=λ⟨τ,J,Q2,a2,h,k⟩ =>
 ⟨τ,J,_,a2,h,λb J' H' rr ee q=>by
  cases b with
  | false=>simp only [UL,if_false] at q ⊢;exact ⟨τ,J',Q2,a2.go rr ee,q,λb J2 H2 r2 e2 q2=>k b J2 H2 r2 (ee.trans e2) q2⟩
  | true=>simp only [if_true] at q ⊢;exact k _ J' H' rr ee q⟩
theorem dT (ha:RT X G a tA) (hb:RW X G (.BoolOp .And (b :: rest) pos) tB'):RW X G (.BoolOp .And (a :: b :: rest) pos) (JB tA tB'):=⟨T2 (L2.Bb ha.run hb.run) λσ H Q h=>EX h⟩
theorem eI (ha:RT X G a tA) (hb:RW X G (.BoolOp .Or (b :: rest) pos) tB'):RW X G (.BoolOp .Or (a :: b :: rest) pos) (SF tA tB'):=⟨T2 (L2.GJ ha.run hb.run) λσ H Q h=>Jm h⟩
theorem cf (h:RW X G e tA):RT X G e tA:=⟨h.run.pt⟩
def K0 (ta tb:dq):dq:=λτ J Q=>ta τ J λx J1=>KN x λc=>if c=true then tb τ J1 Q else Q (.bl false) J1
def Qo (ta tb:dq):dq:=λτ J Q=>ta τ J λx J1=>KN x λc=>if c=true then Q (.bl true) J1 else tb τ J1 Q
def K4 (ta:dq):dq:=λτ J Q=>ta τ J λx J1=>KN x λc=>Q (.bl (!c)) J1
theorem xw {op} (h:RE X G a ta):RE X G (.BoolOp op [a] pos) ta:=⟨L2.AW h.run⟩
theorem Bg (ha:RE X G a ta) (hb:RE X G (.BoolOp .And (b :: rest) pos) tb):RE X G (.BoolOp .And (a :: b :: rest) pos) (K0 ta tb):=⟨kM (L2.AS ha.run hb.run) λσ H Q ⟨τ,J,Q2,a2,h,k⟩ =>
 ⟨τ,J,_,a2,h,λx J' v H' rx rr ee qq=>by
  obtain ⟨c,ec,q⟩:=pH qq
  subst ec
  refine ⟨c,rx,?_⟩
  cases c with
  | true=>simp only [if_true] at q ⊢;exact ⟨τ,J',Q2,a2.go rr ee,q,λz J2 u H2 rz r2 e2 q2=>k z J2 u H2 rz r2 (ee.trans e2) q2⟩
  | false=>simp only [UL,if_false] at q ⊢;exact k (.bl false) J' _ H' rfl rr ee q⟩⟩
theorem Qx (ha:RE X G a ta) (hb:RE X G (.BoolOp .Or (b :: rest) pos) tb):RE X G (.BoolOp .Or (a :: b :: rest) pos) (Qo ta tb):=⟨kM (L2.Gy ha.run hb.run) λσ H Q ⟨τ,J,Q2,a2,h,k⟩ =>
 ⟨τ,J,_,a2,h,λx J' v H' rx rr ee qq=>by
  obtain ⟨c,ec,q⟩:=pH qq
  subst ec
  refine ⟨c,rx,?_⟩
  cases c with
  | false=>simp only [UL,if_false] at q ⊢;exact ⟨τ,J',Q2,a2.go rr ee,q,λz J2 u H2 rz r2 e2 q2=>k z J2 u H2 rz r2 (ee.trans e2) q2⟩
  | true=>simp only [if_true] at q ⊢;exact k (.bl true) J' _ H' rfl rr ee q⟩⟩
theorem Nl (ha:RE X G a ta):RE X G (.UnaryOp .Not a pos) (K4 ta):=⟨kM (L2.AV ha.run) λσ H Q ⟨τ,J,Q2,a2,h,k⟩ =>
 ⟨τ,J,_,a2,h,λx J' v H' rx rr ee qq=>by obtain ⟨c,ec,q⟩:=pH qq;subst ec;exact ⟨c,rx,k (.bl (!c)) J' _ H' rfl rr ee q⟩⟩⟩
def T6 (t:me) (ta tb:dq):dq:=λτ J Q=>t τ J λc J1=>if c=true then ta τ J1 Q else tb τ J1 Q
theorem Qw (hc:RT X G c tA) (ha:RE X G a ta) (hb:RE X G b tb):RE X G (.IfExp c a b pos) (T6 tA ta tb):=⟨kM (L2.sJ hc.run ha.run hb.run) λσ H Q ⟨τ,J,Q2,a2,h,k⟩ =>
 ⟨τ,J,_,a2,h,λc J' H' rr ee q=>by
  cases c with
  | true=>simp only [if_true] at q ⊢;exact ⟨τ,J',Q2,a2.go rr ee,q,λz J2 u H2 rz r2 e2 q2=>k z J2 u H2 rz r2 (ee.trans e2) q2⟩
  | false=>simp only [UL,if_false] at q ⊢;exact ⟨τ,J',Q2,a2.go rr ee,q,λz J2 u H2 rz r2 e2 q2=>k z J2 u H2 rz r2 (ee.trans e2) q2⟩⟩⟩
def Be:p8:=λ_ J Q=>Q [] J
def zo (ta:dq) (tr:p8):p8:=λτ J Q=>ta τ J λx J1=>tr τ J1 λxs J2=>Q (x :: xs) J2
theorem ah:RA X G [] Be:=⟨So L2.AR λσ H Q ⟨τ,J,Q2,a2,h,k⟩=>k [] J [] H rfl a2.hp .refl h⟩
theorem af (ha:RE X G e te) (hr:RA X G es t) (hs:starEach (e :: es) X.env=(false,eval e X.env) :: starEach es X.env:=by rfl):RA X G (e :: es) (zo te t) :=
 ⟨So (L2.qX ha.run hr.run hs) λσ H Q ⟨τ,J,Q2,a2,h,k⟩=>⟨τ,J,_,a2,h,λx J' v H' rx rr ee q=>⟨τ,J',_,a2.go rr ee,q,λxs J2 vs H2 rs r2 e2 q2=>k (x :: xs) J2 (v :: vs) H2 ⟨v,vs,rfl,e2.rep rx,rs⟩ r2 (ee.trans e2) q2⟩⟩⟩
def vP:V→PV
 | .non=>.non | .bl b=>.bl b | .int i=>.int i | .str x=>.str x | _=>.non
theorem sW {K:PySem.W.Frag} {J:Hq} {H:Hp}:∀{es:List Expr} {vs:List V},es.map Aj=vs.map some→aY K J H (vs.map vP) vs
 | [],[],_=>rfl
 | [],_ :: _,h=>by cases h
 | _ :: _,[],h=>by cases h
 | e :: es,v :: vs,h=>by
  rw [UA,UA] at h
  injection h with h1 h2
  refine ⟨v,vs,rfl,?_,sW h2⟩
  cases e with
  | Constant c j pos =>
   cases c with
   | int i=>cases h1;rfl
   | str x=>cases h1;rfl
   | bool b=>cases h1;rfl
   | _=>cases h1
  | _=>cases h1
theorem xu {es:List Expr} (vs:List V) (h:es.map Aj=vs.map some) (xs:List PV) (hx:vs.map vP=xs):RA X G es (λ_ J Q=>Q xs J) :=
 ⟨So (zh vs h) λσ H Q ⟨τ,J,Q2,a2,q,k⟩=>k _ J _ H (by rw [← hx];exact sW h) a2.hp .refl q⟩
def Qv (t:p8):dq:=λτ J Q=>t τ J λxs J1=>xs.length≤sizeLine∧Q (.tup xs) J1
theorem bY {x1} (h:RA X G es t):RE X G (.Tuple es x1 pos) (Qv t):=⟨kM (L2.AX h.run) λσ H Q ⟨τ,J,Q2,a2,h,k⟩=>⟨τ,J,_,a2,h,λxs J' vs H' rs rr ee ⟨hl,q⟩ =>
 ⟨by rw [← rs.length];exact hl,λp hp=>by
  have sm:=cA.new hp (.tup vs)
  have e2:=Ext.same (K:=X.K) (J:=J') sm
  exact k (.tup xs) J' (.ref p) _ ⟨p,vs,rfl,.inl (.inl aZ),e2.jC rs⟩ (rr.same sm) (ee.trans e2) q⟩⟩⟩
def Qm (t:p8):dq:=λτ J Q=>t τ J λxs J1=>xs.length≤sizeLine∧∀p,J1 p=none→Q (.ref p) (put J1 p (.lst xs))
theorem kY (h:RA X G es t):RE X G (.List es pos) (Qm t):=⟨kM (L2.wZ h.run) λσ H Q ⟨τ,J,Q2,a2,h,k⟩=>⟨τ,J,_,a2,h,λxs J' vs H' rs rr ee ⟨hl,q⟩ =>
 ⟨by rw [← rs.length];exact hl,λp hp=>k (.ref p) _ (.ref p) _ rfl (rr.Cc hp rs) (ee.trans (.laid hp)) (q p (rr.free hp))⟩⟩⟩
def T5 (t:p8):dq:=λτ J Q=>t τ J λxs J1=>xs.length≤sizeLine∧Q (.fl xs) J1
theorem AE {K:PySem.W.Frag} {J:Hq} {H:Hp} {xs:List PV} {vs:List V} {p:Addr} (rr:Rep K J H) (rs:aY K J H xs vs) (hp:H p=none):cY K J (upd H p (.lst vs)) (.fl xs) (.ref p)∧Rep K J (upd H p (.lst vs))∧Ext K J H J (upd H p (.lst vs)):=by
 have sm:=cA.new hp (.lst vs)
 have e2:=Ext.same (K:=K) (J:=J) sm
 exact ⟨⟨p,vs,rfl,.inl ⟨rr.free hp,.inl aZ⟩,e2.jC rs⟩,rr.same sm,e2⟩
theorem qo (h:RA X G es t):RE X G (.List es pos) (T5 t):=⟨kM (L2.wZ h.run) λσ H Q ⟨τ,J,Q2,a2,h,k⟩=>⟨τ,J,_,a2,h,λxs J' vs H' rs rr ee ⟨hl,q⟩ =>
 ⟨by rw [← rs.length];exact hl,λp hp=>let ⟨x1,x2,x3⟩:=AE rr rs hp;k (.fl xs) _ (.ref p) _ x1 x2 (ee.trans x3) q⟩⟩⟩
abbrev N_:=Sr→Hq→(Option Int→Hq→Prop)→Prop
def LO (K:PySem.W.Frag) (G:G2) (t:N_):TO:=λσ H Q=>∃τ J Q2,yb K G τ J σ H∧t τ J Q2∧∀b J' H',Rep K J' H'→Ext K J H J' H'→Q2 b J'→Q b H'
structure RO (X:Cx) (G:G2) (e:Option Expr) (t:N_):Prop where
 run:L2.PO X e (LO X.K G t)
theorem T1 {X:Cx} {e:Option Expr} {t t':TO} (h:L2.PO X e t) (k:∀σ H Q,t' σ H Q→t σ H Q):L2.PO X e t':=λpins s σ H Q I q=>h pins s σ H Q I (k _ _ _ q)
def CA:N_:=λ_ J Q=>Q none J
def K5 (t:dq):N_:=λτ J Q=>t τ J λx J1=>Ed x λi=>Q (some i) J1
theorem lS:RO X G none CA:=⟨T1 L2.xb λσ H Q ⟨τ,J,Q2,a2,h,k⟩=>k none J H a2.hp .refl h⟩
theorem iy (h:RE X G e te):RO X G (some e) (K5 te):=⟨T1 (L2.xf h.run) λσ H Q ⟨τ,J,Q2,a2,h,k⟩=>⟨τ,J,_,a2,h,λx J' v H' rx rr ee qq=>by obtain ⟨i,ei,q⟩:=gT qq;subst ei;exact ⟨i,rx,k _ J' H' rr ee q⟩⟩⟩
abbrev Du:=PV→Option Int→Option Int→Hq→(PV→Hq→Prop)→Prop
def Q8 (X:Cx) (q:Du):Prop:=∃r,oY X r∧∀J H x lo hi v Q2 Q,cY X.K J H x v→Rep X.K J H→q x lo hi J Q2→Kn X.K J H Q2 Q→r v lo hi H Q
def T8 (q:Du) (te:dq) (tl th:N_):dq:=λτ J Q=>te τ J λx J1=>tl τ J1 λl J2=>th τ J2 λu J3=>q x l u J3 Q
theorem g7 {lo hi:Option Expr} {tl th:N_} {q:Du} (hr:Q8 X q) (he:RE X G e te) (hl:RO X G lo tl) (hu:RO X G hi th):RE X G (.Subscript e (.Slice lo hi none p2) pos) (T8 q te tl th):=by
 obtain ⟨r,h,lr⟩:=hr
 exact ⟨kM (L2.sL h he.run hl.run hu.run) λσ H Q ⟨τ,J,Q2,a2,h,k⟩=>⟨τ,J,_,a2,h,λx J' v H' rx rr ee q1=>⟨τ,J',_,a2.go rr ee,q1,λl J2 H2 r2 e2 q2 =>
  ⟨τ,J2,_,a2.go r2 (ee.trans e2),q2,λu J3 H3 r3 e3 q3=>lr J3 H3 x l u v Q2 Q ((e2.trans e3).rep rx) r3 q3 λz J4 w H4 rz r4 e4 q4=>k z J4 w H4 rz r4 (((ee.trans e2).trans e3).trans e4) q4⟩⟩⟩⟩
def Qg (q:zQ) (t:p8):dq:=λτ J Q=>t τ J λxs J1=>q xs J1 Q
theorem BO {r:List V→Hp→VK→Prop} {q:zQ} (lr:Tu X.K r q):∀σ H Q,LE X.K G (Qg q t) σ H Q→L2.NH r (LA X.K G t) σ H Q:=λσ H Q ⟨τ,J,Q2,a2,h,k⟩ =>
 ⟨τ,J,_,a2,h,λxs J1 vs H1 rs r1 e1 q1=>lr J1 H1 xs vs Q2 Q rs r1 q1 λz J' u H' rz rr ee qq=>k z J' u H' rz rr (e1.trans ee) qq⟩
theorem aF {id:String} {q:zQ} (hc:HG X (.builtin id) q) (hg:Gl X x) (hm:X.mg x=none) (hv:bootBuiltins x=some (.builtin id)) (ha:RA X G (e :: es) t) (hn:x≠"__name__":=by decide) (hdb:(x == ("__debug__":Str))=false:=by decide)
  (he:starEach (e :: es) X.env=(false,eval e X.env) :: starEach es X.env:=by rfl) (hpl:(backTo pos (starEach es X.env)).any (·.1)=false:=by rfl):RE X G (.Call (.Name x p) (e :: es) [] pos) (Qg q t):=by
 obtain ⟨r,h,lr⟩:=hc
 exact ⟨kM (L2.sI h hg hm hv ha.run hn hdb he hpl) (BO lr)⟩
theorem c8 {T:String} {q:zQ} (hc:HG X (.type T) q) (hg:Gl X x) (hm:X.mg x=none) (hv:bootBuiltins x=some (.type T)) (ha:RA X G (e :: es) t) (hn:x≠"__name__":=by decide) (hdb:(x == ("__debug__":Str))=false:=by decide)
  (he:starEach (e :: es) X.env=(false,eval e X.env) :: starEach es X.env:=by rfl) (hpl:(backTo pos (starEach es X.env)).any (·.1)=false:=by rfl):RE X G (.Call (.Name x p) (e :: es) [] pos) (Qg q t):=by
 obtain ⟨r,h,lr⟩:=hc
 exact ⟨kM (L2.pI h hg hm hv ha.run hn hdb he hpl) (BO lr)⟩
abbrev BM:=PV→List PV→Hq→(PV→Hq→Prop)→Prop
def Im (X:Cx) (T id:String) (q:BM):Prop:=∃r,md X id r∧∀J H x xs v vs Q2 Q,cY X.K J H x v→aY X.K J H xs vs→Rep X.K J H→q x xs J Q2→Kn X.K J H Q2 Q→r v vs H Q
def Oo (T:String) (J:Hq):PV→Prop
 | .str _=>T="str"
 | .fl _=>T="list"
 | .ref a=>(T="list"∧∃xs,J a=some (.lst xs))∨(T="dict"∧∃kvs ep,J a=some (.dct kvs ep))
 | _=>False
theorem C6 {K:PySem.W.Frag} {T:String} {J:Hq} {H:Hp} {x:PV} {v:V} (r:cY K J H x v) (hp:Rep K J H) (h:Oo T J x):L2.Rn K T v H:=by
 cases x with
 | str s=>cases r;exact h
 | fl xs=>obtain ⟨a,vs,rfl,h1,h2⟩:=r;exact .inl ⟨h,vs,h1.sq⟩
 | ref a =>
  cases r
  rcases h with ⟨h,xs,e⟩ | ⟨h,kvs,ep,e⟩
  ·obtain ⟨vs,h1,_⟩:=hp _ _ e;exact .inl ⟨h,vs,.inl (.inl h1)⟩
  ·obtain ⟨gs,h1,_⟩:=hp _ _ e;exact .inr (.inr (.inl ⟨h,.inr ⟨gs,ep,h1⟩⟩))
 | _=>cases h
def T4 (T:String) (q:BM) (to:dq) (t:p8):dq:=λτ J Q=>to τ J λx J1=>Oo T J1 x∧t τ J1 λxs J2=>q x xs J2 Q
def Qf (T:String) (q:BM) (to:dq):dq:=λτ J Q=>to τ J λx J1=>Oo T J1 x∧q x [] J1 Q
theorem gr {name:Str} {T id:String} {q:BM} (pa:PlainAttrs T) (slot:Slot T name id) (hty:typeOf (.builtin id)=pure (.type "method_descriptor")) (hm:Im X T id q) (ho:RE X G o to) (ha:RA X G (e :: es) t)
  (hbase:attributeBase o name X.env (eval o X.env)=eval o X.env:=by rfl)
  (hfew:((backTo cpos (starEach (e :: es) X.env)).all (λx=>!x.1) && (backToKw cpos (keywordEach [] X.env)).all (λx=>x.1.isSome)
   && decide ((e :: es).length + ([]:List Keyword).length + (if ([]:List Keyword).isEmpty then 0 else 1) < 30))=true:=by rfl)
  (hline:(apos.endLine == cpos.line)=true:=by rfl) (hs:starEach (e :: es) X.env=(false,eval e X.env) :: starEach es X.env:=by rfl) (hplain:(backTo cpos (starEach es X.env)).any (·.1)=false:=by rfl) :
  RE X G (.Call (.Attribute o name apos) (e :: es) [] cpos) (T4 T q to t):=by
 obtain ⟨r,h,lr⟩:=hm
 exact ⟨kM (L2.Gq pa slot hty h ho.run ha.run hbase hfew hline hs hplain) λσ H Q ⟨τ,J,Q2,a2,h,k⟩=>⟨τ,J,_,a2,h,λx J1 v H1 rx r1 e1 ⟨ty,q1⟩=>⟨C6 rx r1 ty,τ,J1,_,a2.go r1 e1,q1,λxs J2 vs H2 rs r2 e2 q2 =>
  lr J2 H2 x xs v vs Q2 Q (e2.rep rx) rs r2 q2 λz J' u H' rz rr ee qq=>k z J' u H' rz rr ((e1.trans e2).trans ee) qq⟩⟩⟩
theorem GY {name:Str} {T id:String} {q:BM} (pa:PlainAttrs T) (slot:Slot T name id) (hty:typeOf (.builtin id)=pure (.type "method_descriptor")) (hm:Im X T id q) (ho:RE X G o to)
  (hbase:attributeBase o name X.env (eval o X.env)=eval o X.env:=by rfl) (hline:(apos.endLine == cpos.line)=true:=by rfl):RE X G (.Call (.Attribute o name apos) [] [] cpos) (Qf T q to):=by
 obtain ⟨r,h,lr⟩:=hm
 exact ⟨kM (L2.M4 pa slot hty h ho.run hbase hline) λσ H Q ⟨τ,J,Q2,a2,h,k⟩=>⟨τ,J,_,a2,h,λx J1 v H1 rx r1 e1 ⟨ty,q1⟩=>⟨C6 rx r1 ty,
  lr J1 H1 x [] v [] Q2 Q rx rfl r1 q1 λz J' u H' rz rr ee qq=>k z J' u H' rz rr (e1.trans ee) qq⟩⟩⟩
end
end Ov
namespace Ov
open PySem PySem.Spec PyProof.Rows
open L2 (V HO Hp Inv Cx VK XK TE TT TA TS TG mF TI TO gw Ends rL Loc Gl Rd RelV Vals fw qO bS nj oY md gu R2 upd aZ aW dY f' Sp nA It cA b7 bR Passes ma aK Meth Mk Binds aS bU aw c4 fe dR)
abbrev cq:=List PV→Hq→(PV→Hq→Prop)→(Addr→Hq→Prop)→Prop
def N9 (K:PySem.W.Frag) (J:Hq) (H:Hp) (E2:Addr→Hq→Prop) (E:XK):Prop:=∀c J' H',Rep K J' H'→Ext K J H J' H'→E2 c J'→E (.ref c) none H'
def cK (K:PySem.W.Frag) (sp:cq):Sp:=λvs H Q E=>∃xs J Q2 E2,aY K J H xs vs∧Rep K J H∧sp xs J Q2 E2∧Kn K J H Q2 Q∧N9 K J H E2 E
theorem N9.ext {K:PySem.W.Frag} {J J':Hq} {H H':Hp} {E2:Addr→Hq→Prop} {E:XK} (k:N9 K J H E2 E) (e:Ext K J H J' H'):N9 K J' H' E2 E:=λc J1 H1 r x q=>k c J1 H1 r (e.trans x) q
theorem _root_.L2.aS.QZ {P:Program} {w:World} {K:PySem.W.Frag} {mg:Str→Option Value} {base:Heap} {k:Nat} {f:Addr} {fd:FuncData} {ps:List Str} {sp:Sp} (F:aS P w K mg base (cn P w) k f fd ps sp):aS P w K mg base L2.N8 k f fd ps (λvs H Q _=>sp vs H Q L2.E0) :=
 ⟨λvs H Q E q=>F.len vs H Q _ q,λA outer s H args us vs Q E hr he hb hv hs=>codeAny_mono (F.run A outer s H args us vs Q _ hr he hb hv hs) λr s' q=>by
  cases r with
  | error e=>obtain ⟨_,_,_,_,_,z⟩:=q;exact z.elim
  | ok fl=>cases fl <;> exact q⟩
def bj (P:Program) (w:World) (K:PySem.W.Frag) (mg:Str→Option Value) (base:Heap) (k:Nat) (x:Str) (ps:List Str) (sp:cq):Prop:=Lr P w K mg base k x ps (cK K sp)
section
variable {X:Cx} {G:G2} {a b c e o value:Expr} {es rest:List Expr} {ta tb te tc to tv:dq} {tA tB':me} {t:p8} {pos px p p2 apos cpos pos':Pos} {x:Str} {i j:Nat} {E:XK} {E2:Addr→Hq→Prop}
structure Dm (X:Cx) (G:G2) (E2:Addr→Hq→Prop) (E:XK):Prop where
 pass:Passes (cn X.prog X.w) X E
 kn:N9 X.K G.1 G.2 E2 E
def GR (sp:cq) (E2:Addr→Hq→Prop) (t:p8):dq:=λτ J Q=>t τ J λxs J1=>sp xs J1 Q E2
theorem aL {k k':Nat} {ps:List Str} {sp:cq} (C:bj X.prog X.w X.K X.mg X.base k x ps sp) (B:Dm X G E2 E) (hr:bR k' X.A) (ha:RA X G (e :: es) t) (hk:k≤k':=by decide) (hg:Gl X x:=by rfl)
  (hdb:(x == ("__debug__":Str))=false:=by decide) (he:starEach (e :: es) X.env=(false,eval e X.env) :: starEach es X.env:=by rfl) (hpl:(backTo pos (starEach es X.env)).any (·.1)=false:=by rfl) :
  RE X G (.Call (.Name x p) (e :: es) [] pos) (GR sp E2 t) :=
 ⟨kM (Jp C B.pass hr hk hg ha.run hdb he hpl) λσ H Q ⟨τ,J,Q2,a2,h,k⟩=>⟨τ,J,_,a2,h,λxs J1 vs H1 rs r1 e1 q1=>by
  simp only [Vc]
  exact ⟨xs,J1,Q2,E2,rs,r1,q1,λz J' u H' rz rr ee qq=>k z J' u H' rz rr (e1.trans ee) qq,B.kn.ext (a2.ext.trans e1)⟩⟩⟩
def Qi (C:Addr) (ta:dq) (f:Str):dq:=λτ J Q=>ta τ J λx J1=>Cj x λa=>ML C (J1 a) λfs=>vo (fs.lookup f) λv=>Q v J1
theorem aV {C:Addr} {f:Str} (cl:ma X.K C) (na:aK X.K C f) (he:RE X G e ta) (hb:attributeBase e f X.env (eval e X.env)=eval e X.env:=by rfl):RE X G (.Attribute e f pos) (Qi C ta f) :=
 ⟨kM (L2.M5 he.run hb) λσ H Q ⟨τ,J,Q2,a2,h,k⟩=>⟨τ,J,_,a2,h,λx J1 v H1 rx r1 e1 hh=>by
  obtain ⟨a,ex,hh⟩:=gh hh;obtain ⟨fs,ja,hh⟩:=AM hh;obtain ⟨y,lk,q⟩:=eh hh
  subst ex;cases rx
  obtain ⟨dx,gs,ha,rf⟩:=r1 _ _ ja
  obtain ⟨w,lw,rw'⟩:=rf.look lk
  exact ⟨a,C,dx,gs,w,rfl,ha,cl,na,lw,k y J1 w H1 rw' r1 e1 q⟩⟩⟩
structure bV (P:Program) (w:World) (K:PySem.W.Frag) (mg:Str→Option Value) (base:Heap) (C:Addr) (k:Nat) (m:Str) (ps:List Str) (sp:cq):Prop where
 cl:ma K C
 ex:∃f fd,Meth K C m f∧aS P w K mg base (cn P w) k f fd ps (cK K sp)∧Binds K fd ps []
theorem bV.imp {P:Program} {w:World} {K:PySem.W.Frag} {mg:Str→Option Value} {base:Heap} {C:Addr} {k:Nat} {m:Str} {ps:List Str} {sp sp':cq} (M:bV P w K mg base C k m ps sp) (h:∀xs J Q E,sp' xs J Q E→sp xs J Q E):bV P w K mg base C k m ps sp':=by
 obtain ⟨cl,f,fd,hm,F,r⟩:=M
 exact ⟨cl,f,fd,hm,F.imp λvs H Q E ⟨xs,J,Q2,E2,a,b,c,d⟩=>⟨xs,J,Q2,E2,a,b,h _ _ _ _ c,d⟩,r⟩
def JI (C:Addr) (m:Str) (sp:cq) (E2:Addr→Hq→Prop) (ta:dq) (t:p8):dq:=λτ J Q=>ta τ J λx J1=>Cj x λa=>ML C (J1 a) λfs=>fs.lookup m=none∧t τ J1 λxs J2=>sp (x :: xs) J2 Q E2
theorem yV {C:Addr} {m:Str} {sp:cq} (B:Dm X G E2 E):∀σ H Q,LE X.K G (JI C m sp E2 to t) σ H Q→L2.Hu C m (cK X.K sp) [] E (LE X.K G to) (LA X.K G t) σ H Q:=λσ H Q ⟨τ,J,Q2,a2,h,k⟩ =>
 ⟨τ,J,_,a2,h,λx J1 v H1 rx r1 e1 hh=>by
  obtain ⟨a,ex,hh⟩:=gh hh;obtain ⟨fs,ja,lk,q⟩:=AM hh
  subst ex;cases rx
  obtain ⟨dx,gs,ha,rf⟩:=r1 _ _ ja
  refine ⟨a,dx,gs,rfl,ha,rf.none lk,τ,J1,_,a2.go r1 e1,q,λxs J2 vs H2 rs r2 e2 q2=>?_⟩
  simp only [Vc]
  exact ⟨.ref a :: xs,J2,Q2,E2,⟨.ref a,vs,rfl,rfl,rs⟩,r2,q2,λz J' u H' rz rr ee qq=>k z J' u H' rz rr ((e1.trans e2).trans ee) qq,B.kn.ext ((a2.ext.trans e1).trans e2)⟩⟩
theorem aX {C:Addr} {m:Str} {k k':Nat} {ps:List Str} {sp:cq} {pl:Sem Bool} (M:bV X.prog X.w X.K X.mg X.base C k m ps sp) (B:Dm X G E2 E) (hr:bR k' X.A) (ho:RE X G o to) (ha:RA X G (e :: es) t) (hk:k≤k':=by decide)
  (hst:starEach (e :: es) X.env=(false,eval e X.env) :: starEach es X.env:=by rfl) (hpl:(backTo pos (starEach es X.env)).any (·.1)=false:=by rfl)
  (ht:eval (.Call (.Attribute o m apos) (e :: es) [] pos) X.env=(do
   let ov ← eval o X.env
   standAt apos.atName
   let (f,first) ← holding [ov] (getMethod ov m pl)
   callWith pos f first (backTo pos (starEach (e :: es) X.env)) (backToKw pos (keywordEach [] X.env))):=by rfl) :
  RE X G (.Call (.Attribute o m apos) (e :: es) [] pos) (JI C m sp E2 to t):=by
 obtain ⟨cl,f,fd,hm,F,b⟩:=M
 exact ⟨kM (L2.Jr (pl:=pl) ho.run cl hm F (hr.mono hk) b .nil B.pass ha.run hst hpl ht) (yV B)⟩
theorem dy {C:Addr} {m:Str} {k k':Nat} {ps:List Str} {sp:cq} {pl:Sem Bool} (M:bV X.prog X.w X.K X.mg X.base C k m ps sp) (B:Dm X G E2 E) (hr:bR k' X.A) (ho:RE X G o to) (hk:k≤k':=by decide)
  (ht:eval (.Call (.Attribute o m apos) [] [] pos) X.env=(do
   let ov ← eval o X.env
   standAt apos.atName
   let (f,first) ← holding [ov] (getMethod ov m pl)
   callWith pos f first (backTo pos (starEach [] X.env)) (backToKw pos (keywordEach [] X.env))):=by rfl) :
  RE X G (.Call (.Attribute o m apos) [] [] pos) (JI C m sp E2 to Be):=by
 obtain ⟨cl,f,fd,hm,F,b⟩:=M
 refine ⟨kM (L2.Gw (pl:=pl) ho.run cl hm F (hr.mono hk) b .nil B.pass ht) λσ H Q h=>?_⟩
 have z:=yV B σ H Q h
 obtain ⟨τ,J,Q2,a2,h1,k1⟩:=z
 refine ⟨τ,J,Q2,a2,h1,λx J1 v H1 rx r1 e1 q1=>?_⟩
 obtain ⟨a,dx,fs,h2,h3,h4,τ',J',Q',a2',h5,k5⟩:=k1 x J1 v H1 rx r1 e1 q1
 exact ⟨a,dx,fs,h2,h3,h4,k5 [] J' [] H1 rfl a2'.hp .refl h5⟩
structure yr (P:Program) (w:World) (K:PySem.W.Frag) (mg:Str→Option Value) (base:Heap) (C:Addr) (k:Nat) (x:Str) (ps:List Str) (sp:cq):Prop where
 m:mg x=some (.ref C)
 ex:∃f fd,Mk K C f∧aS P w K mg base (cn P w) k f fd ps (cK K sp)∧Binds K fd ps []
def JH (C:Addr) (sp:cq) (E2:Addr→Hq→Prop) (t:p8):dq:=λτ J Q=>t τ J λxs J1=>∀a,J1 a=none→sp (.ref a :: xs) (put J1 a (.ins C [])) (λv J2=>v=.non∧Q (.ref a) J2) E2
theorem yR {C:Addr} {sp:cq} (B:Dm X G E2 E):∀σ H Q,LE X.K G (JH C sp E2 t) σ H Q→L2.Ht C (cK X.K sp) [] E (LA X.K G t) σ H Q:=λσ H Q ⟨τ,J,Q2,a2,h,k⟩ =>
 ⟨τ,J,_,a2,h,λxs J1 vs H1 rs r1 e1 q1 x dx hx hdx ne=>by
  have s1:=cA.new hdx (.own x)
  have hx':upd H1 dx (.own x) x=none:=by rw [aW (Ne.symm ne)];exact hx
  have r2:=r1.same s1
  have e2:Ext X.K J1 H1 (put J1 x (.ins C [])) (upd (upd H1 dx (.own x)) x (.ins C dx [])):=(Ext.same s1).trans (.laid hx')
  have r3:Rep X.K (put J1 x (.ins C [])) (upd (upd H1 dx (.own x)) x (.ins C dx [])):=r2.ED (.laid hx') x (λa ne=>aq ne) (λa o ne _ z=>by rw [aW ne];exact z) λu z=>by
   rw [av] at z;cases z
   exact ⟨dx,[],aZ,rfl,rfl⟩
  simp only [Vc]
  refine ⟨.ref x :: xs,_,_,E2,⟨.ref x,vs,rfl,rfl,e2.jC rs⟩,r3,q1 x (r1.free hx),λz J' u H' rz rr ee ⟨ez,qq⟩=>?_,B.kn.ext ((a2.ext.trans e1).trans e2)⟩
  subst ez
  exact ⟨rz,k (.ref x) J' (.ref x) H' rfl rr ((e1.trans e2).trans ee) qq⟩⟩
theorem CB {C:Addr} {k k':Nat} {ps:List Str} {sp:cq} (M:yr X.prog X.w X.K X.mg X.base C k x ps sp) (B:Dm X G E2 E) (hr:bR k' X.A) (ha:RA X G (e :: es) t) (hk:k + 1≤k':=by decide) (hg:Gl X x:=by rfl)
  (hdb:(x == ("__debug__":Str))=false:=by decide) (he:starEach (e :: es) X.env=(false,eval e X.env) :: starEach es X.env:=by rfl) (hpl:(backTo pos (starEach es X.env)).any (·.1)=false:=by rfl) :
  RE X G (.Call (.Name x p) (e :: es) [] pos) (JH C sp E2 t):=by
 obtain ⟨hm,f,fd,mk,F,b⟩:=M
 exact ⟨kM (L2.Jq mk F (hr.mono hk) hg hm b .nil B.pass ha.run hdb he hpl) (yR B)⟩
theorem sV {C:Addr} {k k':Nat} {ps:List Str} {sp:cq} (M:yr X.prog X.w X.K X.mg X.base C k x ps sp) (B:Dm X G E2 E) (hr:bR k' X.A) (hk:k + 1≤k':=by decide) (hg:Gl X x:=by rfl)
  (hdb:(x == ("__debug__":Str))=false:=by decide):RE X G (.Call (.Name x p) [] [] pos) (JH C sp E2 Be):=by
 obtain ⟨hm,f,fd,mk,F,b⟩:=M
 refine ⟨kM (L2.Gv mk F (hr.mono hk) hg hm b .nil B.pass hdb) λσ H Q h=>?_⟩
 obtain ⟨τ,J,Q2,a2,h1,k1⟩:=yR (t:=Be) B σ H Q h
 exact k1 [] J [] H rfl a2.hp .refl h1
end
section
variable {X:Cx} {G:G2} {st:Stmt} {rest:List Stmt} {t u:i8} {e tg o value:Expr} {es:List Expr} {te ta tv:dq} {tc:me} {pos pos':Pos}
def vt:i8:=λD τ J=>D.nx τ J
def bc (t u:i8):i8:=λD τ J=>t { D with nx:=u D } τ J
theorem aH:RB X G [] vt:=⟨Sq L2.xi λD σ H ⟨τ,J,D2,a2,h,g⟩=>g.nx τ J σ H a2.sl a2.hp .refl h⟩
theorem ai (h1:RS X G st t) (h2:RB X G rest u):RB X G (st :: rest) (bc t u):=⟨Sq (L2.oE h1.run h2.run) λD σ H ⟨τ,J,D2,a2,h,g⟩=>⟨τ,J,{ D2 with nx:=u D2 },a2,h,
 { nx:=λτ' J' σ' H' rs rr ee q=>⟨τ',J',D2,⟨rs,rr,a2.ext.trans ee⟩,q,g.ext ee⟩,rt:=g.rt,bk:=g.bk,ct:=g.ct }⟩⟩
theorem ak (h1:RS X G st t):RB X G [st] t:=⟨L2.xj h1.run⟩
def qJ (t u:i8):i8:=λD τ J=>∃M:Sr→Hq→Prop,t { D with nx:=M } τ J∧∀τ' J',M τ' J'→u D τ' J'
theorem cx (h1:RS X G st t) (h2:RB X G rest u):RB X G (st :: rest) (qJ t u):=⟨Sq (L2.oE h1.run h2.run) λD σ H ⟨τ,J,D2,a2,⟨M,h,hm⟩,g⟩=>⟨τ,J,{ D2 with nx:=M },a2,h,
 { nx:=λτ' J' σ' H' rs rr ee q=>⟨τ',J',D2,⟨rs,rr,a2.ext.trans ee⟩,hm _ _ q,g.ext ee⟩,rt:=g.rt,bk:=g.bk,ct:=g.ct }⟩⟩
def Sx:i8:=λD τ J=>D.bk τ J
def Qh:i8:=λD τ J=>D.ct τ J
theorem zq:RS X G (.Continue pos) Qh:=⟨zj L2.kR λD σ H ⟨τ,J,D2,a2,h,g⟩=>g.ct τ J σ H a2.sl a2.hp .refl h⟩
def K1 (te:dq):i8:=λD τ J=>te τ J λ_ J1=>D.nx τ J1
theorem bA (he:RE X G e te) (hs:swapsWith e none pos.line X.env=pure false:=by rfl):RS X G (.Expr e pos) (K1 te):=⟨zj (L2.xg he.run hs) λD σ H ⟨τ,J,D2,a2,h,g⟩ =>
 ⟨τ,J,_,a2,h,λx J' v H' rx rr ee q=>g.nx τ J' σ H' (a2.sl.ext ee) rr ee q⟩⟩
def Qr (te:dq):i8:=λD τ J=>te τ J D.rt
theorem az (he:RE X G e te):RS X G (.Return (some e) pos) (Qr te):=⟨zj (L2.A7 he.run) λD σ H ⟨τ,J,D2,a2,h,g⟩=>⟨τ,J,_,a2,h,λx J' v H' rx rr ee q=>g.rt x J' v H' rx rr ee q⟩⟩
def K6:i8:=λD _ J=>D.rt .non J
theorem JO:RS X G (.Return none pos) K6:=⟨zj L2.xh λD σ H ⟨τ,J,D2,a2,h,g⟩=>g.rt .non J .non H rfl a2.hp .refl h⟩
def Eo (c:me) (t u:i8):i8:=λD τ J=>c τ J λb J1=>if b=true then t D τ J1 else u D τ J1
theorem aP {c:Expr} {a b:List Stmt} (hc:RT X G c tc) (ha:RB X G a t) (hb:RB X G b u):RS X G (.If c a b pos) (Eo tc t u):=⟨zj (L2.GC hc.run ha.run hb.run) λD σ H ⟨τ,J,D2,a2,h,g⟩ =>
 ⟨τ,J,_,a2,h,λc J' H' rr ee q=>by
  cases c with
  | true=>simp only [if_true] at q ⊢;exact ⟨τ,J',D2,a2.go rr ee,q,g.ext ee⟩
  | false=>simp only [UL,if_false] at q ⊢;exact ⟨τ,J',D2,a2.go rr ee,q,g.ext ee⟩⟩⟩
abbrev Ae:=PV→Sr→Hq→(Sr→Hq→Prop)→Prop
abbrev yv:=List PV→Sr→Hq→(Sr→Hq→Prop)→Prop
def LG (K:PySem.W.Frag) (G:G2) (t:Ae):TG:=λv σ H Q=>∃x τ J Q2,cY K J H x v∧yb K G τ J σ H∧t x τ J Q2∧∀τ' J' σ' H',mE K J' H' τ' σ'→Rep K J' H'→Ext K J H J' H'→Q2 τ' J'→Q σ' H'
def Ua (K:PySem.W.Frag) (G:G2) (t:yv):mF:=λvs σ H Q=>∃xs τ J Q2,aY K J H xs vs∧yb K G τ J σ H∧t xs τ J Q2∧∀τ' J' σ' H',mE K J' H' τ' σ'→Rep K J' H'→Ext K J H J' H'→Q2 τ' J'→Q σ' H'
structure RG (X:Cx) (G:G2) (e:Expr) (t:Ae):Prop where
 run:L2.PG X e (LG X.K G t)
structure Q7 (X:Cx) (G:G2) (es:List Expr) (t:yv):Prop where
 run:L2.Kk X es (Ua X.K G t)
theorem Ss {X:Cx} {e:Expr} {t t':TG} (h:L2.PG X e t) (k:∀v σ H Q,t' v σ H Q→t v σ H Q):L2.PG X e t':=λpins s σ H v u Q I r q=>h pins s σ H v u Q I r (k _ _ _ _ q)
theorem PY {X:Cx} {e:List Expr} {t t':mF} (h:L2.Kk X e t) (k:∀v σ H Q,t' v σ H Q→t v σ H Q):L2.Kk X e t':=λpins s σ H v u Q I r q=>h pins s σ H v u Q I r (k _ _ _ _ q)
def Iz (i:Nat):Ae:=λx τ J Q=>Q (τ.set i (some x)) J
theorem bC {i:Nat} {x:Str} (hN:X.N.Nodup) (hi:X.N[i]?=some x:=by rfl) (hx:Loc X.env.scope x:=by first | exact .inl rfl | exact .inr rfl) (hf:X.fn x=true∨X.env.scope.names.lookup x=some .local:=by first | exact .inl rfl | exact .inr rfl | assumption):RG X G (.Name x pos) (Iz i) :=
 ⟨Ss (L2.w8 hN hi hx hf) λv σ H Q ⟨x,τ,J,Q2,rx,a2,q,k⟩=>k _ J _ H (a2.sl.set i rx) a2.hp .refl q⟩
def TH:yv:=λvs τ J Q=>Sm vs (Q τ J)
def TF (t:Ae) (u:yv):yv:=λvs τ J Q=>MN vs λv r=>t v τ J λτ' J'=>u r τ' J' Q
theorem oI:Q7 X G [] TH:=⟨PY L2.w9 λvs σ H Q ⟨xs,τ,J,Q2,rs,a2,hh,k⟩=>by obtain ⟨e,q⟩:=MQ hh;subst e;exact ⟨rs,k τ J σ H a2.sl a2.hp .refl q⟩⟩
theorem dz {e:Expr} {es:List Expr} {t:Ae} {u:yv} (h1:RG X G e t) (h2:Q7 X G es u)
  (hs:(assignEach (e :: es) X.env).map (·.2)=assign e X.env :: (assignEach es X.env).map (·.2):=by rfl):Q7 X G (e :: es) (TF t u):=⟨PY (L2.sM h1.run h2.run hs) λvs σ H Q ⟨xs,τ,J,Q2,rs,a2,hh,k⟩=>by
 obtain ⟨y,r,e,q⟩:=Jf hh
 subst e
 obtain ⟨v,us,rfl,rv,ru⟩:=rs
 exact ⟨v,us,rfl,y,τ,J,_,rv,a2,q,λτ' J' σ' H' rs' rr ee q'=>⟨r,τ',J',Q2,ee.jC ru,⟨rs',rr,a2.ext.trans ee⟩,q',λτ2 J2 σ2 H2 rs2 rr2 ee2 q2=>k τ2 J2 σ2 H2 rs2 rr2 (ee.trans ee2) q2⟩⟩⟩
def TK (n:Nat) (t:yv):Ae:=λx τ J Q=>Og x λxs=>xs.length=n∧t xs τ J Q
theorem sX {k:Nat} {t:yv} {n:Nat} (hc:X.calm=true) (h:Q7 X G es t)
  (hn:(assignEach es X.env).length=n:=by rfl) (hst:(assignEach es X.env).findIdx? (·.1)=none:=by rfl):RG X G (.Tuple es k pos) (TK n t):=⟨Ss (L2.AZ hc h.run hn hst) λv σ H Q ⟨x,τ,J,Q2,rx,a2,hh,k⟩=>by
 obtain ⟨xs,e,l,q⟩:=Gf hh
 subst e
 obtain ⟨a,vs,rfl,h1,h2⟩:=rx
 exact ⟨a,vs,rfl,h1,by rw [← h2.length];exact l,xs,τ,J,Q2,h2,a2,q,k⟩⟩
def uF (te:dq) (g:Ae):i8:=λD τ J=>te τ J λx J1=>g x τ J1 D.nx
theorem xx {tg e:Expr} {g:Ae} (he:RE X G e te) (hg:RG X G tg g) (hs:swapsWithSole [tg] e pos.line X.env=pure false:=by rfl) (hw:swappedStores [tg] e X.env=pure none:=by rfl)
  (h1:(assignEach [tg] X.env).map (·.2)=[assign tg X.env]:=by rfl):RS X G (.Assign [tg] e pos) (uF te g):=⟨zj (L2.A3 he.run hg.run hs hw h1) λD σ H ⟨τ,J,D2,a2,h,g⟩ =>
 ⟨τ,J,_,a2,h,λx J' v H' rx rr ee q=>⟨x,τ,J',_,rx,a2.go rr ee,q,λτ' J2 σ' H2 rs r2 e2 q2=>g.nx τ' J2 σ' H2 rs r2 (ee.trans e2) q2⟩⟩⟩
theorem aA {i:Nat} {x:Str} {pos':Pos} (hN:X.N.Nodup) (he:RE X G e te) (hi:X.N[i]?=some x:=by rfl) (hx:Loc X.env.scope x:=by first | exact .inl rfl | exact .inr rfl) (hs:swapsWith e (some (.Name x pos')) pos.line X.env=pure false:=by rfl) (hf:X.fn x=true∨X.env.scope.names.lookup x=some .local:=by first | exact .inl rfl | exact .inr rfl | assumption) :
  RS X G (.Assign [.Name x pos'] e pos) (uF te (Iz i)):=⟨zj (L2.A8 hN hi hx he.run hs hf) λD σ H ⟨τ,J,D2,a2,h,g⟩ =>
 ⟨τ,J,_,a2,h,λx J' v H' rx rr ee q=>g.nx _ J' _ H' ((a2.sl.ext ee).set i rx) rr ee q⟩⟩
def Qp (i j:Nat) (ta:p8):i8:=λD τ J=>ta τ J λvs J1=>MR vs λv w=>D.nx ((τ.set i (some v)).set j (some w)) J1
theorem xy {i j:Nat} {x y:Str} {a b:Expr} {ta:p8} {px py pt:Pos} {kt k2 pt2} (hc:X.calm=true) (hN:X.N.Nodup) (hi:X.N[i]?=some x) (hj:X.N[j]?=some y) (hij:i≠j)
  (hx:X.env.scope.names.lookup x=some .local) (hy:X.env.scope.names.lookup y=some .local) (ha:RA X G [a,b] ta)
  (hw:swappedStores [.Tuple [.Name x px,.Name y py] kt pt] (.Tuple [a,b] k2 pt2) X.env=pure (some [x,y]))
  (hs:swapsWithSole [.Tuple [.Name x px,.Name y py] kt pt] (.Tuple [a,b] k2 pt2) pos.line X.env=pure false:=by rfl) :
  RS X G (.Assign [.Tuple [.Name x px,.Name y py] kt pt] (.Tuple [a,b] k2 pt2) pos) (Qp i j ta):=⟨zj (L2.A6 hc hN hi hj hij hx hy ha.run hw hs) λD σ H ⟨τ,J,D2,a2,h,g⟩ =>
 ⟨τ,J,_,a2,h,λxs J' vs H' rs rr ee hh=>by
  obtain ⟨v,w,e,q⟩:=AN hh
  subst e
  obtain ⟨v',us,rfl,rv,w',us',rfl,rw',e'⟩:=rs
  cases e'
  exact ⟨v',w',rfl,g.nx _ J' _ H' (((a2.sl.ext ee).set i rv).set j rw') rr ee q⟩⟩⟩
def kX (f:Str) (v:PV):List (Str × PV)→List (Str × PV)
 | []=>[(f,v)]
 | (g,w) :: r=>if g=f then (g,v) :: r else (g,w) :: kX f v r
theorem zm {K:PySem.W.Frag} {J:Hq} {H:Hp} {f:Str} {y:PV} {v:V} (r:cY K J H y v):∀{fs:List (Str × PV)} {gs:List (Str × V)},mD K J H fs gs→mD K J H (kX f y fs) (dR f v gs)
 | [],[],_=>⟨rfl,v,[],rfl,r,rfl⟩
 | [],_ :: _,h=>by cases h.1
 | _ :: _,[],h=>by cases h.1
 | (k,y') :: fs,(k',w) :: gs,h=>by
  obtain ⟨h1,v',us,h2,h3,h4⟩:=h
  simp only [UA,List.cons.injEq] at h1 h2
  obtain ⟨rfl,h1⟩:=h1
  obtain ⟨rfl,rfl⟩:=h2
  unfold kX L2.dR
  by_cases hk:k=f
  ·rw [if_pos hk,if_pos hk]
   exact ⟨by simp only [UA,h1],v,_,rfl,r,h4⟩
  ·rw [if_neg hk,if_neg hk]
   obtain ⟨z1,z2⟩:=zm (f:=f) r (⟨h1,h4⟩:mD K J H fs gs)
   exact ⟨by simp only [UA,z1],w,_,rfl,h3,z2⟩
def K2 (C:Addr) (ta tv:dq) (f:Str):i8:=λD τ J=>tv τ J λy J1=>ta τ J1 λx J2=>Cj x λa=>ML C (J2 a) λfs=>fs.length < 1000∧D.nx τ (put J2 a (.ins C (kX f y fs)))
theorem Ext.N1 {K:PySem.W.Frag} {J:Hq} {H:Hp} {p C dx:Addr} {fs gs:List (Str × PV)} {fs' gs':List (Str × V)} (h:J p=some (.ins C fs)) (k:H p=some (.ins C dx fs')):Ext K J H (put J p (.ins C gs)) (upd H p (.ins C dx gs')):=by
 have sm:∀a u,a≠p→Rd H a u→Rd (upd H p (.ins C dx gs')) a u:=λa u ne z=>by
  rcases z with z | ⟨o,z⟩
  ·exact .inl (by rw [aW ne];exact z)
  ·exact .inr ⟨o,by rw [aW ne];exact z⟩
 have nn:∀a u,(∀c d l,u≠HO.ins c d l)→Rd H a u→a≠p:=λa u d z e=>by
  subst e
  rcases z with z | ⟨o,z⟩
  ·rw [k] at z;cases z;exact d _ _ _ rfl
  ·rw [k] at z;cases z
 refine ⟨λa vs' z=>?_,λa o z q _=>?_⟩
 ·rcases z with z | z
  ·exact .inl (sm a _ (nn a (.tup vs') (λ_ _ _ e=>nomatch e) z) z)
  ·exact .inr z
 ·have ne:a≠p:=by intro e;subst e;rw [h] at z;cases z
  exact ⟨by rw [aq ne];exact z,by rw [aW ne];exact q⟩
theorem eY {C:Addr} {f:Str} (cl:ma X.K C) (na:aK X.K C f) (ha:RE X G o ta) (hv:RE X G value tv) (hs:swapsWith value (some (.Attribute o f pos')) pos.line X.env=pure false:=by rfl):RS X G (.Assign [.Attribute o f pos'] value pos) (K2 C ta tv f) :=
 ⟨zj (L2.M9 ha.run hv.run hs) λD σ H ⟨τ,J,D2,a2,h,g⟩=>⟨τ,J,_,a2,h,λy J1 v H1 ry r1 e1 q1=>⟨τ,J1,_,a2.go r1 e1,q1,λx J2 w H2 rx r2 e2 hh=>by
  obtain ⟨a,ex,hh⟩:=gh hh;obtain ⟨fs,ja,hl,q2⟩:=AM hh
  subst ex;cases rx
  obtain ⟨dx,gs,h2,rf⟩:=r2 _ _ ja
  have ll:gs.length=fs.length:=by have:=congrArg Vp rf.1;simpa using this.symm
  have e3:=Ext.N1 (K:=X.K) (gs:=kX f y fs) (gs':=dR f v gs) ja h2
  refine ⟨a,C,dx,gs,rfl,h2,cl,na,by omega,g.nx τ _ σ _ (((a2.sl.ext e1).ext e2).ext e3) ?_ ((e1.trans e2).trans e3) q2⟩
  refine r2.ED e3 a (λb ne=>aq ne) (λb o ne _ z=>by rw [aW ne];exact z) λu z=>?_
  rw [av] at z;cases z
  exact ⟨dx,_,aZ,e3.zp (zm (e2.rep ry) rf)⟩⟩⟩⟩
def GU (c:me) (tb:i8):i8:=λD τ J=>∃W:Nat→Sr→Hq→Prop,(∃m,W m τ J)∧∀m τ J,W m τ J →
 c τ J λb J1=>if b=true then ∃N:Sr→Hq→Prop,(∀τ' J',N τ' J'→∃m',m' < m∧W m' τ' J')∧tb { D with nx:=N,ct:=N,bk:=D.nx } τ J1 else D.nx τ J1
theorem g8 {c:Expr} {body:List Stmt} {tb:i8} (hp:PassesOwn (model X.prog X.w) X.A X.env X.xe) (hc:RT X G c tc) (hb:RB X G body tb):RS X G (.While c body [] pos) (GU tc tb):=⟨zj (L2.sS hp hc.run hb.run) λD σ H ⟨τ,J,D2,a2,⟨W,⟨m0,w0⟩,h⟩,g⟩=>by
 refine ⟨λm σ' H'=>∃τ' J',yb X.K G τ' J' σ' H'∧Ext X.K J H J' H'∧W m τ' J',⟨m0,τ,J,a2,.refl,w0⟩,λm σ1 H1 ⟨τ1,J1,a1,e1,w1⟩=>?_⟩
 refine ⟨τ1,J1,_,a1,h m τ1 J1 w1,λb J2 H2 r2 e2 q=>?_⟩
 cases b with
 | false=>simp only [UL,if_false] at q ⊢;exact g.nx τ1 J2 σ1 H2 (a1.sl.ext e2) r2 (e1.trans e2) q
 | true =>
  simp only [if_true] at q ⊢
  obtain ⟨N,hN,q⟩:=q
  refine ⟨λσ' H'=>∃τ' J',yb X.K G τ' J' σ' H'∧Ext X.K J H J' H'∧N τ' J',λσ' H' ⟨τ',J',a',e',n'⟩=>let ⟨m',lt,w'⟩:=hN τ' J' n';⟨m',lt,τ',J',a',e',w'⟩,τ1,J2,{ D2 with nx:=N,ct:=N,bk:=D2.nx },a1.go r2 e2,q,?_⟩
  have ge:=g.ext (e1.trans e2)
  exact { nx:=λτ' J' σ' H' rs rr ee q=>⟨τ',J',⟨rs,rr,(a1.ext.trans e2).trans ee⟩,(e1.trans e2).trans ee,q⟩,rt:=ge.rt,bk:=ge.nx,ct:=λτ' J' σ' H' rs rr ee q=>⟨τ',J',⟨rs,rr,(a1.ext.trans e2).trans ee⟩,(e1.trans e2).trans ee,q⟩ }⟩
structure Aa where
 xs:List PV
 ok:Hq→Prop
structure uO (K:PySem.W.Frag) (it:Aa) (I:It) (J:Hq) (H:Hp):Prop where
 go:∀J' H',Ext K J H J' H'→Rep K J' H'→it.ok J'→∀i,i < it.xs.length→I.go i H'
 yl:∀J' H',Ext K J H J' H'→Rep K J' H'→it.ok J'→∀i,i < it.xs.length→∀v H2,I.yld i H' v H2→∃x,it.xs[i]?=some x∧cY K J' H2 x v∧Rep K J' H2∧Ext K J' H' J' H2
 stop:∀J' H',Ext K J H J' H'→Rep K J' H'→it.ok J'→I.stop it.xs.length H'
abbrev rK:=Sr→Hq→(Aa→Hq→Prop)→Prop
def LI (K:PySem.W.Frag) (G:G2) (t:rK):TI:=λσ H R=>∃τ J R2,yb K G τ J σ H∧t τ J R2∧∀it J' I H',uO K it I J' H'→Rep K J' H'→Ext K J H J' H'→R2 it J'→R I H'
structure RI (X:Cx) (G:G2) (tg e:Expr) (t:rK):Prop where
 run:L2.PI X tg e (LI X.K G t)
theorem PZ {X:Cx} {tg e:Expr} {t t':TI} (h:L2.PI X tg e t) (k:∀σ H Q,t' σ H Q→t σ H Q):L2.PI X tg e t':=λpins s σ H Q I q=>h pins s σ H Q I (k _ _ _ q)
def Qj (wi:rK) (g:Ae) (tb:i8):i8:=λD τ J=>wi τ J λit J1=>∃Pv:Nat→Sr→Hq→Prop,Pv 0 τ J1∧(∀i τ J,Pv i τ J→it.ok J) ∧
 (∀i x τ J,it.xs[i]?=some x→Pv i τ J→g x τ J λτ2 J2=>tb { D with nx:=Pv (i + 1),ct:=Pv (i + 1),bk:=D.nx } τ2 J2)∧∀τ J,Pv it.xs.length τ J→D.nx τ J
theorem cR {iter:Expr} {body:List Stmt} {wi:rK} {g:Ae} {tb:i8} {pos:Pos} (hp:PassesOwn (model X.prog X.w) X.A X.env X.xe) (hc:X.calm=true) (hi:RI X G tg iter wi) (hg:RG X G tg g) (hb:RB X G body tb)
  (hs:∀x,foldedSetIterable iter X.env x=pure x:=by intro _;rfl):RS X G (.For tg iter body [] pos) (Qj wi g tb):=⟨zj (L2.A4 hp hc hi.run hg.run hb.run hs) λD σ H ⟨τ,J,D2,a2,h,g⟩=>by
 refine ⟨τ,J,_,a2,h,λit J1 I H1 ir r1 e1 ⟨Pv,p0,pok,step,fin⟩=>?_⟩
 refine ⟨λi m σ' H'=>m=it.xs.length - i∧i≤it.xs.length∧∃τ' J',yb X.K G τ' J' σ' H'∧Ext X.K J1 H1 J' H'∧Pv i τ' J',⟨_,rfl,Vb _,τ,J1,a2.go r1 e1,.refl,p0⟩,?_⟩
 rintro i m σ2 H2 ⟨rfl,hil,τ2,J2,a3,e3,p3⟩
 by_cases hlt:i < it.xs.length
 ·refine .inr ⟨ir.go J2 H2 e3 a3.hp (pok _ _ _ p3) i hlt,λσ' H'=>∃τ' J',yb X.K G τ' J' σ' H'∧Ext X.K J1 H1 J' H'∧Pv (i + 1) τ' J',λσ' H' z=>⟨_,by omega,rfl,hlt,z⟩,λv H4 y=>?_⟩
  obtain ⟨x,ex,rx,r4,e4⟩:=ir.yl J2 H2 e3 a3.hp (pok _ _ _ p3) i hlt v H4 y
  refine ⟨x,τ2,J2,_,rx,a3.go r4 e4,step i x τ2 J2 ex p3,λτ5 J5 σ5 H5 rs5 r5 e5 q5=>?_⟩
  have ae:=(a3.ext.trans e4).trans e5
  have ge:=g.ext (((e1.trans e3).trans e4).trans e5)
  refine ⟨τ5,J5,{ D2 with nx:=Pv (i + 1),ct:=Pv (i + 1),bk:=D2.nx },⟨rs5,r5,ae⟩,q5,?_⟩
  exact { nx:=λτ' J' σ' H' rs rr ee q=>⟨τ',J',⟨rs,rr,ae.trans ee⟩,((e3.trans e4).trans e5).trans ee,q⟩,rt:=ge.rt,bk:=ge.nx,ct:=λτ' J' σ' H' rs rr ee q=>⟨τ',J',⟨rs,rr,ae.trans ee⟩,((e3.trans e4).trans e5).trans ee,q⟩ }
 ·have ei:i=it.xs.length:=by omega
  subst ei
  exact .inl ⟨ir.stop J2 H2 e3 a3.hp (pok _ _ _ p3),g.nx τ2 J2 σ2 H2 a3.sl a3.hp (e1.trans e3) (fin _ _ p3)⟩⟩
def Rb (J:Hq):PV→Option Aa
 | .fl xs=>some ⟨xs,λ_=>True⟩
 | .ref a=>match J a with
  | some (.lst xs)=>some ⟨xs,λJ'=>J' a=some (.lst xs)⟩
  | _=>none
 | _=>none
def TN (te:dq):rK:=λτ J R=>te τ J λx J1=>vo (Rb J1 x) λit=>R it J1
theorem uO.list {K:PySem.W.Frag} {it:Aa} {a:Addr} {J:Hq} {H:Hp} (h:∀J' H',Ext K J H J' H'→Rep K J' H'→it.ok J'→∃vs,dY K H' a vs∧aY K J' H' it.xs vs):uO K it (L2.Rq K a) J H where
 go:=λJ' H' e r o i hi=>by
  obtain ⟨vs,s,rs⟩:=h J' H' e r o
  exact ⟨vs,vs[i]'(by rw [← rs.length];exact hi),s,by simp⟩
 yl:=λJ' H' e r o i hi v H2 y=>by
  obtain ⟨vs,s,rs⟩:=h J' H' e r o
  obtain ⟨e1,y⟩:=y
  subst e1
  obtain ⟨x,ex,rx⟩:=rs.get' (y vs s)
  exact ⟨x,ex,rx,r,.refl⟩
 stop:=λJ' H' e r o=>by
  obtain ⟨vs,s,rs⟩:=h J' H' e r o
  exact ⟨vs,s,by rw [rs.length];exact UC _⟩
theorem d7 {l:Expr} {tl:dq} (hl:RE X G l tl):RI X G tg l (TN tl):=⟨PZ (L2.w_ hl.run) λσ H R ⟨τ,J,R2,a2,h,k⟩=>⟨τ,J,_,a2,h,λx J1 v H1 rx r1 e1 hh=>by
 obtain ⟨it,ei,q⟩:=eh hh
 cases x with
 | fl xs =>
  obtain ⟨a,vs,rfl,h1,h2⟩:=rx
  cases ei
  refine ⟨a,rfl,⟨vs,h1.sq⟩,k _ J1 _ H1 (.list λJ' H' e r _=>⟨vs,(e.flat h1).sq,e.jC h2⟩) r1 e1 q⟩
 | ref a =>
  cases rx
  unfold Rb at ei
  dsimp only at ei
  cases ej:J1 a with
  | none=>rw [ej] at ei;cases ei
  | some o =>
   rw [ej] at ei
   cases o with
   | lst xs =>
    cases ei
    obtain ⟨vs,h1,h2⟩:=r1 _ _ ej
    refine ⟨a,rfl,⟨vs,.inl (.inl h1)⟩,k _ J1 _ H1 (.list λJ' H' e r o=>?_) r1 e1 q⟩
    obtain ⟨vs',h1',h2'⟩:=r _ _ o
    exact ⟨vs',.inl (.inl h1'),h2'⟩
   | _=>cases ei
 | _=>cases ei⟩⟩
def Uh (te:dq):rK:=λτ J R=>te τ J λx J1=>Og x λxs=>R ⟨xs,λ_=>True⟩ J1
def sd (lo:Int) (n:Nat):List PV:=(Vz n).map λ(i:Nat)=>PV.int (lo + (i:Int))
theorem kr (lo:Int) (n:Nat):(sd lo n).length=n:=by simp [sd]
theorem se (lo:Int) (n i:Nat) (x:PV):(sd lo n)[i]?=some x↔i < n∧x=.int (lo + i):=by
 unfold sd
 rw [Uw]
 by_cases h:i < n
 ·rw [Wy h];simp [h,eq_comm]
 ·rw [Vn (by simpa using h)];simp [h]
theorem uO.Ol {K:PySem.W.Frag} {J:Hq} {H:Hp} (lo:Int) (n:Nat):uO K ⟨sd lo n,λ_=>True⟩ (L2.Oy lo n) J H where
 go:=λJ' H' e r o i hi=>by
  show i < n
  simpa [kr] using hi
 yl:=λJ' H' e r o i hi v H2 y=>by
  obtain ⟨e1,y⟩:=y
  subst e1 y
  exact ⟨.int (lo + i),(se lo n i _).mpr ⟨by simpa [kr] using hi,rfl⟩,rfl,r,.refl⟩
 stop:=λJ' H' e r o=>by
  show n≤(sd lo n).length
  rw [kr];exact UC _
def TQ (ta:p8):rK:=λτ J R=>ta τ J λvs J1=>AK vs λx=>Ed x λj=>-(2 ^ 62)≤j∧j < 2 ^ 62∧R ⟨sd 0 j.toNat,λ_=>True⟩ J1
def Ug (ta:p8):rK:=λτ J R=>ta τ J λvs J1=>MR vs λx y=>Ed x λi=>Ed y λj=>(-(2 ^ 62)≤i∧i < 2 ^ 62∧-(2 ^ 62)≤j∧j < 2 ^ 62)∧R ⟨sd i (j - i).toNat,λ_=>True⟩ J1
theorem fM {a:Expr} {ta:p8} {p pos:Pos} (hg:Gl X "range") (hm:X.mg "range"=none) (ha:RA X G [a] ta) (hs:starEach [a] X.env=[(false,eval a X.env)]:=by rfl):RI X G tg (.Call (.Name "range" p) [a] [] pos) (TQ ta) :=
 ⟨PZ (L2.pJ hg hm ha.run hs) λσ H R ⟨τ,J,R2,a2,h,k⟩=>⟨τ,J,_,a2,h,λxs J1 vs H1 rs r1 e1 hh=>by
  obtain ⟨x,ex,hh⟩:=gS hh;obtain ⟨j,ej,l1,l2,q⟩:=gT hh;subst ej ex
  obtain ⟨v,us,rfl,rv,e'⟩:=rs
  cases rv;cases e'
  exact ⟨j,rfl,l1,l2,k _ J1 _ H1 (.Ol 0 _) r1 e1 q⟩⟩⟩
def eW (C:Addr) (E2:Addr→Hq→Prop) (t:p8):i8:=λ_ τ J=>t τ J λxs J1=>xs.length≤sizeLine∧E2 C J1
theorem c9 {E:XK} {E2:Addr→Hq→Prop} {C:Addr} {x:Str} {t:p8} {np cpos:Pos} (O:Own X.K X.mg x C) (hc:X.calm=true) (hx:Throws X E) (kn:N9 X.K G.1 G.2 E2 E) (hg:Gl X x) (ha:RA X G (e :: es) t)
  (hd:(x == ("__debug__":Str))=false:=by decide) (he:starEach (e :: es) X.env=(false,eval e X.env) :: starEach es X.env:=by rfl) (hpl:(backTo cpos (starEach es X.env)).any (·.1)=false:=by rfl) :
  RS X G (.Raise (some (.Call (.Name x np) (e :: es) [] cpos)) none pos) (eW C E2 t):=⟨zj (Em O hc hx hg ha.run hd he hpl) λD σ H ⟨τ,J,D2,a2,h,g⟩ =>
 ⟨τ,J,_,a2,h,λxs J1 vs H1 rs r1 e1 ⟨hl,q⟩=>⟨by rw [← rs.length];exact hl,kn C J1 H1 r1 (a2.ext.trans e1) q⟩⟩⟩
end
section
variable {P:Program} {w:World} {K:PySem.W.Frag} {mg:Str→Option Value} {base:Heap}
section
variable {α β:Type} {a b:α} {l m:List α} {i:Nat} {f:α→β} {c:Bool}
theorem N6:Wi f (a :: l)=f a :: Wi f l:=rfl
theorem N7:Wi f []=[]:=rfl
theorem N4:(a :: l).length=l.length + 1:=rfl
theorem N5:([]:List α).length=0:=rfl
theorem N2:(a :: l) ++ m=a :: (l ++ m):=rfl
theorem N3:[] ++ m=m:=rfl
theorem Ta:(a :: l)[0]?=some a:=rfl
theorem Tb:(a :: l)[i + 1]?=l[i]?:=rfl
theorem Ti:(a :: l).set 0 b=b :: l:=rfl
theorem Tj:(a :: l).set (i + 1) b=a :: l.set i b:=rfl
theorem Tf:Option.map f (some a)=some (f a):=rfl
theorem Te:(some a).getD b=a:=rfl
theorem Td:(!true)=false:=rfl
theorem Tc:(!false)=true:=rfl
theorem Tn:(true && c)=c:=rfl
theorem S_:(false && c)=false:=rfl
theorem Tg:VA 0 a=[]:=rfl
theorem Th:VA (i + 1) a=a :: VA i a:=rfl
theorem Q1:(a :: l).isEmpty=false:=rfl
theorem Q3:([]:List α).isEmpty=true:=rfl
end
def tU (N:List Str) (xs:List PV):Sr:=xs.map some ++ VA (N.length - xs.length) none
theorem zN {J:Hq} {H:Hp} {N:List Str} {xs:List PV} {vs:List V} (r:aY K J H xs vs):mE K J H (tU N xs) (L2.start N vs):=by
 refine ⟨by simp [tU,L2.start,r.length],λi x e=>?_⟩
 unfold tU at e
 unfold L2.start
 by_cases hi:i < xs.length
 ·rw [Vq (by simpa using hi),Uw] at e
  cases ex:xs[i]? with
  | none=>rw [ex] at e;cases e
  | some y =>
   rw [ex] at e
   cases e
   obtain ⟨v,h1,h2⟩:=r.get ex
   exact ⟨v,by rw [Vq (by rw [Us,← r.length];exact hi),Uw,h1];rfl,h2⟩
 ·rw [VF (by simpa using hi)] at e
  have:=Uz e
  rw [List.mem_replicate] at this
  cases this.2
theorem Sk {x qual:Str} {st:Stmt} {f:Addr} {fd:FuncData} {N ps:List Str} {k:Nat} {sp:cq} (F:bU K x qual st f fd) (S:aw N ps (L2.au st)) (len:∀xs J Q E,sp xs J Q E→xs.length=ps.length)
  (hbody:∀(cdv:Value) (A:Around) (outer:List Env) (s:Shared) (H:Hp) (E:XK) (G:G2) (xs:List PV) (J:Hq) (Q:PV→Hq→Prop) (E2:Addr→Hq→Prop),bR k (A.deeper (envOfC qual (L2.au st) s.heap.objs.size f cdv))→sp xs J Q E2 →
   Dm (yc P w K mg base N qual (L2.au st) f cdv A outer s H E) G E2 E →
   ∃t,RB (yc P w K mg base N qual (L2.au st) f cdv A outer s H E) G (L2.cg st) t∧t { nx:=λ_ J'=>Q .non J',rt:=Q } (tU N xs) J):aS P w K mg base (cn P w) (k + 1) f fd ps (cK K sp):=by
 refine Um F S (λvs H Q E ⟨xs,J,Q2,E2,a,_,b,_⟩=>by rw [← a.length];exact len _ _ _ _ b) λcdv A outer s H vs Q E hr ⟨xs,J,Q2,E2,rs,rr,hs,kn,ke⟩=>?_
 obtain ⟨t,hb,q⟩:=hbody cdv A outer s H E (J,H) xs J Q2 E2 hr hs ⟨rQ,ke⟩
 refine ⟨_,⟨hb.run⟩,tU N xs,J,_,⟨zN rs,rr,.refl⟩,q,?_⟩
 exact { nx:=λτ J' σ H' _ r e q=>kn .non J' .non H' rfl r e q,rt:=λx J' v H' rx r e q=>kn x J' v H' rx r e q,bk:=λ_ _ _ _ _ _ _ q=>q.elim,ct:=λ_ _ _ _ _ _ _ q=>q.elim }
theorem Ul {x qual:Str} {st:Stmt} {f:Addr} {fd:FuncData} {N ps:List Str} {k:Nat} {sp:cq} {t:(Addr→Hq→Prop)→i8} (F:bU K x qual st f fd) (S:aw N ps (L2.au st)) (len:∀xs J Q E,sp xs J Q E→xs.length=ps.length)
  (rd:∀(cdv:Value) (A:Around) (outer:List Env) (s:Shared) (H:Hp) (E:XK) (G:G2) (E2:Addr→Hq→Prop),bR k (A.deeper (envOfC qual (L2.au st) s.heap.objs.size f cdv)) →
   Dm (yc P w K mg base N qual (L2.au st) f cdv A outer s H E) G E2 E→RB (yc P w K mg base N qual (L2.au st) f cdv A outer s H E) G (L2.cg st) (t E2))
  (run:∀(xs:List PV) (J:Hq) (Q:PV→Hq→Prop) (E2:Addr→Hq→Prop),sp xs J Q E2→∀X:Prop,(t E2 { nx:=λ_ J'=>Q .non J',rt:=Q } (tU N xs) J→X)→X):aS P w K mg base (cn P w) (k + 1) f fd ps (cK K sp) :=
 Sk F S len λcdv A outer s H E G xs J Q E2 hr h B=>⟨_,rd cdv A outer s H E G E2 hr B,run xs J Q E2 h _ id⟩
theorem _root_.Ov.Def.cU {x:Str} {st:Stmt} {k:Nat} {ps:List Str} {sp:cq} (D:Def K mg x st)
  (h:∀f fd,bU K x x st f fd→aS P w K mg base (cn P w) k f fd ps (cK K sp))
  (hb:∀(kV doc pm:Value) (an:Option Addr) (cdv ct:Value) (us:List Value),us.length=ps.length→bindArgs (PySem.W.fnOf x x (L2.dZ st) (L2.cg st) (L2.au st) .none kV doc pm an cdv ct) ⟨us,[]⟩=pure (ps.zip us)) :
  bj P w K mg base k x ps sp:=D.Rz h hb
end
section
variable {X:Cx} {K:PySem.W.Frag}
def GL (g:Int→Int→PV):nt:=λx y J Q=>Ed x λi=>Ed y λj=>Q (g i j) J
def qI (C:Int→Int→Prop) (g:Int→Int→PV):nt:=λx y J Q=>Ed x λi=>Ed y λj=>C i j∧Q (g i j) J
theorem vm {g:Int→Int→V} {g':Int→Int→PV} (hg:∀J H i j,cY K J H (g' i j) (g i j)):LR K (L2.JE g) (GL g'):=λJ H x y v w Q2 Q rx ry r h k=>by
 obtain ⟨i,ex,h⟩:=gT h;obtain ⟨j,ey,q⟩:=gT h
 subst ex ey;exact ⟨i,j,rx,ry,k _ J _ H (hg _ _ _ _) r .refl q⟩
theorem II {C:Int→Int→Prop} {g:Int→Int→V} {g':Int→Int→PV} (hg:∀J H i j,cY K J H (g' i j) (g i j)):LR K (L2.rI C g) (qI C g'):=λJ H x y v w Q2 Q rx ry r h k=>by
 obtain ⟨i,ex,h⟩:=gT h;obtain ⟨j,ey,c,q⟩:=gT h
 subst ex ey;exact ⟨i,j,rx,ry,c,k _ J _ H (hg _ _ _ _) r .refl q⟩
theorem bQ:nk X (binaryOp .Add) (GL λi j=>.int (i + j)):=⟨_,L2.MT,vm λ_ _ _ _=>rfl⟩
theorem c7:nk X (binaryOp .Sub) (GL λi j=>.int (i - j)):=⟨_,L2.M0,vm λ_ _ _ _=>rfl⟩
theorem aT:nk X (binaryOp .Mult) (qI CM λi j=>.int (i * j)):=⟨_,Ji,II λ_ _ _ _=>rfl⟩
theorem d6:nk X (binaryOp .FloorDiv) (qI CQ λi j=>.int (i.fdiv j)):=⟨_,Gh,II λ_ _ _ _=>rfl⟩
theorem bX:nk X (binaryOp .Mod) (qI (λ_ j=>0 < j) λi j=>.int (i % j)):=⟨_,L2.MX,II λ_ _ _ _=>rfl⟩
theorem Gi:nk X (binaryOp .Pow) (qI L2.Lj λi j=>.int (i ^ j.toNat)):=⟨_,L2.MZ,II λ_ _ _ _=>rfl⟩
theorem fj:nk X (compareOp .Lt) (GL λi j=>.bl (decide (i < j))):=⟨_,L2.PR,vm λ_ _ _ _=>rfl⟩
theorem sE:nk X (compareOp .LtE) (GL λi j=>.bl (decide (i≤j))):=⟨_,L2.PQ,vm λ_ _ _ _=>rfl⟩
theorem jV:nk X (compareOp .Gt) (GL λi j=>.bl (decide (j < i))):=⟨_,L2.PN,vm λ_ _ _ _=>rfl⟩
theorem zd:nk X (compareOp .GtE) (GL λi j=>.bl (decide (j≤i))):=⟨_,L2.PM,vm λ_ _ _ _=>rfl⟩
def qU (g:Int→PV):OB:=λx J Q=>Ed x λi=>Q (g i) J
theorem jP:Tx X (unaryOp .USub) (qU λi=>.int (-i)):=⟨_,L2.NY,λJ H x v Q2 Q rx r h k=>by obtain ⟨i,ex,q⟩:=gT h;subst ex;exact ⟨i,rx,k (.int (-i)) J _ H rfl r .refl q⟩⟩
def P_:nt:=λx y J Q=>EG x λi=>EG y λj=>Q (.bl (decide (i.cps.toList < j.cps.toList))) J
theorem AQ:nk X (compareOp .Lt) P_:=⟨_,L2.Ef,λJ H x y v w Q2 Q rx ry r h k=>by obtain ⟨i,ex,h⟩:=iI h;obtain ⟨j,ey,q⟩:=iI h;subst ex ey;exact ⟨i,j,rx,ry,k (.bl _) J _ H rfl r .refl q⟩⟩
def yM:PV→Bool
 | .non=>true
 | _=>false
theorem B_ {J:Hq} {H:Hp} {x:PV} {v:V} (r:cY K J H x v):decide (v=.non)=yM x:=by
 cases x with
 | non=>cases r;rfl
 | tup xs=>obtain ⟨a,vs,rfl,_⟩:=r;rfl
 | fl xs=>obtain ⟨a,vs,rfl,_⟩:=r;rfl
 | _=>cases r;rfl
def T3:nt:=λx y J Q=>y=.non∧Q (.bl (yM x)) J
def GN:nt:=λx y J Q=>y=.non∧Q (.bl (!yM x)) J
theorem ze:nk X (compareOp .Is) T3:=⟨_,L2.MW,λJ H x y v w Q2 Q rx ry r ⟨ey,q⟩ k=>by subst ey;cases ry;exact ⟨rfl,by rw [B_ rx];exact k (.bl _) J _ H rfl r .refl q⟩⟩
theorem jc:nk X (compareOp .IsNot) GN:=⟨_,L2.Jj,λJ H x y v w Q2 Q rx ry r ⟨ey,q⟩ k=>by subst ey;cases ry;exact ⟨rfl,by rw [B_ rx];exact k (.bl _) J _ H rfl r .refl q⟩⟩
mutual
def gy:PV→Py
 | .non=>.non | .bl b=>.bl b | .int i=>.int i | .str x=>.str x | .ref _=>.non | .ty _=>.non | .tup xs=>.tup (g6 xs) | .fl xs=>.lst (g6 xs)
def g6:List PV→List Py
 | []=>[]
 | x :: xs=>gy x :: g6 xs
end
mutual
def nv:PV→Bool
 | .ref _=>false | .ty _=>false | .tup xs=>l9 xs | .fl xs=>l9 xs | _=>true
def l9:List PV→Bool
 | []=>true
 | x :: xs=>nv x && l9 xs
end
mutual
theorem v_ {J:Hq} {H:Hp}:∀{x:PV} {v:V},nv x=true→cY K J H x v→At K H (gy x) v
 | .non,_,_,h=>h
 | .bl _,_,_,h=>h
 | .int _,_,_,h=>h
 | .str _,_,_,h=>h
 | .tup xs,_,p,⟨a,vs,e,h,k⟩=>⟨a,vs,e,h,rO (by simpa [nv] using p) k⟩
 | .fl xs,_,p,⟨a,vs,e,h,k⟩=>⟨a,vs,e,h.sq,rO (by simpa [nv] using p) k⟩
theorem rO {J:Hq} {H:Hp}:∀{xs:List PV} {vs:List V},l9 xs=true→aY K J H xs vs→tX K H (g6 xs) vs
 | [],_,_,h=>h
 | x :: xs,_,p,⟨v,us,e,h,k⟩=>by
  have p':nv x=true∧l9 xs=true:=by simpa [l9] using p
  exact ⟨v,us,e,v_ p'.1 h,rO p'.2 k⟩
end
def eqQ (x y:PV):Bool:=lJ (gy x) (gy y)
def HJ (x:PV):Prop:=nv x=true∧dep (gy x)≤60
def Nc (f:Bool→Bool):nt:=λx y J Q=>HJ x∧nv y=true∧Q (.bl (f (eqQ x y))) J
theorem KG (f:Bool→Bool):LR K (rP K f) (Nc f):=λJ H x y v w Q2 Q rx ry r ⟨⟨px,d⟩,py,q⟩ k=>⟨gy x,gy y,v_ px rx,v_ py ry,d,k (.bl _) J _ H rfl r .refl q⟩
theorem cj (hu:X.A.units + 61 < cLine):nk X (compareOp .Eq) (Nc id):=⟨_,MU hu,KG id⟩
theorem fF (hu:X.A.units + 61 < cLine):nk X (compareOp .NotEq) (Nc not):=⟨_,MY hu,KG not⟩
def fz (J:Hq):PV→PV→Option PV
 | .tup xs,.int i=>c4 xs i
 | .fl xs,.int i=>c4 xs i
 | .ref a,.int i=>match J a with
  | some (.lst xs)=>c4 xs i
  | _=>none
 | _,_=>none
theorem aY.c4 {J:Hq} {H:Hp} {xs:List PV} {vs:List V} {i:Int} {x:PV} (r:aY K J H xs vs) (h:L2.c4 xs i=some x):∃v,L2.c4 vs i=some v∧cY K J H x v:=by
 unfold L2.c4 at h ⊢
 rw [← r.length]
 cases e:L2.EF xs.length i with
 | none=>rw [e] at h;cases h
 | some j =>
  rw [e] at h
  obtain ⟨v,h1,h2⟩:=r.get h
  exact ⟨v,h1,h2⟩
def Oi:nt:=λx y J Q=>vo (fz J x y) λv=>Q v J
theorem ar:Q4 X Oi:=⟨_,L2.IF.or L2.Mq,λJ H x y v w Q2 Q rx ry r h k=>by
 obtain ⟨z,ez,q⟩:=eh h
 cases y with
 | int i =>
  cases ry
  cases x with
  | tup xs =>
   obtain ⟨a,vs,rfl,h1,h2⟩:=rx
   obtain ⟨u,e1,e2⟩:=h2.c4 (show L2.c4 xs i=some z from ez)
   exact .inr ⟨a,vs,i,u,rfl,rfl,h1,e1,k z J u H e2 r .refl q⟩
  | fl xs =>
   obtain ⟨a,vs,rfl,h1,h2⟩:=rx
   obtain ⟨u,e1,e2⟩:=h2.c4 (show L2.c4 xs i=some z from ez)
   exact .inl ⟨a,vs,i,u,rfl,rfl,h1.sq,e1,k z J u H e2 r .refl q⟩
  | ref a =>
   cases rx
   unfold fz at ez
   dsimp only at ez
   cases ej:J a with
   | none=>rw [ej] at ez;cases ez
   | some o =>
    rw [ej] at ez
    cases o with
    | lst xs =>
     obtain ⟨vs,h1,h2⟩:=r _ _ ej
     obtain ⟨u,e1,e2⟩:=h2.c4 (show L2.c4 xs i=some z from ez)
     exact .inl ⟨a,vs,i,u,rfl,rfl,.inl (.inl h1),e1,k z J u H e2 r .refl q⟩
    | _=>cases ez
  | _=>cases ez
 | _=>cases x <;> cases ez⟩
def l6 (xs:List PV) (lo hi:Option Int):List PV:=(xs.drop (HT.fb xs.length 0 lo)).take (HT.fb xs.length xs.length hi - HT.fb xs.length 0 lo)
theorem we {J:Hq} {H:Hp} {xs:List PV} {vs:List V} {lo hi:Option Int} (r:aY K J H xs vs):aY K J H (l6 xs lo hi) (L2.wd vs lo hi):=by
 unfold l6 L2.wd
 rw [← r.length]
 exact (r.drop _).take _
def Qd:Du:=λx lo hi J Q=>Og x λxs=>¬ (HT.fb xs.length 0 lo=0∧HT.fb xs.length xs.length hi=xs.length)∧Q (.tup (l6 xs lo hi)) J
theorem By:Q8 X Qd:=⟨_,L2.NB,λJ H x lo hi v Q2 Q rx r h k=>by
 obtain ⟨xs,ex,hn,q⟩:=Gf h
 subst ex
 obtain ⟨a,vs,rfl,h1,h2⟩:=rx
 refine ⟨a,vs,rfl,h1,by rw [← h2.length];exact hn,λp hp=>?_⟩
 have sm:=cA.new hp (.tup (L2.wd vs lo hi))
 have e2:=Ext.same (K:=X.K) (J:=J) sm
 exact k (.tup (l6 xs lo hi)) J (.ref p) _ ⟨p,_,rfl,.inl (.inl aZ),e2.jC (we h2)⟩ (r.same sm) e2 q⟩
def kB (J:Hq):PV→Option (List PV)
 | .fl xs=>some xs
 | .ref a=>match J a with
  | some (.lst xs)=>some xs
  | _=>none
 | _=>none
theorem qT {J:Hq} {H:Hp} {x:PV} {v:V} {xs:List PV} (rx:cY K J H x v) (r:Rep K J H) (h:kB J x=some xs):∃a vs,v=.ref a∧dY K H a vs∧aY K J H xs vs:=by
 cases x with
 | fl ys=>obtain ⟨a,vs,rfl,h1,h2⟩:=rx;cases h;exact ⟨a,vs,rfl,h1.sq,h2⟩
 | ref a =>
  cases rx
  unfold kB at h
  dsimp only at h
  cases ej:J a with
  | none=>rw [ej] at h;cases h
  | some o =>
   rw [ej] at h
   cases o with
   | lst ys=>cases h;obtain ⟨vs,h1,h2⟩:=r _ _ ej;exact ⟨a,vs,rfl,.inl (.inl h1),h2⟩
   | _=>cases h
 | _=>cases h
def Qb:Du:=λx lo hi J Q=>vo (kB J x) λxs=>Q (.fl (l6 xs lo hi)) J
theorem Hj:Q8 X Qb:=⟨_,L2.CH,λJ H x lo hi v Q2 Q rx r h k=>by
 obtain ⟨xs,ex,q⟩:=eh h
 obtain ⟨a,vs,rfl,h1,h2⟩:=qT rx r ex
 refine ⟨a,vs,rfl,h1,λp hp=>?_⟩
 obtain ⟨x1,x2,x3⟩:=AE r (we (lo:=lo) (hi:=hi) h2) hp
 exact k _ J _ _ x1 x2 x3 q⟩
def Qc:Du:=λx lo hi J Q=>vo (kB J x) λxs=>∀p,J p=none→Q (.ref p) (put J p (.lst (l6 xs lo hi)))
theorem JX:Q8 X Qc:=⟨_,L2.CH,λJ H x lo hi v Q2 Q rx r h k=>by
 obtain ⟨xs,ex,q⟩:=eh h
 obtain ⟨a,vs,rfl,h1,h2⟩:=qT rx r ex
 exact ⟨a,vs,rfl,h1,λp hp=>k (.ref p) _ _ _ rfl (r.Cc hp (we h2)) (.laid hp) (q p (r.free hp))⟩⟩
def P4:zQ:=λxs J Q=>AK xs λx=>Ed x λi=>Q (.int (if i < 0 then -i else i)) J
theorem ka:HG X (.builtin "abs") P4:=⟨_,L2.E1,λJ H xs vs Q2 Q rs r h k=>by
 obtain ⟨x,ex,h⟩:=gS h;obtain ⟨i,ei,q⟩:=gT h;subst ei
 subst ex;obtain ⟨v,us,rfl,rv,e⟩:=rs;cases rv;cases e
 exact ⟨i,rfl,k (.int _) J _ H rfl r .refl q⟩⟩
def wu (J:Hq):PV→Option Nat
 | .tup xs=>some xs.length
 | x=>(kB J x).map Vp
def Ng:zQ:=λxs J Q=>AK xs λx=>vo (wu J x) λn=>Q (.int n) J
theorem bK:HG X (.builtin "len") Ng:=⟨_,L2.wa,λJ H xs vs Q2 Q rs r h k=>by
 obtain ⟨x,ex,h⟩:=gS h;obtain ⟨n,en,q⟩:=eh h
 subst ex;obtain ⟨v,us,rfl,rv,e⟩:=rs;cases e
 have go:∀ys,kB J x=some ys→ys.length=n→∃p ws,([v]:List V)=[.ref p]∧(dY X.K H p ws∨f' X.K H p ws)∧Q (.int ws.length) H:=λys h1 h2=>by
  obtain ⟨a,ws,rfl,h3,h4⟩:=qT rv r h1
  exact ⟨a,ws,rfl,.inl h3,by rw [← h4.length,h2];exact k (.int _) J _ H rfl r .refl q⟩
 cases x with
 | tup ys =>
  obtain ⟨a,ws,rfl,h1,h2⟩:=rv
  cases en
  exact ⟨a,ws,rfl,.inr h1,by rw [← h2.length];exact k (.int _) J _ H rfl r .refl q⟩
 | fl ys=>cases en;exact go _ rfl rfl
 | ref a =>
  unfold wu at en
  cases el:kB J (.ref a) with
  | none=>simp [el] at en
  | some ys=>simp [el] at en;exact go _ el en
 | _=>cases en⟩
def BD (J:Hq):PV→Option String
 | .non=>some "NoneType" | .bl _=>some "bool" | .int _=>some "int" | .str _=>some "str" | .tup _=>some "tuple" | .fl _=>some "list"
 | .ref a=>match J a with
  | some (.lst _)=>some "list"
  | some (.dct _ _)=>some "dict"
  | _=>none
 | _=>none
def m_ (t n:String):Option Bool :=
 if n∈["int","bool","str","tuple","list"] then some (t == n || (t == "bool" && n == "int")) else none
theorem IG (K:PySem.W.Frag) {t n:String} {b:Bool} (ht:t∈["NoneType","bool","int","str","tuple","list","dict"]) (h:m_ t n=some b):PySem.W.kitOne K (.type t) (.type n)=some b:=by
 unfold m_ at h
 by_cases hn:n∈["int","bool","str","tuple","list"]
 ·rw [if_pos hn] at h
  simp only [UH,UU,or_false] at ht hn
  rcases ht with rfl | rfl | rfl | rfl | rfl | rfl | rfl <;> rcases hn with rfl | rfl | rfl | rfl | rfl <;> cases h <;> with_unfolding_all rfl
 ·rw [if_neg hn] at h;cases h
theorem Kd {J:Hq} {x:PV} {t:String} (h:BD J x=some t):t∈["NoneType","bool","int","str","tuple","list","dict"]:=by
 cases x with
 | ref a =>
  unfold BD at h
  dsimp only at h
  cases ej:J a with
  | none=>rw [ej] at h;cases h
  | some o=>rw [ej] at h;cases o <;> cases h <;> simp
 | ty n=>cases h
 | _=>cases h;simp
def Sn (x:PV) (k:String→Prop) (_:ig k:=dp):Prop:=match x with | .ty n=>k n | _=>False
theorem PK {x:String} {k:String→Prop} {d:ig k}:Sn (.ty x) k d=k x:=rfl
theorem MS {x:PV} {k:String→Prop} {d:ig k} (h:Sn x k d):∃n,x=.ty n∧k n:=by cases x <;> first | exact ⟨_,rfl,h⟩ | exact False.elim h
def P8:zQ:=λxs J Q=>MR xs λx y=>Sn y λn=>vo (BD J x) λt=>vo (m_ t n) λb=>Q (.bl b) J
theorem Dy:bS X (.builtin "isinstance") (λxs H Q=>∃x n t b,xs=[x,.ty n]∧(fe X.K H x (.type t)∨(t="tuple"∧∃a vs,x=.ref a∧f' X.K H a vs)∨(t="list"∧∃a vs,x=.ref a∧dY X.K H a vs))∧PySem.W.kitOne X.K (.type t) (.type n)=some b∧Q (.bl b) H):=by
 intro pins s σ H xs us Q I r h
 obtain ⟨x,n,t,b,rfl,ty,e,q⟩:=h
 obtain ⟨u,w',rfl,rx,ry⟩:=L2.vals2 r
 cases (show w'=Value.type n from ry)
 rcases ty with ty | ⟨rfl,a,vs,rfl,hs⟩ | ⟨rfl,a,vs,rfl,hs⟩
 ·exact L2.DK I rx ty e λtk=>⟨.bl b,H,I.tok _,rfl,q⟩
 ·cases rx
  obtain ⟨its,_,⟨o,h1,h2,_⟩,_⟩:=I.tuple hs
  exact PySem.W.kia_one PySem.W.kitx_tuple I.nW ⟨o,h1,h2⟩ e (λz=>nomatch z) λtk=>⟨.bl b,H,I.tok _,rfl,q⟩
 ·cases rx
  obtain ⟨its,_,⟨o,_,h1,h2,_⟩,_⟩:=I.list hs
  exact PySem.W.kia_one PySem.W.kitx_list I.nW ⟨o,h1,h2⟩ e (λz=>nomatch z) λtk=>⟨.bl b,H,I.tok _,rfl,q⟩
theorem gK:HG X (.builtin "isinstance") P8:=⟨_,Dy,λJ H xs vs Q2 Q rs r h k=>by
 obtain ⟨x,y,ex,h⟩:=AN h;obtain ⟨n,ey,h⟩:=MS h;obtain ⟨t,et,h⟩:=eh h;obtain ⟨b,es,q⟩:=eh h
 subst ey
 subst ex
 obtain ⟨v,us,rfl,rv,w,us',rfl,rw',e⟩:=rs
 cases rw';cases e
 refine ⟨v,n,t,b,rfl,?_,IG X.K (Kd et) es,k (.bl _) J _ H rfl r .refl q⟩
 cases x with
 | non=>cases rv;cases et;exact .inl .non
 | bl i=>cases rv;cases et;exact .inl (.bl i)
 | int i=>cases rv;cases et;exact .inl (.int i)
 | str i=>cases rv;cases et;exact .inl (.str i)
 | tup xs=>obtain ⟨a,ws,rfl,h1,_⟩:=rv;cases et;exact .inr (.inl ⟨rfl,a,ws,rfl,h1⟩)
 | fl xs =>
  obtain ⟨a,ws,rfl,h1,_⟩:=rv;cases et
  exact .inr (.inr ⟨rfl,a,ws,rfl,h1.sq⟩)
 | ty n=>cases et
 | ref a =>
  cases rv
  unfold BD at et
  dsimp only at et
  cases ej:J a with
  | none=>rw [ej] at et;cases et
  | some o =>
   rw [ej] at et
   have z:=r _ _ ej
   cases o with
   | lst xs=>obtain ⟨ws,h1,_⟩:=z;cases et;exact .inl (.lst h1)
   | dct kvs ep=>obtain ⟨gs,h1,_⟩:=z;cases et;exact .inl (.dE h1)
   | tab=>cases et
   | dtp hs ks=>cases et
   | ins C fs=>cases et⟩
def Nb:zQ:=λxs J Q=>AK xs λx=>vo (kB J x) λys=>Q (.fl ys) J
def GK:zQ:=λxs J Q=>AK xs λx=>vo (kB J x) λys=>∀p,J p=none→Q (.ref p) (put J p (.lst ys))
theorem kb:HG X (.type "list") GK:=⟨_,L2.wc,λJ H xs vs Q2 Q rs r h k=>by
 obtain ⟨x,ex,h⟩:=gS h;obtain ⟨ys,el,q⟩:=eh h
 subst ex;obtain ⟨v,us,rfl,rv,e⟩:=rs;cases e
 obtain ⟨a,ws,rfl,h3,h4⟩:=qT rv r el
 exact ⟨a,ws,rfl,.inl h3,λp hp=>k (.ref p) _ _ _ rfl (r.Cc hp h4) (.laid hp) (q p (r.free hp))⟩⟩
def Sw:zQ:=λxs J Q=>∃i j,xs=[.int i,.int j]∧Q (.int (if j > i then j else i)) J
def Cv:BM:=λx xs J Q=>Cj x λa=>AK xs λy=>Rg (J a) λys=>ys.length < sizeLine∧Q .non (put J a (.lst (ys ++ [y])))
theorem gF:Im X "list" "list.append" Cv:=⟨_,L2.vn,λJ H x xs v vs Q2 Q rx rs r h k=>by
 obtain ⟨a,ex,h⟩:=gh h;obtain ⟨y,exs,h⟩:=gS h;obtain ⟨ys,ja,hl,q⟩:=MP h
 subst ex exs;cases rx;obtain ⟨w,us,rfl,rw',e⟩:=rs;cases e
 obtain ⟨ws,h1,h2⟩:=r _ _ ja
 exact ⟨a,ws,w,rfl,rfl,h1,by rw [← h2.length];exact hl,k .non _ _ _ rfl (r.wrote (ys:=ys ++ [y]) ja h1 (h2.append (show aY X.K J H [y] [w] from ⟨w,[],rfl,rw',rfl⟩))) (.wrote ja h1) q⟩⟩
def Qa:BM:=λx xs J Q=>∃a ys y,x=.ref a∧xs=[]∧J a=some (.lst ys)∧ys[ys.length - 1]?=some y∧Q y (put J a (.lst ys.dropLast))
theorem aY.dropLast {J:Hq} {H:Hp} {xs:List PV} {vs:List V} (r:aY K J H xs vs):aY K J H xs.dropLast vs.dropLast:=by
 rw [Wq,Wq,← r.length]
 exact r.take _
theorem FZ:Im X "list" "list.pop" Qa:=⟨_,L2.MH,λJ H x xs v vs Q2 Q rx rs r ⟨a,ys,y,ex,exs,ja,hy,q⟩ k=>by
 subst ex exs;cases rx;cases rs
 obtain ⟨ws,h1,h2⟩:=r _ _ ja
 obtain ⟨w,e1,e2⟩:=h2.get hy
 have ex:=Ext.wrote (K:=X.K) (ys:=ys.dropLast) (vs:=ws.dropLast) ja h1
 exact ⟨a,ws,w,rfl,rfl,h1,by rw [← h2.length];exact e1,k y _ w _ (ex.rep e2) (r.wrote ja h1 h2.dropLast) ex q⟩⟩
def Na:BM:=λx xs J Q=>∃a ys,x=.ref a∧xs=[]∧J a=some (.lst ys)∧Q .non (put J a (.lst []))
def JG:V→List V→Hp→VK→Prop:=λx vs H Q=>∃l xs i y,x=.ref l∧vs=[.int (i:Nat),y]∧H l=some (.lst xs)∧i≤xs.length∧xs.length < sizeLine∧i < 2 ^ 62∧Q .non (upd H l (.lst (xs.take i ++ y :: xs.drop i)))
theorem As (its:List Value) (i:Nat) (u:Value) (h:i≤its.length):((its.toArray.extract 0 (min ((i:Int)).toNat its.toArray.size)).push u ++ its.toArray.extract (min ((i:Int)).toNat its.toArray.size))=(its.take i ++ u :: its.drop i).toArray:=by
 have e:min ((i:Int)).toNat its.toArray.size=i:=by simp;omega
 rw [e]
 apply Array.ext'
 simp
 exact Vk (by simp)
theorem DZ:md X "list.insert" JG:=by
 intro pins s σ H x vs v us Q I rx rv h
 obtain ⟨l,xs,i,y,rfl,rfl,hH,hi,hz,hb,q⟩:=h
 cases rx
 obtain ⟨u,w,rfl,ru,rw'⟩:=L2.vals2 rv
 obtain ⟨t,rfl⟩:=ru
 obtain ⟨z,its,n,r,hl,e⟩:=I.IK hH
 have h63:((i:Nat):Int) < 2 ^ 63:=by
  have:((i:Nat):Int) < ((2 ^ 62:Nat):Int):=Int.ofNat_lt.mpr hb
  exact Int.lt_trans this (by decide)
 have hf:Builtin.List.listFitsIndex ((i:Nat):Int)=true:=fitsIndex_both (Int.le_trans (by decide) (Int.natCast_nonneg i)) h63
 have hs:its.toArray.size≤sizeLine:=by rw [UD,← hl];exact z
 have hn:¬(!Builtin.List.listFitsIndex ((i:Nat):Int))=true:=by rw [hf];exact λz=>nomatch z
 have hneg:¬ (((i:Nat):Int) < 0):=by omega
 have hins:=As its i w (by omega)
 clear hb h63 hf
 generalize ((i:Nat):Int)=ii at *
 have mm:=PySem.AutoSeq1.list_insert_list_int_val_1 l its.toArray n ii t w hn hs
 refine call_meets PySem.F.slot_list_insert ⟨_,e,rfl⟩ PySem.F.entry_list_insert (PySem.F.args_list_insert_3 _ _ _) mm ⟨e,?_⟩
 refine ⟨.non,_,I.IJ (its':=its.take i ++ w :: its.drop i) hH e ?_ ((r.take i).append (.cons rw' (r.drop i))) ?_,rfl,q⟩
 ·simp only [if_neg hneg]
  exact hins
 ·rw [UR,UT,UZ,Vx];omega
def Cy:BM:=λx xs J Q=>∃a ys i y,x=.ref a∧xs=[.int (i:Nat),y]∧J a=some (.lst ys)∧i≤ys.length∧ys.length < sizeLine∧i < 2 ^ 62∧Q .non (put J a (.lst (ys.take i ++ y :: ys.drop i)))
theorem lN:Im X "list" "list.insert" Cy:=⟨_,DZ,λJ H x xs v vs Q2 Q rx rs r ⟨a,ys,i,y,ex,exs,ja,hi,hl,hb,q⟩ k=>by
 subst ex exs;cases rx;obtain ⟨w0,us,rfl,rw0,w,us',rfl,rw',e⟩:=rs;cases e;cases rw0
 obtain ⟨ws,h1,h2⟩:=r _ _ ja
 exact ⟨a,ws,i,w,rfl,rfl,h1,by rw [← h2.length];exact hi,by rw [← h2.length];exact hl,hb,k .non _ _ _ rfl (r.wrote (ys:=ys.take i ++ y :: ys.drop i) ja h1 ((h2.take i).append (show aY X.K J H (y :: ys.drop i) (w :: ws.drop i) from ⟨w,_,rfl,rw',h2.drop i⟩))) (.wrote ja h1) q⟩⟩
end
def pV (ks:List (Str × Nat)) (τ:Sr):Sr:=ks.map λp=>(τ[p.2]?).getD none
theorem CG {K:PySem.W.Frag} {J:Hq} {H:Hp} {τ:Sr} {σ:L2.St} (r:mE K J H τ σ) {x:PV} {v:V} (rx:cY K J H x v) (ks:List (Str × Nat)):mE K J H (some x :: pV ks τ) (some v :: fP ks σ):=by
 refine ⟨by simp [pV,fP],λi y e=>?_⟩
 cases i with
 | zero=>rw [VQ] at e ⊢;cases e;exact ⟨v,rfl,rx⟩
 | succ i =>
  rw [Vv] at e ⊢
  unfold pV at e
  unfold fP
  rw [Uw] at e ⊢
  cases ep:ks[i]? with
  | none=>rw [ep] at e;cases e
  | some p =>
   rw [ep] at e
   have e':(τ[p.2]?).getD none=some y:=Option.some.inj e
   have e2:τ[p.2]?=some (some y):=by
    cases q:τ[p.2]? with
    | none=>rw [q] at e';cases e'
    | some w=>rw [q] at e';exact congrArg some e'
   obtain ⟨v',h1,h2⟩:=r.get _ _ e2
   exact ⟨v',by show some ((σ[p.2]?).getD none)=_;rw [h1];rfl,h2⟩
def Sub (J J':Hq):Prop:=∀a o,J a=some o→J' a=some o
theorem Sub.put {J:Hq} {D:Addr} {o:HQ} (h:J D=none):Sub J (put J D o):=λa u e=>by
 have ne:a≠D:=by intro z;subst z;rw [h] at e;cases e
 rw [aq ne];exact e
def Rr (it:Aa) (J1:Hq) (ks:List (Str × Nat)) (τ:Sr) (tc:me) (te:dq) (c:PV→Bool) (g:PV→PV):Prop:=it.xs.length < sizeLine∧∀J',Sub J1 J'→it.ok J' ∧
 ∀x∈it.xs,tc (some x :: pV ks τ) J' (λb J2=>b=c x∧J2=J')∧(c x=true→te (some x :: pV ks τ) J' λy J2=>y=g x∧J2=J')
def xt (wi:rK) (ks:List (Str × Nat)) (tc:me) (te:dq):dq:=λτ J Q=>wi τ J λit J1=>∃(c:PV→Bool) (g:PV→PV),Rr it J1 ks τ tc te c g∧Q (.fl ((it.xs.filter c).map g)) J1
def Ep (wi:rK) (ks:List (Str × Nat)) (tc:me) (te:dq):dq:=λτ J Q=>wi τ J λit J1=>∃(c:PV→Bool) (g:PV→PV),Rr it J1 ks τ tc te c g∧∀p,J1 p=none→Q (.ref p) (put J1 p (.lst ((it.xs.filter c).map g)))
def vw:me:=λ_ J Q=>Q true J
section
variable {X:Cx} {G:G2}
theorem qs {α:Type} (c:α→Bool) {xs:List α} {i:Nat} {x:α} (h:xs[i]?=some x):(xs.take (i + 1)).filter c=(xs.take i).filter c ++ (if c x=true then [x] else []):=by
 rw [UN,h,Vo]
 congr 1
 simp only [Option.toList_some,U0,VB]
theorem qS {K:PySem.W.Frag} {ks:List (Str × Nat)} {tc:me} {te:dq} {σ:L2.St} {H:Hp} {Q:VK} {τ:Sr} {J:Hq} (a2:yb K G τ J σ H) {it:Aa} {J1:Hq} {I:It} {H1:Hp} (ir:uO K it I J1 H1) (r1:Rep K J1 H1) (e1:Ext K J H J1 H1) {c:PV→Bool} {g:PV→PV}
  (w:Rr it J1 ks τ tc te c g)
  (q:∀D H2,H1 D=none→J1 D=none→Rep K (put J1 D (.lst ((it.xs.filter c).map g))) H2→Ext K J1 H1 (put J1 D (.lst ((it.xs.filter c).map g))) H2→Q (.ref D) H2) :
  ∀D,H1 D=none→∃W:Nat→Nat→Hp→Prop,(∃m,W 0 m (upd H1 D (.lst [])))∧∀i m H2,W i m H2→(I.stop i H2∧Q (.ref D) H2) ∨
   (I.go i H2∧∀v H3,I.yld i H2 v H3→LT K G tc (some v :: fP ks σ) H3 λb H4=>if b=true then LE K G te (some v :: fP ks σ) H4 λy H5=>∃ys,H5 D=some (.lst ys)∧ys.length < sizeLine∧∃m',m' < m∧W (i + 1) m' (upd H5 D (.lst (ys ++ [y]))) else ∃m',m' < m∧W (i + 1) m' H4):=by
 intro D hD
 obtain ⟨hlen,w⟩:=w
 have jD:J1 D=none:=r1.free hD
 refine ⟨λi m H2=>m=it.xs.length - i∧i≤it.xs.length∧Rep K (put J1 D (.lst (((it.xs.take i).filter c).map g))) H2∧Ext K J1 H1 (put J1 D (.lst (((it.xs.take i).filter c).map g))) H2,⟨_,rfl,Vb _,r1.Cc (xs:=[]) (vs:=[]) hD rfl,.laid hD⟩,?_⟩
 rintro i m H2 ⟨rfl,hi,r2,e2⟩
 obtain ⟨ok,ww⟩:=w _ (Sub.put (o:=.lst (((it.xs.take i).filter c).map g)) jD)
 by_cases hlt:i < it.xs.length
 ·refine .inr ⟨ir.go _ H2 e2 r2 ok i hlt,λv H3 y=>?_⟩
  obtain ⟨x,ex,rx,r3,e3⟩:=ir.yl _ H2 e2 r2 ok i hlt v H3 y
  obtain ⟨hc,he⟩:=ww x (Uz ex)
  have a3:yb K G (some x :: pV ks τ) _ (some v :: fP ks σ) H3:=⟨CG (a2.sl.ext ((e1.trans e2).trans e3)) rx ks,r3,((a2.ext.trans e1).trans e2).trans e3⟩
  refine ⟨_,_,_,a3,hc,λb J4 H4 r4 e4 ⟨eb,ej⟩=>?_⟩
  subst ej
  cases hb:c x with
  | false =>
   rw [eb,hb]
   simp only [UL,if_false]
   refine ⟨_,by omega,rfl,hlt,?_⟩
   rw [qs c ex,hb]
   simp only [UL,if_false,Vc]
   exact ⟨r4,(e2.trans e3).trans e4⟩
  | true =>
   rw [eb,hb]
   simp only [if_true]
   refine ⟨_,_,_,a3.go r4 e4,he hb,λz J5 u H5 rz r5 e5 ⟨ez,ej⟩=>?_⟩
   subst ej ez
   obtain ⟨ys,h5,ry⟩:=r5 D _ av
   have ll:ys.length≤i:=by
    rw [← ry.length,Us]
    exact UM (VC _ _) (by rw [UZ];omega)
   have r6:=r5.wrote (ys:=((it.xs.take i).filter c).map g ++ [g x]) (vs:=ys ++ [u]) av h5 (ry.append (show aY K _ H5 [g x] [u] from ⟨u,[],rfl,rz,rfl⟩))
   have e6:=Ext.wrote (K:=K) (ys:=((it.xs.take i).filter c).map g ++ [g x]) (vs:=ys ++ [u]) (J:=put J1 D (.lst (((it.xs.take i).filter c).map g))) av h5
   rw [cm] at r6 e6
   refine ⟨ys,h5,by omega,_,by omega,rfl,hlt,?_⟩
   rw [qs c ex,hb,if_pos rfl,Uy]
   exact ⟨r6,(((e2.trans e3).trans e4).trans e5).trans e6⟩
 ·have ei:i=it.xs.length:=by omega
  subst ei
  rw [UQ] at r2 e2 ok
  exact .inl ⟨ir.stop _ H2 e2 r2 ok,q D H2 hD jD r2 e2⟩
theorem freeze {K:PySem.W.Frag} {J1:Hq} {H2:Hp} {D:Addr} {xs:List PV} (jD:J1 D=none) (r:Rep K (put J1 D (.lst xs)) H2):cY K J1 H2 (.fl xs) (.ref D)∧Rep K J1 H2∧Ext K (put J1 D (.lst xs)) H2 J1 H2:=by
 obtain ⟨ys,h,ry⟩:=r D _ av
 have less:∀a,J1 a=put J1 D (.lst xs) a∨J1 a=none:=λa=>by
  by_cases e:a=D
  ·subst e;exact .inr jD
  ·rw [aq e];exact .inl rfl
 have e:=Ext.less (K:=K) (H:=H2) less
 exact ⟨⟨D,ys,rfl,.inl ⟨jD,.inl h⟩,e.jC ry⟩,r.less less,e⟩
theorem yO {wi:rK} {ks:List (Str × Nat)} {tc:me} {te:dq}:∀σ H Q,LE X.K G (xt wi ks tc te) σ H Q→Ka (LI X.K G wi) ks (LT X.K G tc) (LE X.K G te) σ H Q:=λσ H Q ⟨τ,J,Q2,a2,h,k⟩ =>
 ⟨τ,J,_,a2,h,λit J1 I H1 ir r1 e1 ⟨c,g,w,q⟩=>qS (Q:=Q) a2 ir r1 e1 w λD H2 hD jD r2 e2=>let ⟨x1,x2,x3⟩:=freeze jD r2;k _ J1 _ H2 x1 x2 ((e1.trans e2).trans x3) q⟩
theorem FL {wi:rK} {ks:List (Str × Nat)} {tc:me} {te:dq}:∀σ H Q,LE X.K G (Ep wi ks tc te) σ H Q→Ka (LI X.K G wi) ks (LT X.K G tc) (LE X.K G te) σ H Q:=λσ H Q ⟨τ,J,Q2,a2,h,k⟩ =>
 ⟨τ,J,_,a2,h,λit J1 I H1 ir r1 e1 ⟨c,g,w,q⟩=>qS (Q:=Q) a2 ir r1 e1 w λD H2 hD jD r2 e2=>k (.ref D) _ _ H2 rfl r2 (e1.trans e2) (q D jD)⟩
theorem FK {wi:rK} {ks:List (Str × Nat)} {te:dq}:∀σ H Q,LE X.K G (xt wi ks vw te) σ H Q→Rj (LI X.K G wi) ks (LE X.K G te) σ H Q:=λσ H Q ⟨τ,J,Q2,a2,h,k⟩ =>
 ⟨τ,J,_,a2,h,λit J1 I H1 ir r1 e1 ⟨c,g,w,q⟩ D hD=>by
  obtain ⟨W,w0,turn⟩:=qS (Q:=Q) a2 ir r1 e1 w (λD H2 hD jD r2 e2=>let ⟨x1,x2,x3⟩:=freeze jD r2;k _ J1 _ H2 x1 x2 ((e1.trans e2).trans x3) q) D hD
  refine ⟨W,w0,λi m H2 hw=>?_⟩
  rcases turn i m H2 hw with z | ⟨go,z⟩
  ·exact .inl z
  ·refine .inr ⟨go,λv H3 y=>?_⟩
   obtain ⟨τ',J',Q',a',t',k'⟩:=z v H3 y
   have:=k' true J' H3 a'.hp .refl t'
   simpa using this⟩
theorem DO {wi:rK} {ks:List (Str × Nat)} {te:dq}:∀σ H Q,LE X.K G (Ep wi ks vw te) σ H Q→Rj (LI X.K G wi) ks (LE X.K G te) σ H Q:=λσ H Q ⟨τ,J,Q2,a2,h,k⟩ =>
 ⟨τ,J,_,a2,h,λit J1 I H1 ir r1 e1 ⟨c,g,w,q⟩ D hD=>by
  obtain ⟨W,w0,turn⟩:=qS (Q:=Q) a2 ir r1 e1 w (λD H2 hD jD r2 e2=>k (.ref D) _ _ H2 rfl r2 (e1.trans e2) (q D jD)) D hD
  refine ⟨W,w0,λi m H2 hw=>?_⟩
  rcases turn i m H2 hw with z | ⟨go,z⟩
  ·exact .inl z
  ·refine .inr ⟨go,λv H3 y=>?_⟩
   obtain ⟨τ',J',Q',a',t',k'⟩:=z v H3 y
   have:=k' true J' H3 a'.hp .refl t'
   simpa using this⟩
variable {elt iter cnd:Expr} {x y:Str} {px py:Pos} {sc:Scope} {pos spos:Pos} {wi:rK} {te:dq} {tc:me} {i:Nat}
theorem Nk (osc:Scope) (N:List Str) (ks:List (Str × Nat)) (hc:X.calm=true) (ho:X.env.scope=osc) (hN:X.N=N) (hi:RI X G (.Name x px) iter wi) (he:∀cl C s₀ H₀ fp pins,RE (fW X sc cl C x ks s₀ H₀ fp pins) G elt te) (hcn:∀cl C s₀ H₀ fp pins,RT (fW X sc cl C x ks s₀ H₀ fp pins) G cnd tc)
  (ok:cX sc osc N x ks:=by decide +kernel) (hs:∀x,foldedSetIterable iter X.env x=pure x:=by intro _;rfl):RE X G (.ListComp elt [⟨.Name x px,iter,[cnd],0⟩] sc pos) (xt wi ks tc te) :=
 ⟨kM (Gu osc N ks hc ho hN hi.run (λcl C s₀ H₀ fp pins=>(he cl C s₀ H₀ fp pins).run) (λcl C s₀ H₀ fp pins=>qY (hcn cl C s₀ H₀ fp pins).run) ok hs) yO⟩
theorem K8 (osc:Scope) (N:List Str) (ks:List (Str × Nat)) (hc:X.calm=true) (ho:X.env.scope=osc) (hN:X.N=N) (hi:RI X G (.Name x px) iter wi) (he:∀cl C s₀ H₀ fp pins,RE (fW X sc cl C x ks s₀ H₀ fp pins) G elt te)
  (ok:cX sc osc N x ks:=by decide +kernel) (hs:∀x,foldedSetIterable iter X.env x=pure x:=by intro _;rfl):RE X G (.ListComp elt [⟨.Name x px,iter,[],0⟩] sc pos) (xt wi ks vw te) :=
 ⟨kM (PX osc N ks hc ho hN hi.run (λcl C s₀ H₀ fp pins=>(he cl C s₀ H₀ fp pins).run) ok hs) FK⟩
theorem nY {t:dq} {u:TE} (h:∀σ H Q,LE X.K G t σ H Q→u σ H Q):∀D σ H,LS X.K G (uF t (Iz i)) D σ H→u σ H λv H1=>D.nx (σ.set i (some v)) H1:=λD σ H ⟨τ,J,D2,a2,q,g⟩ =>
 h σ H _ ⟨τ,J,_,a2,q,λx J' v H' rx rr ee q=>g.nx _ J' _ H' ((a2.sl.ext ee).set i rx) rr ee q⟩
theorem Nt (osc:Scope) (N:List Str) (ks:List (Str × Nat)) (hc:X.calm=true) (ho:X.env.scope=osc) (hN:X.N=N) (hnd:X.N.Nodup) (hy:X.N[i]?=some y) (hl:Loc X.env.scope y) (hi:RI X G (.Name x px) iter wi) (he:∀cl C s₀ H₀ fp pins,RE (fW X sc cl C x ks s₀ H₀ fp pins) G elt te) (hcn:∀cl C s₀ H₀ fp pins,RT (fW X sc cl C x ks s₀ H₀ fp pins) G cnd tc)
  (ok:cX sc osc N x ks:=by decide +kernel) (hs:∀x,foldedSetIterable iter X.env x=pure x:=by intro _;rfl) (hsw:swapsWith (.ListComp elt [⟨.Name x px,iter,[cnd],0⟩] sc pos) (some (.Name y py)) spos.line X.env=pure true:=by rfl) (hf:X.fn y=true∨X.env.scope.names.lookup y=some .local:=by first | exact .inl rfl | exact .inr rfl | assumption) :
  RS X G (.Assign [.Name y py] (.ListComp elt [⟨.Name x px,iter,[cnd],0⟩] sc pos) spos) (uF (xt wi ks tc te) (Iz i)) :=
 ⟨zj (A5 osc N ks hc ho hN hnd hy hl hi.run (λcl C s₀ H₀ fp pins=>(he cl C s₀ H₀ fp pins).run) (λcl C s₀ H₀ fp pins=>qY (hcn cl C s₀ H₀ fp pins).run) ok hs hsw hf) (nY yO)⟩
theorem JN (osc:Scope) (N:List Str) (ks:List (Str × Nat)) (hc:X.calm=true) (ho:X.env.scope=osc) (hN:X.N=N) (hnd:X.N.Nodup) (hy:X.N[i]?=some y) (hl:Loc X.env.scope y) (hi:RI X G (.Name x px) iter wi) (he:∀cl C s₀ H₀ fp pins,RE (fW X sc cl C x ks s₀ H₀ fp pins) G elt te) (hcn:∀cl C s₀ H₀ fp pins,RT (fW X sc cl C x ks s₀ H₀ fp pins) G cnd tc)
  (ok:cX sc osc N x ks:=by decide +kernel) (hs:∀x,foldedSetIterable iter X.env x=pure x:=by intro _;rfl) (hsw:swapsWith (.ListComp elt [⟨.Name x px,iter,[cnd],0⟩] sc pos) (some (.Name y py)) spos.line X.env=pure true:=by rfl) (hf:X.fn y=true∨X.env.scope.names.lookup y=some .local:=by first | exact .inl rfl | exact .inr rfl | assumption) :
  RS X G (.Assign [.Name y py] (.ListComp elt [⟨.Name x px,iter,[cnd],0⟩] sc pos) spos) (uF (Ep wi ks tc te) (Iz i)) :=
 ⟨zj (A5 osc N ks hc ho hN hnd hy hl hi.run (λcl C s₀ H₀ fp pins=>(he cl C s₀ H₀ fp pins).run) (λcl C s₀ H₀ fp pins=>qY (hcn cl C s₀ H₀ fp pins).run) ok hs hsw hf) (nY FL)⟩
theorem Nu (osc:Scope) (N:List Str) (ks:List (Str × Nat)) (hc:X.calm=true) (ho:X.env.scope=osc) (hN:X.N=N) (hnd:X.N.Nodup) (hy:X.N[i]?=some y) (hl:Loc X.env.scope y) (hi:RI X G (.Name x px) iter wi) (he:∀cl C s₀ H₀ fp pins,RE (fW X sc cl C x ks s₀ H₀ fp pins) G elt te)
  (ok:cX sc osc N x ks:=by decide +kernel) (hs:∀x,foldedSetIterable iter X.env x=pure x:=by intro _;rfl) (hsw:swapsWith (.ListComp elt [⟨.Name x px,iter,[],0⟩] sc pos) (some (.Name y py)) spos.line X.env=pure true:=by rfl) (hf:X.fn y=true∨X.env.scope.names.lookup y=some .local:=by first | exact .inl rfl | exact .inr rfl | assumption) :
  RS X G (.Assign [.Name y py] (.ListComp elt [⟨.Name x px,iter,[],0⟩] sc pos) spos) (uF (Ep wi ks vw te) (Iz i)) :=
 ⟨zj (P2 osc N ks hc ho hN hnd hy hl hi.run (λcl C s₀ H₀ fp pins=>(he cl C s₀ H₀ fp pins).run) ok hs hsw hf) (nY DO)⟩
end
end Ov
namespace Ov
open PySem PySem.Spec PyProof.Rows
section
open HT (lexLt)
def mJ:List Str→List Str→Bool
 | [],[]=>false
 | [],_ :: _=>true
 | _ :: _,[]=>false
 | x :: xs,y :: ys=>if x=y then mJ xs ys else decide (x.cps.toList < y.cps.toList)
theorem pz (x y:Str) (xs ys:List Str):mJ (x :: xs) (y :: ys)=if x=y then mJ xs ys else decide (x.cps.toList < y.cps.toList):=rfl
theorem n6:mJ [] []=false:=rfl
theorem uu (y:Str) (ys:List Str):mJ [] (y :: ys)=true:=rfl
theorem ur (x:Str) (xs:List Str):mJ (x :: xs) []=false:=rfl
theorem E8 (A:Around) (s:Shared) (a:Str) (t:Tok) (c:Str) (u:Tok):∃e,SeqAt.EqAt A s (.str a t) (.str c u) e∧(e=true↔a=c) :=
 ⟨(a == c),SeqAt.EqAt.str_str a t c u,by simp⟩
theorem GW (A:Around) (s:Shared) (a:Str) (t:Tok) (c:Str) (u:Tok) (prog:Program) (w:World) (E:Value→Shared→Prop) (Q:Value→Shared→Prop) (h:Q (.bool (decide (a.cps.toList < c.cps.toList))) s) :
  wpAny (model prog w) A (richCompare .Lt (.str a t) (.str c u)) Q E s :=
 (PyProof.Rows.lt_str h:wpAny (model prog w) A (compareOp .Lt (.str a t) (.str c u)) Q E s)
open PySem.SeqAt
open PySem.AutoSeq1 (wpAny_loadPart')
open PySem.MeetsSeq PySem.MeetsSeq2 PySem.MeetsSeq3
theorem uL (l b:Addr) (items items2:Array Value) (n n2:Nat) (dd dd2:Option Addr) (sl sl2:Array (Option Value)) (ns ms:List Str) (hi:StrsAre items.toList ns) (hj:StrsAre items2.toList ms) :
  Meets (Builtin.«tuple.__lt__» ⟨[.ref l,.ref b],[]⟩)
   (λ_ R s=>s.heap.get? l=some { cls:=.type "tuple",dict:=dd,data:=.seq items n,slots:=sl }∧s.heap.get? b=some { cls:=.type "tuple",dict:=dd2,data:=.seq items2 n2,slots:=sl2 } ∧
    R (.ok (.ret (.bool (mJ ns ms)))) s) :=
 .of_wp λprog w A R s h=>by
  obtain ⟨hp,g,d,tk,os⟩:=s;obtain ⟨hl,hb,h⟩:=h
  have f2:=AutoSeq1.sub_tuple_tuple
  have z1:items.size=ns.length:=by rw [← hi.length];simp
  have z2:items2.size=ms.length:=by rw [← hj.length];simp
  wp_walk using wpAny_loadPart' hl,wpAny_loadPart' hb,wpAny_forIn_list _ (λrest b s'=>b.1=none∧s'=⟨hp,g,d,tk,os⟩∧∃(vs ws:List Value) (ns' ms':List Str),rest=vs.zip ws ∧
   StrsAre vs ns'∧StrsAre ws ms'∧ns'.length + items2.size=ms'.length + items.size∧R (.ok (.ret (.bool (mJ ns' ms')))) ⟨hp,g,d,tk,os⟩) _
  case turn =>
   rintro ⟨y,x⟩ rest b s' ⟨hb',rfl,vs,ws,ns',ms',hz,hvi,hwi,hlen,hR⟩
   cases hvi with
   | nil=>rw [List.zip_nil_left] at hz;cases hz
   | cons a t hvi' =>
    cases hwi with
    | nil=>rw [List.zip_nil_right] at hz;cases hz
    | cons c u hwi' =>
     rw [WA] at hz
     injection hz with hyx hrest
     injection hyx with hy hx
     subst hy hx
     rw [pz] at hR
     simp only [UT] at hlen
     obtain ⟨e,he,hiff⟩:=E8 A.in1 ⟨hp,g,d,tk,os⟩ a t c u
     refine wpAny_bind (he prog w _ _ ?_)
     cases e with
     | true =>
      rw [if_pos (hiff.mp rfl)] at hR
      wp_walk
      exact ⟨rfl,rfl,_,_,_,_,hrest,hvi',hwi',by omega,hR⟩
     | false =>
      rw [if_neg (λq=>absurd (hiff.mpr q) U5)] at hR
      have hri:=GW A.in1 ⟨hp,g,d,tk,os⟩ a t c u prog w
      wp_walk using hri
      exact ⟨_,rfl,by simpa using hR⟩
  case fin =>
   rintro ⟨b1,b2⟩ s' ⟨hb',rfl,vs,ws,ns',ms',hz,hvi,hwi,hlen,hR⟩
   simp only at hb'
   subst hb'
   have hv:mJ ns' ms'=decide (items.size < items2.size):=by
    cases hvi with
    | nil =>
     cases hwi with
     | nil =>
      simp only [VR] at hlen
      rw [n6]
      exact (decide_eq_false (by omega)).symm
     | cons c u hw =>
      simp only [VR,UT] at hlen
      rw [uu]
      exact (decide_eq_true (by omega)).symm
    | cons a t hv =>
     cases hwi with
     | nil =>
      simp only [VR,UT] at hlen
      rw [ur]
      exact (decide_eq_false (by omega)).symm
     | cons c u hw =>
      rw [WA] at hz
      cases hz
   rw [hv] at hR
   wp_walk
   exact ⟨_,rfl,by simpa [Builtin.Tuple.tupleCompareSizes] using hR⟩
  case h =>
   exact ⟨rfl,rfl,items.toList,items2.toList,ns,ms,rfl,hi,hj,by omega,h⟩
section
variable {prog:Program} {w:World} {A:Around} {E:Value→Shared→Prop} {s:Shared}
theorem Ay {l b:Addr} {items items2:Array Value} {ns ms:List Str} {Q:Value→Shared→Prop} (hl:IsTup s.heap l items) (hb:IsTup s.heap b items2) (hi:StrsAre items.toList ns) (hj:StrsAre items2.toList ms)
  (hu:A.units < cLine) (h:Q (.bool (mJ ns ms)) s):wpAny (model prog w) A (compareOp .Lt (.ref l) (.ref b)) Q E s:=by
 obtain ⟨⟨cls,dd,data,sl⟩,ho,hc,n,hd⟩:=id hl
 obtain ⟨⟨cls2,dd2,data2,sl2⟩,ho2,hc2,n2,hd2⟩:=id hb
 simp only at hc hd hc2 hd2
 subst hc hd hc2 hd2
 exact richCompare_meets_room (op:=.Lt) ⟨_,ho,rfl⟩ ⟨_,ho2,rfl⟩ PySem.F.slot_tuple_lt PySem.F.entry_tuple_lt (PySem.F.args_tuple_lt_2 _ _) (uL l b items items2 n n2 dd dd2 sl sl2 ns ms hi hj)
  ⟨ho,ho2,show Value.bool (mJ ns ms)≠Value.notImplemented∧Q (.bool (mJ ns ms)) s from ⟨(λx=>nomatch x),h⟩⟩ hu
end
end
open L2 (V HO Hp Inv Cx VK XK TE TT TA TS TG mF TI TO gw Ends rL Loc Gl Rd RelV Vals fw qO bS nj oY md gu R2 upd aZ aW dY f' Sp nA It cA b7 bR Passes ma aK Meth Mk Binds aS bU aw c4 fe dR)
section
variable {X:Cx} {K:PySem.W.Frag}
theorem Jh (hu:X.A.units < cLine):fw X (compareOp .Lt) (λx y H Q=>∃a b ns ms,x=.ref a∧y=.ref b∧f' X.K H a (ns.map V.str)∧f' X.K H b (ms.map V.str)∧Q (.bl (mJ ns ms)) H):=by
 intro pins s σ H x y v u Q I rx ry h
 obtain ⟨a,b,ns,ms,rfl,rfl,ha,hb,q⟩:=h
 cases rx;cases ry
 obtain ⟨is,r1,t1,_⟩:=I.tuple ha
 obtain ⟨js,r2,t2,_⟩:=I.tuple hb
 exact Ay t1 t2 (by simpa using jM r1) (by simpa using jM r2) hu ⟨.bl _,H,I,rfl,q⟩
theorem tT {J:Hq} {H:Hp}:∀{ns:List Str} {vs:List V},aY K J H (ns.map PV.str) vs→vs=ns.map V.str
 | [],_,h=>h
 | n :: ns,_,⟨v,us,e,h,k⟩=>by subst e;cases h;rw [tT k];rfl
def KU:nt:=λx y J Q=>∃ns ms,x=.tup (ns.map .str)∧y=.tup (ms.map .str)∧Q (.bl (mJ ns ms)) J
theorem Jk (hu:X.A.units < cLine):nk X (compareOp .Lt) KU:=⟨_,Jh hu,λJ H x y v w Q2 Q rx ry r ⟨ns,ms,ex,ey,q⟩ k=>by
 subst ex ey
 obtain ⟨a,vs,rfl,h1,h2⟩:=rx
 obtain ⟨b,ws,rfl,h3,h4⟩:=ry
 cases tT h2;cases tT h4
 exact ⟨a,b,ns,ms,rfl,rfl,h1,h3,k (.bl _) J _ H rfl r .refl q⟩⟩
def P5:nt:=λx y J Q=>∃xs ys,kB J x=some xs∧kB J y=some ys∧xs.length + ys.length≤sizeLine∧Q (.fl (xs ++ ys)) J
end
def dn (K:PySem.W.Frag) (C:Addr) (m qual:Str) (st:Stmt):Prop:=∃f fd,Meth K C m f∧bU K m qual st f fd
structure dC (K:PySem.W.Frag) (mg:Str→Option Value) (x:Str) (C:Addr):Prop where
 cl:ma K C
 m:mg x=some (.ref C)
 mkz:PySem.W.makesIn K C=true
 kp:PySem.W.keepIn K (.ref C)=true
theorem bz {K:PySem.W.Frag} {C f:Addr} {m qual:Str} {st:Stmt} {od an:Option Addr} {sl:Array (Option Value)} {oc kV dc pm cd ct:Value} (a:PySem.W.findIn K (.ref C) m=some (some (.ref f))) (i:PySem.W.isFn K (.ref f)=true)
  (l:K.lookup f=some ⟨oc,od,.func (PySem.W.fnOf m qual (L2.dZ st) (L2.cg st) (L2.au st) .none kV dc pm an cd ct),sl⟩) (c:PySem.W.codeIn K cd qual=true) (k:PySem.W.keepIn K (.ref f)=true):dn K C m qual st :=
 ⟨f,_,⟨a,i,k⟩,L2.Ap l c k⟩
theorem wm {K:PySem.W.Frag} {h:Heap} {mg:Str→Option Value} {x:Str} {C:Addr} (X:K.In h) (G:h.Ns mainGlobals mg) (aC:PySem.W.nsIn K mainGlobals x=some (some (.ref C)))
  (pg:PySem.W.plainGet K C Str.empty=true) (hd:PySem.W.hasDictIn K C=true) (po:PySem.W.plainOver K C=true) (sa:PySem.W.findIn K (.ref C) "__setattr__"=some (some (.builtin "object.__setattr__"))) (mk:PySem.W.makesIn K C=true) (kc:PySem.W.keepIn K (.ref C)=true):dC K mg x C :=
 ⟨⟨pg,hd,po,sa⟩,PySem.W.mg_of X G aC,mk,kc⟩
section
variable {P:Program} {w:World} {K:PySem.W.Frag} {mg:Str→Option Value} {base:Heap}
theorem dn.nu {C:Addr} {m qual:Str} {st:Stmt} {k:Nat} {ps:List Str} {sp:cq} (D:dn K C m qual st) (cl:ma K C) (h:∀f fd,bU K m qual st f fd→aS P w K mg base (cn P w) k f fd ps (cK K sp))
  (hb:∀(kV doc pm:Value) (an:Option Addr) (cdv ct:Value) (us:List Value),us.length=ps.length→bindArgs (PySem.W.fnOf m qual (L2.dZ st) (L2.cg st) (L2.au st) .none kV doc pm an cdv ct) ⟨us,[]⟩=pure (ps.zip us)):bV P w K mg base C k m ps sp:=by
 obtain ⟨f,fd,hm,F⟩:=D
 exact ⟨cl,f,fd,hm,h f fd F,F.binds hb⟩
theorem dn.Se {x:Str} {C:Addr} {qual:Str} {st:Stmt} {k:Nat} {ps:List Str} {sp:cq} (D:dn K C "__init__" qual st) (kd:dC K mg x C) (h:∀f fd,bU K "__init__" qual st f fd→aS P w K mg base (cn P w) k f fd ps (cK K sp))
  (hb:∀(kV doc pm:Value) (an:Option Addr) (cdv ct:Value) (us:List Value),us.length=ps.length→bindArgs (PySem.W.fnOf "__init__" qual (L2.dZ st) (L2.cg st) (L2.au st) .none kV doc pm an cdv ct) ⟨us,[]⟩=pure (ps.zip us)):yr P w K mg base C k x ps sp:=by
 obtain ⟨f,fd,hm,F⟩:=D
 exact ⟨kd.m,f,fd,⟨kd.mkz,hm.at_,hm.fn,kd.kp⟩,h f fd F,F.binds hb⟩
end
theorem Oa {n:Nat} {F:List Value→Prop} (h:∀a us,us.length=n→F (a :: us)) (us:List Value) (hu:us.length=n + 1):F us:=by
 cases us with
 | nil=>cases hu
 | cons a us=>exact h a us (Nat.succ.inj hu)
theorem Ud {F:List Value→Prop} (h:F []) (us:List Value) (hu:us.length=0):F us:=by
 cases us with
 | nil=>exact h
 | cons a us=>cases hu
theorem Ag {F:List Value→Prop} (h:∀a,F [a]):∀us:List Value,us.length=1→F us:=Oa λa=>Ud (F:=λus=>F (a :: us)) (h a)
theorem ij {F:List Value→Prop} (h:∀a b,F [a,b]):∀us:List Value,us.length=2→F us:=Oa λa=>Ag (F:=λus=>F (a :: us)) (h a)
theorem HI {F:List Value→Prop} (h:∀a b c,F [a,b,c]):∀us:List Value,us.length=3→F us:=Oa λa=>ij (F:=λus=>F (a :: us)) (h a)
theorem N' {F:List Value→Prop} (h:∀a b c d,F [a,b,c,d]):∀us:List Value,us.length=4→F us:=Oa λa=>HI (F:=λus=>F (a :: us)) (h a)
theorem Rw {F:List Value→Prop} (h:∀a b c d e,F [a,b,c,d,e]):∀us:List Value,us.length=5→F us:=Oa λa=>N' (F:=λus=>F (a :: us)) (h a)
theorem Tz {F:List Value→Prop} (h:∀a b c d e f,F [a,b,c,d,e,f]):∀us:List Value,us.length=6→F us:=Oa λa=>Rw (F:=λus=>F (a :: us)) (h a)
end Ov
namespace Ov
open PySem PySem.Spec PyProof.Rows
open L2 (V HO Hp Inv Cx VK XK Rd dY f' Sp cA bR Passes aS bU aw c4 upd aZ aW)
def fr (q:Rat):PV:=.tup [.int q.num,.int (q.den:Int)]
theorem Mg (a b:Rat):(fr a=fr b)=(a=b):=by
 apply propext
 constructor
 ·intro h
  unfold fr at h
  simp only [PV.tup.injEq,List.cons.injEq,PV.int.injEq,and_true] at h
  exact Rat.ext h.1 (by have:=h.2;omega)
 ·intro h;rw [h]
theorem Ks (a:Rat):fr a=.tup [.int a.num,.int (a.den:Int)]:=rfl
theorem Mn (J:Hq) (q:Rat):fz J (fr q) (.int 0)=some (.int q.num):=de _ _
theorem Mo (J:Hq) (q:Rat):fz J (fr q) (.int 1)=some (.int (q.den:Int)):=fU _ _ _
theorem QU (J:Hq) (q:Rat):BD J (fr q)=some "tuple":=rfl
theorem My (J:Hq) (q:Rat):wu J (fr q)=some 2:=rfl
theorem xo (q:Rat):nv (fr q)=true:=by simp [fr,nv,l9]
theorem pj (q:Rat):yM (fr q)=false:=rfl
theorem Mb (q:Rat):dep (gy (fr q))=1:=by simp [fr,gy,g6,dep,eA]
theorem OR (q:Rat):HJ (fr q)=True:=eq_true ⟨xo q,by rw [Mb];decide⟩
theorem LY (i:Int):HJ (.int i)=True:=eq_true ⟨by simp [nv],by simp [gy,dep]⟩
theorem L6 (i:Str):HJ (.str i)=True:=eq_true ⟨by simp [nv],by simp [gy,dep]⟩
theorem OQ (i:Bool):HJ (.bl i)=True:=eq_true ⟨by simp [nv],by simp [gy,dep]⟩
theorem LZ:HJ .non=True:=eq_true ⟨by simp [nv],by simp [gy,dep]⟩
theorem Ct (i:Int):nv (.int i)=true:=by simp [nv]
theorem xp (i:Str):nv (.str i)=true:=by simp [nv]
theorem M' (i:Bool):nv (.bl i)=true:=by simp [nv]
theorem Jy:nv .non=true:=by simp [nv]
theorem Cu (xs:List PV):nv (.tup xs)=l9 xs:=by simp [nv]
theorem pL (x:PV) (xs:List PV):l9 (x :: xs)=(nv x && l9 xs):=by simp [l9]
theorem zl:l9 []=true:=by simp [l9]
theorem eq_int (a b:Int):eqQ (.int a) (.int b)=decide (a=b):=by unfold eqQ gy lJ;rw [Wr]
theorem eq_str (a b:Str):eqQ (.str a) (.str b)=decide (a=b):=by
 unfold eqQ gy lJ
 cases h:a == b with
 | true=>simp at h;simp [h]
 | false=>simp at h;simp [h]
theorem OU (a b:Bool):eqQ (.bl a) (.bl b)=decide (a=b):=by unfold eqQ gy lJ;rw [Wr]
def Al (xs ys:List PV):Bool:=ki (g6 xs) (g6 ys)
theorem wj (xs ys:List PV):eqQ (.tup xs) (.tup ys)=Al xs ys:=by unfold eqQ gy lJ Al;rfl
theorem eE (x y:PV) (xs ys:List PV):Al (x :: xs) (y :: ys)=(eqQ x y && Al xs ys):=by unfold Al eqQ;simp [g6,ki]
theorem qQ:Al [] []=true:=by unfold Al;simp [g6,ki]
theorem eq_self (x:PV):eqQ x x=true:=yH _
theorem BY (a b:Rat):eqQ (fr a) (fr b)=decide (a=b):=by
 rw [Ks,Ks,wj,eE,eE,qQ,eq_int,eq_int,Vw,← VD]
 exact decide_eq_decide.mpr (by rw [JK])
theorem Up (a b c:PV):l6 [a,b,c] (some 1) none=[b,c]:=rfl
theorem NV:m_ "int" "int"=some true:=by simp [m_]
theorem Ke:m_ "int" "bool"=some false:=by simp [m_]
theorem QY:m_ "bool" "bool"=some true:=by simp [m_]
theorem NW:m_ "str" "str"=some true:=by simp [m_]
theorem NX:m_ "tuple" "tuple"=some true:=by simp [m_]
theorem Kf:m_ "list" "list"=some true:=by simp [m_]
theorem eK {n:Nat} (h:n≤1000):n≤sizeLine:=V9 (L2.a7 h)
theorem KD:(0≤sizeLine)=True:=eq_true (Vb _)
theorem Pa:(1≤sizeLine)=True:=eq_true (eK (by decide))
theorem Pb:(2≤sizeLine)=True:=eq_true (eK (by decide))
theorem Pc:(3≤sizeLine)=True:=eq_true (eK (by decide))
theorem Pd:(4≤sizeLine)=True:=eq_true (eK (by decide))
section
variable (J:Hq) (xs:List PV) (a:Addr) (i:Int) (b:Bool) (z:Str) (T:String)
theorem R0:fz J (.tup xs) (.int i)=c4 xs i:=rfl
theorem RZ:fz J (.fl xs) (.int i)=c4 xs i:=rfl
theorem O6:fz J (.ref a) (.int i)=(match J a with | some (.lst xs)=>c4 xs i | _=>none):=rfl
theorem Sd:kB J (.fl xs)=some xs:=rfl
theorem Pn:kB J (.ref a)=(match J a with | some (.lst xs)=>some xs | _=>none):=rfl
theorem O_:wu J (.tup xs)=some xs.length:=rfl
theorem O9:wu J (.fl xs)=some xs.length:=rfl
theorem KC:wu J (.ref a)=(match J a with | some (.lst xs)=>some xs | _=>none).map Vp:=rfl
theorem S7:BD J .non=some "NoneType":=rfl
theorem QR:BD J (.bl b)=some "bool":=rfl
theorem S6:BD J (.int i)=some "int":=rfl
theorem S8:BD J (.str z)=some "str":=rfl
theorem S9:BD J (.tup xs)=some "tuple":=rfl
theorem S5:BD J (.fl xs)=some "list":=rfl
theorem QX:BD J (.ref a)=(match J a with | some (.lst _)=>some "list" | some (.dct _ _)=>some "dict" | _=>none):=rfl
theorem QM:x_ J .non=some false:=rfl
theorem Lf:x_ J (.bl b)=some b:=rfl
theorem QL:x_ J (.int i)=some (i != 0):=rfl
theorem QP:x_ J (.tup xs)=some (!xs.isEmpty):=rfl
theorem QK:x_ J (.fl xs)=some (!xs.isEmpty):=rfl
theorem QN:x_ J (.ref a)=(match J a with | some (.lst xs)=>some (!xs.isEmpty) | some (.dct kvs _)=>some (!kvs.isEmpty) | _=>none):=rfl
theorem RX:Rb J (.fl xs)=some ⟨xs,λ_=>True⟩:=rfl
theorem RY:Rb J (.ref a)=(match J a with | some (.lst xs)=>some ⟨xs,λJ'=>J' a=some (.lst xs)⟩ | _=>none):=rfl
theorem O1:yM .non=true:=rfl
theorem RM:yM (.bl b)=false:=rfl
theorem RP:yM (.int i)=false:=rfl
theorem RU:yM (.str z)=false:=rfl
theorem RV:yM (.tup xs)=false:=rfl
theorem RN:yM (.fl xs)=false:=rfl
theorem RQ:yM (.ref a)=false:=rfl
theorem SY:Oo T J (.fl xs)=(T="list"):=rfl
theorem S3:Oo T J (.str z)=(T="str"):=rfl
theorem S2:Oo T J (.ref a)=((T="list"∧∃xs,J a=some (.lst xs))∨(T="dict"∧∃kvs ep,J a=some (.dct kvs ep))):=rfl
end
def Fo (it:Aa) (g:Ae) (tb:i8) (D:En) (τ:Sr) (J1:Hq):Prop:=∃Pv:Nat→Sr→Hq→Prop,Pv 0 τ J1∧(∀i τ J,Pv i τ J→it.ok J) ∧
 (∀i x τ J,it.xs[i]?=some x→Pv i τ J→g x τ J λτ2 J2=>tb { D with nx:=Pv (i + 1),ct:=Pv (i + 1),bk:=D.nx } τ2 J2)∧∀τ J,Pv it.xs.length τ J→D.nx τ J
theorem JD (wi:rK) (g:Ae) (tb:i8) (D:En) (τ:Sr) (J:Hq):Qj wi g tb D τ J=wi τ J λit J1=>Fo it g tb D τ J1:=rfl
theorem lM {lo:Int} {n:Nat} {g:Ae} {tb:i8} {D:En} {τ:Sr} {J1:Hq} (Pv:Nat→Sr→Hq→Prop) (h0:Pv 0 τ J1)
  (hs:∀(i:Nat) τ J,i < n→Pv i τ J→g (.int (lo + (i:Int))) τ J λτ2 J2=>tb { D with nx:=Pv (i + 1),ct:=Pv (i + 1),bk:=D.nx } τ2 J2) (hd:∀τ J,Pv n τ J→D.nx τ J):Fo ⟨sd lo n,λ_=>True⟩ g tb D τ J1 :=
 ⟨Pv,h0,λ_ _ _ _=>trivial,λi x τ J e p=>by obtain ⟨a,b⟩:=(se lo n i x).mp e;subst b;exact hs i τ J a p,λτ J p=>hd τ J (by simpa [kr] using p)⟩
structure bE (mg:Str→Option Value):Prop extends To mg where
 str:mg "str"=none
 dict:mg "dict"=none
 max:mg "max"=none
 zip:mg "zip"=none
 enumerate:mg "enumerate"=none
def i6 (J' J:Hq):Prop:=∀a,J' a=J a∨J' a=none
def Fg (Q:PV→Hq→Prop) (v:PV) (J:Hq):Prop:=∃x J',i6 J' J∧(x=v∨∃a xs,v=.ref a∧x=.fl xs∧J a=some (.lst xs)∧J' a=none)∧Q x J'
theorem Fg.same {Q:PV→Hq→Prop} {v:PV} {J:Hq} (h:Q v J):Fg Q v J:=⟨v,J,λ_=>.inl rfl,.inl rfl,h⟩
theorem Fg.less {Q:PV→Hq→Prop} {v:PV} {J J':Hq} (l:i6 J' J) (h:Q v J'):Fg Q v J:=⟨v,J',l,.inl rfl,h⟩
theorem Fg.pf {Q:PV→Hq→Prop} {a:Addr} {xs:List PV} {J J':Hq} (l:i6 J' J) (ha:J a=some (.lst xs)) (hn:J' a=none) (h:Q (.fl xs) J'):Fg Q (.ref a) J:=⟨.fl xs,J',l,.inr ⟨a,xs,rfl,rfl,ha,hn⟩,h⟩
section
variable {P:Program} {w:World} {K:PySem.W.Frag} {mg:Str→Option Value} {base:Heap}
theorem Fg.kn {J:Hq} {H:Hp} {Q2:PV→Hq→Prop} {Q:VK} (k:Kn K J H Q2 Q):Kn K J H (Fg Q2) Q:=λz J1 u H1 rz r1 e1 ⟨x,J',l,hx,q⟩=>by
 have el:=Ext.less (K:=K) (H:=H1) l
 rcases hx with rfl | ⟨a,xs,rfl,rfl,ha,hn⟩
 ·exact k x J' u H1 (el.rep rz) (r1.less l) (e1.trans el) q
 ·cases rz
  obtain ⟨vs,h1,h2⟩:=r1 _ _ ha
  exact k (.fl xs) J' _ H1 ⟨a,vs,rfl,.inl ⟨hn,.inl h1⟩,el.jC h2⟩ (r1.less l) (e1.trans el) q
theorem Uk {x qual:Str} {st:Stmt} {f:Addr} {fd:FuncData} {N ps:List Str} {k:Nat} {sp:cq} (F:bU K x qual st f fd) (S:aw N ps (L2.au st)) (len:∀xs J Q E,sp xs J Q E→xs.length=ps.length)
  (hbody:∀(cdv:Value) (A:Around) (outer:List Env) (s:Shared) (H:Hp) (E:XK) (G:G2) (xs:List PV) (J:Hq) (Q:PV→Hq→Prop) (E2:Addr→Hq→Prop),bR k (A.deeper (envOfC qual (L2.au st) s.heap.objs.size f cdv))→sp xs J Q E2 →
   Dm (yc P w K mg base N qual (L2.au st) f cdv A outer s H E) G E2 E →
   ∃t,RB (yc P w K mg base N qual (L2.au st) f cdv A outer s H E) G (L2.cg st) t∧t { nx:=λ_ J'=>Fg Q .non J',rt:=Fg Q } (tU N xs) J):aS P w K mg base (cn P w) (k + 1) f fd ps (cK K sp):=by
 have:=Sk (sp:=λxs J Q E=>∃Q0,Q=Fg Q0∧sp xs J Q0 E) F S (λxs J Q E ⟨Q0,_,h⟩=>len xs J Q0 E h) (λcdv A outer s H E G xs J Q E2 hr ⟨Q0,eq,h⟩ B=>by subst eq;exact hbody cdv A outer s H E G xs J Q0 E2 hr h B)
 exact this.imp λvs H Q E ⟨xs,J,Q2,E2,a,b,c,d,e⟩=>⟨xs,J,Fg Q2,E2,a,b,⟨Q2,rfl,c⟩,Fg.kn d,e⟩
end
section
variable {P:Program} {w:World} {K:PySem.W.Frag} {mg:Str→Option Value} {base:Heap}
theorem Sj {x qual:Str} {st:Stmt} {f:Addr} {fd:FuncData} {N ps:List Str} {k:Nat} {sp:cq} {t:(Addr→Hq→Prop)→i8} (F:bU K x qual st f fd) (S:aw N ps (L2.au st)) (len:∀xs J Q E,sp xs J Q E→xs.length=ps.length)
  (rd:∀(cdv:Value) (A:Around) (outer:List Env) (s:Shared) (H:Hp) (E:XK) (G:G2) (E2:Addr→Hq→Prop),bR k (A.deeper (envOfC qual (L2.au st) s.heap.objs.size f cdv)) →
   Dm (yc P w K mg base N qual (L2.au st) f cdv A outer s H E) G E2 E→RB (yc P w K mg base N qual (L2.au st) f cdv A outer s H E) G (L2.cg st) (t E2))
  (run:∀(xs:List PV) (J:Hq) (Q:PV→Hq→Prop) (E2:Addr→Hq→Prop),sp xs J Q E2→∀X:Prop,(t E2 { nx:=λ_ J'=>Fg Q .non J',rt:=Fg Q } (tU N xs) J→X)→X):aS P w K mg base (cn P w) (k + 1) f fd ps (cK K sp) :=
 Uk F S len λcdv A outer s H E G xs J Q E2 hr h B=>⟨_,rd cdv A outer s H E G E2 hr B,run xs J Q E2 h _ id⟩
end
theorem DC {X:Cx} {G:G2}:Dm X G (λ_ _=>False) L2.E0:=⟨λ_ _ _ _ _ _ _ ⟨_,_,_,_,_,z⟩=>z.elim,λ_ _ _ _ _ z=>z.elim⟩
theorem vA {K:PySem.W.Frag} {J:Hq} {H:Hp}:∀ns:List Int,aY K J H (ns.map PV.int) (ns.map V.int)
 | []=>rfl
 | n :: ns=>⟨_,_,rfl,rfl,vA ns⟩
end Ov
namespace Ov
open PySem PySem.Spec PyProof.Rows L2
theorem OG {α:Type} (a b c d e:α) (xs:List α):c4 (a :: b :: c :: d :: e :: xs) 4=some e:=bP (j:=4) rfl
theorem OH {α:Type} (a b c d e f:α) (xs:List α):c4 (a :: b :: c :: d :: e :: f :: xs) 5=some f:=bP (j:=5) rfl
theorem OI {α:Type} (a b c d e f g:α) (xs:List α):c4 (a :: b :: c :: d :: e :: f :: g :: xs) 6=some g:=bP (j:=6) rfl
theorem OJ {α:Type} (a b c d e f g h:α) (xs:List α):c4 (a :: b :: c :: d :: e :: f :: g :: h :: xs) 7=some h:=bP (j:=7) rfl
theorem OK {α:Type} (a b c d e f g h i:α) (xs:List α):c4 (a :: b :: c :: d :: e :: f :: g :: h :: i :: xs) 8=some i:=bP (j:=8) rfl
theorem OL {α:Type} (a b c d e f g h i j:α) (xs:List α):c4 (a :: b :: c :: d :: e :: f :: g :: h :: i :: j :: xs) 9=some j:=bP (j:=9) rfl
theorem LV {α:Type} (a b c d e f g h i j k:α) (xs:List α):c4 (a :: b :: c :: d :: e :: f :: g :: h :: i :: j :: k :: xs) 10=some k:=bP (j:=10) rfl
theorem LW {α:Type} (a b c d e f g h i j k l:α) (xs:List α):c4 (a :: b :: c :: d :: e :: f :: g :: h :: i :: j :: k :: l :: xs) 11=some l:=bP (j:=11) rfl
theorem Pe:(5≤sizeLine)=True:=eq_true (eK (by decide))
theorem Pf:(6≤sizeLine)=True:=eq_true (eK (by decide))
theorem Pg:(7≤sizeLine)=True:=eq_true (eK (by decide))
theorem Ph:(8≤sizeLine)=True:=eq_true (eK (by decide))
theorem Pj:(9≤sizeLine)=True:=eq_true (eK (by decide))
theorem Mz:(10≤sizeLine)=True:=eq_true (eK (by decide))
theorem MA:(11≤sizeLine)=True:=eq_true (eK (by decide))
theorem MB:(12≤sizeLine)=True:=eq_true (eK (by decide))
theorem tE {ss:List Int} (h:ss.all (λs=>decide (0 < s) && decide (s < 2 ^ 63))=true):∀s∈ss,0 < s∧Bd 9000 s:=λs hs=>by
 have:=V2.mp h s hs
 rw [U1,decide_eq_true_eq,decide_eq_true_eq] at this
 exact ⟨this.1,(Bd.small (by omega) (by omega)).mono (by decide)⟩
theorem Sz.div {n:Nat} {t b:Int} (ht:Bd n t) (hb:Bd n b) (h:b≠0):Sz n (Rat.divInt t b):=⟨ht.le (Cg t b),hb.le (wg h)⟩
end Ov
namespace Ov
open PySem PySem.Spec PyProof.Rows
open L2 (V HO Hp Inv Cx VK XK TE TT TA TS TG mF TI TO gw Ends rL Loc Gl Rd RelV Vals fw qO bS nj oY md gu R2 upd aZ aW dY f' Sp nA It cA b7 bR Passes ma aK Meth Mk Binds aS bU aw c4 fe dR)
section
variable {X:Cx} {G:G2}
abbrev Dv:=PV→PV→PV→Hq→(Hq→Prop)→Prop
def Q9 (X:Cx) (q:Dv):Prop:=∃r,gu X r∧∀J H o i y ov iv u R2 R,cY X.K J H o ov→cY X.K J H i iv→cY X.K J H y u→Rep X.K J H→q o i y J R2→(∀J' H',Rep X.K J' H'→Ext X.K J H J' H'→R2 J'→R H')→r ov iv u H R
def RH (to ti:dq) (t:Dv):Ae:=λy τ J R=>to τ J λo J1=>ti τ J1 λi J2=>t o i y J2 λJ3=>R τ J3
theorem Nn {o i:Expr} {to ti:dq} {t:Dv} {pos:Pos} (hs:Q9 X t) (ho:RE X G o to) (hi:RE X G i ti)
  (ha:∀v,assign (.Subscript o i pos) X.env v=(do
   let ov ← holding [v] (eval o X.env)
   let iv ← holding [v,ov] (eval i X.env)
   standAt pos
   holding [v,ov,iv] (setItem ov iv v)
   release [v,ov,iv] []):=by intro _;rfl):RG X G (.Subscript o i pos) (RH to ti t):=by
 obtain ⟨r,hr,lf⟩:=hs
 exact ⟨Ss (L2.AY ho.run hi.run hr ha) λv σ H Q ⟨y,τ,J,Q2,ry,a2,h,k⟩ =>
  ⟨τ,J,_,a2,h,λx J1 ov H1 rx r1 e1 h1=>⟨τ,J1,_,a2.go r1 e1,h1,λz J2 iv H2 rz r2 e2 h2 =>
   lf J2 H2 x z y ov iv v _ _ (e2.rep rx) rz (e2.rep (e1.rep ry)) r2 h2 λJ3 H3 r3 e3 q=>k τ J3 σ H3 ((((a2.sl.ext e1).ext e2).ext e3)) r3 ((e1.trans e2).trans e3) q⟩⟩⟩
def KZ:Dv:=λo i y J R=>∃p xs k j,o=.ref p∧i=.int k∧J p=some (.lst xs)∧L2.EF xs.length k=some j∧R (put J p (.lst (xs.set j y)))
theorem JY:Q9 X KZ:=⟨_,L2.set_list,λJ H o i y ov iv u R2 R ro ri ry r ⟨p,xs,k,j,eo,ei,hp,hj,q⟩ kk=>by
 subst eo ei
 cases ro;cases ri
 obtain ⟨vs,h1,h2⟩:=r _ _ hp
 refine ⟨p,vs,k,j,rfl,rfl,h1,by rw [← h2.length];exact hj,kk _ _ (r.wrote hp h1 (h2.set ry j)) (.wrote hp h1) q⟩⟩
theorem iT {o i e:Expr} {to ti te:dq} {t:Dv} {pos pos':Pos} (hs:Q9 X t) (ho:RE X G o to) (hi:RE X G i ti) (he:RE X G e te)
  (ha:∀v,assign (.Subscript o i pos') X.env v=(do
   let ov ← holding [v] (eval o X.env)
   let iv ← holding [v,ov] (eval i X.env)
   standAt pos'
   holding [v,ov,iv] (setItem ov iv v)
   release [v,ov,iv] []):=by intro _;rfl)
  (hq:swapsWithSole [.Subscript o i pos'] e pos.line X.env=pure false:=by rfl) (hw:swappedStores [.Subscript o i pos'] e X.env=pure none:=by rfl)
  (h1:(assignEach [.Subscript o i pos'] X.env).map (·.2)=[assign (.Subscript o i pos') X.env]:=by rfl):RS X G (.Assign [.Subscript o i pos'] e pos) (uF te (RH to ti t)):=xx he (Nn hs ho hi ha) hq hw h1
def Tq (X:Cx) (op:Operator) (q:nt):Prop:=∃r,L2.Rt X op r∧LR X.K r q
def Qe (i:Nat) (te:dq) (q:nt):i8:=λD τ J=>Of τ[i]? λx=>te τ J λy J1=>q x y J1 λz J2=>D.nx (τ.set i (some z)) J2
theorem G1 {i:Nat} {x:Str} {e:Expr} {te:dq} {op:Operator} {q:nt} {pos pos':Pos} (hN:X.N.Nodup) (he:RE X G e te) (ho:Tq X op q) (hi:X.N[i]?=some x:=by rfl) (hx:Loc X.env.scope x:=by first | exact .inl rfl | exact .inr rfl) (hf:X.fn x=true∨X.env.scope.names.lookup x=some .local:=by first | exact .inl rfl | exact .inr rfl | assumption) :
  RS X G (.AugAssign (.Name x pos') op e pos) (Qe i te q):=by
 obtain ⟨r,hr,lf⟩:=ho
 exact ⟨zj (L2.M8 hN hi hx he.run hr hf) λD σ H ⟨τ,J,D2,a2,hh,g⟩=>by
  obtain ⟨x,hx,h⟩:=Gb hh
  obtain ⟨v,h1,h2⟩:=a2.sl.get _ _ hx
  exact ⟨v,h1,τ,J,_,a2,h,λy J1 u H1 ry r1 e1 q1=>lf J1 H1 x y v u _ _ (e1.rep h2) ry r1 q1 λz J2 u2 H2 rz r2 e2 q2=>g.nx _ J2 _ H2 (((a2.sl.ext e1).ext e2).set i rz) r2 (e1.trans e2) q2⟩⟩
theorem FA:Tq X .Sub (GL λi j=>.int (i - j)):=⟨_,L2.Mm,λJ H x y v w Q2 Q rx ry r h k=>by
 obtain ⟨i,ex,h⟩:=gT h;obtain ⟨j,ey,q⟩:=gT h
 subst ex ey;cases rx;cases ry;exact ⟨i,j,rfl,rfl,k (.int _) J _ H rfl r .refl q⟩⟩
end
theorem ed {xs:List PV} {ok:Hq→Prop} {g:Ae} {tb:i8} {D:En} {τ:Sr} {J1:Hq} (Pv:Nat→Sr→Hq→Prop) (h0:Pv 0 τ J1) (hk:∀i τ J,Pv i τ J→ok J)
  (hs:∀(i:Nat) x τ J,xs[i]?=some x→Pv i τ J→g x τ J λτ2 J2=>tb { D with nx:=Pv (i + 1),ct:=Pv (i + 1),bk:=D.nx } τ2 J2) (hd:∀τ J,Pv xs.length τ J→D.nx τ J):Fo ⟨xs,ok⟩ g tb D τ J1:=⟨Pv,h0,hk,hs,hd⟩
theorem qP {α:Type} (xs:List α) (x:α):c4 (xs ++ [x]) (-1)=some x:=by
 unfold L2.c4 L2.EF
 rw [if_neg (by decide),if_pos (by simp;omega)]
 have e:(-1 + ((xs ++ [x]).length:Int)).toNat=xs.length:=by simp only [UR,UT,VR];omega
 rw [e]
 simp
theorem kL {K:PySem.W.Frag} {h:Heap} {mg:Str→Option Value} {x:Str} {C:Addr} (X:K.In h) (G:h.Ns mainGlobals mg) (a:PySem.W.nsIn K mainGlobals x=some (some (.ref C))) (b:(PySem.W.excIn K C Rx "ValueError.__new__" && HF K C)=true):Own K mg x C :=
 ⟨PySem.W.mg_of X G a,(Wv.mp b).1,Ki (Wv.mp b).2⟩
theorem n8 {J:Hq} {x:PV} {ys:List PV} (h:kB J x=some ys):x=.fl ys∨∃a,x=.ref a∧J a=some (.lst ys):=by
 cases x with
 | fl xs=>cases h;exact .inl rfl
 | ref a =>
  right
  refine ⟨a,rfl,?_⟩
  unfold kB at h
  simp only at h
  split at h
  ·rename_i e;cases h;exact e
  ·cases h
 | _=>cases h
theorem KH {J:Hq} {x:PV} {ys:List PV} (h:kB J x=some ys):BD J x=some "list":=by
 rcases n8 h with rfl | ⟨a,rfl,ha⟩
 ·rfl
 ·rw [QX,ha]
theorem Aw {J:Hq} {x:PV} {ys:List PV} (h:kB J x=some ys):wu J x=some ys.length:=by
 rcases n8 h with rfl | ⟨a,rfl,ha⟩
 ·rfl
 ·rw [KC,ha];rfl
theorem Ce {J:Hq} {x:PV} {ys:List PV} (h:kB J x=some ys) (i:Int):fz J x (.int i)=c4 ys i:=by
 rcases n8 h with rfl | ⟨a,rfl,ha⟩
 ·rfl
 ·rw [O6,ha]
def Mf (j:Nat):List PV:=.bl true :: (Vz 10).map λk=>.bl (decide (j=k))
def SJ (c:Nat→Addr) (N n:Nat) (t:(Addr→Hq→Prop)→i8):i8:=λD τ J =>
 t (λa J'=>∃j,j < 10∧a=c j∧D.nx ((VA N none).set n (some (.fl (Mf j)))) J') D τ J
section
variable {X:Cx} {G:G2}
end
theorem Ny {a b:i8} {D:En} {τ:Sr} {J:Hq} (h:∀N:Sr→Hq→Prop,(∀τ' J',b D τ' J'→N τ' J')→a { D with nx:=N } τ J):bc a b D τ J:=h _ λ_ _ z=>z
def Om (J:Hq):PV→Option (List PV)
 | .tup xs=>some xs
 | .fl xs=>some xs
 | .ref a=>match J a with
  | some (.lst xs)=>some xs
  | _=>none
 | _=>none
theorem Hk {K:PySem.W.Frag} {J:Hq} {H:Hp} {y:PV} {u:V} {xs:List PV} (h:Om J y=some xs) (r:cY K J H y u) (rr:Rep K J H):∃p vs,u=.ref p∧(dY K H p vs∨f' K H p vs)∧aY K J H xs vs:=by
 cases y with
 | tup ys=>cases h;obtain ⟨a,vs,rfl,h1,h2⟩:=r;exact ⟨a,vs,rfl,.inr h1,h2⟩
 | fl ys=>cases h;obtain ⟨a,vs,rfl,h1,h2⟩:=r;exact ⟨a,vs,rfl,.inl h1.sq,h2⟩
 | ref a =>
  cases r
  unfold Om at h
  simp only at h
  split at h
  ·rename_i e;cases h
   obtain ⟨vs,h1,h2⟩:=rr _ _ e
   exact ⟨a,vs,rfl,.inl (dY.of h1),h2⟩
  ·cases h
 | _=>cases h
theorem gA {K:PySem.W.Frag} {J:Hq} {H:Hp}:∀{ns:List Str} {vs:List V},aY K J H (ns.map PV.str) vs→vs=ns.map V.str
 | [],_,h=>h
 | n :: ns,_,⟨v,us,e,h,k⟩=>by subst e;cases h;rw [gA k];rfl
theorem oH {K:PySem.W.Frag} {J:Hq} {H:Hp}:∀{ns:List Int} {vs:List V},aY K J H (ns.map PV.int) vs→vs=ns.map V.int
 | [],_,h=>h
 | n :: ns,_,⟨v,us,e,h,k⟩=>by subst e;cases h;rw [oH k];rfl
theorem BN {α:Type} [BEq α] [LawfulBEq α] [DecidableEq α] (x y:α):(x == y)=decide (x=y):=by by_cases h:x=y <;> simp [h]
theorem ID (s:Str) (ss:List Str):L2.Od (.str s) (ss.map V.str)=decide (s∈ss):=by
 unfold L2.Od
 induction ss with
 | nil=>rfl
 | cons x ss ih =>
  rw [UA,VO,ih,show L2.HK (.str x) (.str s)=(x == s) from rfl,BN]
  by_cases h:x=s
  ·subst h;simp
  ·simp [h,show ¬ s=x from λe=>h e.symm]
theorem IC (s:Int) (ss:List Int):L2.Od (.int s) (ss.map V.int)=decide (s∈ss):=by
 unfold L2.Od
 induction ss with
 | nil=>rfl
 | cons x ss ih =>
  rw [UA,VO,ih,show L2.HK (.int x) (.int s)=(x == s) from rfl,BN]
  by_cases h:x=s
  ·subst h;simp
  ·simp [h,show ¬ s=x from λe=>h e.symm]
section
variable {X:Cx} {G:G2}
def P6 (f:Bool→Bool):nt:=λx y J Q=>∃(s:Str) (ss:List Str),x=.str s∧Om J y=some (ss.map .str)∧Q (.bl (f (decide (s∈ss)))) J
def Sv (f:Bool→Bool):nt:=λx y J Q=>∃(s:Int) (ss:List Int),x=.int s∧Om J y=some (ss.map .int)∧Q (.bl (f (decide (s∈ss)))) J
theorem DE (ss:List Str):(ss.map V.str).all L2.jT=true:=by simp [L2.jT]
theorem DD (ss:List Int):(ss.map V.int).all L2.jT=true:=by simp [L2.jT]
theorem Jl:nk X (compareOp .NotIn) (P6 not):=⟨_,L2.wQ,λJ H x y v w Q2 Q rx ry r ⟨s,ss,ex,hy,q⟩ k=>by
 subst ex;cases rx
 obtain ⟨p,vs,rfl,hq,h2⟩:=Hk hy ry r
 cases gA h2
 exact ⟨p,_,rfl,hq,rfl,DE ss,k (.bl _) J _ H (by rw [if_pos rfl,ID];rfl) r .refl q⟩⟩
theorem M3:nk X (compareOp .In) (Sv id):=⟨_,L2.Ee,λJ H x y v w Q2 Q rx ry r ⟨s,ss,ex,hy,q⟩ k=>by
 subst ex;cases rx
 obtain ⟨p,vs,rfl,hq,h2⟩:=Hk hy ry r
 cases oH h2
 exact ⟨p,_,rfl,hq,rfl,DD ss,k (.bl _) J _ H (by rw [if_neg (by decide),IC];rfl) r .refl q⟩⟩
end
end Ov
namespace L2
open PySem PySem.Spec PyProof.Rows
section
variable {X:Cx} {tg:Expr}
end
end L2
namespace Ov
open PySem PySem.Spec PyProof.Rows
open L2 (V HO Hp Inv Cx VK XK TE TT TA TS TG mF TI TO gw Ends rL Loc Gl Rd RelV Vals fw qO bS nj oY md gu R2 upd aZ aW dY f' Sp nA It cA b7 bR Passes ma aK Meth Mk Binds aS bU aw c4 fe dR)
section
variable {X:Cx} {G:G2} {tg:Expr}
theorem mL {K:PySem.W.Frag} {J:Hq} {H:Hp} {y:PV} {u:V} {xs:List PV} (h:kB J y=some xs) (r:cY K J H y u) (rr:Rep K J H):∃p vs,u=.ref p∧dY K H p vs∧aY K J H xs vs:=by
 rcases n8 h with rfl | ⟨a,rfl,ha⟩
 ·obtain ⟨a,vs,rfl,h1,h2⟩:=r;exact ⟨a,vs,rfl,h1.sq,h2⟩
 ·cases r
  obtain ⟨vs,h1,h2⟩:=rr _ _ ha
  exact ⟨a,vs,rfl,dY.of h1,h2⟩
def P7:zQ:=λxs J Q=>∃k:Bool,xs=[.bl k]∧Q (.int (if k then 1 else 0)) J
theorem L8:HG X (.type "int") P7:=⟨_,L2.Dx,λJ H xs vs Q2 Q rs r ⟨k,ex,q⟩ kk=>by
 subst ex;obtain ⟨v,us,rfl,rv,e⟩:=rs;cases e;cases rv
 exact .inr ⟨k,rfl,kk (.int _) J _ H rfl r .refl q⟩⟩
end
end Ov
namespace L2
open PySem PySem.Spec PyProof.Rows
section
variable {X:Cx}
abbrev TJ:=Str→TE
end
end L2
namespace Ov
open PySem PySem.Spec PyProof.Rows
open L2 (V HO Hp Inv Cx VK XK TE TT TA TS TG mF TI TO gw Ends rL Loc Gl Rd RelV Vals fw qO bS nj oY md gu R2 upd aZ aW dY f' Sp nA It cA b7 bR Passes ma aK Meth Mk Binds aS bU aw c4 fe dR TJ)
section
variable {X:Cx} {G:G2}
def KQ:BM:=λx xs J Q=>∃z y ys,x=.str z∧xs=[y]∧kB J y=some (ys.map .str)∧(ys.map (·.length)).sum + ys.length * z.length≤16777216∧Q (.str (Txt.join z ys)) J
theorem IS:Im X "str" "str.join" KQ:=⟨_,IV,λJ H x xs v vs Q2 Q rx rs r ⟨z,y,ys,ex,exs,hy,hl,q⟩ k=>by
 subst ex exs;cases rx;obtain ⟨w,us,rfl,rw',e⟩:=rs;cases e
 obtain ⟨a,ws,rfl,h1,h2⟩:=mL hy rw' r
 cases gA h2
 exact ⟨z,a,ys,rfl,rfl,h1,hl,k (.str _) J _ H rfl r .refl q⟩⟩
end
end Ov
namespace L2
open PySem PySem.Spec PyProof.Rows
section
variable {X:Cx} {pins:List (Addr × Obj)} {σ:St} {H:Hp} {s:Shared} {h':Heap}
theorem Inv.rj {t':Nat} {ch:List Addr} (I:Inv X pins σ H s) (k:∀b o,b ∉ ch→s.heap.get? b=some o→h'.get? b=some o) (hf:∀b∈ch,l5 X pins H b):Inv X pins σ H { s with heap:=h',toks:=t' }:=by
 have nit:∀b u,H b=some u→b ∉ ch:=λb u e z=>by rw [(hf b z).1] at e;cases e
 refine I.step (g':=s.gens) (d':=s.drawn) (ch:=ch) (λb hb=>?_) (λb o _ _ hc e _=>k b o hc e) (λb o _ _ hc e _=>⟨o.slots,k b o hc e⟩) (λ_ _ _ _ n=>n)
  (λb o hc e=>⟨o,k b o hc e⟩) (λ_ _ e=>e) (λ_ _ _ e=>e) (λb ps e=>⟨#[],by rw [e];simp⟩) (λm hm=>?_) (λb u e=>?_) I.bare
 ·obtain ⟨f0,f1,f2,f3,f4,f5⟩:=hf b hb
  exact ⟨f3,f1,f4,f5⟩
 ·obtain ⟨o,es,ep,ho,r⟩:=hm
  exact ⟨o,es,ep,k _ o (λz=>(hf _ z).2.1 rfl) ho,r⟩
 ·refine (I.hok b u e).m9 (λc v hc q=>k c v ?_ q) (λ_ q=>q) λ_ _ q=>q
  rcases hc with z | z
  ·rw [z];exact nit b u e
  ·exact nit c _ z
end
def Tt (K:PySem.W.Frag) (a b:Addr):It :=
 ⟨λi H=>∃xs ys x y,dY K H a xs∧dY K H b ys∧xs[i]?=some x∧ys[i]?=some y,
  λi H z H'=>∃T x y,H T=none∧z=.ref T∧H'=upd H T (.tup [x,y])∧(∀xs,dY K H a xs→xs[i]?=some x)∧∀ys,dY K H b ys→ys[i]?=some y,
  λi H=>∃xs ys,dY K H a xs∧dY K H b ys∧(xs.length≤i∨ys.length≤i)⟩
theorem HB {P:Program} {w:World} {K:PySem.W.Frag} {elts:List Expr} {x1} {pos:Pos} {z TI TO i1 i2 l1 l2:Addr} (D:ZipApart z TI TO i1 i2 l1 l2) :
  Turn P w K (.Tuple elts x1 pos) (Tt K l1 l2) [z,TI,TO,i1,i2] z (λi h=>IsZip h z TI TO .none∧IsPair h TI (.ref i1) (.ref i2)∧(∃a b,IsPair h TO a b)∧h.IsListIter i1 l1 i∧h.IsListIter i2 l2 i) where
 mem:=by simp
 obj:=λi h ⟨hz,hTI,⟨a,b,hTO⟩,h1,h2⟩ c hc=>by
  simp only [UH,UU,or_false] at hc
  rcases hc with rfl | rfl | rfl | rfl | rfl
  ·exact ⟨_,hz,λv z=>by cases z⟩
  ·exact ⟨_,hTI,λv z=>by cases z⟩
  ·exact ⟨_,hTO,λv z=>by cases z⟩
  ·obtain ⟨o,e,c,d⟩:=h1;exact ⟨o,e,λv z=>by rw [d] at z;cases z⟩
  ·obtain ⟨o,e,c,d⟩:=h2;exact ⟨o,e,λv z=>by rw [d] at z;cases z⟩
 keep:=λi h h' ⟨hz,hTI,⟨a,b,hTO⟩,h1,h2⟩ k=>⟨k z (by simp) _ hz,k TI (by simp) _ hTI,⟨a,b,k TO (by simp) _ hTO⟩,h1.at λo e=>k i1 (by simp) o e,h2.at λo e=>k i2 (by simp) o e⟩
 item:=by
  intro X hP hw hK hc i pins s σ H E I hf st hg
  subst hP hw hK
  obtain ⟨hz,hTI,⟨a,b,hTO⟩,h1,h2⟩:=st
  obtain ⟨xs,ys,x,y,hqx,hqy,hx,hy⟩:=hg
  obtain ⟨its,rv,p,hzx⟩:=I.list hqx
  obtain ⟨jts,ru,p',hzy⟩:=I.list hqy
  obtain ⟨u,hu,rx⟩:=rv.get hx
  obtain ⟨v,hv,ry⟩:=ru.get hy
  refine wpAny_pyNext_zip_item D hz hTI hTO h1 h2 p.isList p'.isList (x:=u) (y:=v) (by simpa using hu) (by simpa using hv) λh' a1 a2 a3 a4 a5 a6 hk=>?_
  refine ⟨_,rfl,wpAny_letOwnedTupleGo_zip a1 λh'' hz' hs'=>?_⟩
  have hT:H s.heap.objs.size=none:=I.hok.fresh (UC _)
  have lt:∀{c o},s.heap.get? c=some o→c≠s.heap.objs.size:=λe=>UW (Heap.lt_size e)
  have nz:s.heap.objs.size≠z:=Ne.symm (lt hz)
  have I0:Inv X pins σ (upd H s.heap.objs.size (.tup [x,y])) { s with heap:=s.heap.push { cls:=.type "tuple",data:=.seq #[u,v] },toks:=s.toks }:=I.laid (t':=s.toks) (λb u e=>Heap.get?_push_of_some _ e) (UC _) ⟨by simp [sizeLine],[u,v],.cons rx (.cons ry .nil),⟨_,Heap.get?_push_size _ rfl,rfl,_,rfl⟩⟩
  have fpn:∀b∈[z,TI,TO,i1,i2],b≠s.heap.objs.size:=λb hb=>by
   simp only [UH,UU,or_false] at hb
   rcases hb with rfl | rfl | rfl | rfl | rfl
   ·exact lt hz
   ·exact lt hTI
   ·exact lt hTO
   ·obtain ⟨o,e,_⟩:=h1;exact lt e
   ·obtain ⟨o,e,_⟩:=h2;exact lt e
  have fpu:∀b∈[z,TI,TO,i1,i2],l5 X pins (upd H s.heap.objs.size (.tup [x,y])) b:=λb hb=>⟨by rw [aW (fpn b hb)];exact (hf b hb).1,(hf b hb).2⟩
  have I1:Inv X pins σ (upd H s.heap.objs.size (.tup [x,y])) { s with heap:=h'' }:=Inv.rj (s:={ s with heap:=s.heap.push { cls:=.type "tuple",data:=.seq #[u,v] },toks:=s.toks }) (t':=s.toks) (ch:=[z,TI,TO,i1,i2]) I0 (λb o hb e=>by
   simp only [UH,UU,or_false,not_or] at hb
   rcases Heap.get?_push_cases e with ⟨rfl,rfl⟩ | e'
   ·exact hs'.extBut _ _ hb.1 a5
   ·exact hs'.extBut _ _ hb.1 (hk b o hb.1 hb.2.2.1 hb.2.2.2.1 hb.2.2.2.2 e')) fpu
  refine ⟨.ref s.heap.objs.size,_,I1,rfl,⟨_,x,y,hT,rfl,rfl,λzs hq=>by rw [I.ku hq hqx];exact hx,λzs hq=>by rw [I.ku hq hqy];exact hy⟩,⟨hz',hs'.extBut _ _ D.TIz (hk _ _ D.TIz D.TITO D.TIi1 D.TIi2 hTI),⟨_,_,hs'.extBut _ _ D.TOz a2⟩,a3.extBut hs'.extBut D.i1z,a4.extBut hs'.extBut D.i2z⟩,λb hb=>(fpu b hb).1⟩
 done:=by
  intro X hP hw hK hc i pins s σ H E I hf st hg
  subst hP hw hK
  obtain ⟨hz,hTI,⟨a,b,hTO⟩,h1,h2⟩:=st
  obtain ⟨xs,ys,hqx,hqy,hl⟩:=hg
  obtain ⟨its,rv,p,hzx⟩:=I.list hqx
  obtain ⟨jts,ru,p',hzy⟩:=I.list hqy
  have e1:=rv.length
  have e2:=ru.length
  refine wpAny_pyNext_zip_end (I.ok.hd hc) D hz hTI hTO h1 h2 p.isList p'.isList ?_ λh' hk=>⟨rfl,I.rj (t':=s.toks) (ch:=[z,TI,TO,i1,i2]) (λb o hb e=>?_) hf⟩
  ·rcases hl with hl | hl
   ·exact .inl (by simp;omega)
   ·exact .inr (by simp;omega)
  ·simp only [UH,UU,or_false,not_or] at hb
   exact hk b o hb.1 hb.2.2.1 hb.2.2.2.1 hb.2.2.2.2 e
 self:=λ_ _ _ _ _ st h=>wpAny_pyIter_zip st.1 h
def RK (K:PySem.W.Frag) (ta:TA):TI:=λσ H R=>ta σ H λvs H1=>∃a b xs ys,vs=[.ref a,.ref b]∧dY K H1 a xs∧dY K H1 b ys∧R (Tt K a b) H1
section
variable {X:Cx}
theorem M7 {l m:Expr} {elts:List Expr} {x1} {tp:Pos} {ta:TA} {p pos:Pos} (hg:Gl X "zip") (hm:X.mg "zip"=none) (ha:PA X [l,m] ta) (hs:starEach [l,m] X.env=(false,eval l X.env) :: starEach [m] X.env:=by rfl) (hp:(backTo pos (starEach [m] X.env)).any (·.1)=false:=by rfl):PI X (.Tuple elts x1 tp) (.Call (.Name "zip" p) [l,m] [] pos) (RK X.K ta):=by
 intro pins s σ H R I h
 refine Call_ (mI I hg hm PyProof.Rows.Boot.«zip» (PyProof.Rows.callWith_type1 (cM (ha pos pins s σ H _ I h) λus s1 ⟨vs,H1,I1,r1,q1⟩=>?_) hs hp))
 obtain ⟨a,b,xs,ys,e,hqa,hqb,q⟩:=q1
 subst e
 cases r1 with
 | cons r rr =>
  cases rr with
  | cons r' rr' =>
   cases rr'
   cases r
   cases r'
   obtain ⟨its,rv,pl,hz⟩:=I1.list hqa
   obtain ⟨jts,ru,pl',hz'⟩:=I1.list hqb
   refine call_zip_2 pl.isList pl'.isList λh' b1 b2 b3 b4 b5 b6 hk=>?_
   refine wpAny_pyIter_zip b1 ?_
   have la:a < s1.heap.objs.size:=by obtain ⟨o,e,_⟩:=pl.isList;exact Heap.lt_size e
   have lb:b < s1.heap.objs.size:=by obtain ⟨o,e,_⟩:=pl'.isList;exact Heap.lt_size e
   have D:ZipApart (s1.heap.objs.size + 4) (s1.heap.objs.size + 2) (s1.heap.objs.size + 3) s1.heap.objs.size (s1.heap.objs.size + 1) a b:=by
    have la':@LT.lt Nat _ a s1.heap.objs.size:=la
    have lb':@LT.lt Nat _ b s1.heap.objs.size:=lb
    constructor <;> (show @Ne Nat _ _;omega)
   refine ⟨_,_,_,_,H1,rfl,I1.kept (t':=s1.toks) hk,HB D,⟨b1,b2,⟨_,_,b3⟩,b4,b5⟩,λc hc=>?_,q⟩
   have hc':s1.heap.objs.size≤c:=by
    simp only [UH,UU,or_false] at hc
    show @LE.le Nat _ _ _
    rcases hc with rfl | rfl | rfl | rfl | rfl
    ·exact Vy _ _
    ·exact Vy _ _
    ·exact Vy _ _
    ·exact UC _
    ·exact Vy _ _
   exact I1.Fe hc' (I1.hok.fresh hc')
end
end L2
namespace Ov
open PySem PySem.Spec PyProof.Rows
open L2 (V HO Hp Inv Cx VK XK TE TT TA TS TG mF TI TO gw Ends rL Loc Gl Rd RelV Vals fw qO bS nj oY md gu R2 upd aZ aW dY f' Sp nA It cA b7 bR Passes ma aK Meth Mk Binds aS bU aw c4 fe dR)
section
variable {X:Cx} {G:G2}
def TR (ta:p8):rK:=λτ J R=>ta τ J λvs J1=>MR vs λx y=>vo (kB J1 x) λxs=>vo (kB J1 y) λys=>R ⟨(xs.zip ys).map λp=>.tup [p.1,p.2],λJ'=>kB J' x=some xs∧kB J' y=some ys⟩ J1
theorem Np {l m:Expr} {elts:List Expr} {x1} {tp:Pos} {ta:p8} {p pos:Pos} (hg:Gl X "zip") (hm:X.mg "zip"=none) (ha:RA X G [l,m] ta) (hs:starEach [l,m] X.env=(false,eval l X.env) :: starEach [m] X.env:=by rfl) (hp:(backTo pos (starEach [m] X.env)).any (·.1)=false:=by rfl) :
  RI X G (.Tuple elts x1 tp) (.Call (.Name "zip" p) [l,m] [] pos) (TR ta):=⟨PZ (L2.M7 hg hm ha.run hs hp) λσ H R ⟨τ,J,R2,a2,h,k⟩=>⟨τ,J,_,a2,h,λvs J1 us H1 rs r1 e1 hh=>by
 obtain ⟨x,y,ev,hh⟩:=AN hh;obtain ⟨xs,hx,hh⟩:=eh hh;obtain ⟨ys,hy,q⟩:=eh hh
 subst ev
 obtain ⟨v,us',rfl,rv,v',us'',rfl,rv',e'⟩:=rs
 cases e'
 obtain ⟨a,ws,rfl,h1,h2⟩:=mL hx rv r1
 obtain ⟨b,ws',rfl,h1',h2'⟩:=mL hy rv' r1
 refine ⟨a,b,ws,ws',rfl,h1,h1',k _ J1 _ H1 ?_ r1 e1 q⟩
 have at_:∀J' H',Ext X.K J1 H1 J' H'→Rep X.K J' H'→kB J' x=some xs∧kB J' y=some ys→∃vs us,dY X.K H' a vs∧aY X.K J' H' xs vs∧dY X.K H' b us∧aY X.K J' H' ys us:=λJ' H' e r o=>by
  obtain ⟨c,vs,eb,g1,g2⟩:=mL o.1 (e.rep rv) r
  cases eb
  obtain ⟨c',us,eb,g1',g2'⟩:=mL o.2 (e.rep rv') r
  cases eb
  exact ⟨vs,us,g1,g2,g1',g2'⟩
 exact {
  go:=λJ' H' e r o i hi=>by
   obtain ⟨vs,us,s,rs,s',rs'⟩:=at_ J' H' e r o
   rw [Us,Ws] at hi
   have i1:i < vs.length:=by rw [← rs.length];omega
   have i2:i < us.length:=by rw [← rs'.length];omega
   exact ⟨vs,us,vs[i],us[i],s,s',Ut i1,Ut i2⟩
  yl:=λJ' H' e r o i hi v H2 y=>by
   obtain ⟨vs,us,s,rs,s',rs'⟩:=at_ J' H' e r o
   obtain ⟨T,z,z',hT,rfl,rfl,y1,y2⟩:=y
   obtain ⟨c,ec,rc⟩:=rs.get' (y1 vs s)
   obtain ⟨c',ec',rc'⟩:=rs'.get' (y2 us s')
   have sm:=cA.new hT (.tup [z,z'])
   have e2:=Ext.same (K:=X.K) (J:=J') sm
   refine ⟨.tup [c,c'],?_,⟨T,[z,z'],rfl,.inl (.inl aZ),e2.jC ⟨z,_,rfl,rc,z',_,rfl,rc',rfl⟩⟩,r.same sm,e2⟩
   rw [Uw,(Vr (z:=(c,c'))).mpr ⟨ec,ec'⟩];rfl
  stop:=λJ' H' e r o=>by
   obtain ⟨vs,us,s,rs,s',rs'⟩:=at_ J' H' e r o
   refine ⟨vs,us,s,s',?_⟩
   rw [Us,Ws,← rs.length,← rs'.length]
   omega }⟩⟩
end
end Ov
namespace L2
open PySem PySem.Spec PyProof.Rows
section
variable {α β:Type}
def fA (kvs:List (Str × α)) (k:Str):Option α:=(kvs.find? λkv=>decide (kv.1=k)).map (·.2)
def lR (kvs:List (Str × α)) (k:Str) (v:α):List (Str × α):=if kvs.any (λkv=>decide (kv.1=k)) then kvs.map (λkv=>if kv.1=k then (kv.1,v) else kv) else kvs ++ [(k,v)]
def yE (kvs:List (Str × α)) (k:Str):List (Str × α):=kvs.filter λkv=>decide (kv.1≠k)
theorem lA (p:Str × α) (r:List (Str × α)) (k:Str):fA (p :: r) k=if p.1=k then some p.2 else fA r k:=by
 unfold fA
 rw [List.find?_cons]
 by_cases h:p.1=k <;> simp [h]
theorem Cs (kvs:List (Str × α)) (k:Str) (v:α):(lR kvs k v).length≤kvs.length + 1:=by
 unfold lR;split <;> simp
theorem Iw (kvs:List (Str × α)) (k:Str):(yE kvs k).length≤kvs.length:=VC _ _
abbrev nq (R:α→β→Prop):List (Str × α)→List (Str × β)→Prop:=Paired λp q=>p.1=q.1∧R p.2 q.2
variable {R:α→β→Prop}
theorem nq.va {kvs:List (Str × α)} {vs:List (Str × β)} (h:nq R kvs vs) (k:Str):(∀x,fA kvs k=some x→∃y,fA vs k=some y∧R x y)∧(fA kvs k).isSome=(fA vs k).isSome:=by
 induction h with
 | nil=>exact ⟨λx e=>by simp [fA] at e,rfl⟩
 | @cons p q kvs vs r _ ih =>
  rw [lA,lA,← r.1]
  by_cases e:p.1=k
  ·rw [if_pos e,if_pos e];exact ⟨λx z=>by cases z;exact ⟨_,rfl,r.2⟩,rfl⟩
  ·rw [if_neg e,if_neg e];exact ih
theorem nq.any {kvs:List (Str × α)} {vs:List (Str × β)} (h:nq R kvs vs) (k:Str):(kvs.any λkv=>decide (kv.1=k))=vs.any λkv=>decide (kv.1=k):=by
 induction h with
 | nil=>rfl
 | cons r _ ih=>rw [VO,VO,ih,r.1]
theorem nq.snoc {kvs:List (Str × α)} {vs:List (Str × β)} (h:nq R kvs vs) {k:Str} {x:α} {y:β} (r:R x y):nq R (kvs ++ [(k,x)]) (vs ++ [(k,y)]):=by
 induction h with
 | nil=>exact .cons ⟨rfl,r⟩ .nil
 | cons q _ ih=>exact .cons q ih
theorem nq.pu {kvs:List (Str × α)} {vs:List (Str × β)} (h:nq R kvs vs) {k:Str} {x:α} {y:β} (r:R x y):nq R (lR kvs k x) (lR vs k y):=by
 unfold lR
 rw [h.any k]
 split
 ·rename_i hany;clear hany
  induction h with
  | nil=>exact .nil
  | @cons p q kvs vs z _ ih =>
   rw [UA,UA]
   refine .cons ?_ ih
   by_cases e:p.1=k
   ·rw [if_pos e,if_pos (z.1 ▸ e)];exact ⟨z.1,r⟩
   ·rw [if_neg e,if_neg (z.1 ▸ e)];exact z
 ·exact h.snoc r
theorem nq.dr {kvs:List (Str × α)} {vs:List (Str × β)} (h:nq R kvs vs) (k:Str):nq R (yE kvs k) (yE vs k):=by
 unfold yE
 induction h with
 | nil=>exact .nil
 | @cons p q kvs vs z _ ih =>
  rw [U0,U0,z.1]
  split
  ·exact .cons z ih
  ·exact ih
theorem nq.len {kvs:List (Str × α)} {vs:List (Str × β)} (h:nq R kvs vs):kvs.length=vs.length:=Paired.length h
theorem nq.keys {kvs:List (Str × α)} {vs:List (Str × β)} (h:nq R kvs vs):kvs.map (·.1)=vs.map (·.1):=by
 induction h with
 | nil=>rfl
 | cons r _ ih=>rw [UA,UA,ih,r.1]
end
theorem p7 (vs:List (Str × Value)) (k:Str):valueAt vs k=fA vs k:=rfl
theorem str_is {P:Program} {w:World} {k:Str} {u:Value} (r:RelV (.str k) u):(PySem.strKind P w).is k u=true:=by
 obtain ⟨t,rfl⟩:=r
 simp [PySem.strKind,Value.isStrOf]
theorem FE {P:Program} {w:World} {k:Str} {u:Value} (h:(PySem.strKind P w).is k u=true):RelV (.str k) u:=Value.isStrOf_shape h
section
variable {X:Cx} {pins:List (Addr × Obj)} {σ:St} {H:Hp} {s:Shared} {a:Addr} {A:Around} {E:Value→Shared→Prop} {kvs:List (Str × V)} {ep:Nat}
theorem jS (I:Inv X pins σ H s) (e:H a=some (.dE kvs ep)):kvs.length≤sizeLine∧(a == sysModules)=false∧∃vs,nq RelV kvs vs∧s.heap.DictAt (PySem.strKind X.prog X.w) a vs ep:=I.hok a _ e
theorem rS {h':Heap} {t':Nat} {kvs':List (Str × V)} {vs':List (Str × Value)} (I:Inv X pins σ H s) (e:H a=some (.dE kvs ep)) (hs:Heap.SameBut a s.heap h') (hz:kvs'.length≤sizeLine) (hd:(a == sysModules)=false) (rel:nq RelV kvs' vs') (dd:h'.DictOf (PySem.strKind X.prog X.w) a vs') :
  ∃ep',Inv X pins σ (upd H a (.dE kvs' ep')) { s with heap:=h',toks:=t' }:=by
 obtain ⟨ep',da⟩:=dd.dictAt
 refine ⟨ep',I.write (x:=a) (e:=a) (by rw [e];exact True.intro) (.inl rfl) (λb q hb z=>(hs.2 b hb).trans z) (let ⟨q,_,_,hq,_⟩:=dd;⟨q,hq⟩) ⟨hz,hd,vs',rel,da⟩⟩
theorem Inv.ON (I:Inv X pins σ H s):sysModules < s.heap.objs.size:=by
 have h:mainGlobals < s.heap.objs.size:=(I.mod.glob.keeps I.bk).lt
 exact Nat.lt_trans (by decide) h
end
theorem DL {P:Program} {w:World} {kvs:List (Str × V)} {vs:List (Str × Value)} (rel:nq RelV kvs vs):∀{us:List Value},us.length=kvs.length→(∀(j:Nat) (v:Value),us[j]?=some v→∃k x,vs[j]?=some (k,x)∧(PySem.strKind P w).is k v=true)→Vals (kvs.map λkv=>V.str kv.1) us:=by
 induction rel with
 | nil =>
  intro us hlen _
  cases us with
  | nil=>exact .nil
  | cons _ _=>cases hlen
 | @cons p q kvs vs z _ ih =>
  intro us hlen hget
  cases us with
  | nil=>cases hlen
  | cons u us =>
   rw [UA]
   refine .cons ?_ (ih (by simpa using hlen) λj v e=>?_)
   ·obtain ⟨k,x,e1,e2⟩:=hget 0 u rfl
    rw [VQ] at e1
    cases e1
    rw [z.1];exact FE e2
   ·obtain ⟨k,x,e1,e2⟩:=hget (j + 1) v (by rw [Vv];exact e)
    rw [Vv] at e1
    exact ⟨k,x,e1,e2⟩
def Sy:R2:=λx y H Q=>∃a kvs ep k v,x=.ref a∧y=.str k∧H a=some (.dE kvs ep)∧fA kvs k=some v∧Q v H
def Ni (f:Bool→Bool):R2:=λx y H Q=>∃a kvs ep k,x=.str k∧y=.ref a∧H a=some (.dE kvs ep)∧Q (.bl (f (fA kvs k).isSome)) H
def Ql:List V→Hp→VK→Prop:=λxs H Q=>∃a kvs ep,xs=[.ref a]∧H a=some (.dE kvs ep)∧Q (.int kvs.length) H
def Nj:List V→Hp→VK→Prop:=λxs H Q=>∃a kvs ep,xs=[.ref a]∧H a=some (.dE kvs ep)∧∀p,H p=none→Q (.ref p) (upd H p (.lst (kvs.map λkv=>.str kv.1)))
def Qq:V→List V→Hp→VK→Prop:=λx xs H Q=>∃a kvs ep k v,x=.ref a∧xs=[.str k]∧H a=some (.dE kvs ep)∧fA kvs k=some v∧∀ep',Q v (upd H a (.dE (yE kvs k) ep'))
def Qs:gw:=λo i v H Q=>∃a kvs ep k,o=.ref a∧i=.str k∧H a=some (.dE kvs ep)∧kvs.length < sizeLine∧∀ep',Q (upd H a (.dE (lR kvs k v) ep'))
def QF:TE:=λ_ H Q=>∀p,H p=none→∀ep,Q (.ref p) (upd H p (.dE [] ep))
section
variable {X:Cx}
theorem O3:nj X Sy:=by
 intro value slice pins s σ H x y v u Q I rx ry q hs
 obtain ⟨a,kvs,ep,k,z,rfl,rfl,hp,hz,q⟩:=q
 cases rx
 obtain ⟨_,hd,vs,rel,da⟩:=jS I hp
 have hT:s.TypeIs (.ref a) "dict":=da.dictOf.typeIs
 obtain ⟨w',hw,rw'⟩:=(rel.va k).1 z hz
 unfold subscriptTail
 refine wpAny_bind ?_
 rw [getitemInPython_of_ne hT.not_modules]
 refine wpAny_bind (wpAny_specialOf hT PySem.F.slot_dict_getitem.lookup ?_)
 have fin:wpAny (model X.prog X.w) X.A (subscripted slice false (.ref a) u) (λr s₃=>wpAny (model X.prog X.w) X.A (letTemporaryGo value (.ref a) r >>= λ_=>pure r) (EP X pins σ Q) X.xe s₃) X.xe s:=by
  rw [hs]
  exact wpAny_operating (wpAny_getItem_of (str_is ry) da.dictOf.mapOf hw (wpAny_bind (wpAny_letTemporaryGo (wpAny_pure ⟨z,H,I.tok _,rw',q⟩))))
 first
  | exact wpAny_pure (wpAny_bind fin)
  | exact wpAny_bind (wpAny_pure (wpAny_bind fin))
  | exact wpAny_bind fin
theorem MV:fw X (compareOp .In) (Ni id):=by
 intro pins s σ H x y v u Q I rx ry ⟨a,kvs,ep,k,ex,ey,hp,q⟩
 subst ex ey
 cases ry
 obtain ⟨_,hd,vs,rel,da⟩:=jS I hp
 refine wpAny_in_of (str_is rx) hd da.dictOf.mapOf ?_
 exact ⟨.bl _,H,I.tok _,by rw [p7,← (rel.va k).2];rfl,q⟩
theorem Eg:fw X (compareOp .NotIn) (Ni not):=by
 intro pins s σ H x y v u Q I rx ry ⟨a,kvs,ep,k,ex,ey,hp,q⟩
 subst ex ey
 cases ry
 obtain ⟨_,hd,vs,rel,da⟩:=jS I hp
 refine wpAny_notIn_of (str_is rx) hd da.dictOf.mapOf ?_
 exact ⟨.bl _,H,I.tok _,by rw [p7,← (rel.va k).2];rfl,q⟩
theorem Ah:bS X (.builtin "len") Ql:=by
 intro pins s σ H xs us Q I r ⟨a,kvs,ep,ex,hp,q⟩
 subst ex
 obtain ⟨u,rfl,ru⟩:=vals1 r
 cases ru
 obtain ⟨hz,hd,vs,rel,da⟩:=jS I hp
 have hl:=rel.len
 refine call_len_dict hd da.dictOf (by rw [← hl];rw [sizeLine_eq] at hz;omega) ?_
 rw [← hl]
 exact ⟨.int _,H,(I.tok _),⟨_,rfl⟩,q⟩
theorem yz (hc:X.calm=true):bS X (.type "list") Nj:=by
 intro pins s σ H xs us Q I r ⟨a,kvs,ep,ex,hp,q⟩
 subst ex
 obtain ⟨u,rfl,ru⟩:=vals1 r
 cases ru
 obtain ⟨hz,hd,vs,rel,da⟩:=jS I hp
 have hl:=rel.len
 refine PySem.W.kdl_call (PySem.W.kdl_dict (knd:=PySem.strKind X.prog X.w) (kvs:=vs) (ep:=ep) hd) (I.ok.hd hc) da (by rw [← hl];exact hz) λh' tk acc c hk hS hacc=>?_
 have hkeys:Vals (kvs.map λkv=>V.str kv.1) acc.toList:=by
  have hlen:acc.toList.length=kvs.length:=by rw [Array.length_toList,hacc.1,hl]
  have hget:∀j v,acc.toList[j]?=some v→∃k x,vs[j]?=some (k,x)∧(PySem.strKind X.prog X.w).is k v=true:=λj v e=>hacc.2 j v (by rw [← Array.getElem?_toList];exact e)
  exact DL rel hlen hget
 have I2:Inv X pins σ (upd H s.heap.objs.size (.lst (kvs.map λkv=>V.str kv.1))) { s with heap:=h',toks:=tk } :=
  I.laid (t':=tk) hk (UC _) (show dH X.prog X.w _ _ _ (.lst _) from ⟨by rw [Us];exact hz,acc.toList,c,hkeys,by rw [Array.toArray_toList];exact hS⟩)
 exact ⟨.ref s.heap.objs.size,_,I2,rfl,q _ (I.hok.fresh (UC _))⟩
theorem IW:md X "dict.pop" Qq:=by
 intro pins s σ H x xs v us Q I rx r ⟨a,kvs,ep,k,z,ex,exs,hp,hv,q⟩
 subst ex exs
 cases rx
 obtain ⟨u,rfl,ru⟩:=vals1 r
 obtain ⟨hz,hd,vs,rel,da⟩:=jS I hp
 obtain ⟨w',hw,rw'⟩:=(rel.va k).1 z hv
 have hpart:(keyPart u).isSome=true:=by obtain ⟨t,q⟩:=(show ∃t,u=Value.str k t from ru);subst q;rfl
 refine call_meetsIn PySem.F.slot_dict_pop da.dictOf.typeIs PySem.F.entry_dict_pop (PySem.F.args_dict_pop_2 _ _) (meets_dict_pop_there (PySem.strKind X.prog X.w) a (str_is ru) [] (.inl rfl) hpart)
  ⟨vs,w',da.dictOf,by rw [← rel.len];exact hz,hw,λh' dd' hs=>?_⟩
 obtain ⟨ep',I2⟩:=rS (t':=s.toks + 1) I hp hs (UM (Iw kvs k) hz) hd (rel.dr k) dd'
 exact ⟨z,_,I2,rw',q ep'⟩
theorem NA:gu X Qs:=by
 intro pins s σ H o i v ov iv u Q I ro ri rv ⟨a,kvs,ep,k,eo,ei,hp,hl,q⟩
 subst eo ei
 cases ro
 obtain ⟨hz,hd,vs,rel,da⟩:=jS I hp
 refine wpAny_setItem_pairs (hsz:=by rw [← rel.len];exact hz) (str_is ri) da.dictOf λh' dd' hs=>?_
 obtain ⟨ep',I2⟩:=rS (t':=s.toks + 1) I hp hs (show (lR kvs k v).length≤sizeLine from UM (Cs kvs k v) hl) hd (rel.pu rv) dd'
 exact ⟨_,I2,q ep'⟩
theorem Js {pos:Pos}:PE X (.Dict [] [] pos) QF:=λpins s σ H Q I h=>by
 have hd:(s.heap.push { cls:=.type "dict",data:=.dict #[] }).DictOf (PySem.strKind X.prog X.w) s.heap.objs.size []:=Heap.DictOf.new s.heap
 obtain ⟨ep,da⟩:=hd.dictAt
 exact wpAny_Dict_empty ⟨.ref s.heap.objs.size,_,I.laid (a:=s.heap.objs.size) (o:=.dE [] ep) (t':=s.toks) (λ_ _ q=>Heap.get?_push_of_some _ q) (UC _)
  ⟨Vb _,beq_eq_false_iff_ne.mpr (Ne.symm (UW I.ON)),[],.nil,da⟩,rfl,h _ (I.hok.fresh (UC _)) ep⟩
end
def Tr (a:Addr) (ks:List Str) (ep:Nat):It :=
 ⟨λi H=>(∃kvs,H a=some (.dE kvs ep)∧kvs.map (·.1)=ks)∧i < ks.length,
  λi H z H'=>H'=H∧∃k,ks[i]?=some k∧z=.str k,
  λi H=>(∃kvs,H a=some (.dE kvs ep)∧kvs.map (·.1)=ks)∧ks.length≤i⟩
theorem EA {P:Program} {w:World} {K:PySem.W.Frag} {tg:Expr} (a it:Addr) (ks:List Str) (ep:Nat):Turn P w K tg (Tr a ks ep) [it] it (λi h=>h.IsKeyIter it a i ks.length ep) where
 mem:=by simp
 obj:=λi h st b hb=>by
  have e:b=it:=by simpa using hb
  subst e
  obtain ⟨o,e,c,d⟩:=st
  exact ⟨o,e,λv z=>by rw [d] at z;cases z⟩
 keep:=λi h h' st k=>st.at λo e=>k it (by simp) o e
 item:=by
  intro X hP hw hK hc i pins s σ H E I hf st hg
  subst hP hw hK
  obtain ⟨⟨kvs,hp,hks⟩,hi⟩:=hg
  obtain ⟨hz,hd,vs,rel,da⟩:=jS I hp
  have hl:ks.length=vs.length:=by rw [← hks,Us];exact rel.len
  obtain ⟨f0,f1,f2,f3,f4,f5⟩:=hf it (by simp)
  obtain ⟨⟨k,x⟩,hx⟩:∃p,vs[i]?=some p:=⟨vs[i]'(by omega),Ut (by omega)⟩
  have hk:ks[i]?=some k:=by rw [← hks,rel.keys,Uw,hx];rfl
  refine wpAny_pyNext_dict_item (by rw [← hl];exact st) da hx λkey h' hkey st' sb=>?_
  rw [← hl] at st'
  have I1:Inv X pins σ H { s with heap:=h' }:=I.turned (t':=s.toks) (λb o hb e=>(sb.2 b hb).trans e) f0 f1 f3 f4 f5
  obtain ⟨o,e,c,d⟩:=id st'
  exact ⟨key,rfl,Fp (s:={ s with heap:=h' }) e c d (by decide) ⟨.str k,H,I1,FE hkey,⟨rfl,k,hk,rfl⟩,st',λb hb=>(hf b hb).1⟩⟩
 done:=by
  intro X hP hw hK hc i pins s σ H E I hf st hg
  subst hP hw hK
  obtain ⟨⟨kvs,hp,hks⟩,hi⟩:=hg
  obtain ⟨hz,hd,vs,rel,da⟩:=jS I hp
  have hl:ks.length=vs.length:=by rw [← hks,Us];exact rel.len
  obtain ⟨f0,f1,f2,f3,f4,f5⟩:=hf it (by simp)
  refine wpAny_pyNext_dict_end (I.ok.hd hc) (by rw [← hl];exact st) da (by rw [Wc];omega) λh' hk=>⟨rfl,I.turned (t':=s.toks) (λb o hb e=>hk b o hb e) f0 f1 f3 f4 f5⟩
 self:=λ_ _ _ _ _ st h=>wpAny_pyIter_keyiter st h
def OY (td:TE):TI:=λσ H R=>td σ H λx H1=>∃a kvs ep,x=.ref a∧H1 a=some (.dE kvs ep)∧R (Tr a (kvs.map (·.1)) ep) H1
theorem Jt {X:Cx} {tg l:Expr} {tl:TE} (hl:PE X l tl):PI X tg l (OY tl):=by
 intro pins s σ H R I h
 refine cM (hl pins s σ H _ I h) λv s1 ⟨x,H1,I1,r1,q1⟩=>?_
 obtain ⟨a,kvs,ep,e,hp,q⟩:=q1
 subst e
 cases r1
 obtain ⟨hz,hd,vs,rel,da⟩:=jS I1 hp
 refine wpAny_pyIter_dict hd da ?_
 refine ⟨s1.heap.objs.size,[s1.heap.objs.size],_,_,H1,rfl,I1.kept (t':=s1.toks) λb o e=>Heap.get?_push_of_some _ e,EA a _ (kvs.map (·.1)) ep,⟨_,Heap.get?_push_size _ rfl,rfl,by rw [Us,rel.len];rfl⟩,λb hb=>?_,q⟩
 have e:b=s1.heap.objs.size:=by simpa using hb
 subst e
 exact I1.Fe (UC _) (I1.hok.fresh (UC _))
end L2
namespace Ov
open PySem PySem.Spec PyProof.Rows L2
section
variable {prog:Program} {w:World} {A:Around} {R:Result→Shared→Prop} {s:Shared}
theorem Av {kx vx iter:Expr} {ifs:List Expr} {x:Str} {px:Pos} {sc:Scope} {pos:Pos} {it:Value} {D:Addr} {env:Env} (I:Nat→Shared→Prop)
  (turn:∀n s,I n s→wpAny (model prog w) A (pyNext it) (λr s₁=>match r with
   | none=>R (.ok .next) s₁
   | some v=>wpAny (model prog w) A (letOwnedTupleGo (.Name x px) it v) (λ_ s₂=>wpAny (model prog w) A (assign (.Name x px) env v) (λ_ s₃=>wpAny (model prog w) A (forIn ifs true λc r=>if r=true then do let ok ← isTrue c env (eval c env);pure (ForInStep.yield ok) else pure (ForInStep.yield r)) (λok s₃=>if ok=true then wpAny (model prog w) A (eval kx env) (λkv s₄ =>
     wpAny (model prog w) A (eval vx env) (λvv s₅=>wpAny (model prog w) A (dictSet D kv vv) (λ_ s₅=>∃m,m < n∧I m s₅) (λ_ _=>False) s₅) (λ_ _=>False) s₄) (λ_ _=>False) s₃ else ∃m,m < n∧I m s₃) (λ_ _=>False) s₃) (λ_ _=>False) s₂) (λ_ _=>False) s₁) (λ_ _=>False) s)
  (n:Nat) (h:I n s):codeAny (model prog w) A (.compLoop (.DictComp kx vx [⟨.Name x px,iter,ifs,0⟩] sc pos) 0 it (.ref D) env) R s:=by
 refine codeAny_loop rfl I (λn s hI=>?_) n h
 show wpAny _ _ ((compTurn (.DictComp kx vx [⟨.Name x px,iter,ifs,0⟩] sc pos) 0 it (.ref D) env).onRaise (λx=>do noteFrame x env;theTreesLotGoes x)) _ _ s
 refine wpAny_noted ?_
 rw [compTurn_dict]
 have no:∀(e:Value) (s':Shared),False→notedBy (model prog w) A env (λe s'=>R (.error e) s') e s':=λ_ _ z=>z.elim
 refine wpAny_bind (wpAny_standAt (wpAny_bind (wpAny_mono (turn n s hI) (λr s₁ h₁=>?_) no)))
 cases r with
 | none=>exact wpAny_pure h₁
 | some v =>
  refine wpAny_bind (wpAny_mono h₁ (λ_ s₂ h₂=>?_) no)
  refine wpAny_bind (wpAny_mono h₂ (λ_ s₃ h₃=>wpAny_bind (wpAny_mono h₃ (λok s₃' h₃'=>?_) no)) no)
  cases ok with
  | false=>exact wpAny_pure ⟨rfl,h₃'⟩
  | true =>
   exact wpAny_bind (wpAny_bind (wpAny_mono h₃' (λkv s₄ h₄=>wpAny_bind (wpAny_holding (wpAny_mono h₄ (λvv s₅ h₅=>wpAny_bind (wpAny_standAt (wpAny_holding (wpAny_mono h₅ (λ_ s₆ h₆=>wpAny_pure ⟨rfl,h₆⟩) no)))) no))) no))
end
def SR (wi:TI) (ks:List (Str × Nat)) (tc:TT) (tk te:TE):TE:=λσ H Q=>wi σ H λJ H1=>∀D,H1 D=none→∀ep,∃W:Nat→Nat→Hp→Prop,(∃m,W 0 m (upd H1 D (.dE [] ep))) ∧
 ∀i m H2,W i m H2→(J.stop i H2∧Q (.ref D) H2)∨(J.go i H2∧∀v H3,J.yld i H2 v H3→tc (some v :: fP ks σ) H3 λb H4=>if b=true then tk (some v :: fP ks σ) H4 λy H5=>te (some v :: fP ks σ) H5 λz H6=>∃kvs ep k,y=.str k∧H6 D=some (.dE kvs ep)∧kvs.length < sizeLine∧∃m',m' < m∧∀ep',W (i + 1) m' (upd H6 D (.dE (L2.lR kvs k z) ep')) else ∃m',m' < m∧W (i + 1) m' H4)
section
variable {X:Cx}
theorem vC {kx vx iter:Expr} {ifs:List Expr} {x:Str} {px:Pos} {sc:Scope} {pos:Pos} {tk te:TE} {tc:TT} {ks:List (Str × Nat)} {cl:List (Str × Addr)} {pins:List (Addr × Obj)} {σ:L2.St} {H:Hp} {s:Shared} {it:Addr} {fp:List Addr} {tn:Nat→Heap→Prop} {J:It} {Q:VK}
  {RR:Value→Addr→Result→Shared→Prop} {E:Value→Shared→Prop}
  (hc:X.calm=true) (ok:cX sc X.env.scope X.N x ks) (h1:∀y c,cl.lookup y=some c→X.env.cells.lookup y=some c) (h2:∀y∈sc.names,y.2=.free→∃c,cl.lookup y.1=some c)
  (hk:∀cl C s₀ H₀ fp pins,PE (fW X sc cl C x ks s₀ H₀ fp pins) kx tk) (he:∀cl C s₀ H₀ fp pins,PE (fW X sc cl C x ks s₀ H₀ fp pins) vx te) (hcn:∀cl C s₀ H₀ fp pins,HH (fW X sc cl C x ks s₀ H₀ fp pins) ifs tc)
  (I:Inv X pins σ H s) (T:Turn X.prog X.w X.K (.Name x px) J fp it tn) (st:tn 0 s.heap) (f:∀b∈fp,l5 X pins H b)
  (hw:∀D,H D=none→∀ep,∃W:Nat→Nat→Hp→Prop,(∃m,W 0 m (upd H D (.dE [] ep)))∧∀i m H2,W i m H2→(J.stop i H2∧Q (.ref D) H2) ∨
   (J.go i H2∧∀v H3,J.yld i H2 v H3→tc (some v :: fP ks σ) H3 λb H4=>if b=true then tk (some v :: fP ks σ) H4 λy H5=>te (some v :: fP ks σ) H5 λz H6=>∃kvs ep k,y=.str k∧H6 D=some (.dE kvs ep)∧kvs.length < sizeLine∧∃m',m' < m∧∀ep',W (i + 1) m' (upd H6 D (.dE (L2.lR kvs k z) ep')) else ∃m',m' < m∧W (i + 1) m' H4))
  (hR:∀(D C:Addr) (s':Shared) (H':Hp) (m:Str→Option Value),Inv X pins σ H' s'→Q (.ref D) H'→s'.heap.Ns C m→H' C=none→C≠X.env.locals→X.s₀.heap.objs.size≤C→(∀y c,X.env.cells.lookup y=some c→c≠C)→(∀p∈X.pn ++ pins,p.1≠C)→RR (.ref D) C (.ok .next) s') :
  wpAny (model X.prog X.w) X.A newDict (λacc s₃=>wpAny (model X.prog X.w) X.A (newFunctionEnv sc X.env.globals cl [] X.env.qual none .none (some X.env)) (λcenv s₄ =>
   codeAny (model X.prog X.w) X.A (.compStart (.DictComp kx vx [⟨.Name x px,iter,ifs,0⟩] sc pos) 0 (.ref it) acc { cenv with scope:=relabel sc X.env }) (RR acc cenv.locals) s₄) E s₃) E s:=by
 have okk:=ok
 obtain ⟨kd,nc,lx,ll,fr,kk,nd⟩:=okk
 have hD0:H s.heap.objs.size=none:=I.hok.fresh (UC _)
 have hdd:(s.heap.push { cls:=.type "dict",dict:=none,data:=.dict #[] }).DictOf (PySem.strKind X.prog X.w) s.heap.objs.size []:=Heap.DictOf.new s.heap
 obtain ⟨ep0,da⟩:=hdd.dictAt
 obtain ⟨W,⟨m0,w0⟩,turn⟩:=hw s.heap.objs.size hD0 ep0
 refine wpAny_newObj_type ?_
 have I3:Inv X pins σ (upd H s.heap.objs.size (.dE [] ep0)) { s with heap:=s.heap.push { cls:=.type "dict",dict:=none,data:=.dict #[] } } :=
  I.laid (t':=s.toks) (λb u e=>Heap.get?_push_of_some _ e) (UC _) ⟨Vb _,beq_eq_false_iff_ne.mpr (Ne.symm (UW I.ON)),[],.nil,da⟩
 have st3:tn 0 (s.heap.push { cls:=.type "dict",dict:=none,data:=.dict #[] }):=T.keep 0 _ _ st λb hb o e=>Heap.get?_push_of_some _ e
 clear da hdd
 generalize hD:s.heap.objs.size=D at *
 generalize hH:upd H D (.dE [] ep0)=H3 at *
 generalize hs3:({ s with heap:=s.heap.push { cls:=.type "dict",dict:=none,data:=.dict #[] } }:Shared)=s3 at *
 have e3:s.heap.push { cls:=.type "dict",dict:=none,data:=.dict #[] }=s3.heap:=by rw [← hs3]
 rw [e3] at st3
 have fD:∀b∈fp,b≠D:=λb hb z=>by
  obtain ⟨o,ho,_⟩:=T.obj 0 _ st b hb
  have:=Heap.lt_size ho
  rw [z,← hD] at this
  exact Vm _ this
 have f3:∀b∈fp,l5 X pins H3 b:=λb hb=>⟨by rw [← hH,aW (fD b hb)];exact (f b hb).1,(f b hb).2⟩
 have g3:∀b∈fp,∃o,s3.heap.get? b=some o:=λb hb=>by
  obtain ⟨o,ho,_⟩:=T.obj 0 _ st3 b hb
  exact ⟨o,ho⟩
 refine wpAny_newFunctionEnv nc (by intro y hy;simp at hy) (λh₁ hns hsb=>?_) kd
 have kp:∀b o,s3.heap.get? b=some o→h₁.get? b=some o:=λb o e=>hsb.extBut b o (UW (Heap.lt_size e)) (Heap.get?_push_of_some _ e)
 have J0:=yL (fp:=fp) (cl:=cl) (t':=s3.toks + ([]:List (Str × Value)).length) I3 ok h1 h2 (λb hb=>⟨f3 b hb,g3 b hb⟩) hns kp
 have st4:tn 0 h₁:=T.keep 0 _ _ st3 λb hb o e=>kp b o e
 have ltC:∀b o,s3.heap.get? b=some o→b≠s3.heap.objs.size:=λb o e=>UW (Heap.lt_size e)
 have cC:∀y c,X.env.cells.lookup y=some c→c≠s3.heap.objs.size:=λy c e=>by
  obtain ⟨v,o,ho,_⟩:=I3.cell y c e
  exact ltC c o ho
 have pC:∀p∈X.pn ++ pins,p.1≠s3.heap.objs.size:=λp hp=>ltC _ _ (I3.pin p hp).1
 have lC:s3.heap.objs.size≠X.env.locals:=Wm I3.lt
 have fX:∀{H':Hp},(∀b∈fp,H' b=none)→∀b∈fp,l5 (fW X sc cl s3.heap.objs.size x ks s3 H3 fp pins) [] H' b:=λhn b hb=>by
  obtain ⟨o,ho⟩:=g3 b hb
  obtain ⟨_,q1,q2,q3,q4,q5⟩:=f b hb
  refine ⟨hn b hb,ltC b o ho,λz=>?_,.inl hb,λy c e=>q4 y c (h1 y c e),λp hp=>q5 p (by simpa [fW] using hp)⟩
  rcases UH.mp (I3.p5 b z) with e | e
  ·exact q1 e
  ·exact q2 e
 have back:∀{o:Option V} {H':Hp} {s':Shared},Inv (fW X sc cl s3.heap.objs.size x ks s3 H3 fp pins) [] (o :: fP ks σ) H' s'→Inv X pins σ H' s':=λ{o H' s'} J=>by
  obtain ⟨hh,g,d,t,os'⟩:=s'
  obtain rfl:os'=s3.os:=J.os
  exact I3.call (h':=hh) (g':=g) (d':=d) (t':=t) (ch:=fp) J.base J.hok J.bare λb hb=>⟨(f b hb).2.2.2.1,(f b hb).2.1,(f b hb).2.2.2.2.1,(f b hb).2.2.2.2.2⟩
 have lookX:(relabel sc X.env).names.lookup x=some .local:=lookup_relabel_local lx
 have loop:∀s',(∃(i:Nat) (o:Option V) (H':Hp),Inv (fW X sc cl s3.heap.objs.size x ks s3 H3 fp pins) [] (o :: fP ks σ) H' s'∧tn i s'.heap∧(∀b∈fp,H' b=none)∧W i m0 H') →
   codeAny (model X.prog X.w) X.A (.compLoop (.DictComp kx vx [⟨.Name x px,iter,ifs,0⟩] sc pos) 0 (.ref it) (.ref D) (compEnvC sc cl s3.heap.objs.size X.env)) (RR (.ref D) s3.heap.objs.size) s':=by
  intro s' hs'
  refine Av (λn s'=>∃(i:Nat) (o:Option V) (H':Hp),Inv (fW X sc cl s3.heap.objs.size x ks s3 H3 fp pins) [] (o :: fP ks σ) H' s'∧tn i s'.heap∧(∀b∈fp,H' b=none)∧W i n H') ?_ m0 hs'
  rintro n s5 ⟨i,o,H5,J5,t5,n5,w5⟩
  rcases turn i n H5 w5 with ⟨stop,hq⟩ | ⟨go,step⟩
  ·refine cM (T.done (fW X sc cl s3.heap.objs.size x ks s3 H3 fp pins) rfl rfl rfl hc i [] s5 _ H5 _ J5 (fX n5) t5 stop) λr s6 ⟨hr,J6⟩=>?_
   subst hr
   obtain ⟨m,hm,_⟩:=J6.loc
   exact hR D _ s6 H5 m (back J6) hq hm J6.free lC I3.sz cC pC
  ·refine cM (T.item (fW X sc cl s3.heap.objs.size x ks s3 H3 fp pins) rfl rfl rfl hc i [] s5 _ H5 _ J5 (fX n5) t5 go) λr s6 ⟨u,hr,h6⟩=>?_
   subst hr
   refine cM h6 λ_ s7 ⟨v,H7,J7,r7,y7,t7,n7⟩=>?_
   have J7':=J7.pinned (fX n7) (T.obj _ _ t7)
   refine wpAny_assign_Name (ia (X:=fW X sc cl s3.heap.objs.size x ks s3 H3 fp pins) (i:=0) J7' nd rfl (.inl lookX) r7 (λs8 J8=>?_) (.inr lookX))
   refine cM (hcn cl s3.heap.objs.size s3 H3 fp pins _ s8 _ H7 _ J8 (step v H7 y7)) λok s8' ⟨H8,J8',q8⟩=>?_
   cases ok with
   | false =>
    simp only [UL,if_false] at q8 ⊢
    obtain ⟨m',hm,w'⟩:=q8
    refine ⟨m',hm,i + 1,_,_,J8'.ie,?_,?_,w'⟩
    ·exact T.keep _ _ _ t7 λb hb o e=>(J8'.pin (b,o) (UG _ (UG _ (cZ hb e)))).1
    ·intro b hb
     obtain ⟨o,e,d⟩:=T.obj _ _ t7 b hb
     exact (J8'.pin (b,o) (UG _ (UG _ (cZ hb e)))).2.1
   | true =>
    simp only [if_true] at q8 ⊢
    refine cM (hk cl s3.heap.objs.size s3 H3 fp pins _ s8' _ H8 _ J8' q8) λky s8'' ⟨vk,H8',J8'',rk,q8'⟩=>?_
    refine cM (he cl s3.heap.objs.size s3 H3 fp pins _ s8'' _ H8' _ J8'' q8') λy s9 ⟨vy,H9,J9,r9,kvs,ep,k,ek,hys,hz,m',hm,w'⟩=>?_
    subst ek
    obtain ⟨hz',hd',vs,rel,da⟩:=jS J9 hys
    refine wpAny_dictSet_pairs (hsz:=by rw [← rel.len];exact hz') (str_is rk) da.dictOf λh' dd' hsb=>?_
    obtain ⟨ep',J10⟩:=rS (t':=s9.toks + 1) J9 hys hsb (show (L2.lR kvs k vy).length≤sizeLine from UM (Cs kvs k vy) hz) hd' (rel.pu r9) dd'
    refine ⟨m',hm,i + 1,_,_,J10.ie,?_,?_,w' ep'⟩
    ·exact T.keep _ _ _ t7 λb hb o e=>(J10.pin (b,o) (UG _ (UG _ (cZ hb e)))).1
    ·intro b hb
     obtain ⟨o,e,d⟩:=T.obj _ _ t7 b hb
     exact (J10.pin (b,o) (UG _ (UG _ (cZ hb e)))).2.1
 have l0:=loop _ ⟨0,none,H3,J0,st4,λb hb=>(f3 b hb).1,w0⟩
 exact codeAny_compStart_dict l0 (T.self _ 0 _ _ _ st4 l0)
theorem PU {kx vx iter:Expr} {ifs:List Expr} {x:Str} {px:Pos} {sc:Scope} {pos:Pos} {wi:TI} {tk te:TE} {tc:TT} (osc:Scope) (N:List Str) (ks:List (Str × Nat)) (hc:X.calm=true) (ho:X.env.scope=osc) (hN:X.N=N) (hi:PI X (.Name x px) iter wi)
  (hk:∀cl C s₀ H₀ fp pins,PE (fW X sc cl C x ks s₀ H₀ fp pins) kx tk) (he:∀cl C s₀ H₀ fp pins,PE (fW X sc cl C x ks s₀ H₀ fp pins) vx te) (hcn:∀cl C s₀ H₀ fp pins,HH (fW X sc cl C x ks s₀ H₀ fp pins) ifs tc) (ok:cX sc osc N x ks:=by decide +kernel) (hs:∀x,foldedSetIterable iter X.env x=pure x:=by intro _;rfl) :
  PE X (.DictComp kx vx [⟨.Name x px,iter,ifs,0⟩] sc pos) (SR wi ks tc tk te):=by
 intro pins s σ H Q I hw
 obtain ⟨cl,hcl,h1,h2⟩:=jx (n_ ok I ho)
 have ok':cX sc X.env.scope X.N x ks:=by rw [ho,hN];exact ok
 rw [arm_eval_DictComp]
 refine wpAny_comprehension_free (use:=none) rfl hs hcl ok.1 ok.2.2.2.1 (cM (hi pins s σ H _ I hw) λv s1 h3=>cM h3 λitv s2 h4=>?_)
 obtain ⟨it,fp,tn,J,H2,rfl,I2,T,st2,f2,hR⟩:=h4
 refine vC (RR:=λacc C=>compPost (model X.prog X.w) X.A X.xe none (EP X pins σ Q) acc C) hc ok' h1 h2 hk he hcn I2 T st2 f2 hR ?_
 intro D C s' H' m J' q hn hC cl' cs cc cp
 refine ⟨m,hn,λh' hsb=>⟨.ref D,H',?_,rfl,q⟩⟩
 exact J'.turned (t':=s'.toks) (it:=C) (λb o ne e=>hsb.extBut b o ne e) hC cl' (.inr cs) cc cp
end
end Ov
namespace Ov
open PySem PySem.Spec PyProof.Rows
open L2 (V HO Hp Inv Cx VK XK TE TT TA TS TG mF TI TO gw Ends rL Loc Gl Rd RelV Vals fw qO bS nj oY md gu R2 upd aZ aW dY f' Sp nA It cA b7 bR Passes ma aK Meth Mk Binds aS bU aw c4 fe dR fA lR yE nq)
section
variable {K:PySem.W.Frag} {J:Hq} {H:Hp}
theorem dS:∀{kvs:List (Str × PV)} {gs:List (Str × V)},mD K J H kvs gs→nq (cY K J H) kvs gs
 | [],[],_=>.nil
 | [],_ :: _,h=>by cases h.1
 | _ :: _,[],h=>by cases h.1
 | (k,y) :: fs,(k',w) :: gs,h=>by
  obtain ⟨h1,v',us,h2,h3,h4⟩:=h
  simp only [UA,List.cons.injEq] at h1 h2
  obtain ⟨rfl,h1⟩:=h1
  obtain ⟨rfl,rfl⟩:=h2
  exact .cons ⟨rfl,h3⟩ (dS ⟨h1,h4⟩)
theorem zi:∀{kvs:List (Str × PV)} {gs:List (Str × V)},nq (cY K J H) kvs gs→mD K J H kvs gs
 | _,_,.nil=>⟨rfl,rfl⟩
 | _,_,.cons (a:=p) (b:=q) r t=>by
  obtain ⟨h1,h2⟩:=zi t
  exact ⟨by rw [UA,UA,h1,r.1],q.2,_,rfl,r.2,h2⟩
theorem Ext.lD {p:Addr} {kvs kvs':List (Str × PV)} {gs gs':List (Str × V)} {ep ep':Nat} (h:J p=some (.dct kvs ep)) (k:H p=some (.dE gs ep)):Ext K J H (put J p (.dct kvs' ep')) (upd H p (.dE gs' ep')):=by
 have sm:∀a u,a≠p→Rd H a u→Rd (upd H p (.dE gs' ep')) a u:=λa u ne z=>by
  rcases z with z | ⟨o,z⟩
  ·exact .inl (by rw [aW ne];exact z)
  ·exact .inr ⟨o,by rw [aW ne];exact z⟩
 refine ⟨λa vs' z=>?_,λa o z q _=>?_⟩
 ·rcases z with z | z
  ·have ne:a≠p:=by
    intro e;subst e
    rcases z with z | ⟨o,z⟩
    ·rw [k] at z;cases z
    ·rw [k] at z;cases z
   exact .inl (sm a _ ne z)
  ·exact .inr z
 ·have ne:a≠p:=by intro e;subst e;rw [h] at z;cases z
  exact ⟨by rw [aq ne];exact z,by rw [aW ne];exact q⟩
theorem Rep.lD {p:Addr} {kvs kvs':List (Str × PV)} {gs gs':List (Str × V)} {ep ep':Nat} (r:Rep K J H) (h:J p=some (.dct kvs ep)) (k:H p=some (.dE gs ep)) (q:nq (cY K J H) kvs' gs'):Rep K (put J p (.dct kvs' ep')) (upd H p (.dE gs' ep')):=by
 have e:=Ext.lD (K:=K) (kvs':=kvs') (gs':=gs') (ep':=ep') h k
 refine r.ED e p (λa ne=>aq ne) (λa o ne _ z=>by rw [aW ne];exact z) λu z=>?_
 rw [av] at z;cases z
 exact ⟨gs',aZ,e.zp (zi q)⟩
theorem Rep.Kx {p:Addr} {ep:Nat} (r:Rep K J H) (n:H p=none):Rep K (put J p (.dct [] ep)) (upd H p (.dE [] ep)):=by
 have e:=Ext.laid (K:=K) (J:=J) (o:=.dE [] ep) (u:=.dct [] ep) n
 refine r.ED e p (λa ne=>aq ne) (λa o ne _ z=>by rw [aW ne];exact z) λu z=>?_
 rw [av] at z;cases z
 exact ⟨[],aZ,⟨rfl,rfl⟩⟩
end
def P9:nt:=λx y J Q=>Cj x λa=>EG y λk=>Ge (J a) λkvs _=>vo (fA kvs k) λv=>Q v J
def JA (f:Bool→Bool):nt:=λx y J Q=>EG x λk=>Cj y λa=>Ge (J a) λkvs _=>Q (.bl (f (fA kvs k).isSome)) J
def KR:zQ:=λxs J Q=>AK xs λx=>Cj x λa=>Ge (J a) λkvs _=>Q (.int kvs.length) J
def GO:zQ:=λxs J Q=>AK xs λx=>Cj x λa=>Ge (J a) λkvs _=>Q (.fl (kvs.map λkv=>.str kv.1)) J
def KW:BM:=λx xs J Q=>Cj x λa=>AK xs λy=>EG y λk=>Ge (J a) λkvs _=>vo (fA kvs k) λv=>∀ep',Q v (put J a (.dct (yE kvs k) ep'))
def KY:Dv:=λo i y J R=>Cj o λa=>EG i λk=>Ge (J a) λkvs _=>kvs.length < sizeLine∧∀ep',R (put J a (.dct (lR kvs k y) ep'))
def K3:dq:=λ_ J Q=>∀p,J p=none→∀ep,Q (.ref p) (put J p (.dct [] ep))
def TL (te:dq):rK:=λτ J R=>te τ J λx J1=>Cj x λa=>Ge (J1 a) λkvs ep=>R ⟨kvs.map λkv=>.str kv.1,λJ'=>J' a=some (.dct kvs ep)⟩ J1
section
variable {X:Cx} {G:G2}
theorem bI:Q4 X P9:=⟨_,L2.O3,λJ H x y v w Q2 Q rx ry r h kn=>by
 obtain ⟨a,ex,h⟩:=gh h;obtain ⟨k,ey,h⟩:=iI h;obtain ⟨kvs,ep,ja,h⟩:=kK h;obtain ⟨z,hz,q⟩:=eh h
 subst ex ey
 cases rx;cases ry
 obtain ⟨gs,h1,h2⟩:=r _ _ ja
 obtain ⟨u,hu,ru⟩:=((dS h2).va k).1 z hz
 exact ⟨a,gs,ep,k,u,rfl,rfl,h1,hu,kn z J u H ru r .refl q⟩⟩
theorem FR (f:Bool→Bool):LR X.K (L2.Ni f) (JA f):=λJ H x y v w Q2 Q rx ry r h kn=>by
 obtain ⟨k,ex,h⟩:=iI h;obtain ⟨a,ey,h⟩:=gh h;obtain ⟨kvs,ep,ja,q⟩:=kK h
 subst ex ey
 cases rx;cases ry
 obtain ⟨gs,h1,h2⟩:=r _ _ ja
 exact ⟨a,gs,ep,k,rfl,rfl,h1,by rw [← ((dS h2).va k).2];exact kn (.bl _) J _ H rfl r .refl q⟩
theorem M1:nk X (compareOp .In) (JA id):=⟨_,L2.MV,FR id⟩
theorem Ck:nk X (compareOp .NotIn) (JA not):=⟨_,L2.Eg,FR not⟩
theorem nM:HG X (.builtin "len") KR:=⟨_,L2.Ah,λJ H xs vs Q2 Q rs r h k=>by
 obtain ⟨x,ex,h⟩:=gS h;obtain ⟨a,ea,h⟩:=gh h;obtain ⟨kvs,ep,ja,q⟩:=kK h;subst ea
 subst ex;obtain ⟨v,us,rfl,rv,e⟩:=rs;cases e;cases rv
 obtain ⟨gs,h1,h2⟩:=r _ _ ja
 exact ⟨a,gs,ep,rfl,h1,by rw [← (dS h2).len];exact k (.int _) J _ H rfl r .refl q⟩⟩
theorem pM {K:PySem.W.Frag} {J:Hq} {H:Hp}:∀{ks:List Str},aY K J H (ks.map PV.str) (ks.map V.str)
 | []=>rfl
 | k :: ks=>⟨_,_,rfl,rfl,pM (ks:=ks)⟩
theorem kg (hc:X.calm=true):HG X (.type "list") GO:=⟨_,L2.yz hc,λJ H xs vs Q2 Q rs r h k=>by
 obtain ⟨x,ex,h⟩:=gS h;obtain ⟨a,ea,h⟩:=gh h;obtain ⟨kvs,ep,ja,q⟩:=kK h;subst ea
 subst ex;obtain ⟨v,us,rfl,rv,e⟩:=rs;cases e;cases rv
 obtain ⟨gs,h1,h2⟩:=r _ _ ja
 refine ⟨a,gs,ep,rfl,h1,λp hp=>?_⟩
 have hk:aY X.K J H (kvs.map λkv=>PV.str kv.1) (gs.map λkv=>V.str kv.1):=by
  have:=(dS h2).keys
  rw [show (kvs.map λkv=>PV.str kv.1)=(kvs.map (·.1)).map PV.str by rw [Ux];rfl,show (gs.map λkv=>V.str kv.1)=(gs.map (·.1)).map V.str by rw [Ux];rfl,this]
  exact pM
 obtain ⟨x1,x2,x3⟩:=AE r hk hp
 exact k _ J _ _ x1 x2 x3 q⟩
theorem IT:Im X "dict" "dict.pop" KW:=⟨_,L2.IW,λJ H x xs v vs Q2 Q rx rs r h kn=>by
 obtain ⟨a,ex,h⟩:=gh h;obtain ⟨y,exs,h⟩:=gS h;obtain ⟨k,ek,h⟩:=iI h;obtain ⟨kvs,ep,ja,h⟩:=kK h;obtain ⟨z,hz,q⟩:=eh h;subst ek
 subst ex exs;cases rx
 obtain ⟨u,us,rfl,ru,e⟩:=rs;cases e;cases ru
 obtain ⟨gs,h1,h2⟩:=r _ _ ja
 have pk:=dS h2
 obtain ⟨y,hy,ry⟩:=(pk.va k).1 z hz
 refine ⟨a,gs,ep,k,y,rfl,rfl,h1,hy,λep'=>?_⟩
 have e2:=Ext.lD (K:=X.K) (kvs':=yE kvs k) (gs':=yE gs k) (ep':=ep') ja h1
 exact kn z _ y _ (e2.rep ry) (r.lD ja h1 (pk.dr k)) e2 (q ep')⟩
theorem gD:Q9 X KY:=⟨_,L2.NA,λJ H o i y ov iv u R2 R ro ri ry r h kk=>by
 obtain ⟨a,eo,h⟩:=gh h;obtain ⟨k,ei,h⟩:=iI h;obtain ⟨kvs,ep,ja,hl,q⟩:=kK h
 subst eo ei;cases ro;cases ri
 obtain ⟨gs,h1,h2⟩:=r _ _ ja
 have pk:=dS h2
 refine ⟨a,gs,ep,k,rfl,rfl,h1,by rw [← pk.len];exact hl,λep'=>?_⟩
 exact kk _ _ (r.lD ja h1 (pk.pu ry)) (Ext.lD (K:=X.K) ja h1) (q ep')⟩
theorem oF {pos:Pos}:RE X G (.Dict [] [] pos) K3:=⟨kM L2.Js λσ H Q ⟨τ,J,Q2,a2,q,k⟩ p hp ep=>k (.ref p) _ _ _ rfl (a2.hp.Kx hp) (.laid hp) (q p (a2.hp.free hp) ep)⟩
theorem gB {tg l:Expr} {tl:dq} (hl:RE X G l tl):RI X G tg l (TL tl):=⟨PZ (L2.Jt hl.run) λσ H R ⟨τ,J,R2,a2,h,k⟩=>⟨τ,J,_,a2,h,λx J1 v H1 rx r1 e1 h=>by
 obtain ⟨a,ex,h⟩:=gh h;obtain ⟨kvs,ep,ja,q⟩:=kK h
 subst ex;cases rx
 obtain ⟨gs,h1,h2⟩:=r1 _ _ ja
 have pk:=dS h2
 have hl':=pk.len
 refine ⟨a,gs,ep,rfl,h1,k _ J1 _ H1 ?_ r1 e1 q⟩
 have hks:=pk.keys
 have key:∀J' H',Rep X.K J' H'→J' a=some (.dct kvs ep)→∃gs',H' a=some (.dE gs' ep)∧gs'.map (·.1)=gs.map (·.1):=λJ' H' r o=>by
  obtain ⟨gs',h1',h2'⟩:=r _ _ o
  exact ⟨gs',h1',by rw [← (dS h2').keys,hks]⟩
 exact {
  go:=λJ' H' e r o i hi=>⟨key J' H' r o,by rw [Us] at hi ⊢;omega⟩
  yl:=λJ' H' e r o i hi v H2 y=>by
   obtain ⟨rfl,k,hk,rfl⟩:=y
   rw [← hks,Uw] at hk
   obtain ⟨kv,hkv,rfl⟩:=VU.mp hk
   exact ⟨.str kv.1,by rw [Uw,hkv];rfl,rfl,r,.refl⟩
  stop:=λJ' H' e r o=>⟨key J' H' r o,by rw [Us,Us];omega⟩ }⟩⟩
def Oj (wi:rK) (ks:List (Str × Nat)) (tc:me) (tk te:dq):dq:=λτ J Q=>wi τ J λit J1=>∀D,J1 D=none→∀ep,∃W:Nat→Hq→Prop,W 0 (put J1 D (.dct [] ep))∧(∀i J2,W i J2→it.ok J2) ∧
 (∀i x J2,it.xs[i]?=some x→W i J2→tc (some x :: pV ks τ) J2 λb J3=>if b=true then tk (some x :: pV ks τ) J3 λy J4=>te (some x :: pV ks τ) J4 λz J5 =>
  ∃kvs ep k,y=.str k∧J5 D=some (.dct kvs ep)∧kvs.length < sizeLine∧∀ep',W (i + 1) (put J5 D (.dct (lR kvs k z) ep')) else W (i + 1) J3)∧∀J2,W it.xs.length J2→Q (.ref D) J2
theorem BW {wi:rK} {ks:List (Str × Nat)} {tc:me} {tk te:dq}:∀σ H Q,LE X.K G (Oj wi ks tc tk te) σ H Q→SR (LI X.K G wi) ks (LT X.K G tc) (LE X.K G tk) (LE X.K G te) σ H Q:=λσ H Q ⟨τ,J,Q2,a2,h,k⟩ =>
 ⟨τ,J,_,a2,h,λit J1 I H1 ir r1 e1 w D hD ep=>by
  obtain ⟨W,w0,wok,step,fin⟩:=w D (r1.free hD) ep
  refine ⟨λi m H2=>m=it.xs.length - i∧i≤it.xs.length∧∃J2,Rep X.K J2 H2∧Ext X.K J1 H1 J2 H2∧W i J2,⟨_,rfl,Vb _,_,r1.Kx hD,.laid hD,w0⟩,?_⟩
  rintro i m H2 ⟨rfl,hi,J2,r2,e2,w2⟩
  by_cases hlt:i < it.xs.length
  ·refine .inr ⟨ir.go J2 H2 e2 r2 (wok i J2 w2) i hlt,λv H3 y=>?_⟩
   obtain ⟨x,ex,rx,r3,e3⟩:=ir.yl J2 H2 e2 r2 (wok i J2 w2) i hlt v H3 y
   have a3:yb X.K G (some x :: pV ks τ) J2 (some v :: fP ks σ) H3:=⟨CG (a2.sl.ext ((e1.trans e2).trans e3)) rx ks,r3,((a2.ext.trans e1).trans e2).trans e3⟩
   refine ⟨_,_,_,a3,step i x J2 ex w2,λb J4 H4 r4 e4 q=>?_⟩
   cases b with
   | false =>
    simp only [UL,if_false] at q ⊢
    exact ⟨_,by omega,rfl,hlt,J4,r4,(e2.trans e3).trans e4,q⟩
   | true =>
    simp only [if_true] at q ⊢
    refine ⟨_,_,_,a3.go r4 e4,q,λyk J5 u H5 rk r5 e5 q5=>?_⟩
    refine ⟨_,_,_,(a3.go r4 e4).go r5 e5,q5,λz J6 vz H6 rz r6 e6 ⟨kvs,ep2,kk,ek,jD,hl,q6⟩=>?_⟩
    subst ek
    cases rk
    obtain ⟨gs,h1,h2⟩:=r6 _ _ jD
    have pk:=dS h2
    refine ⟨gs,ep2,kk,rfl,h1,by rw [← pk.len];exact hl,it.xs.length - (i + 1),by omega,λep'=>⟨rfl,hlt,_,r6.lD jD h1 (pk.pu rz),?_,q6 ep'⟩⟩
    exact ((((e2.trans e3).trans e4).trans e5).trans e6).trans (Ext.lD (K:=X.K) jD h1)
  ·have ei:i=it.xs.length:=by omega
   subst ei
   exact .inl ⟨ir.stop J2 H2 e2 r2 (wok _ J2 w2),k (.ref D) J2 _ H2 rfl r2 (e1.trans e2) (fin J2 w2)⟩⟩
theorem Su {X:Cx} {ifs:List Expr} {t t':TT} (h:HH X ifs t) (k:∀σ H Q,t' σ H Q→t σ H Q):HH X ifs t':=λpins s σ H Q I q=>h pins s σ H Q I (k _ _ _ q)
variable {kx vx iter cnd:Expr} {x y:Str} {px py:Pos} {sc:Scope} {pos spos:Pos} {wi:rK} {tk te:dq} {tc:me} {i:Nat}
theorem K7 (osc:Scope) (N:List Str) (ks:List (Str × Nat)) (hc:X.calm=true) (ho:X.env.scope=osc) (hN:X.N=N) (hi:RI X G (.Name x px) iter wi) (hk:∀cl C s₀ H₀ fp pins,RE (fW X sc cl C x ks s₀ H₀ fp pins) G kx tk) (he:∀cl C s₀ H₀ fp pins,RE (fW X sc cl C x ks s₀ H₀ fp pins) G vx te)
  (ok:cX sc osc N x ks:=by decide +kernel) (hs:∀x,foldedSetIterable iter X.env x=pure x:=by intro _;rfl):RE X G (.DictComp kx vx [⟨.Name x px,iter,[],0⟩] sc pos) (Oj wi ks vw tk te) :=
 ⟨kM (PU osc N ks hc ho hN hi.run (λcl C s₀ H₀ fp pins=>(hk cl C s₀ H₀ fp pins).run) (λcl C s₀ H₀ fp pins=>(he cl C s₀ H₀ fp pins).run) (λcl C s₀ H₀ fp pins=>Su xm λσ H Q ⟨τ,J,Q2,a2,q,k⟩=>k true J H a2.hp .refl q) ok hs) BW⟩
end
def Bx (tabs:List Addr):cq:=λxs J Q _=>∃ns:List Int,xs=[.fl (ns.map .int)]∧ns.length≤63∧(∀T∈tabs,J T=some .tab)∧(∀a,a ∉ tabs→J a=none)∧∀J',(∀T∈tabs,J' T=some .tab)→Q (.bl true) J'
def Hf (tabs:List Addr) (K:PySem.W.Frag):Sp:=λvs H Q _=>∃(a:Addr) (ns:List Int),vs=[.ref a]∧dY K H a (ns.map V.int)∧ns.length≤63∧(∀T∈tabs,H T=some (.ext (fB T))) ∧
 (∀b,H b≠none→b=a∨b∈tabs)∧(∀u,H a=some u→∃o xs,u=.pf o (.lst xs))∧∀H',cA H H'→Q (.bl true) H'
theorem DN {P:Program} {w:World} {K:PySem.W.Frag} {mg:Str→Option Value} {base:Heap} {k:Nat} {f:Addr} {fd:FuncData} {ps:List Str} {tabs:List Addr} (F:aS P w K mg base (cn P w) k f fd ps (cK K (Bx tabs))) :
  aS P w K mg base L2.N8 k f fd ps (Hf tabs K) :=
 F.QZ.imp λvs H Q E ⟨a,ns,e,hS,hl,hT,hA,hK,q⟩=>by
  subst e
  classical
  have na:∀u,H a=some u→a ∉ tabs:=λu hu hm=>by
   obtain ⟨o,xs,rfl⟩:=hK u hu
   rw [hT a hm] at hu;cases hu
  refine ⟨[.fl (ns.map .int)],λb=>if b∈tabs then some .tab else none,λx J'=>x=.bl true∧∀T∈tabs,J' T=some .tab,λ_ _=>False,⟨.ref a,[],rfl,⟨a,ns.map V.int,rfl,?_,vA ns⟩,rfl⟩,?_,⟨ns,rfl,hl,λT hT=>if_pos hT,λb hb=>if_neg hb,λJ' h=>⟨rfl,h⟩⟩,?_,?_⟩
  ·rcases hS with h | h
   ·refine .inl ⟨?_,h⟩
    have:a ∉ tabs:=by
     rcases h with h | ⟨o,h⟩
     ·exact na _ h
     ·exact na _ h
    exact if_neg this
   ·exact .inr h
  ·intro b o z
   by_cases hb:b∈tabs
   ·have z':=(if_pos hb).symm.trans z
    cases z'
    exact hT b hb
   ·have z':=(if_neg hb).symm.trans z
    cases z'
  ·rintro z J' u H' rz rr ee ⟨rfl,ht⟩
   cases rz
   refine q H' λb o hb=>?_
   rcases hA b (by rw [hb];simp) with rfl | hm
   ·obtain ⟨ob,xs,rfl⟩:=hK o hb
    exact (ee.ll b _ (if_neg (na _ hb)) hb (.inr ⟨_,_,rfl⟩)).2
   ·have:=hT b hm
    rw [hb] at this;cases this
    exact rr b _ (ht b hm)
  ·intro _ _ _ _ _ z;exact z.elim
end Ov
namespace L2
open PySem PySem.Spec PyProof.Rows
def RL (k:Str):Value→Bool
 | .str y _=>y.cps.toList == k.cps.toList
 | _=>false
theorem EE {ss:List Str} {us:List Value} (r:Vals (ss.map V.str) us):us.length=ss.length∧∀(j:Nat) (u:Value),us[j]?=some u→∃y t,ss[j]?=some y∧u=.str y t:=by
 induction ss generalizing us with
 | nil=>cases r;exact ⟨rfl,λj u e=>by simp at e⟩
 | cons y ss ih =>
  rw [UA] at r
  cases r with
  | cons ru rr =>
   obtain ⟨t,rfl⟩:=ru
   obtain ⟨h1,h2⟩:=ih rr
   refine ⟨by simp [h1],λj u e=>?_⟩
   cases j with
   | zero=>cases e;exact ⟨y,t,rfl,rfl⟩
   | succ j=>exact h2 j u (by simpa using e)
theorem vb {α β:Type} (f:α→β):∀(l:List α) (j:Nat),(l.eraseIdx j).map f=(l.map f).eraseIdx j
 | [],_=>rfl
 | _ :: _,0=>rfl
 | x :: l,j + 1=>by simp only [Wg,UA,vb f l j]
section
variable {X:Cx}
def GS:V→List V→Hp→VK→Prop:=λx vs H Q=>∃(l:Addr) (ss:List Str) (k:Str) (j:Nat),x=.ref l∧vs=[.str k]∧H l=some (.lst (ss.map V.str))∧ss[j]?=some k∧(∀m:Nat,m < j→ss[m]?≠some k)∧Q .non (upd H l (.lst ((ss.eraseIdx j).map V.str)))
theorem AD:md X "list.remove" GS:=by
 intro pins s σ H x vs v us Q I rx rv h
 obtain ⟨l,ss,k,j,rfl,rfl,hH,hj,hno,q⟩:=h
 cases rx
 obtain ⟨u,rfl,ru⟩:=rv.one
 obtain ⟨t,rfl⟩:=ru
 obtain ⟨z,its,n,r,hl,e⟩:=I.IK hH
 obtain ⟨h1,h2⟩:=EE r
 obtain ⟨hjl,hje⟩:=Uv.mp hj
 have hz:ss.length≤sizeLine:=by simpa using z
 have at_:∀(m:Nat) (hm:m < its.toArray.size),RL k its.toArray[m]=decide (ss[m]?=some k):=λm hm=>by
  obtain ⟨y,t',hy,hu⟩:=h2 m its[m] (Ut (by simpa using hm))
  show RL k its[m]=_
  rw [hu,hy]
  show (y.cps.toList == k.cps.toList)=_
  by_cases hk:y=k
  ·subst hk;simp
  ·have:(y.cps.toList == k.cps.toList)=false:=by
    rw [beq_eq_false_iff_ne]
    intro z
    exact hk (by cases y;cases k;simp at z;rw [z])
   rw [this];symm;exact decide_eq_false λz=>hk (Option.some.inj z)
 refine call_meets PySem.F.slot_list_remove ⟨_,e,rfl⟩ PySem.F.entry_list_remove (PySem.F.args_list_remove_2 _ _)
  (MeetsSeq.list_remove l its.toArray n (.str k t) (RL k) (λy hy=>?_) j (by simpa using (show j < its.length by omega)) ?_ (λm hm hlt=>?_) (by rw [UD];omega)) ⟨e,?_⟩
 ·obtain ⟨m,hm⟩:=UO.mp (show y∈its by simpa using hy)
  obtain ⟨y',t',_,rfl⟩:=h2 m y hm
  exact SeqRoads2.EqGives.str _ _ _ _
 ·rw [at_];exact decide_eq_true hj
 ·rw [at_];exact decide_eq_false (hno m hlt)
 ·refine ⟨.non,_,I.IJ (its':=its.eraseIdx j) hH e (by rw [VW]) ?_ ?_,rfl,q⟩
  ·rw [vb];exact r.eraseIdx j
  ·rw [Us];exact UM (List.length_eraseIdx_le _ _) hz
end
end L2
namespace Ov
open PySem PySem.Spec PyProof.Rows
open L2 (V HO Hp Inv Cx VK XK TE TT TA TS TG mF TI TO gw Ends rL Loc Gl Rd RelV Vals fw qO bS nj oY md gu R2 upd aZ aW dY f' Sp nA It cA b7 bR Passes ma aK Meth Mk Binds aS bU aw c4 fe dR)
section
variable {X:Cx} {G:G2}
def Nd:BM:=λx xs J Q=>∃(a:Addr) (ss:List Str) (k:Str) (j:Nat),x=.ref a∧xs=[.str k]∧J a=some (.lst (ss.map .str))∧ss[j]?=some k∧(∀m:Nat,m < j→ss[m]?≠some k)∧Q (.int (j:Nat)) J
def Cz:BM:=λx xs J Q=>∃(a:Addr) (ss:List Str) (k:Str) (j:Nat),x=.ref a∧xs=[.str k]∧J a=some (.lst (ss.map .str))∧ss[j]?=some k∧(∀m:Nat,m < j→ss[m]?≠some k)∧Q .non (put J a (.lst ((ss.eraseIdx j).map .str)))
theorem DY:Im X "list" "list.remove" Cz:=⟨_,L2.AD,λJ H x xs v vs Q2 Q rx rs r ⟨a,ss,k,j,ex,exs,ja,hj,hno,q⟩ kn=>by
 subst ex exs;cases rx
 obtain ⟨w,us,rfl,rw',e⟩:=rs;cases e;cases rw'
 obtain ⟨ws,h1,h2⟩:=r _ _ ja
 cases gA h2
 exact ⟨a,ss,k,j,rfl,rfl,h1,hj,hno,kn .non _ _ _ rfl (r.wrote (ys:=(ss.eraseIdx j).map .str) ja h1 pM) (.wrote ja h1) q⟩⟩
variable {a b c:Expr} {ta tb tc:dq} {pos:Pos}
def xr (q q':nt) (ta tb tc:dq):dq:=λτ J Q=>ta τ J λx J1=>tb τ J1 λy J2=>q x y J2 λz J3=>KN z λk=>(if k=true then tc τ J3 λw J4=>q' y w J4 Q else Q (.bl false) J3)
theorem Ai {r r':R2} {q q':nt} (lr:LR X.K r q) (lr':LR X.K r' q'):∀σ H Q,LE X.K G (xr q q' ta tb tc) σ H Q→L2.Ho r r' (LE X.K G ta) (LE X.K G tb) (LE X.K G tc) σ H Q:=λσ H Q ⟨τ,J,Q2,a2,hh,k⟩=>⟨τ,J,_,a2,hh,λx J1 v H1 rx r1 e1 q1=>⟨τ,J1,_,a2.go r1 e1,q1,λy J2 w H2 ry r2 e2 q2 =>
  lr J2 H2 x y v w _ _ (e2.rep rx) ry r2 q2 λz J3 u H3 rz r3 e3 hz=>by
   obtain ⟨kk,ez,q3⟩:=pH hz
   subst ez;cases rz
   refine ⟨kk,rfl,?_⟩
   cases kk with
   | false=>simp only [UL,if_false] at q3 ⊢;exact k (.bl false) J3 _ H3 rfl r3 ((e1.trans e2).trans e3) q3
   | true =>
    simp only [if_true] at q3 ⊢
    exact ⟨τ,J3,_,((a2.go r1 e1).go r2 e2).go r3 e3,q3,λw2 J4 u4 H4 r4 rr4 e4 q4=>lr' J4 H4 y w2 w u4 Q2 Q ((e3.trans e4).rep ry) r4 rr4 q4 λz' J' u' H' rz' rr' ee' qq=>k z' J' u' H' rz' rr' ((((e1.trans e2).trans e3).trans e4).trans ee') qq⟩⟩⟩
theorem GZ {op op':CmpOp} {q q':nt} (ho:nk X (compareOp op) q) (ho':nk X (compareOp op') q') (ha:RE X G a ta) (hb:RE X G b tb) (hc:RE X G c tc) (hm:lastMarks [op,op'] [b,c]=false:=by with_unfolding_all rfl) :
  RE X G (.Compare a [op,op'] [b,c] pos) (xr q q' ta tb tc):=by
 obtain ⟨r,h,lr⟩:=ho
 obtain ⟨r',h',lr'⟩:=ho'
 exact ⟨kM (L2.Gr h h' ha.run hb.run hc.run hm) (Ai lr lr')⟩
end
end Ov
namespace L2
open PySem PySem.Spec PyProof.Rows
def Ts (K:PySem.W.Frag) (a:Addr):It :=
 ⟨λi H=>∃xs x,dY K H a xs∧xs[i]?=some x,
  λi H z H'=>∃T x,H T=none∧z=.ref T∧H'=upd H T (.tup [.int (i:Nat),x])∧(∀xs,dY K H a xs→xs[i]?=some x),
  λi H=>∃xs,dY K H a xs∧xs.length≤i⟩
theorem EB {P:Program} {w:World} {K:PySem.W.Frag} {elts:List Expr} {x1} {pos:Pos} {e it l:Addr} (ne:e≠it) :
  Turn P w K (.Tuple elts x1 pos) (Ts K l) [e,it] e (λi h=>(∃old,IsEnum h e it (i:Int) old)∧h.IsListIter it l i) where
 mem:=by simp
 obj:=λi h ⟨⟨old,he⟩,h1⟩ c hc=>by
  simp only [UH,UU,or_false] at hc
  rcases hc with rfl | rfl
  ·exact ⟨_,he,λv z=>by cases z⟩
  ·obtain ⟨o,e,c,d⟩:=h1;exact ⟨o,e,λv z=>by rw [d] at z;cases z⟩
 keep:=λi h h' ⟨⟨old,he⟩,h1⟩ k=>⟨⟨old,k e (by simp) _ he⟩,h1.at λo q=>k it (by simp) o q⟩
 item:=by
  intro X hP hw hK hc i pins s σ H E I hf st hg
  subst hP hw hK
  obtain ⟨⟨old,he⟩,h1⟩:=st
  obtain ⟨xs,x,hqx,hx⟩:=hg
  obtain ⟨its,rv,p,hzx⟩:=I.list hqx
  obtain ⟨u,hu,rx⟩:=rv.get hx
  refine wpAny_pyNext_enum_item he h1 p.isList (x:=u) (by simpa using hu) ne λh' a1 a3 a5 a6 hk=>?_
  refine ⟨_,rfl,wpAny_letOwnedTupleGo_enum a1 λh'' hz' hs'=>?_⟩
  have hT:H s.heap.objs.size=none:=I.hok.fresh (UC _)
  have lt:∀{c o},s.heap.get? c=some o→c≠s.heap.objs.size:=λe=>UW (Heap.lt_size e)
  have I0:Inv X pins σ (upd H s.heap.objs.size (.tup [.int (i:Nat),x])) { s with heap:=s.heap.push { cls:=.type "tuple",data:=.seq #[.int i s.toks,u] },toks:=s.toks + 1 }:=I.laid (t':=s.toks + 1) (λb u e=>Heap.get?_push_of_some _ e) (UC _) ⟨by simp [sizeLine],[.int i s.toks,u],.cons ⟨_,rfl⟩ (.cons rx .nil),⟨_,Heap.get?_push_size _ rfl,rfl,_,rfl⟩⟩
  have fpn:∀b∈[e,it],b≠s.heap.objs.size:=λb hb=>by
   simp only [UH,UU,or_false] at hb
   rcases hb with rfl | rfl
   ·exact lt he
   ·obtain ⟨o,e,_⟩:=h1;exact lt e
  have fpu:∀b∈[e,it],l5 X pins (upd H s.heap.objs.size (.tup [.int (i:Nat),x])) b:=λb hb=>⟨by rw [aW (fpn b hb)];exact (hf b hb).1,(hf b hb).2⟩
  have I1:Inv X pins σ (upd H s.heap.objs.size (.tup [.int (i:Nat),x])) { s with heap:=h'',toks:=s.toks + 1 }:=Inv.rj (s:={ s with heap:=s.heap.push { cls:=.type "tuple",data:=.seq #[.int i s.toks,u] },toks:=s.toks + 1 }) (t':=s.toks + 1) (ch:=[e,it]) I0 (λb o hb eb=>by
   simp only [UH,UU,or_false,not_or] at hb
   rcases Heap.get?_push_cases eb with ⟨rfl,rfl⟩ | e'
   ·exact hs'.extBut _ _ hb.1 a5
   ·exact hs'.extBut _ _ hb.1 (hk b o hb.1 hb.2 e')) fpu
  refine ⟨.ref s.heap.objs.size,_,I1,rfl,⟨_,x,hT,rfl,rfl,λzs hq=>by rw [I.ku hq hqx];exact hx⟩,⟨⟨_,by rw [Int.natCast_add];exact hz'⟩,a3.extBut hs'.extBut (Ne.symm ne)⟩,λb hb=>(fpu b hb).1⟩
 done:=by
  intro X hP hw hK hc i pins s σ H E I hf st hg
  subst hP hw hK
  obtain ⟨⟨old,he⟩,h1⟩:=st
  obtain ⟨xs,hqx,hl⟩:=hg
  obtain ⟨its,rv,p,hzx⟩:=I.list hqx
  have e1:=rv.length
  refine wpAny_pyNext_enum_end (I.ok.hd hc) he h1 p.isList (by rw [List.getElem?_toArray,Wc];omega) λh' hk=>⟨rfl,I.rj (t':=s.toks) (ch:=[e,it]) (λb o hb e=>?_) hf⟩
  simp only [UH,UU,or_false,not_or] at hb
  exact hk b o hb.2 e
 self:=λ_ _ _ _ _ st h=>let ⟨⟨_,he⟩,_⟩:=st;wpAny_pyIter_enum he h
def OZ (K:PySem.W.Frag) (ta:TA):TI:=λσ H R=>ta σ H λvs H1=>∃a xs,vs=[.ref a]∧dY K H1 a xs∧R (Ts K a) H1
section
variable {X:Cx}
theorem Ju {l:Expr} {elts:List Expr} {x1} {tp:Pos} {ta:TA} {p pos:Pos} (hg:Gl X "enumerate") (hm:X.mg "enumerate"=none) (ha:PA X [l] ta) (hs:starEach [l] X.env=(false,eval l X.env) :: starEach [] X.env:=by rfl) (hp:(backTo pos (starEach [] X.env)).any (·.1)=false:=by rfl):PI X (.Tuple elts x1 tp) (.Call (.Name "enumerate" p) [l] [] pos) (OZ X.K ta):=by
 intro pins s σ H R I h
 refine Call_ (mI I hg hm PyProof.Rows.Boot.«enumerate» (PyProof.Rows.callWith_type1 (cM (ha pos pins s σ H _ I h) λus s1 ⟨vs,H1,I1,r1,q1⟩=>?_) hs hp))
 obtain ⟨a,xs,e,hqa,q⟩:=q1
 subst e
 cases r1 with
 | cons r rr =>
  cases rr
  cases r
  obtain ⟨its,rv,pl,hz⟩:=I1.list hqa
  refine call_enumerate_list pl.isList ?_
  intro h' b1 b2 b6 hk
  refine wpAny_pyIter_enum b1 ?_
  have ne:s1.heap.objs.size + 1≠s1.heap.objs.size:=Nat.succ_ne_self _
  refine ⟨_,_,_,_,H1,rfl,I1.kept (t':=s1.toks) hk,EB ne,⟨⟨_,b1⟩,b2⟩,λc hc=>?_,q⟩
  have hc':s1.heap.objs.size≤c:=by
   simp only [UH,UU,or_false] at hc
   show @LE.le Nat _ _ _
   rcases hc with rfl | rfl
   ·exact Vy _ _
   ·exact UC _
  exact I1.Fe hc' (I1.hok.fresh hc')
end
end L2
namespace Ov
open PySem PySem.Spec PyProof.Rows
open L2 (V HO Hp Inv Cx VK XK TE TT TA TS TG mF TI TO gw Ends rL Loc Gl Rd RelV Vals fw qO bS nj oY md gu R2 upd aZ aW dY f' Sp nA It cA b7 bR Passes ma aK Meth Mk Binds aS bU aw c4 fe dR)
def yG (xs:List PV):List PV:=(Vz xs.length).zipWith (λi x=>PV.tup [.int ((i:Nat):Int),x]) xs
theorem lI (xs:List PV):(yG xs).length=xs.length:=by unfold yG;simp
theorem u_ (xs:List PV) (i:Nat) (x:PV) (h:xs[i]?=some x):(yG xs)[i]?=some (.tup [.int (i:Int),x]):=by
 unfold yG
 obtain ⟨hi,e⟩:=Uv.mp h
 rw [List.getElem?_zipWith,Wy hi,h]
section
variable {X:Cx} {G:G2}
def TM (ta:p8):rK:=λτ J R=>ta τ J λvs J1=>AK vs λx=>vo (kB J1 x) λxs=>R ⟨yG xs,λJ'=>kB J' x=some xs⟩ J1
theorem JL {l:Expr} {elts:List Expr} {x1} {tp:Pos} {ta:p8} {p pos:Pos} (hg:Gl X "enumerate") (hm:X.mg "enumerate"=none) (ha:RA X G [l] ta) (hs:starEach [l] X.env=(false,eval l X.env) :: starEach [] X.env:=by rfl) (hp:(backTo pos (starEach [] X.env)).any (·.1)=false:=by rfl) :
  RI X G (.Tuple elts x1 tp) (.Call (.Name "enumerate" p) [l] [] pos) (TM ta):=⟨PZ (L2.Ju hg hm ha.run hs hp) λσ H R ⟨τ,J,R2,a2,h,k⟩=>⟨τ,J,_,a2,h,λvs J1 us H1 rs r1 e1 hh=>by
 obtain ⟨x,ev,hh⟩:=gS hh;obtain ⟨xs,hx,q⟩:=eh hh
 subst ev
 obtain ⟨v,us',rfl,rv,e'⟩:=rs
 cases e'
 obtain ⟨a,ws,rfl,h1,h2⟩:=mL hx rv r1
 refine ⟨a,ws,rfl,h1,k _ J1 _ H1 ?_ r1 e1 q⟩
 have at_:∀J' H',Ext X.K J1 H1 J' H'→Rep X.K J' H'→kB J' x=some xs→∃vs,dY X.K H' a vs∧aY X.K J' H' xs vs:=λJ' H' e r o=>by
  obtain ⟨c,vs,eb,g1,g2⟩:=mL o (e.rep rv) r
  cases eb
  exact ⟨vs,g1,g2⟩
 exact {
  go:=λJ' H' e r o i hi=>by
   obtain ⟨vs,s,rs⟩:=at_ J' H' e r o
   rw [lI] at hi
   exact ⟨vs,vs[i]'(by rw [← rs.length];exact hi),s,by simp⟩
  yl:=λJ' H' e r o i hi v H2 y=>by
   obtain ⟨vs,s,rs⟩:=at_ J' H' e r o
   obtain ⟨T,z,hT,rfl,rfl,y1⟩:=y
   obtain ⟨c,ec,rc⟩:=rs.get' (y1 vs s)
   have sm:=cA.new hT (.tup [.int (i:Nat),z])
   have e2:=Ext.same (K:=X.K) (J:=J') sm
   refine ⟨.tup [.int (i:Int),c],u_ _ _ _ ec,⟨T,[.int (i:Nat),z],rfl,.inl (.inl aZ),e2.jC ⟨.int (i:Nat),_,rfl,rfl,z,_,rfl,rc,rfl⟩⟩,r.same sm,e2⟩
  stop:=λJ' H' e r o=>by
   obtain ⟨vs,s,rs⟩:=at_ J' H' e r o
   exact ⟨vs,s,by rw [lI,← rs.length];exact UC _⟩ }⟩⟩
end
section
variable {X:Cx} {pins:List (Addr × Obj)} {σ:L2.St} {H:Hp} {s:Shared}
open Classical in
def eT (K:PySem.W.Frag) (H:Hp) (zs:List Py) (y:Py) (u:Value):Bool:=decide (∃z∈zs,∃v,RelV v u∧At K H z v∧lJ z y=true)
end
section
variable {X:Cx} {G:G2}
end
end Ov
namespace Ov
open PySem
structure aO where
 m:Rat
 h:Str
 f:Str
 deriving DecidableEq
def slt (a b:Str):Prop:=a.cps.toList < b.cps.toList
instance (a b:Str):Decidable (slt a b):=inferInstanceAs (Decidable (a.cps.toList < b.cps.toList))
def aO.lt (a b:aO):Bool:=if a.m=b.m then (if a.h=b.h then decide (slt a.f b.f) else decide (slt a.h b.h)) else decide (a.m < b.m)
theorem oP (a:Str):¬ slt a a:=List.lt_irrefl _
theorem pX {a b c:Str} (h:slt a b) (k:slt b c):slt a c:=List.lt_trans h k
theorem F2:∀(a b:List Nat),a≠b→a < b∨b < a
 | [],[],h=>absurd rfl h
 | [],_ :: _,_=>.inl (WI _ _)
 | _ :: _,[],_=>.inr (WI _ _)
 | x :: a,y :: b,h=>by
  rcases WD x y with z | z | z
  ·exact .inl (VE.mpr (.inl z))
  ·subst z
   rcases F2 a b (λe=>h (by rw [e])) with q | q
   ·exact .inl (VE.mpr (.inr ⟨rfl,q⟩))
   ·exact .inr (VE.mpr (.inr ⟨rfl,q⟩))
  ·exact .inr (VE.mpr (.inl z))
theorem xT {a b:Str} (h:a≠b):slt a b∨slt b a:=by
 have ne:a.cps.toList≠b.cps.toList:=λe=>h (by cases a;cases b;simp at e;rw [e])
 exact F2 _ _ ne
theorem NC {a b:Str} (h:slt a b):a≠b:=λe=>by subst e;exact oP _ h
theorem aO.lt_iff (a b:aO):a.lt b=true↔a.m < b.m∨(a.m=b.m∧(slt a.h b.h∨(a.h=b.h∧slt a.f b.f))):=by
 unfold aO.lt
 by_cases e:a.m=b.m
 ·rw [if_pos e]
  have n:¬ a.m < b.m:=by rw [e];exact Rat.lt_irrefl
  by_cases k:a.h=b.h
  ·rw [if_pos k]
   have n2:¬ slt a.h b.h:=λz=>NC z k
   simp [e,k,n,n2]
   try (intro z;first | exact absurd z Rat.lt_irrefl | exact absurd z (oP _))
  ·rw [if_neg k]
   simp [e,k]
   try (intro z;exact absurd z Rat.lt_irrefl)
 ·rw [if_neg e]
  simp [e]
theorem aO.MF (a:aO):a.lt a=false:=by
 cases h:a.lt a with
 | false=>rfl
 | true =>
  rcases (aO.lt_iff a a).mp h with h | ⟨_,h | ⟨_,h⟩⟩
  ·exact absurd h Rat.lt_irrefl
  ·exact absurd h (oP _)
  ·exact absurd h (oP _)
theorem vB {a b c:Rat} (h:a < b) (k:b < c):a < c:=by grind
theorem aO.lt_trans {a b c:aO} (h:a.lt b=true) (k:b.lt c=true):a.lt c=true:=by
 rw [aO.lt_iff] at *
 rcases h with h | ⟨e,h⟩ <;> rcases k with k | ⟨e',k⟩
 ·exact .inl (vB h k)
 ·exact .inl (e' ▸ h)
 ·exact .inl (e ▸ k)
 ·refine .inr ⟨e.trans e',?_⟩
  rcases h with h | ⟨z,h⟩ <;> rcases k with k | ⟨z',k⟩
  ·exact .inl (pX h k)
  ·exact .inl (z' ▸ h)
  ·exact .inl (z ▸ k)
  ·exact .inr ⟨z.trans z',pX h k⟩
theorem aO.FT {a b:aO} (h:a≠b):a.lt b=true∨b.lt a=true:=by
 rw [aO.lt_iff,aO.lt_iff]
 by_cases e:a.m=b.m
 ·by_cases z:a.h=b.h
  ·have:a.f≠b.f:=λq=>h (by cases a;cases b;simp_all)
   rcases xT this with q | q
   ·exact .inl (.inr ⟨e,.inr ⟨z,q⟩⟩)
   ·exact .inr (.inr ⟨e.symm,.inr ⟨z.symm,q⟩⟩)
  ·rcases xT z with q | q
   ·exact .inl (.inr ⟨e,.inl q⟩)
   ·exact .inr (.inr ⟨e.symm,.inl q⟩)
 ·rcases (by grind:a.m < b.m∨b.m < a.m) with q | q
  ·exact .inl (.inl q)
  ·exact .inr (.inl q)
def j2 (l:List aO):Prop:=l.Pairwise λa b=>a.lt b=true
def kq (b:aO) (l:List aO):List aO:=l.filter (λx=>x.lt b) ++ b :: l.filter (λx=>!x.lt b)
def vD (h f:Str) (x:aO):Bool:=decide (x.h=h∧x.f=f)
def dF (h f:Str) (l:List aO):List aO:=l.filter λx=>!vD h f x
theorem uX {h f:Str} {l:List aO} (s:j2 l):j2 (dF h f l):=s.filter _
theorem yJ {b:aO} {l:List aO} (s:j2 l) (n:∀x∈l,x≠b):j2 (kq b l):=by
 unfold kq j2
 rw [Ww]
 refine ⟨s.filter _,?_,?_⟩
 ·rw [VS]
  refine ⟨λy hy=>?_,s.filter _⟩
  rw [UI] at hy
  rcases aO.FT (n y hy.1) with q | q
  ·simp [q] at hy
  ·exact q
 ·intro x hx y hy
  rw [UI] at hx
  rcases UH.mp hy with rfl | hy
  ·exact hx.2
  ·rw [UI] at hy
   rcases aO.FT (n y hy.1) with q | q
   ·simp [q] at hy
   ·exact aO.lt_trans hx.2 q
theorem Iy {h f:Str} {l:List aO} {m:Rat}:∀x∈dF h f l,x≠⟨m,h,f⟩:=λx hx e=>by
 subst e
 unfold dF at hx
 rw [UI] at hx
 simp [vD] at hx
theorem vq (p:aO→Bool):∀{l:List aO} {i:Nat},i≤l.length→(∀(j:Nat) x,j < i→l[j]?=some x→p x=true)→(∀(j:Nat) x,i≤j→l[j]?=some x→p x=false)→l.take i ++ l.drop i=l∧l.filter p=l.take i∧l.filter (λx=>!p x)=l.drop i
 | l,0,_,_,h=>by
  refine ⟨by simp,?_,?_⟩
  ·rw [List.take_zero]
   apply Wl.mpr
   intro x hx
   obtain ⟨j,hj⟩:=UO.mp hx
   rw [h j x (Vb _) hj];simp
  ·rw [Wb]
   apply U8.mpr
   intro x hx
   obtain ⟨j,hj⟩:=UO.mp hx
   rw [h j x (Vb _) hj];rfl
 | [],i + 1,hi,_,_=>by simp at hi
 | x :: l,i + 1,hi,h1,h2=>by
  obtain ⟨a,b,c⟩:=vq p (l:=l) (i:=i) (by simpa using hi) (λj y hj e=>h1 (j + 1) y (by omega) (by simpa using e)) (λj y hj e=>h2 (j + 1) y (by omega) (by simpa using e))
  have hx:p x=true:=h1 0 x (by omega) rfl
  refine ⟨by simp,?_,?_⟩
  ·rw [U0,hx];simp [b]
  ·rw [U0,hx];simp [c]
theorem B8 {b:aO} {l:List aO} {i:Nat} (hi:i≤l.length) (h1:∀(j:Nat) x,j < i→l[j]?=some x→x.lt b=true) (h2:∀(j:Nat) x,i≤j→l[j]?=some x→x.lt b=false):l.take i ++ b :: l.drop i=kq b l:=by
 obtain ⟨_,e1,e2⟩:=vq (λx=>x.lt b) hi h1 h2
 unfold kq
 rw [e1,e2]
theorem C3 {l:List aO} {b x y:aO} {i j:Nat} (s:j2 l) (hx:l[i]?=some x) (hy:l[j]?=some y) (h:j≤i) (k:x.lt b=true):y.lt b=true:=by
 rcases VT h with h | h
 ·obtain ⟨hi,ei⟩:=Uv.mp hx
  obtain ⟨hj,ej⟩:=Uv.mp hy
  have:=Vh.mp s j i hj hi h
  rw [ei,ej] at this
  exact aO.lt_trans this k
 ·subst h;rw [hx] at hy;cases hy;exact k
theorem zM {l:List aO} {b x y:aO} {i j:Nat} (s:j2 l) (hx:l[i]?=some x) (hy:l[j]?=some y) (h:i≤j) (k:x.lt b=false):y.lt b=false:=by
 cases q:y.lt b with
 | false=>rfl
 | true=>rw [C3 s hy hx h q] at k;cases k
theorem Fw {b x:aO} {l:List aO} (h:x∈kq b l):x=b∨x∈l:=by
 unfold kq at h
 rcases UB.mp h with h | h
 ·exact .inr (UI.mp h).1
 ·rcases UH.mp h with h | h
  ·exact .inl h
  ·exact .inr (UI.mp h).1
theorem nQ (p:aO→Bool):∀l:List aO,(l.filter p).length + (l.filter λx=>!p x).length=l.length
 | []=>rfl
 | x :: l=>by
  have:=nQ p l
  cases h:p x <;> simp [h] <;> omega
theorem r_ (b:aO) (l:List aO):(kq b l).length=l.length + 1:=by
 unfold kq
 rw [UR,UT]
 have:=nQ (λx=>x.lt b) l
 omega
theorem pd (h f:Str) (l:List aO):(dF h f l).length≤l.length:=VC _ _
structure aM where
 m:Rat
 p:Rat
 v:Int
 deriving DecidableEq
def aM.at (l:aM) (t:Rat):Rat:=l.p + (t - l.m) * l.v
def turned (rows:List aM) (t:Rat) (v:Int):List aM :=
 match rows.getLast? with
 | none=>[]
 | some l =>
  let rest:=if l.m=t then rows.dropLast else rows
  if rest.getLast?.map aM.v=some v then rest else rest ++ [⟨t,l.at t,v⟩]
theorem iE (ls:List aM) (l:aM) (t:Rat) (v:Int):turned (ls ++ [l]) t v =
  if l.m=t then (if ls.getLast?.map aM.v=some v then ls else ls ++ [⟨t,l.at t,v⟩]) else (if l.v=v then ls ++ [l] else ls ++ [l] ++ [⟨t,l.at t,v⟩]):=by
 unfold turned
 simp only [UX,Vt]
 split
 ·rfl
 ·simp only [UX,VP,Option.some.injEq]
theorem vJ {rows:List aM} {t:Rat} {v:Int} (h:rows≠[]):turned rows t v≠[]:=by
 obtain ⟨ls,l,rfl⟩:∃ls l,rows=ls ++ [l]:=⟨rows.dropLast,rows.getLast h,(U6 h).symm⟩
 rw [iE]
 split
 ·split
  ·rename_i e
   intro z;subst z;cases e
  ·simp
 ·split <;> simp
theorem BC {rows:List aM} {t:Rat} {v:Int} {x:aM} (h:x∈turned rows t v):x∈rows∨∃l∈rows,x=⟨t,l.at t,v⟩:=by
 by_cases e:rows=[]
 ·subst e;cases h
 obtain ⟨ls,l,rfl⟩:∃ls l,rows=ls ++ [l]:=⟨rows.dropLast,rows.getLast e,(U6 e).symm⟩
 rw [iE] at h
 have key:∀{y:List aM},(∀z∈y,z∈ls ++ [l])→x∈y ++ [⟨t,l.at t,v⟩]→x∈ls ++ [l]∨∃l'∈ls ++ [l],x=⟨t,l'.at t,v⟩:=λhy hx=>by
  rcases UB.mp hx with h | h
  ·exact .inl (hy _ h)
  ·exact .inr ⟨l,by simp,by simpa using h⟩
 split at h
 ·split at h
  ·exact .inl (UB.mpr (.inl h))
  ·exact key (λz hz=>UB.mpr (.inl hz)) h
 ·split at h
  ·exact .inl h
  ·exact key (λz hz=>hz) h
theorem nh (rows:List aM) (t:Rat) (v:Int):(turned rows t v).length≤rows.length + 1:=by
 by_cases e:rows=[]
 ·subst e;simp [turned]
 obtain ⟨ls,l,rfl⟩:∃ls l,rows=ls ++ [l]:=⟨rows.dropLast,rows.getLast e,(U6 e).symm⟩
 rw [iE]
 split <;> split <;> simp <;> omega
def d_ (rows:List aM) (t:Rat):Option aM:=(rows.filter λl=>decide (l.m≤t)).getLast?
def lb (ms:List Rat) (t:Rat):Nat→Nat
 | 0=>0
 | k + 1=>if ms.getD k 0≤t then k + 1 else lb ms t k
theorem Kz (ms:List Rat) (t:Rat):∀k,lb ms t k≤k
 | 0=>UC _
 | k + 1=>by unfold lb;split;exact UC _;exact Nat.le_succ_of_le (Kz ms t k)
theorem FJ {ms:List Rat} {t:Rat} {j:Nat} (h:ms.getD j 0≤t):∀{k},j < k→0 < lb ms t k
 | 0,hk=>absurd hk (V5 _)
 | k + 1,hk=>by
  unfold lb
  split
  ·exact Nat.succ_pos _
  ·rename_i c
   exact FJ h (by rcases Nat.lt_succ_iff_lt_or_eq.mp hk with e | e;exact e;subst e;exact absurd h c)
theorem Cd (t:Rat) (rows:List aM):∀k,k≤rows.length→((rows.take k).filter λl=>decide (l.m≤t)).getLast?=if lb (rows.map aM.m) t k=0 then none else rows[lb (rows.map aM.m) t k - 1]?
 | 0,_=>rfl
 | k + 1,hk=>by
  have hk':k < rows.length:=by omega
  have e:rows.take (k + 1)=rows.take k ++ [rows[k]]:=by rw [UN,Ut hk'];rfl
  have em:(rows.map aM.m).getD k 0=rows[k].m:=by simp [Xb,hk']
  rw [e,Vo]
  unfold lb
  rw [em]
  by_cases c:rows[k].m≤t
  ·rw [if_pos c,U0,if_pos (decide_eq_true c),VB,UX,if_neg (Nat.succ_ne_zero _),Nat.add_sub_cancel,Ut hk']
  ·rw [if_neg c,U0,if_neg (by simp [c]),VB,Vc]
   exact Cd t rows k (by omega)
theorem FP (rows:List aM) (t:Rat):d_ rows t=if lb (rows.map aM.m) t rows.length=0 then none else rows[lb (rows.map aM.m) t rows.length - 1]?:=by
 have:=Cd t rows rows.length (UC _)
 rw [UQ] at this
 exact this
def Km (g:Option Rat) (t:Rat):Bool:=match g with | none=>true | some q=>decide (t < q)
def there (rows:List aM) (g:Option Rat) (t:Rat):Bool :=
 match rows.head? with
 | none=>false
 | some l=>!decide (t < l.m) && Km g t
theorem oV {rows:List aM} {g:Option Rat} {t:Rat} (h:there rows g t=true):∃l,d_ rows t=some l∧l∈rows∧l.m≤t∧0 < lb (rows.map aM.m) t rows.length∧rows[lb (rows.map aM.m) t rows.length - 1]?=some l:=by
 cases rows with
 | nil=>cases h
 | cons l0 ls =>
  have h0:l0.m≤t:=by
   unfold there at h
   simp only [V6,U1,WB,decide_eq_false_iff_not] at h
   exact Rat.not_lt.mp h.1
  have hp:0 < lb ((l0 :: ls).map aM.m) t (l0 :: ls).length:=FJ (j:=0) (by simpa using h0) (by simp)
  have hle:=Kz ((l0 :: ls).map aM.m) t (l0 :: ls).length
  have hx:=FP (l0 :: ls) t
  rw [if_neg (by omega)] at hx
  obtain ⟨l,hl⟩:∃l,(l0 :: ls)[lb ((l0 :: ls).map aM.m) t (l0 :: ls).length - 1]?=some l:=⟨_,Ut (by omega)⟩
  rw [hl] at hx
  have hm:=Wx hx
  rw [UI] at hm
  exact ⟨l,hx,hm.1,of_decide_eq_true hm.2,hp,hl⟩
def Sc (D A:Nat) (q:Rat):Prop:=∃a:Int,q * (D:Rat)=(a:Rat)∧a.natAbs≤A
theorem Sc.mono {D A B:Nat} {q:Rat} (h:Sc D A q) (k:A≤B):Sc D B q:=let ⟨a,e,l⟩:=h;⟨a,e,UM l k⟩
theorem Pp {D:Nat} (h:0 < D):(D:Rat)≠0:=by
 intro e
 have:D=0:=by exact_mod_cast e
 omega
theorem Sc.sz {D A n:Nat} {q:Rat} (h:Sc D A q) (hD:0 < D) (h1:D < 2 ^ n) (h2:A < 2 ^ n):Sz n q:=by
 obtain ⟨a,e,l⟩:=h
 have nz:=Pp hD
 have:q=Rat.divInt a (D:Int):=by
  rw [Rat.divInt_eq_div,← e]
  have:((D:Int):Rat)=(D:Rat):=rfl
  rw [this]
  generalize (D:Rat)=d at nz ⊢
  grind
 rw [this]
 exact Sz.div ⟨Vi l h2⟩ ⟨by simpa using h1⟩ (by omega)
theorem Sc.scale {D A E:Nat} {p:Rat} (h:Sc D A p):Sc (E * D) (E * A) p:=by
 obtain ⟨a,e,l⟩:=h
 refine ⟨E * a,?_,?_⟩
 ·rw [Rat.intCast_mul,← e]
  have h1:((E * D:Nat):Rat)=(E:Rat) * (D:Rat):=Rat.natCast_mul ..
  have h2:((E:Int):Rat)=(E:Rat):=rfl
  rw [h1,h2]
  grind
 ·rw [Int.natAbs_mul];exact Nat.mul_le_mul (by simp) l
theorem Sc.MI {D A:Nat} {t:Int} {b:Nat} (hb:0 < b) (hd:b ∣ D) (hA:t.natAbs * (D / b)≤A):Sc D A (Rat.divInt t b):=by
 obtain ⟨c,rfl⟩:=hd
 rw [Wj _ hb] at hA
 refine ⟨t * c,?_,by rw [Int.natAbs_mul];simpa using hA⟩
 have nb:=Pp hb
 have e1:((b:Int):Rat)=(b:Rat):=rfl
 have e2:((c:Int):Rat)=(c:Rat):=rfl
 rw [Rat.divInt_eq_div,Rat.intCast_mul,e1,e2,Rat.natCast_mul]
 generalize (b:Rat)=b at nb ⊢
 grind
def iF:Nat:=9690712164777231700912800
theorem TU:∀b:Nat,1≤b→b≤60→b ∣ iF:=by
 intro b h1 h2
 have:∀b:Fin 61,1≤b.val→b.val ∣ iF:=by decide
 exact this ⟨b,by omega⟩ h1
theorem wt:0 < iF:=by decide
def MM:Nat:=2097152 * iF
structure Ub (D k:Nat) (l:aM):Prop where
 m:Sc iF MM l.m
 p:Sc (D * iF) (iF * 2 ^ 101 + k * (2000 * (D * MM))) l.p
 v:l.v.natAbs≤1000
theorem Po:MM < 2 ^ 106:=by decide
theorem mh {q:Rat} (h:Sc iF MM q):Sz 106 q:=h.sz wt (by decide) Po
structure Gd (D k:Nat) (rows:List aM):Prop where
 ne:rows≠[]
 ok:∀l∈rows,Ub D k l
 len:rows.length≤k + 1
def Later (c q:Rat):Prop:=q=c∨∃u s:Nat,1≤u∧u≤60∧1≤s∧s≤500 * u∧q=Rat.divInt ((c.num * u).fdiv c.den + s) u
theorem Later.sc {c q:Rat} {A:Nat} (h:Later c q) (k:Sc iF A c):Sc iF (A + 501 * iF) q:=by
 rcases h with rfl | ⟨u,s,h1,h2,h3,h4,rfl⟩
 ·exact k.mono (Vy _ _)
 obtain ⟨a,e,l⟩:=k
 obtain ⟨w,hw⟩:=TU u h1 h2
 refine Sc.MI (by omega) ⟨w,hw⟩ ?_
 have ew:iF / u=w:=by rw [hw,Wj _ (by omega)]
 rw [ew]
 have hf:((c.num * u).fdiv c.den) * c.den≤c.num * u∧c.num * u < ((c.num * u).fdiv c.den + 1) * c.den:=by
  rw [Int.fdiv_eq_ediv_of_nonneg _ (by omega)]
  have:=cP c
  constructor
  ·exact Int.ediv_mul_le _ (by omega)
  ·have:=Int.lt_ediv_add_one_mul_self (c.num * u) this;exact this
 have ea:c.num * (iF:Int)=a * c.den:=by
  have h1:=cast_eq c
  have h2:=dJ c
  have h3:((iF:Nat):Rat)=(((iF:Nat):Int):Rat):=rfl
  have:((c.num * (iF:Int):Int):Rat)=((a * c.den:Int):Rat):=by
   rw [Rat.intCast_mul,Rat.intCast_mul,h1,← e,h3]
   grind
  exact_mod_cast this
 have hL:(iF:Int)=u * w:=by rw [hw];simp
 have hw0:0 < w:=by
  rcases Nat.eq_zero_or_pos w with z | z
  ·rw [z,Nat.mul_zero] at hw;exact absurd hw (by decide)
  ·exact z
 rw [hL] at ea
 have hd:=cP c
 generalize hF:(c.num * u).fdiv c.den=F at hf ⊢
 generalize hN:c.num=N at *
 generalize hDD:(c.den:Int)=d at *
 have g1:F * w≤a:=by
  have:F * w * d≤a * d:=by
   rw [← ea]
   have:=Int.mul_le_mul_of_nonneg_right hf.1 (show (0:Int)≤w by omega)
   calc F * w * d=F * d * w:=by rw [Int.mul_right_comm]
    _≤N * u * w:=this
    _=N * (u * w):=Int.mul_assoc ..
  exact Int.le_of_mul_le_mul_right this hd
 have g2:a≤(F + 1) * w:=by
  have:a * d≤(F + 1) * w * d:=by
   rw [← ea]
   have:=Int.mul_le_mul_of_nonneg_right (Int.le_of_lt hf.2) (show (0:Int)≤w by omega)
   calc N * (u * w)=N * u * w:=(Int.mul_assoc ..).symm
    _≤(F + 1) * d * w:=this
    _=(F + 1) * w * d:=by rw [Int.mul_right_comm]
  exact Int.le_of_mul_le_mul_right this hd
 have hsw:s * w≤500 * (u * w):=by
  calc s * w≤500 * u * w:=Nat.mul_le_mul_right _ h4
   _=500 * (u * w):=Nat.mul_assoc ..
 have huw:w≤u * w:=Nat.le_mul_of_pos_left _ (by omega)
 rw [hw]
 have:(F + s).natAbs * w=((F + s) * w).natAbs:=by rw [Int.natAbs_mul];simp
 rw [this,Int.add_mul]
 rw [Int.add_mul,Int.one_mul] at g2
 have hsw':(s:Int) * w≤500 * ((u * w:Nat):Int):=by exact_mod_cast hsw
 generalize F * (w:Int)=x at *
 have hs0:(0:Int)≤(s:Int) * w:=Int.mul_nonneg (by omega) (by omega)
 generalize (s:Int) * w=y at *
 generalize u * w=z at *
 omega
theorem Later.le {c q:Rat} (h:Later c q):c≤q:=by
 rcases h with rfl | ⟨u,s,h1,h2,h3,h4,rfl⟩
 ·exact Rat.le_refl
 have hf:c.num * u < ((c.num * u).fdiv c.den + 1) * c.den:=by
  rw [Int.fdiv_eq_ediv_of_nonneg _ (by omega)]
  exact Int.lt_ediv_add_one_mul_self (c.num * u) (cP c)
 generalize (c.num * u).fdiv c.den=F at hf ⊢
 have h5:c.num * u≤(F + s) * c.den:=by
  have:(F + 1) * c.den≤(F + s) * c.den:=Int.mul_le_mul_of_nonneg_right (by omega) (by omega)
  omega
 have hu:(0:Rat) < (u:Rat):=by exact_mod_cast (show 0 < u by omega)
 have hd:(0:Rat) < ((c.den:Int):Rat):=by exact_mod_cast cP c
 refine Rat.not_lt.mp λhlt=>?_
 rw [Rat.divInt_eq_div] at hlt
 have e1:((u:Int):Rat)=(u:Rat):=rfl
 rw [e1,Rat.div_lt_iff hu] at hlt
 have h6:=Rat.mul_lt_mul_of_pos_right hlt hd
 have e2:c * (u:Rat) * ((c.den:Int):Rat)=((c.num * u:Int):Rat):=by
  rw [Rat.intCast_mul,cast_eq c,e1];grind
 rw [e2,← Rat.intCast_mul] at h6
 have h7:(F + s) * c.den < c.num * u:=by exact_mod_cast h6
 omega
section
variable {α:Type} {lt:α→α→Bool}
def qA (lt:α→α→Bool) (b:α) (l:List α):List α:=l.filter (λx=>lt x b) ++ b :: l.filter (λx=>!lt x b)
def qz (lt:α→α→Bool) (l:List α):Prop:=l.Pairwise λa b=>lt a b=true
theorem Gp (p:α→Bool):∀{l:List α} {i:Nat},i≤l.length→(∀(j:Nat) x,j < i→l[j]?=some x→p x=true)→(∀(j:Nat) x,i≤j→l[j]?=some x→p x=false)→l.filter p=l.take i∧l.filter (λx=>!p x)=l.drop i
 | l,0,_,_,h=>by
  refine ⟨?_,?_⟩
  ·rw [List.take_zero]
   apply Wl.mpr
   intro x hx
   obtain ⟨j,hj⟩:=UO.mp hx
   rw [h j x (Vb _) hj];simp
  ·rw [Wb]
   apply U8.mpr
   intro x hx
   obtain ⟨j,hj⟩:=UO.mp hx
   rw [h j x (Vb _) hj];rfl
 | [],i + 1,hi,_,_=>by simp at hi
 | x :: l,i + 1,hi,h1,h2=>by
  obtain ⟨b,c⟩:=Gp p (l:=l) (i:=i) (by simpa using hi) (λj y hj e=>h1 (j + 1) y (by omega) (by simpa using e)) (λj y hj e=>h2 (j + 1) y (by omega) (by simpa using e))
  have hx:p x=true:=h1 0 x (by omega) rfl
  refine ⟨?_,?_⟩
  ·rw [U0,hx];simp [b]
  ·rw [U0,hx];simp [c]
theorem B9 {b:α} {l:List α} {i:Nat} (hi:i≤l.length) (h1:∀(j:Nat) x,j < i→l[j]?=some x→lt x b=true) (h2:∀(j:Nat) x,i≤j→l[j]?=some x→lt x b=false):l.take i ++ b :: l.drop i=qA lt b l:=by
 obtain ⟨e1,e2⟩:=Gp (λx=>lt x b) hi h1 h2
 unfold qA
 rw [e1,e2]
theorem yK {b x:α} {l:List α}:x∈qA lt b l↔x=b∨x∈l:=by
 unfold qA
 rw [UB,UH,UI,UI]
 constructor
 ·rintro (h | h | h)
  ·exact .inr h.1
  ·exact .inl h
  ·exact .inr h.1
 ·rintro (h | h)
  ·exact .inr (.inl h)
  ·cases e:lt x b
   ·exact .inr (.inr ⟨h,by simp⟩)
   ·exact .inl ⟨h,rfl⟩
theorem Fx (b:α) (l:List α):(qA lt b l).length=l.length + 1:=by
 unfold qA
 rw [UR,UT]
 have:∀l:List α,(l.filter λx=>lt x b).length + (l.filter λx=>!lt x b).length=l.length:=by
  intro l
  induction l with
  | nil=>rfl
  | cons x l ih=>cases h:lt x b <;> simp [h] <;> omega
 have:=this l
 omega
theorem Fy (tr:∀{a b c},lt a b=true→lt b c=true→lt a c=true) {b:α} {l:List α} (s:qz lt l) (QJ:∀x∈l,lt x b=true∨lt b x=true):qz lt (qA lt b l):=by
 unfold qA qz
 rw [Ww]
 refine ⟨s.filter _,?_,?_⟩
 ·rw [VS]
  refine ⟨λy hy=>?_,s.filter _⟩
  rw [UI] at hy
  rcases QJ y hy.1 with q | q
  ·simp [q] at hy
  ·exact q
 ·intro x hx y hy
  rw [UI] at hx
  rcases UH.mp hy with rfl | hy
  ·exact hx.2
  ·rw [UI] at hy
   rcases QJ y hy.1 with q | q
   ·simp [q] at hy
   ·exact tr hx.2 q
theorem zL (tr:∀{a b c},lt a b=true→lt b c=true→lt a c=true) {l:List α} {b x y:α} {i j:Nat} (s:qz lt l) (hx:l[i]?=some x) (hy:l[j]?=some y) (h:j≤i) (k:lt x b=true):lt y b=true:=by
 rcases VT h with h | h
 ·obtain ⟨hi,ei⟩:=Uv.mp hx
  obtain ⟨hj,ej⟩:=Uv.mp hy
  have:=Vh.mp s j i hj hi h
  rw [ei,ej] at this
  exact tr this k
 ·subst h;rw [hx] at hy;cases hy;exact k
theorem Ew (tr:∀{a b c},lt a b=true→lt b c=true→lt a c=true) {l:List α} {b x y:α} {i j:Nat} (s:qz lt l) (hx:l[i]?=some x) (hy:l[j]?=some y) (h:i≤j) (k:lt x b=false):lt y b=false:=by
 cases q:lt y b with
 | false=>rfl
 | true=>have:=zL (lt:=lt) (b:=b) tr s hy hx h q;rw [this] at k;cases k
theorem oS (HL:∀a,lt a a=false) (tr:∀{a b c},lt a b=true→lt b c=true→lt a c=true):∀{l k:List α},qz lt l→qz lt k→(∀x,x∈l↔x∈k)→l=k
 | [],[],_,_,_=>rfl
 | [],y :: k,_,_,h=>by have:=(h y).mpr UY;cases this
 | x :: l,[],_,_,h=>by have:=(h x).mp UY;cases this
 | x :: l,y :: k,hl,hk,h=>by
  obtain ⟨a1,a2⟩:=VS.mp hl
  obtain ⟨b1,b2⟩:=VS.mp hk
  have exy:x=y:=by
   rcases UH.mp ((h x).mp UY) with e | e
   ·exact e
   ·rcases UH.mp ((h y).mpr UY) with e' | e'
    ·exact e'.symm
    ·have:=tr (a1 y e') (b1 x e)
     rw [HL] at this;cases this
  subst exy
  rw [oS HL tr a2 b2 λz=>?_]
  constructor
  ·intro hz
   rcases UH.mp ((h z).mp (US _ hz)) with e | e
   ·have:=a1 z hz;rw [e,HL] at this;cases this
   ·exact e
  ·intro hz
   rcases UH.mp ((h z).mpr (US _ hz)) with e | e
   ·have:=b1 z hz;rw [e,HL] at this;cases this
   ·exact e
end
structure Ky where
 p:Rat
 v:Int
 n:Str
 deriving DecidableEq
def Ky.lt (a b:Ky):Bool:=if a.p=b.p then (if a.v=b.v then decide (slt a.n b.n) else decide (a.v < b.v)) else decide (a.p < b.p)
theorem Ky.lt_iff (a b:Ky):a.lt b=true↔a.p < b.p∨(a.p=b.p∧(a.v < b.v∨(a.v=b.v∧slt a.n b.n))):=by
 unfold Ky.lt
 by_cases e:a.p=b.p
 ·rw [if_pos e]
  have n:¬ a.p < b.p:=by rw [e];exact Rat.lt_irrefl
  by_cases k:a.v=b.v
  ·rw [if_pos k,decide_eq_true_eq]
   have n2:¬ a.v < b.v:=by omega
   exact ⟨λh=>.inr ⟨e,.inr ⟨k,h⟩⟩,λh=>by
    rcases h with h | ⟨_,h | h⟩
    ·exact absurd h n
    ·exact absurd h n2
    ·exact h.2⟩
  ·rw [if_neg k,decide_eq_true_eq]
   exact ⟨λh=>.inr ⟨e,.inl h⟩,λh=>by
    rcases h with h | ⟨_,h | h⟩
    ·exact absurd h n
    ·exact h
    ·exact absurd h.1 k⟩
 ·rw [if_neg e,decide_eq_true_eq]
  exact ⟨.inl,λh=>by
   rcases h with h | h
   ·exact h
   ·exact absurd h.1 e⟩
theorem Ky.HL (a:Ky):a.lt a=false:=by
 cases h:a.lt a with
 | false=>rfl
 | true =>
  rcases (Ky.lt_iff a a).mp h with h | ⟨_,h | ⟨_,h⟩⟩
  ·exact absurd h Rat.lt_irrefl
  ·omega
  ·exact absurd h (oP _)
theorem Ky.tr {a b c:Ky} (h:a.lt b=true) (k:b.lt c=true):a.lt c=true:=by
 rw [Ky.lt_iff] at *
 rcases h with h | ⟨e,h⟩ <;> rcases k with k | ⟨e',k⟩
 ·exact .inl (vB h k)
 ·exact .inl (e' ▸ h)
 ·exact .inl (e ▸ k)
 ·refine .inr ⟨e.trans e',?_⟩
  rcases h with h | ⟨z,h⟩ <;> rcases k with k | ⟨z',k⟩
  ·exact .inl (by omega)
  ·exact .inl (by omega)
  ·exact .inl (by omega)
  ·exact .inr ⟨z.trans z',pX h k⟩
theorem Ky.QJ {a b:Ky} (h:a.n≠b.n):a.lt b=true∨b.lt a=true:=by
 rw [Ky.lt_iff,Ky.lt_iff]
 by_cases e:a.p=b.p
 ·by_cases z:a.v=b.v
  ·rcases xT h with q | q
   ·exact .inl (.inr ⟨e,.inr ⟨z,q⟩⟩)
   ·exact .inr (.inr ⟨e.symm,.inr ⟨z.symm,q⟩⟩)
  ·rcases (by omega:a.v < b.v∨b.v < a.v) with q | q
   ·exact .inl (.inr ⟨e,.inl q⟩)
   ·exact .inr (.inr ⟨e.symm,.inl q⟩)
 ·rcases (by grind:a.p < b.p∨b.p < a.p) with q | q
  ·exact .inl (.inl q)
  ·exact .inr (.inl q)
theorem Ky.OF {a b:Ky} (h:a.lt b=true):b.lt a=false:=by
 cases k:b.lt a with
 | false=>rfl
 | true=>have:=Ky.tr h k;rw [Ky.HL] at this;cases this
def cI (ks:List Ky):List Ky:=ks.foldl (λacc x=>qA Ky.lt x acc) []
theorem jf (ks:List Ky) (x:Ky):cI (ks ++ [x])=qA Ky.lt x (cI ks):=by unfold cI;rw [VX];rfl
theorem snoc_ind {α:Type} {p:List α→Prop} (h0:p []) (h1:∀l x,p l→p (l ++ [x])) (l:List α):p l:=by
 have:∀l:List α,p l.reverse:=by
  intro l
  induction l with
  | nil=>exact h0
  | cons x l ih=>rw [List.reverse_cons];exact h1 _ _ ih
 have:=this l.reverse
 rwa [List.reverse_reverse] at this
theorem dN {α:Type} {l:List α} {x:α} (h:(l ++ [x]).Nodup):l.Nodup∧x ∉ l:=by
 rw [Vg] at h
 exact ⟨h.1,λhm=>h.2.2 x hm x (by simp) rfl⟩
theorem bM:∀(ks:List Ky) (x:Ky),x∈cI ks↔x∈ks:=by
 intro ks
 refine snoc_ind (p:=λks=>∀x:Ky,x∈cI ks↔x∈ks) (λx=>by simp [cI]) (λks y ih x=>?_) ks
 rw [jf,yK,ih,UB,UE]
 exact Or.comm
theorem fk {ks:List Ky} (h:(ks.map Ky.n).Nodup):qz Ky.lt (cI ks):=by
 revert h
 refine snoc_ind (p:=λks=>(ks.map Ky.n).Nodup→qz Ky.lt (cI ks)) (λ_=>List.Pairwise.nil) (λks y ih h=>?_) ks
 ·rw [Uy,UA,Va] at h
  obtain ⟨h1,h2⟩:=dN h
  rw [jf]
  refine Fy (lt:=Ky.lt) Ky.tr (ih h1) λx hx=>Ky.QJ λe=>h2 ?_
  rw [← e]
  exact V7 ((bM ks x).mp hx)
theorem je (ks:List Ky):(cI ks).length=ks.length:=by
 refine snoc_ind (p:=λks=>(cI ks).length=ks.length) rfl (λks y ih=>?_) ks
 rw [jf,Fx,ih,UR];rfl
theorem sF {ks js:List Ky} (h:(ks.map Ky.n).Nodup) (k:(js.map Ky.n).Nodup) (e:∀x,x∈ks↔x∈js):cI ks=cI js :=
 oS (lt:=Ky.lt) Ky.HL Ky.tr (fk h) (fk k) λx=>by rw [bM,bM];exact e x
def key (t:Rat) (x:Str × aM):Ky:=⟨x.2.at t,x.2.v,x.1⟩
def cQ (t:Rat) (fs:List (Str × aM)):List Str:=(cI (fs.map (key t))).map Ky.n
theorem cD (t:Rat) (fs:List (Str × aM)):(fs.map (key t)).map Ky.n=fs.map (·.1):=by rw [Ux];rfl
theorem zg {t:Rat} {fs:List (Str × aM)} {n:Str}:n∈cQ t fs↔n∈fs.map (·.1):=by
 rw [← cD t fs]
 unfold cQ
 rw [Uu,Uu]
 exact ⟨λ⟨x,h,e⟩=>⟨x,(bM _ _).mp h,e⟩,λ⟨x,h,e⟩=>⟨x,(bM _ _).mpr h,e⟩⟩
theorem sG (t:Rat) (fs:List (Str × aM)):(cQ t fs).length=fs.length:=by unfold cQ;rw [Us,je,Us]
theorem vH {l:List Ky} (s:qz Ky.lt l) (h:∀x∈l,∀y∈l,x.n=y.n→x=y):(l.map Ky.n).Nodup:=by
 refine List.pairwise_map.mpr (s.imp_of_mem λ{a b} ha hb hab e=>?_)
 have:=h a ha b hb e
 subst this
 rw [Ky.HL] at hab;cases hab
theorem n9 {ks:List Ky} (h:(ks.map Ky.n).Nodup):∀x∈ks,∀y∈ks,x.n=y.n→x=y:=by
 intro x hx y hy e
 obtain ⟨i,hi,rfl⟩:=U7 hx
 obtain ⟨j,hj,rfl⟩:=U7 hy
 have:=(Vl (xs:=ks.map Ky.n) (i:=i) (j:=j) (h₀:=by simpa using hi) (h₁:=by simpa using hj) h).mp (by rw [U_,U_];exact e)
 subst this;rfl
theorem sH {t:Rat} {fs:List (Str × aM)} (h:(fs.map (·.1)).Nodup):(cQ t fs).Nodup:=by
 rw [← cD t fs] at h
 exact vH (fk h) λx hx y hy e=>n9 h x ((bM _ _).mp hx) y ((bM _ _).mp hy) e
theorem Gm {t:Rat} {fs gs:List (Str × aM)} (h:(fs.map (·.1)).Nodup) (k:(gs.map (·.1)).Nodup) (e:∀x,x∈fs.map (key t)↔x∈gs.map (key t)):cQ t fs=cQ t gs:=by
 unfold cQ
 rw [sF (by rw [cD];exact h) (by rw [cD];exact k) e]
theorem dX {α β:Type} {fs:List (Str × α)} {f:α→β} (h:(fs.map (·.1)).Nodup) {n:Str} {l:α} (hm:(n,l)∈fs):L2.fA (fs.map λx=>(x.1,f x.2)) n=some (f l):=by
 induction fs with
 | nil=>cases hm
 | cons x fs ih =>
  rw [UA,Vu] at h
  rw [UA,L2.lA]
  rcases UH.mp hm with e | e
  ·subst e;rw [if_pos rfl]
  ·have ne:x.1≠n:=λz=>h.1 (by rw [z];exact V7 (f:=λx:Str × α=>x.1) e)
   rw [if_neg ne];exact ih h.2 e
theorem oX {α β:Type} {fs:List (Str × α)} {f:α→β} (h:(fs.map (·.1)).Nodup) {n:Str} (hm:n∈fs.map (·.1)):∃l,(n,l)∈fs∧L2.fA (fs.map λx=>(x.1,f x.2)) n=some (f l):=by
 obtain ⟨⟨m,l⟩,hx,rfl⟩:=Uu.mp hm
 exact ⟨l,hx,dX h hx⟩
theorem Kh {α β:Type} {fs:List (Str × α)} {f:α→β} {n:Str} (hm:n ∉ fs.map (·.1)):L2.fA (fs.map λx=>(x.1,f x.2)) n=none:=by
 induction fs with
 | nil=>rfl
 | cons x fs ih =>
  rw [UA,L2.lA]
  rw [UA,UH,not_or] at hm
  rw [if_neg (λe=>hm.1 e.symm)];exact ih hm.2
theorem vK {α β:Type} {fs:List (Str × α)} {f:α→β} {n:Str} (h:(fs.map (·.1)).Nodup):(L2.fA (fs.map λx=>(x.1,f x.2)) n).isSome=decide (n∈fs.map (·.1)):=by
 by_cases hm:n∈fs.map (·.1)
 ·obtain ⟨l,_,e⟩:=oX (f:=f) h hm
  rw [e,decide_eq_true hm];rfl
 ·rw [Kh hm,decide_eq_false hm];rfl
theorem mR {α β:Type} {fs:List (Str × α)} {f:α→β} {n:Str} {l:α} (hm:n ∉ fs.map (·.1)):L2.lR (fs.map λx=>(x.1,f x.2)) n (f l)=(fs ++ [(n,l)]).map λx=>(x.1,f x.2):=by
 unfold L2.lR
 rw [if_neg,Uy]
 ·rfl
 ·intro h
  rw [V3] at h
  obtain ⟨y,hy,e⟩:=h
  obtain ⟨x,hx,rfl⟩:=Uu.mp hy
  exact hm (by rw [← of_decide_eq_true e];exact V7 (f:=λx:Str × α=>x.1) hx)
def PP:Nat:=1000000 * iF + 1000 * MM
structure tY (l:aM):Prop where
 m0:0≤l.m
 m:Sc iF MM l.m
 p:∃a:Int,l.p * (iF:Rat)=(a:Rat)
 b0:-(1000000 + 1000 * l.m)≤l.p
 b1:l.p≤1000000 + 1000 * l.m
 v:l.v.natAbs≤1000
theorem O7:(0:Rat) < (iF:Rat):=by
 have:((0:Nat):Rat) < ((iF:Nat):Rat):=Rat.natCast_lt_natCast.mpr wt
 simpa using this
theorem tY.sc {l:aM} (h:tY l):Sc iF PP l.p:=by
 obtain ⟨a,ha⟩:=h.p
 obtain ⟨k,hk,hk1⟩:=h.m
 have hL:=O7
 have b0:=h.b0
 have b1:=h.b1
 have e1:(a:Rat)≤(((1000000 * iF + 1000 * k:Int)):Rat):=by
  rw [← ha,Rat.intCast_add,Rat.intCast_mul,Rat.intCast_mul,← hk]
  have:l.p * (iF:Rat)≤(1000000 + 1000 * l.m) * (iF:Rat):=Rat.mul_le_mul_of_nonneg_right b1 (Rat.le_of_lt hL)
  have e:(((iF:Nat):Int):Rat)=(iF:Rat):=rfl
  rw [e]
  grind
 have e2:(((-(1000000 * iF + 1000 * k):Int)):Rat)≤(a:Rat):=by
  rw [← ha,Rat.intCast_neg,Rat.intCast_add,Rat.intCast_mul,Rat.intCast_mul,← hk]
  have:-(1000000 + 1000 * l.m) * (iF:Rat)≤l.p * (iF:Rat):=Rat.mul_le_mul_of_nonneg_right b0 (Rat.le_of_lt hL)
  have e:(((iF:Nat):Int):Rat)=(iF:Rat):=rfl
  rw [e]
  grind
 have e1:=Rat.intCast_le_intCast.mp e1
 have e2:=Rat.intCast_le_intCast.mp e2
 refine ⟨a,ha,?_⟩
 unfold PP
 have:(k:Int)≤MM:=by omega
 have:-(MM:Int)≤k:=by omega
 omega
theorem P0:PP < 2 ^ 120:=by decide
theorem tY.Oh {l:aM} (h:tY l):Sz 120 l.p:=h.sc.sz wt (by decide) P0
theorem tY.TX {l:aM} (h:tY l):Sz 120 l.m:=(mh h.m).mono (by decide)
theorem tY.at {l:aM} {t:Rat} {v:Int} (h:tY l) (h0:l.m≤t) (ht:Sc iF MM t) (hv:v.natAbs≤1000):tY ⟨t,l.at t,v⟩:=by
 have hm:=h.m0
 have t0:0≤t:=Rat.le_trans hm h0
 have d0:0≤t - l.m:=by grind
 have v1:(l.v:Rat)≤1000:=by
  have:((l.v:Int):Rat)≤((1000:Int):Rat):=Rat.intCast_le_intCast.mpr (by have:=h.v;omega)
  exact this
 have v2:-1000≤(l.v:Rat):=by
  have:((-1000:Int):Rat)≤((l.v:Int):Rat):=Rat.intCast_le_intCast.mpr (by have:=h.v;omega)
  exact this
 have m1:(t - l.m) * (l.v:Rat)≤(t - l.m) * 1000:=Rat.mul_le_mul_of_nonneg_left v1 d0
 have m2:(t - l.m) * (-1000)≤(t - l.m) * (l.v:Rat):=Rat.mul_le_mul_of_nonneg_left v2 d0
 have b0:=h.b0
 have b1:=h.b1
 refine ⟨t0,ht,?_,?_,?_,hv⟩
 ·obtain ⟨a,ha⟩:=h.p
  obtain ⟨k,hk,_⟩:=h.m
  obtain ⟨j,hj,_⟩:=ht
  refine ⟨a + (j - k) * l.v,?_⟩
  unfold aM.at
  dsimp only
  rw [Rat.intCast_add,Rat.intCast_mul,Rat.intCast_sub,← ha,← hk,← hj]
  grind
 ·show -(1000000 + 1000 * t)≤l.p + (t - l.m) * (l.v:Rat)
  grind
 ·show l.p + (t - l.m) * (l.v:Rat)≤1000000 + 1000 * t
  grind
theorem tY.new {t:Rat} {p v:Int} (t0:0≤t) (ht:Sc iF MM t) (hp:p.natAbs≤1000000) (hv:v.natAbs≤1000):tY ⟨t,(p:Rat),v⟩:=by
 have p1:(p:Rat)≤1000000:=by
  have:((p:Int):Rat)≤((1000000:Int):Rat):=Rat.intCast_le_intCast.mpr (by omega)
  exact this
 have p2:-1000000≤(p:Rat):=by
  have:((-1000000:Int):Rat)≤((p:Int):Rat):=Rat.intCast_le_intCast.mpr (by omega)
  exact this
 refine ⟨t0,ht,⟨p * iF,by rw [Rat.intCast_mul];rfl⟩,?_,?_,hv⟩
 ·show -(1000000 + 1000 * t)≤(p:Rat)
  grind
 ·show (p:Rat)≤1000000 + 1000 * t
  grind
def Dw (b:aO) (l:List aO):List aO:=if b∈l then l else kq b l
theorem ve {b x:aO} {l:List aO}:x∈kq b l↔x=b∨x∈l:=yK (lt:=aO.lt)
theorem ET {b x:aO} {l:List aO}:x∈Dw b l↔x=b∨x∈l:=by
 unfold Dw
 split
 ·rename_i h
  exact ⟨.inr,λz=>by rcases z with rfl | z;exact h;exact z⟩
 ·exact ve
theorem EU {b:aO} {l:List aO} (s:j2 l):j2 (Dw b l):=by
 unfold Dw
 split
 ·exact s
 ·rename_i h
  exact yJ s λx hx e=>h (e ▸ hx)
def wR (bs:List aO):List aO:=bs.foldl (λacc b=>Dw b acc) []
theorem vp (bs:List aO) (b:aO):wR (bs ++ [b])=Dw b (wR bs):=by unfold wR;rw [VX];rfl
theorem Gj (bs:List aO) (x:aO):x∈wR bs↔x∈bs:=by
 refine snoc_ind (p:=λbs=>∀x:aO,x∈wR bs↔x∈bs) (λx=>by simp [wR]) (λbs y ih x=>?_) bs x
 rw [vp,ET,ih,UB,UE]
 exact Or.comm
theorem Gk (bs:List aO):j2 (wR bs):=by
 refine snoc_ind (p:=λbs=>j2 (wR bs)) List.Pairwise.nil (λbs y ih=>?_) bs
 rw [vp];exact EU ih
theorem tS {l k:List aO} (h:j2 l) (h':j2 k) (e:∀x,x∈l↔x∈k):l=k:=oS (lt:=aO.lt) aO.MF aO.lt_trans h h' e
def fh (t:Rat) (a b:Ky):Rat:=t + (b.p - a.p) / ((a.v - b.v:Int):Rat)
def jR (t:Rat) (a b:Ky):aO:=⟨fh t a b,a.n,b.n⟩
def gU (t:Rat) (ks:List Ky) (m:Rat):List aO:=wR (((ks.flatMap λa=>ks.map λb=>(a,b)).filter λp=>decide (p.2.v < p.1.v∧p.1.p < p.2.p∧fh t p.1 p.2≤m)).map λp=>jR t p.1 p.2)
theorem lO {t m:Rat} {ks:List Ky} {x:aO}:x∈gU t ks m↔∃a∈ks,∃b∈ks,b.v < a.v∧a.p < b.p∧fh t a b≤m∧x=jR t a b:=by
 unfold gU
 rw [Gj,Uu]
 constructor
 ·rintro ⟨⟨a,b⟩,h,rfl⟩
  rw [UI,VL] at h
  obtain ⟨⟨c,hc,h1⟩,h2⟩:=h
  obtain ⟨d,hd,e⟩:=Uu.mp h1
  cases e
  have h2:=of_decide_eq_true h2
  exact ⟨_,hc,_,hd,h2.1,h2.2.1,h2.2.2,rfl⟩
 ·rintro ⟨a,ha,b,hb,h1,h2,h3,rfl⟩
  exact ⟨(a,b),UI.mpr ⟨VL.mpr ⟨a,ha,Uu.mpr ⟨b,hb,rfl⟩⟩,decide_eq_true ⟨h1,h2,h3⟩⟩,rfl⟩
theorem lP (t m:Rat) (ks:List Ky):j2 (gU t ks m):=Gk _
theorem ya {α:Type} {l:List α} {a b:α}:(a,b)∈l.zip l.tail↔∃i:Nat,l[i]?=some a∧l[i + 1]?=some b:=by
 constructor
 ·intro h
  obtain ⟨i,hi⟩:=UO.mp h
  obtain ⟨h1,h2⟩:=Vr.mp hi
  exact ⟨i,h1,by rw [V_] at h2;exact h2⟩
 ·rintro ⟨i,h1,h2⟩
  exact UO.mpr ⟨i,Vr.mpr ⟨h1,by rw [V_];exact h2⟩⟩
theorem Eh {t m:Rat} {ks js:List Ky} (e:∀x,x∈ks↔x∈js):gU t ks m=gU t js m :=
 tS (lP _ _ _) (lP _ _ _) λx=>by
  rw [lO,lO]
  constructor
  ·rintro ⟨a,ha,b,hb,r⟩;exact ⟨a,(e a).mp ha,b,(e b).mp hb,r⟩
  ·rintro ⟨a,ha,b,hb,r⟩;exact ⟨a,(e a).mpr ha,b,(e b).mpr hb,r⟩
def jU (l l':aM):Rat:=(l'.at 0 - l.at 0) / ((l.v - l'.v:Int):Rat)
theorem Hl {a b:Int} (h:a≠b):((a - b:Int):Rat)≠0:=by
 intro e
 have:(a - b:Int)=0:=by exact_mod_cast (show ((a - b:Int):Rat)=((0:Int):Rat) from e)
 omega
theorem qV {t:Rat} {n n':Str} {l l':aM} (h:l.v≠l'.v):jU l l'=fh t (key t (n,l)) (key t (n',l')):=by
 have k:=Hl h
 unfold jU fh key aM.at
 dsimp only
 rw [Rat.intCast_sub] at *
 grind
theorem sU {a b:Rat} (ha:0 < a) (hb:0 < b):0 < a / b:=by
 have e:a / b * b=a:=by grind
 rcases Rat.le_total (a:=a / b) (b:=0) with h | h
 ·have:=Rat.mul_le_mul_of_nonneg_right h (Rat.le_of_lt hb)
  rw [e,Rat.zero_mul] at this
  exact absurd ha (Rat.not_lt.mpr this)
 ·rcases (by grind:a / b=0∨0 < a / b) with h | h
  ·rw [h,Rat.zero_mul] at e;rw [← e] at ha;exact absurd ha Rat.lt_irrefl
  ·exact h
def pD (t:Rat) (l l':aM):Option Rat:=if l.v≠l'.v∧t < jU l l' then some (jU l l') else none
theorem IM {t:Rat} {n n':Str} {l l':aM} (h:(key t (n,l)).lt (key t (n',l'))=true):(l.v≠l'.v∧t < jU l l')↔(l'.v < l.v∧l.at t < l'.at t):=by
 rw [Ky.lt_iff] at h
 unfold key at h
 dsimp only at h
 constructor
 ·rintro ⟨h1,h2⟩
  rw [qV (t:=t) (n:=n) (n':=n') h1] at h2
  unfold fh key at h2
  dsimp only at h2
  have k:=Hl h1
  have h3:0 < (l'.at t - l.at t) / ((l.v - l'.v:Int):Rat):=by grind
  have hp:l.at t≠l'.at t:=by
   intro e
   rw [e] at h3
   have:(l'.at t - l'.at t) / ((l.v - l'.v:Int):Rat)=0:=by grind
   rw [this] at h3
   exact absurd h3 Rat.lt_irrefl
  have hlt:l.at t < l'.at t:=by
   rcases h with h | ⟨h,_⟩
   ·exact h
   ·exact absurd h hp
  refine ⟨?_,hlt⟩
  rcases (by omega:l'.v < l.v∨l.v < l'.v) with q | q
  ·exact q
  ·exfalso
   have hn:((l.v - l'.v:Int):Rat) < 0:=by
    have:((l.v - l'.v:Int):Rat) < ((0:Int):Rat):=Rat.intCast_lt_intCast.mpr (by omega)
    exact this
   have hd:0 < l'.at t - l.at t:=by grind
   have e:(l'.at t - l.at t) / ((l.v - l'.v:Int):Rat) * ((l.v - l'.v:Int):Rat)=l'.at t - l.at t:=by grind
   generalize (l'.at t - l.at t) / ((l.v - l'.v:Int):Rat)=z at h3 e
   have:z * ((l.v - l'.v:Int):Rat) < 0:=by
    have:=Rat.mul_lt_mul_of_pos_left hn h3
    rwa [Rat.mul_zero] at this
   grind
 ·rintro ⟨h1,h2⟩
  have hne:l.v≠l'.v:=by omega
  refine ⟨hne,?_⟩
  rw [qV (t:=t) (n:=n) (n':=n') hne]
  unfold fh key
  dsimp only
  have hpos:0 < ((l.v - l'.v:Int):Rat):=by
   have:((0:Int):Rat) < ((l.v - l'.v:Int):Rat):=Rat.intCast_lt_intCast.mpr (by omega)
   exact this
  have hd:0 < l'.at t - l.at t:=by grind
  have:0 < (l'.at t - l.at t) / ((l.v - l'.v:Int):Rat):=sU hd hpos
  grind
end Ov
namespace Ov
def l_ (t:Rat) (c:Ky × Ky→Bool) (rows:List aO) (p:Ky × Ky):List aO:=if c p=true then kq (jR t p.1 p.2) (dF p.1.n p.2.n rows) else rows
def cb (t:Rat) (c:Ky × Ky→Bool) (ps:List (Ky × Ky)):List aO:=ps.foldl (l_ t c) []
theorem fH (t:Rat) (c:Ky × Ky→Bool) (ps:List (Ky × Ky)) (p:Ky × Ky):cb t c (ps ++ [p])=l_ t c (cb t c ps) p:=by unfold cb;rw [VX];rfl
theorem lK (t:Rat) (c:Ky × Ky→Bool) (ps:List (Ky × Ky)):j2 (cb t c ps):=by
 refine snoc_ind (p:=λps=>j2 (cb t c ps)) List.Pairwise.nil (λl x ih=>?_) ps
 rw [fH]
 unfold l_
 split
 ·exact yJ (uX ih) Iy
 ·exact ih
theorem DF (t:Rat) (c:Ky × Ky→Bool) (ps:List (Ky × Ky)):(cb t c ps).length≤ps.length:=by
 refine snoc_ind (p:=λps=>(cb t c ps).length≤ps.length) (UC _) (λl x ih=>?_) ps
 rw [fH,UR]
 unfold l_
 split
 ·rw [r_]
  have:=pd x.1.n x.2.n (cb t c l)
  simp only [UT,VR];omega
 ·omega
theorem lL {t:Rat} {c:Ky × Ky→Bool} {x:aO} (ps:List (Ky × Ky)):x∈cb t c ps→∃p∈ps,c p=true∧x=jR t p.1 p.2:=by
 refine snoc_ind (p:=λps=>x∈cb t c ps→∃p∈ps,c p=true∧x=jR t p.1 p.2) (λh=>by cases h) (λl y ih h=>?_) ps
 rw [fH] at h
 unfold l_ at h
 split at h
 ·rename_i hc
  rcases Fw h with e | h
  ·exact ⟨y,by simp,hc,e⟩
  ·obtain ⟨p,hp,k⟩:=ih (UI.mp h).1
   exact ⟨p,UB.mpr (.inl hp),k⟩
 ·obtain ⟨p,hp,k⟩:=ih h
  exact ⟨p,UB.mpr (.inl hp),k⟩
def yt (ps:List (Ky × Ky)):Prop:=∀p∈ps,∀q∈ps,p.1.n=q.1.n→p.2.n=q.2.n→p=q
theorem vc {t:Rat} {c:Ky × Ky→Bool} {x:aO} (ps:List (Ky × Ky)):yt ps→(x∈cb t c ps↔∃p∈ps,c p=true∧x=jR t p.1 p.2):=by
 refine snoc_ind (p:=λps=>yt ps→(x∈cb t c ps↔∃p∈ps,c p=true∧x=jR t p.1 p.2)) (λ_=>Iff.intro (λh=>nomatch h) (λh=>by obtain ⟨_,h,_⟩:=h;cases h)) (λl y ih inj=>?_) ps
 have ih:=ih λp hp q hq=>inj p (UB.mpr (.inl hp)) q (UB.mpr (.inl hq))
 refine ⟨lL _,?_⟩
 rintro ⟨p,hp,hc,rfl⟩
 rw [fH]
 unfold l_
 have hold:p∈l→jR t p.1 p.2∈cb t c l:=λh=>ih.mpr ⟨p,h,hc,rfl⟩
 split
 ·rename_i hy
  rw [ve]
  by_cases e:p=y
  ·left;rw [e]
  ·right
   have hl:p∈l:=by
    rcases UB.mp hp with h | h
    ·exact h
    ·exact absurd (by simpa using h) e
   refine UI.mpr ⟨hold hl,?_⟩
   unfold vD
   have:¬ ((jR t p.1 p.2).h=y.1.n∧(jR t p.1 p.2).f=y.2.n):=λz=>e (inj p hp y (by simp) z.1 z.2)
   rw [decide_eq_false this];rfl
 ·rename_i hy
  rcases UB.mp hp with h | h
  ·exact hold h
  ·have:p=y:=by simpa using h
   subst this;exact absurd hc hy
theorem DG {t:Rat} {c:Ky × Ky→Bool} {ps:List (Ky × Ky)} {p:Ky × Ky} (inj:yt (ps ++ [p])) (h:p ∉ ps):dF p.1.n p.2.n (cb t c ps)=cb t c ps:=by
 unfold dF
 refine U8.mpr λx hx=>?_
 obtain ⟨q,hq,_,rfl⟩:=lL _ hx
 unfold vD
 have:¬ ((jR t q.1 q.2).h=p.1.n∧(jR t q.1 q.2).f=p.2.n):=λz=>by
  have:=inj q (UB.mpr (.inl hq)) p (by simp) z.1 z.2
  subst this;exact h hq
 rw [decide_eq_false this];rfl
theorem yt.of {ks:List Ky} (h:(ks.map Ky.n).Nodup) {ps:List (Ky × Ky)} (hp:∀p∈ps,p.1∈ks∧p.2∈ks):yt ps:=λp h1 q h2 e1 e2=>by
 have a:=n9 h p.1 (hp p h1).1 q.1 (hp q h2).1 e1
 have b:=n9 h p.2 (hp p h1).2 q.2 (hp q h2).2 e2
 cases p;cases q;simp only at a b;rw [a,b]
def zS (ks:List Ky):Nat→List (Ky × Ky)
 | 0=>[]
 | i + 1=>zS ks i ++ (match ks[i]? with | some a=>(ks.drop (i + 1)).map λb=>(a,b) | none=>[])
theorem oW {ks:List Ky} {p:Ky × Ky}:∀{i:Nat},p∈zS ks i↔∃i' j,i' < i∧i' < j∧ks[i']?=some p.1∧ks[j]?=some p.2
 | 0=>⟨λh=>(by cases h),λ⟨_,_,h,_⟩=>by omega⟩
 | i + 1=>by
  unfold zS
  rw [UB,oW (i:=i)]
  constructor
  ·rintro (⟨i',j,h1,h⟩ | h)
   ·exact ⟨i',j,by omega,h⟩
   ·cases e:ks[i]? with
    | none=>rw [e] at h;cases h
    | some a =>
     rw [e] at h
     obtain ⟨b,hb,rfl⟩:=Uu.mp h
     obtain ⟨j,hj⟩:=UO.mp hb
     rw [V'] at hj
     exact ⟨i,_,by omega,by omega,e,hj⟩
  ·rintro ⟨i',j,h1,h2,h3,h4⟩
   by_cases e:i' < i
   ·exact .inl ⟨i',j,e,h2,h3,h4⟩
   ·have:i'=i:=by omega
    subst this
    right
    rw [h3]
    refine Uu.mpr ⟨p.2,UO.mpr ⟨j - (i' + 1),?_⟩,rfl⟩
    rw [V',show i' + 1 + (j - (i' + 1))=j by omega];exact h4
def bZ (t m:Rat) (p:Ky × Ky):Bool:=decide (p.2.v < p.1.v∧p.1.p < p.2.p∧fh t p.1 p.2≤m)
theorem Kg {t m:Rat} {ks:List Ky} (h:(ks.map Ky.n).Nodup):cb t (bZ t m) (zS (cI ks) (cI ks).length)=gU t ks m:=by
 have hs:=fk h
 have hn:((cI ks).map Ky.n).Nodup:=vH hs (λx hx y hy e=>n9 h x ((bM _ _).mp hx) y ((bM _ _).mp hy) e)
 refine tS (lK _ _ _) (lP _ _ _) λx=>?_
 rw [vc _ (yt.of hn λp hp=>by
  obtain ⟨i,j,_,_,h3,h4⟩:=oW.mp hp
  exact ⟨Uz h3,Uz h4⟩),lO]
 constructor
 ·rintro ⟨p,hp,hc,rfl⟩
  obtain ⟨i,j,_,_,h3,h4⟩:=oW.mp hp
  have hc:=of_decide_eq_true hc
  exact ⟨p.1,(bM _ _).mp (Uz h3),p.2,(bM _ _).mp (Uz h4),hc.1,hc.2.1,hc.2.2,rfl⟩
 ·rintro ⟨a,ha,b,hb,h1,h2,h3,rfl⟩
  obtain ⟨i,hi⟩:=UO.mp ((bM _ _).mpr ha)
  obtain ⟨j,hj⟩:=UO.mp ((bM _ _).mpr hb)
  have hab:a.lt b=true:=(Ky.lt_iff a b).mpr (.inl h2)
  have hij:i < j:=by
   obtain ⟨hil,ei⟩:=Uv.mp hi
   obtain ⟨hjl,ej⟩:=Uv.mp hj
   rcases WD i j with z | z | z
   ·exact z
   ·subst z;rw [ei] at ej;subst ej;rw [Ky.HL] at hab;cases hab
   ·have:=Vh.mp hs j i hjl hil z
    rw [ei,ej] at this
    rw [Ky.OF this] at hab;cases hab
  exact ⟨(a,b),oW.mpr ⟨i,j,(Uv.mp hi).1,hij,hi,hj⟩,decide_eq_true ⟨h1,h2,h3⟩,rfl⟩
theorem yx {t m:Rat} {ks:List Ky} (h:(ks.map Ky.n).Nodup):cb t (bZ t m) (ks.flatMap λa=>ks.map λb=>(a,b))=gU t ks m:=by
 have hm:∀p:Ky × Ky,p∈(ks.flatMap λa=>ks.map λb=>(a,b))↔p.1∈ks∧p.2∈ks:=λp=>by
  rw [VL]
  constructor
  ·rintro ⟨a,ha,hb⟩
   obtain ⟨b,hb',rfl⟩:=Uu.mp hb
   exact ⟨ha,hb'⟩
  ·rintro ⟨ha,hb⟩
   exact ⟨p.1,ha,Uu.mpr ⟨p.2,hb,rfl⟩⟩
 refine tS (lK _ _ _) (lP _ _ _) λx=>?_
 rw [vc _ (yt.of h λp hp=>(hm p).mp hp),lO]
 constructor
 ·rintro ⟨p,hp,hc,rfl⟩
  have hc:=of_decide_eq_true hc
  exact ⟨p.1,((hm p).mp hp).1,p.2,((hm p).mp hp).2,hc.1,hc.2.1,hc.2.2,rfl⟩
 ·rintro ⟨a,ha,b,hb,h1,h2,h3,rfl⟩
  exact ⟨(a,b),(hm _).mpr ⟨ha,hb⟩,decide_eq_true ⟨h1,h2,h3⟩,rfl⟩
end Ov
namespace L2
open PySem PySem.Spec PyProof.Rows PySem.Builtin PySem.Builtin.Str
section
variable {X:Cx}
end
end L2
namespace Ov
open PySem PySem.Spec PyProof.Rows
open L2 (V HO Hp Inv Cx VK XK TE TT TA TS TG mF TI TO gw Ends rL Loc Gl Rd RelV Vals fw qO bS nj oY md gu R2 upd aZ aW dY f' Sp nA It cA b7 bR Passes ma aK Meth Mk Binds aS bU aw c4 fe dR)
section
variable {X:Cx} {G:G2}
def KS:zQ:=λxs J Q=>AK xs λx=>EG x λy=>y.length≤sizeLine∧Q (.int y.length) J
theorem BS:HG X (.builtin "len") KS:=⟨_,L2.wb,λJ H xs vs Q2 Q rs r h k=>by
 obtain ⟨x,ex,h⟩:=gS h;obtain ⟨y,ey,hl,q⟩:=iI h
 subst ex ey;obtain ⟨v,us,rfl,rv,e⟩:=rs;cases e;cases rv
 exact ⟨y,rfl,hl,k (.int _) J _ H rfl r .refl q⟩⟩
def GQ (P:Addr) (tx:Str) (ti:dq):dq:=λτ J Q=>ti τ J λx J1=>EG x λy=>J1 P=some .tab∧Q (.bl (y.cps.toList.all (fv tx))) J1
theorem GX {c P:Addr} {x g:Str} {p px p1 p2 p3 gpos cpos:Pos} {iter:Expr} {ti:dq} {scope:Scope} {tx:Str} {tt:Tok} {k:Nat} (hcalm:X.calm=true) (Bm:BMain X.mg X.base) (hcode:X.env.code=.ref c) (Z:uN X.K c P) (hr:bR k X.A)
  (hgl:Gl X "all") (hma:X.mg "all"=none) (hsg:X.mg g=some (.str tx tt)) (hi:RE X G iter ti) (sck:scope.kind=.function:=by rfl) (hco:scope.isCoroutine=false:=by rfl) (hclos:closureFor scope X.env=pure []:=by rfl) (hcell:∀y∈scope.names,y.2≠.cell:=by decide)
  (h0:scope.names.lookup (".0":Str)=some NameKind.local:=by rfl) (hx:scope.names.lookup x=some .local:=by rfl) (hsc:scope.names.lookup g=some .globalImplicit:=by rfl) (hmk:behindInMarks .In (.Name g p2)=false:=by with_unfolding_all rfl) (hs:∀x,genFold iter X.env x=pure x:=by intro _;rfl)
  (hst:starEach [.GeneratorExp (.Compare (.Name x p1) [.In] [.Name g p2] p3) [⟨.Name x px,iter,[],0⟩] scope gpos] X.env=[(false,eval (.GeneratorExp (.Compare (.Name x p1) [.In] [.Name g p2] p3) [⟨.Name x px,iter,[],0⟩] scope gpos) X.env)]:=by rfl)
  (hdx:(x == ("__debug__":Str))=false:=by decide) (hdg:(g == ("__debug__":Str))=false:=by decide) :
  RE X G (.Call (.Name "all" p) [.GeneratorExp (.Compare (.Name x p1) [.In] [.Name g p2] p3) [⟨.Name x px,iter,[],0⟩] scope gpos] [] cpos) (GQ P tx ti) :=
 ⟨kM (Ej hcalm Bm hcode Z (by have:=hr.dp;omega) hgl hma hsg hi.run sck hco hclos hcell h0 hx hsc hmk hs hst hdx hdg) λσ H Q ⟨τ,J,Q2,a2,h,k⟩=>⟨τ,J,_,a2,h,λx J1 v H1 rx r1 e1 hh=>by
  obtain ⟨y,ex,hP,q⟩:=iI hh
  subst ex;cases rx
  exact ⟨y,rfl,r1 _ _ hP,k (.bl _) J1 _ H1 rfl r1 e1 q⟩⟩⟩
end
section
variable {P:Program} {w:World} {K:PySem.W.Frag} {mg:Str→Option Value} {base:Heap}
theorem Sl {x:Str} {st:Stmt} {T f c:Addr} {fd:FuncData} {N ps:List Str} {k:Nat} {sp:cq} (F:Ie K mg x st T f fd c) (S:aw N ps (L2.au st)) (len:∀xs J Q E,sp xs J Q E→xs.length=ps.length)
  (hbody:∀(A:Around) (outer:List Env) (s:Shared) (H:Hp) (E:XK) (G:G2) (xs:List PV) (J:Hq) (Q:PV→Hq→Prop) (E2:Addr→Hq→Prop),bR k (A.deeper (envOfC x (L2.au st) s.heap.objs.size f (.ref c)))→sp xs J Q E2 →
   Dm (yc P w K mg base N x (L2.au st) f (.ref c) A outer s H E) G E2 E →
   ∃t,RB (yc P w K mg base N x (L2.au st) f (.ref c) A outer s H E) G (L2.cg st) t∧t { nx:=λ_ J'=>Q .non J',rt:=Q } (tU N xs) J):aS P w K mg base (cn P w) (k + 1) f fd ps (cK K sp):=by
 obtain ⟨oc,od,kV,doc,pm,an,cdv,ct,osl,rfl,lk,hcd⟩:=F.fn.ex
 obtain rfl:cdv=.ref c:=F.code
 refine L2.Fd lk hcd S (λvs H Q E ⟨xs,J,Q2,E2,a,_,b,_⟩=>by rw [← a.length];exact len _ _ _ _ b) λA outer s H vs Q E hr ⟨xs,J,Q2,E2,rs,rr,hs,kn,ke⟩=>?_
 obtain ⟨t,hb,q⟩:=hbody A outer s H E (J,H) xs J Q2 E2 hr hs ⟨rQ,ke⟩
 refine ⟨_,hb.run,tU N xs,J,_,⟨zN rs,rr,.refl⟩,q,?_⟩
 exact { nx:=λτ J' σ H' _ r e q=>kn .non J' .non H' rfl r e q,rt:=λx J' v H' rx r e q=>kn x J' v H' rx r e q,bk:=λ_ _ _ _ _ _ _ q=>q.elim,ct:=λ_ _ _ _ _ _ _ q=>q.elim }
theorem zZ.cU {x:Str} {st:Stmt} {T:Addr} {k:Nat} {ps:List Str} {sp:cq} (D:zZ K mg x st T)
  (h:∀f fd c,Ie K mg x st T f fd c→aS P w K mg base (cn P w) k f fd ps (cK K sp))
  (hb:∀(kV doc pm:Value) (an:Option Addr) (cdv ct:Value) (us:List Value),us.length=ps.length→bindArgs (PySem.W.fnOf x x (L2.dZ st) (L2.cg st) (L2.au st) .none kV doc pm an cdv ct) ⟨us,[]⟩=pure (ps.zip us)) :
  bj P w K mg base k x ps sp:=by
 obtain ⟨f,fd,c,F⟩:=D
 exact ⟨f,fd,h f fd c F,F.fn.binds hb,F.fn.kp,F.mg⟩
end
end Ov
namespace L2
open PySem PySem.Spec PyProof.Rows
end L2
namespace Ov
open PySem PySem.Spec PyProof.Rows
open L2 (V HO Hp Inv Cx VK XK TE TT TA TS TG mF TI TO gw Ends rL Loc Gl Rd RelV Vals fw qO bS nj oY md gu R2 upd aZ aW dY f' Sp nA It cA b7 bR Passes ma aK Meth Mk Binds aS bU aw c4 fe dR fA lR yE nq)
end Ov
namespace Ov
open PySem PySem.Spec PyProof.Rows L2
section
variable {X:Cx}
theorem P1 {kx vx iter:Expr} {ifs:List Expr} {x y:Str} {px py:Pos} {sc:Scope} {pos spos:Pos} {wi:TI} {tk te:TE} {tc:TT} {i:Nat} (osc:Scope) (N:List Str) (ks:List (Str × Nat)) (hc:X.calm=true) (ho:X.env.scope=osc) (hN:X.N=N) (hnd:X.N.Nodup) (hy:X.N[i]?=some y) (hl:Loc X.env.scope y) (hi:PI X (.Name x px) iter wi)
  (hk:∀cl C s₀ H₀ fp pins,PE (fW X sc cl C x ks s₀ H₀ fp pins) kx tk) (he:∀cl C s₀ H₀ fp pins,PE (fW X sc cl C x ks s₀ H₀ fp pins) vx te) (hcn:∀cl C s₀ H₀ fp pins,HH (fW X sc cl C x ks s₀ H₀ fp pins) ifs tc) (ok:cX sc osc N x ks:=by decide +kernel) (hs:∀x,foldedSetIterable iter X.env x=pure x:=by intro _;rfl)
  (hsw:swapsWith (.DictComp kx vx [⟨.Name x px,iter,ifs,0⟩] sc pos) (some (.Name y py)) spos.line X.env=pure true:=by rfl) (hf:X.fn y=true∨X.env.scope.names.lookup y=some .local:=by first | exact .inl rfl | exact .inr rfl | assumption) :
  PS X (.Assign [.Name y py] (.DictComp kx vx [⟨.Name x px,iter,ifs,0⟩] sc pos) spos) (λD σ H=>SR wi ks tc tk te σ H λv H1=>D.nx (σ.set i (some v)) H1):=by
 intro pins s σ H Dn I hw
 obtain ⟨cl,hcl,h1,h2⟩:=jx (n_ ok I ho)
 have ok':cX sc X.env.scope X.N x ks:=by rw [ho,hN];exact ok
 rw [exec_Assign_Name_used _ _ _ _ hsw]
 refine wpAny_bind (wpAny_standAt (wpAny_bind ?_))
 show wpAny _ X.A (do let _ ← comprehension (.DictComp kx vx [⟨.Name x px,iter,ifs,0⟩] sc pos) sc X.env _ newDict false (eval iter X.env) (some (assign (.Name y py) X.env))) _ _ s
 refine wpAny_bind (wpAny_mono (wpAny_comprehension_free (use:=some (assign (.Name y py) X.env)) (Q:=λ_ s'=>SP X pins Dn .next s') rfl hs hcl ok.1 ok.2.2.2.1
  (cM (hi pins s σ H _ I hw) λv s1 h3=>cM h3 λitv s2 h4=>?_)) (λ_ s' hq=>wpAny_pure (wpAny_pure hq)) λ_ _ e=>e)
 obtain ⟨it,fp,tn,J,H2,rfl,I2,T,st2,f2,hR⟩:=h4
 refine vC (Q:=λv H1=>Dn.nx (σ.set i (some v)) H1) (RR:=λacc C=>compPost (model X.prog X.w) X.A X.xe (some (assign (.Name y py) X.env)) (λ_ s'=>SP X pins Dn .next s') acc C) hc ok' h1 h2 hk he hcn I2 T st2 f2 hR ?_
 intro D C s' H' m J' q hn hC cl' cs cc cp
 show wpAny _ X.A (assign (.Name y py) X.env (.ref D)) _ _ _
 refine wpAny_assign_Name (p6 J' hnd hy hl (v:=.ref D) rfl (λs'' J'' ⟨a,hsb,ha⟩=>?_) hf)
 refine ⟨m,hn.sameBut hsb (λz=>?_),λh' hsb'=>⟨_,H',?_,q⟩⟩
 ·rcases ha with e | e
  ·exact cl' (z.trans e)
  ·exact cc _ _ e z.symm
 ·exact J''.turned (t':=s''.toks) (it:=C) (λb o ne e=>hsb'.extBut b o ne e) hC cl' (.inr cs) cc cp
end
end Ov
namespace Ov
open PySem PySem.Spec PyProof.Rows
open L2 (V HO Hp Inv Cx VK XK TE TT TA TS TG mF TI TO gw Ends rL Loc Gl Rd RelV Vals fw qO bS nj oY md gu R2 upd aZ aW dY f' Sp nA It cA b7 bR Passes ma aK Meth Mk Binds aS bU aw c4 fe dR fA lR yE nq)
section
variable {X:Cx} {G:G2} {kx vx iter cnd:Expr} {x y:Str} {px py:Pos} {sc:Scope} {pos spos:Pos} {wi:rK} {tk te:dq} {tc:me} {i:Nat}
theorem Nr (osc:Scope) (N:List Str) (ks:List (Str × Nat)) (hc:X.calm=true) (ho:X.env.scope=osc) (hN:X.N=N) (hnd:X.N.Nodup) (hy:X.N[i]?=some y) (hl:Loc X.env.scope y) (hi:RI X G (.Name x px) iter wi) (hk:∀cl C s₀ H₀ fp pins,RE (fW X sc cl C x ks s₀ H₀ fp pins) G kx tk) (he:∀cl C s₀ H₀ fp pins,RE (fW X sc cl C x ks s₀ H₀ fp pins) G vx te)
  (hcn:∀cl C s₀ H₀ fp pins,RT (fW X sc cl C x ks s₀ H₀ fp pins) G cnd tc) (ok:cX sc osc N x ks:=by decide +kernel) (hs:∀x,foldedSetIterable iter X.env x=pure x:=by intro _;rfl) (hsw:swapsWith (.DictComp kx vx [⟨.Name x px,iter,[cnd],0⟩] sc pos) (some (.Name y py)) spos.line X.env=pure true:=by rfl)
  (hf:X.fn y=true∨X.env.scope.names.lookup y=some .local:=by first | exact .inl rfl | exact .inr rfl | assumption):RS X G (.Assign [.Name y py] (.DictComp kx vx [⟨.Name x px,iter,[cnd],0⟩] sc pos) spos) (uF (Oj wi ks tc tk te) (Iz i)) :=
 ⟨zj (P1 osc N ks hc ho hN hnd hy hl hi.run (λcl C s₀ H₀ fp pins=>(hk cl C s₀ H₀ fp pins).run) (λcl C s₀ H₀ fp pins=>(he cl C s₀ H₀ fp pins).run) (λcl C s₀ H₀ fp pins=>qY (hcn cl C s₀ H₀ fp pins).run) ok hs hsw hf) (nY BW)⟩
end
end Ov
namespace L2
open PySem PySem.Spec PySem.W PySem.Calls PyProof.Rows
end L2
namespace Ov
open PySem PySem.Spec PyProof.Rows
open L2 (V HO Hp Inv Cx VK XK TE TT TA TS TG mF TI TO gw Ends rL Loc Gl Rd RelV Vals fw qO bS nj oY md gu R2 upd aZ aW dY f' Sp nA It cA b7 bR Passes ma aK Meth Mk Binds aS bU aw c4 fe dR fA lR yE nq)
section
variable {X:Cx} {G:G2}
end
end Ov
namespace L2
open PySem PySem.Spec PyProof.Rows
section
variable {X:Cx} {pins:List (Addr × Obj)} {σ:St} {H:Hp}
end
end L2
namespace Ov
open PySem PySem.Spec PyProof.Rows
open L2 (V HO Hp Inv Cx VK XK TE TT TA TS TG mF TI TO gw Ends rL Loc Gl Rd RelV Vals fw qO bS nj oY md gu R2 upd aZ aW dY f' Sp nA It cA b7 bR Passes ma aK Meth Mk Binds aS bU aw c4 fe dR fA lR yE nq)
end Ov
namespace Ov
open PySem PySem.Spec PyProof.Rows
open L2 (V HO Hp Inv Cx VK XK TE TT TA TS TG mF TI TO gw Ends rL Loc Gl Rd RelV Vals fw qO bS nj oY md gu R2 upd aZ aW dY f' Sp nA It cA b7 bR Passes ma aK Meth Mk Binds aS bU aw c4 fe dR fA lR yE nq)
section
variable {X:Cx}
def Nf:nt:=λx y J Q=>EG x λz=>Ed y λi=>vo (c4 z.cps.toList i) λc=>z.length≤sizeLine∧Q (.str (sgn c)) J
theorem Fz:Q4 X Nf:=⟨_,L2.Mp,λJ H x y v w Q2 Q rx ry r h k=>by
 obtain ⟨z,ex,h⟩:=iI h;obtain ⟨i,ey,h⟩:=gT h;obtain ⟨c,ec,hl,q⟩:=eh h
 subst ex ey;cases rx;cases ry
 exact ⟨z,i,c,rfl,rfl,hl,ec,k (.str _) J _ H rfl r .refl q⟩⟩
end
end Ov
namespace L2
open PySem PySem.Spec PyProof.Rows
section
variable {X:Cx}
def Qk:V→List V→Hp→VK→Prop:=λx xs H Q=>∃a kvs ep k,x=.ref a∧xs=[.str k]∧H a=some (.dE kvs ep)∧Q ((fA kvs k).getD .non) H
theorem IU:md X "dict.get" Qk:=by
 intro pins s σ H x xs v us Q I rx r ⟨a,kvs,ep,k,ex,exs,hp,q⟩
 subst ex exs
 cases rx
 obtain ⟨u,rfl,ru⟩:=vals1 r
 obtain ⟨hz,hd,vs,rel,da⟩:=jS I hp
 refine call_meetsIn PySem.F.slot_dict_get da.dictOf.typeIs PySem.F.entry_dict_get (PySem.F.args_dict_get_2 _ _) (meets_dict_get (PySem.strKind X.prog X.w) a (str_is ru) hd) ⟨_,da.dictOf.mapOf,?_⟩
 rw [p7]
 obtain ⟨h1,h2⟩:=rel.va k
 cases hv:fA kvs k with
 | none =>
  rw [hv] at q h2
  cases hw:fA vs k with
  | none=>exact ⟨.non,H,I.tok _,rfl,q⟩
  | some w=>rw [hw] at h2;cases h2
 | some z =>
  rw [hv] at q
  obtain ⟨w',hw,rw'⟩:=h1 z hv
  rw [hw]
  exact ⟨z,H,I.tok _,rw',q⟩
end
end L2
namespace Ov
open PySem PySem.Spec PyProof.Rows
open L2 (V HO Hp Inv Cx VK XK TE TT TA TS TG mF TI TO gw Ends rL Loc Gl Rd RelV Vals fw qO bS nj oY md gu R2 upd aZ aW dY f' Sp nA It cA b7 bR Passes ma aK Meth Mk Binds aS bU aw c4 fe dR fA lR yE nq)
section
variable {X:Cx}
def Cw:BM:=λx xs J Q=>Cj x λa=>AK xs λy=>EG y λk=>Ge (J a) λkvs _=>Q ((fA kvs k).getD .non) J
theorem wx:Im X "dict" "dict.get" Cw:=⟨_,L2.IU,λJ H x xs v vs Q2 Q rx rs r h kn=>by
 obtain ⟨a,ex,h⟩:=gh h;obtain ⟨y,exs,h⟩:=gS h;obtain ⟨k,ek,h⟩:=iI h;obtain ⟨kvs,ep,ja,q⟩:=kK h;subst ek
 subst ex exs;cases rx
 obtain ⟨u,us,rfl,ru,e⟩:=rs;cases e;cases ru
 obtain ⟨gs,h1,h2⟩:=r _ _ ja
 have pk:=dS h2
 refine ⟨a,gs,ep,k,rfl,rfl,h1,?_⟩
 obtain ⟨p1,p2⟩:=pk.va k
 cases hv:fA kvs k with
 | none =>
  rw [hv] at p2 q
  cases hw:fA gs k with
  | none=>exact kn .non J .non H rfl r .refl q
  | some w=>rw [hw] at p2;cases p2
 | some z =>
  rw [hv] at q
  obtain ⟨y,hy,ry⟩:=p1 z hv
  rw [hy]
  exact kn z J y H ry r .refl q⟩
end
end Ov
set_option maxHeartbeats 4000000
namespace Ov
open PySem PySem.Spec PyProof.Rows L2
def top (i:Nat):Stmt:=PySem.Challenge.pw_overhaul_k56_whole_looks_each_time.main.body.getD i (.Pass ⟨0,0,0,0⟩)
set_option compiler.extract_closed false
set_option hygiene false
local macro_rules | `(tactic| simp_arith [$t:term])=>`(tactic| refine Sk F $t (fun xs J Q E h=>?_) (fun cdv A outer s H E G xs J Q E2 hr h B=>?_))
local macro_rules | `(tactic| simp_arith [$t:term,$r:term])=>`(tactic| refine Ul F $t (fun xs J Q E h=>?_) (fun cdv A outer s H E G E2 hr B=>$r) (fun xs J Q E2 h X hX=>?_))
local macro_rules | `(tactic| simp_arith [$t:term,$r:term,$u:term])=>`(tactic| refine Sj F $t (fun xs J Q E h=>?_) (fun cdv A outer s H E G E2 hr B=>$r) (fun xs J Q E2 h X hX=>?_))
local macro_rules | `(tactic| simp_arith! [$ls,*])=>`(tactic| simp only [JD,SJ,RH,KZ,Qe,sT,rC,Bf,T9,rB,Qu,JB,SF,Qn,K0,Qo,K4,T6,Be,zo,Qv,Qm,T5,CA,K5,T8,Qg,T4,Qf,GR,Qi,JI,JH,vt,K1,Qr,K6,Eo,Iz,TH,TF,TK,uF,Qp,K2,kX,vw,TN,Uh,TQ,Ug,Sx,Qh,GL,qI,qU,P_,T3,GN,Oi,Qd,Qb,Qc,P4,Ng,P8,Nb,GK,Sw,Cv,Qa,Na,Cy,P5,R0,RZ,O6,Sd,Pn,O_,O9,KC,S7,QR,S6,S8,S9,S5,QX,QM,Lf,QL,QP,QK,QN,RX,RY,O1,RM,RP,RU,RV,RN,RQ,SY,S3,S2,Nc,LY,L6,OQ,LZ,OR,Ct,xp,M',Jy,xo,eq_int,eq_str,OU,BY,Mn,Mo,QU,My,pj,Mg,tU,N6,N7,N4,N5,Nat.reduceAdd,Nat.reduceSub,Nat.reduceLeDiff,Tg,Th,N2,N3,List.append_nil,Ta,Tb,Ti,Tj,Option.some.injEq,exists_eq_left',exists_eq_left,exists_and_left,exists_eq,exists_eq',PV.int.injEq,PV.bl.injEq,PV.ref.injEq,PV.str.injEq,PV.ty.injEq,PV.tup.injEq,PV.fl.injEq,HQ.lst.injEq,HQ.ins.injEq,HQ.dct.injEq,decide_eq_true_eq,true_and,and_true,List.cons.injEq,reduceCtorEq,Bool.not_eq_true',decide_eq_false_iff_not,and_assoc,ite_not,if_true,if_false,Bool.false_eq_true,decide_true,decide_false,false_and,and_false,exists_false,false_or,or_false,id,de,fU,j_,Kl,OG,OH,OI,OJ,OK,OL,LV,LW,Up,Td,Tc,Tf,av,Bool.and_true,Tn,Bool.and_false,S_,KD,Pa,Pb,Pc,Pd,Pe,Pf,Pg,Ph,Pj,Mz,MA,MB,QY,NV,Ke,NW,NX,Kf,String.reduceEq,Q1,Q3,pV,Te,List.not_mem_nil,exists_const,PF,Pt,Px,Pu,PH,PD,PJ,Pr,Pz,Pw,KO,PB,MO,PC,PK,P9,JA,KR,GO,KW,KY,K3,TL,Nd,Cz,xr,TM,$ls,*])
local macro_rules | `(tactic| simp_all! [$ls,*])=>`(tactic| repeat (first | (with_reducible refine hNq _ _ ?_;clear hNq Nq) | with_reducible refine Ny fun Nq hNq=>?_ | simp_arith! [$ls,*]))
section
variable {P:Program} {w:World} {K:PySem.W.Frag} {mg:Str→Option Value} {base:Heap}
def lX:cq:=λxs J Q _=>∃a b:Int,xs=[.int a,.int b]∧Q (.int (Int.gcd a b:Nat)) J
abbrev tj:Stmt:=(top 12)
abbrev pK:List Str:=["one","two"]
theorem pU:L2.aw ["one","two"] ["one","two"] (L2.au tj):=dt
theorem AI {f:Addr} {fd:FuncData} (F:bU K "shared" "shared" tj f fd) (Z:bE mg):aS P w K mg base (cn P w) 1 f fd pK (cK K lX):=by
 simp_arith [pU,(ai (xy (i:=0) (j:=1) rfl pU.nd rfl rfl (by decide) rfl rfl (af (aF ka rfl Z.abs boot_abs (af (rv 0) ah)) (af (aF ka rfl Z.abs boot_abs (af (rv 1) ah)) ah)) rfl)
   (ai (g8 bG (aE (fF hr.aQ) (rv 1) ag) (ak (xy (i:=0) (j:=1) rfl pU.nd rfl rfl (by decide) rfl rfl (af (rv 1) (af (ay bX (rv 0) (rv 1)) ah)) rfl)))
   (ak (az (rv 0)))))]
 ·obtain ⟨a,b,rfl,_⟩:=h;rfl
 obtain ⟨a,b,rfl,q⟩:=h
 refine hX ?_
 simp_all! []
 refine ⟨λm τ' J'=>∃x y:Int,τ'=[some (.int x),some (.int y)]∧J'=J∧0≤x∧0≤y∧Int.gcd x y=Int.gcd a b∧m=y.toNat,⟨_,_,_,rfl,rfl,by split <;> omega,by split <;> omega,IA a b,rfl⟩,?_⟩
 rintro m τ' J' ⟨x,y,rfl,rfl,hx,hy,hg,rfl⟩
 simp_arith! [bc]
 by_cases y0:y=0
 ·subst y0
  rw [if_pos rfl]
  refine hNq _ _ ?_
  simp_arith! [bc]
  rw [← hg,B3 hx] at q
  exact q
 ·rw [if_neg y0]
  have h1:=Int.emod_lt_of_pos x (show 0 < y by omega)
  have h2:=Int.emod_nonneg x y0
  exact ⟨_,λ_ _ h=>h,by omega,(x % y).toNat,by omega,_,_,rfl,rfl,hy,h2,(yI y0).trans hg,rfl⟩
theorem Fl {n:Nat} {t b:Int} (h:b≠0) (hb:Bd n b):Bd n ((Int.gcd t b:Nat):Int):=hb.le (by have:=Ml (t:=t) h;omega)
abbrev mW:Stmt:=(top 13)
abbrev f6:List Str:=["top","bottom"]
theorem lp:L2.aw ["top","bottom","divisor"] ["top","bottom"] (L2.au mW):=dt
def f_:cq:=λxs J Q _=>∃t b:Int,xs=[.int t,.int b]∧b≠0∧Bd 9000 b∧Q (fr (Rat.divInt t b)) J
theorem wL {eM f:Addr} {fd:FuncData} (F:bU K "fraction" "fraction" mW f fd) (Z:bE mg) (c_:Own K mg "BadMoment" eM) (rA:bj P w K mg base 1 "shared" pK lX):aS P w K mg base (cn P w) 2 f fd f6 (cK K f_):=by
 simp_arith [lp,(ai (aP (aE (cj hr.aQ) (rv 1) ag) (ak (c9 c_ rfl bW B.kn rfl (af bJ ah))) aH)
   (ai (aA (i:=2) lp.nd (aL rA B hr (af (rv 0) (af (rv 1) ah))))
   (cx (aP (aE fj (rv 1) ag) (ak (aA (i:=2) lp.nd (oG jP (rv 2)))) aH)
   (ak (az (bY (af (ay d6 (rv 0) (rv 2)) (af (ay d6 (rv 1) (rv 2)) ah))))))))]
 ·obtain ⟨t,b,rfl,_⟩:=h;rfl
 obtain ⟨t,b,rfl,hb,bb,q⟩:=h
 have hg:=B4 (t:=t) hb
 have gb:=Fl (t:=t) hb bb
 refine hX ?_
 simp_all! []
 rw [if_neg hb]
 refine hNq _ _ ?_
 clear hNq Nq
 simp_all! []
 refine ⟨t,b,rfl,?_⟩
 refine hNq _ _ ?_
 clear hNq Nq
 simp_all! []
 obtain ⟨M,hM⟩:∃M:Sr→Hq→Prop,∀τ' J',M τ' J'↔∃d:Int,τ'=[some (.int t),some (.int b),some (.int d)]∧J'=J∧d≠0∧Bd 9000 d∧t.fdiv d=(Rat.divInt t b).num∧b.fdiv d=(Rat.divInt t b).den:=⟨_,λ_ _=>Iff.rfl⟩
 refine ⟨M,?_,?_⟩
 ·simp_all! []
  by_cases c:b < 0
  ·rw [if_pos c]
   exact (hM _ _).mpr ⟨_,rfl,rfl,by omega,gb.neg,Ci c,Iv c⟩
  ·rw [if_neg c]
   exact (hM _ _).mpr ⟨_,rfl,rfl,by omega,gb,wA (by omega),den_pos (by omega)⟩
 intro τ' J' hm
 obtain ⟨d,rfl,rfl,hd,bd,e1,e2⟩:=(hM _ _).mp hm
 simp_arith! [bc,e1,e2]
 exact ⟨⟨hd,bd⟩,⟨hd,bd⟩,q⟩
def fQ:cq:=λxs J Q _=>∃t b:Int,xs=[.int t,.int b]∧0 < b∧Bd 9000 b∧Q (fr (Rat.divInt t b)) J
abbrev G5:Stmt:=(top 48)
abbrev dQ:List Str:=["_law_top","_law_bottom"]
theorem xR:L2.aw ["_law_top","_law_bottom","_law_one","_law_two"] ["_law_top","_law_bottom"] (L2.au G5):=dt
theorem Jd {f:Addr} {fd:FuncData} (F:bU K "_law_low" "_law_low" G5 f fd) (Z:bE mg):aS P w K mg base (cn P w) 1 f fd dQ (cK K fQ):=by
 simp_arith [xR,(ai (aA (i:=2) xR.nd (aF ka rfl Z.abs boot_abs (af (rv 0) ah)))
   (ai (aA (i:=3) xR.nd (rv 1))
   (ai (g8 bG (aE (fF hr.aQ) (rv 3) ag) (ak (xy (i:=2) (j:=3) rfl xR.nd rfl rfl (by decide) rfl rfl (af (rv 3) (af (ay bX (rv 2) (rv 3)) ah)) rfl)))
   (ak (az (bY (af (ay d6 (rv 0) (rv 2)) (af (ay d6 (rv 1) (rv 2)) ah))))))))]
 ·obtain ⟨t,b,rfl,_⟩:=h;rfl
 obtain ⟨t,b,rfl,hb,bb,q⟩:=h
 have hg:=B4 (t:=t) (show b≠0 by omega)
 have gb:=Fl (t:=t) (show b≠0 by omega) bb
 refine hX ?_
 simp_all! []
 refine ⟨λm τ' J'=>∃x y:Int,τ'=[some (.int t),some (.int b),some (.int x),some (.int y)]∧J'=J∧0≤x∧0≤y∧Int.gcd x y=Int.gcd t b∧m=y.toNat,⟨_,_,_,rfl,rfl,by split <;> omega,by omega,Fj t b,rfl⟩,?_⟩
 rintro m τ' J' ⟨x,y,rfl,rfl,hx,hy,hg',rfl⟩
 simp_arith! [bc]
 by_cases y0:y=0
 ·subst y0
  rw [if_pos rfl]
  refine hNq _ _ ?_
  have ex:x=((Int.gcd t b:Nat):Int):=by rw [← hg',B3 hx]
  subst ex
  simp_arith! [bc]
  refine ⟨⟨by omega,gb⟩,⟨by omega,gb⟩,?_⟩
  rw [wA hb,den_pos hb]
  exact q
 ·rw [if_neg y0]
  have h1:=Int.emod_lt_of_pos x (show 0 < y by omega)
  have h2:=Int.emod_nonneg x y0
  exact ⟨_,λ_ _ h=>h,by omega,(x % y).toNat,by omega,_,_,rfl,rfl,hy,h2,(yI y0).trans hg',rfl⟩
def cy:cq:=λxs J Q _=>∃p q:Rat,xs=[fr p,fr q]∧Sz 9000 p∧Sz 9000 q∧Q (.bl (decide (p < q))) J
theorem IH (p q:Rat):decide (p.num * q.den < q.num * p.den)=decide (p < q):=decide_eq_decide.mpr (Rat.lt_iff p q).symm
abbrev Bo:Stmt:=(top 17)
abbrev fo:List Str:=["one","two"]
theorem JS:L2.aw ["one","two"] ["one","two"] (L2.au Bo):=dt
theorem F9 {f:Addr} {fd:FuncData} (F:bU K "less" "less" Bo f fd) (Z:bE mg):aS P w K mg base (cn P w) 1 f fd fo (cK K cy):=by
 simp_arith [JS,(ak (az (er fj (ay aT (aj ar (rv 0) ag) (aj ar (rv 1) ag)) (ay aT (aj ar (rv 1) ag) (aj ar (rv 0) ag)))))]
 ·obtain ⟨p,q,rfl,_⟩:=h;rfl
 obtain ⟨p,q,rfl,sp,sq,k⟩:=h
 refine hX ?_
 simp_arith! [bc,IH]
 exact ⟨.of sp.num sq.den,.of sq.num sp.den,k⟩
theorem Hm {m n:Nat} {t b:Int} (hb:b≠0) (h1:Bd m t) (h2:Bd n b) (k:Nat) (hm:m≤k) (hn:n≤k):Sz k (Rat.divInt t b) :=
 ⟨(h1.le (Cg t b)).mono hm,(h2.le (wg hb)).mono hn⟩
theorem wy (p q:Rat):(p.den:Int) * (q.den:Int)≠0:=Int.mul_ne_zero (eV p) (eV q)
theorem Sz.add {m n k:Nat} {p q:Rat} (h:Sz m p) (g:Sz n q) (hk:m + n + 1≤k:=by decide):Sz k (p + q):=by
 rw [← add_eq]
 exact Hm (wy p q) (.add (.mul h.num g.den (UC _)) (.mul g.num h.den (UC _)) (UC _)) (.mul h.den g.den (UC _)) k (by omega) (by omega)
theorem Sz.sub {m n k:Nat} {p q:Rat} (h:Sz m p) (g:Sz n q) (hk:m + n + 1≤k:=by decide):Sz k (p - q):=by
 rw [← sub_eq]
 exact Hm (wy p q) (.sub (.mul h.num g.den (UC _)) (.mul g.num h.den (UC _)) (UC _)) (.mul h.den g.den (UC _)) k (by omega) (by omega)
theorem Sz.mul {m n k:Nat} {p:Rat} {i:Int} (h:Sz m p) (g:Bd n i) (hk:m + n≤k:=by decide):Sz k (p * i):=by
 rw [← mul_eq]
 exact Hm (eV p) (.mul h.num g (UC _)) h.den k hk (by omega)
def Bu (g:Rat→Rat→Rat):cq:=λxs J Q _=>∃p q:Rat,xs=[fr p,fr q]∧Sz 4000 p∧Sz 4000 q∧Q (fr (g p q)) J
def tR:cq:=λxs J Q _=>∃(p:Rat) (m:Int),xs=[fr p,.int m]∧Sz 9000 p∧Bd 9000 m∧Q (fr (p * m)) J
abbrev Br:Stmt:=(top 14)
abbrev Cr:List Str:=["one","two"]
theorem JU:L2.aw ["one","two"] ["one","two"] (L2.au Br):=dt
theorem Ga {f:Addr} {fd:FuncData} (F:bU K "plus" "plus" Br f fd) (Z:bE mg) (eQ:bj P w K mg base 2 "fraction" f6 f_):aS P w K mg base (cn P w) 3 f fd Cr (cK K (Bu λp q=>p + q)):=by
 simp_arith [JU,(ak (az (aL eQ B hr (af (ay bQ (ay aT (aj ar (rv 0) ag) (aj ar (rv 1) ag)) (ay aT (aj ar (rv 1) ag) (aj ar (rv 0) ag))) (af (ay aT (aj ar (rv 0) ag) (aj ar (rv 1) ag)) ah)))))]
 ·obtain ⟨p,q,rfl,_⟩:=h;rfl
 obtain ⟨p,q,rfl,sp,sq,k⟩:=h
 refine hX ?_
 simp_arith! [bc]
 refine ⟨.of sp.num sq.den,.of sq.num sp.den,.of sp.den sq.den,_,_,rfl,wy p q,.mul sp.den sq.den,?_⟩
 rw [add_eq]
 exact k
abbrev xF:Stmt:=(top 15)
abbrev oC:List Str:=["one","two"]
theorem G8:L2.aw ["one","two"] ["one","two"] (L2.au xF):=dt
theorem D8 {f:Addr} {fd:FuncData} (F:bU K "minus" "minus" xF f fd) (Z:bE mg) (eQ:bj P w K mg base 2 "fraction" f6 f_):aS P w K mg base (cn P w) 3 f fd oC (cK K (Bu λp q=>p - q)):=by
 simp_arith [G8,(ak (az (aL eQ B hr (af (ay c7 (ay aT (aj ar (rv 0) ag) (aj ar (rv 1) ag)) (ay aT (aj ar (rv 1) ag) (aj ar (rv 0) ag))) (af (ay aT (aj ar (rv 0) ag) (aj ar (rv 1) ag)) ah)))))]
 ·obtain ⟨p,q,rfl,_⟩:=h;rfl
 obtain ⟨p,q,rfl,sp,sq,k⟩:=h
 refine hX ?_
 simp_arith! [bc]
 refine ⟨.of sp.num sq.den,.of sq.num sp.den,.of sp.den sq.den,_,_,rfl,wy p q,.mul sp.den sq.den,?_⟩
 rw [sub_eq]
 exact k
abbrev xH:Stmt:=(top 16)
abbrev zk:List Str:=["one","many"]
theorem G_:L2.aw ["one","many"] ["one","many"] (L2.au xH):=dt
theorem Ea {f:Addr} {fd:FuncData} (F:bU K "times" "times" xH f fd) (Z:bE mg) (eQ:bj P w K mg base 2 "fraction" f6 f_):aS P w K mg base (cn P w) 3 f fd zk (cK K tR):=by
 simp_arith [G_,(ak (az (aL eQ B hr (af (ay aT (aj ar (rv 0) ag) (rv 1)) (af (aj ar (rv 0) ag) ah)))))]
 ·obtain ⟨p,m,rfl,_⟩:=h;rfl
 obtain ⟨p,m,rfl,sp,bm,k⟩:=h
 refine hX ?_
 simp_arith! [bc]
 refine ⟨.of sp.num bm,_,_,rfl,eV p,sp.den,?_⟩
 rw [mul_eq]
 exact k
def Dig:List Int→List Int→Prop
 | [],[]=>True
 | d :: ds,s :: ss=>(0≤d∧d < s)∧Dig ds ss
 | _,_=>False
theorem Dig.snoc:∀{ds ss:List Int} {d s:Int},Dig ds ss→0≤d→d < s→Dig (ds ++ [d]) (ss ++ [s])
 | [],[],_,_,_,h0,h1=>⟨⟨h0,h1⟩,trivial⟩
 | _ :: _,_ :: _,_,_,h,h0,h1=>⟨h.1,Dig.snoc h.2 h0 h1⟩
 | [],_ :: _,_,_,h,_,_=>h.elim
 | _ :: _,[],_,_,h,_,_=>h.elim
theorem Dig.cons:∀{ds ss:List Int} {s:Int},Dig ds (s :: ss)→∃d r,ds=d :: r∧0≤d∧d < s∧Dig r ss
 | [],_,_,h=>h.elim
 | d :: r,_,_,h=>⟨d,r,rfl,h.1.1,h.1.2,h.2⟩
theorem Dig.nil:∀{ds:List Int},Dig ds []→ds=[]
 | [],_=>rfl
 | _ :: _,h=>h.elim
theorem Dig.len:∀{ds ss:List Int},Dig ds ss→ds.length=ss.length
 | [],[],_=>rfl
 | _ :: _,_ :: _,h=>congrArg Nat.succ (Dig.len h.2)
 | [],_ :: _,h=>h.elim
 | _ :: _,[],h=>h.elim
theorem DR {J:Hq} {l:Addr} {o:HQ} (h:J l=none):i6 J (put J l o):=λa=>by
 by_cases e:a=l
 ·subst e;exact .inr h
 ·rw [aq e];exact .inl rfl
def Bv:cq:=λxs J Q _=>∃(c:Int) (ss:List Int),xs=[.int c,.fl (ss.map .int)]∧(∀s∈ss,0 < s∧Bd 9000 s)∧ss.length≤1000∧∀ds,Dig ds ss→Q (.fl (ds.map .int)) J
abbrev sZ:Stmt:=(top 46)
abbrev gY:List Str:=["_law_cell_here","_law_sizes"]
theorem d9:L2.aw ["_law_cell_here","_law_sizes","_law_out","_law_rest","_law_size","_law_one","_law_k","_law_two"] ["_law_cell_here","_law_sizes"] (L2.au sZ):=dt
theorem AG {f:Addr} {fd:FuncData} (F:bU K "_law_digits" "_law_digits" sZ f fd) (Z:bE mg):aS P w K mg base (cn P w) 1 f fd gY (cK K Bv):=by
 simp_arith [d9,(ai (aA (i:=2) d9.nd (kY ah))
   (ai (aP (aE zd (rv 0) (ay Gi ag ag)) (ai (aA (i:=3) d9.nd (ay c7 (rv 0) (ay Gi ag ag)))
   (ai (cR bG rfl (d7 (rv 1)) (bC (i:=4) d9.nd) (ai (bA (gr PySem.F.plainAttrs_list PySem.F.slot_list_append PySem.F.type_list_append gF (rv 2) (af (ay bX (rv 3) (rv 4)) ah)))
   (ak (aA (i:=3) d9.nd (ay d6 (rv 3) (rv 4))))))
   (ak (az (rv 2))))) aH)
   (ai (aA (i:=5) d9.nd (ay bX (rv 0) ag))
   (ai (cR bG rfl (fM rfl Z.range (af (aF bK rfl Z.len boot_len (af (rv 1) ah)) ah)) (bC (i:=6) d9.nd) (ai (aA (i:=5) d9.nd (ay bX (ay bQ (ay aT (rv 5) ag) (ay aT ag (ay bQ (rv 6) ag))) ag))
   (ai (aA (i:=7) d9.nd (ay bX (ay bQ (ay bQ (ay aT (rv 5) (rv 5)) (ay aT ag (rv 5))) (rv 6)) ag))
   (ak (bA (gr PySem.F.plainAttrs_list PySem.F.slot_list_append PySem.F.type_list_append gF (rv 2) (af (ay bX (ay d6 (rv 7) ag) (aj ar (rv 1) (rv 6))) ah)))))))
   (ak (az (rv 2))))))),F]
 ·obtain ⟨c,ss,rfl,_⟩:=h;rfl
 obtain ⟨c,ss,rfl,hs,hl,q⟩:=h
 refine hX ?_
 simp_all! []
 intro r hr'
 refine hNq _ _ ?_
 clear hNq Nq
 simp_all! []
 have cp:Lj 10 18:=⟨by decide,by decide,by decide⟩
 refine ⟨cp,?_⟩
 have take1:∀{i:Nat} {z:Int},ss[i]?=some z→ss.take (i + 1)=ss.take i ++ [z]:=λh=>by rw [UN,h];rfl
 have fin:∀ds:List Int,Dig ds ss→Fg Q (.ref r) (put J r (.lst (ds.map .int))):=λds hD=>Fg.pf (DR hr') av hr' (q ds hD)
 by_cases cc:(10:Int) ^ Int.toNat 18≤c
 ·rw [if_pos cc]
  simp_all! []
  refine ⟨cp,hNq _ _ ?_⟩
  clear hNq Nq
  simp_all! []
  obtain ⟨Inv,hInv⟩:∃Inv:Nat→Sr→Hq→Prop,∀i τ J',Inv i τ J'↔∃(ds:List Int) (rest:Int) (u:Option PV),τ=[some (.int c),some (.fl (ss.map .int)),some (.ref r),some (.int rest),u,none,none,none]∧J'=put J r (.lst (ds.map .int))∧Dig ds (ss.take i):=⟨_,λ_ _ _=>Iff.rfl⟩
  refine ed Inv ((hInv _ _ _).mpr ⟨[],_,none,rfl,rfl,trivial⟩) (λ_ _ _ _=>trivial) ?_ ?_
  ·intro i x τ J' hx hv
   obtain ⟨ds,rest,u,rfl,rfl,hD⟩:=(hInv _ _ _).mp hv
   rw [Uw] at hx
   obtain ⟨z,hz,rfl⟩:=VU.mp hx
   obtain ⟨z0,zb⟩:=hs z (Uz hz)
   have dl:=hD.len
   rw [UZ] at dl
   simp_arith! [bc,av,Us]
   refine ⟨z0,a7 (by omega),⟨by omega,zb⟩,(hInv _ _ _).mpr ⟨ds ++ [rest % z],_,_,rfl,?_,?_⟩⟩
   ·rw [cm,Uy];rfl
   ·rw [take1 hz];exact hD.snoc (Int.emod_nonneg _ (by omega)) (Int.emod_lt_of_pos _ z0)
  ·intro τ J' hv
   obtain ⟨ds,rest,u,rfl,rfl,hD⟩:=(hInv _ _ _).mp hv
   rw [Us,UQ] at hD
   refine hNq _ _ ?_
   simp_arith! [bc]
   exact fin ds hD
 ·rw [if_neg cc]
  refine hNq _ _ ?_
  clear hNq Nq
  simp_all! []
  refine ⟨by decide,hNq _ _ ?_⟩
  clear hNq Nq
  simp_all! [Us]
  refine ⟨by omega,by omega,?_⟩
  obtain ⟨Inv,hInv⟩:∃Inv:Nat→Sr→Hq→Prop,∀i τ J',Inv i τ J'↔∃(ds:List Int) (one:Int) (u v:Option PV),τ=[some (.int c),some (.fl (ss.map .int)),some (.ref r),none,none,some (.int one),u,v]∧J'=put J r (.lst (ds.map .int))∧0≤one∧one < 2147483647∧Dig ds (ss.take i):=⟨_,λ_ _ _=>Iff.rfl⟩
  refine lM Inv ((hInv _ _ _).mpr ⟨[],_,none,none,rfl,rfl,Int.emod_nonneg _ (by decide),Int.emod_lt_of_pos _ (by decide),trivial⟩) ?_ ?_
  ·intro i τ J' hi hv
   obtain ⟨ds,one,u,v,rfl,rfl,o0,o1,hD⟩:=(hInv _ _ _).mp hv
   have hz:ss[i]?=some ss[i]:=Ut (by omega)
   obtain ⟨z0,zb⟩:=hs ss[i] (UP (by omega))
   have dl:=hD.len
   rw [UZ] at dl
   have e1:c4 (ss.map PV.int) (0 + (i:Int))=some (.int ss[i]):=by
    rw [Int.zero_add]
    exact bP (by rw [Uw,hz];rfl)
   have small:∀x:Int,0≤x→x < 2147483648→Bd 64 x:=λx h1 h2=>Bd.small (by omega) (by omega)
   have A0:0≤(one * 48271 + 10007 * (0 + (i:Int) + 1)) % 2147483629:=Int.emod_nonneg _ (by decide)
   have A1:(one * 48271 + 10007 * (0 + (i:Int) + 1)) % 2147483629 < 2147483629:=Int.emod_lt_of_pos _ (by decide)
   simp_arith! [bc,av,e1,Us]
   generalize (one * 48271 + 10007 * (0 + (i:Int) + 1)) % 2147483629=A at A0 A1 ⊢
   refine ⟨.of (small _ o0 (by omega)) (small _ (by decide) (by decide)),.of (small _ (by decide) (by decide)) (small _ (by omega) (by omega)),by decide,.of (small _ A0 (by omega)) (small _ A0 (by omega)),.of (small _ (by decide) (by decide)) (small _ A0 (by omega)),by decide,⟨by decide,(small _ (by decide) (by decide)).mono (by decide)⟩,z0,a7 (by omega),?_⟩
   generalize ((A * A + 69621 * A + (0 + (i:Int))) % 2147483563).fdiv 11=B
   refine (hInv _ _ _).mpr ⟨ds ++ [B % ss[i]],A,_,_,rfl,?_,A0,by omega,?_⟩
   ·rw [cm,Uy];rfl
   ·rw [take1 hz];exact hD.snoc (Int.emod_nonneg _ (by omega)) (Int.emod_lt_of_pos _ z0)
  ·intro τ J' hv
   obtain ⟨ds,one,u,v,rfl,rfl,o0,o1,hD⟩:=(hInv _ _ _).mp hv
   rw [Int.toNat_natCast,UQ] at hD
   refine hNq _ _ ?_
   simp_arith! [bc]
   exact fin ds hD
def aM.V (l:aM):PV:=.tup [fr l.m,fr l.p,.int l.v]
theorem tV (m p:Rat) (v:Int):PV.tup [fr m,fr p,.int v]=(aM.mk m p v).V:=rfl
theorem mf (J:Hq) (l:aM):fz J l.V (.int 0)=some (fr l.m):=de _ _
theorem FI (J:Hq) (l:aM):fz J l.V (.int 1)=some (fr l.p):=fU _ _ _
theorem iu (J:Hq) (l:aM):fz J l.V (.int 2)=some (.int l.v):=j_ _ _ _ _
theorem QV (J:Hq) (l:aM):BD J l.V=some "tuple":=rfl
theorem KA (J:Hq) (l:aM):wu J l.V=some 3:=rfl
theorem GG (l:aM):nv l.V=true:=by simp [aM.V,Cu,pL,zl,xo,Ct]
theorem OS (l:aM):HJ l.V=True:=eq_true ⟨GG l,by simp [aM.V,fr,gy,g6,dep,eA]⟩
theorem Me (a b:aM):eqQ a.V b.V=decide (a=b):=by
 unfold aM.V
 rw [wj,eE,eE,eE,qQ,BY,BY,eq_int,Vw,← VD,← VD]
 apply decide_eq_decide.mpr
 cases a;cases b
 simp [aM.mk.injEq]
theorem OE (a b:aM):(a.V=b.V)=(a=b):=by
 apply propext
 constructor
 ·intro e
  have:=Me a b
  rw [e,eq_self] at this
  exact of_decide_eq_true this.symm
 ·intro e;rw [e]
def h_:cq:=λxs J Q _=>∃(l:aM) (t:Rat),xs=[l.V,fr t]∧Sz 900 l.m∧Sz 900 l.p∧Sz 900 t∧Bd 64 l.v∧Q (fr (l.at t)) J
abbrev m3:Stmt:=(top 25)
abbrev e_:List Str:=["leg","moment"]
theorem iC:L2.aw ["leg","moment","begun","place","pace"] ["leg","moment"] (L2.au m3):=dt
theorem wO {f:Addr} {fd:FuncData} (F:bU K "place_on" "place_on" m3 f fd) (Z:bE mg) (Lq:bj P w K mg base 3 "plus" Cr (Bu λp q=>p + q)) (nF:bj P w K mg base 3 "minus" oC (Bu λp q=>p - q)) (HS:bj P w K mg base 3 "times" zk tR) :
  aS P w K mg base (cn P w) 4 f fd e_ (cK K h_):=by
 simp_arith [iC,(ai (xx (rv 0) (sX (n:=3) rfl (dz (bC (i:=2) iC.nd) (dz (bC (i:=3) iC.nd) (dz (bC (i:=4) iC.nd) oI)))))
   (ak (az (aL Lq B hr (af (rv 3) (af (aL HS B hr (af (aL nF B hr (af (rv 1) (af (rv 2) ah))) (af (rv 4) ah))) ah))))))]
 ·obtain ⟨l,t,rfl,_⟩:=h;rfl
 obtain ⟨l,t,rfl,sb,sp,sm,bv,q⟩:=h
 have s1:Sz 1801 (t - l.m):=sm.sub sb
 have s2:Sz 1900 ((t - l.m) * (l.v:Rat)):=s1.mul bv
 refine hX ?_
 simp_arith! [bc,aM.V,Bu,tR]
 exact ⟨sm.mono (by decide),sb.mono (by decide),s1.mono (by decide),bv.mono (by decide),sp.mono (by decide),s2.mono (by decide),q⟩
theorem Ff (n:Int):PV.tup [.int n,.int 1]=fr (n:Rat):=rfl
theorem lG (p q:Rat):p.num * (q.den:Int)=q.num * (p.den:Int)↔p=q:=by
 have a:=cast_eq p
 have b:=cast_eq q
 have c:=dJ p
 have d:=dJ q
 constructor
 ·intro h
  have h':((p.num * (q.den:Int):Int):Rat)=((q.num * (p.den:Int):Int):Rat):=by rw [h]
  rw [Rat.intCast_mul,Rat.intCast_mul,a,b] at h'
  grind
 ·intro h;rw [h]
def gv:Option Rat→PV
 | none=>.non
 | some q=>fr q
structure vO (cL:Addr) (J:Hq) (p r:Addr) (rows:List aM) (g:Option Rat):Prop where
 o:J p=some (.ins cL [("rows",.ref r),("gone",gv g)])
 l:J r=some (.lst (rows.map aM.V))
theorem vO.ne {cL:Addr} {J:Hq} {p r:Addr} {rows:List aM} {g:Option Rat} (h:vO cL J p r rows g):r≠p:=by
 intro e;subst e;have:=h.o;rw [h.l] at this;cases this
structure jt (n:Nat) (l:aM):Prop where
 m:Sz n l.m
 p:Sz n l.p
 v:Bd 64 l.v
theorem jt.mono {n k:Nat} {l:aM} (h:jt n l) (e:n≤k):jt k l:=⟨h.m.mono e,h.p.mono e,h.v⟩
theorem FQ (a b:PV):([("rows",a),("gone",b)]:List (Str × PV)).lookup ("rows":Str)=some a:=rfl
theorem R8 (a b:PV):([("rows",a),("gone",b)]:List (Str × PV)).lookup ("gone":Str)=some b:=rfl
theorem yQ {m:Str} (a b:PV) (h:(m == ("rows":Str))=false) (k:(m == ("gone":Str))=false):([("rows",a),("gone",b)]:List (Str × PV)).lookup m=none:=by rw [U4,h];simp only;rw [U4,k];rfl
theorem Pl (a b:PV):([("rows",a),("gone",b)]:List (Str × PV)).lookup ("turn":Str)=none:=yQ a b (by decide +kernel) (by decide +kernel)
theorem R9 (a b:PV):([("rows",a),("gone",b)]:List (Str × PV)).lookup ("leave":Str)=none:=yQ a b (by decide +kernel) (by decide +kernel)
theorem R_ (a b:PV):([("rows",a),("gone",b)]:List (Str × PV)).lookup ("legs":Str)=none:=yQ a b (by decide +kernel) (by decide +kernel)
theorem R' (a b:PV):([("rows",a),("gone",b)]:List (Str × PV)).lookup ("left":Str)=none:=yQ a b (by decide +kernel) (by decide +kernel)
theorem Pm (a b:PV):([("rows",a),("gone",b)]:List (Str × PV)).lookup ("there":Str)=none:=yQ a b (by decide +kernel) (by decide +kernel)
theorem MD (a b:PV):([("rows",a),("gone",b)]:List (Str × PV)).lookup ("leg_at":Str)=none:=yQ a b (by decide +kernel) (by decide +kernel)
theorem Sa (a b:PV):([("rows",a),("gone",b)]:List (Str × PV)).lookup ("place":Str)=none:=yQ a b (by decide +kernel) (by decide +kernel)
theorem Sb (a b:PV):([("rows",a),("gone",b)]:List (Str × PV)).lookup ("twin":Str)=none:=yQ a b (by decide +kernel) (by decide +kernel)
theorem F0:(("rows":Str)=("gone":Str))=False:=eq_false (by decide +kernel)
theorem fZ {J:Hq} {l:Addr} {o:HQ} (h:J l=none):i6 J (put J l o):=λa=>by
 by_cases e:a=l
 ·subst e;exact .inr h
 ·rw [aq e];exact .inl rfl
theorem Jx (x z:PV):kX ("gone":Str) z (kX ("rows":Str) x [])=([("rows",x),("gone",z)]:List (Str × PV)):=by simp only [kX,F0,if_false]
abbrev hE:Stmt:=(L2.inClass (top 29) 0)
abbrev gi:List Str:=["self","moment","place","pace"]
theorem qL:L2.aw ["self","moment","place","pace"] ["self","moment","place","pace"] (L2.au hE):=dt
def xV (cL:Addr):cq:=λxs J Q _=>∃(p:Addr) (l:aM),xs=[.ref p,fr l.m,fr l.p,.int l.v]∧J p=some (.ins cL [])∧∀r,J r=none→Q .non (put (put J r (.lst [l.V])) p (.ins cL [("rows",.ref r),("gone",.non)]))
theorem yX {cL f:Addr} {fd:FuncData} (F:bU K "__init__" "Log.__init__" hE f fd) (a8:dC K mg "Log" cL) (aU:aK K cL "rows") (bD:aK K cL "gone"):aS P w K mg base (cn P w) 1 f fd gi (cK K (xV cL)):=by
 simp_arith [qL,(ai (eY a8.cl aU (rv 0) (kY (af (bY (af (rv 1) (af (rv 2) (af (rv 3) ah)))) ah)))
   (ak (eY a8.cl bD (rv 0) dk)))]
 ·obtain ⟨p,l,rfl,_⟩:=h;rfl
 obtain ⟨p,l,rfl,hp,q⟩:=h
 refine hX ?_
 simp_arith! [bc,tV]
 intro r hr'
 have ne:p≠r:=by intro e;subst e;rw [hp] at hr';cases hr'
 refine gg (by rw [aq ne];exact hp) ⟨by decide,gg av ⟨by show (1:Nat) < 1000;decide,?_⟩⟩
 rw [cm,Jx]
 exact q r hr'
abbrev mU:Stmt:=(L2.inClass (top 29) 1)
abbrev kO:List Str:=["self","moment","pace"]
theorem qp:L2.aw ["self","moment","pace","place"] ["self","moment","pace"] (L2.au mU):=dt
def xW (cL:Addr):cq:=λxs J Q _=>∃p r rows g t v,xs=[.ref p,fr t,.int v]∧vO cL J p r rows g∧rows≠[]∧rows.length≤900∧Sz 900 t∧(∀l∈rows,jt 900 l)∧Q .non (put J r (.lst ((turned rows t v).map aM.V)))
theorem y3 {cL f:Addr} {fd:FuncData} (F:bU K "turn" "Log.turn" mU f fd) (Z:bE mg) (a8:dC K mg "Log" cL) (aU:aK K cL "rows") (cG:bj P w K mg base 4 "place_on" e_ h_):aS P w K mg base (cn P w) 5 f fd kO (cK K (xW cL)):=by
 simp_arith [qp,(ai (aA (i:=3) qp.nd (aL cG B hr (af (aj ar (aV a8.cl aU (rv 0)) (oG jP ag)) (af (rv 1) ah))))
   (cx (aP (aE (cj hr.aQ) (aj ar (aj ar (aV a8.cl aU (rv 0)) (oG jP ag)) ag) (rv 1)) (ak (bA (GY PySem.F.plainAttrs_list PySem.F.slot_list_pop PySem.F.type_list_pop FZ (aV a8.cl aU (rv 0))))) aH)
   (ai (aP (cf (dT (Nv (aV a8.cl aU (rv 0))) (c5 (aE (cj hr.aQ) (aj ar (aj ar (aV a8.cl aU (rv 0)) (oG jP ag)) ag) (rv 2))))) (ak JO) aH)
   (ak (bA (gr PySem.F.plainAttrs_list PySem.F.slot_list_append PySem.F.type_list_append gF (aV a8.cl aU (rv 0)) (af (bY (af (rv 1) (af (rv 3) (af (rv 2) ah)))) ah)))))))]
 ·obtain ⟨p,r,rows,g,t,v,rfl,_⟩:=h;rfl
 obtain ⟨p,r,rows,g,t,v,rfl,b,hne,hl,st,sl,q⟩:=h
 obtain ⟨ls,l,rfl⟩:∃ls l,rows=ls ++ [l]:=⟨rows.dropLast,rows.getLast hne,(U6 hne).symm⟩
 have bo:=b.o
 have bl:=b.l
 have npr:=b.ne
 have sl':=sl l (by simp)
 have hla:c4 ((ls ++ [l]).map aM.V) (-1)=some l.V:=by rw [Uy];exact qP _ _
 refine hX ?_
 simp_arith! [bc,bo,bl,FQ]
 refine fi hla ⟨l,t,rfl,sl'.m,sl'.p,st,sl'.v,?_⟩
 obtain ⟨M,hM⟩:∃M:Sr→Hq→Prop,∀τ' J',M τ' J'↔τ'=[some (.ref p),some (fr t),some (.int v),some (fr (l.at t))]∧J'=put J r (.lst ((if l.m=t then ls else ls ++ [l]).map aM.V)):=⟨_,λ_ _=>Iff.rfl⟩
 refine ⟨M,?_,?_⟩
 ·simp_arith! [bc,bo,bl,FQ,hla,mf]
  split
  ·rename_i e
   refine ⟨l.V,by simp,(hM _ _).mpr ⟨rfl,?_⟩⟩
   rw [if_pos e,Uy,UA,Va,Vt]
  ·rename_i e
   exact (hM _ _).mpr ⟨rfl,by rw [if_neg e,Ba bl]⟩
 ·intro τ' J' hm
  obtain ⟨rfl,rfl⟩:=(hM _ _).mp hm
  clear hm hM M
  have et:turned (ls ++ [l]) t v=if (if l.m=t then ls else ls ++ [l]).getLast?.map aM.v=some v then (if l.m=t then ls else ls ++ [l]) else (if l.m=t then ls else ls ++ [l]) ++ [⟨t,l.at t,v⟩]:=by
   unfold turned
   simp only [UX,Vt]
  have hrl:(if l.m=t then ls else ls ++ [l]).length≤900:=by
   split
   ·rw [UR] at hl;omega
   ·exact hl
  rw [et] at q
  generalize (if l.m=t then ls else ls ++ [l])=rest at q hrl ⊢
  simp_arith! [bc,aq (Ne.symm npr),bo,FQ,cm,tV]
  rcases Wt rest with rfl | ⟨ks,k,rfl⟩
  ·simp only [List.getLast?_nil,Option.map_none,reduceCtorEq,if_false,List.nil_append] at q
   simpa [KD,sizeLine] using q
  ·rw [Wu] at *
   rw [UX,VP] at q
   have hk:c4 ((ks ++ [k]).map aM.V) (-1)=some k.V:=by rw [Uy];exact qP _ _
   rw [if_pos (by simp)]
   simp_arith! [bc,aq (Ne.symm npr),bo,FQ,hk,iu,Us]
   by_cases e:k.v=v
   ·rw [if_pos e];rw [if_pos (congrArg some e)] at q;exact q
   ·rw [if_neg e];rw [if_neg (λz=>e (Option.some.inj z))] at q
    simp_arith! [bc,aq (Ne.symm npr),bo,FQ,cm,tV,Us]
    refine ⟨a7 (by omega),?_⟩
    rw [Uy] at q
    exact q
abbrev mT:Stmt:=(L2.inClass (top 29) 3)
abbrev qi:List Str:=["self"]
theorem zw:L2.aw ["self"] ["self"] (L2.au mT):=dt
def CT (cL:Addr):cq:=λxs J Q _=>∃p r rows g,xs=[.ref p]∧vO cL J p r rows g∧(Q (.fl (rows.map aM.V)) J∨∀l,J l=none→Q (.ref l) (put J l (.lst (rows.map aM.V))))
theorem yZ {cL f:Addr} {fd:FuncData} (F:bU K "legs" "Log.legs" mT f fd) (Z:bE mg) (a8:dC K mg "Log" cL) (aU:aK K cL "rows"):aS P w K mg base (cn P w) 1 f fd qi (cK K (CT cL)):=by
 simp_arith [zw,(ak (az (c8 kb rfl Z.list boot_list (af (aV a8.cl aU (rv 0)) ah)))),F]
 ·obtain ⟨p,r,rows,g,rfl,_⟩:=h;rfl
 obtain ⟨p,r,rows,g,rfl,b,q⟩:=h
 have bo:=b.o
 have bl:=b.l
 refine hX ?_
 simp_arith! [bc,bo,bl,FQ]
 intro l hl
 rcases q with q | q
 ·exact Fg.pf (fZ hl) av hl q
 ·exact Fg.same (q l hl)
abbrev mS:Stmt:=(L2.inClass (top 29) 4)
abbrev qh:List Str:=["self"]
theorem zu:L2.aw ["self"] ["self"] (L2.au mS):=dt
def CS (cL:Addr):cq:=λxs J Q _=>∃p r rows g,xs=[.ref p]∧vO cL J p r rows g∧Q (gv g) J
theorem yY {cL f:Addr} {fd:FuncData} (F:bU K "left" "Log.left" mS f fd) (Z:bE mg) (a8:dC K mg "Log" cL) (bD:aK K cL "gone"):aS P w K mg base (cn P w) 1 f fd qh (cK K (CS cL)):=by
 simp_arith [zu,(ak (az (aV a8.cl bD (rv 0))))]
 ·obtain ⟨p,r,rows,g,rfl,_⟩:=h;rfl
 obtain ⟨p,r,rows,g,rfl,b,q⟩:=h
 have bo:=b.o
 refine hX ?_
 simp_arith! [bc,bo,R8]
 exact q
theorem TB {rows:List aM} {i:Nat} {b:aM} (h:rows[i]?=some b):c4 (rows.map aM.V) (i:Int)=some b.V:=bP (by rw [Uw,h];rfl)
abbrev pO:Stmt:=(top 19)
abbrev sP:List Str:=["rows","moment"]
theorem m6:L2.aw ["rows","moment","at"] ["rows","moment"] (L2.au pO):=dt
def zE:cq:=λxs J Q _=>∃(x:PV) (t:Rat) (ys:List PV) (ms:List Rat),xs=[x,fr t]∧kB J x=some ys∧ys.length=ms.length∧ms.length≤900∧(∀(i:Nat) y m,ys[i]?=some y→ms[i]?=some m→fz J y (.int 0)=some (fr m))∧Sz 9000 t∧(∀m∈ms,Sz 9000 m)∧Q (.int ((lb ms t ms.length:Int) - 1)) J
theorem y8 {f:Addr} {fd:FuncData} (F:bU K "last_by" "last_by" pO f fd) (Z:bE mg) (cO:bj P w K mg base 1 "less" fo cy):aS P w K mg base (cn P w) 2 f fd sP (cK K zE):=by
 simp_arith [m6,(ai (aA (i:=2) m6.nd (ay c7 (aF bK rfl Z.len boot_len (af (rv 0) ah)) ag))
   (ai (g8 bG (cf (dT (aE zd (rv 2) ag) (c5 (bq (aL cO B hr (af (rv 1) (af (aj ar (aj ar (rv 0) (rv 2)) ag) ah))))))) (ak (G1 (i:=2) m6.nd ag FA)))
   (ak (az (rv 2)))))]
 ·obtain ⟨x,t,ys,ms,rfl,_⟩:=h;rfl
 obtain ⟨x,t,ys,ms,rfl,hx,hlen,hl,h0,st,sm,q⟩:=h
 refine hX ?_
 simp_arith! [bc,Aw hx,hlen]
 refine ⟨λk τ J'=>∃j:Nat,τ=[some x,some (fr t),some (.int ((j:Int) - 1))]∧J'=J∧j≤ms.length∧k=j∧lb ms t ms.length=lb ms t j,⟨_,ms.length,rfl,rfl,UC _,rfl,rfl⟩,?_⟩
 rintro k τ J' ⟨j,rfl,rfl,hj,rfl,hb⟩
 simp_arith! [bc,Ce hx,cy]
 cases k with
 | zero =>
  rw [if_neg (by omega)]
  rw [hb] at q
  exact q
 | succ k =>
  rw [if_pos (by omega)]
  obtain ⟨y,hy⟩:∃y,ys[k]?=some y:=⟨_,Ut (by omega)⟩
  obtain ⟨m,hm⟩:∃m,ms[k]?=some m:=⟨_,Ut (by omega)⟩
  have ha:c4 ys (((k + 1:Nat):Int) - 1)=some y:=by
   have:((k + 1:Nat):Int) - 1=(k:Int):=by omega
   rw [this];exact bP hy
  have em:ms.getD k 0=m:=by simp [Xb,hm]
  have hu:lb ms t (k + 1)=if m≤t then k + 1 else lb ms t k:=by
   show (if ms.getD k 0≤t then k + 1 else lb ms t k)=_
   rw [em]
  refine fi ha (fi (h0 k y m hy hm) ?_)
  simp_arith! [bc]
  refine ⟨st,sm m (Uz hm),?_⟩
  by_cases c:t < m
  ·rw [if_pos c]
   have hn:¬ m≤t:=Rat.not_le.mpr c
   rw [if_neg hn] at hu
   refine ⟨λτ J''=>τ=[some x,some (fr t),some (.int ((k:Int) - 1))]∧J''=J',λτ' J'' ⟨e1,e2⟩=>⟨k,VJ _,k,e1,e2,by omega,rfl,by rw [hb,hu]⟩,?_⟩
   simp_arith! [bc]
   have:((k + 1:Nat):Int) - 1 - 1=(k:Int) - 1:=by omega
   exact this
  ·rw [if_neg c]
   rw [if_pos (Rat.not_lt.mp c)] at hu
   rw [hb,hu] at q
   exact q
abbrev lj:Stmt:=(L2.inClass (top 29) 5)
abbrev jB:List Str:=["self","moment"]
theorem oN:L2.aw ["self","moment","joined"] ["self","moment"] (L2.au lj):=dt
def tI (cL:Addr):cq:=λxs J Q _=>∃p r rows g t,xs=[.ref p,fr t]∧vO cL J p r rows g∧rows≠[]∧Sz 900 t∧(∀l∈rows,jt 900 l)∧(∀q,g=some q→Sz 900 q)∧Q (.bl (there rows g t)) J
theorem wK {cL f:Addr} {fd:FuncData} (F:bU K "there" "Log.there" lj f fd) (Z:bE mg) (a8:dC K mg "Log" cL) (aU:aK K cL "rows") (bD:aK K cL "gone") (cO:bj P w K mg base 1 "less" fo cy):aS P w K mg base (cn P w) 2 f fd jB (cK K (tI cL)):=by
 simp_arith [oN,(ai (aA (i:=2) oN.nd (aj ar (aj ar (aV a8.cl aU (rv 0)) ag) ag))
   (ai (aP (bq (aL cO B hr (af (rv 1) (af (rv 2) ah)))) (ak (az dw)) aH)
   (ak (az (Qx (er ze (aV a8.cl bD (rv 0)) dk) (xw (aL cO B hr (af (rv 1) (af (aV a8.cl bD (rv 0)) ah)))))))))]
 ·obtain ⟨p,r,rows,g,t,rfl,_⟩:=h;rfl
 obtain ⟨p,r,rows,g,t,rfl,b,hne,st,sl,sg,q⟩:=h
 have bo:=b.o
 have bl:=b.l
 obtain ⟨l,ls,rfl⟩:∃l ls,rows=l :: ls:=U3 hne
 have sl':=(sl l (by simp)).m
 refine hX ?_
 simp_arith! [bc,bo,bl,FQ,R8,mf,cy]
 refine ⟨st.mono (by decide),sl'.mono (by decide),?_⟩
 unfold there at q
 simp only [V6] at q
 by_cases c:t < l.m
 ·rw [if_pos c]
  rw [decide_eq_true c] at q
  exact q
 ·rw [if_neg c]
  rw [decide_eq_false c] at q
  cases g with
  | none=>simpa [gv,O1,Lf,Km] using q
  | some u =>
   simp only [gv,pj,UL,if_false]
   simp only [Km] at q
   refine ⟨u,rfl,st.mono (by decide),(sg u rfl).mono (by decide),?_⟩
   simpa using q
abbrev jK:Stmt:=(L2.inClass (top 29) 6)
abbrev fR:List Str:=["self","moment"]
theorem uJ:L2.aw ["self","moment"] ["self","moment"] (L2.au jK):=dt
def oQ (cL eN:Addr):cq:=λxs J Q E=>∃p r rows g t,xs=[.ref p,fr t]∧vO cL J p r rows g∧rows≠[]∧rows.length≤900∧Sz 900 t∧(∀l∈rows,jt 900 l)∧(∀q,g=some q→Sz 900 q)∧(there rows g t=true→∀l,d_ rows t=some l→Q l.V J)∧(there rows g t=false→E eN J)
theorem uD {cL eN f:Addr} {fd:FuncData} (F:bU K "leg_at" "Log.leg_at" jK f fd) (Z:bE mg) (a8:dC K mg "Log" cL) (aU:aK K cL "rows") (cH:Own K mg "NotThere" eN) (e9:bV P w K mg base cL 2 "there" jB (tI cL))
  (Dd:bj P w K mg base 2 "last_by" sP zE):aS P w K mg base (cn P w) 3 f fd fR (cK K (oQ cL eN)):=by
 simp_arith [uJ,(ai (aP (bT (bq (aX (pl:=_) e9 B hr (rv 0) (af (rv 1) ah)))) (ak (c9 cH rfl bW B.kn rfl (af bJ ah))) aH)
   (ak (az (aj ar (aV a8.cl aU (rv 0)) (aL Dd B hr (af (aV a8.cl aU (rv 0)) (af (rv 1) ah)))))))]
 ·obtain ⟨p,r,rows,g,t,rfl,_⟩:=h;rfl
 obtain ⟨p,r,rows,g,t,rfl,b,hne,hl,st,sl,sg,q,qe⟩:=h
 have bo:=b.o
 have bl:=b.l
 refine hX ?_
 simp_arith! [bc,bo,bl,FQ]
 refine ⟨Pm _ _,p,r,rows,g,t,rfl,b,hne,st,sl,sg,?_⟩
 simp_arith! [bc,eW,bo,bl,FQ]
 cases hc:there rows g t with
 | false=>rw [if_pos rfl];exact qe hc
 | true =>
  rw [if_neg (by decide)]
  obtain ⟨l,h1,h2,h3,h4,h5⟩:=oV hc
  refine ⟨_,t,rows.map aM.V,rows.map aM.m,rfl,by simp_arith! [bc,bl],by simp,by simpa using hl,?_,st.mono (by decide),?_,?_⟩
  ·intro i y m hy hm
   rw [Uw] at hy hm
   cases e:rows[i]? with
   | none=>rw [e] at hy;cases hy
   | some z=>rw [e] at hy hm;cases hy;cases hm;exact mf _ _
  ·intro m hm
   obtain ⟨z,hz,rfl⟩:=Uu.mp hm
   exact (sl z hz).m.mono (by decide)
  ·rw [Us]
   simp_arith! [bc,bl]
   refine fi (x:=l.V) ?_ (q hc l h1)
   have:((lb (rows.map aM.m) t rows.length:Nat):Int) - 1=((lb (rows.map aM.m) t rows.length - 1:Nat):Int):=by omega
   rw [this]
   exact TB h5
abbrev lh:Stmt:=(L2.inClass (top 29) 7)
abbrev oq:List Str:=["self","moment"]
theorem xP:L2.aw ["self","moment"] ["self","moment"] (L2.au lh):=dt
def zC (cL eN:Addr):cq:=λxs J Q E=>∃p r rows g t,xs=[.ref p,fr t]∧vO cL J p r rows g∧rows≠[]∧rows.length≤900∧Sz 900 t∧(∀l∈rows,jt 900 l)∧(∀q,g=some q→Sz 900 q)∧(there rows g t=true→∀l,d_ rows t=some l→Q (fr (l.at t)) J)∧(there rows g t=false→E eN J)
theorem wJ {cL eN f:Addr} {fd:FuncData} (F:bU K "place" "Log.place" lh f fd) (Z:bE mg) (cv:bV P w K mg base cL 3 "leg_at" fR (oQ cL eN))
  (cG:bj P w K mg base 4 "place_on" e_ h_):aS P w K mg base (cn P w) 5 f fd oq (cK K (zC cL eN)):=by
 simp_arith [xP,(ak (az (aL cG B hr (af (aX (pl:=_) cv B hr (rv 0) (af (rv 1) ah)) (af (rv 1) ah)))))]
 ·obtain ⟨p,r,rows,g,t,rfl,_⟩:=h;rfl
 obtain ⟨p,r,rows,g,t,rfl,b,hne,hl,st,sl,sg,q,qe⟩:=h
 have bo:=b.o
 refine hX ?_
 simp_arith! [bc,bo]
 refine ⟨MD _ _,p,r,rows,g,t,rfl,b,hne,hl,st,sl,sg,λhc l h1=>?_,qe⟩
 have hm:l∈rows:=(UI.mp (Wx h1)).1
 exact ⟨l,t,rfl,(sl l hm).m,(sl l hm).p,st,(sl l hm).v,q hc l h1⟩
abbrev k_:Stmt:=(L2.inClass (top 29) 2)
abbrev om:List Str:=["self","moment"]
theorem xO:L2.aw ["self","moment"] ["self","moment"] (L2.au k_):=dt
def zB (cL:Addr):cq:=λxs J Q _=>∃p r rows g t,xs=[.ref p,fr t]∧vO cL J p r rows g∧Q .non (put J p (.ins cL [("rows",.ref r),("gone",fr t)]))
theorem Jw (a b z:PV):kX ("gone":Str) z ([("rows",a),("gone",b)]:List (Str × PV))=([("rows",a),("gone",z)]:List (Str × PV)):=by simp only [kX,F0,if_false,if_true]
theorem Cp (a b z:PV):kX ("rows":Str) z ([("rows",a),("gone",b)]:List (Str × PV))=([("rows",z),("gone",b)]:List (Str × PV)):=by simp only [kX,if_true]
theorem wI {cL f:Addr} {fd:FuncData} (F:bU K "leave" "Log.leave" k_ f fd) (Z:bE mg) (a8:dC K mg "Log" cL) (bD:aK K cL "gone"):aS P w K mg base (cn P w) 1 f fd om (cK K (zB cL)):=by
 simp_arith [xO,(ak (eY a8.cl bD (rv 0) (rv 1)))]
 ·obtain ⟨p,r,rows,g,t,rfl,_⟩:=h;rfl
 obtain ⟨p,r,rows,g,t,rfl,b,q⟩:=h
 have bo:=b.o
 refine hX ?_
 simp_arith! [bc,bo,F0]
 exact ⟨by decide,q⟩
theorem iH {l:aM} {t:Rat} (h:jt 900 l) (sm:Sz 900 t):Sz 3000 (l.at t):=by
 have s1:Sz 1801 (t - l.m):=sm.sub h.m
 have s2:Sz 1900 ((t - l.m) * (l.v:Rat)):=s1.mul h.v
 exact h.p.add s2
abbrev iX:Stmt:=(top 27)
abbrev kU:List Str:=["name","leg","other_name","other_leg","moment"]
theorem hZ:L2.aw ["name","leg","other_name","other_leg","moment","place","other_place"] ["name","leg","other_name","other_leg","moment"] (L2.au iX):=dt
def Hg:cq:=λxs J Q _=>∃(n n':Str) (l l':aM) (t:Rat),xs=[.str n,l.V,.str n',l'.V,fr t]∧jt 900 l∧jt 900 l'∧Sz 900 t∧Q (.bl ((key t (n,l)).lt (key t (n',l')))) J
theorem qG {f:Addr} {fd:FuncData} (F:bU K "lies_behind" "lies_behind" iX f fd) (Z:bE mg) (cG:bj P w K mg base 4 "place_on" e_ h_) (cO:bj P w K mg base 1 "less" fo cy):aS P w K mg base (cn P w) 5 f fd kU (cK K Hg):=by
 simp_arith [hZ,(ai (aA (i:=5) hZ.nd (aL cG B hr (af (rv 1) (af (rv 4) ah))))
   (ai (aA (i:=6) hZ.nd (aL cG B hr (af (rv 3) (af (rv 4) ah))))
   (ai (aP (aE (fF hr.aQ) (rv 5) (rv 6)) (ak (az (aL cO B hr (af (rv 5) (af (rv 6) ah))))) aH)
   (ai (aP (aE (fF hr.aQ) (aj ar (rv 1) ag) (aj ar (rv 3) ag)) (ak (az (er fj (aj ar (rv 1) ag) (aj ar (rv 3) ag)))) aH)
   (ak (az (er AQ (rv 0) (rv 2))))))))]
 ·obtain ⟨n,n',l,l',t,rfl,_⟩:=h;rfl
 obtain ⟨n,n',l,l',t,rfl,sl,sl',st,q⟩:=h
 refine hX ?_
 simp_all! []
 refine ⟨l,t,rfl,sl.m,sl.p,st,sl.v,?_⟩
 simp_all! []
 refine ⟨l',t,rfl,sl'.m,sl'.p,st,sl'.v,?_⟩
 have a1:=iH sl st
 have a2:=iH sl' st
 simp_all! []
 unfold Ky.lt key at q
 dsimp only at q
 by_cases e:l.at t=l'.at t
 ·rw [if_pos e] at q
  rw [if_pos e]
  simp_all! [iu]
  by_cases e2:l.v=l'.v
  ·rw [if_pos e2] at q
   rw [if_pos e2]
   simp_all! []
   exact q
  ·rw [if_neg e2] at q
   rw [if_neg e2]
   simp_all! [iu]
   exact q
 ·rw [if_neg e] at q
  rw [if_neg e]
  simp_all! [cy]
  exact ⟨a1.mono (by decide),a2.mono (by decide),q⟩
abbrev mY:Stmt:=(top 41)
abbrev kT:List Str:=["legs","moment"]
theorem f9:L2.aw ["legs","moment","names","name","at"] ["legs","moment"] (L2.au mY):=dt
def bB (fs:List (Str × aM)):List (Str × PV):=fs.map λx=>(x.1,x.2.V)
def pY:cq:=λxs J Q _=>∃(D:Addr) (fs:List (Str × aM)) (ep:Nat) (t:Rat),xs=[.ref D,fr t]∧J D=some (.dct (bB fs) ep)∧(fs.map (·.1)).Nodup∧fs.length≤100∧Sz 900 t∧(∀x∈fs,jt 900 x.2)∧∀p,J p=none→Q (.ref p) (put J p (.lst ((cQ t fs).map .str)))
theorem wM {f:Addr} {fd:FuncData} (F:bU K "in_order" "in_order" mY f fd) (Z:bE mg) (t4:bj P w K mg base 5 "lies_behind" kU Hg):aS P w K mg base (cn P w) 6 f fd kT (cK K pY):=by
 simp_arith [f9,(ai (aA (i:=2) f9.nd (kY ah))
   (ai (cR bG rfl (gB (rv 0)) (bC (i:=3) f9.nd) (ai (aA (i:=4) f9.nd (aF bK rfl Z.len boot_len (af (rv 2) ah)))
   (ai (g8 bG (cf (dT (aE jV (rv 4) ag) (c5 (bq (aL t4 B hr (af (rv 3) (af (aj bI (rv 0) (rv 3)) (af (aj ar (rv 2) (ay c7 (rv 4) ag)) (af (aj bI (rv 0) (aj ar (rv 2) (ay c7 (rv 4) ag))) (af (rv 1) ah)))))))))) (ak (G1 (i:=4) f9.nd ag FA)))
   (ak (bA (gr PySem.F.plainAttrs_list PySem.F.slot_list_insert PySem.F.type_list_insert lN (rv 2) (af (rv 4) (af (rv 3) ah))))))))
   (ak (az (rv 2)))))]
 ·obtain ⟨D,fs,ep,t,rfl,_⟩:=h;rfl
 obtain ⟨D,fs,ep,t,rfl,hD,hnd,hlen,st,sl,q⟩:=h
 refine hX ?_
 simp_all! []
 intro r hr'
 have nDr:D≠r:=by intro e;subst e;rw [hD] at hr';cases hr'
 simp_all! [aq nDr,hD]
 have hkv:(bB fs).map (λkv=>PV.str kv.1)=fs.map λx=>PV.str x.1:=by unfold bB;rw [Ux];rfl
 rw [hkv]
 obtain ⟨Inv,hInv⟩:∃Inv:Nat→Sr→Hq→Prop,∀i τ J',Inv i τ J'↔∃(u3 u4:Option PV),τ=[some (.ref D),some (fr t),some (.ref r),u3,u4]∧J'=put J r (.lst ((cQ t (fs.take i)).map .str)):=⟨_,λ_ _ _=>Iff.rfl⟩
 refine ed Inv ((hInv _ _ _).mpr ⟨_,_,rfl,rfl⟩) (λi τ J' h=>?_) ?_ ?_
 ·obtain ⟨_,_,_,rfl⟩:=(hInv _ _ _).mp h
  rw [aq nDr];exact hD
 ·intro i x τ J' hx hv
  obtain ⟨u3,u4,rfl,rfl⟩:=(hInv _ _ _).mp hv
  clear hv
  have hi:i < fs.length:=by have:=(Uv.mp hx).1;simpa using this
  rw [Uw,Ut hi] at hx
  cases hx
  rcases hfi:fs[i] with ⟨n,l⟩
  have hmem:(n,l)∈fs:=by rw [← hfi];exact UP hi
  have et:fs.take (i + 1)=fs.take i ++ [(n,l)]:=by rw [UN,Ut hi,hfi];rfl
  have hndt:((fs.take (i + 1)).map (·.1)).Nodup:=by rw [Vj];exact hnd.sublist (U' _ _)
  rw [et,Uy,UA,Va] at hndt
  obtain ⟨hnd1,hnew⟩:=dN hndt
  obtain ⟨ys,hys⟩:∃ys,cI ((fs.take i).map (key t))=ys:=⟨_,rfl⟩
  have srt:qz Ky.lt ys:=by rw [← hys];exact fk (by rw [cD];exact hnd1)
  have hyl:ys.length=i:=by rw [← hys,je,Us,UZ];omega
  have hym:∀y∈ys,∃l',(y.n,l')∈fs∧y=key t (y.n,l')∧y.n≠n:=λy hy=>by
   rw [← hys,bM,Uu] at hy
   obtain ⟨x',hx',rfl⟩:=hy
   exact ⟨x'.2,U9 hx',rfl,λe=>hnew (Uu.mpr ⟨x',hx',e⟩)⟩
  have eo:(cQ t (fs.take i)).map PV.str=ys.map λy=>PV.str y.n:=by unfold cQ;rw [hys,Ux];rfl
  have en:(cQ t (fs.take (i + 1))).map PV.str=(qA Ky.lt (key t (n,l)) ys).map λy=>PV.str y.n:=by
   unfold cQ;rw [et,Uy,UA,Va,jf,hys,Ux];rfl
  rw [eo]
  have hvn:fA (bB fs) n=some l.V:=dX (f:=aM.V) hnd hmem
  have sll:=sl _ hmem
  simp_all! [av,Us]
  refine ⟨λm τ' J'=>m≤ys.length∧τ'=[some (.ref D),some (fr t),some (.ref r),some (.str n),some (.int (m:Nat))]∧J'=put J r (.lst (ys.map λy=>PV.str y.n))∧∀(j:Nat) y,m≤j→ys[j]?=some y→(key t (n,l)).lt y=true,⟨ys.length,UC _,rfl,rfl,λj y hj e=>by rw [Vn hj] at e;cases e⟩,?_⟩
  rintro m τ' J' ⟨hm,rfl,rfl,hall⟩
  have fin:(∀(j:Nat) y,j < m→ys[j]?=some y→y.lt (key t (n,l))=true)→Inv (i + 1) [some (.ref D),some (fr t),some (.ref r),some (.str n),some (.int (m:Nat))] (put J r (.lst ((ys.map λy=>PV.str y.n).take m ++ .str n :: (ys.map λy=>PV.str y.n).drop m))):=λhlow=>by
   refine (hInv _ _ _).mpr ⟨_,_,rfl,?_⟩
   rw [en,← B9 hm hlow λj y hj e=>Ky.OF (hall j y hj e),Uy,UA,Vj,V4]
   rfl
  simp_all! [av,aq nDr,hD,hvn]
  by_cases c0:0 < m
  ·rw [if_pos (by omega)]
   obtain ⟨m',rfl⟩:∃m',m=m' + 1:=⟨m - 1,by omega⟩
   obtain ⟨y,hy⟩:∃y,ys[m']?=some y:=⟨_,Ut (by omega)⟩
   obtain ⟨l',hl',ey,ny⟩:=hym y (Uz hy)
   have ha:c4 (ys.map λy=>PV.str y.n) (((m' + 1:Nat):Int) - 1)=some (.str y.n):=by
    rw [show ((m' + 1:Nat):Int) - 1=((m':Nat):Int) by omega]
    exact bP (by rw [Uw,hy];rfl)
   have hvy:fA (bB fs) y.n=some l'.V:=dX (f:=aM.V) hnd hl'
   simp_all! [ha,av,aq nDr,hD,hvn,hvy]
   refine ⟨n,y.n,l,l',t,rfl,sll,sl _ hl',st,?_⟩
   rw [← ey]
   cases hc:(key t (n,l)).lt y with
   | true =>
    simp_all! []
    refine ⟨_,λτ'' J'' h=>⟨m',VJ _,h⟩,⟨by omega,?_,rfl,λj z hj e=>?_⟩⟩
    ·rw [show ((m' + 1:Nat):Int) - 1=((m':Nat):Int) by omega]
    ·rcases VT hj with h | h
     ·exact hall j z (by omega) e
     ·subst h;rw [hy] at e;cases e;exact hc
   | false =>
    simp_all! [av]
    refine ⟨_,m' + 1,rfl,rfl,by rw [Us];omega,a7 (by rw [Us];omega),by omega,?_⟩
    rw [cm]
    refine fin λj z hj e=>?_
    have hyx:y.lt (key t (n,l))=true:=by
     rcases Ky.QJ (a:=y) (b:=key t (n,l)) ny with h | h
     ·exact h
     ·rw [hc] at h;cases h
    exact zL (lt:=Ky.lt) Ky.tr srt hy e (by omega) hyx
  ·rw [if_neg (by omega)]
   simp_all! [av]
   refine ⟨_,m,rfl,rfl,by rw [Us];omega,a7 (by rw [Us];omega),by omega,?_⟩
   rw [cm]
   exact fin λj z hj e=>by omega
 ·intro τ J' hv
  obtain ⟨u3,u4,rfl,rfl⟩:=(hInv _ _ _).mp hv
  rw [Us,UQ]
  simp_all! []
  exact q r hr'
def o_ (K:PySem.W.Frag) (mg:Str→Option Value):Prop:=∃a:Addr,mg "NOUGHT"=some (.ref a)∧∀H:Hp,f' K H a [.int 0,.int 1]
theorem D1 {K:PySem.W.Frag} {h:Heap} {mg:Str→Option Value} (X:K.In h) (G:h.Ns mainGlobals mg) {a:Addr} {od:Option Addr} {n:Nat} {sl:Array (Option Value)} {t u:Tok}
  (e:PySem.W.nsIn K mainGlobals "NOUGHT"=some (some (.ref a))) (l:K.lookup a=some ⟨.type "tuple",od,.seq #[.int 0 t,.int 1 u] n,sl⟩):o_ K mg :=
 ⟨a,PySem.W.mg_of X G e,λ_=>.inr ⟨_,_,_,l,rfl,rfl,(by show 2≤sizeLine;decide),.cons ⟨t,rfl⟩ (.cons ⟨u,rfl⟩ .nil)⟩⟩
structure Cf where
 n:Str
 a:Addr
 r:Addr
 w:List aM
 g:Option Rat
structure Ln where
 t:Rat
 d:Addr
 e:Nat
 o:Addr
 cs:List Cf
 row:List Str
def Cf.cur (c:Cf):aM:=c.w.getLast?.getD ⟨0,0,0⟩
def Ln.Cq (L:Ln):List Cf:=L.cs.filter λc=>c.g.isNone
def Ln.fs (L:Ln):List (Str × aM):=L.Cq.map λc=>(c.n,c.cur)
structure bh (cN cL:Addr) (J:Hq) (p:Addr) (L:Ln):Prop where
 ob:J p=some (.ins cN [("now",fr L.t),("logs",.ref L.d),("row",.ref L.o)])
 dc:J L.d=some (.dct (L.cs.map λc=>(c.n,PV.ref c.a)) L.e)
 rw:J L.o=some (.lst (L.row.map .str))
 lg:∀c∈L.cs,vO cL J c.a c.r c.w c.g
 ap:(L.cs.map Cf.r).Nodup
 ao:∀c∈L.cs,c.r≠L.o
structure a_ (L:Ln):Prop where
 nd:(L.cs.map Cf.n).Nodup
 ne:∀c∈L.cs,c.w≠[]
 le:∀c∈L.cs,∀l∈c.w,l.m≤L.t
 ck:∀c∈L.cs,∀l∈c.w,tY l
 len:∀c∈L.cs,c.w.length≤200
 gz:∀c∈L.cs,∀q,c.g=some q→Sc iF MM q∧q≤L.t
 t0:0≤L.t
 ts:Sc iF MM L.t
 many:L.cs.length≤100
 rm:∀n,n∈L.row↔n∈L.fs.map (·.1)
 rn:L.row.Nodup
 rl:L.row.length≤12
structure b_ (L:Ln):Prop extends a_ L where
 row:L.row=cQ L.t L.fs
def Ln.own (L:Ln) (p a:Addr):Prop:=a=p∨a=L.d∨a=L.o∨∃c∈L.cs,a=c.a∨a=c.r
structure Mv (J J':Hq) (S S':Addr→Prop):Prop where
 keep:∀a o,J a=some o→¬ S a→J' a=some o
 own:∀a,S' a→S a∨J a=none
 mono:∀a,J' a=none→J a=none
theorem Mv.refl (J:Hq) (S:Addr→Prop):Mv J J S S:=⟨λ_ _ h _=>h,λ_ h=>.inl h,λ_ h=>h⟩
theorem Mv.trans {J J' J'':Hq} {S S' S'':Addr→Prop} (h:Mv J J' S S') (k:Mv J' J'' S' S''):Mv J J'' S S'':=by
 refine ⟨λa o e n=>k.keep a o (h.keep a o e n) λz=>?_,λa z=>?_,λa z=>h.mono a (k.mono a z)⟩
 ·rcases h.own a z with q | q
  ·exact n q
  ·rw [q] at e;cases e
 ·rcases k.own a z with q | q
  ·exact h.own a q
  ·exact .inr (h.mono a q)
theorem Mv.new {J:Hq} {S:Addr→Prop} {x:Addr} {o:HQ} (h:J x=none):Mv J (put J x o) S S:=by
 refine ⟨λa u e _=>?_,λ_ z=>.inl z,λa z=>?_⟩
 ·rw [aq (λq=>by subst q;rw [h] at e;cases e)];exact e
 ·by_cases q:a=x
  ·subst q;rw [av] at z;cases z
  ·rw [aq q] at z;exact z
theorem Mv.wz {J:Hq} {S:Addr→Prop} {x:Addr} {o:HQ} (h:J x=none):Mv J (put J x o) S (λa=>S a∨a=x) :=
 ⟨(Mv.new (S:=S) h).keep,λa z=>z.elim .inl λe=>.inr (by rw [e];exact h),(Mv.new (S:=S) h).mono⟩
theorem bh.keep {cN cL:Addr} {J J':Hq} {p:Addr} {L:Ln} (h:bh cN cL J p L) (k:∀a o,L.own p a→J a=some o→J' a=some o):bh cN cL J' p L :=
 ⟨k _ _ (.inl rfl) h.ob,k _ _ (.inr (.inl rfl)) h.dc,k _ _ (.inr (.inr (.inl rfl))) h.rw,λc hc=>⟨k _ _ (.inr (.inr (.inr ⟨c,hc,.inl rfl⟩))) (h.lg c hc).o,k _ _ (.inr (.inr (.inr ⟨c,hc,.inr rfl⟩))) (h.lg c hc).l⟩,h.ap,h.ao⟩
theorem bh.some {cN cL:Addr} {J:Hq} {p:Addr} {L:Ln} (h:bh cN cL J p L) {a:Addr} (o:L.own p a):J a≠none:=by
 rcases o with rfl | rfl | rfl | ⟨c,hc,rfl | rfl⟩
 ·rw [h.ob];exact λz=>nomatch z
 ·rw [h.dc];exact λz=>nomatch z
 ·rw [h.rw];exact λz=>nomatch z
 ·rw [(h.lg c hc).o];exact λz=>nomatch z
 ·rw [(h.lg c hc).l];exact λz=>nomatch z
theorem bh.fresh {cN cL:Addr} {J:Hq} {p x:Addr} {L:Ln} {o:HQ} (h:bh cN cL J p L) (hx:J x=none):bh cN cL (put J x o) p L :=
 h.keep λa u ow e=>by rw [aq (λq=>by subst q;rw [hx] at e;cases e)];exact e
theorem Ar {J:Hq} {a b C C':Addr} {fs gs:List (Str × PV)} (h:J a=Vf (.ins C fs)) (k:J b=Vf (.ins C' gs)) (n:fs.map (·.1)≠gs.map (·.1)):a≠b:=by
 intro e;subst e;rw [h] at k
 have:=HQ.ins.inj (Option.some.inj k)
 exact n (by rw [this.2])
theorem bh.IX {cN cL:Addr} {J:Hq} {p:Addr} {L:Ln} (h:bh cN cL J p L):L.d≠p:=by intro e;have:=h.ob;rw [← e,h.dc] at this;cases this
theorem bh.IZ {cN cL:Addr} {J:Hq} {p:Addr} {L:Ln} (h:bh cN cL J p L):L.o≠p:=by intro e;have:=h.ob;rw [← e,h.rw] at this;cases this
theorem bh.Sg {cN cL:Addr} {J:Hq} {p:Addr} {L:Ln} (h:bh cN cL J p L):L.d≠L.o:=by intro e;have:=h.rw;rw [← e,h.dc] at this;cases this
theorem sk:([("rows":Str),("gone":Str)]:List Str)≠[("now":Str),("logs":Str),("row":Str)]:=by decide +kernel
theorem bh.Rc {cN cL:Addr} {J:Hq} {p:Addr} {L:Ln} (h:bh cN cL J p L) {c:Cf} (hc:c∈L.cs):c.a≠p:=Ar (h.lg c hc).o h.ob sk
theorem bh.Oe {cN cL:Addr} {J:Hq} {p:Addr} {L:Ln} (h:bh cN cL J p L) {c:Cf} (hc:c∈L.cs):c.r≠p:=by intro e;have:=h.ob;rw [← e,(h.lg c hc).l] at this;cases this
theorem bh.TY {cN cL:Addr} {J:Hq} {p:Addr} {L:Ln} (h:bh cN cL J p L) {c:Cf} (hc:c∈L.cs):c.a≠L.d:=by intro e;have:=h.dc;rw [← e,(h.lg c hc).o] at this;cases this
theorem bh.TZ {cN cL:Addr} {J:Hq} {p:Addr} {L:Ln} (h:bh cN cL J p L) {c:Cf} (hc:c∈L.cs):c.r≠L.d:=by intro e;have:=h.dc;rw [← e,(h.lg c hc).l] at this;cases this
theorem bh.Sf {cN cL:Addr} {J:Hq} {p:Addr} {L:Ln} (h:bh cN cL J p L) {c:Cf} (hc:c∈L.cs):c.a≠L.o:=by intro e;have:=h.rw;rw [← e,(h.lg c hc).o] at this;cases this
theorem bh.Uj {cN cL:Addr} {J:Hq} {p:Addr} {L:Ln} (h:bh cN cL J p L) {c c':Cf} (hc:c∈L.cs) (hc':c'∈L.cs):c.a≠c'.r:=by intro e;have:=(h.lg c' hc').l;rw [← e,(h.lg c hc).o] at this;cases this
theorem bh.Nz {cN cL:Addr} {J:Hq} {p o':Addr} {L:Ln} {row:List Str} (h:bh cN cL J p L) (ho:J o'=Vf (.lst (row.map .str))) (nc:∀c∈L.cs,c.r≠o'):bh cN cL (put J p (.ins cN [("now",fr L.t),("logs",.ref L.d),("row",.ref o')])) p { L with o:=o',row:=row } :=
 ⟨av,by show put J p _ L.d=_;rw [aq h.IX];exact h.dc,by show put J p _ o'=_;rw [aq (λe=>by rw [e,h.ob] at ho;cases ho)];exact ho,
  λc hc=>⟨by rw [aq (h.Rc hc)];exact (h.lg c hc).o,by rw [aq (h.Oe hc)];exact (h.lg c hc).l⟩,h.ap,nc⟩
theorem gR {J:Hq} {S S':Addr→Prop} {x:Addr} {o:HQ} (hx:S x) (hS:∀a,S' a→S a∨J a=none):Mv J (put J x o) S S':=by
 refine ⟨λa u e n=>?_,hS,λa z=>?_⟩
 ·rw [aq (λq=>by subst q;exact n hx)];exact e
 ·by_cases q:a=x
  ·subst q;rw [av] at z;cases z
  ·rw [aq q] at z;exact z
theorem a_.BA {L:Ln} (h:a_ L):Sz 900 L.t:=(mh h.ts).mono (by decide)
theorem tY.Ax {l:aM} (h:tY l):jt 900 l:=⟨h.TX.mono (by decide),h.Oh.mono (by decide),.small (by have:=h.v;omega) (by have:=h.v;omega)⟩
theorem Cf.ip {c:Cf} (h:c.w≠[]):c.w.getLast?=Vf c.cur∧c.cur∈c.w:=by
 unfold Cf.cur
 rw [List.getLast?_eq_some_getLast h]
 exact ⟨rfl,List.getLast_mem h⟩
theorem a_.TV {L:Ln} (h:a_ L) {c:Cf} (hc:c∈L.cs):d_ c.w L.t=Vf c.cur:=by
 unfold d_
 rw [U8.mpr λl hl=>decide_eq_true (h.le c hc l hl)]
 exact (Cf.ip (h.ne c hc)).1
theorem a_.there {L:Ln} (h:a_ L) {c:Cf} (hc:c∈L.cs) (hg:c.g=none):there c.w c.g L.t=true:=by
 obtain ⟨l,ls,e⟩:=U3 (h.ne c hc)
 have:=h.le c hc l (by rw [e];simp)
 rw [hg,e]
 unfold Ov.there
 simp only [V6,Km,Vw]
 rw [decide_eq_false (Rat.not_lt.mpr this)];rfl
theorem Ln.cW {L:Ln} {c:Cf}:c∈L.Cq↔c∈L.cs∧c.g=none:=by
 unfold Ln.Cq
 rw [UI]
 cases c.g <;> simp
theorem fY (L:Ln):L.fs.map (·.1)=L.Cq.map Cf.n:=by unfold Ln.fs;rw [Ux];rfl
theorem a_.Kr {L:Ln} (h:a_ L):(L.fs.map (·.1)).Nodup:=by
 rw [fY]
 unfold Ln.Cq
 exact h.nd.sublist (List.Sublist.map _ V8)
theorem a_.found {L:Ln} (h:a_ L) {n:Str} (hn:n∈L.row):∃c∈L.cs,c.n=n∧c.g=none:=by
 have:=(h.rm n).mp hn
 rw [fY,Uu] at this
 obtain ⟨c,hc,e⟩:=this
 exact ⟨c,(Ln.cW.mp hc).1,e,(Ln.cW.mp hc).2⟩
theorem a_.va {L:Ln} (h:a_ L) {c:Cf} (hc:c∈L.cs):fA (L.cs.map λc=>(c.n,PV.ref c.a)) c.n=Vf (.ref c.a):=by
 have e:(L.cs.map λc=>(c.n,PV.ref c.a))=((L.cs.map λc=>(c.n,c.a)).map λx=>(x.1,PV.ref x.2)):=by rw [Ux];rfl
 rw [e]
 exact dX (f:=PV.ref) (by rw [Ux];exact h.nd) (Uu.mpr ⟨c,hc,rfl⟩)
theorem a_.T_ {L:Ln} (h:a_ L) {n:Str}:(fA (L.cs.map λc=>(c.n,PV.ref c.a)) n).isSome=decide (n∈L.cs.map Cf.n):=by
 have e:(L.cs.map λc=>(c.n,PV.ref c.a))=((L.cs.map λc=>(c.n,c.a)).map λx=>(x.1,PV.ref x.2)):=by rw [Ux];rfl
 rw [e,vK (f:=PV.ref) (by rw [Ux];exact h.nd)]
 rw [Ux];rfl
theorem a_.uniq {L:Ln} (h:a_ L) {c c':Cf} (hc:c∈L.cs) (hc':c'∈L.cs) (e:c.n=c'.n):c=c':=by
 obtain ⟨i,hi,rfl⟩:=U7 hc
 obtain ⟨j,hj,rfl⟩:=U7 hc'
 have:=(Vl (xs:=L.cs.map Cf.n) (i:=i) (j:=j) (h₀:=by simpa using hi) (h₁:=by simpa using hj) h.nd).mp (by rw [U_,U_];exact e)
 subst this;rfl
theorem pA (a b c:PV):([("now",a),("logs",b),("row",c)]:List (Str × PV)).lookup ("now":Str)=Vf a:=rfl
theorem pB (a b c:PV):([("now",a),("logs",b),("row",c)]:List (Str × PV)).lookup ("logs":Str)=Vf b:=rfl
theorem sj (a b c:PV):([("now",a),("logs",b),("row",c)]:List (Str × PV)).lookup ("row":Str)=Vf c:=rfl
theorem dD (m:Str) (a b c:PV) (h:(m == ("now":Str))=false:=by decide +kernel) (k:(m == ("logs":Str))=false:=by decide +kernel) (l:(m == ("row":Str))=false:=by decide +kernel):([("now",a),("logs",b),("row",c)]:List (Str × PV)).lookup m=none:=by
 rw [U4,h];simp only;rw [U4,k];simp only;rw [U4,l];rfl
theorem KJ:(("now":Str)=("logs":Str))=False:=eq_false (by decide +kernel)
theorem KL:(("now":Str)=("row":Str))=False:=eq_false (by decide +kernel)
theorem KI:(("logs":Str)=("row":Str))=False:=eq_false (by decide +kernel)
theorem Co (a b c z:PV):kX ("row":Str) z ([("now",a),("logs",b),("row",c)]:List (Str × PV))=([("now",a),("logs",b),("row",z)]:List (Str × PV)):=by simp only [kX,KL,KI,if_false,if_true]
theorem ND {J:Hq} {a:Addr} {xs:List PV} (h:J a=Vf (.lst xs)):Om J (.ref a)=Vf xs:=by unfold Om;simp only [h]
abbrev gj:Stmt:=(L2.inClass (top 42) 0)
abbrev fK:List Str:=["self"]
theorem pS:L2.aw ["self"] ["self"] (L2.au gj):=dt
def x4 (cN cL:Addr):cq:=λxs J Q _=>∃p,xs=[.ref p]∧J p=some (.ins cN [])∧∀J' d e o,bh cN cL J' p ⟨0,d,e,o,[],[]⟩→Mv J J' (λa=>a=p) (Ln.own ⟨0,d,e,o,[],[]⟩ p)→Q .non J'
theorem wC {cN cL f:Addr} {fd:FuncData} (F:bU K "__init__" "Lane.__init__" gj f fd) (N:o_ K mg) (ax:dC K mg "Lane" cN) (aB:aK K cN "now") (aI:aK K cN "logs") (aJ:aK K cN "row"):aS P w K mg base (cn P w) 1 f fd fK (cK K (x4 cN cL)):=by
 simp_arith [pS]
 ·obtain ⟨p,rfl,_⟩:=h;rfl
 obtain ⟨p,rfl,hp,q⟩:=h
 obtain ⟨aN,gN,sN⟩:=N
 have rN:∀(J:Hq) (H:Hp),cY K J H (fr 0) (.ref aN):=λJ H=>⟨aN,_,rfl,sN H,⟨_,_,rfl,rfl,_,_,rfl,rfl,rfl⟩⟩
 refine ⟨_,(ai (eY ax.cl aB (rv 0) (fq (v:=.ref aN) (fr 0) rfl gN rfl rN))
   (ai (eY ax.cl aI (rv 0) oF)
   (ak (eY ax.cl aJ (rv 0) (kY ah))))),?_⟩
 simp_all! [hp]
 refine ⟨by decide,?_⟩
 simp_all! []
 intro d hd ep
 have IX:d≠p:=by intro e;subst e;rw [av] at hd;cases hd
 simp_all! [aq (Ne.symm IX),av]
 simp only [KJ,if_false]
 refine ⟨by decide,?_⟩
 simp_all! []
 intro o ho
 have jd:J d=none:=by rw [aq IX] at hd;exact hd
 have IZ:o≠p:=by intro e;subst e;rw [av] at ho;cases ho
 have nod:o≠d:=by intro e;subst e;rw [aq IZ,av] at ho;cases ho
 have jo:J o=none:=by rw [aq IZ,aq nod,aq IZ] at ho;exact ho
 refine gg (by rw [aq (Ne.symm IZ)];exact av) ⟨by show (2:Nat) < 1000;decide,?_⟩
 have pr:kX ("row":Str) (PV.ref o) ([("now",fr 0),("logs",.ref d)]:List (Str × PV))=([("now",fr 0),("logs",.ref d),("row",.ref o)]:List (Str × PV)):=by simp only [kX,KL,KI,if_false]
 rw [pr]
 refine q _ d ep o ⟨av,by rw [aq IX,aq (Ne.symm nod),aq IX];exact av,by rw [aq IZ];exact av,(by simp),(by simp),(by simp)⟩ ⟨λa u e na=>?_,λa ow=>?_,λa z=>?_⟩
 ·have na1:a≠d:=λz=>by subst z;rw [jd] at e;cases e
  have na2:a≠o:=λz=>by subst z;rw [jo] at e;cases e
  rw [aq na,aq na2,aq na,aq na1,aq na];exact e
 ·rcases ow with rfl | rfl | rfl | ⟨c,hc,_⟩
  ·exact .inl rfl
  ·exact .inr jd
  ·exact .inr jo
  ·cases hc
 ·by_cases z1:a=p
  ·subst z1;rw [av] at z;cases z
  by_cases z2:a=o
  ·subst z2;exact jo
  by_cases z3:a=d
  ·subst z3;exact jd
  rw [aq z1,aq z2,aq z1,aq z3,aq z1] at z;exact z
abbrev dU:Stmt:=(L2.inClass (top 42) 22)
abbrev cJ:List Str:=["self","name"]
theorem j6:L2.aw ["self","name"] ["self","name"] (L2.au dU):=dt
def rb (cN cL eC:Addr):cq:=λxs J Q E=>∃p L n,xs=[.ref p,.str n]∧bh cN cL J p L∧(n∈L.row→Q .non J)∧(n ∉ L.row→E eC J)
theorem j5 {cN cL eC f:Addr} {fd:FuncData} (F:bU K "must_be_there" "Lane.must_be_there" dU f fd) (Z:bE mg) (ax:dC K mg "Lane" cN) (aJ:aK K cN "row") (eZ:Own K mg "NoCraft" eC):aS P w K mg base (cn P w) 1 f fd cJ (cK K (rb cN cL eC)):=by
 simp_arith [j6,(ak (aP (aE Jl (rv 1) (aV ax.cl aJ (rv 0))) (ak (c9 eZ rfl bW B.kn rfl (af bJ ah))) aH))]
 ·obtain ⟨p,L,n,rfl,_⟩:=h;rfl
 obtain ⟨p,L,n,rfl,b,q,qe⟩:=h
 have bo:=b.ob
 refine hX ?_
 simp_all! [bo,sj,P6,ND b.rw]
 refine ⟨L.row,rfl,?_⟩
 by_cases c:n∈L.row
 ·rw [if_pos (by simp [c])]
  exact q c
 ·rw [if_neg (by simp [c])]
  simp_all! [eW]
  exact qe c
abbrev iU:Stmt:=(L2.inClass (top 42) 23)
abbrev dO:List Str:=["self","name"]
theorem tq:L2.aw ["self","name"] ["self","name"] (L2.au iU):=dt
def lq (cN cL eC:Addr):cq:=λxs J Q E=>∃p L n,xs=[.ref p,.str n]∧bh cN cL J p L∧a_ L∧(∀c∈L.cs,c.n=n→c.g=none→Q c.cur.V J)∧(n ∉ L.row→E eC J)
theorem sv {cN cL eC eN f:Addr} {fd:FuncData} (F:bU K "leg_of" "Lane.leg_of" iU f fd) (Z:bE mg) (ax:dC K mg "Lane" cN) (aI:aK K cN "logs") (aB:aK K cN "now") (ba:bV P w K mg base cN 1 "must_be_there" cJ (rb cN cL eC)) (cv:bV P w K mg base cL 3 "leg_at" fR (oQ cL eN)) :
  aS P w K mg base (cn P w) 4 f fd dO (cK K (lq cN cL eC)):=by
 simp_arith [tq,(ai (bA (aX (pl:=_) ba B hr (rv 0) (af (rv 1) ah)))
   (ak (az (aX (pl:=_) cv B hr (aj bI (aV ax.cl aI (rv 0)) (rv 1)) (af (aV ax.cl aB (rv 0)) ah)))))]
 ·obtain ⟨p,L,n,rfl,_⟩:=h;rfl
 obtain ⟨p,L,n,rfl,b,ok,q,qe⟩:=h
 have bo:=b.ob
 have bd:=b.dc
 refine hX ?_
 simp_all! [bo]
 refine ⟨dD _ _ _ _,p,L,n,rfl,b,λhn=>?_,qe⟩
 obtain ⟨c,hc,rfl,hg⟩:=ok.found hn
 have lo:=(b.lg c hc).o
 simp_all! [bo,pB,bd,ok.va hc,lo]
 refine ⟨MD _ _,?_⟩
 simp_all! [bo,pA]
 refine ⟨c.a,c.r,c.w,c.g,L.t,rfl,b.lg c hc,ok.ne c hc,UM (ok.len c hc) (by decide),ok.BA,λl hl=>(ok.ck c hc l hl).Ax,λq' hq=>(mh (ok.gz c hc q' hq).1).mono (by decide),λ_ l hl=>?_,λz=>?_⟩
 ·rw [ok.TV hc] at hl;cases hl
  exact q c hc rfl hg
 ·rw [ok.there hc hg] at z;cases z
abbrev fS:Stmt:=(L2.inClass (top 42) 24)
abbrev dP:List Str:=["self"]
theorem tw:L2.aw ["self"] ["self"] (L2.au fS):=dt
theorem Gn {L:Ln} (ok:a_ L) {f:Str→aM} (hf:∀c∈L.cs,c.g=none→f c.n=c.cur):cQ L.t (L.row.map λn=>(n,f n))=cQ L.t L.fs:=by
 refine Gm (by rw [Ux];show (L.row.map λn=>n).Nodup;rw [Wa];exact ok.rn) ok.Kr λx=>?_
 rw [Uu,Uu]
 constructor
 ·rintro ⟨y,hy,rfl⟩
  obtain ⟨n,hn,rfl⟩:=Uu.mp hy
  obtain ⟨c,hc,rfl,hg⟩:=ok.found hn
  exact ⟨(c.n,c.cur),Uu.mpr ⟨c,Ln.cW.mpr ⟨hc,hg⟩,rfl⟩,by rw [hf c hc hg]⟩
 ·rintro ⟨y,hy,rfl⟩
  obtain ⟨c,hc,rfl⟩:=Uu.mp hy
  obtain ⟨hc,hg⟩:=Ln.cW.mp hc
  refine ⟨(c.n,f c.n),Uu.mpr ⟨c.n,(ok.rm c.n).mpr ?_,rfl⟩,by rw [hf c hc hg]⟩
  rw [fY];exact Uu.mpr ⟨c,Ln.cW.mpr ⟨hc,hg⟩,rfl⟩
def Ln.l7 (L:Ln) (n:Str):aM:=((L.cs.find? λc=>decide (c.n=n)).map Cf.cur).getD ⟨0,0,0⟩
theorem a_.l7 {L:Ln} (ok:a_ L) {c:Cf} (hc:c∈L.cs):L.l7 c.n=c.cur:=by
 unfold Ln.l7
 cases h:L.cs.find? λd=>decide (d.n=c.n) with
 | none=>have:=List.find?_eq_none.mp h c hc;simp at this
 | some d =>
  have h1:=List.mem_of_find?_eq_some h
  have h2:d.n=c.n:=by simpa using List.find?_some h
  rw [ok.uniq h1 hc h2];rfl
def jm (cN cL:Addr):cq:=λxs J Q E=>∃p L,xs=[.ref p]∧bh cN cL J p L∧a_ L∧∀J' o',bh cN cL J' p { L with o:=o',row:=cQ L.t L.fs }→Mv J J' (L.own p) (Ln.own { L with o:=o',row:=cQ L.t L.fs } p)→Q .non J'
theorem sD {cN cL eC f:Addr} {fd:FuncData} (F:bU K "settle" "Lane.settle" fS f fd) (Z:bE mg) (ax:dC K mg "Lane" cN) (aJ:aK K cN "row") (aB:aK K cN "now") (bF:bV P w K mg base cN 4 "leg_of" dO (lq cN cL eC)) (mB:bj P w K mg base 6 "in_order" kT pY) :
  aS P w K mg base (cn P w) 7 f fd dP (cK K (jm cN cL)):=by
 simp_arith [tw,(ak (eY ax.cl aJ (rv 0) (aL mB B hr (af (K7 (L2.au fS) ["self"] [("self",0)] rfl rfl rfl (d7 (aV ax.cl aJ (rv 0))) (λ_ _ _ _ _ _=>(rv 0)) (λ_ _ _ _ _ _=>(aX (pl:=_) bF DC hr (rv 1) (af (rv 0) ah)))) (af (aV ax.cl aB (rv 0)) ah)))))]
 ·obtain ⟨p,L,rfl,_⟩:=h;rfl
 obtain ⟨p,L,rfl,b,ok,q⟩:=h
 have bo:=b.ob
 have br:=b.rw
 refine hX ?_
 simp_all! [Oj,bo,sj,br]
 intro D hD ep
 have bf:∀e2 kvs,bh cN cL (put J D (.dct kvs e2)) p L:=λe2 kvs=>b.fresh hD
 have hrl:=ok.rl
 refine ⟨λi J2=>∃e2,J2=put J D (.dct (bB ((L.row.take i).map λn=>(n,L.l7 n))) e2),⟨ep,rfl⟩,?_,?_,?_⟩
 ·rintro i J2 ⟨e2,rfl⟩;exact (bf e2 _).rw
 ·rintro i x J2 hx ⟨e2,rfl⟩
  have hi:i < L.row.length:=by have:=(Uv.mp hx).1;simpa using this
  rw [Uw,Ut hi] at hx
  cases hx
  have hn:L.row[i]∈L.row:=UP hi
  refine gg (bf e2 _).ob ⟨dD _ _ _ _,p,L,L.row[i],rfl,bf e2 _,ok,λc hc e hg=>?_,λz=>absurd hn z⟩
  refine ⟨_,e2,L.row[i],rfl,av,a7 (by simp only [bB,Us,UZ];omega),λep'=>⟨ep',?_⟩⟩
  rw [cm]
  congr 2
  have et:L.row.take (i + 1)=L.row.take i ++ [L.row[i]]:=by rw [UN,Ut hi];rfl
  rw [et,Uy,UA,Va,← e,ok.l7 hc]
  refine mR (f:=aM.V) (l:=c.cur) λz=>?_
  rw [Ux] at z
  obtain ⟨m,hm,e3⟩:=Uu.mp z
  have hnd:(L.row.take (i + 1)).Nodup:=ok.rn.sublist (U' _ _)
  rw [et] at hnd
  exact (dN hnd).2 (by rw [← e,← e3];exact hm)
 ·rintro J2 ⟨e2,rfl⟩
  rw [Us,UQ]
  refine gg (bf e2 _).ob (fi (pA _ _ _) ⟨D,_,e2,L.t,rfl,av,?_,by rw [Us];omega,ok.BA,?_,λo' ho'=>?_⟩)
  ·rw [Ux];show (L.row.map λn=>n).Nodup;rw [Wa];exact ok.rn
  ·intro x hx
   obtain ⟨n,hn,rfl⟩:=Uu.mp hx
   obtain ⟨c,hc,rfl,hg⟩:=ok.found hn
   show jt 900 (L.l7 c.n)
   rw [ok.l7 hc]
   exact (ok.ck c hc _ (Cf.ip (ok.ne c hc)).2).Ax
  ·rw [Gn ok λc hc _=>ok.l7 hc]
   have b2:bh cN cL (put (put J D (.dct (bB (L.row.map λn=>(n,L.l7 n))) e2)) o' (.lst ((cQ L.t L.fs).map .str))) p L:=(bf e2 _).fresh ho'
   have jo:J o'=none:=by
    by_cases z:o'=D
    ·subst z;exact hD
    ·rw [aq z] at ho';exact ho'
   refine gg b2.ob ⟨by show (3:Nat) < 1000;decide,?_⟩
   rw [Co]
   refine q _ o' (b2.Nz av λc hc e=>?_) ?_
   ·have:=(b.lg c hc).l;rw [e,jo] at this;cases this
   ·refine ((Mv.new hD).trans (Mv.wz ho')).trans (gR (.inl (.inl rfl)) λa ow=>.inl ?_)
    rcases ow with h | h | h | h
    ·exact .inl (.inl h)
    ·exact .inl (.inr (.inl h))
    ·exact .inr h
    ·exact .inl (.inr (.inr (.inr h)))
def dI:Str:="abcdefghijklmnopqrstuvwxyz0123456789"
def good (y:Str):Bool:=decide (1≤y.cps.size) && decide (y.cps.size≤8) && y.cps.toList.all (fv dI)
def CP (T:Addr):cq:=λxs J Q _=>∃y:Str,xs=[.str y]∧y.length≤sizeLine∧J T=some .tab∧Q (.bl (good y)) J
abbrev iB:Stmt:=(top 33)
abbrev oB:List Str:=["text"]
theorem xQ:L2.aw ["text"] ["text"] (L2.au iB):=dt
theorem uE {T f c:Addr} {fd:FuncData} (F:Ie K mg "good_name" iB T f fd c) (Z:bE mg) (Bm:BMain mg base) {lY rh:Tok} (jb:mg "LONGEST"=some (.int 8 lY)) (nS:mg "SIGNS"=some (.str "abcdefghijklmnopqrstuvwxyz0123456789" rh)) :
  aS P w K mg base (cn P w) 1 f fd oB (cK K (CP T)):=by
 refine Sl F xQ (λxs J Q E h=>?_) (λA outer s H E G xs J Q E2 hr h B=>?_)
 ·obtain ⟨y,rfl,_⟩:=h;rfl
 obtain ⟨y,rfl,hz,hT,q⟩:=h
 refine ⟨_,(ai (aP (cf (eI (aE fj (aF BS rfl Z.len boot_len (af (rv 0) ah)) ag) (dm (aE jV (aF BS rfl Z.len boot_len (af (rv 0) ah)) (fq (v:=.int 8) (.int 8) rfl jb ⟨_,rfl⟩ (λ_ _=>rfl)))))) (ak (az dw)) aH)
   (ak (az (GX rfl Bm rfl F.tab hr rfl Z.all nS (rv 0))))),?_⟩
 have el:y.cps.size=y.length:=rfl
 unfold good at q
 rw [el] at q
 simp_all! [KS]
 refine ⟨hz,?_⟩
 by_cases h1:1≤y.length
 rotate_left
 ·rw [if_pos (by omega)]
  rw [decide_eq_false h1,VZ,VZ] at q
  exact q
 rw [if_neg (by omega)]
 refine ⟨hz,?_⟩
 by_cases h2:y.length≤8
 rotate_left
 ·rw [if_pos (by omega)]
  rw [decide_eq_false h2,V0,VZ] at q
  exact q
 rw [if_neg (by omega)]
 refine hNq _ _ ?_
 rw [decide_eq_true h1,decide_eq_true h2,Bool.true_and,Bool.true_and] at q
 simp_arith! [bc,GQ,hT]
 exact q
theorem B2 (L:Ln) {L':Ln} {c:Cf} (h:L'.cs=L.cs ++ [c]) (hg:c.g=none):L'.fs=L.fs ++ [(c.n,c.cur)]:=by
 unfold Ln.fs Ln.Cq
 rw [h,Vo,Uy]
 simp [hg]
def Ln.joined (L:Ln) (n:Str) (x v:Int) (L':Ln):Prop:=∃a r,L'.cs=L.cs ++ [⟨n,a,r,[⟨L.t,(x:Rat),v⟩],none⟩]∧L'.t=L.t
def Oc (x v:Int):Prop:=x.natAbs≤1000000∧v.natAbs≤1000
def CY (cN cL T eB eF eT eU:Addr):cq:=λxs J Q E=>∃p L n x v,xs=[.ref p,.str n,.int x,.int v]∧bh cN cL J p L∧b_ L∧J T=some .tab∧n.length≤sizeLine∧L.cs.length < 100∧(good n=false→E eB J)∧(good n=true→¬ Oc x v→E eF J) ∧
 (good n=true→Oc x v→n∈L.cs.map Cf.n→E eT J)∧(good n=true→Oc x v→n ∉ L.cs.map Cf.n→12≤L.row.length→E eU J) ∧
 (good n=true→Oc x v→n ∉ L.cs.map Cf.n→L.row.length < 12→∀J' L',bh cN cL J' p L'→b_ L'→L.joined n x v L'→Mv J J' (L.own p) (L'.own p)→Q .non J')
abbrev k7:Stmt:=(L2.inClass (top 42) 1)
abbrev og:List Str:=["self","name","place","pace"]
theorem xK:L2.aw ["self","name","place","pace"] ["self","name","place","pace"] (L2.au k7):=dt
theorem bh.add {cN cL:Addr} {J:Hq} {p:Addr} {L:Ln} {c:Cf} {ep:Nat} (h:bh cN cL J p L) (hc:vO cL J c.a c.r c.w c.g) (h1:c.r ∉ L.cs.map Cf.r) (h2:c.r≠L.o) :
  bh cN cL (put (put J L.d (.dct ((L.cs ++ [c]).map λc=>(c.n,PV.ref c.a)) ep)) L.o (.lst ((L.row ++ [c.n]).map .str))) p ⟨L.t,L.d,ep,L.o,L.cs ++ [c],L.row ++ [c.n]⟩:=by
 have n1:c.a≠L.d:=by intro e;have:=h.dc;rw [← e,hc.o] at this;cases this
 have n2:c.a≠L.o:=by intro e;have:=h.rw;rw [← e,hc.o] at this;cases this
 have n3:c.r≠L.d:=by intro e;have:=h.dc;rw [← e,hc.l] at this;cases this
 refine ⟨?_,?_,av,λx hx=>?_,?_,λx hx=>?_⟩
 ·rw [aq (Ne.symm h.IZ),aq (Ne.symm h.IX)];exact h.ob
 ·show put (put J L.d _) L.o _ L.d=_
  rw [aq h.Sg];exact av
 ·rcases UB.mp hx with hx | hx
  ·exact ⟨by rw [aq (h.Sf hx),aq (h.TY hx)];exact (h.lg x hx).o,by rw [aq (h.ao x hx),aq (h.TZ hx)];exact (h.lg x hx).l⟩
  ·rw [UE] at hx;subst hx
   exact ⟨by rw [aq n2,aq n1];exact hc.o,by rw [aq h2,aq n3];exact hc.l⟩
 ·show ((L.cs ++ [c]).map Cf.r).Nodup
  rw [Uy,UA,Va,Vg]
  exact ⟨h.ap,by simp,λx hx y hy e=>by rw [UE] at hy;subst hy;subst e;exact h1 hx⟩
 ·show x.r≠L.o
  rcases UB.mp hx with hx | hx
  ·exact h.ao x hx
  ·rw [UE] at hx;subst hx;exact h2
theorem a_.add {L:Ln} (h:a_ L) {c:Cf} {l:aM} {ep:Nat} (hw:c.w=[l]) (hg:c.g=none) (hl:tY l) (hm:l.m=L.t) (hn:c.n ∉ L.cs.map Cf.n) (hr:L.row.length < 12) (hs:L.cs.length < 100):a_ ⟨L.t,L.d,ep,L.o,L.cs ++ [c],L.row ++ [c.n]⟩:=by
 have hf:Ln.fs ⟨L.t,L.d,ep,L.o,L.cs ++ [c],L.row ++ [c.n]⟩=L.fs ++ [(c.n,c.cur)]:=B2 L rfl hg
 have all:∀{P:Cf→Prop},(∀x∈L.cs,P x)→P c→∀x∈L.cs ++ [c],P x:=λh1 h2 x hx=>by
  rcases UB.mp hx with hx | hx
  ·exact h1 x hx
  ·rw [UE] at hx;subst hx;exact h2
 refine ⟨?_,all h.ne (by rw [hw];simp),all h.le (by rw [hw];simp [hm]),all h.ck (by rw [hw];simpa using hl),all h.len (by rw [hw];show (1:Nat)≤200;decide),all h.gz (by rw [hg];intro q e;cases e),h.t0,h.ts,by show (L.cs ++ [c]).length≤100;rw [UR];simp;omega,λn=>?_,?_,by show (L.row ++ [c.n]).length≤12;rw [UR];simp;omega⟩
 ·show ((L.cs ++ [c]).map Cf.n).Nodup
  rw [Uy,UA,Va,Vg]
  exact ⟨h.nd,by simp,λx hx y hy e=>by rw [UE] at hy;subst hy;subst e;exact hn hx⟩
 ·rw [hf,Uy,UB,UB,h.rm n];simp
 ·show (L.row ++ [c.n]).Nodup
  rw [Vg]
  refine ⟨h.rn,by simp,λx hx y hy e=>?_⟩
  rw [UE] at hy
  rw [e,hy] at hx
  have:=(h.rm _).mp hx
  rw [fY,Uu] at this
  obtain ⟨d,hd,e⟩:=this
  exact hn (Uu.mpr ⟨d,(Ln.cW.mp hd).1,e⟩)
theorem b_.settled {L:Ln} (h:a_ L) (o':Addr):b_ { L with o:=o',row:=cQ L.t L.fs }:=by
 have hl:(cQ L.t L.fs).length≤12:=by
  have h1:(cQ L.t L.fs).Perm L.row:=(List.perm_ext_iff_of_nodup (sH h.Kr) h.rn).mpr λn=>by rw [zg];exact (h.rm n).symm
  rw [h1.length_eq];exact h.rl
 exact ⟨⟨h.nd,h.ne,h.le,h.ck,h.len,h.gz,h.t0,h.ts,h.many,λn=>zg,sH h.Kr,hl⟩,rfl⟩
theorem wD {cN cL T eB eF eT eU f:Addr} {fd:FuncData} (F:bU K "join" "Lane.join" k7 f fd) (Z:bE mg) (ax:dC K mg "Lane" cN) (aJ:aK K cN "row") (aB:aK K cN "now") (aI:aK K cN "logs") {jN gG x9:Tok} (gL:mg "FARTHEST"=some (.int 1000000 jN)) (e8:mg "FASTEST"=some (.int 1000 gG)) (rW:mg "MOST"=some (.int 12 x9))
  (i7:Own K mg "BadName" eB) (fT:Own K mg "TooFar" eF) (nK:Own K mg "Taken" eT) (rH:Own K mg "Full" eU) (yd:bj P w K mg base 1 "good_name" oB (CP T)) (uQ:yr P w K mg base cL 1 "Log" gi (xV cL)) (bH:bV P w K mg base cN 7 "settle" dP (jm cN cL)) :
  aS P w K mg base (cn P w) 8 f fd og (cK K (CY cN cL T eB eF eT eU)):=by
 simp_arith [xK,(ai (aP (bT (bq (aL yd B hr (af (rv 1) ah)))) (ak (c9 i7 rfl bW B.kn rfl (af bJ ah))) aH)
   (ai (aP (cf (eI (aE jV (aF ka rfl Z.abs boot_abs (af (rv 2) ah)) (fq (v:=.int 1000000) (.int 1000000) rfl gL ⟨_,rfl⟩ (λ_ _=>rfl))) (dm (aE jV (aF ka rfl Z.abs boot_abs (af (rv 3) ah)) (fq (v:=.int 1000) (.int 1000) rfl e8 ⟨_,rfl⟩ (λ_ _=>rfl)))))) (ak (c9 fT rfl bW B.kn rfl (af bJ ah))) aH)
   (ai (aP (aE M1 (rv 1) (aV ax.cl aI (rv 0))) (ak (c9 nK rfl bW B.kn rfl (af bJ ah))) aH)
   (ai (aP (aE zd (aF bK rfl Z.len boot_len (af (aV ax.cl aJ (rv 0)) ah)) (fq (v:=.int 12) (.int 12) rfl rW ⟨_,rfl⟩ (λ_ _=>rfl))) (ak (c9 rH rfl bW B.kn rfl (af bJ ah))) aH)
   (ai (iT gD (aV ax.cl aI (rv 0)) (rv 1) (CB uQ B hr (af (aV ax.cl aB (rv 0)) (af (bY (af (rv 2) (af ag ah))) (af (rv 3) ah)))))
   (ai (bA (gr PySem.F.plainAttrs_list PySem.F.slot_list_append PySem.F.type_list_append gF (aV ax.cl aJ (rv 0)) (af (rv 1) ah)))
   (ak (bA (dy (pl:=_) bH B hr (rv 0))))))))))]
 ·obtain ⟨p,L,n,x,v,rfl,_⟩:=h;rfl
 obtain ⟨p,L,n,x,v,rfl,b,ok,hT,hnl,hcs,qb,qf,qt,qu,q⟩:=h
 have bo:=b.ob
 have bd:=b.dc
 have br:=b.rw
 refine hX ?_
 simp_all! []
 refine ⟨n,rfl,hnl,hT,?_⟩
 cases hg:good n with
 | false =>
  simp_all! [eW]
  exact qb hg
 | true =>
 simp_all! []
 by_cases hB:Oc x v
 ·obtain ⟨hx,hv⟩:=id hB
  rw [if_neg (by split <;> omega),if_neg (by split <;> omega)]
  simp_all! [bo,pB,bd,ok.T_]
  by_cases hm:n∈L.cs.map Cf.n
  ·rw [if_pos hm]
   simp_all! [eW]
   exact qt hg hB hm
  rw [if_neg hm]
  simp_all! [bo,sj,br,Us]
  by_cases hr12:12≤L.row.length
  ·rw [if_pos (by omega)]
   simp_all! [eW]
   exact qu hg hB hm hr12
  rw [if_neg (by omega)]
  simp_all! [bo,pA]
  intro a ha
  refine ⟨a,⟨L.t,(x:Rat),v⟩,rfl,av,λr hr'=>?_⟩
  have nra:r≠a:=by intro e;subst e;rw [av] at hr';cases hr'
  have jr:J r=none:=by rw [aq nra] at hr';exact hr'
  have b1:bh cN cL (put (put (put J a (.ins cL [])) r (.lst [(aM.mk L.t (x:Rat) v).V])) a (.ins cL [("rows",.ref r),("gone",.non)])) p L:=b.keep λc u ow e=>by
   have n1:c≠a:=λz=>by subst z;rw [ha] at e;cases e
   have n2:c≠r:=λz=>by subst z;rw [jr] at e;cases e
   rw [aq n1,aq n2,aq n1];exact e
  have l1:vO cL (put (put (put J a (.ins cL [])) r (.lst [(aM.mk L.t (x:Rat) v).V])) a (.ins cL [("rows",.ref r),("gone",.non)])) a r [⟨L.t,(x:Rat),v⟩] none:=⟨av,by rw [aq nra];exact av⟩
  have mv1:Mv J (put (put (put J a (.ins cL [])) r (.lst [(aM.mk L.t (x:Rat) v).V])) a (.ins cL [("rows",.ref r),("gone",.non)])) (L.own p) (λc=>(L.own p c∨c=a)∨c=r) :=
   ((Mv.wz ha).trans (Mv.wz hr')).trans (gR (.inl (.inr rfl)) λc h=>.inl h)
  generalize (put (put (put J a (.ins cL [])) r (.lst [(aM.mk L.t (x:Rat) v).V])) a (.ins cL [("rows",.ref r),("gone",.non)]))=J1 at b1 l1 mv1 ⊢
  have bo1:=b1.ob
  have bd1:=b1.dc
  simp_all! [bo1,pB,bd1]
  refine ⟨a7 (by rw [Us];omega),λep'=>?_⟩
  have epu:lR (L.cs.map λc=>(c.n,PV.ref c.a)) n (PV.ref a)=(L.cs ++ [Cf.mk n a r [⟨L.t,(x:Rat),v⟩] none]).map λc=>(c.n,PV.ref c.a):=by
   have e:(L.cs.map λc=>(c.n,PV.ref c.a))=((L.cs.map λc=>(c.n,c.a)).map λx=>(x.1,PV.ref x.2)):=by rw [Ux];rfl
   rw [e,mR (f:=PV.ref) (l:=a) (by rw [Ux];exact hm),Uy,Uy,Ux];rfl
  rw [epu]
  have hrs:r ∉ L.cs.map Cf.r:=λh=>by
   obtain ⟨c,hc,e⟩:=Uu.mp h
   have:=(b.lg c hc).l;rw [e,jr] at this;cases this
  have hro:r≠L.o:=λe=>by have:=b.rw;rw [← e,jr] at this;cases this
  have b2:=b1.add (c:=Cf.mk n a r [⟨L.t,(x:Rat),v⟩] none) (ep:=ep') l1 hrs hro
  have ok2:a_ ⟨L.t,L.d,ep',L.o,L.cs ++ [Cf.mk n a r [⟨L.t,(x:Rat),v⟩] none],L.row ++ [n]⟩:=ok.toa_.add (c:=Cf.mk n a r [⟨L.t,(x:Rat),v⟩] none) rfl rfl (tY.new ok.t0 ok.ts hx hv) rfl hm (by omega) hcs
  have bo2:(put J1 L.d (HQ.dct ((L.cs ++ [Cf.mk n a r [⟨L.t,(x:Rat),v⟩] none]).map λc=>(c.n,PV.ref c.a)) ep')) p=some (.ins cN [("now",fr L.t),("logs",.ref L.d),("row",.ref L.o)]):=by rw [aq (Ne.symm b1.IX)];exact b1.ob
  have br2:(put J1 L.d (HQ.dct ((L.cs ++ [Cf.mk n a r [⟨L.t,(x:Rat),v⟩] none]).map λc=>(c.n,PV.ref c.a)) ep')) L.o=some (.lst (L.row.map .str)):=by rw [aq (Ne.symm b1.Sg)];exact b1.rw
  have mv2:Mv J1 (put (put J1 L.d (HQ.dct ((L.cs ++ [Cf.mk n a r [⟨L.t,(x:Rat),v⟩] none]).map λc=>(c.n,PV.ref c.a)) ep')) L.o (.lst ((L.row ++ [n]).map .str))) (λc=>(L.own p c∨c=a)∨c=r) (Ln.own ⟨L.t,L.d,ep',L.o,L.cs ++ [Cf.mk n a r [⟨L.t,(x:Rat),v⟩] none],L.row ++ [n]⟩ p):=by
   refine (gR (S':=λc=>(L.own p c∨c=a)∨c=r) (.inl (.inl (.inr (.inl rfl)))) λc h=>.inl h).trans (gR (.inl (.inl (.inr (.inr (.inl rfl))))) λc h=>.inl ?_)
   rcases h with h | h | h | ⟨d,hd,h⟩
   ·exact .inl (.inl (.inl h))
   ·exact .inl (.inl (.inr (.inl h)))
   ·exact .inl (.inl (.inr (.inr (.inl h))))
   ·rcases UB.mp hd with hd | hd
    ·exact .inl (.inl (.inr (.inr (.inr ⟨d,hd,h⟩))))
    ·rw [UE] at hd;subst hd
     rcases h with h | h
     ·exact .inl (.inr h)
     ·exact .inr h
  have mv3:=mv1.trans mv2
  simp_all! [bo2,sj,br2]
  refine ⟨a7 (by rw [Us];omega),?_⟩
  rw [show L.row.map PV.str ++ [PV.str n]=(L.row ++ [n]).map .str by rw [Uy];rfl]
  have bo3:=b2.ob
  generalize (put (put J1 L.d (HQ.dct ((L.cs ++ [Cf.mk n a r [⟨L.t,(x:Rat),v⟩] none]).map λc=>(c.n,PV.ref c.a)) ep')) L.o (.lst ((L.row ++ [n]).map .str)))=J2 at b2 mv3 bo3 ⊢
  simp_all! [bo3]
  refine ⟨dD _ _ _ _,p,_,rfl,b2,ok2,λJ' o' b' mv'=>?_⟩
  exact q hg hB hm (by omega) J' _ b' (b_.settled ok2 o') ⟨a,r,rfl,rfl⟩ (mv3.trans mv')
 ·have hf:=qf hg hB
  by_cases h1:x.natAbs≤1000000
  ·have h2:¬ v.natAbs≤1000:=λh=>hB ⟨h1,h⟩
   rw [if_neg (by split <;> omega),if_pos (by split <;> omega)]
   simp_all! [eW]
   exact hf
  ·rw [if_pos (by split <;> omega)]
   simp_all! [eW]
   exact hf
abbrev jJ:Stmt:=(L2.inClass (top 42) 12)
abbrev iM:List Str:=["self","name"]
theorem uI:L2.aw ["self","name"] ["self","name"] (L2.au jJ):=dt
def tN (cN cL eC:Addr):cq:=λxs J Q E=>∃p L n,xs=[.ref p,.str n]∧bh cN cL J p L∧a_ L∧(∀c∈L.cs,c.n=n→c.g=none→Q (fr (c.cur.at L.t)) J)∧(n ∉ L.row→E eC J)
theorem uC {cN cL eC f:Addr} {fd:FuncData} (F:bU K "place" "Lane.place" jJ f fd) (Z:bE mg) (ax:dC K mg "Lane" cN) (aB:aK K cN "now") (bF:bV P w K mg base cN 4 "leg_of" dO (lq cN cL eC)) (cG:bj P w K mg base 4 "place_on" e_ h_):aS P w K mg base (cn P w) 5 f fd iM (cK K (tN cN cL eC)):=by
 simp_arith [uI,(ak (az (aL cG B hr (af (aX (pl:=_) bF B hr (rv 0) (af (rv 1) ah)) (af (aV ax.cl aB (rv 0)) ah)))))]
 ·obtain ⟨p,L,n,rfl,_⟩:=h;rfl
 obtain ⟨p,L,n,rfl,b,ok,q,qe⟩:=h
 have bo:=b.ob
 refine hX ?_
 simp_all! [bo]
 refine ⟨dD _ _ _ _,p,L,n,rfl,b,ok,λc hc e hg=>?_,qe⟩
 have sl:=(ok.ck c hc _ (Cf.ip (ok.ne c hc)).2).Ax
 simp_all! [bo,pA]
 exact ⟨c.cur,L.t,rfl,sl.m,sl.p,ok.BA,sl.v,q c hc e hg⟩
def aO.v (b:aO):PV:=.tup [fr b.m,.str b.h,.str b.f]
theorem FF (J:Hq) (b:aO):fz J b.v (.int 0)=some (fr b.m):=de _ _
theorem FG (J:Hq) (b:aO):fz J b.v (.int 1)=some (.str b.h):=fU _ _ _
theorem FH (J:Hq) (b:aO):fz J b.v (.int 2)=some (.str b.f):=j_ _ _ _ _
theorem S4 (J:Hq) (b:aO):BD J b.v=some "tuple":=rfl
theorem O8 (J:Hq) (b:aO):wu J b.v=some 3:=rfl
theorem KP (b:aO):nv b.v=true:=by simp [aO.v,Cu,pL,zl,xo,xp]
theorem OP (b:aO):HJ b.v=True:=eq_true ⟨KP b,by simp [aO.v,fr,gy,g6,dep,eA]⟩
theorem RD (a b:aO):eqQ a.v b.v=decide (a=b):=by
 unfold aO.v
 rw [wj,eE,eE,eE,qQ,BY,eq_str,eq_str,Vw,← VD,← VD]
 apply decide_eq_decide.mpr
 cases a;cases b
 simp [aO.mk.injEq]
theorem Lg (a:Rat) (h f:Str):PV.tup [fr a,.str h,.str f]=(aO.mk a h f).v:=rfl
theorem E4 (J:Hq) (b:aO):∃xs,b.v=.tup xs∧¬ (HT.fb xs.length 0 (some 1)=0∧HT.fb xs.length xs.length none=xs.length)∧l6 xs (some 1) none=[b.h,b.f].map .str:=⟨_,rfl,λh=>absurd h.1 (show HT.fb 3 0 (some 1)≠0 by decide),rfl⟩
abbrev iY:Stmt:=(top 21)
abbrev kW:List Str:=["one","other"]
theorem tD:L2.aw ["one","other"] ["one","other"] (L2.au iY):=dt
def xU:cq:=λxs J Q _=>∃a b:aO,xs=[a.v,b.v]∧Sz 9000 a.m∧Sz 9000 b.m∧Q (.bl (a.lt b)) J
theorem R4 (a b c d:Str):mJ [a,b] [c,d]=if a=c then decide (slt b d) else decide (slt a c):=by
 rw [pz]
 by_cases h:a=c
 ·rw [if_pos h,if_pos h,pz]
  by_cases k:b=d
  ·rw [if_pos k,n6];subst k;exact (decide_eq_false (by unfold slt;exact List.lt_irrefl _)).symm
  ·rw [if_neg k];rfl
 ·rw [if_neg h,if_neg h];rfl
theorem qH {f:Addr} {fd:FuncData} (F:bU K "rings_ahead" "rings_ahead" iY f fd) (Z:bE mg) (cO:bj P w K mg base 1 "less" fo cy):aS P w K mg base (cn P w) 2 f fd kW (cK K xU):=by
 simp_arith [tD,(ai (aP (aE (fF hr.aQ) (aj ar (rv 0) ag) (aj ar (rv 1) ag)) (ak (az (aL cO B hr (af (aj ar (rv 0) ag) (af (aj ar (rv 1) ag) ah))))) aH)
   (ak (az (er (Jk hr.NZ) (g7 By (rv 0) (iy ag) lS) (g7 By (rv 1) (iy ag) lS)))))]
 ·obtain ⟨a,b,rfl,_⟩:=h;rfl
 obtain ⟨a,b,rfl,sa,sb,q⟩:=h
 refine hX ?_
 simp_arith! [bc,FF,FG,FH,cy,KU]
 unfold aO.lt at q
 by_cases e:a.m=b.m
 ·rw [if_pos e] at q ⊢
  obtain ⟨xs,h1,h2,h3⟩:=E4 J a
  obtain ⟨ys,h4,h5,h6⟩:=E4 J b
  refine AO h1 ⟨h2,?_⟩
  refine AO h4 ⟨h5,?_⟩
  exact ⟨[a.h,a.f],[b.h,b.f],congrArg PV.tup h3,congrArg PV.tup h6,by rw [R4];exact q⟩
 ·rw [if_neg e] at q ⊢
  exact ⟨sa,sb,q⟩
theorem Pk (v:PV):([("rows",v)]:List (Str × PV)).lookup ("rows":Str)=some v:=rfl
theorem MC {m:Str} (v:PV) (h:(m == ("rows":Str))=false):([("rows",v)]:List (Str × PV)).lookup m=none:=by rw [U4,h];rfl
theorem R5 (v:PV):([("rows",v)]:List (Str × PV)).lookup ("drop":Str)=none:=MC v (by decide +kernel)
theorem R6 (v:PV):([("rows",v)]:List (Str × PV)).lookup ("put":Str)=none:=MC v (by decide +kernel)
theorem R7 (v:PV):([("rows",v)]:List (Str × PV)).lookup ("told":Str)=none:=MC v (by decide +kernel)
theorem Jz {J:Hq} {r p:Addr} {a b c:HQ} (h:r≠p):put (put (put J r a) p b) r c=put (put J r c) p b:=by
 rw [GI (Ne.symm h),cm]
structure Li (cB:Addr) (J:Hq) (p r:Addr) (rows:List aO):Prop where
 o:J p=some (.ins cB [("rows",.ref r)])
 l:J r=some (.lst (rows.map aO.v))
abbrev fN:Stmt:=(L2.inClass (top 22) 0)
abbrev iw:List Str:=["self"]
theorem oK:L2.aw ["self"] ["self"] (L2.au fN):=dt
def CK (cB:Addr):cq:=λxs J Q _=>∃p,xs=[.ref p]∧J p=some (.ins cB [])∧∀r,J r=none→Q .non (put (put J r (.lst [])) p (.ins cB [("rows",.ref r)]))
theorem uw {cB f:Addr} {fd:FuncData} (F:bU K "__init__" "Bells.__init__" fN f fd) (bN:dC K mg "Bells" cB) (a9:aK K cB "rows"):aS P w K mg base (cn P w) 1 f fd iw (cK K (CK cB)):=by
 simp_arith [oK,(ak (eY bN.cl a9 (rv 0) (kY ah)))]
 ·obtain ⟨p,rfl,_⟩:=h;rfl
 obtain ⟨p,rfl,hp,q⟩:=h
 refine hX ?_
 simp_arith! [bc]
 intro r hr'
 have ne:p≠r:=by intro e;subst e;rw [hp] at hr';cases hr'
 exact gg (x:=[]) (by rw [aq ne];exact hp) ⟨by decide,q r hr'⟩
abbrev gC:Stmt:=(L2.inClass (top 22) 2)
abbrev mi:List Str:=["self","hind","fore"]
theorem iZ:L2.aw ["self","hind","fore","kept","found"] ["self","hind","fore"] (L2.au gC):=dt
def CJ (cB:Addr):cq:=λxs J Q _=>∃p r rows h f,xs=[.ref p,.str h,.str f]∧Li cB J p r rows∧rows.length≤900∧∀r',J r'=none→Q (.bl (decide ((dF h f rows).length < rows.length))) (put (put J r' (.lst ((dF h f rows).map aO.v))) p (.ins cB [("rows",.ref r')]))
def tail3:PV→PV
 | .tup xs=>.tup (l6 xs (some 1) none)
 | _=>.non
def Ca (h f:Str) (x:PV):Bool:=!eqQ (tail3 x) (.tup [.str h,.str f])
theorem Mr (h f:Str) (b:aO):Ca h f b.v=!vD h f b:=by
 show (!eqQ (.tup [.str b.h,.str b.f]) (.tup [.str h,.str f]))=_
 rw [wj,eE,eE,qQ,eq_str,eq_str,Vw,← VD]
 rfl
theorem Fb (h f:Str):∀rows:List aO,((rows.map aO.v).filter (Ca h f)).map (λx=>x)=(dF h f rows).map aO.v
 | []=>rfl
 | b :: rows=>by
  have ih:=Fb h f rows
  unfold dF at ih ⊢
  rw [UA,U0,U0,Mr]
  cases vD h f b <;> simp at ih ⊢ <;> exact ih
theorem uv {cB f:Addr} {fd:FuncData} (F:bU K "drop" "Bells.drop" gC f fd) (Z:bE mg) (bN:dC K mg "Bells" cB) (a9:aK K cB "rows"):aS P w K mg base (cn P w) 1 f fd mi (cK K (CJ cB)):=by
 simp_arith [iZ,(ai (JN (i:=3) (L2.au gC) ["self","hind","fore","kept","found"] [("hind",1),("fore",2)] rfl rfl rfl iZ.nd rfl (Or.inl rfl) (d7 (aV bN.cl a9 (rv 0))) (λ_ _ _ _ _ _=>(rv 0)) (λ_ _ _ _ _ _=>(aE (fF hr.aQ) (g7 By (rv 0) (iy ag) lS) (bY (af (rv 1) (af (rv 2) ah))))))
   (ai (aA (i:=4) iZ.nd (er fj (aF bK rfl Z.len boot_len (af (rv 3) ah)) (aF bK rfl Z.len boot_len (af (aV bN.cl a9 (rv 0)) ah))))
   (ai (eY bN.cl a9 (rv 0) (rv 3))
   (ak (az (rv 4))))))]
 ·obtain ⟨p,r,rows,h,f,rfl,_⟩:=h;rfl
 obtain ⟨p,r,rows,h,f,rfl,b,hl,q⟩:=h
 have bo:=b.o
 have bl:=b.l
 refine hX ?_
 simp_arith! [bc,Ep,bo,bl,Pk]
 refine ⟨Ca h f,λx=>x,⟨by rw [Us];exact a7 (by omega),λJ' sub=>⟨sub _ _ bl,λx hx=>?_⟩⟩,λr' hr'=>?_⟩
 ·obtain ⟨b,_,rfl⟩:=Uu.mp hx
  obtain ⟨xs,h1,h2,h3⟩:=E4 J' b
  have hk:Ca h f b.v=!eqQ (.tup (l6 xs (some 1) none)) (.tup [.str h,.str f]):=by rw [h1];rfl
  simp_arith! [bc]
  refine ⟨AO h1 ⟨h2,?_⟩,λ_=>trivial⟩
  simp_arith! [bc]
  rw [hk,h3]
  refine ⟨⟨by simp [nv,l9],by simp [gy,g6,dep,eA]⟩,by simp [nv,l9],rfl⟩
 ·have ne:p≠r':=by intro e;subst e;rw [bo] at hr';cases hr'
  have nr:r≠r':=by intro e;subst e;rw [bl] at hr';cases hr'
  simp_arith! [bc,aq ne,aq nr,bo,bl,Pk,Fb,Us,Int.ofNat_lt]
  exact ⟨by decide,q r' hr'⟩
abbrev k6:Stmt:=(L2.inClass (top 22) 1)
abbrev oa:List Str:=["self","moment","hind","fore"]
theorem d8:L2.aw ["self","moment","hind","fore","bell","low","high","middle"] ["self","moment","hind","fore"] (L2.au k6):=dt
def Hc (cB:Addr):cq:=λxs J Q _=>∃p r rows m h f,xs=[.ref p,fr m,.str h,.str f]∧Li cB J p r rows∧j2 rows∧rows.length≤800∧Sz 9000 m∧(∀x∈rows,Sz 9000 x.m) ∧
 ∀r',J r'=none→Q .non (put (put J r' (.lst ((kq ⟨m,h,f⟩ (dF h f rows)).map aO.v))) p (.ins cB [("rows",.ref r')]))
theorem Kq (a b:Nat):((a:Int) + (b:Int)).fdiv 2=(((a + b) / 2:Nat):Int):=by rw [Int.fdiv_eq_ediv_of_nonneg _ (by decide)];omega
theorem TC (a:Int):CQ a 2=True:=eq_true ⟨by decide,Bd.mono (Bd.small (by decide) (by decide)) (by decide)⟩
theorem EY {rows:List aO} {i:Nat} {b:aO} (h:rows[i]?=some b):c4 (rows.map aO.v) (i:Int)=some b.v:=bP (by rw [Uw,h];rfl)
theorem wB {cB f:Addr} {fd:FuncData} (F:bU K "put" "Bells.put" k6 f fd) (Z:bE mg) (bN:dC K mg "Bells" cB) (a9:aK K cB "rows") (jy:bV P w K mg base cB 1 "drop" mi (CJ cB))
  (t6:bj P w K mg base 2 "rings_ahead" kW xU):aS P w K mg base (cn P w) 3 f fd oa (cK K (Hc cB)):=by
 simp_arith [d8,(ai (bA (aX (pl:=_) jy B hr (rv 0) (af (rv 2) (af (rv 3) ah))))
   (ai (aA (i:=4) d8.nd (bY (af (rv 1) (af (rv 2) (af (rv 3) ah)))))
   (ai (xy (i:=5) (j:=6) rfl d8.nd rfl rfl (by decide) rfl rfl (af ag (af (aF bK rfl Z.len boot_len (af (aV bN.cl a9 (rv 0)) ah)) ah)) rfl)
   (ai (g8 bG (aE fj (rv 5) (rv 6)) (ai (aA (i:=7) d8.nd (ay d6 (ay bQ (rv 5) (rv 6)) ag))
   (ak (aP (bq (aL t6 B hr (af (aj ar (aV bN.cl a9 (rv 0)) (rv 7)) (af (rv 4) ah)))) (ak (aA (i:=5) d8.nd (ay bQ (rv 7) ag))) (ak (aA (i:=6) d8.nd (rv 7)))))))
   (ak (bA (gr PySem.F.plainAttrs_list PySem.F.slot_list_insert PySem.F.type_list_insert lN (aV bN.cl a9 (rv 0)) (af (rv 5) (af (rv 4) ah)))))))))]
 ·obtain ⟨p,r,rows,m,h,f,rfl,_⟩:=h;rfl
 obtain ⟨p,r,rows,m,h,f,rfl,b,srt,hl,sm,sr,q⟩:=h
 have bo:=b.o
 refine hX ?_
 simp_arith! [bc,bo,R5]
 refine ⟨p,r,rows,h,f,rfl,b,by omega,λr' hr'=>?_⟩
 have Oe:r'≠p:=by intro e;subst e;rw [bo] at hr';cases hr'
 have b1:Li cB (put (put J r' (.lst ((dF h f rows).map aO.v))) p (.ins cB [("rows",.ref r')])) p r' (dF h f rows):=⟨av,by rw [aq Oe];exact av⟩
 have kl:(dF h f rows).length≤800:=UM (pd _ _ _) hl
 have ks:j2 (dF h f rows):=uX srt
 have kz:∀x∈dF h f rows,Sz 9000 x.m:=λx hx=>sr x (UI.mp hx).1
 have q:=q r' hr'
 generalize hJ:put (put J r' (.lst ((dF h f rows).map aO.v))) p (.ins cB [("rows",.ref r')])=J1 at b1 ⊢
 have hq:put J1 r' (.lst ((kq ⟨m,h,f⟩ (dF h f rows)).map aO.v))=put (put J r' (.lst ((kq ⟨m,h,f⟩ (dF h f rows)).map aO.v))) p (.ins cB [("rows",.ref r')]):=by rw [← hJ,Jz Oe]
 rw [← hq] at q
 clear hq hJ hr'
 have bo:=b1.o
 have bl:=b1.l
 generalize dF h f rows=ks' at *
 simp_arith! [bc,bo,bl,Pk,Lg,Us]
 refine ⟨λk τ J'=>∃(lo hi:Nat) (u:Option PV),τ=[some (.ref p),some (fr m),some (.str h),some (.str f),some (aO.mk m h f).v,some (.int lo),some (.int hi),u]∧J'=J1∧k=hi - lo∧lo≤hi∧hi≤ks'.length ∧
  (∀(j:Nat) x,j < lo→ks'[j]?=some x→x.lt ⟨m,h,f⟩=true)∧(∀(j:Nat) x,hi≤j→ks'[j]?=some x→x.lt ⟨m,h,f⟩=false),⟨_,0,ks'.length,none,rfl,rfl,rfl,Vb _,UC _,λj x hj=>absurd hj (V5 _),λj x hj e=>by rw [Vn hj] at e;cases e⟩,?_⟩
 rintro k τ J' ⟨lo,hi,u,rfl,rfl,rfl,h1,h2,hlo,hhi⟩
 simp_arith! [bc,bo,bl,Pk,TC,Kq,Int.ofNat_lt,xU]
 by_cases hlt:lo < hi
 ·rw [if_pos hlt]
  have hm:(lo + hi) / 2 < ks'.length:=by omega
  obtain ⟨x,hx⟩:∃x,ks'[(lo + hi) / 2]?=some x:=⟨_,Ut hm⟩
  obtain ⟨N,hN⟩:∃N:Sr→Hq→Prop,∀τ' J'',N τ' J''↔∃(lo' hi':Nat) (u:Option PV),τ'=[some (.ref p),some (fr m),some (.str h),some (.str f),some (aO.mk m h f).v,some (.int lo'),some (.int hi'),u]∧J''=J'∧lo'≤hi'∧hi'≤ks'.length∧hi' - lo' < hi - lo ∧
   (∀(j:Nat) x,j < lo'→ks'[j]?=some x→x.lt ⟨m,h,f⟩=true)∧(∀(j:Nat) x,hi'≤j→ks'[j]?=some x→x.lt ⟨m,h,f⟩=false):=⟨_,λ_ _=>Iff.rfl⟩
  refine ⟨N,λτ' J'' hn=>by obtain ⟨lo',hi',u,e1,e2,e3,e4,e5,e6,e7⟩:=(hN _ _).mp hn;exact ⟨_,e5,lo',hi',u,e1,e2,rfl,e3,e4,e6,e7⟩,fi (EY hx) ⟨x,⟨m,h,f⟩,rfl,kz x (Uz hx),sm,?_⟩⟩
  simp_arith! [bc,TC,Kq,Int.ofNat_lt]
  cases hc:x.lt ⟨m,h,f⟩ with
  | true =>
   rw [if_pos rfl]
   exact (hN _ _).mpr ⟨(lo + hi) / 2 + 1,hi,_,rfl,rfl,by omega,h2,by omega,λj y hj e=>C3 ks hx e (by omega) hc,hhi⟩
  | false =>
   rw [if_neg U5]
   exact (hN _ _).mpr ⟨lo,(lo + hi) / 2,_,rfl,rfl,by omega,by omega,by omega,hlo,λj y hj e=>zM ks hx e hj hc⟩
 ·rw [if_neg hlt]
  have e:lo=hi:=by omega
  subst e
  refine ⟨_,lo,rfl,rfl,by rw [Us];exact h2,by rw [Us];exact a7 (by omega),Vi h2 (Vi kl (by decide)),?_⟩
  rw [← B8 h2 hlo hhi,Uy,UA,Vj,V4] at q
  exact q
abbrev jE:Stmt:=(L2.inClass (top 22) 5)
abbrev mj:List Str:=["self"]
theorem uG:L2.aw ["self"] ["self"] (L2.au jE):=dt
def CL (cB:Addr):cq:=λxs J Q _=>∃p r rows,xs=[.ref p]∧Li cB J p r rows∧(Q (.fl (rows.map aO.v)) J∨∀l,J l=none→Q (.ref l) (put J l (.lst (rows.map aO.v))))
theorem ux {cB f:Addr} {fd:FuncData} (F:bU K "told" "Bells.told" jE f fd) (Z:bE mg) (bN:dC K mg "Bells" cB) (a9:aK K cB "rows"):aS P w K mg base (cn P w) 1 f fd mj (cK K (CL cB)):=by
 simp_arith [uG,(ak (az (c8 kb rfl Z.list boot_list (af (aV bN.cl a9 (rv 0)) ah)))),F]
 ·obtain ⟨p,r,rows,rfl,_⟩:=h;rfl
 obtain ⟨p,r,rows,rfl,b,q⟩:=h
 have bo:=b.o
 have bl:=b.l
 refine hX ?_
 simp_arith! [bc,bo,bl,Pk]
 intro l hl
 rcases q with q | q
 ·exact Fg.pf (fZ hl) av hl q
 ·exact Fg.same (q l hl)
theorem yT (l l':aM) (h:l.v≠l'.v):Rat.divInt ((l'.at 0 - l.at 0).num) (((l'.at 0 - l.at 0).den:Int) * (l.v - l'.v))=jU l l':=by
 rw [Nh _ _ (by omega)];rfl
abbrev pQ:Stmt:=(top 26)
abbrev sQ:List Str:=["one","other"]
theorem m8:L2.aw ["one","other","gain","gap"] ["one","other"] (L2.au pQ):=dt
def CV:cq:=λxs J Q _=>∃l l':aM,xs=[l.V,l'.V]∧jt 900 l∧jt 900 l'∧(l.v=l'.v→Q .non J)∧(l.v≠l'.v→Q (fr (jU l l')) J)
theorem y_ {f:Addr} {fd:FuncData} (F:bU K "meeting" "meeting" pQ f fd) (Z:bE mg) (N:o_ K mg) (cG:bj P w K mg base 4 "place_on" e_ h_) (nF:bj P w K mg base 3 "minus" oC (Bu λp q=>p - q)) (eQ:bj P w K mg base 2 "fraction" f6 f_) :
  aS P w K mg base (cn P w) 5 f fd sQ (cK K CV):=by
 obtain ⟨aN,gN,sN⟩:=N
 have rN:∀(J:Hq) (H:Hp),cY K J H (fr 0) (.ref aN):=λJ H=>⟨aN,_,rfl,sN H,⟨_,_,rfl,rfl,_,_,rfl,rfl,rfl⟩⟩
 simp_arith [m8,(ai (aA (i:=2) m8.nd (ay c7 (aj ar (rv 0) ag) (aj ar (rv 1) ag)))
   (ai (aP (aE (cj hr.aQ) (rv 2) ag) (ak (az dk)) aH)
   (ai (aA (i:=3) m8.nd (aL nF B hr (af (aL cG B hr (af (rv 1) (af (fq (v:=.ref aN) (fr 0) rfl gN rfl rN) ah))) (af (aL cG B hr (af (rv 0) (af (fq (v:=.ref aN) (fr 0) rfl gN rfl rN) ah))) ah))))
   (ak (az (aL eQ B hr (af (aj ar (rv 3) ag) (af (ay aT (aj ar (rv 3) ag) (rv 2)) ah))))))))]
 ·obtain ⟨l,l',rfl,_⟩:=h;rfl
 obtain ⟨l,l',rfl,sl,sl',q0,q1⟩:=h
 refine hX ?_
 have z1:Sz 900 (0:Rat):=⟨⟨by decide⟩,⟨by decide⟩⟩
 have s3:=iH sl z1
 have s3':=iH sl' z1
 have s4:Sz 6001 (l'.at 0 - l.at 0):=s3'.sub s3
 have bg:Bd 65 (l.v - l'.v):=sl.v.sub sl'.v
 simp_all! [iu]
 split
 ·rename_i e;simp_all! [];exact q0 (by omega)
 rename_i e
 have hv:l.v≠l'.v:=by omega
 simp_all! []
 refine ⟨l',0,rfl,sl'.m,sl'.p,z1,sl'.v,l,0,rfl,sl.m,sl.p,z1,sl.v,l'.at 0,l.at 0,rfl,s3'.mono (by decide),s3.mono (by decide),?_⟩
 simp_all! []
 refine ⟨.of s4.den bg,_,_,rfl,Int.mul_ne_zero (eV _) e,(Bd.mul s4.den bg (k:=6100)).mono (by decide),?_⟩
 rw [yT l l' hv]
 exact q1 hv
theorem yU {l l':aM} (sl:jt 900 l) (sl':jt 900 l') (h:l.v≠l'.v):Sz 8000 (jU l l'):=by
 rw [← yT l l' h]
 have z1:Sz 900 (0:Rat):=⟨⟨by decide⟩,⟨by decide⟩⟩
 have s4:Sz 6001 (l'.at 0 - l.at 0):=(iH sl' z1).sub (iH sl z1)
 have bg:Bd 65 (l.v - l'.v):=sl.v.sub sl'.v
 exact Sz.div (s4.num.mono (by decide)) ((Bd.mul s4.den bg (k:=6100)).mono (by decide)) (Int.mul_ne_zero (eV _) (by omega))
theorem a_.Ob {L:Ln} (h:a_ L) {c:Cf} (hc:c∈L.cs):jt 900 c.cur:=(h.ck c hc _ (Cf.ip (h.ne c hc)).2).Ax
abbrev jI:Stmt:=(L2.inClass (top 42) 13)
abbrev iL:List Str:=["self","name","other"]
theorem mz:L2.aw ["self","name","other","met"] ["self","name","other"] (L2.au jI):=dt
def tL (cN cL eC:Addr):cq:=λxs J Q E=>∃p L n n',xs=[.ref p,.str n,.str n']∧bh cN cL J p L∧a_ L∧(∀c∈L.cs,∀c'∈L.cs,c.n=n→c'.n=n'→c.g=none→c'.g=none→Q (gv (pD L.t c.cur c'.cur)) J)∧(n ∉ L.row∨n' ∉ L.row→E eC J)
theorem uB {cN cL eC f:Addr} {fd:FuncData} (F:bU K "meets" "Lane.meets" jI f fd) (Z:bE mg) (ax:dC K mg "Lane" cN) (aB:aK K cN "now") (bF:bV P w K mg base cN 4 "leg_of" dO (lq cN cL eC)) (Df:bj P w K mg base 5 "meeting" sQ CV) (cO:bj P w K mg base 1 "less" fo cy):aS P w K mg base (cn P w) 6 f fd iL (cK K (tL cN cL eC)):=by
 simp_arith [mz,(ai (aA (i:=3) mz.nd (aL Df B hr (af (aX (pl:=_) bF B hr (rv 0) (af (rv 1) ah)) (af (aX (pl:=_) bF B hr (rv 0) (af (rv 2) ah)) ah))))
   (ak (az (Qw (cf (dT (aE jc (rv 3) dk) (c5 (bq (aL cO B hr (af (aV ax.cl aB (rv 0)) (af (rv 3) ah))))))) (rv 3) dk))))]
 ·obtain ⟨p,L,n,n',rfl,_⟩:=h;rfl
 obtain ⟨p,L,n,n',rfl,b,ok,q,qe⟩:=h
 have bo:=b.ob
 refine hX ?_
 simp_all! [bo]
 refine ⟨dD _ _ _ _,p,L,n,rfl,b,ok,λc hc e hg=>?_,λz=>qe (.inl z)⟩
 simp_all! [bo]
 refine ⟨dD _ _ _ _,p,L,n',rfl,b,ok,λc' hc' e' hg'=>?_,λz=>qe (.inr z)⟩
 have q:=q c hc c' hc' e e' hg hg'
 have sl:=ok.Ob hc
 have sl':=ok.Ob hc'
 unfold pD at q
 refine ⟨c.cur,c'.cur,rfl,sl,sl',λhv=>?_,λhv=>?_⟩
 ·rw [if_neg (λz=>z.1 hv)] at q
  simp_all! []
  exact q
 ·simp_all! [pj,bo,pA,cy]
  refine ⟨ok.BA.mono (by decide),(yU sl sl' hv).mono (by decide),?_⟩
  split
  ·rename_i c1
   rw [if_pos ⟨hv,c1⟩] at q
   simp_all! []
   exact q
  ·rename_i c1
   rw [if_neg (λz=>c1 z.2)] at q
   exact q
theorem Uo (A:Nat):Sc iF A 0:=⟨0,by rw [Rat.zero_mul];rfl,Vb _⟩
theorem bh.Pq {cN cL:Addr} {J:Hq} {p T:Addr} {L:Ln} (h:bh cN cL J p L) (hT:J T=Vf .tab):¬ L.own p T:=by
 rintro (rfl | rfl | rfl | ⟨c,hc,rfl | rfl⟩)
 ·rw [h.ob] at hT;cases hT
 ·rw [h.dc] at hT;cases hT
 ·rw [h.rw] at hT;cases hT
 ·rw [(h.lg c hc).o] at hT;cases hT
 ·rw [(h.lg c hc).l] at hT;cases hT
theorem OV {L:Ln} {n:Str} {l:aM} (h:(n,l)∈L.fs):∃c∈L.cs,c.n=n∧c.g=none∧c.cur=l:=by
 obtain ⟨c,hc,e⟩:=Uu.mp h
 have:=Ln.cW.mp hc
 cases e
 exact ⟨c,this.1,rfl,this.2,rfl⟩
abbrev ft:Stmt:=(top 18)
abbrev gZ:List Str:=["pair"]
theorem m5:L2.aw ["pair"] ["pair"] (L2.au ft):=dt
def zF:cq:=λxs J Q _=>∃a b:Int,xs=[.tup [.int a,.int b]]∧Q (.bl (decide (1≤b∧Int.gcd a b=1))) J
theorem l8 {f:Addr} {fd:FuncData} (F:bU K "in_lowest_terms" "in_lowest_terms" ft f fd) (Z:bE mg) (rA:bj P w K mg base 1 "shared" pK lX):aS P w K mg base (cn P w) 2 f fd gZ (cK K zF):=by
 simp_arith [m5,(ak (az (Bg (er zd (aj ar (rv 0) ag) ag) (xw (er (cj hr.aQ) (aL rA B hr (af (aj ar (rv 0) ag) (af (aj ar (rv 0) ag) ah))) ag)))))]
 ·obtain ⟨a,b,rfl,_⟩:=h;rfl
 obtain ⟨a,b,rfl,q⟩:=h
 refine hX ?_
 simp_all! []
 by_cases c:1≤b
 ·simp only [c,decide_true,true_and,if_true] at q ⊢
  simp_all! [lX]
  have:decide (((Int.gcd a b:Nat):Int)=1)=decide (Int.gcd a b=1):=decide_eq_decide.mpr (by omega)
  rw [this];exact q
 ·simp only [c,decide_false,false_and] at q ⊢
  rw [if_neg (λz=>z)]
  exact q
abbrev iW:Stmt:=(top 40)
abbrev kS:List Str:=["moment"]
theorem hV:L2.aw ["moment","top","bottom"] ["moment"] (L2.au iW):=dt
def gO (a b:Int):Bool:=decide (b≤60∧1≤b∧Int.gcd a b=1∧0≤a∧a≤1000000 * b)
def CO:cq:=λxs J Q _=>∃a b:Int,xs=[.tup [.int a,.int b]]∧Q (.bl (gO a b)) J
theorem qF {f:Addr} {fd:FuncData} (F:bU K "good_moment" "good_moment" iW f fd) (Z:bE mg) {oT oU:Tok} (km:mg "FINEST"=some (.int 60 oT)) (ko:mg "LATEST"=some (.int 1000000 oU)) (nC:bj P w K mg base 2 "in_lowest_terms" gZ zF):aS P w K mg base (cn P w) 3 f fd kS (cK K CO):=by
 simp_arith [hV,(ai (xx (rv 0) (sX (n:=2) rfl (dz (bC (i:=1) hV.nd) (dz (bC (i:=2) hV.nd) oI))))
   (ai (aP (cf (eI (aE jV (rv 2) (fq (v:=.int 60) (.int 60) rfl km ⟨_,rfl⟩ (λ_ _=>rfl))) (dm (bT (bq (aL nC B hr (af (rv 0) ah))))))) (ak (az dw)) aH)
   (ak (az (GZ sE sE ag (rv 1) (ay aT (fq (v:=.int 1000000) (.int 1000000) rfl ko ⟨_,rfl⟩ (λ_ _=>rfl)) (rv 2)))))))]
 ·obtain ⟨a,b,rfl,_⟩:=h;rfl
 obtain ⟨a,b,rfl,q⟩:=h
 refine hX ?_
 unfold gO at q
 simp_all! []
 simp_all! []
 by_cases c1:60 < b
 ·rw [if_pos c1]
  rw [decide_eq_false (λz=>by omega)] at q
  exact q
 rw [if_neg c1]
 simp_all! []
 refine ⟨a,b,rfl,?_⟩
 by_cases c2:1≤b∧Int.gcd a b=1
 ·rw [decide_eq_true c2]
  simp_all! [xr]
  by_cases c3:0≤a
  ·simp only [c3,decide_true,if_true]
   refine ⟨.of (.small (x:=1000000) (by decide) (by decide)) (.small (x:=b) (by omega) (by omega)),?_⟩
   have:decide (a≤1000000 * b)=decide (b≤60∧1≤b∧Int.gcd a b=1∧0≤a∧a≤1000000 * b):=decide_eq_decide.mpr ⟨λz=>⟨by omega,c2.1,c2.2,c3,z⟩,λz=>z.2.2.2.2⟩
   rw [this];exact q
  ·rw [decide_eq_false (λz=>c3 z.2.2.2.1)] at q
   simp only [c3,decide_false]
   rw [if_neg (λz=>z)]
   exact q
 ·rw [decide_eq_false c2]
  rw [decide_eq_false (λz=>c2 ⟨z.2.1,z.2.2.1⟩)] at q
  simp_all! []
  exact q
theorem bh.less {cN cL:Addr} {J J':Hq} {p:Addr} {L:Ln} (h:bh cN cL J p L) (l:i6 J J'):bh cN cL J' p L:=h.keep λa o _ e=>by
 rcases l a with z | z
 ·rw [← z];exact e
 ·rw [z] at e;cases e
theorem vi {J J':Hq} {p r:Addr} {x y:HQ} (l:i6 J J') (hp:J p=none) (hr:J' r=none):i6 J (put (put J' r x) p y):=λa=>by
 by_cases e:a=p
 ·exact .inr (by rw [e];exact hp)
 by_cases e2:a=r
 ·rcases l a with z | z
  ·right;rw [z,e2];exact hr
  ·exact .inr z
 ·rw [aq e,aq e2];exact l a
theorem DQ {J:Hq} {p r:Addr} {x y z:HQ} (hp:J p=none) (hr:put J p x r=none):i6 J (put (put (put J p x) r y) p z):=vi (fZ hp) hp hr
theorem yD (xs:List PV) (k:Nat) (h:k≤xs.length):l6 xs (some (k:Int)) none=xs.drop k:=by
 unfold l6 HT.fb
 simp only [Int.toNat_natCast]
 rw [if_neg (by omega),WL h]
 rw [Vk (by rw [Vx];exact UC _)]
theorem b_.keys {L:Ln} (ok:b_ L):L.row.map PV.str=(cI (L.fs.map (key L.t))).map λk=>PV.str k.n:=by rw [ok.row];unfold cQ;rw [Ux];rfl
theorem wo {L:Ln} (ok:a_ L) {a:Ky} (ha:a∈cI (L.fs.map (key L.t))) {c:Cf} (hc:c∈L.cs) (hg:c.g=none) (e:c.n=a.n):a=key L.t (c.n,c.cur):=by
 obtain ⟨x,hx,rfl⟩:=Uu.mp ((bM _ _).mp ha)
 obtain ⟨c0,hc0,h1,h2,h3⟩:=OV (n:=x.1) (l:=x.2) hx
 have:c0=c:=ok.uniq hc0 hc (h1.trans e.symm)
 subst this
 show key L.t (x.1,x.2)=_
 rw [← h3,← h1]
theorem lT {L:Ln} (ok:b_ L) {a:Ky} (ha:a∈cI (L.fs.map (key L.t))):a.n∈L.row:=by
 rw [ok.row];unfold cQ;exact Uu.mpr ⟨a,ha,rfl⟩
theorem yS {L:Ln} (ok:b_ L) {a b:Ky} (ha:a∈cI (L.fs.map (key L.t))) (hb:b∈cI (L.fs.map (key L.t))) (h:b.v < a.v):Sz 9000 (fh L.t a b):=by
 obtain ⟨c,hc,hcn,hcg⟩:=ok.found (lT ok ha)
 obtain ⟨c',hc',hcn',hcg'⟩:=ok.found (lT ok hb)
 have ea:=wo ok.toa_ ha hc hcg hcn
 have eb:=wo ok.toa_ hb hc' hcg' hcn'
 have hv:c.cur.v≠c'.cur.v:=by rw [ea,eb] at h;exact λz=>by have:c'.cur.v < c.cur.v:=h;omega
 rw [ea,eb,← qV hv]
 exact (yU (ok.Ob hc) (ok.Ob hc') hv).mono (by decide)
theorem b_.knd {L:Ln} (ok:b_ L):((L.fs.map (key L.t)).map Ky.n).Nodup:=by rw [cD];exact ok.Kr
theorem b_.R3 {L:Ln} (ok:b_ L):(cI (L.fs.map (key L.t))).length≤12:=by
 have h1:=ok.rl
 have h2:=congrArg Vp ok.keys
 rw [Us,Us] at h2
 omega
theorem FX {L:Ln} (ok:b_ L) {i j:Nat} {a b:Ky} (ha:(cI (L.fs.map (key L.t)))[i]?=some a) (hb:(cI (L.fs.map (key L.t)))[j]?=some b) (hij:i < j) {c c':Cf} (hc:c∈L.cs) (hc':c'∈L.cs) (hg:c.g=none) (hg':c'.g=none) (e:c.n=a.n) (e':c'.n=b.n) :
  pD L.t c.cur c'.cur=if b.v < a.v∧a.p < b.p then some (fh L.t a b) else none:=by
 have ea:=wo ok.toa_ (Uz ha) hc hg e
 have eb:=wo ok.toa_ (Uz hb) hc' hg' e'
 have hlt:a.lt b=true:=by
  obtain ⟨hil,ei⟩:=Uv.mp ha
  obtain ⟨hjl,ej⟩:=Uv.mp hb
  have:=Vh.mp (fk ok.knd) i j hil hjl hij
  rw [ei,ej] at this;exact this
 rw [ea,eb] at hlt ⊢
 have key:=IM hlt
 unfold pD
 by_cases z:c.cur.v≠c'.cur.v∧L.t < jU c.cur c'.cur
 ·rw [if_pos z,if_pos (show (Ov.key L.t (c'.n,c'.cur)).v < (Ov.key L.t (c.n,c.cur)).v∧(Ov.key L.t (c.n,c.cur)).p < (Ov.key L.t (c'.n,c'.cur)).p from key.mp z),qV z.1]
 ·rw [if_neg z,if_neg (show ¬ ((Ov.key L.t (c'.n,c'.cur)).v < (Ov.key L.t (c.n,c.cur)).v∧(Ov.key L.t (c.n,c.cur)).p < (Ov.key L.t (c'.n,c'.cur)).p) from λy=>z (key.mpr y))]
abbrev gm:Stmt:=(L2.inClass (top 42) 6)
abbrev fL:List Str:=["self","moment"]
theorem cF:L2.aw ["self","moment","passings","at","hind","fore","met"] ["self","moment"] (L2.au gm):=dt
theorem vj {J J':Hq} {l:Addr} {o:HQ} (h:i6 J J'):i6 (put J l o) (put J' l o):=λa=>by
 by_cases e:a=l
 ·subst e;rw [av,av];exact .inl rfl
 ·rw [aq e,aq e];exact h a
def xZ (cN cL eM eP:Addr):cq:=λxs J Q E=>∃p L a b,xs=[.ref p,.tup [.int a,.int b]]∧bh cN cL J p L∧b_ L∧(gO a b=false→E eM J)∧(∀m:Rat,m.num=a→(m.den:Int)=b→gO a b=true→(m < L.t→E eP J)∧(L.t≤m→Q (.fl ((gU L.t (L.fs.map (key L.t)) m).map aO.v)) J∨∀l,J l=none→Q (.ref l) (put J l (.lst ((gU L.t (L.fs.map (key L.t)) m).map aO.v)))))
theorem pE {cN cL cB eM eP eC f:Addr} {fd:FuncData} (F:bU K "foretold" "Lane.foretold" gm f fd) (Z:bE mg) (ax:dC K mg "Lane" cN) (aB:aK K cN "now") (aJ:aK K cN "row") (c_:Own K mg "BadMoment" eM) (rJ:Own K mg "Past" eP) (tZ:bj P w K mg base 3 "good_moment" kS CO) (cO:bj P w K mg base 1 "less" fo cy) (vZ:yr P w K mg base cB 1 "Bells" iw (CK cB)) (d5:bV P w K mg base cN 6 "meets" iL (tL cN cL eC)) (kC:bV P w K mg base cB 3 "put" oa (Hc cB)) (jz:bV P w K mg base cB 1 "told" mj (CL cB)):aS P w K mg base (cn P w) 7 f fd fL (cK K (xZ cN cL eM eP)):=by
 simp_arith [cF,(ai (aP (bT (bq (aL tZ B hr (af (rv 1) ah)))) (ak (c9 c_ rfl bW B.kn rfl (af bJ ah))) aH)
   (ai (aP (bq (aL cO B hr (af (rv 1) (af (aV ax.cl aB (rv 0)) ah)))) (ak (c9 rJ rfl bW B.kn rfl (af bJ ah))) aH)
   (ai (aA (i:=2) cF.nd (sV vZ B hr))
   (ai (cR bG rfl (JL rfl Z.enumerate (af (aV ax.cl aJ (rv 0)) ah)) (sX (n:=2) rfl (dz (bC (i:=3) cF.nd) (dz (bC (i:=4) cF.nd) oI))) (ak (cR bG rfl (d7 (g7 Hj (aV ax.cl aJ (rv 0)) (iy (ay bQ (rv 3) ag)) lS)) (bC (i:=5) cF.nd) (ai (aA (i:=6) cF.nd (aX (pl:=_) d5 B hr (rv 0) (af (rv 4) (af (rv 5) ah))))
   (ak (aP (cf (dT (aE jc (rv 6) dk) (c5 (bT (bq (aL cO B hr (af (rv 1) (af (rv 6) ah)))))))) (ak (bA (aX (pl:=_) kC B hr (rv 2) (af (rv 6) (af (rv 4) (af (rv 5) ah)))))) aH))))))
   (ak (az (dy (pl:=_) jz B hr (rv 2)))))))),F]
 ·obtain ⟨p,L,a,b,rfl,_⟩:=h;rfl
 obtain ⟨p,L,a,bb,rfl,b,ok,qe,q⟩:=h
 have bo:=b.ob
 refine hX ?_
 simp_all! []
 refine ⟨a,bb,rfl,?_⟩
 cases hg:gO a bb with
 | false =>
  simp_all! [eW]
  exact qe hg
 | true =>
  have hgm:=of_decide_eq_true hg
  obtain ⟨m,hm1,hm2⟩:∃m:Rat,m.num=a∧(m.den:Int)=bb:=⟨⟨a,bb.toNat,by omega,by
   have:=hgm.2.2.1
   unfold Int.gcd at this
   show Nat.gcd a.natAbs bb.toNat=1
   rw [show bb.toNat=bb.natAbs by omega];exact this⟩,rfl,by show ((bb.toNat:Nat):Int)=bb;omega⟩
  obtain ⟨q1,q2⟩:=q m hm1 hm2 hg
  have ef:PV.tup [.int a,.int bb]=fr m:=by rw [← hm1,← hm2];rfl
  have sm:Sz 900 m:=⟨(Bd.small (x:=m.num) (by omega) (by omega)).mono (by decide),(Bd.small (x:=(m.den:Int)) (by omega) (by omega)).mono (by decide)⟩
  simp_all! [bo,pA,ef]
  refine ⟨_,_,rfl,sm.mono (by decide),ok.BA.mono (by decide),?_⟩
  by_cases c1:m < L.t
  ·rw [decide_eq_true c1]
   simp_all! [eW]
   exact q1 c1
  rw [decide_eq_false c1]
  have q:=q2 (by grind)
  simp_all! []
  intro pb hpb
  refine ⟨pb,rfl,av,λr0 hr0=>⟨rfl,?_⟩⟩
  have l0:=DQ (y:=.lst []) (z:=.ins cB [("rows",.ref r0)]) hpb hr0
  have nr0:r0≠pb:=by intro e;subst e;rw [av] at hr0;cases hr0
  have b0:Li cB (put (put (put J pb (.ins cB [])) r0 (.lst [])) pb (.ins cB [("rows",.ref r0)])) pb r0 []:=⟨av,by rw [aq nr0];exact av⟩
  generalize put (put (put J pb (.ins cB [])) r0 (.lst [])) pb (.ins cB [("rows",.ref r0)])=J0 at l0 b0 ⊢
  simp_all! [(b.less l0).ob,(b.less l0).rw,sj]
  obtain ⟨ks,hks⟩:∃ks,cI (L.fs.map (key L.t))=ks:=⟨_,rfl⟩
  have hrow:L.row.map PV.str=ks.map λk=>PV.str k.n:=by rw [← hks];exact ok.keys
  have hkl:ks.length≤12:=by rw [← hks];exact ok.R3
  have hup:∀{ps:List (Ky × Ky)},(∀p∈ps,p.1∈ks∧p.2∈ks)→∀x∈cb L.t (bZ L.t m) ps,Sz 9000 x.m:=λhp x hx=>by
   obtain ⟨p,hp',hc,rfl⟩:=lL _ hx
   have:=of_decide_eq_true hc
   exact yS ok (by rw [hks];exact (hp p hp').1) (by rw [hks];exact (hp p hp').2) this.1
  rw [hrow]
  obtain ⟨Inv,hInv⟩:∃Inv:Nat→Sr→Hq→Prop,∀i τ J',Inv i τ J'↔∃(r:Addr) (u3 u4 u5 u6:Option PV),τ=[some (.ref p),some (fr m),some (.ref pb),u3,u4,u5,u6]∧i6 J J'∧Li cB J' pb r (cb L.t (bZ L.t m) (zS ks i))∧(cb L.t (bZ L.t m) (zS ks i)).length≤12 * i:=⟨_,λ_ _ _=>Iff.rfl⟩
  refine ed Inv ((hInv _ _ _).mpr ⟨r0,_,_,_,_,rfl,l0,b0,UC _⟩) (λi τ J' h=>?_) ?_ ?_
  ·obtain ⟨r,_,_,_,_,_,l',_⟩:=(hInv _ _ _).mp h
   rw [(b.less l').rw,hrow]
  ·intro i x τ J' hx hv
   obtain ⟨r,u3,u4,u5,u6,rfl,l',bb,hle⟩:=(hInv _ _ _).mp hv
   clear hv
   have hi:i < ks.length:=by have:=(Uv.mp hx).1;rw [lI,Us] at this;exact this
   have ha:ks[i]?=some ks[i]:=Ut hi
   rw [u_ _ i (.str (ks[i]).n) (by rw [Uw,ha];rfl)] at hx
   cases hx
   generalize ks[i]=a at ha ⊢
   simp_all! [(b.less l').ob,(b.less l').rw,sj]
   rw [hrow,show (i:Int) + 1=((i + 1:Nat):Int) by omega,yD _ _ (by rw [Us];omega),← V4]
   have eup:zS ks (i + 1)=zS ks i ++ (ks.drop (i + 1)).map λb=>(a,b):=by show zS ks i ++ _=_;rw [ha]
   have mup:∀j,∀p∈zS ks i ++ ((ks.drop (i + 1)).take j).map (λb=>(a,b)),p.1∈ks∧p.2∈ks:=λj p hp=>by
    rcases UB.mp hp with hp | hp
    ·obtain ⟨_,_,_,_,h3,h4⟩:=oW.mp hp
     exact ⟨Uz h3,Uz h4⟩
    ·obtain ⟨y,hy,rfl⟩:=Uu.mp hp
     exact ⟨Uz ha,List.mem_of_mem_drop (U9 hy)⟩
   obtain ⟨In2,hIn2⟩:∃In2:Nat→Sr→Hq→Prop,∀j τ J',In2 j τ J'↔∃(r:Addr) (u5 u6:Option PV),τ=[some (.ref p),some (fr m),some (.ref pb),some (.int (i:Int)),some (.str a.n),u5,u6]∧i6 J J'∧Li cB J' pb r (cb L.t (bZ L.t m) (zS ks i ++ ((ks.drop (i + 1)).take j).map λb=>(a,b)))∧(cb L.t (bZ L.t m) (zS ks i ++ ((ks.drop (i + 1)).take j).map λb=>(a,b))).length≤12 * i + j:=⟨_,λ_ _ _=>Iff.rfl⟩
   refine ed In2 ((hIn2 _ _ _).mpr ⟨r,_,_,rfl,l',by simpa using bb,by simpa using hle⟩) (λ_ _ _ _=>trivial) ?_ ?_
   ·intro j x τ J2 hx hv
    obtain ⟨r2,u5,u6,rfl,l2,bb2,hle2⟩:=(hIn2 _ _ _).mp hv
    clear hv
    have hj:j < (ks.drop (i + 1)).length:=by have:=(Uv.mp hx).1;rw [Us] at this;exact this
    have hb:(ks.drop (i + 1))[j]?=some (ks.drop (i + 1))[j]:=Ut hj
    rw [Uw,hb] at hx
    cases hx
    generalize (ks.drop (i + 1))[j]=y at hb ⊢
    have hb':ks[i + 1 + j]?=some y:=by rw [V'] at hb;exact hb
    have hjl:j < 12:=by rw [Vx] at hj;omega
    have ej:(ks.drop (i + 1)).take (j + 1)=(ks.drop (i + 1)).take j ++ [y]:=by rw [UN,hb];rfl
    have ef2:cb L.t (bZ L.t m) (zS ks i ++ ((ks.drop (i + 1)).take (j + 1)).map λb=>(a,b))=l_ L.t (bZ L.t m) (cb L.t (bZ L.t m) (zS ks i ++ ((ks.drop (i + 1)).take j).map λb=>(a,b))) (a,y):=by
     rw [ej,Uy,← Wf];exact fH _ _ _ _
    have srt:=lK L.t (bZ L.t m) (zS ks i ++ ((ks.drop (i + 1)).take j).map λb=>(a,b))
    have szs:=hup (mup j)
    generalize cb L.t (bZ L.t m) (zS ks i ++ ((ks.drop (i + 1)).take j).map λb=>(a,b))=rows at bb2 hle2 ef2 srt szs
    have m9:bZ L.t m (a,y)=false→∀{v5 v6},In2 (j + 1) [some (.ref p),some (fr m),some (.ref pb),some (.int (i:Int)),some (.str a.n),v5,v6] J2:=λhc v5 v6=>by
     have e:l_ L.t (bZ L.t m) rows (a,y)=rows:=by unfold l_;rw [if_neg (by rw [hc];decide)]
     exact (hIn2 _ _ _).mpr ⟨r2,_,_,rfl,l2,by rw [ef2,e];exact bb2,by rw [ef2,e];omega⟩
    have b2:=b.less l2
    simp_all! [b2.ob]
    refine ⟨dD _ _ _ _,p,L,a.n,y.n,rfl,b2,ok.toa_,λc hc c' hc' e e' hg hg'=>?_,λz=>?_⟩
    ·have hmet:=FX ok (by rw [hks];exact ha) (by rw [hks];exact hb') (by omega) hc hc' hg hg' e e'
     rw [hmet]
     by_cases c2:y.v < a.v∧a.p < y.p
     ·rw [if_pos c2]
      have smk:=yS ok (by rw [hks];exact Uz ha) (by rw [hks];exact Uz hb') c2.1
      simp_all! [gv,pj,cy]
      refine ⟨sm.mono (by decide),smk,?_⟩
      by_cases c3:m < fh L.t a y
      ·rw [if_pos c3]
       exact m9 (decide_eq_false (λz=>by have:=z.2.2;grind))
      ·rw [if_neg c3]
       have hcp:bZ L.t m (a,y)=true:=decide_eq_true ⟨c2.1,c2.2,by grind⟩
       have e:l_ L.t (bZ L.t m) rows (a,y)=kq ⟨fh L.t a y,a.n,y.n⟩ (dF a.n y.n rows):=by unfold l_;rw [if_pos hcp];rfl
       simp_all! [bb2.o]
       refine ⟨R6 _,pb,r2,rows,fh L.t a y,a.n,y.n,rfl,bb2,srt,by omega,smk,szs,λr' hr'=>?_⟩
       have nr:r'≠pb:=by intro z;subst z;rw [bb2.o] at hr';cases hr'
       refine (hIn2 _ _ _).mpr ⟨r',_,_,rfl,vi l2 hpb hr',⟨av,by rw [aq nr,av,ef2,e]⟩,?_⟩
       rw [ef2,e,r_]
       have:=pd a.n y.n rows
       omega
     ·rw [if_neg c2]
      simp_all! [gv]
      exact m9 (decide_eq_false (λz=>c2 ⟨z.1,z.2.1⟩))
    ·rcases z with z | z
     ·exact absurd (lT ok (by rw [hks];exact Uz ha)) z
     ·exact absurd (lT ok (by rw [hks];exact Uz hb')) z
   ·intro τ J2 hv
    obtain ⟨r2,u5,u6,rfl,l2,bb2,hle2⟩:=(hIn2 _ _ _).mp hv
    rw [Us,UQ,← eup] at bb2 hle2
    rw [Vx] at hle2
    exact (hInv _ _ _).mpr ⟨r2,_,_,_,_,rfl,l2,bb2,by omega⟩
  ·intro τ J' hv
   obtain ⟨r,u3,u4,u5,u6,rfl,l',bb,hle⟩:=(hInv _ _ _).mp hv
   rw [lI,Us,← hks,Kg ok.knd] at bb
   simp_all! [bb.o]
   exact ⟨R7 _,pb,r,_,rfl,bb,q.imp (λq=>Fg.less l' q) λq l hl=>Fg.less (vj l') (q l ((l' l).elim (λe=>e.trans hl) id))⟩
theorem rZ {m:Rat} (h:gO m.num m.den=true):Sc iF MM m∧0≤m:=by
 have h:=of_decide_eq_true h
 have hd:m.den≤60:=by omega
 constructor
 ·have h1:Sc m.den m.num.natAbs m:=⟨m.num,by have:=cast_eq m;rw [this];rfl,UC _⟩
  obtain ⟨k,hk⟩:=TU m.den m.den_pos hd
  have h2:=h1.scale (E:=k)
  rw [show k * m.den=iF by rw [hk,Nat.mul_comm]] at h2
  refine h2.mono ?_
  have h3:m.num.natAbs≤1000000 * m.den:=by omega
  have h4:k * m.num.natAbs≤k * (1000000 * m.den):=Nat.mul_le_mul_left _ h3
  have h5:k * (1000000 * m.den)=1000000 * iF:=by rw [hk];rw [Nat.mul_left_comm,Nat.mul_comm k]
  unfold MM
  omega
 ·exact Rat.num_nonneg.mp h.2.2.2.1
theorem a_.OW {L:Ln} (h:a_ L) {m:Rat} (hm:L.t≤m) (hg:gO m.num m.den=true):a_ { L with t:=m } :=
 ⟨h.nd,h.ne,λc hc l hl=>Rat.le_trans (h.le c hc l hl) hm,h.ck,h.len,λc hc q e=>⟨(h.gz c hc q e).1,Rat.le_trans (h.gz c hc q e).2 hm⟩,(rZ hg).2,(rZ hg).1,h.many,h.rm,h.rn,h.rl⟩
abbrev jG:Stmt:=(L2.inClass (top 42) 5)
abbrev iK:List Str:=["self","moment"]
theorem my:L2.aw ["self","moment","passings"] ["self","moment"] (L2.au jG):=dt
def Hh (cN cL eM eP:Addr):cq:=λxs J Q E=>∃p L a b,xs=[.ref p,.tup [.int a,.int b]]∧bh cN cL J p L∧b_ L∧(gO a b=false→E eM J)∧(∀m:Rat,m.num=a→(m.den:Int)=b→gO a b=true→(m < L.t→E eP J)∧(L.t≤m→∀J' o',bh cN cL J' p { L with t:=m,o:=o',row:=cQ m L.fs }→b_ { L with t:=m,o:=o',row:=cQ m L.fs }→Mv J J' (L.own p) (Ln.own { L with t:=m,o:=o',row:=cQ m L.fs } p)→Q (.fl ((gU L.t (L.fs.map (key L.t)) m).map aO.v)) J'))
theorem uz {cN cL eM eP f:Addr} {fd:FuncData} (F:bU K "go_to" "Lane.go_to" jG f fd) (Z:bE mg) (ax:dC K mg "Lane" cN) (aB:aK K cN "now") (cS:bV P w K mg base cN 7 "foretold" fL (xZ cN cL eM eP)) (bH:bV P w K mg base cN 7 "settle" dP (jm cN cL)):aS P w K mg base (cn P w) 8 f fd iK (cK K (Hh cN cL eM eP)):=by
 simp_arith [my,(ai (aA (i:=2) my.nd (aX (pl:=_) cS B hr (rv 0) (af (rv 1) ah)))
   (ai (eY ax.cl aB (rv 0) (rv 1))
   (ai (bA (dy (pl:=_) bH B hr (rv 0)))
   (ak (az (rv 2))))))]
 ·obtain ⟨p,L,a,b,rfl,_⟩:=h;rfl
 obtain ⟨p,L,a,bb,rfl,b,ok,qe,q⟩:=h
 have bo:=b.ob
 refine hX ?_
 simp_all! [bo]
 refine ⟨dD _ _ _ _,p,L,a,bb,rfl,b,ok,qe,λm h1 h2 hg=>⟨(q m h1 h2 hg).1,λhm=>.inl ?_⟩⟩
 have q:=(q m h1 h2 hg).2 hm
 have ef:PV.tup [.int a,.int bb]=fr m:=by rw [← h1,← h2];rfl
 have hgm:gO m.num m.den=true:=by rw [h1,h2];exact hg
 have ok1:=ok.toa_.OW hm hgm
 simp_all! [bo,ef]
 refine ⟨by show (3:Nat) < 1000;decide,?_⟩
 have b1:bh cN cL (put J p (.ins cN [("now",fr m),("logs",.ref L.d),("row",.ref L.o)])) p { L with t:=m } :=
  ⟨av,by show put J p _ L.d=_;rw [aq b.IX];exact b.dc,by show put J p _ L.o=_;rw [aq b.IZ];exact b.rw,λc hc=>⟨by rw [aq (b.Rc hc)];exact (b.lg c hc).o,by rw [aq (b.Oe hc)];exact (b.lg c hc).l⟩,b.ap,b.ao⟩
 have mv1:Mv J (put J p (.ins cN [("now",fr m),("logs",.ref L.d),("row",.ref L.o)])) (L.own p) (L.own p):=gR (.inl rfl) λa h=>.inl h
 generalize put J p (.ins cN [("now",fr m),("logs",.ref L.d),("row",.ref L.o)])=J1 at b1 mv1 ⊢
 simp_all! [b1.ob]
 refine ⟨dD _ _ _ _,p,{ L with t:=m },rfl,b1,ok1,λJ2 o' b2 mv2=>?_⟩
 simp_all! []
 exact q J2 o' b2 (b_.settled ok1 o') (mv1.trans mv2)
def Cf.turn (c:Cf) (t:Rat) (v:Int):Cf:={ c with w:=turned c.w t v }
def dh (n:Str) (t:Rat) (v:Int) (c:Cf):Cf:=if c.n=n then c.turn t v else c
theorem gE (n:Str) (t:Rat) (v:Int) (c:Cf):(dh n t v c).n=c.n∧(dh n t v c).a=c.a∧(dh n t v c).r=c.r∧(dh n t v c).g=c.g:=by unfold dh;split <;> exact ⟨rfl,rfl,rfl,rfl⟩
theorem du {α β:Type} {f:α→β} {g:α→α} (h:∀x,f (g x)=f x) (l:List α):(l.map g).map f=l.map f:=by rw [Ux];exact UK λx _=>h x
theorem a_.map {L:Ln} (h:a_ L) {f:Cf→Cf} (hn:∀c,(f c).n=c.n∧(f c).a=c.a∧(f c).r=c.r∧(f c).g=c.g) (hw:∀c∈L.cs,(f c).w≠[]∧(∀l∈(f c).w,l.m≤L.t∧tY l)∧(f c).w.length≤200):a_ { L with cs:=L.cs.map f }:=by
 have mem:∀c∈L.cs.map f,∃c0∈L.cs,f c0=c:=λc hc=>by obtain ⟨c0,h0,e⟩:=Uu.mp hc;exact ⟨c0,h0,e⟩
 have hfs:(Ln.fs { L with cs:=L.cs.map f }).map (·.1)=L.fs.map (·.1):=by
  rw [fY,fY]
  unfold Ln.Cq
  show ((L.cs.map f).filter _).map Cf.n=_
  rw [U2,Ux]
  have e1:(λc:Cf=>c.g.isNone) ∘ f=λc=>c.g.isNone:=by funext c;show (f c).g.isNone=_;rw [(hn c).2.2.2]
  rw [e1]
  exact UK λc _=>(hn c).1
 refine ⟨?_,?_,?_,?_,?_,?_,h.t0,h.ts,by show (L.cs.map f).length≤100;rw [Us];exact h.many,λn=>by rw [hfs];exact h.rm n,h.rn,h.rl⟩
 ·show ((L.cs.map f).map Cf.n).Nodup
  rw [du (λc=>(hn c).1)];exact h.nd
 ·intro c hc;obtain ⟨c0,h0,rfl⟩:=mem c hc;exact (hw c0 h0).1
 ·intro c hc l hl;obtain ⟨c0,h0,rfl⟩:=mem c hc;exact ((hw c0 h0).2.1 l hl).1
 ·intro c hc l hl;obtain ⟨c0,h0,rfl⟩:=mem c hc;exact ((hw c0 h0).2.1 l hl).2
 ·intro c hc;obtain ⟨c0,h0,rfl⟩:=mem c hc;exact (hw c0 h0).2.2
 ·intro c hc q e;obtain ⟨c0,h0,rfl⟩:=mem c hc;exact h.gz c0 h0 q (by rw [← (hn c0).2.2.2];exact e)
theorem a_.Kv {L:Ln} (h:a_ L) {c:Cf} (hc:c∈L.cs):c.w≠[]∧(∀l∈c.w,l.m≤L.t∧tY l)∧c.w.length≤200:=⟨h.ne c hc,λl hl=>⟨h.le c hc l hl,h.ck c hc l hl⟩,h.len c hc⟩
theorem a_.Lh {L:Ln} (h:a_ L) {c:Cf} (hc:c∈L.cs) (hl:c.w.length < 200) {v:Int} (hv:v.natAbs≤1000):(c.turn L.t v).w≠[]∧(∀l∈(c.turn L.t v).w,l.m≤L.t∧tY l)∧(c.turn L.t v).w.length≤200:=by
 refine ⟨vJ (h.ne c hc),λl hl'=>?_,?_⟩
 ·rcases BC hl' with k | ⟨l0,k,rfl⟩
  ·exact ⟨h.le c hc l k,h.ck c hc l k⟩
  ·exact ⟨Rat.le_refl,(h.ck c hc l0 k).at (h.le c hc l0 k) h.ts hv⟩
 ·have:=nh c.w L.t v
  show (turned c.w L.t v).length≤200
  omega
theorem bh.turn {cN cL:Addr} {J:Hq} {p:Addr} {L:Ln} (h:bh cN cL J p L) (ok:a_ L) {c:Cf} (hc:c∈L.cs) {t:Rat} {v:Int}:bh cN cL (put J c.r (.lst ((turned c.w t v).map aM.V))) p { L with cs:=L.cs.map (dh c.n t v) }:=by
 have hcs:=gE c.n t v
 refine ⟨by rw [aq (Ne.symm (h.Oe hc))];exact h.ob,?_,?_,λx hx=>?_,?_,λx hx=>?_⟩
 ·show put J c.r _ L.d=_
  rw [aq (Ne.symm (h.TZ hc)),h.dc]
  show _=Vf (HQ.dct ((L.cs.map (dh c.n t v)).map λc=>(c.n,PV.ref c.a)) L.e)
  rw [du (f:=λc:Cf=>(c.n,PV.ref c.a)) (λx=>by rw [(hcs x).1,(hcs x).2.1])]
 ·show put J c.r _ L.o=_
  rw [aq (Ne.symm (h.ao c hc))];exact h.rw
 ·obtain ⟨x0,h0,rfl⟩:=Uu.mp hx
  have hl:=h.lg x0 h0
  refine ⟨?_,?_⟩
  ·rw [(hcs x0).2.1,(hcs x0).2.2.1,(hcs x0).2.2.2,aq (h.Uj h0 hc)];exact hl.o
  ·rw [(hcs x0).2.2.1]
   by_cases e:x0.n=c.n
   ·have:x0=c:=ok.uniq h0 hc e
    subst this
    rw [av]
    unfold dh;rw [if_pos rfl];rfl
   ·have hr:x0.r≠c.r:=λz=>e (by
     obtain ⟨i,hi,rfl⟩:=U7 h0
     obtain ⟨j,hj,rfl⟩:=U7 hc
     have:=(Vl (xs:=L.cs.map Cf.r) (i:=i) (j:=j) (h₀:=by simpa using hi) (h₁:=by simpa using hj) h.ap).mp (by rw [U_,U_];exact z)
     subst this;rfl)
    rw [aq hr]
    unfold dh;rw [if_neg e];exact hl.l
 ·show ((L.cs.map (dh c.n t v)).map Cf.r).Nodup
  rw [du (λx=>(hcs x).2.2.1)];exact h.ap
 ·obtain ⟨x0,h0,rfl⟩:=Uu.mp hx
  rw [(hcs x0).2.2.1];exact h.ao x0 h0
theorem wU {L:Ln} {p:Addr} {f:Cf→Cf} (hn:∀c,(f c).n=c.n∧(f c).a=c.a∧(f c).r=c.r∧(f c).g=c.g) (a:Addr):Ln.own { L with cs:=L.cs.map f } p a↔L.own p a:=by
 unfold Ln.own
 constructor
 ·rintro (h | h | h | ⟨c,hc,h⟩)
  ·exact .inl h
  ·exact .inr (.inl h)
  ·exact .inr (.inr (.inl h))
  ·obtain ⟨c0,h0,rfl⟩:=Uu.mp hc
   rw [(hn c0).2.1,(hn c0).2.2.1] at h
   exact .inr (.inr (.inr ⟨c0,h0,h⟩))
 ·rintro (h | h | h | ⟨c,hc,h⟩)
  ·exact .inl h
  ·exact .inr (.inl h)
  ·exact .inr (.inr (.inl h))
  ·exact .inr (.inr (.inr ⟨f c,Uu.mpr ⟨c,hc,rfl⟩,by rw [(hn c).2.1,(hn c).2.2.1];exact h⟩))
abbrev k9:Stmt:=(L2.inClass (top 42) 3)
abbrev oi:List Str:=["self","name","pace"]
theorem xN:L2.aw ["self","name","pace"] ["self","name","pace"] (L2.au k9):=dt
def C0 (cN cL eC eF:Addr):cq:=λxs J Q E=>∃p L n v,xs=[.ref p,.str n,.int v]∧bh cN cL J p L∧b_ L∧(∀c∈L.cs,c.w.length < 200)∧(n ∉ L.row→E eC J)∧(n∈L.row→¬ v.natAbs≤1000→E eF J)∧(n∈L.row→v.natAbs≤1000→∀J' L',bh cN cL J' p L'→b_ L'→L'.cs=L.cs.map (dh n L.t v)→L'.t=L.t→Mv J J' (L.own p) (L'.own p)→Q .non J')
theorem wG {cN cL eC eF f:Addr} {fd:FuncData} (F:bU K "turn" "Lane.turn" k9 f fd) (Z:bE mg) (ax:dC K mg "Lane" cN) (aI:aK K cN "logs") (aB:aK K cN "now") {gG:Tok} (e8:mg "FASTEST"=some (.int 1000 gG)) (fT:Own K mg "TooFar" eF) (ba:bV P w K mg base cN 1 "must_be_there" cJ (rb cN cL eC)) (fI:bV P w K mg base cL 5 "turn" kO (xW cL)) (bH:bV P w K mg base cN 7 "settle" dP (jm cN cL)):aS P w K mg base (cn P w) 8 f fd oi (cK K (C0 cN cL eC eF)):=by
 simp_arith [xN,(ai (bA (aX (pl:=_) ba B hr (rv 0) (af (rv 1) ah)))
   (ai (aP (aE jV (aF ka rfl Z.abs boot_abs (af (rv 2) ah)) (fq (v:=.int 1000) (.int 1000) rfl e8 ⟨_,rfl⟩ (λ_ _=>rfl))) (ak (c9 fT rfl bW B.kn rfl (af bJ ah))) aH)
   (ai (bA (aX (pl:=_) fI B hr (aj bI (aV ax.cl aI (rv 0)) (rv 1)) (af (aV ax.cl aB (rv 0)) (af (rv 2) ah))))
   (ak (bA (dy (pl:=_) bH B hr (rv 0)))))))]
 ·obtain ⟨p,L,n,v,rfl,_⟩:=h;rfl
 obtain ⟨p,L,n,v,rfl,b,ok,hlen,qc,qf,q⟩:=h
 have bo:=b.ob
 have bd:=b.dc
 refine hX ?_
 simp_all! [bo]
 refine ⟨dD _ _ _ _,p,L,n,rfl,b,λhn=>?_,qc⟩
 simp_all! []
 have habs:(1000 < if v < 0 then -v else v)↔¬ v.natAbs≤1000:=by split <;> omega
 by_cases hv:v.natAbs≤1000
 ·rw [if_neg (λz=>habs.mp z hv)]
  obtain ⟨c,hc,rfl,hg⟩:=ok.found hn
  have lo:=(b.lg c hc).o
  have ok1:a_ { L with cs:=L.cs.map (dh c.n L.t v) }:=ok.toa_.map (gE c.n L.t v) λx hx=>by
   unfold dh
   split
   ·exact ok.toa_.Lh hx (hlen x hx) hv
   ·exact ok.toa_.Kv hx
  have b1:=b.turn ok.toa_ hc (t:=L.t) (v:=v)
  have mv1:Mv J (put J c.r (.lst ((turned c.w L.t v).map aM.V))) (L.own p) (Ln.own { L with cs:=L.cs.map (dh c.n L.t v) } p):=gR (.inr (.inr (.inr ⟨c,hc,.inr rfl⟩))) λa h=>.inl ((wU (gE c.n L.t v) a).mp h)
  simp_all! [bo,pA,pB,bd,ok.va hc,lo]
  refine ⟨Pl _ _,c.a,c.r,c.w,c.g,L.t,v,rfl,b.lg c hc,ok.ne c hc,UM (ok.len c hc) (by decide),ok.BA,λl hl=>(ok.ck c hc l hl).Ax,?_⟩
  generalize put J c.r (.lst ((turned c.w L.t v).map aM.V))=J1 at b1 mv1 ⊢
  simp_all! [b1.ob]
  refine ⟨dD _ _ _ _,p,_,rfl,b1,ok1,λJ2 o' b2 mv2=>?_⟩
  exact q hn hv J2 _ b2 (b_.settled ok1 o') rfl rfl (mv1.trans mv2)
 ·rw [if_pos (habs.mpr hv)]
  simp_all! [eW]
  exact qf hn hv
def eS (t:Rat) (c:Cf):Cf:=if c.g.isNone=true then c.turn t (-c.cur.v) else c
def bp (t:Rat) (row:List Str) (c:Cf):Cf:=if c.n∈row then c.turn t (-c.cur.v) else c
theorem i9 (t:Rat) (row:List Str) (c:Cf):(bp t row c).n=c.n∧(bp t row c).a=c.a∧(bp t row c).r=c.r∧(bp t row c).g=c.g:=by unfold bp;split <;> exact ⟨rfl,rfl,rfl,rfl⟩
theorem i_ {L:Ln} (ok:a_ L):L.cs.map (bp L.t L.row)=L.cs.map (eS L.t):=by
 refine UK λc hc=>?_
 have h:c.n∈L.row↔c.g.isNone=true:=by
  rw [ok.rm,fY,Uu]
  constructor
  ·rintro ⟨c',hc',e⟩
   have h':=Ln.cW.mp hc'
   rw [ok.uniq h'.1 hc e] at h'
   rw [h'.2];rfl
  ·intro e
   exact ⟨c,Ln.cW.mpr ⟨hc,by cases hg:c.g with | none=>rfl | some q=>rw [hg] at e;cases e⟩,rfl⟩
 unfold bp eS
 by_cases e:c.n∈L.row
 ·rw [if_pos e,if_pos (h.mp e)]
 ·rw [if_neg e,if_neg (λz=>e (h.mpr z))]
theorem a_.bp {L:Ln} (ok:a_ L) (hlen:∀c∈L.cs,c.w.length < 200) (row:List Str):a_ { L with cs:=L.cs.map (bp L.t row) }:=ok.map (i9 L.t row) λx hx=>by
 unfold Ov.bp
 split
 ·exact ok.Lh hx (hlen x hx) (by have:=(ok.ck x hx _ (Cf.ip (ok.ne x hx)).2).v;omega)
 ·exact ok.Kv hx
abbrev jF:Stmt:=(L2.inClass (top 42) 4)
abbrev iJ:List Str:=["self"]
theorem i4:L2.aw ["self","name","pace"] ["self"] (L2.au jF):=dt
def tJ (cN cL:Addr):cq:=λxs J Q E=>∃p L,xs=[.ref p]∧bh cN cL J p L∧b_ L∧(∀c∈L.cs,c.w.length < 200)∧(∀J' L',bh cN cL J' p L'→b_ L'→L'.cs=L.cs.map (eS L.t)→L'.t=L.t→Mv J J' (L.own p) (L'.own p)→Q .non J')
theorem uy {cN cL eC f:Addr} {fd:FuncData} (F:bU K "about" "Lane.about" jF f fd) (Z:bE mg) (ax:dC K mg "Lane" cN) (aJ:aK K cN "row") (aI:aK K cN "logs") (aB:aK K cN "now") (bF:bV P w K mg base cN 4 "leg_of" dO (lq cN cL eC)) (fI:bV P w K mg base cL 5 "turn" kO (xW cL)) (bH:bV P w K mg base cN 7 "settle" dP (jm cN cL)):aS P w K mg base (cn P w) 8 f fd iJ (cK K (tJ cN cL)):=by
 simp_arith [i4,(ai (cR bG rfl (d7 (aV ax.cl aJ (rv 0))) (bC (i:=1) i4.nd) (ai (aA (i:=2) i4.nd (aj ar (aX (pl:=_) bF B hr (rv 0) (af (rv 1) ah)) ag))
   (ak (bA (aX (pl:=_) fI B hr (aj bI (aV ax.cl aI (rv 0)) (rv 1)) (af (aV ax.cl aB (rv 0)) (af (oG jP (rv 2)) ah)))))))
   (ak (bA (dy (pl:=_) bH B hr (rv 0)))))]
 ·obtain ⟨p,L,rfl,_⟩:=h;rfl
 obtain ⟨p,L,rfl,b,ok,hlen,q⟩:=h
 refine hX ?_
 simp_all! [b.ob,b.rw,sj]
 have hid:L.cs.map (bp L.t (L.row.take 0))=L.cs:=by
  have:∀c∈L.cs,bp L.t (L.row.take 0) c=c:=λc _=>by unfold bp;rw [if_neg (by simp)]
  rw [UK this,Wa]
 obtain ⟨Inv,hInv⟩:∃Inv:Nat→Sr→Hq→Prop,∀i τ J',Inv i τ J'↔∃(u1 u2:Option PV),τ=[some (.ref p),u1,u2]∧bh cN cL J' p { L with cs:=L.cs.map (bp L.t (L.row.take i)) }∧Mv J J' (L.own p) (L.own p):=⟨_,λ_ _ _=>Iff.rfl⟩
 refine ed Inv ((hInv _ _ _).mpr ⟨_,_,rfl,by rw [hid];exact b,Mv.refl _ _⟩) (λi τ J' h=>?_) ?_ ?_
 ·obtain ⟨_,_,_,b',_⟩:=(hInv _ _ _).mp h
  have:=b'.rw
  simp only at this
  rw [this]
 ·intro i x τ J' hx hv
  obtain ⟨u1,u2,rfl,b',mv'⟩:=(hInv _ _ _).mp hv
  clear hv
  have hi:i < L.row.length:=by have:=(Uv.mp hx).1;simpa using this
  have hget:L.row[i]?=some L.row[i]:=Ut hi
  rw [Uw,hget] at hx
  cases hx
  have hn:L.row[i]∈L.row:=UP hi
  have et:L.row.take (i + 1)=L.row.take i ++ [L.row[i]]:=by rw [UN,hget];rfl
  have hnd:(L.row.take (i + 1)).Nodup:=ok.rn.sublist (U' _ _)
  rw [et] at hnd
  have hnew:=(dN hnd).2
  generalize L.row[i]=n at hn et hnew ⊢
  obtain ⟨c,hc,rfl,hg⟩:=ok.found hn
  have oki:=ok.toa_.bp hlen (L.row.take i)
  have ecc:bp L.t (L.row.take i) c=c:=by unfold bp;rw [if_neg hnew]
  have hci:c∈L.cs.map (bp L.t (L.row.take i)):=Uu.mpr ⟨c,hc,ecc⟩
  simp_all! [b'.ob]
  refine ⟨dD _ _ _ _,p,_,c.n,rfl,b',oki,λc' hc' e' hg'=>?_,λz=>absurd hn z⟩
  have ec':c'=c:=oki.uniq hc' hci e'
  subst ec'
  have hcv:=(ok.ck c' hc _ (Cf.ip (ok.ne c' hc)).2).v
  have lo:=(b'.lg c' hci).o
  have bo':=b'.ob
  have bd':=b'.dc
  simp only at bo' bd'
  simp_all! [iu,bo',pA,pB,bd',lo]
  have hva:=oki.va hci
  simp only at hva
  simp_all! [hva,lo,bo',pA]
  refine ⟨Pl _ _,c'.a,c'.r,c'.w,c'.g,L.t,-c'.cur.v,rfl,b'.lg c' hci,ok.ne c' hc,UM (ok.len c' hc) (by decide),ok.BA,λl hl=>(ok.ck c' hc l hl).Ax,?_⟩
  have b1:=b'.turn oki hci (t:=L.t) (v:=-c'.cur.v)
  have em:(L.cs.map (bp L.t (L.row.take i))).map (dh c'.n L.t (-c'.cur.v))=L.cs.map (bp L.t (L.row.take (i + 1))):=by
   rw [Ux]
   refine UK λx hx=>?_
   show dh c'.n L.t (-c'.cur.v) (bp L.t (L.row.take i) x)=_
   by_cases e:x.n=c'.n
   ·have:x=c':=ok.uniq hx hc e
    subst this
    rw [ecc]
    unfold dh Ov.bp
    rw [if_pos rfl,if_pos (by rw [et];simp)]
   ·unfold dh
    rw [if_neg (by rw [(i9 L.t (L.row.take i) x).1];exact e)]
    unfold Ov.bp
    rw [et]
    by_cases e2:x.n∈L.row.take i
    ·rw [if_pos e2,if_pos (UB.mpr (.inl e2))]
    ·rw [if_neg e2,if_neg (λz=>by
      rcases UB.mp z with z | z
      ·exact e2 z
      ·exact e (by simpa using z))]
  simp only [em] at b1
  refine (hInv _ _ _).mpr ⟨_,_,rfl,b1,mv'.trans (gR (.inr (.inr (.inr ⟨c',hc,.inr rfl⟩))) λa h=>.inl h)⟩
 ·intro τ J' hv
  obtain ⟨u1,u2,rfl,b',mv'⟩:=(hInv _ _ _).mp hv
  rw [Us,UQ,i_ ok.toa_] at b'
  have oki:a_ { L with cs:=L.cs.map (eS L.t) }:=by rw [← i_ ok.toa_];exact ok.toa_.bp hlen L.row
  simp_all! [b'.ob]
  refine ⟨dD _ _ _ _,p,_,rfl,b',oki,λJ2 o' b2 mv2=>?_⟩
  refine q J2 _ b2 (b_.settled oki o') rfl rfl (mv'.trans ⟨λa o e n=>mv2.keep a o e λz=>n ?_,λa h=>?_,mv2.mono⟩)
  ·rw [← i_ ok.toa_] at z;exact (wU (i9 L.t L.row) a).mp z
  ·rcases mv2.own a h with h' | h'
   ·rw [← i_ ok.toa_] at h';exact .inl ((wU (i9 L.t L.row) a).mp h')
   ·exact .inr h'
def bL (n:Str) (t:Rat) (c:Cf):Cf:=if c.n=n then { c with g:=some t } else c
theorem dM (n:Str) (t:Rat) (c:Cf):(bL n t c).n=c.n∧(bL n t c).a=c.a∧(bL n t c).r=c.r∧(bL n t c).w=c.w:=by unfold bL;split <;> exact ⟨rfl,rfl,rfl,rfl⟩
theorem yP {L L':Ln} {n:Str} {t:Rat} (e:L'.cs=L.cs.map (bL n t)):L'.fs=L.fs.filter λx=>decide (x.1≠n):=by
 unfold Ln.fs Ln.Cq
 rw [e,U2,Ux,U2,List.filter_filter]
 have e1:(λc:Cf=>c.g.isNone) ∘ bL n t=λc=>((λx:Str × aM=>decide (x.1≠n)) ∘ λc:Cf=>(c.n,c.cur)) c && c.g.isNone:=by
  funext c
  show (bL n t c).g.isNone=(decide (c.n≠n) && c.g.isNone)
  unfold bL
  by_cases z:c.n=n
  ·rw [if_pos z];simp [z]
  ·rw [if_neg z];simp [z]
 rw [e1]
 refine UK λc hc=>?_
 show ((bL n t c).n,(bL n t c).cur)=_
 unfold Cf.cur
 rw [(dM n t c).1,(dM n t c).2.2.2]
theorem qg {ks:List Ky} (h:(ks.map Ky.n).Nodup) (f:Ky→Bool):cI (ks.filter f)=(cI ks).filter f:=by
 have hs:((ks.filter f).map Ky.n).Nodup:=h.sublist (List.Sublist.map _ V8)
 refine oS (lt:=Ky.lt) Ky.HL Ky.tr (fk hs) ((fk h).filter _) λx=>?_
 rw [bM,UI,UI,bM]
theorem zf {t:Rat} {fs:List (Str × aM)} (h:(fs.map (·.1)).Nodup) (n:Str):cQ t (fs.filter λx=>decide (x.1≠n))=(cQ t fs).filter λx=>decide (x≠n):=by
 unfold cQ
 have e:(fs.filter λx=>decide (x.1≠n)).map (key t)=(fs.map (key t)).filter λk=>decide (k.n≠n):=by rw [U2];rfl
 rw [e,qg (by rw [cD];exact h),U2]
 rfl
theorem erase_filter {l:List Str} (h:l.Nodup) {j:Nat} {n:Str} (hj:l[j]?=some n):l.eraseIdx j=l.filter λx=>decide (x≠n):=by
 obtain ⟨hl,e⟩:=Uv.mp hj
 rw [List.eraseIdx_eq_take_drop_succ]
 have hd:l=l.take j ++ n :: l.drop (j + 1):=by rw [← e,← VI hl,V1]
 have hn:=h
 rw [hd,Vg] at hn
 have k1:∀x∈l.take j,x≠n:=λx hx=>hn.2.2 x hx n (by simp)
 have k2:∀x∈l.drop (j + 1),x≠n:=λx hx z=>(Vu.mp hn.2.1).1 (by rw [← z];exact hx)
 conv=>rhs;rw [hd]
 rw [Vo,U0,if_neg (by simp),U8.mpr λx hx=>decide_eq_true (k1 x hx),U8.mpr λx hx=>decide_eq_true (k2 x hx)]
theorem b_.leave {L:Ln} (ok:b_ L) (n:Str):b_ { L with cs:=L.cs.map (bL n L.t),row:=L.row.filter λx=>decide (x≠n) }:=by
 have hfs:Ln.fs { L with cs:=L.cs.map (bL n L.t),row:=L.row.filter λx=>decide (x≠n) }=L.fs.filter λx=>decide (x.1≠n):=yP (L:=L) (t:=L.t) rfl
 have mem:∀c∈L.cs.map (bL n L.t),∃c0∈L.cs,bL n L.t c0=c:=λc hc=>by obtain ⟨c0,h0,e⟩:=Uu.mp hc;exact ⟨c0,h0,e⟩
 have hw:∀c,(bL n L.t c).w=c.w:=λc=>(dM n L.t c).2.2.2
 refine ⟨⟨?_,?_,?_,?_,?_,?_,ok.t0,ok.ts,?_,?_,?_,?_⟩,?_⟩
 ·show ((L.cs.map (bL n L.t)).map Cf.n).Nodup
  rw [du (λc=>(dM n L.t c).1)];exact ok.nd
 ·intro c hc;obtain ⟨c0,h0,rfl⟩:=mem c hc;rw [hw];exact ok.ne c0 h0
 ·intro c hc l hl;obtain ⟨c0,h0,rfl⟩:=mem c hc;rw [hw] at hl;exact ok.le c0 h0 l hl
 ·intro c hc l hl;obtain ⟨c0,h0,rfl⟩:=mem c hc;rw [hw] at hl;exact ok.ck c0 h0 l hl
 ·intro c hc;obtain ⟨c0,h0,rfl⟩:=mem c hc;rw [hw];exact ok.len c0 h0
 ·intro c hc q e
  obtain ⟨c0,h0,rfl⟩:=mem c hc
  unfold bL at e
  split at e
  ·cases e;exact ⟨ok.ts,Rat.le_refl⟩
  ·exact ok.gz c0 h0 q e
 ·show (L.cs.map (bL n L.t)).length≤100
  rw [Us];exact ok.many
 ·intro m
  rw [hfs]
  show m∈L.row.filter _↔_
  rw [UI,ok.rm,Uu,Uu]
  constructor
  ·rintro ⟨⟨x,hx,rfl⟩,k⟩;exact ⟨x,UI.mpr ⟨hx,k⟩,rfl⟩
  ·rintro ⟨x,hx,rfl⟩;exact ⟨⟨x,(UI.mp hx).1,rfl⟩,(UI.mp hx).2⟩
 ·exact ok.rn.sublist V8
 ·exact UM (VC _ _) ok.rl
 ·rw [hfs]
  show L.row.filter _=_
  rw [zf ok.Kr,← ok.row]
theorem BZ {α:Type} [DecidableEq α]:∀{l:List α} {x:α},x∈l→∃j:Nat,l[j]?=some x∧∀m:Nat,m < j→l[m]?≠some x
 | y :: l,x,h=>by
  by_cases e:y=x
  ·exact ⟨0,by rw [e];rfl,λm hm=>by omega⟩
  ·rcases UH.mp h with h | h
   ·exact absurd h.symm e
   ·obtain ⟨j,h1,h2⟩:=BZ h
    refine ⟨j + 1,h1,λm hm=>?_⟩
    cases m with
    | zero=>intro z;exact e (Option.some.inj z)
    | succ m=>exact h2 m (by omega)
abbrev jH:Stmt:=(L2.inClass (top 42) 2)
abbrev ml:List Str:=["self","name"]
theorem uH:L2.aw ["self","name"] ["self","name"] (L2.au jH):=dt
def zI (cN cL eC:Addr):cq:=λxs J Q E=>∃p L n,xs=[.ref p,.str n]∧bh cN cL J p L∧b_ L∧(n ∉ L.row→E eC J)∧(n∈L.row→∀J' L',bh cN cL J' p L'→b_ L'→L'.cs=L.cs.map (bL n L.t)→L'.t=L.t→Mv J J' (L.own p) (L'.own p)→Q .non J')
theorem uA {cN cL eC f:Addr} {fd:FuncData} (F:bU K "leave" "Lane.leave" jH f fd) (Z:bE mg) (ax:dC K mg "Lane" cN) (aI:aK K cN "logs") (aB:aK K cN "now") (aJ:aK K cN "row") (ba:bV P w K mg base cN 1 "must_be_there" cJ (rb cN cL eC)) (kH:bV P w K mg base cL 1 "leave" om (zB cL)):aS P w K mg base (cn P w) 2 f fd ml (cK K (zI cN cL eC)):=by
 simp_arith [uH,(ai (bA (aX (pl:=_) ba B hr (rv 0) (af (rv 1) ah)))
   (ai (bA (aX (pl:=_) kH B hr (aj bI (aV ax.cl aI (rv 0)) (rv 1)) (af (aV ax.cl aB (rv 0)) ah)))
   (ak (bA (gr PySem.F.plainAttrs_list PySem.F.slot_list_remove PySem.F.type_list_remove DY (aV ax.cl aJ (rv 0)) (af (rv 1) ah))))))]
 ·obtain ⟨p,L,n,rfl,_⟩:=h;rfl
 obtain ⟨p,L,n,rfl,b,ok,qc,q⟩:=h
 have bo:=b.ob
 have bd:=b.dc
 refine hX ?_
 simp_all! [bo]
 refine ⟨dD _ _ _ _,p,L,n,rfl,b,λhn=>?_,qc⟩
 obtain ⟨c,hc,rfl,hg⟩:=ok.found hn
 have lo:=(b.lg c hc).o
 simp_all! [bo,pA,pB,bd,ok.va hc,lo]
 refine ⟨R9 _ _,c.a,c.r,c.w,c.g,L.t,rfl,b.lg c hc,?_⟩
 simp_all! [aq (Ne.symm (b.Rc hc)),bo,sj,aq (Ne.symm (b.Sf hc)),b.rw]
 obtain ⟨j,h1,h2⟩:=BZ hn
 refine ⟨L.row,rfl,j,h1,h2,?_⟩
 rw [erase_filter ok.rn h1]
 have hn':=dM c.n L.t
 have ok1:=ok.leave c.n
 refine q hn _ { L with cs:=L.cs.map (bL c.n L.t),row:=L.row.filter λx=>decide (x≠c.n) } ⟨?_,?_,av,λx hx=>?_,?_,λx hx=>?_⟩ ok1 rfl rfl ?_
 ·rw [aq (Ne.symm b.IZ),aq (Ne.symm (b.Rc hc))];exact bo
 ·show put (put J c.a _) L.o _ L.d=_
  rw [aq b.Sg,aq (Ne.symm (b.TY hc)),bd]
  show _=some (HQ.dct ((L.cs.map (bL c.n L.t)).map λc=>(c.n,PV.ref c.a)) L.e)
  rw [du (f:=λc:Cf=>(c.n,PV.ref c.a)) (λx=>by rw [(hn' x).1,(hn' x).2.1])]
 ·obtain ⟨x0,h0,rfl⟩:=Uu.mp hx
  have hl:=b.lg x0 h0
  refine ⟨?_,?_⟩
  ·rw [(hn' x0).2.1,(hn' x0).2.2.1,aq (b.Sf h0)]
   by_cases e:x0.n=c.n
   ·have:x0=c:=ok.uniq h0 hc e
    subst this
    rw [av]
    unfold bL;rw [if_pos rfl];rfl
   ·have ha:x0.a≠c.a:=λz=>by
     have hh:=hl.o
     have hh2:=(b.lg c hc).o
     rw [z,hh2] at hh
     have hrr:c.r=x0.r:=by
      have h3:=(HQ.ins.inj (Option.some.inj hh)).2
      have h4:=(List.cons.inj h3).1
      have h5:=(Prod.mk.inj h4).2
      exact PV.ref.inj h5
     obtain ⟨i,hi,rfl⟩:=U7 h0
     obtain ⟨j',hj',rfl⟩:=U7 hc
     have:=(Vl (xs:=L.cs.map Cf.r) (i:=i) (j:=j') (h₀:=by simpa using hi) (h₁:=by simpa using hj') b.ap).mp (by rw [U_,U_];exact hrr.symm)
     subst this;exact e rfl
    rw [aq ha]
    unfold bL;rw [if_neg e];exact hl.o
  ·rw [(hn' x0).2.2.1,(hn' x0).2.2.2,aq (b.ao x0 h0),aq (λz=>by have h3:=hl.l;rw [z,lo] at h3;cases h3)];exact hl.l
 ·show ((L.cs.map (bL c.n L.t)).map Cf.r).Nodup
  rw [du (λx=>(hn' x).2.2.1)];exact b.ap
 ·obtain ⟨x0,h0,rfl⟩:=Uu.mp hx
  rw [(hn' x0).2.2.1];exact b.ao x0 h0
 ·have own':∀a,Ln.own { L with cs:=L.cs.map (bL c.n L.t),row:=L.row.filter λx=>decide (x≠c.n) } p a→L.own p a:=λa h=>by
   rcases h with h | h | h | ⟨x,hx,h⟩
   ·exact .inl h
   ·exact .inr (.inl h)
   ·exact .inr (.inr (.inl h))
   ·obtain ⟨c0,h0,rfl⟩:=Uu.mp hx
    rw [(hn' c0).2.1,(hn' c0).2.2.1] at h
    exact .inr (.inr (.inr ⟨c0,h0,h⟩))
  refine (gR (S':=L.own p) (.inr (.inr (.inr ⟨c,hc,.inl rfl⟩))) λa h=>.inl h).trans (gR (.inr (.inr (.inl rfl))) λa h=>.inl (own' a h))
theorem Sub.trans {J J' J'':Hq} (h:Sub J J') (k:Sub J' J''):Sub J J'':=λa o e=>k a o (h a o e)
abbrev mV:Stmt:=(L2.inClass (top 29) 8)
abbrev qj:List Str:=["self"]
theorem f7:L2.aw ["self","moment","place","pace","other"] ["self"] (L2.au mV):=dt
def CU (cL:Addr):cq:=λxs J Q _=>∃p r rows g,xs=[.ref p]∧vO cL J p r rows g∧rows≠[]∧∀J' a' r',Sub J J'→J a'=none→J r'=none→vO cL J' a' r' rows g→Q (.ref a') J'
theorem y4 {cL f:Addr} {fd:FuncData} (F:bU K "twin" "Log.twin" mV f fd) (Z:bE mg) (a8:dC K mg "Log" cL) (aU:aK K cL "rows") (bD:aK K cL "gone") (uQ:yr P w K mg base cL 1 "Log" gi (xV cL)):aS P w K mg base (cn P w) 3 f fd qj (cK K (CU cL)):=by
 simp_arith [f7,(ai (xx (aj ar (aV a8.cl aU (rv 0)) ag) (sX (n:=3) rfl (dz (bC (i:=1) f7.nd) (dz (bC (i:=2) f7.nd) (dz (bC (i:=3) f7.nd) oI)))))
   (ai (aA (i:=4) f7.nd (CB uQ B hr (af (rv 1) (af (rv 2) (af (rv 3) ah)))))
   (ai (eY a8.cl aU (rv 4) (c8 kb rfl Z.list boot_list (af (aV a8.cl aU (rv 0)) ah)))
   (ai (eY a8.cl bD (rv 4) (aV a8.cl bD (rv 0)))
   (ak (az (rv 4)))))))]
 ·obtain ⟨p,r,rows,g,rfl,_⟩:=h;rfl
 obtain ⟨p,r,rows,g,rfl,b,hne,q⟩:=h
 have bo:=b.o
 have bl:=b.l
 obtain ⟨l,ls,rfl⟩:∃l ls,rows=l :: ls:=U3 hne
 refine hX ?_
 simp_arith! [bc,bo,bl,FQ,aM.V]
 intro a ha
 refine ⟨a,l,rfl,av,λr0 hr0=>⟨rfl,?_⟩⟩
 have ne1:∀{b u},J b=some u→b≠a:=λe z=>by subst z;rw [ha] at e;cases e
 have ne2:∀{b u},J b=some u→b≠r0:=λe z=>by subst z;rw [aq (ne1 e)] at hr0;rw [hr0] at e;cases e
 have nra:r0≠a:=by intro e;subst e;rw [av] at hr0;cases hr0
 have sub:Sub J (put (put (put J a (.ins cL [])) r0 (.lst [l.V])) a (.ins cL [("rows",.ref r0),("gone",.non)])):=λb o e=>by rw [aq (ne1 e),aq (ne2 e),aq (ne1 e)];exact e
 have ho:(put (put (put J a (.ins cL [])) r0 (.lst [l.V])) a (.ins cL [("rows",.ref r0),("gone",.non)])) a=some (.ins cL [("rows",.ref r0),("gone",.non)]):=av
 generalize (put (put (put J a (.ins cL [])) r0 (.lst [l.V])) a (.ins cL [("rows",.ref r0),("gone",.non)]))=J1 at sub ho ⊢
 refine gg (sub _ _ bo) (fi (FQ _ _) (fi (show kB J1 (.ref r)=some ((l :: ls).map aM.V) by rw [Pn,sub _ _ bl]) λr1 hr1=>?_))
 have n1:a≠r1:=by intro e;subst e;rw [ho] at hr1;cases hr1
 have n2:∀{b u},J b=some u→b≠r1:=λe z=>by subst z;rw [sub _ _ e] at hr1;cases hr1
 have hr:J r1=none:=by
  cases e:J r1 with
  | none=>rfl
  | some u=>exact absurd rfl (n2 e)
 refine gg (by rw [aq n1];exact ho) ⟨by show (2:Nat) < 1000;decide,?_⟩
 refine gg (by rw [aq (ne1 bo),aq (n2 bo)];exact sub _ _ bo) (fi (R8 _ _) (gg av ⟨by rw [Cp];show (2:Nat) < 1000;decide,?_⟩))
 rw [cm,Cp,Jw]
 refine q _ a r1 (λb o e=>by rw [aq (ne1 e),aq (n2 e)];exact sub _ _ e) ha hr ⟨av,by rw [aq (Ne.symm n1)];exact av⟩
abbrev iz:Stmt:=(L2.inClass (top 42) 20)
abbrev oj:List Str:=["self"]
theorem oM:L2.aw ["self","other"] ["self"] (L2.au iz):=dt
def Cf.face (c:Cf):Str × List aM × Option Rat:=(c.n,c.w,c.g)
structure Ln.alike (L L':Ln):Prop where
 t:L'.t=L.t
 row:L'.row=L.row
 cs:L'.cs.map Cf.face=L.cs.map Cf.face
theorem B1 (L:Ln):L.fs=((L.cs.map Cf.face).filter λf=>f.2.2.isNone).map λf=>(f.1,f.2.1.getLast?.getD ⟨0,0,0⟩):=by
 unfold Ln.fs Ln.Cq
 rw [U2,Ux];rfl
theorem Ln.alike.fs {L L':Ln} (h:L.alike L'):L'.fs=L.fs:=by rw [B1,B1,h.cs]
theorem Ln.alike.ex {L L':Ln} (h:L.alike L') {c':Cf} (hc:c'∈L'.cs):∃c∈L.cs,c.n=c'.n∧c.w=c'.w∧c.g=c'.g:=by
 have:c'.face∈L.cs.map Cf.face:=by rw [← h.cs];exact Uu.mpr ⟨c',hc,rfl⟩
 obtain ⟨c,hc,e⟩:=Uu.mp this
 unfold Cf.face at e
 exact ⟨c,hc,congrArg (·.1) e,congrArg (·.2.1) e,congrArg (·.2.2) e⟩
theorem Ln.alike.nm {L L':Ln} (h:L.alike L'):L'.cs.map Cf.n=L.cs.map Cf.n:=by
 have:=congrArg (Wi (·.1)) h.cs
 rw [Ux,Ux] at this;exact this
theorem Ln.alike.ok {L L':Ln} (h:L.alike L') (o:b_ L):b_ L':=by
 refine ⟨⟨by rw [h.nm];exact o.nd,λc hc=>?_,λc hc=>?_,λc hc=>?_,λc hc=>?_,λc hc=>?_,by rw [h.t];exact o.t0,by rw [h.t];exact o.ts,?_,by rw [h.row,h.fs];exact o.rm,by rw [h.row];exact o.rn,by rw [h.row];exact o.rl⟩,by rw [h.row,h.t,h.fs];exact o.row⟩
 ·obtain ⟨c0,h0,_,e,_⟩:=h.ex hc;rw [← e];exact o.ne c0 h0
 ·obtain ⟨c0,h0,_,e,_⟩:=h.ex hc;rw [← e,h.t];exact o.le c0 h0
 ·obtain ⟨c0,h0,_,e,_⟩:=h.ex hc;rw [← e];exact o.ck c0 h0
 ·obtain ⟨c0,h0,_,e,_⟩:=h.ex hc;rw [← e];exact o.len c0 h0
 ·obtain ⟨c0,h0,_,_,e⟩:=h.ex hc;rw [← e,h.t];exact o.gz c0 h0
 ·have:=congrArg Vp h.nm;rw [Us,Us] at this;rw [this];exact o.many
theorem vO.QC {cL:Addr} {J J':Hq} {p r:Addr} {rows:List aM} {g:Option Rat} (h:vO cL J p r rows g) (s:Sub J J'):vO cL J' p r rows g:=⟨s _ _ h.o,s _ _ h.l⟩
def C1 (cN cL:Addr):cq:=λxs J Q _=>∃p L,xs=[.ref p]∧bh cN cL J p L∧b_ L∧∀J' p' L',Sub J J'→bh cN cL J' p' L'→b_ L'→L.alike L'→(∀a,L'.own p' a→J a=none)→Q (.ref p') J'
theorem wH {cN cL f:Addr} {fd:FuncData} (F:bU K "twin" "Lane.twin" iz f fd) (Z:bE mg) (ax:dC K mg "Lane" cN) (aB:aK K cN "now") (aI:aK K cN "logs") (aJ:aK K cN "row") (o9:yr P w K mg base cN 1 "Lane" fK (x4 cN cL)) (mP:bV P w K mg base cL 3 "twin" qj (CU cL)):aS P w K mg base (cn P w) 4 f fd oj (cK K (C1 cN cL)):=by
 simp_arith [oM,(ai (aA (i:=1) oM.nd (sV o9 B hr))
   (ai (eY ax.cl aB (rv 1) (aV ax.cl aB (rv 0)))
   (ai (eY ax.cl aI (rv 1) (K7 (L2.au iz) ["self","other"] [("self",0)] rfl rfl rfl (gB (aV ax.cl aI (rv 0))) (λ_ _ _ _ _ _=>(rv 0)) (λ_ _ _ _ _ _=>(dy (pl:=_) mP DC hr (aj bI (aV ax.cl aI (rv 1)) (rv 0))))))
   (ai (eY ax.cl aJ (rv 1) (c8 kb rfl Z.list boot_list (af (aV ax.cl aJ (rv 0)) ah)))
   (ak (az (rv 1)))))))]
 ·obtain ⟨p,L,rfl,_⟩:=h;rfl
 obtain ⟨p,L,rfl,b,ok,q⟩:=h
 refine hX ?_
 simp_all! []
 intro p' hp'
 refine ⟨p',rfl,av,λJ1 d e o b1 mv1=>?_⟩
 have jp:∀{a u},J a=some u→a≠p':=λe z=>by subst z;rw [hp'] at e;cases e
 have sub:Sub J J1:=λa u e=>mv1.keep a u (by rw [aq (jp e)];exact e) (jp e)
 have wz:∀a,Ln.own ⟨0,d,e,o,[],[]⟩ p' a→J a=none:=λa z=>by
  rcases mv1.own a z with z | z
  ·rw [z];exact hp'
  ·by_cases y:a=p'
   ·rw [y];exact hp'
   ·rw [aq y] at z;exact z
 have ob1:J1 p'=some (.ins cN [("now",fr 0),("logs",.ref d),("row",.ref o)]):=b1.ob
 clear b1 mv1
 have hbo:=sub _ _ b.ob
 refine ⟨rfl,hNq _ _ ?_⟩
 clear hNq Nq
 simp_all! [hbo,ob1,pA]
 refine ⟨by show (3:Nat) < 1000;decide,?_⟩
 have sub2:Sub J (put J1 p' (.ins cN [("now",fr L.t),("logs",.ref d),("row",.ref o)])):=λa u e=>by rw [aq (jp e)];exact sub _ _ e
 have ob2:put J1 p' (.ins cN [("now",fr L.t),("logs",.ref d),("row",.ref o)]) p'=some (.ins cN [("now",fr L.t),("logs",.ref d),("row",.ref o)]):=av
 refine hNq _ _ ?_
 clear hNq Nq hbo sub ob1
 generalize put J1 p' (.ins cN [("now",fr L.t),("logs",.ref d),("row",.ref o)])=J2 at sub2 ob2 ⊢
 clear J1 wz
 have hbo:=sub2 _ _ b.ob
 have hbd:=sub2 _ _ b.dc
 simp_all! [Oj,hbo,pB,hbd]
 intro D hD ep
 have n2:∀{a u},J2 a=some u→a≠D:=λe z=>by subst z;rw [hD] at e;cases e
 have jD:J D=none:=by
  cases e:J D with
  | none=>rfl
  | some u=>exact absurd rfl (n2 (sub2 _ _ e))
 obtain ⟨W,hW⟩:∃W:Nat→Hq→Prop,∀i J3,W i J3↔∃(cs:List Cf) (ep2:Nat),Sub J J3∧J3 D=some (.dct (cs.map λc=>(c.n,PV.ref c.a)) ep2)∧J3 p'=some (.ins cN [("now",fr L.t),("logs",.ref d),("row",.ref o)])∧cs.map Cf.face=(L.cs.take i).map Cf.face ∧
   (∀c∈cs,vO cL J3 c.a c.r c.w c.g∧J c.a=none∧J c.r=none)∧(cs.map Cf.r).Nodup:=⟨_,λ_ _=>Iff.rfl⟩
 refine ⟨W,(hW _ _).mpr ⟨[],ep,λa u e=>by rw [aq (n2 (sub2 _ _ e))];exact sub2 _ _ e,av,by rw [aq (n2 ob2)];exact ob2,rfl,(by simp),Wd⟩,?_,?_,?_⟩
 ·intro i J3 hw
  obtain ⟨cs,ep2,s3,hd3,ob3,fc,la,nd⟩:=(hW _ _).mp hw
  exact s3 _ _ b.dc
 ·intro i x J3 hx hw
  obtain ⟨cs,ep2,s3,hd3,ob3,fc,la,nd⟩:=(hW _ _).mp hw
  have hi:i < L.cs.length:=by have:=(Uv.mp hx).1;simpa using this
  have hc:L.cs[i]∈L.cs:=UP hi
  have et:L.cs.take (i + 1)=L.cs.take i ++ [L.cs[i]]:=by rw [UN,Ut hi];rfl
  rw [Uw,Uw,Ut hi] at hx
  cases hx
  have hcd:=ok.toa_.nd
  have hnot:L.cs[i].n ∉ cs.map Cf.n:=by
   have e1:cs.map Cf.n=(L.cs.take i).map Cf.n:=by
    have:=congrArg (Wi (·.1)) fc
    rw [Ux,Ux] at this;exact this
   have e2:((L.cs.take (i + 1)).map Cf.n).Nodup:=hcd.sublist ((U' _ _).map _)
   rw [et,Uy] at e2
   rw [e1]
   exact (dN e2).2
  generalize L.cs[i]=c at hc et hnot
  have b3o:=s3 _ _ b.ob
  have b3d:=s3 _ _ b.dc
  have hva:=ok.toa_.va hc
  have lg:=(b.lg c hc).QC s3
  have lo:=lg.o
  simp_all! [b3o,pB,b3d,hva,lo]
  refine ⟨Sb _ _,c.a,c.r,c.w,c.g,rfl,lg,ok.ne c hc,λJ4 a' r' s4 na nr l4=>?_⟩
  have hlen:cs.length≤100:=by
   have e1:=congrArg Vp fc
   rw [Us,Us,UZ] at e1
   have:=ok.many;omega
  have s34:Sub J J4:=s3.trans s4
  have n4:∀{a u},J3 a=some u→a≠a'∧a≠r':=λ{a u} e=>⟨λz=>by subst z;exact absurd (na.symm.trans e) (λy=>nomatch y),λz=>by subst z;exact absurd (nr.symm.trans e) (λy=>nomatch y)⟩
  have jn:∀{a},J3 a=none→J a=none:=λ{a} e=>by
   cases z:J a with
   | none=>rfl
   | some u=>have:=s3 _ _ z;rw [e] at this;cases this
  have nD':=n4 hd3
  have epu:lR (cs.map λc=>(c.n,PV.ref c.a)) c.n (PV.ref a')=(cs ++ [Cf.mk c.n a' r' c.w c.g]).map λc=>(c.n,PV.ref c.a):=by
   unfold L2.lR
   rw [if_neg,Uy]
   ·rfl
   ·intro z
    obtain ⟨kv,hkv,e⟩:=V3.mp z
    obtain ⟨c0,h0,rfl⟩:=Uu.mp hkv
    exact hnot (Uu.mpr ⟨c0,h0,of_decide_eq_true e⟩)
  refine ⟨_,ep2,s4 _ _ hd3,a7 (by rw [Us];omega),λep'=>(hW _ _).mpr ⟨cs ++ [⟨c.n,a',r',c.w,c.g⟩],ep',λa u e=>?_,?_,?_,?_,?_,?_⟩⟩
  ·rw [aq (λz=>by subst z;rw [jD] at e;cases e)];exact s34 _ _ e
  ·rw [epu];exact av
  ·rw [aq (n2 ob2)];exact s4 _ _ ob3
  ·rw [et,Uy,Uy,fc];rfl
  ·intro c0 h0
   rcases UB.mp h0 with h0 | h0
   ·obtain ⟨l1,l2,l3⟩:=la c0 h0
    have l1':=l1.QC s4
    exact ⟨⟨by rw [aq (λz=>by have:=l1.o;rw [z,hd3] at this;cases this)];exact l1'.o,by rw [aq (λz=>by have:=l1.l;rw [z,hd3] at this;cases this)];exact l1'.l⟩,l2,l3⟩
   ·rw [UE] at h0;subst h0
    exact ⟨⟨by rw [aq (Ne.symm nD'.1)];exact l4.o,by rw [aq (Ne.symm nD'.2)];exact l4.l⟩,jn na,jn nr⟩
  ·rw [Uy,UA,Va,Vg]
   refine ⟨nd,by simp,λx hx y hy e=>?_⟩
   rw [UE] at hy;subst hy;subst e
   obtain ⟨c0,h0,rfl⟩:=Uu.mp hx
   exact (n4 (la c0 h0).1.l).2 rfl
 ·intro J3 hw
  obtain ⟨cs,ep2,s3,hd3,ob3,fc,la,nd⟩:=(hW _ _).mp hw
  rw [Us,Us,UQ] at fc
  have np:p'≠D:=n2 ob2
  simp_all! [ob3,KJ,if_false]
  refine ⟨by show (3:Nat) < 1000;decide,?_⟩
  have sub4:Sub J (put J3 p' (.ins cN [("now",fr L.t),("logs",.ref D),("row",.ref o)])):=λa u e=>by rw [aq (jp e)];exact s3 _ _ e
  have ob4:put J3 p' (.ins cN [("now",fr L.t),("logs",.ref D),("row",.ref o)]) p'=some (.ins cN [("now",fr L.t),("logs",.ref D),("row",.ref o)]):=av
  have hd4:put J3 p' (.ins cN [("now",fr L.t),("logs",.ref D),("row",.ref o)]) D=some (.dct (cs.map λc=>(c.n,PV.ref c.a)) ep2):=by rw [aq (Ne.symm np)];exact hd3
  have la4:∀c∈cs,vO cL (put J3 p' (.ins cN [("now",fr L.t),("logs",.ref D),("row",.ref o)])) c.a c.r c.w c.g∧J c.a=none∧J c.r=none:=λc hc=>by
   obtain ⟨l1,l2,l3⟩:=la c hc
   refine ⟨⟨?_,?_⟩,l2,l3⟩
   ·rw [aq (Ar l1.o ob3 sk)];exact l1.o
   ·rw [aq (λz=>by have:=l1.l;rw [z,ob3] at this;cases this)];exact l1.l
  refine hNq _ _ ?_
  clear hNq Nq hw
  generalize put J3 p' (.ins cN [("now",fr L.t),("logs",.ref D),("row",.ref o)])=J4 at sub4 ob4 hd4 la4 ⊢
  clear la hd3 ob3 s3 J3 hW W
  have b4o:=sub4 _ _ b.ob
  have b4r:=sub4 _ _ b.rw
  simp_all! [b4o,sj,b4r]
  intro O hO
  have n4:∀{a u},J4 a=some u→a≠O:=λe z=>by subst z;rw [hO] at e;cases e
  refine gg (by rw [aq (n4 ob4)];exact ob4) ⟨by show (3:Nat) < 1000;decide,?_⟩
  rw [Co]
  refine hNq _ _ ?_
  clear hNq Nq
  simp_all! []
  have jO:J O=none:=by
   cases z:J O with
   | none=>rfl
   | some u=>exact absurd rfl (n4 (sub4 _ _ z))
  have al:L.alike ⟨L.t,D,ep2,O,cs,L.row⟩:=⟨rfl,rfl,fc⟩
  refine q _ p' ⟨L.t,D,ep2,O,cs,L.row⟩ (λa u e=>by rw [aq (jp e),aq (n4 (sub4 _ _ e))];exact sub4 _ _ e) ⟨av,?_,?_,λc hc=>?_,nd,λc hc=>?_⟩ (al.ok ok) al ?_
  ·show put (put J4 O _) p' _ D=_
   rw [aq (Ne.symm np),aq (n4 hd4)];exact hd4
  ·show put (put J4 O _) p' _ O=_
   rw [aq (Ne.symm (n4 ob4))];exact av
  ·obtain ⟨l1,l2,l3⟩:=la4 c hc
   exact ⟨by rw [aq (Ar l1.o ob4 sk),aq (n4 l1.o)];exact l1.o,by rw [aq (λz=>by have:=l1.l;rw [z,ob4] at this;cases this),aq (n4 l1.l)];exact l1.l⟩
  ·exact n4 (la4 c hc).1.l
  ·rintro a (rfl | rfl | rfl | ⟨c,hc,rfl | rfl⟩)
   ·exact hp'
   ·exact jD
   ·exact jO
   ·exact (la4 c hc).2.1
   ·exact (la4 c hc).2.2
def menu:List Str:=["m","ab","a","zebra9","b0","0","abc","9zz","q7q7q7q7","aa","z","a1b2c3d4"]
def bO:Str:="abcdefghijklmnopqrstuvwxyz0123456789"
theorem IL:menu.Nodup:=by decide +kernel
theorem EW:bO.cps.toList.Nodup:=by decide +kernel
theorem lE:bO.cps.toList.length=36:=by decide +kernel
def Kp {α:Type} (xs:List α) (z:α) (d:Int) (k:Nat):α:=xs.getD ((d + 5 * (k:Int)) % (xs.length:Int)).toNat z
section
variable {α:Type} {xs:List α} {z:α} (d:Int)
theorem rR (h:0 < xs.length) (k:Nat):0≤(d + 5 * (k:Int)) % (xs.length:Int)∧(d + 5 * (k:Int)) % (xs.length:Int) < (xs.length:Int):=⟨Int.emod_nonneg _ (by omega),Int.emod_lt_of_pos _ (by omega)⟩
theorem nN (h:0 < xs.length) (k:Nat):xs[((d + 5 * (k:Int)) % (xs.length:Int)).toNat]?=some (Kp xs z d k):=by
 have:=rR d h k
 unfold Kp
 rw [VG,Ut (by omega)]
 rfl
theorem L_ (h:0 < xs.length) (k:Nat):c4 xs ((d + 5 * (k:Int)) % (xs.length:Int))=some (Kp xs z d k):=by
 have:=bP (nN (z:=z) d h k)
 rwa [Int.toNat_of_nonneg (rR d h k).1] at this
theorem BV (h:0 < xs.length) (k:Nat):Kp xs z d k∈xs:=Uz (nN d h k)
theorem RF {M a b d u v:Int} (g:5 * u=1 + M * v) (a0:0≤a) (a1:a < M) (b0:0≤b) (b1:b < M) (e:(d + 5 * a) % M=(d + 5 * b) % M):a=b:=by
 have h:M ∣ 5 * (a - b):=by
  have:=Int.dvd_of_emod_eq_zero (Int.emod_eq_emod_iff_emod_sub_eq_zero.mp e)
  rwa [show d + 5 * a - (d + 5 * b)=5 * (a - b) by omega] at this
 obtain ⟨c,hc⟩:M ∣ a - b:=by
  obtain ⟨c,hc⟩:=h
  refine ⟨u * c - v * (a - b),?_⟩
  have h1:5 * u * (a - b)=u * (M * c):=by rw [← hc];grind
  rw [g] at h1
  grind
 rcases Int.lt_trichotomy c 0 with k | k | k
 ·have:M * c≤M * (-1):=Int.mul_le_mul_of_nonneg_left (by omega) (by omega)
  omega
 ·subst k;omega
 ·have:M * 1≤M * c:=Int.mul_le_mul_of_nonneg_left (by omega) (by omega)
  omega
theorem BU (u v:Int) (hn:xs.Nodup) (g:5 * u=1 + (xs.length:Int) * v) {i j:Nat} (hi:i < xs.length) (hj:j < xs.length) (e:Kp xs z d i=Kp xs z d j):i=j:=by
 have h:0 < xs.length:=by omega
 have a:=nN (z:=z) d h i
 have b:=nN (z:=z) d h j
 rw [e] at a
 obtain ⟨a1,a2⟩:=Uv.mp a
 obtain ⟨b1,b2⟩:=Uv.mp b
 have e1:=(Vl hn).mp (a2.trans b2.symm)
 have:=rR d h i
 have:=rR d h j
 exact Int.ofNat.inj (RF g (Int.natCast_nonneg i) (Int.ofNat_lt.mpr hi) (Int.natCast_nonneg j) (Int.ofNat_lt.mpr hj) (show (d + 5 * (i:Int)) % _=(d + 5 * (j:Int)) % _ by omega))
end
theorem FV:menu.length=12:=by decide +kernel
abbrev pick:Int→Nat→Str:=Kp menu ""
theorem Jv (d:Int) (k:Nat):c4 (menu.map PV.str) ((d + 5 * (k:Int)) % 12)=some (.str (pick d k)):=by
 have h:=rR (xs:=menu) d (by decide +kernel) k
 have g:=bP (xs:=menu.map PV.str) (j:=((d + 5 * (k:Int)) % (menu.length:Int)).toNat) (by rw [Uw,nN (xs:=menu) (z:="") d (by decide +kernel) k];rfl)
 rw [Int.toNat_of_nonneg h.1,FV] at g
 exact g
theorem GB (d:Int) {m:Nat} (hm:m≤12):((Vz m).map (pick d)).Nodup:=by
 refine List.Pairwise.map (R:=λi j=>i < 12∧j < 12∧i≠j) _ (λi j ⟨a,b,c⟩ e=>c (BU d 5 2 IL (by decide +kernel) a b e)) ?_
 refine List.Pairwise.imp_of_mem (R:=λi j=>i≠j) (λ{i j} hi hj ne=>?_) (List.nodup_range)
 rw [VY] at hi hj
 exact ⟨by omega,by omega,ne⟩
theorem DX:∀x∈menu,good x=true:=by decide +kernel
theorem rM:∀c∈bO.cps.toList,fv dI c=true:=by decide +kernel
theorem Ek (d:Int) (k:Nat):good (pick d k)=true:=DX _ (BV d (by decide +kernel) k)
theorem IB {cs:List Nat} (h0:0 < cs.length) (h1:cs.length≤8) (h:∀c∈cs,fv dI c=true):good ⟨cs.toArray⟩=true:=by
 unfold good
 rw [U1,U1]
 refine ⟨⟨decide_eq_true ?_,decide_eq_true ?_⟩,V2.mpr λc hc=>h c (by simpa using hc)⟩
 ·show 1≤cs.toArray.size;rw [UD];omega
 ·show cs.toArray.size≤8;rw [UD];omega
abbrev sign:Int→Nat→Nat:=Kp bO.cps.toList 0
theorem JW (d:Int) (k:Nat):c4 bO.cps.toList ((d + 5 * (k:Int)) % 36)=some (sign d k):=by
 have h:=L_ (xs:=bO.cps.toList) (z:=0) d (by decide +kernel) k
 rw [lE] at h
 exact h
theorem Eu (d:Int) (k:Nat):fv dI (sign d k)=true:=rM _ (BV d (by decide +kernel) k)
theorem Hb (d:Int) {i j:Nat} (hi:i < 36) (hj:j < 36) (e:sign d i=sign d j):i=j:=BU d (-7) (-1) EW (by decide +kernel) (by rw [lE];exact hi) (by rw [lE];exact hj) e
theorem HA {d:Int} {n:Nat} {xs:List Str} (hl:xs.length≤36) (h:∀k x,xs[k]?=some x→x.cps.toList[n]?=some (sign d k)):xs.Nodup:=by
 refine Vh.mpr λi j hi hj hij e=>?_
 have a:=h i _ (Ut hi)
 have b:=h j _ (Ut hj)
 rw [e] at a
 rw [a] at b
 have:=Hb d (by omega) (by omega) (Option.some.inj b)
 omega
theorem uo {α:Type} (f:α→PV) {xs:List α} {k:Int} (h:0≤k):l6 (xs.map f) none (some k)=(xs.take k.toNat).map f:=by
 obtain ⟨j,rfl⟩:∃j:Nat,k=(j:Int):=⟨k.toNat,by omega⟩
 unfold l6
 rw [HT.G3,HT.JP,Wb,Int.toNat_natCast,Us,Vj]
 rcases Nat.le_total j xs.length with e | e
 ·rw [WL e]
  rfl
 ·rw [Nat.min_eq_right e,Nat.sub_zero,← Vj,← Vj,Vk (UC _),Vk e]
theorem Gg (cs:List Nat):((cs.map one).map (·.length)).sum=cs.length:=by
 induction cs with
 | nil=>rfl
 | cons c cs ih =>
  rw [UA,UA,List.sum_cons,ih,UT]
  show 1 + cs.length=cs.length + 1
  omega
theorem Qz {ds:List Int} (hD:Dig ds [3,36,8,36,36,36,36,36,36,36,36,840]):∃(d0 d1 d2 d11:Int) (es:List Int),c4 (ds.map PV.int) 0=some (.int d0)∧c4 (ds.map PV.int) 1=some (.int d1)∧c4 (ds.map PV.int) 2=some (.int d2)∧c4 (ds.map PV.int) 11=some (.int d11) ∧
  l6 (ds.map PV.int) (some 3) (some 11)=es.map PV.int∧es.length=8∧(∀e∈es,0≤e∧e < 36)∧0≤d2∧d2 < 8:=by
 obtain ⟨d0,ds,rfl,_,_,hD⟩:=hD.cons
 obtain ⟨d1,ds,rfl,_,_,hD⟩:=hD.cons
 obtain ⟨d2,ds,rfl,d20,d21,hD⟩:=hD.cons
 obtain ⟨a,ds,rfl,a0,a1,hD⟩:=hD.cons
 obtain ⟨b,ds,rfl,b0,b1,hD⟩:=hD.cons
 obtain ⟨c,ds,rfl,c0,c1,hD⟩:=hD.cons
 obtain ⟨d,ds,rfl,d0',d1',hD⟩:=hD.cons
 obtain ⟨e,ds,rfl,e0,e1,hD⟩:=hD.cons
 obtain ⟨f,ds,rfl,f0,f1,hD⟩:=hD.cons
 obtain ⟨g,ds,rfl,g0,g1,hD⟩:=hD.cons
 obtain ⟨h,ds,rfl,h0,h1,hD⟩:=hD.cons
 obtain ⟨x,ds,rfl,_,_,hD⟩:=hD.cons
 cases hD.nil
 refine ⟨d0,d1,d2,x,[a,b,c,d,e,f,g,h],rfl,rfl,rfl,rfl,rfl,rfl,λz hz=>?_,d20,d21⟩
 simp only [UH,UU,or_false] at hz
 rcases hz with rfl | rfl | rfl | rfl | rfl | rfl | rfl | rfl <;> exact ⟨by assumption,by assumption⟩
theorem DS {J:Hq} {p o:Addr} {a b:HQ} (hp:J p=none) (ho:J o=none):i6 J (put (put J p a) o b):=λx=>by
 by_cases e:x=o
 ·subst e;exact .inr ho
 ·by_cases e2:x=p
  ·subst e2;exact .inr hp
  ·rw [aq e,aq e2];exact .inl rfl
theorem pw {J J':Hq} {l:Addr} {o:HQ} (h:i6 J J') (n:J l=none):i6 J (put J' l o):=λa=>by
 by_cases e:a=l
 ·subst e;exact .inr n
 ·rw [aq e];exact h a
theorem less_none {J J':Hq} {l:Addr} (h:i6 J J') (n:J' l=none):J l=none:=(h l).elim (λe=>e.trans n) id
theorem O2 {p q a b:Prop} [Decidable p] [Decidable q]:(if p then if q then a else b else b)=if p∧q then a else b:=by by_cases hp:p <;> by_cases hq:q <;> simp [hp,hq]
def zJ:cq:=λxs J Q _=>∃c m:Int,xs=[.int c,.int m]∧0≤m∧m≤36∧∀ns:List Str,(ns.length:Int)=m→ns.Nodup→(∀x∈ns,good x=true)→Q (.fl (ns.map .str)) J
abbrev oJ:Stmt:=(top 55)
abbrev mr:List Str:=["_law_cell_here","_law_many"]
theorem fu:L2.aw ["_law_cell_here","_law_many","_law_signs","_law_row","_law_some","_law_body","_law_at_here","_law_out","_law_k"] ["_law_cell_here","_law_many"] (L2.au oJ):=dt
theorem D9 {f:Addr} {fd:FuncData} (F:bU K "_law_names" "_law_names" oJ f fd) (Z:bE mg) (nB:bj P w K mg base 1 "_law_digits" gY Bv):aS P w K mg base (cn P w) 2 f fd mr (cK K zJ):=by
 simp_arith [fu,(ai (aA (i:=2) fu.nd bJ)
   (ai (aA (i:=3) fu.nd (aL nB B hr (af (rv 0) (af (qo (xu [.int 3,.int 36,.int 8,.int 36,.int 36,.int 36,.int 36,.int 36,.int 36,.int 36,.int 36,.int 840] rfl [.int 3,.int 36,.int 8,.int 36,.int 36,.int 36,.int 36,.int 36,.int 36,.int 36,.int 36,.int 840] rfl)) ah))))
   (ai (aP (cf (dT (aE (cj hr.aQ) (aj ar (rv 3) ag) ag) (c5 (aE sE (rv 1) ag)))) (ai (aA (i:=4) fu.nd (qo (xu [.str "m",.str "ab",.str "a",.str "zebra9",.str "b0",.str "0",.str "abc",.str "9zz",.str "q7q7q7q7",.str "aa",.str "z",.str "a1b2c3d4"] rfl [.str "m",.str "ab",.str "a",.str "zebra9",.str "b0",.str "0",.str "abc",.str "9zz",.str "q7q7q7q7",.str "aa",.str "z",.str "a1b2c3d4"] rfl)))
   (ak (az (K8 (L2.au oJ) ["_law_cell_here","_law_many","_law_signs","_law_row","_law_some","_law_body","_law_at_here","_law_out","_law_k"] [("_law_row",3),("_law_some",4)] rfl rfl rfl (fM rfl Z.range (af (rv 1) ah)) (λ_ _ _ _ _ _=>(aj ar (rv 2) (ay bX (ay bQ (aj ar (rv 1) ag) (ay aT ag (rv 0))) ag))))))) aH)
   (ai (Nu (i:=5) (L2.au oJ) ["_law_cell_here","_law_many","_law_signs","_law_row","_law_some","_law_body","_law_at_here","_law_out","_law_k"] [("_law_signs",2)] rfl rfl rfl fu.nd rfl (Or.inl rfl) (d7 (g7 Hj (rv 3) (iy ag) (iy ag))) (λ_ _ _ _ _ _=>(aj Fz (rv 1) (rv 0))))
   (cx (aP (aE (cj hr.aQ) (aj ar (rv 3) ag) ag) (ak (aA (i:=5) fu.nd (g7 JX (rv 5) lS (iy (ay bQ (aj ar (rv 3) ag) ag))))) aH)
   (ai (aA (i:=6) fu.nd (ay bX (aj ar (rv 3) ag) (aF bK rfl Z.len boot_len (af (rv 5) ah))))
   (ai (aA (i:=7) fu.nd (kY ah))
   (ai (cR bG rfl (fM rfl Z.range (af (rv 1) ah)) (bC (i:=8) fu.nd) (ai (iT JY (rv 5) (rv 6) (aj Fz (rv 2) (ay bX (ay bQ (aj ar (rv 3) ag) (ay aT ag (rv 8))) ag)))
   (ak (bA (gr PySem.F.plainAttrs_list PySem.F.slot_list_append PySem.F.type_list_append gF (rv 7) (af (gr PySem.F.plainAttrs_str PySem.F.slot_str_join PySem.F.type_str_join IS bJ (af (rv 5) ah)) ah))))))
   (ak (az (rv 7))))))))))),F]
 ·obtain ⟨c,m,rfl,_⟩:=h;rfl
 obtain ⟨c,m,rfl,m0,m1,q⟩:=h
 refine hX ?_
 have ss:=tE (ss:=[3,36,8,36,36,36,36,36,36,36,36,840]) (by decide)
 simp_all! []
 refine ⟨c,[3,36,8,36,36,36,36,36,36,36,36,840],rfl,ss,by decide,λds hD=>?_⟩
 obtain ⟨d0,d1,d2,d11,es,at0,at1,at2,at11,hcut,el,be,d20,d21⟩:=Qz hD
 clear hD
 generalize ds.map PV.int=row at at0 at1 at2 at11 hcut ⊢
 refine hNq _ _ ?_
 clear hNq Nq
 simp_all! [at0]
 rw [O2]
 split
 ·rename_i hc
  simp_all! [xt]
  obtain ⟨g,hg⟩:∃g:PV→PV,∀i:Int,g (.int i)=.str (pick d1 i.toNat):=⟨λx=>match x with | .int i=>.str (pick d1 i.toNat) | _=>.non,λ_=>rfl⟩
  refine ⟨by omega,by omega,λ_=>true,g,⟨by rw [kr];exact a7 (by omega),λJ' _=>⟨trivial,λx hx=>⟨⟨rfl,rfl⟩,λ_=>?_⟩⟩⟩,?_⟩
  ·obtain ⟨i,hi⟩:=UO.mp hx
   obtain ⟨i1,rfl⟩:=(se _ _ _ _).mp hi
   rw [hg]
   simp_arith! [bc,at1,Int.zero_add]
   exact ⟨.of (Bd.small (by decide) (by decide)) (Bd.small (x:=(i:Int)) (by omega) (by omega)),by decide,fi (Jv d1 i) ⟨by rw [Int.zero_add,Int.toNat_natCast],rfl⟩⟩
  ·have em:((sd 0 m.toNat).filter λ_=>true).map g=((Vz m.toNat).map (pick d1)).map PV.str:=by
    rw [U8.mpr λ_ _=>rfl]
    unfold sd
    rw [Ux,Ux]
    exact UK λi _=>by show g (.int (0 + (i:Int)))=_;rw [hg,Int.zero_add,Int.toNat_natCast];rfl
   rw [em]
   exact Fg.same (q _ (by rw [Us,WC];omega) (GB d1 (by omega)) λx hx=>by obtain ⟨k,_,rfl⟩:=Uu.mp hx;exact Ek d1 k)
 refine hNq _ _ ?_
 clear hNq Nq
 have al:=lE
 have al2:bO.length≤sizeLine:=by decide +kernel
 simp_all! [Ep,hcut]
 obtain ⟨g,hg⟩:∃g:PV→PV,∀i:Int,g (.int i)=.str (one (bO.cps.toList.getD i.toNat 0)):=⟨λx=>match x with | .int i=>.str (one (bO.cps.toList.getD i.toNat 0)) | _=>.non,λ_=>rfl⟩
 refine ⟨λ_=>true,g,⟨by rw [Us];exact a7 (by omega),λJ' _=>⟨trivial,λx hx=>⟨⟨rfl,rfl⟩,λ_=>?_⟩⟩⟩,λD hD=>?_⟩
 ·obtain ⟨z,hz,rfl⟩:=Uu.mp hx
  obtain ⟨z0,z1⟩:=be z hz
  have hj:z.toNat < bO.cps.toList.length:=by rw [al];omega
  have ha:c4 bO.cps.toList z=some (bO.cps.toList.getD z.toNat 0):=by
   have:=bP (xs:=bO.cps.toList) (j:=z.toNat) (Ut hj)
   rw [Int.toNat_of_nonneg z0] at this
   rw [this,VG,Ut hj];rfl
  rw [hg]
  simp_arith! [bc,Nf]
  exact fi ha ⟨al2,rfl,rfl⟩
 have em:((es.map PV.int).filter λ_=>true).map g=((es.map λz=>bO.cps.toList.getD z.toNat 0).map one).map PV.str:=by
  rw [U8.mpr λ_ _=>rfl,Ux,Ux,Ux]
  exact UK λz _=>hg z
 rw [em]
 have hcl:(es.map λz=>bO.cps.toList.getD z.toNat 0).length=8:=by rw [Us];exact el
 have hca:∀c∈es.map λz=>bO.cps.toList.getD z.toNat 0,fv dI c=true:=λc hc=>by
  obtain ⟨z,hz,rfl⟩:=Uu.mp hc
  obtain ⟨z0,z1⟩:=be z hz
  have hj:z.toNat < bO.cps.toList.length:=by rw [al];omega
  rw [VG,Ut hj]
  exact rM _ (UP hj)
 generalize (es.map λz=>bO.cps.toList.getD z.toNat 0)=cs at hcl hca
 refine hNq _ _ ?_
 clear hNq Nq
 simp_all! [at0]
 obtain ⟨M,hM⟩:∃M:Sr→Hq→Prop,∀τ' J',M τ' J'↔∃(D:Addr) (cs:List Nat),τ'=[some (.int c),some (.int m),some (.str bO),some (.fl row),none,some (.ref D),none,none,none]∧i6 J J'∧J D=none∧0 < cs.length∧cs.length≤8∧(∀c∈cs,fv dI c=true)∧J' D=some (.lst ((cs.map one).map .str)):=⟨_,λ_ _=>Iff.rfl⟩
 refine ⟨M,?_,?_⟩
 ·simp_all! [at0,at2,kB,av]
  split
  ·rename_i h1
   rw [uo (f:=PV.str) (by omega:(0:Int)≤d2 + 1),← Vj]
   intro p4 hp4
   have n4:p4≠D:=λe=>by subst e;rw [av] at hp4;cases hp4
   have j4:J p4=none:=by rw [aq n4] at hp4;exact hp4
   refine (hM _ _).mpr ⟨p4,cs.take (d2 + 1).toNat,rfl,DS hD j4,j4,?_,?_,λc hc=>hca c (U9 hc),av⟩
   ·rw [UZ];omega
   ·rw [UZ];omega
  ·exact (hM _ _).mpr ⟨D,cs,rfl,fZ hD,hD,by omega,by omega,hca,av⟩
 clear hca hcl hD
 intro τ' J' hm
 obtain ⟨D,cs,rfl,lss,hD,l0,l1,hca,hd⟩:=(hM _ _).mp hm
 clear hm hM M
 have hl:((cs.map one).map PV.str).length=cs.length:=by rw [Us,Us]
 simp_all! [at11,hd,hl]
 have a0:=Int.emod_nonneg d11 (show (cs.length:Int)≠0 by omega)
 have a1:=Int.emod_lt_of_pos d11 (show (0:Int) < (cs.length:Int) by omega)
 generalize d11 % (cs.length:Int)=at' at a0 a1 ⊢
 refine ⟨by omega,hNq _ _ ?_⟩
 clear hNq Nq
 simp_all! []
 intro O hO
 have nOD:D≠O:=λe=>by rw [e,hO] at hd;cases hd
 have jO:=less_none lss hO
 refine hNq _ _ ?_
 clear hNq Nq
 simp_all! []
 refine ⟨by omega,by omega,?_⟩
 have e0s:(Str.ofString "").length=0:=by decide +kernel
 obtain ⟨Inv,hInv⟩:∃Inv:Nat→Sr→Hq→Prop,∀i τ J2,Inv i τ J2↔∃(u:Option PV) (cs':List Nat) (xs:List Str),τ=[some (.int c),some (.int m),some (.str bO),some (.fl row),none,some (.ref D),some (.int at'),some (.ref O),u] ∧
  i6 J J2∧cs'.length=cs.length∧(∀c∈cs',fv dI c=true)∧J2 D=some (.lst ((cs'.map one).map .str))∧J2 O=some (.lst (xs.map .str))∧xs.length=i∧(∀x∈xs,good x=true)∧∀k x,xs[k]?=some x→x.cps.toList[at'.toNat]?=some (sign d1 k):=⟨_,λ_ _ _=>Iff.rfl⟩
 refine lM Inv ((hInv _ _ _).mpr ⟨none,cs,[],rfl,pw lss jO,rfl,hca,by rw [aq nOD];exact hd,av,rfl,(λx hx=>by cases hx),λk x e=>by cases e⟩) ?_ ?_
 ·intro i τ J2 hi hv
  obtain ⟨u,cs',xs,rfl,ls2,hl',hca',hd',ho',hx,hxl,hsg⟩:=(hInv _ _ _).mp hv
  have sg:=JW d1 i
  have ix:L2.EF ((cs'.map one).map PV.str).length at'=some at'.toNat:=by
   unfold L2.EF
   rw [if_pos a0,if_pos (by rw [Us,Us,hl'];exact a1)]
  have es':((cs'.map one).map PV.str).set at'.toNat (.str (sgn (sign d1 i)))=((cs'.set at'.toNat (sign d1 i)).map one).map PV.str:=by
   rw [List.map_set,List.map_set]
   rfl
  have lc:(cs'.set at'.toNat (sign d1 i)).length=cs.length:=by rw [VN,hl']
  have hcn:∀c∈cs'.set at'.toNat (sign d1 i),fv dI c=true:=λc hc=>by
   rcases List.mem_or_eq_of_mem_set hc with h | h
   ·exact hca' c h
   ·rw [h];exact Eu d1 i
  simp_all! [at1,Nf,Int.zero_add]
  refine ⟨.of (Bd.small (by decide) (by decide)) (Bd.small (x:=(i:Int)) (by omega) (by omega)),by decide,fi sg ⟨al2,?_⟩⟩
  simp_all! [hd']
  refine ⟨_,ix,?_⟩
  rw [es']
  refine hNq _ _ ?_
  clear hNq Nq
  have hO2:put J2 D (.lst (((cs'.set at'.toNat (sign d1 i)).map one).map .str)) O=some (.lst (xs.map .str)):=by rw [aq (Ne.symm nOD)];exact ho'
  simp_arith! [bc,KQ,kB,av,hO2]
  refine ⟨_,rfl,?_,by rw [Us,hx];exact a7 (by omega),(hInv _ _ _).mpr ⟨_,cs'.set at'.toNat (sign d1 i),xs ++ [⟨(cs'.set at'.toNat (sign d1 i)).toArray⟩],rfl,pw (pw ls2 hD) jO,lc,hcn,by rw [aq nOD,av],?_,by rw [UR,hx];rfl,?_,?_⟩⟩
  ·rw [Gg,Us,lc,e0s]
   omega
  ·rw [av,join_ones,Uy];rfl
  ·intro x hx2
   rcases UB.mp hx2 with h | h
   ·exact hxl x h
   ·simp only [UH,UU,or_false] at h
    subst h
    exact IB (by rw [lc];exact l0) (by rw [lc];exact l1) hcn
  ·intro k x e
   rcases Nat.lt_or_ge k xs.length with hk | hk
   ·rw [Vq hk] at e
    exact hsg k x e
   ·rw [VF hk] at e
    have ek:k=i:=by
     cases hz:k - xs.length with
     | zero=>omega
     | succ z=>rw [hz] at e;cases e
    rw [show k - xs.length=0 by omega] at e
    have ex:=Option.some.inj e
    subst ex
    rw [ek]
    show (cs'.set at'.toNat (sign d1 i))[at'.toNat]?=some (sign d1 i)
    rw [Vd (by omega)]
 intro τ J2 hv
 obtain ⟨u,cs',xs,rfl,ls2,hl',hca',hd',ho',hx,hxl,hsg⟩:=(hInv _ _ _).mp hv
 refine hNq _ _ ?_
 simp_arith! [bc]
 exact Fg.pf ls2 ho' jO (q xs (by omega) (HA (by omega) hsg) hxl)
abbrev xI:Stmt:=(top 47)
abbrev iS:List Str:=["_law_found"]
theorem Ha:L2.aw ["_law_found"] ["_law_found"] (L2.au xI):=dt
def jq:cq:=λxs J Q _=>∃i:Int,xs=[.int i]∧Q (.bl true) J
theorem Eb {f:Addr} {fd:FuncData} (F:bU K "_law_whole" "_law_whole" xI f fd) (Z:bE mg):aS P w K mg base (cn P w) 1 f fd iS (cK K jq):=by
 simp_arith [Ha,(ak (az (Bg (aF gK rfl Z.isinstance boot_isinstance (af (rv 0) (af (kZ rfl Z.int boot_int) ah))) (xw (Nl (aF gK rfl Z.isinstance boot_isinstance (af (rv 0) (af (kZ rfl Z.bool boot_bool) ah))))))))]
 ·obtain ⟨i,rfl,_⟩:=h;rfl
 obtain ⟨i,rfl,q⟩:=h
 refine hX ?_
 simp_arith! [bc]
 exact q
abbrev Bq:Stmt:=(top 49)
abbrev gx:List Str:=["_law_found","_law_due_here"]
theorem JT:L2.aw ["_law_found","_law_due_here"] ["_law_found","_law_due_here"] (L2.au Bq):=dt
def iD:cq:=λxs J Q _=>∃a:Rat,xs=[fr a,fr a]∧Q (.bl true) J
theorem F' {f:Addr} {fd:FuncData} (F:bU K "_law_part" "_law_part" Bq f fd) (Z:bE mg) (qN:bj P w K mg base 1 "_law_whole" iS jq):aS P w K mg base (cn P w) 2 f fd gx (cK K iD):=by
 simp_arith [JT,(ai (aP (cf (eI (bT (bq (aF gK rfl Z.isinstance boot_isinstance (af (rv 0) (af (kZ rfl Z.tuple boot_tuple) ah))))) (dm (aE (fF hr.aQ) (aF bK rfl Z.len boot_len (af (rv 0) ah)) ag)))) (ak (az dw)) aH)
   (ai (aP (cf (eI (bT (bq (aL qN B hr (af (aj ar (rv 0) ag) ah)))) (dm (bT (bq (aL qN B hr (af (aj ar (rv 0) ag) ah))))))) (ak (az dw)) aH)
   (ak (az (er (cj hr.aQ) (rv 0) (rv 1))))))]
 ·obtain ⟨a,rfl,_⟩:=h;rfl
 obtain ⟨a,rfl,q⟩:=h
 refine hX ?_
 simp_arith! [bc,jq]
 exact q
abbrev s_:Stmt:=(top 56)
abbrev kP:List Str:=["_law_number","_law_mode"]
theorem Es:L2.aw ["_law_number","_law_mode"] ["_law_number","_law_mode"] (L2.au s_):=dt
def vF:cq:=λxs J Q _=>∃n m:Int,xs=[.int n,.int m]∧0≤n∧∀v:Int,v.natAbs≤1000000→Q (.int v) J
theorem AH {f:Addr} {fd:FuncData} (F:bU K "_law_placed" "_law_placed" s_ f fd) (Z:bE mg):aS P w K mg base (cn P w) 1 f fd kP (cK K vF):=by
 simp_arith [Es,(ai (aP (aE fj (rv 1) ag) (ak (az (ay c7 (ay bX (rv 0) ag) ag))) aH)
   (ai (aP (aE (cj hr.aQ) (rv 1) ag) (ak (az (ay c7 (ay bX (rv 0) ag) ag))) aH)
   (ak (az (ay c7 (ay bX (rv 0) ag) ag)))))]
 ·obtain ⟨n,m,rfl,_⟩:=h;rfl
 obtain ⟨n,m,rfl,n0,q⟩:=h
 refine hX ?_
 simp_all! []
 split
 ·simp_all! [];exact ⟨by decide,q _ (by omega)⟩
 simp_all! []
 split
 ·simp_all! [];exact ⟨by decide,q _ (by omega)⟩
 ·simp_all! [];exact ⟨by decide,q _ (by omega)⟩
abbrev xG:Stmt:=(top 57)
abbrev mw:List Str:=["_law_number","_law_mode"]
theorem G9:L2.aw ["_law_number","_law_mode"] ["_law_number","_law_mode"] (L2.au xG):=dt
def zK:cq:=λxs J Q _=>∃n m:Int,xs=[.int n,.int m]∧0≤n∧n < 2001∧∀v:Int,v.natAbs≤1000→Q (.int v) J
theorem D' {f:Addr} {fd:FuncData} (F:bU K "_law_paced" "_law_paced" xG f fd) (Z:bE mg):aS P w K mg base (cn P w) 1 f fd mw (cK K zK):=by
 simp_arith [G9,(ai (aP (aE fj (rv 1) ag) (ak (az (ay c7 (ay bX (rv 0) ag) ag))) aH)
   (ai (aP (aE (cj hr.aQ) (rv 1) ag) (ak (az (ay c7 (ay bX (rv 0) ag) ag))) aH)
   (ak (az (ay c7 (ay bX (rv 0) ag) ag)))))]
 ·obtain ⟨n,m,rfl,_⟩:=h;rfl
 obtain ⟨n,m,rfl,n0,n1,q⟩:=h
 refine hX ?_
 simp_all! []
 split
 ·simp_all! [];exact ⟨by decide,q _ (by omega)⟩
 simp_all! []
 split
 ·simp_all! [];exact ⟨by decide,q _ (by omega)⟩
 ·simp_all! [];exact ⟨by decide,q _ (by omega)⟩
abbrev Nx:Stmt:=(top 60)
abbrev dj:List Str:=["_law_leg","_law_moment"]
theorem zy:L2.aw ["_law_leg","_law_moment","_law_begun","_law_place","_law_way","_law_under"] ["_law_leg","_law_moment"] (L2.au Nx):=dt
theorem MJ {f:Addr} {fd:FuncData} (F:bU K "_law_at" "_law_at" Nx f fd) (Z:bE mg) (j7:bj P w K mg base 1 "_law_low" dQ fQ):aS P w K mg base (cn P w) 2 f fd dj (cK K h_):=by
 simp_arith [zy,(ai (aA (i:=2) zy.nd (aj ar (rv 0) ag))
   (ai (aA (i:=3) zy.nd (aj ar (rv 0) ag))
   (ai (aA (i:=4) zy.nd (ay aT (aj ar (rv 0) ag) (ay c7 (ay aT (aj ar (rv 1) ag) (aj ar (rv 2) ag)) (ay aT (aj ar (rv 2) ag) (aj ar (rv 1) ag)))))
   (ai (aA (i:=5) zy.nd (ay aT (aj ar (rv 1) ag) (aj ar (rv 2) ag)))
   (ak (az (aL j7 B hr (af (ay bQ (ay aT (aj ar (rv 3) ag) (rv 5)) (ay aT (rv 4) (aj ar (rv 3) ag))) (af (ay aT (aj ar (rv 3) ag) (rv 5)) ah)))))))))]
 ·obtain ⟨l,t,rfl,_⟩:=h;rfl
 obtain ⟨l,m,rfl,sb,sp,sm,bv,q⟩:=h
 refine hX ?_
 simp_all! [mf,FI,iu]
 have bn:Bd 1801 (m.num * l.m.den - l.m.num * m.den):=.sub (.mul sm.num sb.den (UC _)) (.mul sb.num sm.den (UC _))
 have bu:Bd 1800 ((m.den:Int) * l.m.den):=.mul sm.den sb.den
 have bw:Bd 1900 (l.v * (m.num * l.m.den - l.m.num * m.den)):=.mul bv bn
 refine ⟨.of sm.num sb.den,.of sb.num sm.den,.of bv bn,?_⟩
 simp_all! []
 refine ⟨.of sm.den sb.den,?_⟩
 simp_all! [fQ]
 refine ⟨.of sp.num bu,.of bw sp.den,.of sp.den bu,Int.mul_pos (cP _) (Int.mul_pos (cP _) (cP _)),.mul sp.den bu,?_⟩
 rw [OM]
 exact q
abbrev xD:Stmt:=(top 58)
abbrev iN:List Str:=["_law_clock","_law_number","_law_bottom","_law_mode"]
theorem oO:L2.aw ["_law_clock","_law_number","_law_bottom","_law_mode","_law_under","_law_steps"] ["_law_clock","_law_number","_law_bottom","_law_mode"] (L2.au xD):=dt
def xX:cq:=λxs J Q _=>∃(c:Rat) (n b m:Int),xs=[fr c,.int n,.int b,.int m]∧0≤n∧0≤b∧0≤m∧m < 4∧n < 2 ^ 60∧Sz 900 c∧∀q,Later c q→Q (fr q) J
theorem D6 {f:Addr} {fd:FuncData} (F:bU K "_law_later" "_law_later" xD f fd) (Z:bE mg) (j7:bj P w K mg base 1 "_law_low" dQ fQ):aS P w K mg base (cn P w) 2 f fd iN (cK K xX):=by
 simp_arith [oO,(ai (aP (aE (cj hr.aQ) (ay bX (rv 1) ag) ag) (ak (az (rv 0))) aH)
   (ai (aA (i:=4) oO.nd (ay bQ ag (ay bX (rv 2) (aj ar (qo (xu [.int 4,.int 6,.int 60,.int 60] rfl [.int 4,.int 6,.int 60,.int 60] rfl)) (rv 3)))))
   (ai (aA (i:=5) oO.nd (ay bQ ag (ay bX (ay d6 (rv 1) ag) (ay aT ag (rv 4)))))
   (cx (aP (aE (cj hr.aQ) (rv 3) ag) (ak (aA (i:=5) oO.nd (ay bQ ag (ay bX (ay d6 (rv 1) ag) (ay aT ag (rv 4)))))) aH)
   (ak (az (aL j7 B hr (af (ay bQ (ay d6 (ay aT (aj ar (rv 0) ag) (rv 4)) (aj ar (rv 0) ag)) (rv 5)) (af (rv 4) ah)))))))))]
 ·obtain ⟨c,n,b,m,rfl,_⟩:=h;rfl
 obtain ⟨c,n,b,m,rfl,n0,b0,m0,m1,n2,sc,q⟩:=h
 refine hX ?_
 simp_all! []
 refine ⟨by decide,?_⟩
 split
 ·simp_all! []
  exact q c (.inl rfl)
 obtain ⟨x,hx,x0,x1⟩:∃x:Int,c4 [PV.int 4,PV.int 6,PV.int 60,PV.int 60] m=some (.int x)∧1≤x∧x≤60:=by
  rcases (by omega:m=0∨m=1∨m=2∨m=3) with e | e | e | e <;> subst e
  ·exact ⟨4,de _ _,by decide,by decide⟩
  ·exact ⟨6,fU _ _ _,by decide,by decide⟩
  ·exact ⟨60,j_ _ _ _ _,by decide,by decide⟩
  ·exact ⟨60,Kl _ _ _ _ _,by decide,by decide⟩
 have u0:0≤b % x:=Int.emod_nonneg _ (by omega)
 have u1:b % x < x:=Int.emod_lt_of_pos _ (by omega)
 have bu:Bd 64 (1 + b % x):=.small (by omega) (by omega)
 have b8:Bd 9000 8:=(Bd.small (x:=8) (by decide) (by decide)).mono (by decide)
 simp_all! [hx]
 refine ⟨by omega,?_⟩
 simp_all! []
 refine ⟨⟨by decide,b8⟩,.of (.small (x:=2) (by decide) (by decide)) bu,by omega,?_⟩
 generalize hu:1 + b % x=u at *
 have k0:0≤n.fdiv 8:=by rw [Int.fdiv_eq_ediv_of_nonneg _ (by decide)];exact Int.ediv_nonneg n0 (by decide)
 obtain ⟨M,hM⟩:∃M:Sr→Hq→Prop,∀τ' J',M τ' J'↔∃s:Int,τ'=[some (fr c),some (.int n),some (.int b),some (.int m),some (.int u),some (.int s)]∧J'=J∧1≤s∧s≤500 * u:=⟨_,λ_ _=>Iff.rfl⟩
 simp_all! []
 refine ⟨M,?_,?_⟩
 ·simp_arith! [bc]
  have h2:0≤n.fdiv 8 % (2 * u):=Int.emod_nonneg _ (by omega)
  have h3:n.fdiv 8 % (2 * u) < 2 * u:=Int.emod_lt_of_pos _ (by omega)
  have h4:0≤n.fdiv 8 % (500 * u):=Int.emod_nonneg _ (by omega)
  have h5:n.fdiv 8 % (500 * u) < 500 * u:=Int.emod_lt_of_pos _ (by omega)
  split
  ·refine ⟨⟨by decide,b8⟩,.of (.small (x:=500) (by decide) (by decide)) bu,by omega,(hM _ _).mpr ⟨_,rfl,rfl,by omega,by omega⟩⟩
  ·exact (hM _ _).mpr ⟨_,rfl,rfl,by omega,by omega⟩
 ·intro τ' J' hm
  obtain ⟨s,rfl,rfl,s0,s1⟩:=(hM _ _).mp hm
  clear hm hM M
  simp_arith! [bc,fQ]
  refine ⟨.of sc.num bu,⟨eV c,sc.den.mono (by decide)⟩,by omega,bu.mono (by decide),?_⟩
  obtain ⟨u',rfl⟩:=Int.eq_ofNat_of_zero_le (show 0≤u by omega)
  obtain ⟨s',rfl⟩:=Int.eq_ofNat_of_zero_le (show 0≤s by omega)
  exact q _ (.inr ⟨u',s',by omega,by omega,by omega,by omega,rfl⟩)
theorem vf {α:Type} {V:α→PV} {lt:α→α→Bool} {ys:List α} {b:α} {r:Addr} {sp:cq} {E2:Addr→Hq→Prop} {D:En} {τ:Sr} {J:Hq} {iO iA iR:Nat}
  (hO:τ[iO]?=some (some (.ref r))) (hR:τ[iR]?=some (some (V b))) (hA:τ[iA]?=some (some (.int 0))) (nO:iA≠iO) (nR:iA≠iR) (hJ:J r=some (.lst (ys.map V)))
  (hb:∀y∈ys,∀R:PV→Hq→Prop,R (.bl (lt y b)) J→sp [V y,V b] J R E2)
  (high:∀{i j:Nat} {x y:α},ys[i]?=some x→ys[j]?=some y→i≤j→lt x b=false→lt y b=false)
  (fin:∀j:Nat,j≤ys.length→(∀(k:Nat) y,k < j→ys[k]?=some y→lt y b=true)→(∀(k:Nat) y,j≤k→ys[k]?=some y→lt y b=false)→D.nx (τ.set iA (some (.int j))) J) :
  GU (JB (rB (Bf (GL λi j=>.bl (decide (i < j))) (sT iA) (Qg Ng (zo (sT iO) Be)))) (rB (GR sp E2 (zo (Bf Oi (sT iO) (sT iA)) (zo (sT iR) Be))))) (uF (Bf (GL λi j=>.int (i + j)) (sT iA) (rC (.int 1))) (Iz iA)) D τ J:=by
 have hl:iA < τ.length:=(Uv.mp hA).1
 have sO:∀x,(τ.set iA x)[iO]?=some (some (.ref r)):=λx=>by rw [Vs nO];exact hO
 have sR:∀x,(τ.set iA x)[iR]?=some (some (V b)):=λx=>by rw [Vs nR];exact hR
 have sA:∀x,(τ.set iA x)[iA]?=some x:=λx=>Vd hl
 refine ⟨λm τ' J'=>∃j:Nat,j≤ys.length∧m=ys.length - j∧τ'=τ.set iA (some (.int j))∧J'=J∧∀(k:Nat) y,k < j→ys[k]?=some y→lt y b=true,⟨ys.length,0,Vb _,rfl,?_,rfl,λk y hk=>by omega⟩,?_⟩
 ·have h2:=List.set_getElem_self hl
  rw [(Uv.mp hA).2] at h2
  exact h2.symm
 rintro m τ' J' ⟨j,hj,rfl,rfl,rfl,hlow⟩
 simp_all! [sO,sA,hJ,Us]
 by_cases c0:j < ys.length
 ·rw [if_pos (by omega)]
  obtain ⟨y,hy⟩:∃y,ys[j]?=some y:=⟨_,Ut c0⟩
  have ha:c4 (ys.map V) (j:Int)=some (V y):=bP (by rw [Uw,hy];rfl)
  simp_all! [sO,sA,sR,hJ,ha]
  refine hb y (Uz hy) _ ?_
  refine AL rfl ?_
  cases hc:lt y b with
  | true =>
   rw [if_pos rfl]
   obtain ⟨N,hN⟩:∃N:Sr→Hq→Prop,∀τ' J'',N τ' J''↔∃i:Nat,i≤ys.length∧ys.length - (j + 1)=ys.length - i∧τ'=τ.set iA (some (.int i))∧J''=J'∧∀(k:Nat) y,k < i→ys[k]?=some y→lt y b=true:=⟨_,λ_ _=>Iff.rfl⟩
   refine ⟨N,λτ'' J'' h=>⟨ys.length - (j + 1),by omega,(hN _ _).mp h⟩,?_⟩
   simp_arith! [bc,sA]
   refine (hN _ _).mpr ⟨j + 1,by omega,rfl,by rw [List.set_set,Int.natCast_succ],rfl,λk z hk e=>?_⟩
   rcases VT (Nat.lt_succ_iff.mp hk) with h | h
   ·exact hlow k z h e
   ·subst h;rw [hy] at e;cases e;exact hc
  | false =>
   rw [if_neg (by decide)]
   exact fin j hj hlow λk z hk e=>high hy e hk hc
 ·rw [if_neg (by omega)]
  exact fin j hj hlow λk z hk e=>by rw [Vn (by omega)] at e;cases e
section
variable {X:Cx}
theorem nk.or {f:Value→Value→Sem Value} {q q':nt} (h:nk X f q) (h':nk X f q'):nk X f (λx y J Q=>q x y J Q∨q' x y J Q):=by
 obtain ⟨r,a,lr⟩:=h
 obtain ⟨r',a',lr'⟩:=h'
 refine ⟨λx y H Q=>r x y H Q∨r' x y H Q,λpins s σ H x y v u Q I rx ry h=>?_,λJ H x y v w Q2 Q rx ry rr h k=>?_⟩
 ·rcases h with h | h
  ·exact a pins s σ H x y v u Q I rx ry h
  ·exact a' pins s σ H x y v u Q I rx ry h
 ·rcases h with h | h
  ·exact .inl (lr J H x y v w Q2 Q rx ry rr h k)
  ·exact .inr (lr' J H x y v w Q2 Q rx ry rr h k)
end
def Ky.V (k:Ky):PV:=.tup [fr k.p,.int k.v,.str k.n]
theorem O4 (J:Hq) (k:Ky):fz J k.V (.int 0)=some (fr k.p):=de _ _
theorem O5 (J:Hq) (k:Ky):fz J k.V (.int 1)=some (.int k.v):=fU _ _ _
theorem Ku (J:Hq) (k:Ky):fz J k.V (.int 2)=some (.str k.n):=j_ _ _ _ _
theorem QQ (p:Rat) (v:Int) (n:Str):PV.tup [fr p,.int v,.str n]=(Ky.mk p v n).V:=rfl
theorem lH (p q:Rat):(p.num * (q.den:Int) < q.num * (p.den:Int))=(p < q):=propext (Rat.lt_iff p q).symm
abbrev sY:Stmt:=(top 63)
abbrev gX:List Str:=["_law_one","_law_two"]
theorem pT:L2.aw ["_law_one","_law_two","_law_here","_law_there"] ["_law_one","_law_two"] (L2.au sY):=dt
def tG:cq:=λxs J Q _=>(∃a b:Ky,xs=[a.V,b.V]∧Sz 9000 a.p∧Sz 9000 b.p∧Q (.bl (a.lt b)) J)∨(∃a b:aO,xs=[a.v,b.v]∧Sz 9000 a.m∧Sz 9000 b.m∧Q (.bl (a.lt b)) J)
theorem AF {f:Addr} {fd:FuncData} (F:bU K "_law_before" "_law_before" sY f fd) (Z:bE mg):aS P w K mg base (cn P w) 1 f fd gX (cK K tG):=by
 simp_arith [pT,(ai (aA (i:=2) pT.nd (ay aT (aj ar (aj ar (rv 0) ag) ag) (aj ar (aj ar (rv 1) ag) ag)))
   (ai (aA (i:=3) pT.nd (ay aT (aj ar (aj ar (rv 1) ag) ag) (aj ar (aj ar (rv 0) ag) ag)))
   (ai (aP (aE (fF hr.aQ) (rv 2) (rv 3)) (ak (az (er fj (rv 2) (rv 3)))) aH)
   (ai (aP (aE (fF hr.aQ) (aj ar (rv 0) ag) (aj ar (rv 1) ag)) (ak (az (er (nk.or fj AQ) (aj ar (rv 0) ag) (aj ar (rv 1) ag)))) aH)
   (ak (az (er AQ (aj ar (rv 0) ag) (aj ar (rv 1) ag))))))))]
 ·rcases h with ⟨a,b,rfl,_⟩ | ⟨a,b,rfl,_⟩ <;> rfl
 refine hX ?_
 rcases h with ⟨a,b,rfl,sa,sb,q⟩ | ⟨a,b,rfl,sa,sb,q⟩
 ·simp_arith! [bc,O4,O5,Ku]
  refine ⟨.of sa.num sb.den,.of sb.num sa.den,?_⟩
  unfold Ky.lt at q
  by_cases e:a.p=b.p
  ·rw [if_pos e] at q
   rw [if_pos ((lG _ _).mpr e)]
   by_cases k:a.v=b.v
   ·rw [if_pos k] at q ⊢;exact q
   ·rw [if_neg k] at q ⊢;exact .inl q
  ·rw [if_neg e] at q
   rw [if_neg (λz=>e ((lG _ _).mp z))]
   simp only [lH]
   exact q
 ·simp_arith! [bc,FF,FG,FH]
  refine ⟨.of sa.num sb.den,.of sb.num sa.den,?_⟩
  unfold aO.lt at q
  by_cases e:a.m=b.m
  ·rw [if_pos e] at q
   rw [if_pos ((lG _ _).mpr e)]
   by_cases k:a.h=b.h
   ·rw [if_pos k] at q ⊢;exact q
   ·rw [if_neg k] at q ⊢;exact .inr q
  ·rw [if_neg e] at q
   rw [if_neg (λz=>e ((lG _ _).mp z))]
   simp only [lH]
   exact q
abbrev q9:Stmt:=(top 64)
abbrev iQ:List Str:=["_law_legs","_law_moment"]
theorem jl:L2.aw ["_law_legs","_law_moment","_law_out","_law_name","_law_row","_law_at_here"] ["_law_legs","_law_moment"] (L2.au q9):=dt
def tP:cq:=λxs J Q _=>∃(D:Addr) (fs:List (Str × aM)) (ep:Nat) (t:Rat),xs=[.ref D,fr t]∧J D=some (.dct (bB fs) ep)∧(fs.map (·.1)).Nodup∧fs.length≤100∧Sz 900 t∧(∀x∈fs,jt 900 x.2)∧Q (.fl ((cQ t fs).map .str)) J
theorem D_ {f:Addr} {fd:FuncData} (F:bU K "_law_order" "_law_order" q9 f fd) (Z:bE mg) (i5:bj P w K mg base 2 "_law_at" dj h_) (rq:bj P w K mg base 1 "_law_before" gX tG):aS P w K mg base (cn P w) 3 f fd iQ (cK K tP):=by
 simp_arith [jl,(ai (aA (i:=2) jl.nd (kY ah))
   (ai (cR bG rfl (gB (rv 0)) (bC (i:=3) jl.nd) (ai (aA (i:=4) jl.nd (bY (af (aL i5 B hr (af (aj bI (rv 0) (rv 3)) (af (rv 1) ah))) (af (aj ar (aj bI (rv 0) (rv 3)) ag) (af (rv 3) ah)))))
   (ai (aA (i:=5) jl.nd ag)
   (ai (g8 bG (cf (dT (aE fj (rv 5) (aF bK rfl Z.len boot_len (af (rv 2) ah))) (c5 (bq (aL rq B hr (af (aj ar (rv 2) (rv 5)) (af (rv 4) ah))))))) (ak (aA (i:=5) jl.nd (ay bQ (rv 5) ag))))
   (ak (bA (gr PySem.F.plainAttrs_list PySem.F.slot_list_insert PySem.F.type_list_insert lN (rv 2) (af (rv 5) (af (rv 4) ah)))))))))
   (ak (az (K8 (L2.au q9) ["_law_legs","_law_moment","_law_out","_law_name","_law_row","_law_at_here"] [] rfl rfl rfl (d7 (rv 2)) (λ_ _ _ _ _ _=>(aj ar (rv 0) ag))))))),F]
 ·obtain ⟨D,fs,ep,t,rfl,_⟩:=h;rfl
 obtain ⟨D,fs,ep,t,rfl,hD,hnd,hlen,st,sl,q⟩:=h
 refine hX ?_
 simp_all! []
 intro r hr'
 have nDr:D≠r:=by intro e;subst e;rw [hD] at hr';cases hr'
 simp_all! [aq nDr,hD]
 have hkv:(bB fs).map (λkv=>PV.str kv.1)=fs.map λx=>PV.str x.1:=by unfold bB;rw [Ux];rfl
 rw [hkv]
 obtain ⟨Inv,hInv⟩:∃Inv:Nat→Sr→Hq→Prop,∀i τ J',Inv i τ J'↔∃(u3 u4 u5:Option PV),τ=[some (.ref D),some (fr t),some (.ref r),u3,u4,u5]∧J'=put J r (.lst ((cI ((fs.take i).map (key t))).map Ky.V)):=⟨_,λ_ _ _=>Iff.rfl⟩
 refine ed Inv ((hInv _ _ _).mpr ⟨_,_,_,rfl,rfl⟩) (λi τ J' h=>?_) ?_ ?_
 ·obtain ⟨_,_,_,_,rfl⟩:=(hInv _ _ _).mp h
  rw [aq nDr];exact hD
 ·intro i x τ J' hx hv
  obtain ⟨u3,u4,u5,rfl,rfl⟩:=(hInv _ _ _).mp hv
  clear hv
  have hi:i < fs.length:=by have:=(Uv.mp hx).1;simpa using this
  rw [Uw,Ut hi] at hx
  cases hx
  rcases hfi:fs[i] with ⟨n,l⟩
  have hmem:(n,l)∈fs:=by rw [← hfi];exact UP hi
  have et:fs.take (i + 1)=fs.take i ++ [(n,l)]:=by rw [UN,Ut hi,hfi];rfl
  have hndt:((fs.take i).map (·.1)).Nodup:=by rw [Vj];exact hnd.sublist (U' _ _)
  obtain ⟨ys,hys⟩:∃ys,cI ((fs.take i).map (key t))=ys:=⟨_,rfl⟩
  have srt:qz Ky.lt ys:=by rw [← hys];exact fk (by rw [cD];exact hndt)
  have hyl:ys.length=i:=by rw [← hys,je,Us,UZ];omega
  have hym:∀y∈ys,Sz 9000 y.p:=λy hy=>by
   rw [← hys,bM,Uu] at hy
   obtain ⟨x',hx',rfl⟩:=hy
   exact (iH (sl x' (U9 hx')) st).mono (by decide)
  have en:cI ((fs.take (i + 1)).map (key t))=qA Ky.lt (key t (n,l)) ys:=by rw [et,Uy,UA,Va,jf,hys]
  rw [hys]
  have hvn:fA (bB fs) n=some l.V:=dX (f:=aM.V) hnd hmem
  have sll:=sl _ hmem
  simp_all! [aq nDr,hD,hvn]
  refine ⟨l,t,rfl,sll.m,sll.p,st,sll.v,?_⟩
  simp_all! [aq nDr,hD,hvn,iu,QQ]
  have ek:(Ky.mk (l.at t) l.v n)=key t (n,l):=rfl
  rw [ek]
  have skn:Sz 9000 (key t (n,l)).p:=(iH sll st).mono (by decide)
  generalize key t (n,l)=kn at en skn ⊢
  refine vf (V:=Ky.V) (lt:=Ky.lt) (ys:=ys) (b:=kn) (iO:=2) (iA:=5) (iR:=4) rfl rfl rfl (by decide) (by decide) av (λy hy R hR=>.inl ⟨y,kn,rfl,hym y hy,skn,hR⟩) (λhx hy h k=>Ew (lt:=Ky.lt) Ky.tr srt hx hy h k) λj hj hlow hhigh=>?_
  simp_all! [av]
  refine ⟨_,j,rfl,rfl,by rw [Us];exact hj,a7 (by rw [Us];omega),by omega,?_⟩
  rw [cm]
  refine (hInv _ _ _).mpr ⟨_,_,_,rfl,?_⟩
  rw [en,← B9 hj hlow hhigh,Uy,UA,Vj,V4]
 ·intro τ J' hv
  obtain ⟨u3,u4,u5,rfl,rfl⟩:=(hInv _ _ _).mp hv
  rw [Us,UQ]
  simp_all! [xt,av]
  refine ⟨λ_=>true,(λx=>match x with | .tup [_,_,n]=>n | _=>.non),⟨a7 (by rw [Us,je,Us];omega),λJ2 hs=>⟨hs _ _ av,λx hx=>⟨⟨rfl,rfl⟩,λ_=>?_⟩⟩⟩,?_⟩
  ·obtain ⟨y,hy,rfl⟩:=Uu.mp hx
   simp_arith! [bc,Ku]
   rfl
  ·rw [U8.mpr λ_ _=>rfl,Ux]
   have e:(cQ t fs).map PV.str=(cI (fs.map (key t))).map ((λx=>match x with | .tup [_,_,n]=>n | _=>.non) ∘ Ky.V):=by unfold cQ;rw [Ux];rfl
   rw [e] at q
   exact Fg.less (fZ hr') q
abbrev xJ:Stmt:=(top 51)
abbrev mx:List Str:=["_law_found","_law_due_here"]
theorem zA:L2.aw ["_law_found","_law_due_here","_law_one"] ["_law_found","_law_due_here"] (L2.au xJ):=dt
def C2:cq:=λxs J Q _=>∃ss:List Str,xs=[.fl (ss.map .str),.fl (ss.map .str)]∧ss.length≤900∧Q (.bl true) J
theorem GH (ss:List Str):l9 (ss.map PV.str)=true:=by
 induction ss with
 | nil=>rfl
 | cons x ss ih=>rw [UA,pL,xp,ih];rfl
theorem E5 (ss:List Str):eA (g6 (ss.map PV.str))≤1:=by
 induction ss with
 | nil=>simp [g6,eA]
 | cons x ss ih=>simp only [UA,g6,gy,eA,dep];omega
theorem BR (ss:List Str):HJ (.fl (ss.map .str)):=⟨by unfold nv;exact GH ss,by
 have:=E5 ss
 simp only [gy,dep];omega⟩
theorem Ec {f:Addr} {fd:FuncData} (F:bU K "_law_words" "_law_words" xJ f fd) (Z:bE mg):aS P w K mg base (cn P w) 1 f fd mx (cK K C2):=by
 simp_arith [zA,(ai (aP (cf (eI (bT (bq (aF gK rfl Z.isinstance boot_isinstance (af (rv 0) (af (kZ rfl Z.list boot_list) ah))))) (dm (aE (fF hr.aQ) (aF bK rfl Z.len boot_len (af (rv 0) ah)) (aF bK rfl Z.len boot_len (af (rv 1) ah)))))) (ak (az dw)) aH)
   (ai (cR bG rfl (d7 (rv 0)) (bC (i:=2) zA.nd) (ak (aP (bT (bq (aF gK rfl Z.isinstance boot_isinstance (af (rv 2) (af (kZ rfl Z.str boot_str) ah))))) (ak (az dw)) aH)))
   (ak (az (er (cj hr.aQ) (rv 0) (rv 1))))))]
 ·obtain ⟨ss,rfl,_⟩:=h;rfl
 obtain ⟨ss,rfl,hl,q⟩:=h
 refine hX ?_
 simp_all! [Us]
 obtain ⟨Inv,hInv⟩:∃Inv:Nat→Sr→Hq→Prop,∀i τ J',Inv i τ J'↔∃u:Option PV,τ=[some (.fl (ss.map .str)),some (.fl (ss.map .str)),u]∧J'=J:=⟨_,λ_ _ _=>Iff.rfl⟩
 refine ed Inv ((hInv _ _ _).mpr ⟨_,rfl,rfl⟩) (λ_ _ _ _=>trivial) ?_ ?_
 ·intro i x τ J' hx hv
  obtain ⟨u,rfl,rfl⟩:=(hInv _ _ _).mp hv
  obtain ⟨y,_,rfl⟩:=Uu.mp (Uz hx)
  simp_all! []
  exact (hInv _ _ _).mpr ⟨_,rfl,rfl⟩
 ·intro τ J' hv
  obtain ⟨u,rfl,rfl⟩:=(hInv _ _ _).mp hv
  simp_all! []
  refine ⟨BR ss,(BR ss).1,?_⟩
  rw [eq_self];exact q
abbrev pR:Stmt:=(top 52)
abbrev j0:List Str:=["_law_found","_law_due_here"]
theorem Bs:L2.aw ["_law_found","_law_due_here"] ["_law_found","_law_due_here"] (L2.au pR):=dt
def pZ:cq:=λxs J Q _=>∃a:aO,xs=[a.v,a.v]∧Q (.bl true) J
theorem za {f:Addr} {fd:FuncData} (F:bU K "_law_passrow" "_law_passrow" pR f fd) (Z:bE mg) (oZ:bj P w K mg base 2 "_law_part" gx iD):aS P w K mg base (cn P w) 3 f fd j0 (cK K pZ):=by
 simp_arith [Bs,(ai (aP (cf (eI (bT (bq (aF gK rfl Z.isinstance boot_isinstance (af (rv 0) (af (kZ rfl Z.tuple boot_tuple) ah))))) (dm (aE (fF hr.aQ) (aF bK rfl Z.len boot_len (af (rv 0) ah)) ag)))) (ak (az dw)) aH)
   (ai (aP (cf (eI (bT (bq (aF gK rfl Z.isinstance boot_isinstance (af (aj ar (rv 0) ag) (af (kZ rfl Z.str boot_str) ah))))) (dm (bT (bq (aF gK rfl Z.isinstance boot_isinstance (af (aj ar (rv 0) ag) (af (kZ rfl Z.str boot_str) ah)))))))) (ak (az dw)) aH)
   (ak (az (Bg (aL oZ B hr (af (aj ar (rv 0) ag) (af (aj ar (rv 1) ag) ah))) (xw (er (cj hr.aQ) (rv 0) (rv 1))))))))]
 ·obtain ⟨a,rfl,_⟩:=h;rfl
 obtain ⟨a,rfl,q⟩:=h
 refine hX ?_
 simp_arith! [bc,iD,FF,FG,FH,S4,O8,OP,KP,RD]
 exact q
abbrev mZ:Stmt:=(top 53)
abbrev ji:List Str:=["_law_found","_law_due_here"]
theorem qr:L2.aw ["_law_found","_law_due_here","_law_k"] ["_law_found","_law_due_here"] (L2.au mZ):=dt
def tQ:cq:=λxs J Q _=>∃(rows:List aO) (x:PV),xs=[x,.fl (rows.map aO.v)]∧kB J x=some (rows.map aO.v)∧rows.length≤900∧Q (.bl true) J
theorem wN {f:Addr} {fd:FuncData} (F:bU K "_law_passrows" "_law_passrows" mZ f fd) (Z:bE mg) (Dg:bj P w K mg base 3 "_law_passrow" j0 pZ):aS P w K mg base (cn P w) 4 f fd ji (cK K tQ):=by
 simp_arith [qr,(ai (aP (cf (eI (bT (bq (aF gK rfl Z.isinstance boot_isinstance (af (rv 0) (af (kZ rfl Z.list boot_list) ah))))) (dm (aE (fF hr.aQ) (aF bK rfl Z.len boot_len (af (rv 0) ah)) (aF bK rfl Z.len boot_len (af (rv 1) ah)))))) (ak (az dw)) aH)
   (ai (cR bG rfl (fM rfl Z.range (af (aF bK rfl Z.len boot_len (af (rv 1) ah)) ah)) (bC (i:=2) qr.nd) (ak (aP (bT (bq (aL Dg B hr (af (aj ar (rv 0) (rv 2)) (af (aj ar (rv 1) (rv 2)) ah))))) (ak (az dw)) aH)))
   (ak (az dw))))]
 ·obtain ⟨rows,x,rfl,_⟩:=h;rfl
 obtain ⟨rows,x,rfl,hx,hl,q⟩:=h
 refine hX ?_
 simp_arith! [bc,Us,KH hx,Aw hx]
 refine ⟨by omega,by omega,lM (λi τ J'=>∃u:Option PV,τ=[some x,some (.fl (rows.map aO.v)),u]∧J'=J) ⟨none,rfl,rfl⟩ ?_ ?_⟩
 ·rintro i τ J' hi ⟨u,rfl,rfl⟩
  have hi:i < rows.length:=by omega
  have ha:c4 (rows.map aO.v) (0 + (i:Int))=some (rows[i].v):=by rw [Int.zero_add];exact EY (Ut hi)
  simp_arith! [bc,Ce hx,ha,pZ]
  exact ⟨_,rfl,rfl⟩
 ·rintro τ J' ⟨u,rfl,rfl⟩
  exact q
theorem rp {t p q:Rat} {v:Int} (hv:0 < v):Rat.divInt (t.num * ((p.den:Int) * (q.den:Int) * v) + (q.num * (p.den:Int) - p.num * (q.den:Int)) * (t.den:Int)) ((t.den:Int) * ((p.den:Int) * (q.den:Int) * v))=t + (q - p) / (v:Rat):=by
 have a:=cast_eq t
 have b:=cast_eq p
 have c:=cast_eq q
 have d:=dJ t
 have e:=dJ p
 have f:=dJ q
 have k:(v:Rat)≠0:=df (by omega)
 rw [Rat.divInt_eq_div]
 simp only [Rat.intCast_mul,Rat.intCast_add,Rat.intCast_sub,a,b,c]
 generalize (((t.den:Int)):Rat)=x at d ⊢
 generalize (((p.den:Int)):Rat)=y at e ⊢
 generalize (((q.den:Int)):Rat)=z at f ⊢
 generalize (v:Rat)=w at k ⊢
 have h1:y * z≠0:=λh=>by rcases Rat.mul_eq_zero.mp h with h | h <;> contradiction
 have h2:y * z * w≠0:=λh=>by rcases Rat.mul_eq_zero.mp h with h | h <;> contradiction
 have h3:x * (y * z * w)≠0:=λh=>by rcases Rat.mul_eq_zero.mp h with h | h <;> contradiction
 grind
theorem jt.jQ {l:aM} (h:jt 240 l) {t:Rat} (st:Sz 240 t):Sz 790 (l.at t):=by
 have s1:Sz 481 (t - l.m):=st.sub h.m
 have s2:Sz 545 ((t - l.m) * (l.v:Rat)):=s1.mul h.v
 exact h.p.add s2
theorem C9 {t p q:Rat} {v:Int} (st:Sz 240 t) (sp:Sz 790 p) (sq:Sz 790 q) (bv:Bd 70 v) (hv:0 < v):Bd 1650 ((p.den:Int) * (q.den:Int) * v)∧Bd 1590 (q.num * (p.den:Int) - p.num * (q.den:Int))∧Bd 1900 ((t.den:Int) * ((p.den:Int) * (q.den:Int) * v))∧Sz 9000 (t + (q - p) / (v:Rat)):=by
 have h1:Bd 1650 ((p.den:Int) * (q.den:Int) * v):=.mul (.mul (k:=1580) sp.den sq.den) bv
 have h2:Bd 1590 (q.num * (p.den:Int) - p.num * (q.den:Int)):=.sub (Bd.mul (k:=1580) sq.num sp.den) (Bd.mul (k:=1580) sp.num sq.den)
 have h3:Bd 1900 ((t.den:Int) * ((p.den:Int) * (q.den:Int) * v)):=.mul st.den h1
 refine ⟨h1,h2,h3,?_⟩
 rw [← rp hv]
 have hd:0 < (t.den:Int) * ((p.den:Int) * (q.den:Int) * v):=Int.mul_pos (cP _) (Int.mul_pos (Int.mul_pos (cP _) (cP _)) hv)
 exact (Sz.div (n:=1901) (.add (Bd.mul (k:=1900) st.num h1) (Bd.mul (k:=1900) h2 st.den)) (h3.mono (by decide)) (by omega)).mono (by decide)
theorem lZ (p q:Rat):(0 < q.num * (p.den:Int) - p.num * (q.den:Int))=(p < q):=by
 rw [← lH p q];exact propext (by omega)
abbrev G4:Stmt:=(top 65)
abbrev qk:List Str:=["_law_legs","_law_clock","_law_moment"]
theorem fO:L2.aw ["_law_legs","_law_clock","_law_moment","_law_out","_law_fast","_law_here","_law_slow","_law_pace","_law_there","_law_top","_law_under","_law_when","_law_row","_law_at_here"] ["_law_legs","_law_clock","_law_moment"] (L2.au G4):=dt
def K':cq:=λxs J Q _=>∃(D:Addr) (fs:List (Str × aM)) (ep:Nat) (t m:Rat),xs=[.ref D,fr t,fr m]∧J D=some (.dct (bB fs) ep)∧(fs.map (·.1)).Nodup∧fs.length≤20∧Sz 240 t∧Sz 900 m∧(∀x∈fs,jt 240 x.2)∧Q (.fl ((gU t (fs.map (key t)) m).map aO.v)) J
theorem I_ {f:Addr} {fd:FuncData} (F:bU K "_law_due" "_law_due" G4 f fd) (Z:bE mg) (i5:bj P w K mg base 2 "_law_at" dj h_) (j7:bj P w K mg base 1 "_law_low" dQ fQ) (rq:bj P w K mg base 1 "_law_before" gX tG):aS P w K mg base (cn P w) 3 f fd qk (cK K K'):=by
 simp_arith [fO,(ai (aA (i:=3) fO.nd (kY ah))
   (ai (cR bG rfl (gB (rv 0)) (bC (i:=4) fO.nd) (ai (aA (i:=5) fO.nd (aL i5 B hr (af (aj bI (rv 0) (rv 4)) (af (rv 1) ah))))
   (ak (cR bG rfl (gB (rv 0)) (bC (i:=6) fO.nd) (ai (aA (i:=7) fO.nd (ay c7 (aj ar (aj bI (rv 0) (rv 4)) ag) (aj ar (aj bI (rv 0) (rv 6)) ag)))
   (ai (aA (i:=8) fO.nd (aL i5 B hr (af (aj bI (rv 0) (rv 6)) (af (rv 1) ah))))
   (ai (aA (i:=9) fO.nd (ay c7 (ay aT (aj ar (rv 8) ag) (aj ar (rv 5) ag)) (ay aT (aj ar (rv 5) ag) (aj ar (rv 8) ag))))
   (ak (aP (cf (dT (aE jV (rv 7) ag) (c5 (aE jV (rv 9) ag)))) (ai (aA (i:=10) fO.nd (ay aT (ay aT (aj ar (rv 5) ag) (aj ar (rv 8) ag)) (rv 7)))
   (ai (aA (i:=11) fO.nd (aL j7 B hr (af (ay bQ (ay aT (aj ar (rv 1) ag) (rv 10)) (ay aT (rv 9) (aj ar (rv 1) ag))) (af (ay aT (aj ar (rv 1) ag) (rv 10)) ah))))
   (ai (aA (i:=12) fO.nd (bY (af (rv 11) (af (rv 4) (af (rv 6) ah)))))
   (ai (aA (i:=13) fO.nd ag)
   (ai (g8 bG (cf (dT (aE fj (rv 13) (aF bK rfl Z.len boot_len (af (rv 3) ah))) (c5 (bq (aL rq B hr (af (aj ar (rv 3) (rv 13)) (af (rv 12) ah))))))) (ak (aA (i:=13) fO.nd (ay bQ (rv 13) ag))))
   (ak (aP (aE sE (ay aT (aj ar (rv 11) ag) (aj ar (rv 2) ag)) (ay aT (aj ar (rv 2) ag) (aj ar (rv 11) ag))) (ak (bA (gr PySem.F.plainAttrs_list PySem.F.slot_list_insert PySem.F.type_list_insert lN (rv 3) (af (rv 13) (af (rv 12) ah))))) aH))))))) aH)))))))))
   (ak (az (rv 3))))),F]
 ·obtain ⟨D,fs,ep,t,m,rfl,_⟩:=h;rfl
 obtain ⟨D,fs,ep,t,m,rfl,hD,hnd,hlen,st,sm,sl,q⟩:=h
 refine hX ?_
 simp_all! []
 intro r hr'
 have nDr:D≠r:=by intro e;subst e;rw [hD] at hr';cases hr'
 simp_all! [aq nDr,hD]
 have hkv:(bB fs).map (λkv=>PV.str kv.1)=fs.map λx=>PV.str x.1:=by unfold bB;rw [Ux];rfl
 rw [hkv]
 obtain ⟨ks,hks⟩:∃ks,fs.map (key t)=ks:=⟨_,rfl⟩
 have hkn:(ks.map Ky.n).Nodup:=by rw [← hks,cD];exact hnd
 have hkl:ks.length=fs.length:=by rw [← hks,Us]
 have hkd:ks.Nodup:=List.Pairwise.of_map Ky.n (λa b h e=>h (by rw [e])) hkn
 have hkm:∀i (h:i < fs.length),ks[i]?=some (key t fs[i]):=λi h=>by rw [← hks,Uw,Ut h];rfl
 have hmz:∀a∈ks,∀b∈ks,b.v < a.v→Sz 9000 (fh t a b):=λa ha b hb h=>by
  rw [← hks] at ha hb
  obtain ⟨x,hx,rfl⟩:=Uu.mp ha
  obtain ⟨y,hy,rfl⟩:=Uu.mp hb
  exact (C9 (v:=x.2.v - y.2.v) st ((sl x hx).jQ st) ((sl y hy).jQ st) (((sl x hx).v.sub (k:=66) (sl y hy).v).mono (by decide)) (by have:y.2.v < x.2.v:=h;omega)).2.2.2
 have hup:∀{ps:List (Ky × Ky)},(∀p∈ps,p.1∈ks∧p.2∈ks)→∀x∈cb t (bZ t m) ps,Sz 9000 x.m:=λhp x hx=>by
  obtain ⟨p,hp',hc,rfl⟩:=lL _ hx
  exact hmz _ (hp p hp').1 _ (hp p hp').2 (of_decide_eq_true hc).1
 have hnew:∀{i:Nat} {l:List Ky} {y:Ky},l.Nodup→l[i]?=some y→y ∉ l.take i:=λ{i l y} hl hy hm=>by
  obtain ⟨j,hj⟩:=UO.mp hm
  rw [List.getElem?_take] at hj
  split at hj
  ·rename_i hji
   obtain ⟨h1,e1⟩:=Uv.mp hj
   obtain ⟨h2,e2⟩:=Uv.mp hy
   have:=(Vl hl).mp (e1.trans e2.symm)
   omega
  ·cases hj
 have pin:∀{i j:Nat} {a:Ky},a∈ks→∀p∈((ks.take i).flatMap λa=>ks.map λb=>(a,b)) ++ (ks.take j).map (λb=>(a,b)),p.1∈ks∧p.2∈ks:=λ{i j a} ha p hp=>by
  rcases UB.mp hp with hp | hp
  ·obtain ⟨x,hx,hp⟩:=VL.mp hp
   obtain ⟨y,hy,rfl⟩:=Uu.mp hp
   exact ⟨U9 hx,hy⟩
  ·obtain ⟨y,hy,rfl⟩:=Uu.mp hp
   exact ⟨ha,U9 hy⟩
 obtain ⟨Inv,hInv⟩:∃Inv:Nat→Sr→Hq→Prop,∀i τ J',Inv i τ J'↔∃(u4 u5 u6 u7 u8 u9 u10 u11 u12 u13:Option PV),τ=[some (.ref D),some (fr t),some (fr m),some (.ref r),u4,u5,u6,u7,u8,u9,u10,u11,u12,u13]∧J'=put J r (.lst ((cb t (bZ t m) ((ks.take i).flatMap λa=>ks.map λb=>(a,b))).map aO.v))∧(cb t (bZ t m) ((ks.take i).flatMap λa=>ks.map λb=>(a,b))).length≤20 * i:=⟨_,λ_ _ _=>Iff.rfl⟩
 refine ed Inv ((hInv _ _ _).mpr ⟨_,_,_,_,_,_,_,_,_,_,rfl,rfl,UC _⟩) (λi τ J' h=>?_) ?_ ?_
 ·obtain ⟨_,_,_,_,_,_,_,_,_,_,_,rfl,_⟩:=(hInv _ _ _).mp h
  rw [aq nDr];exact hD
 ·intro i x τ J' hx hv
  obtain ⟨u4,u5,u6,u7,u8,u9,u10,u11,u12,u13,rfl,rfl,hle⟩:=(hInv _ _ _).mp hv
  clear hv
  have hi:i < fs.length:=by have:=(Uv.mp hx).1;simpa using this
  rw [Uw,Ut hi] at hx
  cases hx
  have ha:=hkm i hi
  rcases hfi:fs[i] with ⟨n,l⟩
  have hmem:(n,l)∈fs:=by rw [← hfi];exact UP hi
  rw [hfi] at ha
  have hvn:fA (bB fs) n=some l.V:=dX (f:=aM.V) hnd hmem
  have sll:=sl _ hmem
  have sla:=sll.jQ st
  simp_all! [aq nDr,hD,hvn]
  refine ⟨l,t,rfl,sll.m.mono (by decide),sll.p.mono (by decide),st.mono (by decide),sll.v,?_⟩
  simp_all! [aq nDr,hD,hkv]
  have hak:key t (n,l)∈ks:=Uz ha
  have eio:((ks.take (i + 1)).flatMap λa=>ks.map λb=>(a,b))=((ks.take i).flatMap λa=>ks.map λb=>(a,b)) ++ ks.map λb=>(key t (n,l),b):=by
   rw [UN,ha,List.flatMap_append];simp
  obtain ⟨In2,hIn2⟩:∃In2:Nat→Sr→Hq→Prop,∀j τ J',In2 j τ J'↔∃(u6 u7 u8 u9 u10 u11 u12 u13:Option PV),τ=[some (.ref D),some (fr t),some (fr m),some (.ref r),some (.str n),some (fr (l.at t)),u6,u7,u8,u9,u10,u11,u12,u13]∧J'=put J r (.lst ((cb t (bZ t m) (((ks.take i).flatMap λa=>ks.map λb=>(a,b)) ++ (ks.take j).map λb=>(key t (n,l),b))).map aO.v))∧(cb t (bZ t m) (((ks.take i).flatMap λa=>ks.map λb=>(a,b)) ++ (ks.take j).map λb=>(key t (n,l),b))).length≤20 * i + j:=⟨_,λ_ _ _=>Iff.rfl⟩
  refine ed In2 ((hIn2 _ _ _).mpr ⟨_,_,_,_,_,_,_,_,rfl,by simp,by simpa using hle⟩) (λj τ J' h=>?_) ?_ ?_
  ·obtain ⟨_,_,_,_,_,_,_,_,_,rfl,_⟩:=(hIn2 _ _ _).mp h
   rw [aq nDr];exact hD
  ·intro j x τ J2 hx hv
   obtain ⟨u6,u7,u8,u9,u10,u11,u12,u13,rfl,rfl,hle2⟩:=(hIn2 _ _ _).mp hv
   clear hv
   have hj:j < fs.length:=by have:=(Uv.mp hx).1;simpa using this
   rw [Uw,Ut hj] at hx
   cases hx
   have hb:=hkm j hj
   rcases hfj:fs[j] with ⟨n',l'⟩
   have hmem':(n',l')∈fs:=by rw [← hfj];exact UP hj
   rw [hfj] at hb
   have hvn':fA (bB fs) n'=some l'.V:=dX (f:=aM.V) hnd hmem'
   have sll':=sl _ hmem'
   have sla':=sll'.jQ st
   have hbk:key t (n',l')∈ks:=Uz hb
   have ejo:ks.take (j + 1)=ks.take j ++ [key t (n',l')]:=by rw [UN,hb];rfl
   have ef2:cb t (bZ t m) (((ks.take i).flatMap λa=>ks.map λb=>(a,b)) ++ (ks.take (j + 1)).map λb=>(key t (n,l),b))=l_ t (bZ t m) (cb t (bZ t m) (((ks.take i).flatMap λa=>ks.map λb=>(a,b)) ++ (ks.take j).map λb=>(key t (n,l),b))) (key t (n,l),key t (n',l')):=by
    rw [ejo,Uy,← Wf];exact fH _ _ _ _
   have srt:=lK t (bZ t m) (((ks.take i).flatMap λa=>ks.map λb=>(a,b)) ++ (ks.take j).map λb=>(key t (n,l),b))
   have szs:=hup (pin (i:=i) (j:=j) hak)
   have hdr:dF n n' (cb t (bZ t m) (((ks.take i).flatMap λa=>ks.map λb=>(a,b)) ++ (ks.take j).map λb=>(key t (n,l),b)))=cb t (bZ t m) (((ks.take i).flatMap λa=>ks.map λb=>(a,b)) ++ (ks.take j).map λb=>(key t (n,l),b)):=by
    refine DG (p:=(key t (n,l),key t (n',l'))) (yt.of hkn λp hp=>?_) λhm=>?_
    ·rcases UB.mp hp with hp | hp
     ·exact pin hak p hp
     ·rw [UE] at hp;subst hp;exact ⟨hak,hbk⟩
    ·rcases UB.mp hm with hm | hm
     ·obtain ⟨x,hx,hp⟩:=VL.mp hm
      obtain ⟨y,hy,e⟩:=Uu.mp hp
      cases e
      exact hnew hkd ha hx
     ·obtain ⟨y,hy,e⟩:=Uu.mp hm
      have:y=key t (n',l'):=(Prod.mk.inj e).2
      subst this
      exact hnew hkd hb hy
   generalize cb t (bZ t m) (((ks.take i).flatMap λa=>ks.map λb=>(a,b)) ++ (ks.take j).map λb=>(key t (n,l),b))=rows at hle2 ef2 srt szs hdr ⊢
   have m9:bZ t m (key t (n,l),key t (n',l'))=false→∀{v6 v7 v8 v9 v10 v11 v12 v13},In2 (j + 1) [some (.ref D),some (fr t),some (fr m),some (.ref r),some (.str n),some (fr (l.at t)),v6,v7,v8,v9,v10,v11,v12,v13] (put J r (.lst (rows.map aO.v))):=λhc _ _ _ _ _ _ _ _=>by
    have e:l_ t (bZ t m) rows (key t (n,l),key t (n',l'))=rows:=by unfold l_;rw [if_neg (by rw [hc];decide)]
    exact (hIn2 _ _ _).mpr ⟨_,_,_,_,_,_,_,_,rfl,by rw [ef2,e],by rw [ef2,e];omega⟩
   simp_all! [aq nDr,hD,hvn,hvn',iu]
   refine ⟨l',t,rfl,sll'.m.mono (by decide),sll'.p.mono (by decide),st.mono (by decide),sll'.v,?_⟩
   simp_all! [lZ]
   refine ⟨.of sla'.num sla.den,.of sla.num sla'.den,?_⟩
   try (refine hNq _ _ ?_;clear hNq Nq;simp_all! [lZ])
   by_cases c1n:¬ 0 < l.v - l'.v
   ·rw [if_neg c1n]
    exact m9 (decide_eq_false (λz=>by have:l'.v < l.v:=z.1;omega))
   have c1:=Decidable.not_not.mp c1n
   rw [if_pos c1]
   by_cases c2n:¬ l.at t < l'.at t
   ·rw [if_neg c2n]
    exact m9 (decide_eq_false (λz=>c2n z.2.1))
   have c2:=Decidable.not_not.mp c2n
   rw [if_pos c2]
   have bv:Bd 70 (l.v - l'.v):=(sll.v.sub (k:=66) sll'.v).mono (by decide)
   obtain ⟨z1,z2,z3,z4⟩:=C9 st sla sla' bv c1
   have ew:t + (l'.at t - l.at t) / ((l.v - l'.v:Int):Rat)=fh t (key t (n,l)) (key t (n',l')):=rfl
   have hd:0 < (t.den:Int) * (((l.at t).den:Int) * ((l'.at t).den:Int) * (l.v - l'.v)):=Int.mul_pos (cP _) (Int.mul_pos (Int.mul_pos (cP _) (cP _)) c1)
   simp_all! []
   refine ⟨.of sla.den sla'.den,.of (Bd.mul (k:=1580) sla.den sla'.den) bv,?_⟩
   simp_all! [fQ]
   refine ⟨.of st.num z1,.of z2 st.den,.of st.den z1,hd,z3.mono (by decide),?_⟩
   rw [rp c1,ew]
   rw [ew] at z4
   have hcp:∀b:Bool,bZ t m (key t (n,l),key t (n',l'))=b↔decide (fh t (key t (n,l)) (key t (n',l'))≤m)=b:=λb=>by
    have:bZ t m (key t (n,l),key t (n',l'))=decide (fh t (key t (n,l)) (key t (n',l'))≤m):=decide_eq_decide.mpr ⟨λz=>z.2.2,λz=>⟨by show l'.v < l.v;omega,c2,z⟩⟩
    rw [this]
   have eput:l_ t (bZ t m) rows (key t (n,l),key t (n',l'))=if bZ t m (key t (n,l),key t (n',l'))=true then kq ⟨fh t (key t (n,l)) (key t (n',l')),n,n'⟩ rows else rows:=by
    unfold l_
    split
    ·show kq _ (dF n n' rows)=_;rw [hdr];rfl
    ·rfl
   generalize fh t (key t (n,l)) (key t (n',l'))=wh at z4 hcp eput ⊢
   simp_all! [Lg]
   obtain ⟨row,hrow⟩:∃row:aO,aO.mk wh n n'=row:=⟨_,rfl⟩
   have erm:row.m=wh:=by rw [← hrow]
   rw [hrow] at eput ⊢
   refine vf (V:=aO.v) (lt:=aO.lt) (ys:=rows) (b:=row) (iO:=3) (iA:=13) (iR:=12) rfl rfl rfl (by decide) (by decide) av (λx hx R hR=>.inr ⟨x,row,rfl,szs x hx,by rw [erm];exact z4,hR⟩) (λhx hy h k=>zM srt hx hy h k) λh hj hlow hhigh=>?_
   have cle:(wh.num * (m.den:Int)≤m.num * (wh.den:Int))=(wh≤m):=propext (Rat.le_iff wh m).symm
   have stop:¬ wh≤m→bZ t m (key t (n,l),key t (n',l'))=false:=λz=>(hcp false).mpr (decide_eq_false z)
   simp_all! [av,cle]
   refine ⟨.of z4.num sm.den,.of sm.num z4.den,?_⟩
   by_cases c6:wh≤m
   ·rw [if_pos c6]
    rw [if_pos ((hcp true).mpr (decide_eq_true c6))] at eput
    simp_all! [av]
    refine ⟨_,h,rfl,rfl,by rw [Us];exact hj,a7 (by rw [Us];omega),by omega,?_⟩
    rw [cm]
    refine (hIn2 _ _ _).mpr ⟨_,_,_,_,_,_,_,_,rfl,?_,by rw [ef2,eput,r_];omega⟩
    rw [ef2,eput,← B8 hj hlow hhigh,Uy,UA,Vj,V4]
   ·rw [if_neg c6]
    exact m9 (stop c6)
  ·intro τ J2 hv
   obtain ⟨u6,u7,u8,u9,u10,u11,u12,u13,rfl,rfl,hle2⟩:=(hIn2 _ _ _).mp hv
   rw [Us,← hkl,UQ,← eio] at hle2 ⊢
   exact (hInv _ _ _).mpr ⟨_,_,_,_,_,_,_,_,_,_,rfl,rfl,by omega⟩
 ·intro τ J' hv
  obtain ⟨u4,u5,u6,u7,u8,u9,u10,u11,u12,u13,rfl,rfl,hle⟩:=(hInv _ _ _).mp hv
  rw [Us,← hkl,UQ,yx hkn,← hks]
  simp_all! []
  exact Fg.pf (fZ hr') av hr' q
theorem b_.Fc {L:Ln} (ok:b_ L):L.fs.length≤12:=by
 have:=ok.rl
 rw [ok.row,sG] at this;exact this
def OC (t:Rat) (fs gs:List (Str × aM)):Prop:=∀x,x∈fs.map (key t)↔x∈gs.map (key t)
def yf:List aM→Prop
 | a :: b :: r=>b.p=a.at b.m∧yf (b :: r)
 | _=>True
theorem lF:∀(ls:List aM) (l:aM),yf (ls ++ [l])↔yf ls∧∀k,ls.getLast?=some k→l.p=k.at l.m
 | [],l=>⟨λ_=>⟨trivial,λk h=>nomatch h⟩,λ_=>trivial⟩
 | [a],l=>⟨λh=>⟨trivial,λk e=>by cases e;exact h.1⟩,λh=>⟨h.2 a rfl,trivial⟩⟩
 | a :: b :: r,l=>by
  have ih:=lF (b :: r) l
  show (b.p=a.at b.m∧yf ((b :: r) ++ [l]))↔_
  rw [ih,List.getLast?_cons_cons]
  constructor
  ·rintro ⟨h1,h2,h3⟩;exact ⟨⟨h1,h2⟩,h3⟩
  ·rintro ⟨⟨h1,h2⟩,h3⟩;exact ⟨h1,h2,h3⟩
def gI (l l':aM):Prop:=l.v=l'.v∧∀t,l.at t=l'.at t
theorem gI.key {l l':aM} (h:gI l l') (n:Str) (t:Rat):key t (n,l)=key t (n,l'):=by unfold Ov.key;simp only;rw [h.1,h.2 t]
theorem Iq (l:aM):l.at l.m=l.p:=by unfold aM.at;grind
theorem CF {l l':aM} {t:Rat} (hv:l.v=l'.v) (h:l.at t=l'.at t):gI l l':=⟨hv,λs=>by
 unfold aM.at at h ⊢
 rw [hv] at h ⊢
 generalize (l'.v:Rat)=x at h ⊢
 grind⟩
theorem ly {rows:List aM} {t:Rat} {v:Int} (h:yf rows) (ne:rows≠[]):yf (turned rows t v)∧∀l,rows.getLast?=some l→∀l',(turned rows t v).getLast?=some l'→gI ⟨t,l.at t,v⟩ l':=by
 obtain ⟨ls,l,rfl⟩:∃ls l,rows=ls ++ [l]:=⟨rows.dropLast,rows.getLast ne,(U6 ne).symm⟩
 obtain ⟨h1,h2⟩:=(lF ls l).mp h
 have new:∀{q:List aM},(q ++ [aM.mk t (l.at t) v]).getLast?=some (aM.mk t (l.at t) v):=λ{q}=>UX ..
 rw [iE]
 simp only [UX,Option.some.injEq]
 split
 ·rename_i e
  have el:l.at t=l.p:=by rw [← e];exact Iq l
  split
  ·rename_i ev
   refine ⟨h1,λl0 h0 l' h'=>?_⟩
   subst h0
   rw [h'] at ev
   have hv:l'.v=v:=Option.some.inj ev
   have hp:=h2 l' h'
   rw [e] at hp
   refine CF (t:=t) hv.symm ?_
   show l.at t + (t - t) * (v:Rat)=_
   rw [← hp,el];grind
  ·refine ⟨(lF _ _).mpr ⟨h1,λk hk=>?_⟩,λl0 h0 l' h'=>?_⟩
   ·show l.at t=k.at t
    rw [el,h2 k hk,e]
   ·subst h0
    rw [new] at h';cases h';exact ⟨rfl,λ_=>rfl⟩
 ·split
  ·rename_i ev
   refine ⟨h,λl0 h0 l' h'=>?_⟩
   subst h0
   rw [UX] at h';cases h'
   refine CF (t:=t) ev.symm ?_
   show l.at t + (t - t) * (v:Rat)=_
   grind
  ·refine ⟨(lF _ _).mpr ⟨h,λk hk=>?_⟩,λl0 h0 l' h'=>?_⟩
   ·rw [UX] at hk;cases hk;rfl
   ·subst h0
    rw [new] at h';cases h';exact ⟨rfl,λ_=>rfl⟩
structure Rl (L:Ln) (gs:List (Str × aM)):Prop where
 nm:gs.map (·.1)=L.fs.map (·.1)
 ln:∀n l l',(n,l)∈gs→(n,l')∈L.fs→gI l l'
 ck:∀x∈gs,tY x.2
 le:∀x∈gs,x.2.m≤L.t
 ct:∀c∈L.cs,yf c.w
theorem Rl.same {L:Ln} {gs:List (Str × aM)} (h:Rl L gs) (t:Rat):OC t L.fs gs:=λx=>by
 have other:∀{as bs:List (Str × aM)},as.map (·.1)=bs.map (·.1)→∀{n l},(n,l)∈as→∃l',(n,l')∈bs:=λ{as bs} e {n l} hm=>by
  have:n∈bs.map (·.1):=by rw [← e];exact Uu.mpr ⟨_,hm,rfl⟩
  obtain ⟨y,hy,e'⟩:=Uu.mp this
  exact ⟨y.2,by rw [← e'];exact hy⟩
 rw [Uu,Uu]
 constructor
 ·rintro ⟨⟨n,l⟩,hm,rfl⟩
  obtain ⟨l',hl'⟩:=other h.nm.symm hm
  exact ⟨(n,l'),hl',(h.ln n l' l hl' hm).key n t⟩
 ·rintro ⟨⟨n,l⟩,hm,rfl⟩
  obtain ⟨l',hl'⟩:=other h.nm hm
  exact ⟨(n,l'),hl',((h.ln n l l' hm hl').key n t).symm⟩
theorem Rl.sz {L:Ln} {gs:List (Str × aM)} (h:Rl L gs):∀x∈gs,jt 240 x.2:=λx hx=>by
 have hk:=h.ck x hx
 exact ⟨hk.TX.mono (by decide),hk.Oh.mono (by decide),.small (by have:=hk.v;omega) (by have:=hk.v;omega)⟩
theorem Rl.nd {L:Ln} {gs:List (Str × aM)} (h:Rl L gs) (ok:a_ L):(gs.map (·.1)).Nodup:=by rw [h.nm];exact ok.Kr
theorem Rl.len {L:Ln} {gs:List (Str × aM)} (h:Rl L gs):gs.length=L.fs.length:=by have:=congrArg Vp h.nm;rw [Us,Us] at this;exact this
theorem GF {fs:List (Str × aM)} {n:Str} {l:aM} (hm:n∈fs.map (·.1)):lR (bB fs) n l.V=bB (fs.map λx=>if x.1=n then (x.1,l) else x):=by
 unfold lR bB
 rw [if_pos,Ux,Ux]
 ·refine UK λx _=>?_
  show (if x.1=n then (x.1,l.V) else (x.1,x.2.V))=_
  show _=((if x.1=n then (x.1,l) else x).1,(if x.1=n then (x.1,l) else x).2.V)
  split <;> rfl
 ·obtain ⟨x,hx,e⟩:=Uu.mp hm
  rw [V3]
  exact ⟨(x.1,x.2.V),Uu.mpr ⟨x,hx,rfl⟩,decide_eq_true e⟩
def vI (n:Str) (t:Rat) (v:Int) (gs:List (Str × aM)):List (Str × aM):=gs.map λx=>if x.1=n then (x.1,⟨t,x.2.at t,v⟩) else x
def j9 (t:Rat) (gs:List (Str × aM)):List (Str × aM):=gs.map λx=>(x.1,⟨t,x.2.at t,-x.2.v⟩)
theorem Fh {L:Ln} {f:Cf→Cf} (hn:∀c,(f c).n=c.n∧(f c).a=c.a∧(f c).r=c.r∧(f c).g=c.g) {L':Ln} (e:L'.cs=L.cs.map f):L'.fs=L.Cq.map λc=>(c.n,(f c).cur):=by
 unfold Ln.fs Ln.Cq
 rw [e,U2,Ux]
 have e1:(λc:Cf=>c.g.isNone) ∘ f=λc=>c.g.isNone:=by funext c;show (f c).g.isNone=_;rw [(hn c).2.2.2]
 rw [e1]
 exact UK λc _=>by show ((f c).n,(f c).cur)=_;rw [(hn c).1]
theorem yC {c:Cf} {t:Rat} {v:Int} (h:yf c.w) (ne:c.w≠[]):gI ⟨t,c.cur.at t,v⟩ (c.turn t v).cur:=by
 have h1:=(Cf.ip ne).1
 have h2:=(Cf.ip (c:=c.turn t v) (vJ ne)).1
 exact (ly h ne).2 _ h1 _ h2
theorem gI.turn {l l':aM} (h:gI l l') (t:Rat) (v:Int):gI ⟨t,l.at t,v⟩ ⟨t,l'.at t,v⟩:=by rw [h.2 t];exact ⟨rfl,λ_=>rfl⟩
theorem gI.trans {l l' l'':aM} (h:gI l l') (k:gI l' l''):gI l l'':=⟨h.1.trans k.1,λt=>(h.2 t).trans (k.2 t)⟩
theorem Rl.turn {L L':Ln} {gs:List (Str × aM)} (h:Rl L gs) (ok:a_ L) {n:Str} {v:Int} (hv:v.natAbs≤1000) (e:L'.cs=L.cs.map (dh n L.t v)) (et:L'.t=L.t):Rl L' (vI n L.t v gs):=by
 have hn:=gE n L.t v
 have hfs:=Fh hn e
 have nm:(vI n L.t v gs).map (·.1)=gs.map (·.1):=by
  unfold vI;rw [Ux];exact UK λx _=>by show (if x.1=n then (x.1,_) else x).1=x.1;split <;> rfl
 refine ⟨?_,?_,?_,?_,?_⟩
 ·rw [nm,h.nm,hfs];unfold Ln.fs;rw [Ux,Ux];rfl
 ·intro m l l' hl hl'
  obtain ⟨x,hx,ex⟩:=Uu.mp hl
  rw [hfs] at hl'
  obtain ⟨c,hc,ec⟩:=Uu.mp hl'
  have hcs:=(Ln.cW.mp hc).1
  have hold:(c.n,c.cur)∈L.fs:=Uu.mpr ⟨c,hc,rfl⟩
  cases ec
  by_cases z:x.1=n
  ·rw [if_pos z] at ex
   have ex1:x.1=c.n:=(Prod.mk.inj ex).1
   have ex2:aM.mk L.t (x.2.at L.t) v=l:=(Prod.mk.inj ex).2
   subst ex2
   have hs:=h.ln x.1 x.2 c.cur hx (by rw [ex1];exact hold)
   have zc:c.n=n:=by rw [← z];exact ex1.symm
   unfold dh
   rw [if_pos zc]
   exact (hs.turn L.t v).trans (yC (h.ct c hcs) (ok.ne c hcs))
  ·rw [if_neg z] at ex
   subst ex
   have zc:¬ c.n=n:=z
   unfold dh
   rw [if_neg zc]
   exact h.ln c.n l c.cur hx hold
 ·intro x hx
  obtain ⟨y,hy,rfl⟩:=Uu.mp hx
  split
  ·exact (h.ck y hy).at (h.le y hy) ok.ts hv
  ·exact h.ck y hy
 ·intro x hx
  rw [et]
  obtain ⟨y,hy,rfl⟩:=Uu.mp hx
  split
  ·exact Rat.le_refl
  ·exact h.le y hy
 ·intro c hc
  rw [e] at hc
  obtain ⟨c0,h0,rfl⟩:=Uu.mp hc
  unfold dh
  split
  ·exact (ly (h.ct c0 h0) (ok.ne c0 h0)).1
  ·exact h.ct c0 h0
theorem j8 (t:Rat) (c:Cf):(eS t c).n=c.n∧(eS t c).a=c.a∧(eS t c).r=c.r∧(eS t c).g=c.g:=by unfold eS;split <;> exact ⟨rfl,rfl,rfl,rfl⟩
theorem Rl.about {L L':Ln} {gs:List (Str × aM)} (h:Rl L gs) (ok:a_ L) (e:L'.cs=L.cs.map (eS L.t)) (et:L'.t=L.t):Rl L' (j9 L.t gs):=by
 have hn:=j8 L.t
 have hfs:=Fh hn e
 have nm:(j9 L.t gs).map (·.1)=gs.map (·.1):=by
  unfold j9;rw [Ux];rfl
 refine ⟨?_,?_,?_,?_,?_⟩
 ·rw [nm,h.nm,hfs];unfold Ln.fs;rw [Ux,Ux];rfl
 ·intro m l l' hl hl'
  obtain ⟨x,hx,ex⟩:=Uu.mp hl
  rw [hfs] at hl'
  obtain ⟨c,hc,ec⟩:=Uu.mp hl'
  have hcs:=Ln.cW.mp hc
  have hold:(c.n,c.cur)∈L.fs:=Uu.mpr ⟨c,hc,rfl⟩
  cases ec
  obtain ⟨xn,xl⟩:=x
  cases ex
  have hs:=h.ln c.n xl c.cur hx hold
  have ea:eS L.t c=c.turn L.t (-c.cur.v):=by unfold eS;rw [if_pos (by rw [hcs.2];rfl)]
  rw [ea,hs.1]
  exact (hs.turn L.t _).trans (yC (h.ct c hcs.1) (ok.ne c hcs.1))
 ·intro x hx
  obtain ⟨y,hy,rfl⟩:=Uu.mp hx
  exact (h.ck y hy).at (h.le y hy) ok.ts (by have:=(h.ck y hy).v;omega)
 ·intro x hx
  rw [et]
  obtain ⟨y,hy,rfl⟩:=Uu.mp hx
  exact Rat.le_refl
 ·intro c hc
  rw [e] at hc
  obtain ⟨c0,h0,rfl⟩:=Uu.mp hc
  unfold eS
  split
  ·exact (ly (h.ct c0 h0) (ok.ne c0 h0)).1
  ·exact h.ct c0 h0
theorem Rl.join {L L':Ln} {gs:List (Str × aM)} (h:Rl L gs) (ok':a_ L') {n:Str} {x v:Int} (hv:v.natAbs≤1000) (hx:x.natAbs≤1000000) (j:L.joined n x v L') (t0:0≤L.t) (ts:Sc iF MM L.t) (hnew:n ∉ L.fs.map (·.1)):Rl L' (gs ++ [(n,⟨L.t,(x:Rat),v⟩)]):=by
 obtain ⟨a,r,ecs,et⟩:=j
 have efs:L'.fs=L.fs ++ [(n,⟨L.t,(x:Rat),v⟩)]:=B2 L ecs rfl
 refine ⟨?_,?_,?_,?_,?_⟩
 ·rw [efs,Uy,Uy,h.nm]
 ·intro m l l' hl hl'
  rw [efs] at hl'
  have h1:∀{k},(n,k)∈gs→False:=λhk=>hnew (by rw [← h.nm];exact Uu.mpr ⟨_,hk,rfl⟩)
  have h2:∀{k},(n,k)∈L.fs→False:=λhk=>hnew (Uu.mpr ⟨_,hk,rfl⟩)
  rcases UB.mp hl with hl | hl <;> rcases UB.mp hl' with hl' | hl'
  ·exact h.ln m l l' hl hl'
  ·rw [UE] at hl';cases hl';exact (h1 hl).elim
  ·rw [UE] at hl;cases hl;exact (h2 hl').elim
  ·rw [UE] at hl hl';cases hl;cases hl';exact ⟨rfl,λ_=>rfl⟩
 ·intro y hy
  rcases UB.mp hy with hy | hy
  ·exact h.ck y hy
  ·rw [UE] at hy;subst hy;exact tY.new t0 ts hx hv
 ·intro y hy
  rw [et]
  rcases UB.mp hy with hy | hy
  ·exact h.le y hy
  ·rw [UE] at hy;subst hy;exact Rat.le_refl
 ·intro c hc
  rw [ecs] at hc
  rcases UB.mp hc with hc | hc
  ·exact h.ct c hc
  ·rw [UE] at hc;subst hc;exact trivial
def pv (n:Str) (gs:List (Str × aM)):List (Str × aM):=gs.filter λx=>decide (x.1≠n)
theorem Rl.leave {L L':Ln} {gs:List (Str × aM)} (h:Rl L gs) {n:Str} (e:L'.cs=L.cs.map (bL n L.t)) (et:L'.t=L.t):Rl L' (pv n gs):=by
 have hfs:L'.fs=L.fs.filter λx=>decide (x.1≠n):=yP e
 have hf:∀l:List (Str × aM),(l.filter λx=>decide (x.1≠n)).map (·.1)=(l.map (·.1)).filter λy=>decide (y≠n):=λl=>by rw [U2];rfl
 refine ⟨?_,?_,?_,?_,?_⟩
 ·unfold pv;rw [hf,hfs,hf,h.nm]
 ·intro m l l' hl hl'
  rw [hfs] at hl'
  exact h.ln m l l' (UI.mp hl).1 (UI.mp hl').1
 ·intro x hx;exact h.ck x (UI.mp hx).1
 ·intro x hx;rw [et];exact h.le x (UI.mp hx).1
 ·intro c hc
  rw [e] at hc
  obtain ⟨c0,h0,rfl⟩:=Uu.mp hc
  rw [(dM n L.t c0).2.2.2];exact h.ct c0 h0
abbrev xA:Stmt:=(top 61)
abbrev mn:List Str:=["_law_legs","_law_clock","_law_deed_here"]
theorem zx:L2.aw ["_law_legs","_law_clock","_law_deed_here","_law_name"] ["_law_legs","_law_clock","_law_deed_here"] (L2.au xA):=dt
def fE (n:Str) (x v:Int):PV:=.tup [.str "join",.str n,.int x,.int v]
def ib (n:Str) (v:Int):PV:=.tup [.str "turn",.str n,.int v]
def gJ:PV:=.tup [.str "about"]
def gd (n:Str):PV:=.tup [.str "leave",.str n]
def Kt (m:Rat):PV:=.tup [.str "go",fr m]
def CI:cq:=λxs J Q _=>∃(D:Addr) (gs:List (Str × aM)) (ep:Nat) (t:Rat) (dv:PV),xs=[.ref D,fr t,dv]∧J D=some (.dct (bB gs) ep)∧(gs.map (·.1)).Nodup∧gs.length≤100∧Sz 900 t∧(∀x∈gs,jt 900 x.2) ∧
 ((∃n x v,dv=fE n x v∧n ∉ gs.map (·.1)∧∀ep',Q (fr t) (put J D (.dct (bB (gs ++ [(n,⟨t,(x:Rat),v⟩)])) ep'))) ∨
  (∃n v,dv=ib n v∧n∈gs.map (·.1)∧∀ep',Q (fr t) (put J D (.dct (bB (vI n t v gs)) ep'))) ∨
  (dv=gJ∧∀ep',Q (fr t) (put J D (.dct (bB (j9 t gs)) ep'))) ∨
  (∃n,dv=gd n∧n∈gs.map (·.1)∧∀ep',Q (fr t) (put J D (.dct (bB (pv n gs)) ep'))) ∨
  (∃m,dv=Kt m∧Q (fr m) J))
theorem Lc:(("join":Str)="go")=False:=eq_false (by decide +kernel)
theorem Le:(("turn":Str)="go")=False:=eq_false (by decide +kernel)
theorem Lb:(("about":Str)="go")=False:=eq_false (by decide +kernel)
theorem L9 {c:me} {a u:i8} {D:En} {τ:Sr} {J:Hq} (hc:∀R:Bool→Hq→Prop,R false J→c τ J R) (hu:u D τ J):qJ (Eo c a vt) u D τ J :=
 ⟨λτ' J'=>τ'=τ∧J'=J,hc _ (by rw [if_neg (by decide)];exact ⟨rfl,rfl⟩),λτ' J' h=>by obtain ⟨rfl,rfl⟩:=h;exact hu⟩
theorem eJ {c:me} {a u:i8} {D:En} {τ:Sr} {J:Hq} (M:Sr→Hq→Prop) (hc:∀R:Bool→Hq→Prop,R true J→c τ J R) (ha:a { D with nx:=M } τ J) (hu:∀τ' J',M τ' J'→u D τ' J'):qJ (Eo c a vt) u D τ J :=
 ⟨M,hc _ (by rw [if_pos rfl];exact ha),hu⟩
theorem C_ {x y:Str} {i:Nat} {dv:PV} {τ:Sr} {J:Hq} (h:τ[i]?=some (some dv)) (h0:fz J dv (.int 0)=some (.str x)) (R:Bool→Hq→Prop) (hr:R (decide (x=y)) J):rB (Bf (Nc id) (Bf Oi (sT i) (rC (.int 0))) (rC (.str y))) τ J R :=
 MK h (fi h0 ⟨⟨rfl,by simp [gy,dep]⟩,rfl,AL rfl (by rw [eq_str];exact hr)⟩)
theorem cE {x y:Str} {i:Nat} {dv:PV} {τ:Sr} {J:Hq} {a u:i8} {D:En} (h:τ[i]?=some (some dv)) (h0:fz J dv (.int 0)=some (.str x)) (n:decide (x=y)=false) (hu:u D τ J):qJ (Eo (rB (Bf (Nc id) (Bf Oi (sT i) (rC (.int 0))) (rC (.str y)))) a vt) u D τ J:=L9 (λR hr'=>C_ h h0 R (by rw [n];exact hr')) hu
theorem qC {x:Str} {i:Nat} {dv:PV} {τ:Sr} {J:Hq} (h:τ[i]?=some (some dv)) (h0:fz J dv (.int 0)=some (.str x)) (R:Bool→Hq→Prop) (hr:R true J):rB (Bf (Nc id) (Bf Oi (sT i) (rC (.int 0))) (rC (.str x))) τ J R:=C_ h h0 R (by rw [decide_eq_true rfl];exact hr)
def fG (t:Rat) (gs:List (Str × aM)) (i:Nat):List (Str × aM):=j9 t (gs.take i) ++ gs.drop i
theorem uR (t:Rat) (gs:List (Str × aM)) (i:Nat):(fG t gs i).map (·.1)=gs.map (·.1):=by
 unfold fG j9
 rw [Uy,Ux]
 have:((gs.take i).map ((λx:Str × aM=>x.1) ∘ λx=>(x.1,(⟨t,x.2.at t,-x.2.v⟩:aM))))=(gs.take i).map (·.1):=UK λ_ _=>rfl
 rw [this,← Uy,V1]
theorem yw (t:Rat) (gs:List (Str × aM)) (hnd:(gs.map (·.1)).Nodup) (i:Nat) (h:i < gs.length):(fG t gs i).map (λx=>if x.1=gs[i].1 then (x.1,(⟨t,gs[i].2.at t,-gs[i].2.v⟩:aM)) else x)=fG t gs (i + 1):=by
 have hd:gs.drop i=gs[i] :: gs.drop (i + 1):=VI h
 have ht:gs.take (i + 1)=gs.take i ++ [gs[i]]:=by rw [UN,Ut h];rfl
 have hn2:(gs.map (·.1))=(gs.take i).map (·.1) ++ (gs[i].1 :: (gs.drop (i + 1)).map (·.1)):=by
  rw [← UA (f:=λx:Str × aM=>x.1),← hd,← Uy,V1]
 rw [hn2,Vg] at hnd
 unfold fG j9
 rw [hd,ht,Uy,Uy,UA,if_pos rfl,Wf]
 congr 1
 ·rw [Ux]
  refine UK λx hx=>?_
  show (if x.1=gs[i].1 then _ else _)=_
  rw [if_neg (hnd.2.2 x.1 (Uu.mpr ⟨x,hx,rfl⟩) gs[i].1 (by simp))]
 ·show _ :: _=_ :: _
  congr 1
  have hno:=(Vu.mp hnd.2.1).1
  have:∀x∈gs.drop (i + 1),(if x.1=gs[i].1 then (x.1,(⟨t,gs[i].2.at t,-gs[i].2.v⟩:aM)) else x)=x:=λx hx=>if_neg λz=>hno (by rw [← z];exact Uu.mpr ⟨x,hx,rfl⟩)
  rw [UK this,Wa]
  rfl
theorem Ld:(("leave":Str)="go")=False:=eq_false (by decide +kernel)
theorem D4 {f:Addr} {fd:FuncData} (F:bU K "_law_acted" "_law_acted" xA f fd) (Z:bE mg) (i5:bj P w K mg base 2 "_law_at" dj h_):aS P w K mg base (cn P w) 3 f fd mn (cK K CI):=by
 simp_arith [zx,(cx (aP (aE (cj hr.aQ) (aj ar (rv 2) ag) bJ) (ak (iT gD (rv 0) (aj ar (rv 2) ag) (bY (af (rv 1) (af (bY (af (aj ar (rv 2) ag) (af ag ah))) (af (aj ar (rv 2) ag) ah)))))) aH)
   (cx (aP (aE (cj hr.aQ) (aj ar (rv 2) ag) bJ) (ak (bA (gr PySem.F.plainAttrs_dict PySem.F.slot_dict_pop PySem.F.type_dict_pop IT (rv 0) (af (aj ar (rv 2) ag) ah)))) aH)
   (cx (aP (aE (cj hr.aQ) (aj ar (rv 2) ag) bJ) (ak (iT gD (rv 0) (aj ar (rv 2) ag) (bY (af (rv 1) (af (aL i5 B hr (af (aj bI (rv 0) (aj ar (rv 2) ag)) (af (rv 1) ah))) (af (aj ar (rv 2) ag) ah)))))) aH)
   (cx (aP (aE (cj hr.aQ) (aj ar (rv 2) ag) bJ) (ak (cR bG rfl (d7 (c8 (kg rfl) rfl Z.list boot_list (af (rv 0) ah))) (bC (i:=3) zx.nd) (ak (iT gD (rv 0) (rv 3) (bY (af (rv 1) (af (aL i5 B hr (af (aj bI (rv 0) (rv 3)) (af (rv 1) ah))) (af (oG jP (aj ar (aj bI (rv 0) (rv 3)) ag)) ah)))))))) aH)
   (ai (aP (aE (cj hr.aQ) (aj ar (rv 2) ag) bJ) (ak (az (aj ar (rv 2) ag))) aH)
   (ak (az (rv 1))))))))]
 ·obtain ⟨D,gs,ep,t,dv,rfl,_⟩:=h;rfl
 obtain ⟨D,gs,ep,t,dv,rfl,hD,hnd,hlen,st,sl,h⟩:=h
 refine hX ?_
 rcases h with ⟨n,x,v,rfl,hn,q⟩ | ⟨n,v,rfl,hn,q⟩ | ⟨rfl,q⟩ | ⟨n,rfl,hn,q⟩ | ⟨m,rfl,q⟩
 ·have i0:∀J,fz J (fE n x v) (.int 0)=some (.str "join"):=λJ=>de _ _
  have i1:∀J,fz J (fE n x v) (.int 1)=some (.str n):=λJ=>fU _ _ _
  have i2:∀J,fz J (fE n x v) (.int 2)=some (.int x):=λJ=>j_ _ _ _ _
  have i3:∀J,fz J (fE n x v) (.int 3)=some (.int v):=λJ=>rfl
  refine eJ (λτ' J'=>∃ep',τ'=[some (.ref D),some (fr t),some (fE n x v),none]∧J'=put J D (.dct (bB (gs ++ [(n,⟨t,(x:Rat),v⟩)])) ep')) (qC rfl (i0 _)) ?_ ?_
  ·simp_all! [i1,i2,i3,hD,Ff,tV]
   refine ⟨a7 (by unfold bB;rw [Us];omega),λep'=>⟨ep',?_⟩⟩
   have epu:lR (bB gs) n (aM.mk t (x:Rat) v).V=bB (gs ++ [(n,⟨t,(x:Rat),v⟩)]):=mR (f:=aM.V) (l:=⟨t,(x:Rat),v⟩) hn
   rw [epu]
  rintro τ' J' ⟨ep',rfl,rfl⟩
  refine cE rfl (i0 _) (by decide +kernel) ?_
  refine cE rfl (i0 _) (by decide +kernel) ?_
  refine cE rfl (i0 _) (by decide +kernel) ?_
  simp_all! [i0,Lc,if_false]
  exact q ep'
 ·have i0:∀J,fz J (ib n v) (.int 0)=some (.str "turn"):=λJ=>de _ _
  have i1:∀J,fz J (ib n v) (.int 1)=some (.str n):=λJ=>fU _ _ _
  have i2:∀J,fz J (ib n v) (.int 2)=some (.int v):=λJ=>j_ _ _ _ _
  refine cE rfl (i0 _) (by decide +kernel) ?_
  refine cE rfl (i0 _) (by decide +kernel) ?_
  refine eJ (λτ' J'=>∃ep',τ'=[some (.ref D),some (fr t),some (ib n v),none]∧J'=put J D (.dct (bB (vI n t v gs)) ep')) (qC rfl (i0 _)) ?_ ?_
  ·obtain ⟨l,hl,hvl⟩:=oX (f:=aM.V) hnd hn
   have hvl:fA (bB gs) n=some l.V:=hvl
   have sll:=sl _ hl
   simp_all! [i1,i2,hD,hvl]
   refine ⟨l,t,rfl,sll.m,sll.p,st,sll.v,?_⟩
   simp_all! [i1,i2,hD,tV]
   refine ⟨a7 (by unfold bB;rw [Us];omega),λep'=>⟨ep',?_⟩⟩
   rw [GF hn]
   have:(gs.map λx=>if x.1=n then (x.1,(⟨t,l.at t,v⟩:aM)) else x)=vI n t v gs:=UK λx hx=>by
    by_cases z:x.1=n
    ·have hx':fA (bB gs) n=some x.2.V:=dX (f:=aM.V) hnd (by rw [← z];exact hx)
     rw [hvl] at hx'
     have ex:l=x.2:=by have:=Option.some.inj hx';rw [OE] at this;exact this
     rw [if_pos z,if_pos z,ex]
    ·rw [if_neg z,if_neg z]
   rw [this]
  rintro τ' J' ⟨ep',rfl,rfl⟩
  refine cE rfl (i0 _) (by decide +kernel) ?_
  simp_all! [i0,Le,if_false]
  exact q ep'
 ·have i0:∀J,fz J gJ (.int 0)=some (.str "about"):=λJ=>de _ _
  refine cE rfl (i0 _) (by decide +kernel) ?_
  refine cE rfl (i0 _) (by decide +kernel) ?_
  refine cE rfl (i0 _) (by decide +kernel) ?_
  refine eJ (λτ' J'=>∃u ep',τ'=[some (.ref D),some (fr t),some gJ,u]∧J'=put J D (.dct (bB (j9 t gs)) ep')) (qC rfl (i0 _)) ?_ ?_
  ·simp_all! [hD]
   have hkv:(bB gs).map (λkv=>PV.str kv.1)=gs.map λx=>PV.str x.1:=by unfold bB;rw [Ux];rfl
   rw [hkv]
   obtain ⟨Inv,hInv⟩:∃Inv:Nat→Sr→Hq→Prop,∀i τ J',Inv i τ J'↔∃(u:Option PV) (ep':Nat),τ=[some (.ref D),some (fr t),some gJ,u]∧J'=put J D (.dct (bB (fG t gs i)) ep'):=⟨_,λ_ _ _=>Iff.rfl⟩
   refine ed Inv ((hInv _ _ _).mpr ⟨_,ep,rfl,by show J=put J D (.dct (bB gs) ep);rw [Ba hD]⟩) (λ_ _ _ _=>trivial) ?_ ?_
   ·intro i x τ J' hx hv
    obtain ⟨u,ep',rfl,rfl⟩:=(hInv _ _ _).mp hv
    clear hv
    have hi:i < gs.length:=by have:=(Uv.mp hx).1;simpa using this
    rw [Uw,Ut hi] at hx
    cases hx
    have hnd':((fG t gs i).map (·.1)).Nodup:=by rw [uR];exact hnd
    have hmem:gs[i]∈fG t gs i:=by unfold fG;rw [VI hi];exact UB.mpr (.inr UY)
    have hva:fA (bB (fG t gs i)) gs[i].1=some gs[i].2.V:=dX (f:=aM.V) hnd' hmem
    have hstep:=yw t gs hnd i hi
    have hin:gs[i].1∈(fG t gs i).map (·.1):=Uu.mpr ⟨_,hmem,rfl⟩
    have hlen':(fG t gs i).length=gs.length:=by have:=congrArg Vp (uR t gs i);rw [Us,Us] at this;exact this
    have sll:=sl _ (UP hi)
    generalize gs[i]=y at hva hstep hin sll ⊢
    simp_all! [av,hva]
    refine ⟨y.2,t,rfl,sll.m,sll.p,st,sll.v,?_⟩
    simp_all! [av,hva,iu,tV]
    refine ⟨a7 (by unfold bB;rw [Us];omega),λep2=>(hInv _ _ _).mpr ⟨_,ep2,rfl,?_⟩⟩
    rw [cm,GF hin,hstep]
   ·intro τ J' hv
    obtain ⟨u,ep',rfl,rfl⟩:=(hInv _ _ _).mp hv
    refine ⟨u,rfl,ep',?_⟩
    rw [Us]
    unfold fG
    rw [UQ,List.drop_length,Vc]
  rintro τ' J' ⟨u,ep',rfl,rfl⟩
  simp_all! [i0,Lb,if_false]
  exact q ep'
 ·have i0:∀J,fz J (gd n) (.int 0)=some (.str "leave"):=λJ=>de _ _
  have i1:∀J,fz J (gd n) (.int 1)=some (.str n):=λJ=>fU _ _ _
  refine cE rfl (i0 _) (by decide +kernel) ?_
  refine eJ (λτ' J'=>∃ep',τ'=[some (.ref D),some (fr t),some (gd n),none]∧J'=put J D (.dct (bB (pv n gs)) ep')) (qC rfl (i0 _)) ?_ ?_
  ·obtain ⟨l,hl,hvl⟩:=oX (f:=aM.V) hnd hn
   have hvl:fA (bB gs) n=some l.V:=hvl
   simp_all! [i1,hD,hvl]
   have edr:yE (bB gs) n=bB (pv n gs):=by unfold yE bB pv;rw [U2];rfl
   intro ep'
   exact ⟨ep',by rw [edr]⟩
  rintro τ' J' ⟨ep',rfl,rfl⟩
  refine cE rfl (i0 _) (by decide +kernel) ?_
  refine cE rfl (i0 _) (by decide +kernel) ?_
  simp_all! [i0,Ld,if_false]
  exact q ep'
 ·have i0:∀J,fz J (Kt m) (.int 0)=some (.str "go"):=λJ=>de _ _
  have i1:∀J,fz J (Kt m) (.int 1)=some (fr m):=λJ=>fU _ _ _
  refine cE rfl (i0 _) (by decide +kernel) ?_
  refine cE rfl (i0 _) (by decide +kernel) ?_
  refine cE rfl (i0 _) (by decide +kernel) ?_
  refine cE rfl (i0 _) (by decide +kernel) ?_
  simp_all! [i0,i1,if_true]
  exact q
abbrev Bl:Stmt:=(top 62)
abbrev oy:List Str:=["_law_lane","_law_deed_here"]
theorem JR:L2.aw ["_law_lane","_law_deed_here"] ["_law_lane","_law_deed_here"] (L2.au Bl):=dt
def He (cN cL T:Addr):cq:=λxs J Q _=>∃p L dv,xs=[.ref p,dv]∧bh cN cL J p L∧b_ L ∧
 ((∃n x v,dv=fE n x v∧J T=some .tab∧good n=true∧Oc x v∧n ∉ L.cs.map Cf.n∧L.row.length < 12∧L.cs.length < 100∧n.length≤sizeLine∧∀J' L',bh cN cL J' p L'→b_ L'→L.joined n x v L'→Mv J J' (L.own p) (L'.own p)→Q (.fl []) J') ∨
  (∃n v,dv=ib n v∧n∈L.row∧v.natAbs≤1000∧(∀c∈L.cs,c.w.length < 200)∧∀J' L',bh cN cL J' p L'→b_ L'→L'.cs=L.cs.map (dh n L.t v)→L'.t=L.t→Mv J J' (L.own p) (L'.own p)→Q (.fl []) J') ∨
  (dv=gJ∧(∀c∈L.cs,c.w.length < 200)∧∀J' L',bh cN cL J' p L'→b_ L'→L'.cs=L.cs.map (eS L.t)→L'.t=L.t→Mv J J' (L.own p) (L'.own p)→Q (.fl []) J') ∨
  (∃n,dv=gd n∧n∈L.row∧∀J' L',bh cN cL J' p L'→b_ L'→L'.cs=L.cs.map (bL n L.t)→L'.t=L.t→Mv J J' (L.own p) (L'.own p)→Q (.fl []) J') ∨
  (∃m:Rat,dv=Kt m∧gO m.num m.den=true∧L.t≤m∧∀J' o',bh cN cL J' p { L with t:=m,o:=o',row:=cQ m L.fs }→b_ { L with t:=m,o:=o',row:=cQ m L.fs }→Mv J J' (L.own p) (Ln.own { L with t:=m,o:=o',row:=cQ m L.fs } p)→Q (.fl ((gU L.t (L.fs.map (key L.t)) m).map aO.v)) J'))
theorem F7 {cN cL T eB eF eT eU eC eM eP f:Addr} {fd:FuncData} (F:bU K "_law_done" "_law_done" Bl f fd) (Z:bE mg) (kD:bV P w K mg base cN 8 "join" og (CY cN cL T eB eF eT eU)) (jA:bV P w K mg base cN 2 "leave" ml (zI cN cL eC)) (kF:bV P w K mg base cN 8 "turn" oi (C0 cN cL eC eF)) (d3:bV P w K mg base cN 8 "about" iJ (tJ cN cL)) (d4:bV P w K mg base cN 8 "go_to" iK (Hh cN cL eM eP)):aS P w K mg base (cn P w) 9 f fd oy (cK K (He cN cL T)):=by
 simp_arith [JR,(cx (aP (aE (cj hr.aQ) (aj ar (rv 1) ag) bJ) (ak (bA (aX (pl:=_) kD B hr (rv 0) (af (aj ar (rv 1) ag) (af (aj ar (rv 1) ag) (af (aj ar (rv 1) ag) ah)))))) aH)
   (cx (aP (aE (cj hr.aQ) (aj ar (rv 1) ag) bJ) (ak (bA (aX (pl:=_) jA B hr (rv 0) (af (aj ar (rv 1) ag) ah)))) aH)
   (cx (aP (aE (cj hr.aQ) (aj ar (rv 1) ag) bJ) (ak (bA (aX (pl:=_) kF B hr (rv 0) (af (aj ar (rv 1) ag) (af (aj ar (rv 1) ag) ah))))) aH)
   (cx (aP (aE (cj hr.aQ) (aj ar (rv 1) ag) bJ) (ak (bA (dy (pl:=_) d3 B hr (rv 0)))) aH)
   (ai (aP (aE (cj hr.aQ) (aj ar (rv 1) ag) bJ) (ak (az (aX (pl:=_) d4 B hr (rv 0) (af (aj ar (rv 1) ag) ah)))) aH)
   (ak (az (qo ah))))))))]
 ·obtain ⟨p,L,dv,rfl,_⟩:=h;rfl
 obtain ⟨p,L,dv,rfl,b,ok,h⟩:=h
 have bo:=b.ob
 refine hX ?_
 rcases h with ⟨n,x,v,rfl,hT,hg,hb,hn,hr12,hc,hl,q⟩ | ⟨n,v,rfl,hn,hv,hw,q⟩ | ⟨rfl,hw,q⟩ | ⟨n,rfl,hn,q⟩ | ⟨m,rfl,hg,hm,q⟩
 ·have i0:∀J,fz J (fE n x v) (.int 0)=some (.str "join"):=λJ=>de _ _
  have i1:∀J,fz J (fE n x v) (.int 1)=some (.str n):=λJ=>fU _ _ _
  have i2:∀J,fz J (fE n x v) (.int 2)=some (.int x):=λJ=>j_ _ _ _ _
  have i3:∀J,fz J (fE n x v) (.int 3)=some (.int v):=λJ=>rfl
  refine eJ (λτ' J'=>τ'=[some (.ref p),some (fE n x v)]∧Q (.fl []) J') (qC rfl (i0 _)) ?_ ?_
  ·simp_all! [bo,i1,i2,i3]
   exact ⟨dD _ _ _ _,p,L,n,x,v,rfl,b,ok,hT,hl,hc,(λz=>by rw [hg] at z;cases z),(λ_ z=>absurd hb z),(λ_ _ z=>absurd z hn),(λ_ _ _ z=>by omega),λ_ _ _ _ J1 L1 b1 ok1 jn mv=>q J1 L1 b1 ok1 jn mv⟩
  rintro τ' J' ⟨rfl,hq⟩
  refine cE rfl (i0 _) (by decide +kernel) ?_
  refine cE rfl (i0 _) (by decide +kernel) ?_
  refine cE rfl (i0 _) (by decide +kernel) ?_
  simp_all! [i0,Lc,if_false]
  exact hq
 ·have i0:∀J,fz J (ib n v) (.int 0)=some (.str "turn"):=λJ=>de _ _
  have i1:∀J,fz J (ib n v) (.int 1)=some (.str n):=λJ=>fU _ _ _
  have i2:∀J,fz J (ib n v) (.int 2)=some (.int v):=λJ=>j_ _ _ _ _
  refine cE rfl (i0 _) (by decide +kernel) ?_
  refine cE rfl (i0 _) (by decide +kernel) ?_
  refine eJ (λτ' J'=>τ'=[some (.ref p),some (ib n v)]∧Q (.fl []) J') (qC rfl (i0 _)) ?_ ?_
  ·simp_all! [bo,i1,i2]
   exact ⟨dD _ _ _ _,p,L,n,v,rfl,b,ok,hw,λz=>absurd hn z,λ_ z=>absurd hv z,λ_ _ J1 L1 b1 ok1 e t1 mv=>q J1 L1 b1 ok1 e t1 mv⟩
  rintro τ' J' ⟨rfl,hq⟩
  refine cE rfl (i0 _) (by decide +kernel) ?_
  simp_all! [i0,Le,if_false]
  exact hq
 ·have i0:∀J,fz J gJ (.int 0)=some (.str "about"):=λJ=>de _ _
  refine cE rfl (i0 _) (by decide +kernel) ?_
  refine cE rfl (i0 _) (by decide +kernel) ?_
  refine cE rfl (i0 _) (by decide +kernel) ?_
  refine eJ (λτ' J'=>τ'=[some (.ref p),some (gJ)]∧Q (.fl []) J') (qC rfl (i0 _)) ?_ ?_
  ·simp_all! [bo]
   exact ⟨dD _ _ _ _,p,L,rfl,b,ok,hw,λJ1 L1 b1 ok1 e t1 mv=>q J1 L1 b1 ok1 e t1 mv⟩
  rintro τ' J' ⟨rfl,hq⟩
  simp_all! [i0,Lb,if_false]
  exact hq
 ·have i0:∀J,fz J (gd n) (.int 0)=some (.str "leave"):=λJ=>de _ _
  have i1:∀J,fz J (gd n) (.int 1)=some (.str n):=λJ=>fU _ _ _
  refine cE rfl (i0 _) (by decide +kernel) ?_
  refine eJ (λτ' J'=>τ'=[some (.ref p),some (gd n)]∧Q (.fl []) J') (qC rfl (i0 _)) ?_ ?_
  ·simp_all! [bo,i1]
   exact ⟨dD _ _ _ _,p,L,n,rfl,b,ok,λz=>absurd hn z,λ_ J1 L1 b1 ok1 e t1 mv=>q J1 L1 b1 ok1 e t1 mv⟩
  rintro τ' J' ⟨rfl,hq⟩
  refine cE rfl (i0 _) (by decide +kernel) ?_
  refine cE rfl (i0 _) (by decide +kernel) ?_
  simp_all! [i0,Ld,if_false]
  exact hq
 ·have i0:∀J,fz J (Kt m) (.int 0)=some (.str "go"):=λJ=>de _ _
  have i1:∀J,fz J (Kt m) (.int 1)=some (fr m):=λJ=>fU _ _ _
  refine cE rfl (i0 _) (by decide +kernel) ?_
  refine cE rfl (i0 _) (by decide +kernel) ?_
  refine cE rfl (i0 _) (by decide +kernel) ?_
  refine cE rfl (i0 _) (by decide +kernel) ?_
  simp_all! [i0,i1,if_true,bo]
  refine ⟨dD _ _ _ _,p,L,m.num,m.den,rfl,b,ok,(λz=>by rw [hg] at z;cases z),λm' e1 e2 _=>?_⟩
  obtain rfl:m'=m:=Rat.ext e1 (by omega)
  exact ⟨λz=>absurd z (Rat.not_lt.mpr hm),λ_ J1 o1 b1 ok1 mv1=>q J1 o1 b1 ok1 mv1⟩
abbrev xC:Stmt:=(top 59)
abbrev ox:List Str:=["_law_row","_law_mode","_law_names_here","_law_used","_law_legs","_law_clock"]
theorem q_:L2.aw ["_law_row","_law_mode","_law_names_here","_law_used","_law_legs","_law_clock","_law_there","_law_fresh","_law_name"] ["_law_row","_law_mode","_law_names_here","_law_used","_law_legs","_law_clock"] (L2.au xC):=dt
def LF (names used:List Str) (gs:List (Str × aM)) (t:Rat) (dv:PV):Prop :=
 (∃n x v,dv=fE n x v∧n∈names∧n ∉ used∧gs.length < 12∧x.natAbs≤1000000∧v.natAbs≤1000) ∨
 (∃n v,dv=ib n v∧n∈gs.map (·.1)∧v.natAbs≤1000)∨dv=gJ∨(∃n,dv=gd n∧n∈gs.map (·.1))∨∃m,dv=Kt m∧Later t m
def Hd:cq:=λxs J Q _=>∃(r0 r1 r2 r3 r4 r5 r6 r7 r8 m:Int) (names used:List Str) (U D:Addr) (gs:List (Str × aM)) (ep:Nat) (t:Rat) (kvU:List (Str × PV)) (epU:Nat),xs=[.fl [.int r0,.int r1,.int r2,.int r3,.int r4,.int r5,.int r6,.int r7,.int r8],.int m,.fl (names.map .str),.ref U,.ref D,fr t]∧J U=some (.dct kvU epU)∧kvU.map (·.1)=used∧J D=some (.dct (bB gs) ep)∧names.length≤40∧gs.length≤100 ∧
 0≤r1∧0≤r2∧0≤r3∧r3 < 2001∧0≤r4∧r4 < 2 ^ 60∧0≤r5∧0≤m∧m < 4∧Sz 900 t∧∀dv,LF names used gs t dv→Q dv J
theorem BE {kv:List (Str × PV)} {k:Str}:(fA kv k).isSome=decide (k∈kv.map (·.1)):=by
 induction kv with
 | nil=>rfl
 | cons p r ih =>
  rw [L2.lA,UA]
  by_cases h:p.1=k
  ·rw [if_pos h,decide_eq_true (by rw [h];exact UY)];rfl
  ·rw [if_neg h,ih];exact decide_eq_decide.mpr ⟨λz=>US _ z,λz=>by rcases UH.mp z with e | z;exact absurd e.symm h;exact z⟩
theorem wk {c:me} {a u:i8} {D:En} {τ:Sr} {J:Hq} (b:Prop) [Decidable b] (hc:∀R:Bool→Hq→Prop,R (decide b) J→c τ J R) (h1:b→∀N,a { D with nx:=N } τ J) (h2:¬ b→u D τ J):bc (Eo c a vt) u D τ J:=by
 refine hc _ ?_
 by_cases h:b
 ·rw [decide_eq_true h,if_pos rfl];exact h1 h _
 ·rw [decide_eq_false h,if_neg (by decide)];exact h2 h
theorem JJ {R:Bool→Hq→Prop} {b c:Bool} {J:Hq} (h:R b J) (e:b=true↔c=true):R c J:=by rw [← Wo.mpr e];exact h
theorem lQ {xs:List Str} {r:Int} (h0:0≤r) (hl:0 < xs.length):∃n∈xs,c4 (xs.map PV.str) (r % (xs.length:Int))=some (.str n):=by
 obtain ⟨j,hj⟩:∃j:Nat,r % (xs.length:Int)=j:=⟨(r % (xs.length:Int)).toNat,by have:=Int.emod_nonneg r (b:=(xs.length:Int)) (by omega);omega⟩
 have hjl:j < xs.length:=by have:=Int.emod_lt_of_pos r (b:=(xs.length:Int)) (by omega);omega
 exact ⟨xs[j],UP hjl,by rw [hj];exact bP (by rw [Uw,Ut hjl];rfl)⟩
theorem F6 {f:Addr} {fd:FuncData} (F:bU K "_law_deed" "_law_deed" xC f fd) (Z:bE mg) (EH:bj P w K mg base 1 "_law_placed" kP vF) (BF:bj P w K mg base 1 "_law_paced" mw zK) (vN:bj P w K mg base 2 "_law_later" iN xX):aS P w K mg base (cn P w) 3 f fd ox (cK K Hd):=by
 simp_arith [q_,(ai (aA (i:=6) q_.nd (c8 (kg rfl) rfl Z.list boot_list (af (rv 4) ah)))
   (ai (Nt (i:=7) (L2.au xC) ["_law_row","_law_mode","_law_names_here","_law_used","_law_legs","_law_clock","_law_there","_law_fresh","_law_name"] [("_law_used",3)] rfl rfl rfl q_.nd rfl (Or.inl rfl) (d7 (rv 2)) (λ_ _ _ _ _ _=>(rv 0)) (λ_ _ _ _ _ _=>(aE Ck (rv 0) (rv 1))))
   (ai (aP (cf (dT (aE jV (aF bK rfl Z.len boot_len (af (rv 7) ah)) ag) (dT (aE fj (aF bK rfl Z.len boot_len (af (rv 6) ah)) ag) (c5 (cf (eI (aE fj (aj ar (rv 0) ag) ag) (dm (cf (dT (aE fj (aF bK rfl Z.len boot_len (af (rv 6) ah)) ag) (c5 (aE fj (aj ar (rv 0) ag) ag))))))))))) (ai (aA (i:=8) q_.nd (aj ar (rv 7) (ay bX (aj ar (rv 0) ag) (aF bK rfl Z.len boot_len (af (rv 7) ah)))))
   (ak (az (bY (af bJ (af (rv 8) (af (aL EH B hr (af (aj ar (rv 0) ag) (af (rv 1) ah))) (af (aL BF B hr (af (aj ar (rv 0) ag) (af (rv 1) ah))) ah)))))))) aH)
   (ai (aP (cf (dT (aE M3 (aj ar (rv 0) ag) (bY (af ag (af ag ah)))) (c5 (aE jV (aF bK rfl Z.len boot_len (af (rv 6) ah)) ag)))) (ak (az (bY (af bJ (af (aj ar (rv 6) (ay bX (aj ar (rv 0) ag) (aF bK rfl Z.len boot_len (af (rv 6) ah)))) (af (aL BF B hr (af (aj ar (rv 0) ag) (af (rv 1) ah))) ah)))))) aH)
   (ai (aP (cf (dT (aE (cj hr.aQ) (aj ar (rv 0) ag) ag) (c5 (aE jV (aF bK rfl Z.len boot_len (af (rv 6) ah)) ag)))) (ak (az (bY (af bJ (af (aj ar (rv 6) (ay bX (aj ar (rv 0) ag) (aF bK rfl Z.len boot_len (af (rv 6) ah)))) ah))))) aH)
   (ai (aP (aE (cj hr.aQ) (aj ar (rv 0) ag) ag) (ak (az (bY (af bJ ah)))) aH)
   (ak (az (bY (af bJ (af (aL vN B hr (af (rv 5) (af (aj ar (rv 0) ag) (af (aj ar (rv 0) ag) (af (rv 1) ah))))) ah)))))))))))]
 ·obtain ⟨r0,r1,r2,r3,r4,r5,r6,r7,r8,m,names,used,U,D,gs,ep,t,kvU,epU,rfl,_⟩:=h;rfl
 obtain ⟨r0,r1,r2,r3,r4,r5,r6,r7,r8,m,names,used,U,D,gs,ep,t,kvU,epU,rfl,hU,hkU,hD,hnl,hgl,r10,r20,r30,r31,r40,r41,r50,m0,m1,st,q⟩:=h
 have hkv:(bB gs).map (λkv=>PV.str kv.1)=(gs.map (·.1)).map PV.str:=by unfold bB;rw [Ux,Ux];rfl
 refine hX ?_
 simp_all! [hD,hkv,xt]
 obtain ⟨pn,hpn⟩:∃pn:Str→Bool,∀x,pn x=!decide (x∈used):=⟨_,λ_=>rfl⟩
 refine ⟨λx=>match x with | .str s=>pn s | _=>false,id,⟨by rw [Us];exact Vi hnl (by decide),λJ' sub=>⟨trivial,λx hx=>?_⟩⟩,?_⟩
 ·obtain ⟨s,hs,rfl⟩:=Uu.mp hx
  have hU':=sub _ _ hU
  simp_all! [pV,hU',BE,hkU]
  exact ⟨(hpn s).symm,λ_=>trivial⟩
 have ef:((names.map PV.str).filter λx=>match x with | .str s=>pn s | _=>false).map id=(names.filter pn).map PV.str:=by rw [List.map_id,U2];rfl
 rw [ef]
 have hfr:∀n∈names.filter pn,n∈names∧n ∉ used:=λn hn=>by
  obtain ⟨h1,h2⟩:=UI.mp hn
  rw [hpn] at h2
  exact ⟨h1,by simpa using h2⟩
 generalize names.filter pn=fresh at hfr ⊢
 have gl:(gs.map (·.1)).length=gs.length:=Us _
 generalize hgn:gs.map (·.1)=gn at gl q ⊢
 refine hNq _ _ ?_
 clear hNq Nq
 refine wk (0 < fresh.length∧gs.length < 12∧(r0 < 3∨gs.length < 2∧r0 < 8)) (λR hR=>?_) (λhb N=>?_) (λhb=>?_)
 ·simp_arith! [bc,Us]
  (repeat' (first | split | simp_arith! [bc,Us])) <;> exact JJ hR (by simp only [decide_eq_true_eq,UL,eq_self,iff_true,iff_false];omega)
 ·obtain ⟨n,hn,ha⟩:=lQ r10 hb.1
  simp_all! [Us,ha]
  refine ⟨by omega,?_⟩
  simp_all! []
  refine ⟨r2,m,rfl,r20,λx hx=>⟨r3,m,rfl,r30,r31,λv hv=>?_⟩⟩
  exact q _ (.inl ⟨n,x,v,rfl,(hfr n hn).1,(hfr n hn).2,hb.2.1,hx,hv⟩)
 refine wk ((r0=3∨r0=4)∧0 < gs.length) (λR hR=>?_) (λhb N=>?_) (λhb=>?_)
 ·simp_all! [Us]
  refine ⟨r0,[3,4],rfl,rfl,AL rfl ?_⟩
  (repeat' (first | split | simp_arith! [bc,Us])) <;> exact JJ hR (by simp only [decide_eq_true_eq,UL,id_eq,UH,UU,or_false,eq_self,iff_true,iff_false] at *;omega)
 ·obtain ⟨n,hn,ha⟩:=lQ (xs:=gn) r10 (by omega)
  simp_all! [Us,ha]
  refine ⟨by omega,?_⟩
  simp_all! []
  refine ⟨r3,m,rfl,r30,r31,λv hv=>?_⟩
  exact q _ (.inr (.inl ⟨n,v,rfl,by rw [hgn];exact hn,hv⟩))
 refine wk (r0=5∧2 < gs.length) (λR hR=>?_) (λhb N=>?_) (λhb=>?_)
 ·simp_arith! [bc,Us]
  (repeat' (first | split | simp_arith! [bc,Us])) <;> exact JJ hR (by simp only [decide_eq_true_eq,UL,eq_self,iff_true,iff_false];omega)
 ·obtain ⟨n,hn,ha⟩:=lQ (xs:=gn) r10 (by omega)
  simp_all! [Us,ha]
  exact ⟨by omega,q _ (.inr (.inr (.inr (.inl ⟨n,rfl,by rw [hgn];exact hn⟩))))⟩
 refine wk (r0=6) (λR hR=>?_) (λhb N=>?_) (λhb=>?_)
 ·simp_arith! [bc]
  exact JJ hR (by simp only [decide_eq_true_eq,UL])
 ·simp_all! []
  exact q _ (.inr (.inr (.inl rfl)))
 simp_all! []
 exact ⟨t,r4,r5,m,rfl,r40,r50,m0,m1,r41,st,λm' hm'=>q _ (.inr (.inr (.inr (.inr ⟨m',rfl,hm'⟩))))⟩
theorem Ei (t m:Rat) (ks:List Ky) (h:(ks.map Ky.n).Nodup) (hl:ks.length≤12):(gU t ks m).length≤900:=by
 rw [← yx h]
 have h1:=DF t (bZ t m) (ks.flatMap λa=>ks.map λb=>(a,b))
 have h2:(ks.flatMap λa=>ks.map λb=>(a,b)).length=ks.length * ks.length:=by
  rw [List.length_flatMap]
  have:(ks.map λa=>(ks.map λb=>(a,b)).length)=VA ks.length ks.length:=by
   rw [List.eq_replicate_iff]
   refine ⟨by rw [Us],λb hb=>?_⟩
   obtain ⟨_,_,rfl⟩:=Uu.mp hb
   rw [Us]
  rw [this,List.sum_replicate_nat]
 have h3:ks.length * ks.length≤12 * 12:=Nat.mul_le_mul hl hl
 omega
theorem rY {m:Rat} (h0:0≤m) (hd:m.den≤60) (h1:m.num≤1000000 * (m.den:Int)):gO m.num m.den=true:=by
 refine decide_eq_true ⟨by omega,by have:=m.den_pos;omega,?_,Rat.num_nonneg.mpr h0,h1⟩
 have:=m.reduced
 unfold Int.gcd
 exact this
theorem vh {c q:Rat} (h:Later c q) (hc:c.den≤60):q.den≤60:=by
 rcases h with rfl | ⟨u,s,u0,u1,s0,s1,rfl⟩
 ·exact hc
 ·have:=wg (t:=(c.num * (u:Int)).fdiv (c.den:Int) + (s:Int)) (b:=(u:Int)) (by omega)
  omega
theorem FO {q:Rat}:q.num≤1000000 * (q.den:Int)↔q≤1000000:=by
 rw [Rat.le_iff]
 have h3:(1000000:Rat).num=1000000:=rfl
 have h4:((1000000:Rat).den:Int)=1:=rfl
 rw [h3,h4]
 omega
structure Wk (cN cL:Addr) (J0:Hq) (S0:Addr→Prop) (J:Hq) (p:Addr) (L:Ln) (D U:Addr) (gs:List (Str × aM)) (ep:Nat) (used:List Str) (k:Nat):Prop where
 b:bh cN cL J p L
 ok:b_ L
 rl:Rl L gs
 hD:J D=some (.dct (bB gs) ep)
 hU:J U=some (.lst (used.map .str))
 nD:¬ L.own p D
 nU:¬ L.own p U
 mv:Mv J0 J S0 (λa=>L.own p a∨a=D∨a=U)
 td:L.t.den≤60
 tl:L.t≤((500 * k:Nat):Rat)
 wl:∀c∈L.cs,c.w.length≤1 + k
theorem Rl.go {L:Ln} {gs:List (Str × aM)} (h:Rl L gs) {m:Rat} (hm:L.t≤m) {o:Addr} {row:List Str}:Rl { L with t:=m,o:=o,row:=row } gs:=⟨h.nm,h.ln,h.ck,λx hx=>Rat.le_trans (h.le x hx) hm,h.ct⟩
theorem yN {c q:Rat} (h:Later c q) (c0:0≤c):q≤c + 500:=by
 rcases h with rfl | ⟨u,s,u0,u1,s0,s1,rfl⟩
 ·grind
 rw [Rat.divInt_eq_div]
 have hu:(0:Rat) < ((u:Int):Rat):=by exact_mod_cast (show (0:Int) < u by omega)
 have h1:((s:Int):Rat)≤500 * ((u:Int):Rat):=by exact_mod_cast (show (s:Int)≤500 * u by omega)
 have hd:(0:Rat) < ((c.den:Int):Rat):=by exact_mod_cast (show (0:Int) < c.den by have:=c.den_pos;omega)
 have h2:((((c.num * (u:Int)).fdiv (c.den:Int)):Int):Rat)≤c * ((u:Int):Rat):=by
  have e1:(c.num * (u:Int)).fdiv (c.den:Int) * (c.den:Int)≤c.num * u:=by
   rw [Int.fdiv_eq_ediv_of_nonneg _ (by omega)]
   exact Int.ediv_mul_le _ (by have:=c.den_pos;omega)
  have e2:((((c.num * (u:Int)).fdiv (c.den:Int)):Int):Rat) * ((c.den:Int):Rat)≤(c.num:Rat) * ((u:Int):Rat):=by
   rw [← Rat.intCast_mul,← Rat.intCast_mul];exact Rat.intCast_le_intCast.mpr e1
  have e3:(c.num:Rat)=c * ((c.den:Int):Rat):=cast_eq c
  rw [e3] at e2
  generalize ((((c.num * (u:Int)).fdiv (c.den:Int)):Int):Rat)=x at e2 ⊢
  generalize ((c.den:Int):Rat)=y at e2 hd
  generalize ((u:Int):Rat)=z at e2 ⊢
  by_cases k:c * z < x
  ·have:0 < (x - c * z) * y:=Rat.mul_pos (by grind) hd
   grind
  ·grind
 rw [Rat.intCast_add]
 generalize ((((c.num * (u:Int)).fdiv (c.den:Int)):Int):Rat)=a at h2 ⊢
 generalize ((s:Int):Rat)=x at h1 ⊢
 generalize ((u:Int):Rat)=y at h1 h2 hu ⊢
 have e:(a + x) / y * y=a + x:=by grind
 generalize (a + x) / y=z at e ⊢
 by_cases k:c + 500 < z
 ·have:0 < (z - (c + 500)) * y:=Rat.mul_pos (by grind) hu
  grind
 ·grind
section
variable {cN cL:Addr} {J0 J:Hq} {S0:Addr→Prop} {p:Addr} {L:Ln} {D U:Addr} {gs:List (Str × aM)} {ep:Nat} {used:List Str} {k:Nat}
theorem Wk.ne (h:Wk cN cL J0 S0 J p L D U gs ep used k):U≠D:=λe=>by have:=h.hU;rw [e,h.hD] at this;cases this
theorem Wk.kept (h:Wk cN cL J0 S0 J p L D U gs ep used k) {T:Addr} {o:HQ} (hT:J0 T=some o) (nT:¬ S0 T):J T=some o:=h.mv.keep _ _ hT nT
theorem Wk.next (h:Wk cN cL J0 S0 J p L D U gs ep used k) {J1:Hq} {L1:Ln} {gs1:List (Str × aM)} {k1:Nat} (b1:bh cN cL J1 p L1) (ok1:b_ L1) (mv:Mv J J1 (L.own p) (L1.own p)) (rl1:Rl L1 gs1) (td:L1.t.den≤60) (tl:L1.t≤((500 * k1:Nat):Rat)) (wl:∀c∈L1.cs,c.w.length≤1 + k1) (ep':Nat):Wk cN cL J0 S0 (put J1 D (.dct (bB gs1) ep')) p L1 D U gs1 ep' used k1:=by
 have new:∀{x o},J x=some o→¬ L.own p x→¬ L1.own p x:=λhx nx z=>by
  rcases mv.own _ z with q | q
  ·exact nx q
  ·rw [hx] at q;cases q
 have nD1:=new h.hD h.nD
 have hD1:=mv.keep _ _ h.hD h.nD
 have hU1:=mv.keep _ _ h.hU h.nU
 have mv1:Mv J J1 (λa=>L.own p a∨a=D∨a=U) (λa=>L1.own p a∨a=D∨a=U) :=
  ⟨λa o e n=>mv.keep a o e λz=>n (.inl z),λa z=>z.elim (λz=>(mv.own a z).imp .inl id) (λz=>.inl (.inr z)),mv.mono⟩
 refine ⟨b1.keep λa u ow e=>?_,ok1,rl1,av,?_,nD1,new h.hU h.nU,(h.mv.trans mv1).trans (gR (.inr (.inl rfl)) λa z=>.inl z),td,tl,wl⟩
 ·rw [aq (λz=>by subst z;exact nD1 ow)];exact e
 ·rw [aq h.ne];exact hU1
theorem Wk.push (h:Wk cN cL J0 S0 J p L D U gs ep used k) (n:Str):Wk cN cL J0 S0 (put J U (.lst ((used ++ [n]).map .str))) p L D U gs ep (used ++ [n]) k:=by
 refine ⟨h.b.keep λa u ow e=>?_,h.ok,h.rl,?_,av,h.nD,h.nU,h.mv.trans (gR (.inr (.inr rfl)) λa z=>.inl z),h.td,h.tl,h.wl⟩
 ·rw [aq (λz=>by subst z;exact h.nU ow)];exact e
 ·rw [aq (λe=>h.ne e.symm)];exact h.hD
theorem Wk.up (h:Wk cN cL J0 S0 J p L D U gs ep used k):Sz 900 L.t∧(gs.map (·.1)).Nodup∧gs.length≤12∧∀x∈gs,jt 900 x.2 :=
 ⟨h.ok.BA,h.rl.nd h.ok.toa_,by rw [h.rl.len];exact h.ok.Fc,λx hx=>(h.rl.sz x hx).mono (by decide)⟩
end
theorem so {q:Rat} {k:Nat} (hk:k≤2000) (h:q≤((500 * k:Nat):Rat)):q≤1000000:=by
 refine Rat.le_trans h ?_
 have:((500 * k:Nat):Rat)≤((1000000:Nat):Rat):=by exact_mod_cast (show 500 * k≤1000000 by omega)
 exact this
theorem x5 {a b:Rat} {k:Nat} (h:b≤a + 500) (ha:a≤((500 * k:Nat):Rat)):b≤((500 * (k + 1):Nat):Rat):=by
 have e:((500 * (k + 1):Nat):Rat)=((500 * k:Nat):Rat) + 500:=by
  rw [show 500 * (k + 1)=500 * k + 500 by omega];exact Rat.natCast_add _ _
 rw [e];grind
theorem JZ {a:Rat} {k:Nat} (ha:a≤((500 * k:Nat):Rat)):a≤((500 * (k + 1):Nat):Rat):=x5 (a:=a) (by grind) ha
abbrev tm:Stmt:=(top 66)
abbrev kQ:List Str:=["_law_rows","_law_moment","_law_pace"]
theorem lV:L2.aw ["_law_rows","_law_moment","_law_pace","_law_out","_law_last","_law_here"] ["_law_rows","_law_moment","_law_pace"] (L2.au tm):=dt
def vG:cq:=λxs J Q _=>∃(rows:List aM) (t:Rat) (v:Int),xs=[.fl (rows.map aM.V),fr t,.int v]∧rows≠[]∧rows.length≤900∧Sz 900 t∧(∀l∈rows,jt 900 l)∧Q (.fl ((turned rows t v).map aM.V)) J
theorem AJ {f:Addr} {fd:FuncData} (F:bU K "_law_turned" "_law_turned" tm f fd) (Z:bE mg) (i5:bj P w K mg base 2 "_law_at" dj h_):aS P w K mg base (cn P w) 3 f fd kQ (cK K vG):=by
 simp_arith [lV,(ai (aA (i:=3) lV.nd (c8 kb rfl Z.list boot_list (af (rv 0) ah)))
   (ai (aA (i:=4) lV.nd (aj ar (rv 3) (oG jP ag)))
   (ai (aA (i:=5) lV.nd (aL i5 B hr (af (rv 4) (af (rv 1) ah))))
   (cx (aP (aE (cj hr.aQ) (aj ar (rv 4) ag) (rv 1)) (ak (bA (GY PySem.F.plainAttrs_list PySem.F.slot_list_pop PySem.F.type_list_pop FZ (rv 3)))) aH)
   (cx (aP (cf (eI (aE (cj hr.aQ) (aF bK rfl Z.len boot_len (af (rv 3) ah)) ag) (dm (aE (fF hr.aQ) (aj ar (aj ar (rv 3) (oG jP ag)) ag) (rv 2))))) (ak (bA (gr PySem.F.plainAttrs_list PySem.F.slot_list_append PySem.F.type_list_append gF (rv 3) (af (bY (af (rv 1) (af (rv 5) (af (rv 2) ah)))) ah)))) aH)
   (ak (az (rv 3)))))))),F]
 ·obtain ⟨rows,t,v,rfl,_⟩:=h;rfl
 obtain ⟨rows,t,v,rfl,hne,hl,st,sl,q⟩:=h
 obtain ⟨ls,l,rfl⟩:∃ls l,rows=ls ++ [l]:=⟨rows.dropLast,rows.getLast hne,(U6 hne).symm⟩
 have sl':=sl l (by simp)
 have hla:c4 ((ls ++ [l]).map aM.V) (-1)=some l.V:=by rw [Uy];exact qP _ _
 refine hX ?_
 simp_arith! [bc]
 intro o ho
 simp_arith! [bc,hla]
 refine ⟨l,t,rfl,sl'.m,sl'.p,st,sl'.v,?_⟩
 obtain ⟨M,hM⟩:∃M:Sr→Hq→Prop,∀τ' J',M τ' J'↔τ'=[some (.fl ((ls ++ [l]).map aM.V)),some (fr t),some (.int v),some (.ref o),some l.V,some (fr (l.at t))]∧J'=put J o (.lst ((if l.m=t then ls else ls ++ [l]).map aM.V)):=⟨_,λ_ _=>Iff.rfl⟩
 refine ⟨M,?_,?_⟩
 ·simp_arith! [bc,mf]
  split
  ·rename_i e
   refine ⟨l.V,by simp,(hM _ _).mpr ⟨rfl,?_⟩⟩
   rw [if_pos e,Uy,UA,Va,Vt,cm]
  ·rename_i e
   exact (hM _ _).mpr ⟨rfl,by rw [if_neg e]⟩
 intro τ' J' hm
 obtain ⟨rfl,rfl⟩:=(hM _ _).mp hm
 clear hm hM M
 have et:turned (ls ++ [l]) t v=if (if l.m=t then ls else ls ++ [l]).getLast?.map aM.v=some v then (if l.m=t then ls else ls ++ [l]) else (if l.m=t then ls else ls ++ [l]) ++ [⟨t,l.at t,v⟩]:=by
  unfold turned
  simp only [UX,Vt]
 have hrl:(if l.m=t then ls else ls ++ [l]).length≤900:=by
  split
  ·rw [UR] at hl;omega
  ·exact hl
 rw [et] at q
 generalize (if l.m=t then ls else ls ++ [l])=rest at q hrl ⊢
 obtain ⟨M,hM⟩:∃M:Sr→Hq→Prop,∀τ' J',M τ' J'↔τ'=[some (.fl ((ls ++ [l]).map aM.V)),some (fr t),some (.int v),some (.ref o),some l.V,some (fr (l.at t))]∧J'=put J o (.lst ((if rest.getLast?.map aM.v=some v then rest else rest ++ [⟨t,l.at t,v⟩]).map aM.V)):=⟨_,λ_ _=>Iff.rfl⟩
 refine ⟨M,?_,?_⟩
 ·simp_arith! [bc,cm,tV,Us]
  rcases Wt rest with rfl | ⟨ks,k,rfl⟩
  ·rw [if_pos (by rfl)]
   exact ⟨a7 (by decide),(hM _ _).mpr ⟨rfl,rfl⟩⟩
  ·rw [Wu] at *
   have hk:c4 ((ks ++ [k]).map aM.V) (-1)=some k.V:=by rw [Uy];exact qP _ _
   rw [if_neg (by simp;omega)]
   simp_arith! [bc,hk,iu]
   rw [UX,VP] at hM
   by_cases e:k.v=v
   ·rw [if_pos e];exact (hM _ _).mpr ⟨rfl,by rw [if_pos (congrArg some e)]⟩
   ·rw [if_neg e];exact ⟨a7 (by rw [Us];omega),(hM _ _).mpr ⟨rfl,by rw [if_neg (λz=>e (Option.some.inj z))];simp only [Uy,UA,Va,cm]⟩⟩
 intro τ' J' hm
 obtain ⟨rfl,rfl⟩:=(hM _ _).mp hm
 clear hm hM M
 simp_arith! [bc]
 exact Fg.pf (fZ ho) av ho q
def dA (c:Cf):Str × PV:=(c.n,.fl (c.w.map aM.V))
def gM (gone:List (Str × Rat)):List (Str × PV):=gone.map λx=>(x.1,fr x.2)
theorem qZ {cs:List Cf} (nd:(cs.map Cf.n).Nodup) {c:Cf} (hc:c∈cs):fA (cs.map dA) c.n=some (.fl (c.w.map aM.V)):=by
 have e:cs.map dA=((cs.map λc=>(c.n,c.w)).map λx=>(x.1,PV.fl (x.2.map aM.V))):=by rw [Ux];rfl
 rw [e]
 exact dX (f:=λw:List aM=>PV.fl (w.map aM.V)) (by rw [Ux];exact nd) (Uu.mpr ⟨c,hc,rfl⟩)
theorem JM (cs:List Cf):(cs.map dA).map (·.1)=cs.map Cf.n:=by rw [Ux];rfl
theorem G0 {cs:List Cf} {c:Cf} (hn:c.n ∉ cs.map Cf.n):lR (cs.map dA) c.n (.fl (c.w.map aM.V))=(cs ++ [c]).map dA:=by
 have e:cs.map dA=((cs.map λc=>(c.n,c.w)).map λx=>(x.1,PV.fl (x.2.map aM.V))):=by rw [Ux];rfl
 rw [e,mR (f:=λw:List aM=>PV.fl (w.map aM.V)) (l:=c.w) (by rw [Ux];exact hn),Uy,Uy,Ux];rfl
theorem CC {cs:List Cf} {n:Str} {w:List aM} {f:Cf→Cf} (hm:n∈cs.map Cf.n) (h1:∀c∈cs,(f c).n=c.n) (h2:∀c∈cs,c.n=n→(f c).w=w) (h3:∀c∈cs,c.n≠n→(f c).w=c.w):lR (cs.map dA) n (.fl (w.map aM.V))=(cs.map f).map dA:=by
 unfold L2.lR
 rw [if_pos,Ux,Ux]
 ·refine UK λc hc=>?_
  show (if c.n=n then (c.n,PV.fl (w.map aM.V)) else (c.n,.fl (c.w.map aM.V)))=((f c).n,PV.fl ((f c).w.map aM.V))
  by_cases e:c.n=n
  ·rw [if_pos e,h1 c hc,h2 c hc e]
  ·rw [if_neg e,h1 c hc,h3 c hc e]
 ·obtain ⟨c,hc,e⟩:=Uu.mp hm
  rw [V3]
  exact ⟨dA c,Uu.mpr ⟨c,hc,rfl⟩,decide_eq_true e⟩
theorem Fs {n:Str} (hg:good n=true):n.length≤sizeLine:=by
 have h8:n.cps.size≤8:=by
  unfold good at hg
  rw [U1,U1] at hg
  exact of_decide_eq_true hg.1.2
 exact UM h8 (by decide)
theorem D0 {l:List Str} {n:Str} (h:l.Nodup) (hn:n ∉ l):(l ++ [n]).Nodup:=by
 rw [Vg]
 refine ⟨h,by simp,λa ha b hb e=>hn ?_⟩
 rw [UE] at hb
 rw [← hb,← e];exact ha
theorem DW {α:Type} {f:α→α} {xs:List α} (h:∀x∈xs,f x=x):xs.map f=xs:=by
 rw [UK h,Wa]
structure Lv (cN cL:Addr) (J0:Hq) (S0:Addr→Prop) (J:Hq) (p:Addr) (L:Ln) (D R G:Addr) (gs:List (Str × aM)) (gone:List (Str × Rat)) (k:Nat):Prop where
 b:bh cN cL J p L
 ok:b_ L
 rl:Rl L gs
 hD:∃e,J D=some (.dct (bB gs) e)
 hR:∃e,J R=some (.dct (L.cs.map dA) e)
 hG:∃e,J G=some (.dct (gM gone) e)
 nD:¬ L.own p D
 nR:¬ L.own p R
 nG:¬ L.own p G
 dr:D≠R
 dg:D≠G
 rg:R≠G
 mv:Mv J0 J S0 (λa=>L.own p a∨a=D∨a=R∨a=G)
 td:L.t.den≤60
 tl:L.t≤((500 * k:Nat):Rat)
 wl:∀c∈L.cs,c.w.length≤1 + k
 g1:∀c∈L.cs,∀q,c.g=some q↔(c.n,q)∈gone
 g2:(gone.map (·.1)).Nodup
 g3:∀x∈gone,x.1∈L.cs.map Cf.n
section
variable {cN cL:Addr} {J0 J:Hq} {S0:Addr→Prop} {p:Addr} {L:Ln} {D R G:Addr} {gs:List (Str × aM)} {gone:List (Str × Rat)} {k:Nat}
theorem Lv.next (h:Lv cN cL J0 S0 J p L D R G gs gone k) {J1 JF:Hq} {L1:Ln} {gs1:List (Str × aM)} {gone1:List (Str × Rat)} (b1:bh cN cL J1 p L1) (ok1:b_ L1) (mv:Mv J J1 (L.own p) (L1.own p)) (rl1:Rl L1 gs1) (td:L1.t.den≤60) (tl:L1.t≤((500 * (k + 1):Nat):Rat)) (wl:∀c∈L1.cs,c.w.length≤1 + (k + 1))
  (g1:∀c∈L1.cs,∀q,c.g=some q↔(c.n,q)∈gone1) (g2:(gone1.map (·.1)).Nodup) (g3:∀x∈gone1,x.1∈L1.cs.map Cf.n) (hD:∃e,JF D=some (.dct (bB gs1) e)) (hR:∃e,JF R=some (.dct (L1.cs.map dA) e)) (hG:∃e,JF G=some (.dct (gM gone1) e))
  (off:∀a,a≠D→a≠R→a≠G→JF a=J1 a):Lv cN cL J0 S0 JF p L1 D R G gs1 gone1 (k + 1):=by
 have new:∀{x},(∃kv e,J x=some (.dct kv e))→¬ L.own p x→¬ L1.own p x:=λ⟨kv,e,hx⟩ nx z=>by
  rcases mv.own _ z with q | q
  ·exact nx q
  ·rw [hx] at q;cases q
 have aD:∃kv e,J D=some (.dct kv e):=⟨_,h.hD⟩
 have aR:∃kv e,J R=some (.dct kv e):=⟨_,h.hR⟩
 have aG:∃kv e,J G=some (.dct kv e):=⟨_,h.hG⟩
 have nD1:=new aD h.nD
 have nR1:=new aR h.nR
 have nG1:=new aG h.nG
 have k1:∀{x},(∃kv e,J x=some (.dct kv e))→J x≠none:=λ⟨kv,e,hx⟩ z=>by rw [z] at hx;cases hx
 refine ⟨b1.keep λa o ow e=>by rw [off a (λz=>by subst z;exact nD1 ow) (λz=>by subst z;exact nR1 ow) (λz=>by subst z;exact nG1 ow)];exact e,ok1,rl1,hD,hR,hG,nD1,nR1,nG1,h.dr,h.dg,h.rg,h.mv.trans ⟨λa o e n=>?_,λa z=>?_,λa z=>?_⟩,td,tl,wl,g1,g2,g3⟩
 ·rw [off a (λz=>n (.inr (.inl z))) (λz=>n (.inr (.inr (.inl z)))) (λz=>n (.inr (.inr (.inr z))))]
  exact mv.keep a o e λz=>n (.inl z)
 ·rcases z with z | z
  ·exact (mv.own a z).imp .inl id
  ·exact .inl (.inr z)
 ·by_cases zD:a=D
  ·subst zD;obtain ⟨e,he⟩:=hD;rw [he] at z;cases z
  by_cases zR:a=R
  ·subst zR;obtain ⟨e,he⟩:=hR;rw [he] at z;cases z
  by_cases zG:a=G
  ·subst zG;obtain ⟨e,he⟩:=hG;rw [he] at z;cases z
  rw [off a zD zR zG] at z
  exact mv.mono a z
end
abbrev Bk:Stmt:=(top 45)
abbrev ou:List Str:=["_law_script","_law_k"]
theorem JQ:L2.aw ["_law_script","_law_k"] ["_law_script","_law_k"] (L2.au Bk):=dt
def Ko (ns:List Int) (k:Int):Int:=if k < (ns.length:Int) then ns.getD k.toNat 0 else 5 + 17 * k
def CN:cq:=λxs J Q _=>∃(ns:List Int) (k:Int),xs=[.fl (ns.map .int),.int k]∧0≤k∧k < 1000∧Q (.int (Ko ns k)) J
theorem F5 {f:Addr} {fd:FuncData} (F:bU K "_law_cell" "_law_cell" Bk f fd) (Z:bE mg):aS P w K mg base (cn P w) 1 f fd ou (cK K CN):=by
 simp_arith [JQ,(ai (aP (aE fj (rv 1) (aF bK rfl Z.len boot_len (af (rv 0) ah))) (ak (az (aj ar (rv 0) (rv 1)))) aH)
   (ak (az (ay bQ ag (ay aT ag (rv 1))))))]
 ·obtain ⟨ns,k,rfl,_⟩:=h;rfl
 obtain ⟨ns,k,rfl,h0,h1,q⟩:=h
 unfold Ko at q
 refine hX ?_
 simp_arith! [bc,Us]
 split
 ·rename_i c
  rw [if_pos c] at q
  obtain ⟨j,rfl⟩:=Int.eq_ofNat_of_zero_le h0
  have hj:j < ns.length:=by omega
  refine fi (x:=.int ns[j]) (bP (by rw [Uw,Ut hj];rfl)) ?_
  simpa [Xb,hj] using q
 ·rename_i c
  rw [if_neg c] at q
  exact ⟨.of (.small (x:=17) (by decide) (by decide)) (.small (x:=k) (by omega) (by omega)),q⟩
abbrev xE:Stmt:=(top 50)
abbrev iP:List Str:=["_law_found","_law_due_here"]
theorem G7:L2.aw ["_law_found","_law_due_here"] ["_law_found","_law_due_here"] (L2.au xE):=dt
def xY:cq:=λxs J Q _=>∃g:Option Rat,xs=[gv g,gv g]∧Q (.bl true) J
theorem D7 {f:Addr} {fd:FuncData} (F:bU K "_law_maybe" "_law_maybe" xE f fd) (Z:bE mg) (oZ:bj P w K mg base 2 "_law_part" gx iD):aS P w K mg base (cn P w) 3 f fd iP (cK K xY):=by
 simp_arith [G7,(ai (aP (aE ze (rv 1) dk) (ak (az (er ze (rv 0) dk))) aH)
   (ak (az (aL oZ B hr (af (rv 0) (af (rv 1) ah))))))]
 ·obtain ⟨g,rfl,_⟩:=h;rfl
 obtain ⟨g,rfl,q⟩:=h
 refine hX ?_
 cases g with
 | none=>simp_arith! [bc,gv];exact q
 | some u=>simp_arith! [bc,gv,pj,iD];exact q
theorem Er (t:Rat) {fs:List (Str × aM)} (h:(fs.map (·.1)).Nodup) (f:Str→Bool):((cQ t fs).filter f).length=(fs.filter λy=>f y.1).length:=by
 unfold cQ
 rw [U2,Us,← qg (by rw [cD];exact h),je,U2,Us]
 rfl
abbrev dG:Stmt:=(L2.inClass (top 42) 15)
abbrev gW:List Str:=["self","place"]
theorem m4:L2.aw ["self","place"] ["self","place"] (L2.au dG):=dt
def zH (cN cL:Addr):cq:=λxs J Q E=>∃(p:Addr) (L:Ln) (x:Int),xs=[.ref p,.int x]∧bh cN cL J p L∧b_ L∧Bd 8000 x∧Q (.int ((L.fs.filter λy=>decide ((x:Rat)≤y.2.at L.t)).length:Nat)) J
theorem mQ {cN cL eC f:Addr} {fd:FuncData} (F:bU K "count_from" "Lane.count_from" dG f fd) (Z:bE mg) (ax:dC K mg "Lane" cN) (aJ:aK K cN "row") (di:bV P w K mg base cN 5 "place" iM (tN cN cL eC)) (cO:bj P w K mg base 1 "less" fo cy):aS P w K mg base (cn P w) 6 f fd gW (cK K (zH cN cL)):=by
 simp_arith [m4,(ak (az (aF bK rfl Z.len boot_len (af (Nk (L2.au dG) ["self","place"] [("self",0),("place",1)] rfl rfl rfl (d7 (aV ax.cl aJ (rv 0))) (λ_ _ _ _ _ _=>(rv 0)) (λ_ _ _ _ _ _=>(bT (bq (aL cO DC hr (af (aX (pl:=_) di DC hr (rv 1) (af (rv 0) ah)) (af (bY (af (rv 2) (af ag ah))) ah))))))) ah))))]
 ·obtain ⟨p,L,x,rfl,_⟩:=h;rfl
 obtain ⟨p,L,x,rfl,b,ok,bx,q⟩:=h
 have bo:=b.ob
 have br:=b.rw
 have hrl:=ok.rl
 have sx:Sz 9000 (x:Rat):=⟨bx.mono (by decide),(Bd.small (x:=1) (by decide) (by decide)).mono (by decide)⟩
 refine hX ?_
 simp_all! [xt,bo,br,sj]
 refine ⟨λy=>match y with | .str n=>decide ((x:Rat)≤(L.l7 n).at L.t) | _=>false,id,⟨by rw [Us];exact a7 (by omega),λJ' sub=>⟨sub _ _ br,λy hy=>?_⟩⟩,?_⟩
 ·obtain ⟨n,hn,rfl⟩:=Uu.mp hy
  have b':bh cN cL J' p L:=b.keep λa o _ e=>sub a o e
  obtain ⟨c,hc,rfl,hg⟩:=ok.found hn
  simp_all! [pV,b'.ob]
  refine ⟨dD _ _ _ _,⟨p,L,c.n,rfl,b',ok.toa_,λc' hc' e' hg'=>?_,λz=>absurd hn z⟩,λ_=>trivial⟩
  cases ok.uniq hc' hc e'
  have sz:Sz 9000 (c.cur.at L.t):=(iH (ok.Ob hc) ok.BA).mono (by decide)
  simp_all! [Ff]
  refine ⟨_,_,rfl,sz,sx,?_,rfl⟩
  rw [ok.l7 hc,← decide_not]
  exact decide_eq_decide.mpr Rat.not_lt
 have ef:((L.row.map PV.str).filter λy=>match y with | .str n=>decide ((x:Rat)≤(L.l7 n).at L.t) | _=>false).map id=(L.row.filter λn=>decide ((x:Rat)≤(L.l7 n).at L.t)).map PV.str:=by rw [List.map_id,U2];rfl
 rw [ef]
 simp_all! [Us]
 rw [ok.row,Er L.t ok.Kr]
 have ec:(L.fs.filter λy=>decide ((x:Rat)≤(L.l7 y.1).at L.t))=L.fs.filter λy=>decide ((x:Rat)≤y.2.at L.t):=List.filter_congr λy hy=>by
  obtain ⟨c,hc,rfl⟩:=Uu.mp hy
  show decide ((x:Rat)≤(L.l7 c.n).at L.t)=_
  rw [ok.l7 (Ln.cW.mp hc).1]
 rw [ec]
 exact q
def mH (x:Ky × Ky):Rat:=x.2.p - x.1.p
def stepK (o:Option (Ky × Ky)) (x:Ky × Ky):Option (Ky × Ky) :=
 match o with
 | none=>some x
 | some y=>if mH x < mH y then some x else some y
def fV (ps:List (Ky × Ky)):Option (Ky × Ky):=ps.foldl stepK none
def fC:Option (Ky × Ky)→PV
 | none=>.non
 | some x=>(aO.mk (mH x) x.1.n x.2.n).v
theorem jw (ps:List (Ky × Ky)) (x:Ky × Ky):fV (ps ++ [x])=stepK (fV ps) x:=by unfold fV;rw [VX];rfl
theorem uS:∀(ps:List (Ky × Ky)) (x:Ky × Ky),fV ps=some x→x∈ps:=by
 refine λps=>snoc_ind (p:=λps=>∀x,fV ps=some x→x∈ps) (λx h=>nomatch h) (λps y ih x h=>?_) ps
 rw [jw] at h
 cases hb:fV ps with
 | none=>rw [hb] at h;cases h;simp
 | some z =>
  rw [hb] at h
  unfold stepK at h
  simp only at h
  split at h
  ·cases h;simp
  ·cases h;exact UB.mpr (.inl (ih _ hb))
theorem Cb {L:Ln} (ok:b_ L) {a:Ky} (ha:a∈cI (L.fs.map (key L.t))) {c:Cf} (hc:c∈L.cs) (e:c.n=a.n):c.cur.at L.t=a.p:=by
 obtain ⟨x,hx,rfl⟩:=Uu.mp ((bM _ _).mp ha)
 obtain ⟨c0,hc0,rfl⟩:=Uu.mp hx
 have:=ok.uniq hc (Ln.cW.mp hc0).1 e
 rw [this];rfl
theorem wq {L:Ln} (ok:b_ L) {a:Ky} (ha:a∈cI (L.fs.map (key L.t))):Sz 3000 a.p:=by
 obtain ⟨x,hx,rfl⟩:=Uu.mp ((bM _ _).mp ha)
 obtain ⟨c0,hc0,rfl⟩:=Uu.mp hx
 exact iH (ok.Ob (Ln.cW.mp hc0).1) ok.BA
abbrev g9:Stmt:=(L2.inClass (top 42) 14)
abbrev jW:List Str:=["self"]
theorem cT:L2.aw ["self","best","hind","fore","gap"] ["self"] (L2.au g9):=dt
def tK (cN cL:Addr):cq:=λxs J Q E=>∃p L,xs=[.ref p]∧bh cN cL J p L∧b_ L∧Q (fC (fV ((cI (L.fs.map (key L.t))).zip (cI (L.fs.map (key L.t))).tail))) J
theorem qD {cN cL eC f:Addr} {fd:FuncData} (F:bU K "closest" "Lane.closest" g9 f fd) (Z:bE mg) (ax:dC K mg "Lane" cN) (aJ:aK K cN "row") (di:bV P w K mg base cN 5 "place" iM (tN cN cL eC)) (nF:bj P w K mg base 3 "minus" oC (Bu λp q=>p - q)) (cO:bj P w K mg base 1 "less" fo cy):aS P w K mg base (cn P w) 6 f fd jW (cK K (tK cN cL)):=by
 simp_arith [cT,(ai (aA (i:=1) cT.nd dk)
   (ai (cR bG rfl (Np rfl Z.zip (af (aV ax.cl aJ (rv 0)) (af (g7 Hj (aV ax.cl aJ (rv 0)) (iy ag) lS) ah))) (sX (n:=2) rfl (dz (bC (i:=2) cT.nd) (dz (bC (i:=3) cT.nd) oI))) (ai (aA (i:=4) cT.nd (aL nF B hr (af (aX (pl:=_) di B hr (rv 0) (af (rv 3) ah)) (af (aX (pl:=_) di B hr (rv 0) (af (rv 2) ah)) ah))))
   (ak (aP (cf (eI (aE ze (rv 1) dk) (dm (bq (aL cO B hr (af (rv 4) (af (aj ar (rv 1) ag) ah))))))) (ak (aA (i:=1) cT.nd (bY (af (rv 4) (af (rv 2) (af (rv 3) ah)))))) aH))))
   (ak (az (rv 1)))))]
 ·obtain ⟨p,L,rfl,_⟩:=h;rfl
 obtain ⟨p,L,rfl,b,ok,q⟩:=h
 refine hX ?_
 obtain ⟨ks,hks⟩:∃ks,cI (L.fs.map (key L.t))=ks:=⟨_,rfl⟩
 have hrow:L.row.map PV.str=ks.map λk=>PV.str k.n:=by rw [← hks];exact ok.keys
 have hct:l6 (ks.map λk=>PV.str k.n) (some 1) none=ks.tail.map λk=>PV.str k.n:=by
  cases ks with
  | nil=>rfl
  | cons x ks=>exact yD (((x :: ks).map λk=>PV.str k.n)) 1 (by simp)
 rw [hks] at q
 have bo:=b.ob
 simp_all! [TR,bo,b.rw,sj,hrow,hct]
 have ez:((ks.map λk=>PV.str k.n).zip (ks.tail.map λk=>PV.str k.n)).map (λp=>PV.tup [p.1,p.2])=(ks.zip ks.tail).map λp=>PV.tup [.str p.1.n,.str p.2.n]:=by rw [List.zip_map,Ux];rfl
 rw [ez]
 generalize hps:ks.zip ks.tail=ps at q ⊢
 have hpm:∀x∈ps,x.1∈ks∧x.2∈ks:=λx hx=>by
  rw [← hps] at hx
  obtain ⟨i,h3,h4⟩:=ya.mp (show (x.1,x.2)∈_ from hx)
  exact ⟨Uz h3,Uz h4⟩
 have gsz:∀x∈ps,Sz 6001 (mH x):=λx hx=>by
  have:=hpm x hx
  rw [← hks] at this
  exact (wq ok this.2).sub (wq ok this.1)
 obtain ⟨Inv,hInv⟩:∃Inv:Nat→Sr→Hq→Prop,∀i τ J',Inv i τ J'↔∃(u2 u3 u4:Option PV),τ=[some (.ref p),some (fC (fV (ps.take i))),u2,u3,u4]∧J'=J:=⟨_,λ_ _ _=>Iff.rfl⟩
 refine ed Inv ((hInv _ _ _).mpr ⟨_,_,_,rfl,rfl⟩) (λi τ J' h=>?_) ?_ ?_
 ·obtain ⟨_,_,_,_,rfl⟩:=(hInv _ _ _).mp h
  rw [b.rw,hrow]
 ·intro i x τ J' hx hv
  obtain ⟨u2,u3,u4,rfl,rfl⟩:=(hInv _ _ _).mp hv
  clear hv
  have hi:i < ps.length:=by have:=(Uv.mp hx).1;rw [Us] at this;exact this
  rw [Uw,Ut hi] at hx
  cases hx
  have et:ps.take (i + 1)=ps.take i ++ [ps[i]]:=by rw [UN,Ut hi];rfl
  have hxm:=UP hi
  generalize ps[i]=x at et hxm ⊢
  obtain ⟨h1,h2⟩:=hpm x hxm
  rw [← hks] at h1 h2
  have sx:=gsz x hxm
  have s1:=wq ok h1
  have s2:=wq ok h2
  simp_all! [bo]
  refine ⟨dD _ _ _ _,p,L,x.2.n,rfl,b,ok.toa_,λc hc e hg=>?_,λz=>absurd (lT ok h2) z⟩
  rw [Cb ok h2 hc e]
  simp_all! [bo]
  refine ⟨dD _ _ _ _,p,L,x.1.n,rfl,b,ok.toa_,λc' hc' e' hg'=>?_,λz=>absurd (lT ok h1) z⟩
  rw [Cb ok h1 hc' e']
  refine ⟨x.2.p,x.1.p,rfl,s2.mono (by decide),s1.mono (by decide),?_⟩
  have eg:((λp q=>p - q) x.2.p x.1.p:Rat)=mH x:=rfl
  rw [eg]
  cases hb:fV (ps.take i) with
  | none =>
   simp_all! [fC]
   exact (hInv _ _ _).mpr ⟨_,_,_,by rw [et,jw,hb];rfl,rfl⟩
  | some y =>
   have sy:=gsz y (U9 (uS _ _ hb))
   simp_all! [fC,aO.v]
   refine ⟨_,_,rfl,sx.mono (by decide),sy.mono (by decide),?_⟩
   simp_all! []
   have e2:fV (ps.take (i + 1))=if mH x < mH y then some x else some y:=by rw [et,jw,hb];rfl
   split
   ·rename_i c
    rw [if_pos c] at e2
    exact (hInv _ _ _).mpr ⟨_,_,_,by rw [e2];rfl,rfl⟩
   ·rename_i c
    rw [if_neg c] at e2
    exact (hInv _ _ _).mpr ⟨_,_,_,by rw [e2];rfl,rfl⟩
 ·intro τ J' hv
  obtain ⟨u2,u3,u4,rfl,rfl⟩:=(hInv _ _ _).mp hv
  rw [Us,UQ]
  simp_all! []
  exact q
abbrev pN:Stmt:=(top 44)
abbrev jY:List Str:=["_law_legs","_law_clock"]
theorem dW:L2.aw ["_law_legs","_law_clock","_law_row","_law_best","_law_k","_law_here","_law_there","_law_gap"] ["_law_legs","_law_clock"] (L2.au pN):=dt
def tH:cq:=λxs J Q _=>∃(D:Addr) (gs:List (Str × aM)) (ep:Nat) (t:Rat),xs=[.ref D,fr t]∧J D=some (.dct (bB gs) ep)∧(gs.map (·.1)).Nodup∧gs.length≤12∧(∀x∈gs,jt 240 x.2)∧Sz 240 t∧Q (fC (fV ((cI (gs.map (key t))).zip (cI (gs.map (key t))).tail))) J
theorem y6 {f:Addr} {fd:FuncData} (F:bU K "_law_closest" "_law_closest" pN f fd) (Z:bE mg) (qM:bj P w K mg base 3 "_law_order" iQ tP) (i5:bj P w K mg base 2 "_law_at" dj h_) (j7:bj P w K mg base 1 "_law_low" dQ fQ):aS P w K mg base (cn P w) 4 f fd jY (cK K tH):=by
 simp_arith [dW,(ai (aA (i:=2) dW.nd (aL qM B hr (af (rv 0) (af (rv 1) ah))))
   (ai (aA (i:=3) dW.nd dk)
   (ai (cR bG rfl (fM rfl Z.range (af (ay c7 (aF bK rfl Z.len boot_len (af (rv 2) ah)) ag) ah)) (bC (i:=4) dW.nd) (ai (aA (i:=5) dW.nd (aL i5 B hr (af (aj bI (rv 0) (aj ar (rv 2) (rv 4))) (af (rv 1) ah))))
   (ai (aA (i:=6) dW.nd (aL i5 B hr (af (aj bI (rv 0) (aj ar (rv 2) (ay bQ (rv 4) ag))) (af (rv 1) ah))))
   (ai (aA (i:=7) dW.nd (aL j7 B hr (af (ay c7 (ay aT (aj ar (rv 6) ag) (aj ar (rv 5) ag)) (ay aT (aj ar (rv 5) ag) (aj ar (rv 6) ag))) (af (ay aT (aj ar (rv 5) ag) (aj ar (rv 6) ag)) ah))))
   (ak (aP (cf (eI (aE ze (rv 3) dk) (dm (aE fj (ay aT (aj ar (rv 7) ag) (aj ar (aj ar (rv 3) ag) ag)) (ay aT (aj ar (aj ar (rv 3) ag) ag) (aj ar (rv 7) ag)))))) (ak (aA (i:=3) dW.nd (bY (af (rv 7) (af (aj ar (rv 2) (rv 4)) (af (aj ar (rv 2) (ay bQ (rv 4) ag)) ah)))))) aH))))))
   (ak (az (rv 3))))))]
 ·obtain ⟨D,gs,ep,t,rfl,_⟩:=h;rfl
 obtain ⟨D,gs,ep,t,rfl,hD,gnd,gl,gsz2,st2,q⟩:=h
 refine hX ?_
 have st:Sz 900 t:=st2.mono (by decide)
 have gsz:∀x∈gs,jt 900 x.2:=λx hx=>(gsz2 x hx).mono (by decide)
 have hord:cQ t gs=(cI (gs.map (key t))).map Ky.n:=rfl
 have kmem:∀a,a∈cI (gs.map (key t))↔∃x∈gs,key t x=a:=λa=>by rw [bM,Uu]
 have kl:(cI (gs.map (key t))).length≤12:=by rw [je,Us];exact gl
 simp_all! []
 refine ⟨D,gs,ep,t,rfl,hD,gnd,by omega,st,gsz,?_⟩
 rw [hord]
 generalize cI (gs.map (key t))=ks at kmem kl q ⊢
 have hrow:(ks.map Ky.n).map PV.str=ks.map λk=>PV.str k.n:=by rw [Ux];rfl
 rw [hrow]
 obtain ⟨ps,hps⟩:∃ps,ks.zip ks.tail=ps:=⟨_,rfl⟩
 have hpl:ps.length=ks.length - 1:=by rw [← hps,Ws,List.length_tail];omega
 have kat:∀{i:Nat} {k:Ky},ks[i]?=some k→c4 (ks.map λk=>PV.str k.n) (i:Int)=some (.str k.n):=λh=>bP (by rw [Uw,h];rfl)
 have two:∀i,i < ps.length→∃a b,ks[i]?=some a∧ks[i + 1]?=some b∧ps[i]?=some (a,b):=λi hi=>by
  obtain ⟨a,ha⟩:∃a,ks[i]?=some a:=⟨_,Ut (by omega)⟩
  obtain ⟨b,hb⟩:∃b,ks[i + 1]?=some b:=⟨_,Ut (by omega)⟩
  refine ⟨_,_,ha,hb,?_⟩
  rw [← hps,Vr]
  exact ⟨ha,by rw [V_];exact hb⟩
 have Oh:∀y∈ps,Sz 9000 (mH y):=λy hy=>by
  obtain ⟨i,hi⟩:=UO.mp hy
  obtain ⟨a,b,ha,hb,hab⟩:=two i (Uv.mp hi).1
  rw [hi] at hab;cases hab
  obtain ⟨⟨n,l⟩,hx,rfl⟩:=(kmem a).mp (Uz ha)
  obtain ⟨⟨n',l'⟩,hx',rfl⟩:=(kmem b).mp (Uz hb)
  exact (((gsz2 _ hx').jQ st2).sub (k:=1581) ((gsz2 _ hx).jQ st2)).mono (by decide)
 rw [hps] at q
 simp_all! [Us]
 obtain ⟨Inv,hInv⟩:∃Inv:Nat→Sr→Hq→Prop,∀i τ J',Inv i τ J'↔∃(u4 u5 u6 u7:Option PV),τ=[some (.ref D),some (fr t),some (.fl (ks.map λk=>PV.str k.n)),some (fC (fV (ps.take i))),u4,u5,u6,u7]∧J'=J:=⟨_,λ_ _ _=>Iff.rfl⟩
 refine ⟨by omega,by omega,?_⟩
 refine lM Inv ((hInv _ _ _).mpr ⟨_,_,_,_,rfl,rfl⟩) ?_ ?_
 ·intro i τ J' hi hv
  obtain ⟨u4,u5,u6,u7,rfl,rfl⟩:=(hInv _ _ _).mp hv
  clear hv
  have hi':i < ps.length:=by omega
  obtain ⟨a,b,ha,hb,hab⟩:=two i hi'
  have h0:c4 (ks.map λk=>PV.str k.n) (0 + (i:Int))=some (.str a.n):=by rw [Int.zero_add];exact kat ha
  have h1:c4 (ks.map λk=>PV.str k.n) (0 + (i:Int) + 1)=some (.str b.n):=by rw [show (0 + (i:Int) + 1)=((i + 1:Nat):Int) by omega];exact kat hb
  have sx:=Oh (a,b) (Uz hab)
  have e2:fV (ps.take (i + 1))=stepK (fV (ps.take i)) (a,b):=by rw [UN,hab];exact jw _ _
  have eb:=λy=>Oh y
  obtain ⟨⟨n,l⟩,hm,rfl⟩:=(kmem a).mp (Uz ha)
  obtain ⟨⟨n',l'⟩,hm',rfl⟩:=(kmem b).mp (Uz hb)
  have hvn:fA (bB gs) n=some l.V:=dX (f:=aM.V) gnd hm
  have hvn':fA (bB gs) n'=some l'.V:=dX (f:=aM.V) gnd hm'
  have sl:=gsz2 _ hm
  have sl':=gsz2 _ hm'
  have sa:=sl.jQ st2
  have sa':=sl'.jQ st2
  have kn:∀n l,(key t (n,l)).n=n:=λ_ _=>rfl
  rw [kn] at h0 h1
  simp_all! [h0,hD,hvn]
  refine ⟨l,t,rfl,sl.m.mono (by decide),sl.p.mono (by decide),st,sl.v,?_⟩
  simp_all! [h1,hD,hvn']
  refine ⟨l',t,rfl,sl'.m.mono (by decide),sl'.p.mono (by decide),st,sl'.v,?_⟩
  simp_all! [fQ]
  refine ⟨.of sa'.num sa.den,.of sa.num sa'.den,.of sa.den sa'.den,Int.mul_pos (cP _) (cP _),(Bd.mul (k:=1580) sa.den sa'.den).mono (by decide),?_⟩
  have eg:Rat.divInt ((l'.at t).num * ((l.at t).den:Int) - (l.at t).num * ((l'.at t).den:Int)) (((l.at t).den:Int) * ((l'.at t).den:Int))=mH (key t (n,l),key t (n',l')):=by rw [Int.mul_comm ((l.at t).den:Int),sub_eq];rfl
  rw [eg]
  have ebv:PV.tup [fr (mH (key t (n,l),key t (n',l'))),.str n,.str n']=fC (some (key t (n,l),key t (n',l'))):=rfl
  cases hb:fV (ps.take i) with
  | none =>
   rw [hb] at e2
   simp_all! [h0,h1,ebv,fC]
   exact (hInv _ _ _).mpr ⟨_,_,_,_,by rw [e2];rfl,rfl⟩
  | some y =>
   rw [hb] at e2
   have sy:=Oh y (U9 (uS _ _ hb))
   have e3:fV (ps.take (i + 1))=if mH (key t (n,l),key t (n',l')) < mH y then some (key t (n,l),key t (n',l')) else some y:=e2
   have nb:yM (fC (some y))=false:=rfl
   have b0:fz J' (fC (some y)) (.int 0)=some (fr (mH y)):=de _ _
   simp_all! [h0,h1,ebv,nb,b0,lH]
   refine ⟨.of sx.num sy.den,.of sy.num sx.den,?_⟩
   split
   ·rename_i c
    rw [if_pos c] at e3
    simp_all! [h0,h1,ebv]
    exact (hInv _ _ _).mpr ⟨_,_,_,_,by rw [e3],rfl⟩
   ·rename_i c
    rw [if_neg c] at e3
    exact (hInv _ _ _).mpr ⟨_,_,_,_,by rw [e3],rfl⟩
 ·intro τ J' hv
  obtain ⟨u4,u5,u6,u7,rfl,rfl⟩:=(hInv _ _ _).mp hv
  clear hv
  rw [show ((ks.length:Int) - 1).toNat=ps.length by omega,UQ]
  simp_all! []
  exact q
theorem FY {l l' k k':aM} (h:gI l k) (h':gI l' k') (t:Rat):pD t l l'=pD t k k':=by
 unfold pD jU
 rw [h.1,h'.1,h.2 0,h'.2 0]
theorem FW {l l':aM} (t:Rat) (hv:l.v≠l'.v):jU l l'=t + (l'.at t - l.at t) / ((l.v - l'.v:Int):Rat):=by
 unfold jU aM.at
 have k:((l.v - l'.v:Int):Rat)≠0:=df (by omega)
 rw [Rat.intCast_sub] at k ⊢
 generalize (l.v:Rat)=x at k ⊢
 generalize (l'.v:Rat)=y at k ⊢
 grind
theorem IP {l l':aM} {t:Rat} (h:0 < (l.v - l'.v) * ((l'.at t).num * ((l.at t).den:Int) - (l.at t).num * ((l'.at t).den:Int))):pD t l l'=some (t + (l'.at t - l.at t) / ((l.v - l'.v:Int):Rat)):=by
 have hv:l.v≠l'.v:=λe=>by rw [e,Int.sub_self,Int.zero_mul] at h;omega
 unfold pD
 have hm:=FW (l:=l) (l':=l') t hv
 have hpos:0 < (l'.at t - l.at t) / ((l.v - l'.v:Int):Rat):=by
  rcases Int.lt_or_gt_of_ne (show l.v - l'.v≠0 by omega) with c | c
  ·have h2:(l'.at t).num * ((l.at t).den:Int) - (l.at t).num * ((l'.at t).den:Int) < 0:=by
    by_cases z:(l'.at t).num * ((l.at t).den:Int) - (l.at t).num * ((l'.at t).den:Int) < 0
    ·exact z
    ·have:=Int.mul_nonneg (show 0≤-(l.v - l'.v) by omega) (show 0≤(l'.at t).num * ((l.at t).den:Int) - (l.at t).num * ((l'.at t).den:Int) by omega)
     rw [Int.neg_mul] at this;omega
   have h3:l'.at t < l.at t:=by have:=lZ (l'.at t) (l.at t);rw [← this];omega
   have h4:0 < (l.at t - l'.at t) / ((l'.v - l.v:Int):Rat):=sU (by grind) (by exact_mod_cast (show (0:Int) < l'.v - l.v by omega))
   have k:((l.v - l'.v:Int):Rat)≠0:=df (by omega)
   have k':((l'.v - l.v:Int):Rat)≠0:=df (by omega)
   rw [Rat.intCast_sub] at k k' h4 ⊢
   generalize (l.v:Rat)=x at k k' h4 ⊢
   generalize (l'.v:Rat)=y at k k' h4 ⊢
   generalize l.at t=a at h4 ⊢
   generalize l'.at t=b at h4 ⊢
   have:(b - a) / (x - y)=(a - b) / (y - x):=by grind
   rw [this];exact h4
  ·have h2:0 < (l'.at t).num * ((l.at t).den:Int) - (l.at t).num * ((l'.at t).den:Int):=by
    by_cases z:0 < (l'.at t).num * ((l.at t).den:Int) - (l.at t).num * ((l'.at t).den:Int)
    ·exact z
    ·have:=Int.mul_nonneg (show 0≤l.v - l'.v by omega) (show 0≤-((l'.at t).num * ((l.at t).den:Int) - (l.at t).num * ((l'.at t).den:Int)) by omega)
     rw [Int.mul_neg] at this;omega
   have h3:l.at t < l'.at t:=by have:=lZ (l.at t) (l'.at t);rw [← this];omega
   exact sU (by grind) (by exact_mod_cast (show (0:Int) < l.v - l'.v by omega))
 rw [if_pos ⟨hv,by rw [hm];grind⟩,hm]
theorem MG {l l':aM} {t:Rat} (h:¬ 0 < (l.v - l'.v) * ((l'.at t).num * ((l.at t).den:Int) - (l.at t).num * ((l'.at t).den:Int))):pD t l l'=none:=by
 unfold pD
 refine if_neg λ⟨hv,hm⟩=>h ?_
 rw [FW t hv] at hm
 have hq:0 < (l'.at t - l.at t) / ((l.v - l'.v:Int):Rat):=by grind
 rcases Int.lt_or_gt_of_ne (show l.v - l'.v≠0 by omega) with c | c
 ·have h3:l'.at t < l.at t:=by
   by_cases z:l'.at t < l.at t
   ·exact z
   ·have k':(0:Rat) < ((l'.v - l.v:Int):Rat):=by exact_mod_cast (show (0:Int) < l'.v - l.v by omega)
    have e:(l'.at t - l.at t) / ((l.v - l'.v:Int):Rat) * ((l'.v - l.v:Int):Rat)=-(l'.at t - l.at t):=by
     have k2:((l.v - l'.v:Int):Rat)≠0:=df (by omega)
     rw [Rat.intCast_sub] at k2 ⊢
     rw [Rat.intCast_sub]
     generalize (l.v:Rat)=x at k2 ⊢
     generalize (l'.v:Rat)=y at k2 ⊢
     grind
    have:=Rat.mul_pos hq k'
    rw [e] at this
    grind
  have h4:=(lZ (l'.at t) (l.at t)).symm ▸ h3
  have:=Int.mul_pos (show 0 < -(l.v - l'.v) by omega) h4
  generalize (l'.at t).num * ((l.at t).den:Int)=x at this ⊢
  generalize (l.at t).num * ((l'.at t).den:Int)=y at this ⊢
  generalize l.v - l'.v=z at this ⊢
  rw [Int.neg_mul,← Int.mul_neg,Int.neg_sub] at this
  exact this
 ·have h3:l.at t < l'.at t:=by
   by_cases z:l.at t < l'.at t
   ·exact z
   ·have k':(0:Rat) < ((l.v - l'.v:Int):Rat):=by exact_mod_cast (show (0:Int) < l.v - l'.v by omega)
    have e:(l'.at t - l.at t) / ((l.v - l'.v:Int):Rat) * ((l.v - l'.v:Int):Rat)=l'.at t - l.at t:=by
     have k2:((l.v - l'.v:Int):Rat)≠0:=df (by omega)
     generalize ((l.v - l'.v:Int):Rat)=x at k2 ⊢
     grind
    have:=Rat.mul_pos hq k'
    rw [e] at this
    grind
  have h4:=(lZ (l.at t) (l'.at t)).symm ▸ h3
  exact Int.mul_pos c h4
theorem Mc {t p q:Rat} {w v:Int} (hv:(if w < 0 then -w else w)=v) (c:0 < w * (q.num * (p.den:Int) - p.num * (q.den:Int))):Rat.divInt (t.num * ((p.den:Int) * (q.den:Int) * v) + (if q.num * (p.den:Int) - p.num * (q.den:Int) < 0 then -(q.num * (p.den:Int) - p.num * (q.den:Int)) else q.num * (p.den:Int) - p.num * (q.den:Int)) * (t.den:Int)) ((t.den:Int) * ((p.den:Int) * (q.den:Int) * v))=t + (q - p) / (w:Rat):=by
 by_cases z:w < 0
 ·rw [if_pos z] at hv
  subst hv
  have h2:q.num * (p.den:Int) - p.num * (q.den:Int) < 0:=by
   by_cases y:q.num * (p.den:Int) - p.num * (q.den:Int) < 0
   ·exact y
   ·have:=Int.mul_nonneg (show 0≤-w by omega) (show 0≤q.num * (p.den:Int) - p.num * (q.den:Int) by omega)
    rw [Int.neg_mul] at this;omega
  rw [if_pos h2,Int.neg_sub,Int.mul_comm (p.den:Int) (q.den:Int),rp (p:=q) (q:=p) (show 0 < -w by omega)]
  congr 1
  have k:(w:Rat)≠0:=df (by omega)
  rw [Rat.intCast_neg]
  generalize (w:Rat)=x at k ⊢
  grind
 ·rw [if_neg z] at hv
  subst hv
  have z':w≠0:=λe=>by rw [e,Int.zero_mul] at c;omega
  have h2:¬ q.num * (p.den:Int) - p.num * (q.den:Int) < 0:=λy=>by
   have:=Int.mul_nonneg (show 0≤w by omega) (show 0≤-(q.num * (p.den:Int) - p.num * (q.den:Int)) by omega)
   rw [Int.mul_neg] at this;omega
  rw [if_neg h2,rp (show 0 < w by omega)]
abbrev Bp:Stmt:=(top 70)
abbrev oA:List Str:=["_law_legs","_law_clock","_law_one","_law_other"]
theorem lU:L2.aw ["_law_legs","_law_clock","_law_one","_law_other","_law_here","_law_there","_law_pace","_law_top","_law_under"] ["_law_legs","_law_clock","_law_one","_law_other"] (L2.au Bp):=dt
def Hi:cq:=λxs J Q _=>∃(D:Addr) (gs:List (Str × aM)) (ep:Nat) (t:Rat) (n n':Str) (l l':aM),xs=[.ref D,fr t,.str n,.str n']∧J D=some (.dct (bB gs) ep)∧(gs.map (·.1)).Nodup∧(n,l)∈gs∧(n',l')∈gs∧(∀x∈gs,jt 240 x.2)∧Sz 240 t∧Q (gv (pD t l l')) J
theorem F_ {f:Addr} {fd:FuncData} (F:bU K "_law_next" "_law_next" Bp f fd) (Z:bE mg) (i5:bj P w K mg base 2 "_law_at" dj h_) (j7:bj P w K mg base 1 "_law_low" dQ fQ):aS P w K mg base (cn P w) 3 f fd oA (cK K Hi):=by
 simp_arith [lU,(ai (aA (i:=4) lU.nd (aL i5 B hr (af (aj bI (rv 0) (rv 2)) (af (rv 1) ah))))
   (ai (aA (i:=5) lU.nd (aL i5 B hr (af (aj bI (rv 0) (rv 3)) (af (rv 1) ah))))
   (ai (aA (i:=6) lU.nd (ay c7 (aj ar (aj bI (rv 0) (rv 2)) ag) (aj ar (aj bI (rv 0) (rv 3)) ag)))
   (ai (aA (i:=7) lU.nd (ay c7 (ay aT (aj ar (rv 5) ag) (aj ar (rv 4) ag)) (ay aT (aj ar (rv 4) ag) (aj ar (rv 5) ag))))
   (ai (aP (aE sE (ay aT (rv 6) (rv 7)) ag) (ak (az dk)) aH)
   (ai (aA (i:=8) lU.nd (ay aT (ay aT (aj ar (rv 4) ag) (aj ar (rv 5) ag)) (aF ka rfl Z.abs boot_abs (af (rv 6) ah))))
   (ak (az (aL j7 B hr (af (ay bQ (ay aT (aj ar (rv 1) ag) (rv 8)) (ay aT (aF ka rfl Z.abs boot_abs (af (rv 7) ah)) (aj ar (rv 1) ag))) (af (ay aT (aj ar (rv 1) ag) (rv 8)) ah)))))))))))]
 ·obtain ⟨D,gs,ep,t,n,n',l,l',rfl,_⟩:=h;rfl
 obtain ⟨D,gs,ep,t,n,n',l,l',rfl,hD,gnd,hm,hm',gsz,st2,q⟩:=h
 refine hX ?_
 have hvn:fA (bB gs) n=some l.V:=dX (f:=aM.V) gnd hm
 have hvn':fA (bB gs) n'=some l'.V:=dX (f:=aM.V) gnd hm'
 have sll:=gsz _ hm
 have sll':=gsz _ hm'
 have sla:=sll.jQ st2
 have sla':=sll'.jQ st2
 simp_all! [hD,hvn]
 refine ⟨l,t,rfl,sll.m.mono (by decide),sll.p.mono (by decide),st2.mono (by decide),sll.v,?_⟩
 simp_all! [hD,hvn']
 refine ⟨l',t,rfl,sll'.m.mono (by decide),sll'.p.mono (by decide),st2.mono (by decide),sll'.v,?_⟩
 simp_all! [hD,hvn,hvn',iu]
 refine ⟨.of sla'.num sla.den,.of sla.num sla'.den,?_⟩
 have bv:Bd 70 (l.v - l'.v):=(sll.v.sub (k:=66) sll'.v).mono (by decide)
 have bt:Bd 1590 ((l'.at t).num * ((l.at t).den:Int) - (l.at t).num * ((l'.at t).den:Int)):=.sub (Bd.mul (k:=1580) sla'.num sla.den) (Bd.mul (k:=1580) sla.num sla'.den)
 simp_all! []
 refine ⟨.of bv bt,?_⟩
 by_cases c:0 < (l.v - l'.v) * ((l'.at t).num * ((l.at t).den:Int) - (l.at t).num * ((l'.at t).den:Int))
 ·rw [IP c] at q
  rw [if_neg (by omega)]
  obtain ⟨v,hv0,hva⟩:∃v:Int,0 < v∧(if l.v - l'.v < 0 then -(l.v - l'.v) else l.v - l'.v)=v:=⟨_,by have hv:l.v - l'.v≠0:=(λe=>by rw [e,Int.zero_mul] at c;omega);split <;> omega,rfl⟩
  have bv':Bd 70 v:=by rw [← hva];split;exact bv.neg;exact bv
  have z1:Bd 1650 (((l.at t).den:Int) * ((l'.at t).den:Int) * v):=.mul (.mul (k:=1580) sla.den sla'.den) bv'
  have z3:Bd 1900 ((t.den:Int) * (((l.at t).den:Int) * ((l'.at t).den:Int) * v)):=.mul st2.den z1
  have bt':Bd 1590 (if (l'.at t).num * ((l.at t).den:Int) - (l.at t).num * ((l'.at t).den:Int) < 0 then -((l'.at t).num * ((l.at t).den:Int) - (l.at t).num * ((l'.at t).den:Int)) else (l'.at t).num * ((l.at t).den:Int) - (l.at t).num * ((l'.at t).den:Int)):=by split;exact bt.neg;exact bt
  have hd:0 < (t.den:Int) * (((l.at t).den:Int) * ((l'.at t).den:Int) * v):=Int.mul_pos (cP _) (Int.mul_pos (Int.mul_pos (cP _) (cP _)) hv0)
  have hw:=Mc (t:=t) (p:=l.at t) (q:=l'.at t) hva c
  simp_all! [hva]
  refine ⟨.of sla.den sla'.den,.of (Bd.mul (k:=1580) sla.den sla'.den) bv',?_⟩
  simp_all! [fQ]
  refine ⟨.of st2.num z1,.of bt' st2.den,.of st2.den z1,hd,z3.mono (by decide),?_⟩
  rw [hw]
  exact q
 ·rw [MG c] at q
  rw [if_pos (by omega)]
  simp_all! []
  exact q
theorem FN (x:Int) (p:Rat):(x * (p.den:Int)≤p.num)=((x:Rat)≤p):=by
 rw [Rat.le_iff,Rat.num_intCast,Rat.den_intCast]
 simp
theorem Rl.Ue {L:Ln} {gs:List (Str × aM)} (h:Rl L gs) (t:Rat):L.fs.map (λy=>y.2.at t)=gs.map λy=>y.2.at t:=by
 refine List.ext_getElem (by rw [Us,Us,h.len]) λi h1 h2=>?_
 rw [U_,U_]
 have hi:i < gs.length:=by rwa [Us] at h2
 have hi':i < L.fs.length:=by rwa [Us] at h1
 have e:gs[i].1=L.fs[i].1:=by
  have:=congrArg (λl:List Str=>l[i]?) h.nm
  simp only [Uw,Ut hi,Ut hi',VP] at this
  exact Option.some.inj this
 exact ((h.ln gs[i].1 gs[i].2 L.fs[i].2 (UP hi) (by rw [e];exact UP hi')).2 t).symm
theorem Rl.cnt {L:Ln} {gs:List (Str × aM)} (h:Rl L gs) (t:Rat) (f:Rat→Bool):(L.fs.filter λy=>f (y.2.at t)).length=(gs.filter λy=>f (y.2.at t)).length:=by
 have hf:∀l:List (Str × aM),(l.filter λy=>f (y.2.at t)).length=((l.map λy=>y.2.at t).filter f).length:=λl=>by rw [U2,Us];rfl
 rw [hf,hf,h.Ue t]
theorem BQ (o:Option (Ky × Ky)):HJ (fC o):=by
 cases o with
 | none=>exact ⟨by simp [fC,nv],by simp [fC,gy,dep]⟩
 | some x=>exact (OP _).mpr True.intro
theorem E_ {a b:Int} (hb:0 < b):(a.fdiv b).natAbs≤a.natAbs:=by
 rw [Int.fdiv_eq_ediv_of_nonneg _ (by omega)]
 rcases (show a < 0∨0≤a by omega) with h | h
 ·have h1:a / b < 0:=Int.ediv_neg_of_neg_of_pos h hb
  have h2:a≤a / b:=Int.le_ediv_of_mul_le hb (by
   have:=Int.mul_nonneg (show 0≤-a by omega) (show 0≤b - 1 by omega)
   rw [Int.mul_sub,Int.mul_one,Int.neg_mul] at this
   omega)
  omega
 ·have h1:=Int.ediv_nonneg h (show 0≤b by omega)
  have h2:=Int.ediv_le_self b h
  omega
abbrev xB:Stmt:=(top 71)
abbrev mq:List Str:=["_law_lane","_law_legs","_law_clock","_law_row","_law_mode"]
theorem dB:L2.aw ["_law_lane","_law_legs","_law_clock","_law_row","_law_mode","_law_best","_law_found","_law_one","_law_other","_law_here","_law_place","_law_many","_law_name","_law_moment"] ["_law_lane","_law_legs","_law_clock","_law_row","_law_mode"] (L2.au xB):=dt
def K9 (cN cL:Addr):cq:=λxs J Q _=>∃(p:Addr) (L:Ln) (D:Addr) (gs:List (Str × aM)) (ep k:Nat) (r0 r1 r2 r3 r4 r5 r6 r7 r8 m:Int),xs=[.ref p,.ref D,fr L.t,.fl [.int r0,.int r1,.int r2,.int r3,.int r4,.int r5,.int r6,.int r7,.int r8],.int m]∧bh cN cL J p L∧b_ L∧J D=some (.dct (bB gs) ep)∧Rl L gs∧L.t.den≤60∧L.t≤((500 * k:Nat):Rat)∧k≤1000∧0≤r4∧r4 < 2 ^ 60∧0≤r5∧0≤r7∧0≤r8∧r8 < 97∧0≤m∧m < 4∧Q (.bl true) J
theorem D5 {cN cL eC eM eP f:Addr} {fd:FuncData} (F:bU K "_law_ahead" "_law_ahead" xB f fd) (Z:bE mg) (Dc:bj P w K mg base 4 "_law_closest" jY tH) (nE:bj P w K mg base 3 "_law_maybe" iP xY) (Lp:bj P w K mg base 3 "_law_next" oA Hi) (i5:bj P w K mg base 2 "_law_at" dj h_) (vN:bj P w K mg base 2 "_law_later" iN xX) (zU:bj P w K mg base 4 "_law_passrows" ji tQ) (Oq:bj P w K mg base 3 "_law_due" qk K') (gP:bV P w K mg base cN 6 "closest" jW (tK cN cL)) (d5:bV P w K mg base cN 6 "meets" iL (tL cN cL eC)) (fg:bV P w K mg base cN 6 "count_from" gW (zH cN cL)) (cS:bV P w K mg base cN 7 "foretold" fL (xZ cN cL eM eP)):aS P w K mg base (cn P w) 8 f fd mq (cK K (K9 cN cL)):=by
 simp_arith [dB,(ai (aA (i:=5) dB.nd (aL Dc B hr (af (rv 1) (af (rv 2) ah))))
   (ai (aA (i:=6) dB.nd (dy (pl:=_) gP B hr (rv 0)))
   (ai (aP (cf (eI (aE (fF hr.aQ) (rv 6) (rv 5)) (dm (cf (dT (aE jc (rv 5) dk) (c5 (bT (bq (aL nE B hr (af (aj ar (rv 6) ag) (af (aj ar (rv 5) ag) ah))))))))))) (ak (az dw)) aH)
   (ai (aP (aE jV (aF nM rfl Z.len boot_len (af (rv 1) ah)) ag) (ai (aA (i:=7) dB.nd (aj ar (c8 (kg rfl) rfl Z.list boot_list (af (rv 1) ah)) (ay bX (aj ar (rv 3) ag) (aF nM rfl Z.len boot_len (af (rv 1) ah)))))
   (ai (aA (i:=8) dB.nd (aj ar (c8 (kg rfl) rfl Z.list boot_list (af (rv 1) ah)) (ay bX (aj ar (rv 3) ag) (aF nM rfl Z.len boot_len (af (rv 1) ah)))))
   (ai (aP (bT (bq (aL nE B hr (af (aX (pl:=_) d5 B hr (rv 0) (af (rv 7) (af (rv 8) ah))) (af (aL Lp B hr (af (rv 1) (af (rv 2) (af (rv 7) (af (rv 8) ah))))) ah))))) (ak (az dw)) aH)
   (ai (aA (i:=9) dB.nd (aL i5 B hr (af (aj bI (rv 1) (rv 7)) (af (rv 2) ah))))
   (ai (aA (i:=10) dB.nd (ay c7 (ay bQ (ay d6 (aj ar (rv 9) ag) (aj ar (rv 9) ag)) (ay bX (aj ar (rv 3) ag) ag)) ag))
   (ai (aA (i:=11) dB.nd ag)
   (ai (cR bG rfl (gB (rv 1)) (bC (i:=12) dB.nd) (ai (aA (i:=9) dB.nd (aL i5 B hr (af (aj bI (rv 1) (rv 12)) (af (rv 2) ah))))
   (ak (aA (i:=11) dB.nd (ay bQ (rv 11) (c8 L8 rfl Z.int boot_int (af (er zd (aj ar (rv 9) ag) (ay aT (rv 10) (aj ar (rv 9) ag))) ah)))))))
   (ak (aP (aE (fF hr.aQ) (aX (pl:=_) fg B hr (rv 0) (af (rv 10) ah)) (rv 11)) (ak (az dw)) aH))))))))) aH)
   (ai (aA (i:=13) dB.nd (aL vN B hr (af (rv 2) (af (aj ar (rv 3) ag) (af (aj ar (rv 3) ag) (af (rv 4) ah))))))
   (ak (az (aL zU B hr (af (aX (pl:=_) cS B hr (rv 0) (af (rv 13) ah)) (af (aL Oq B hr (af (rv 1) (af (rv 2) (af (rv 13) ah)))) ah))))))))))]
 ·obtain ⟨p,L,D,gs,ep,k,r0,r1,r2,r3,r4,r5,r6,r7,r8,m,rfl,_⟩:=h;rfl
 obtain ⟨p,L,D,gs,ep,k,r0,r1,r2,r3,r4,r5,r6,r7,r8,m,rfl,b,ok,hD,rl,td,tl,hk,r40,r41,r50,r70,r80,r81,m0,m1,q⟩:=h
 refine hX ?_
 have bo:=b.ob
 have gnd:=rl.nd ok.toa_
 have gsz2:=rl.sz
 have gsz:∀x∈gs,jt 900 x.2:=λx hx=>(gsz2 x hx).mono (by decide)
 have gl:gs.length≤12:=by rw [rl.len];exact ok.Fc
 have st2:Sz 240 L.t:=(mh ok.ts).mono (by decide)
 have st:=ok.BA
 have hll:(bB gs).length=gs.length:=by unfold bB;rw [Us]
 have hkv:(bB gs).map (λkv=>PV.str kv.1)=(gs.map (·.1)).map PV.str:=by unfold bB;rw [Ux,Ux];rfl
 have kgn:((gs.map (key L.t)).map Ky.n).Nodup:=by rw [cD];exact gnd
 have eks:cI (L.fs.map (key L.t))=cI (gs.map (key L.t)):=sF ok.knd kgn (rl.same L.t)
 have pks:∀m,gU L.t (gs.map (key L.t)) m=gU L.t (L.fs.map (key L.t)) m:=λm=>Eh λx=>(rl.same L.t x).symm
 simp_all! []
 refine ⟨D,gs,ep,L.t,rfl,hD,gnd,gl,gsz2,st2,?_⟩
 rw [← eks]
 simp_all! [bo]
 refine ⟨dD _ _ _ _,p,L,rfl,b,ok,?_⟩
 generalize fV ((cI (L.fs.map (key L.t))).zip (cI (L.fs.map (key L.t))).tail)=o
 simp_all! []
 refine ⟨BQ _,(BQ _).1,?_⟩
 rw [eq_self]
 have go:Nq [some (.ref p),some (.ref D),some (fr L.t),some (.fl [.int r0,.int r1,.int r2,.int r3,.int r4,.int r5,.int r6,.int r7,.int r8]),some (.int m),some (fC o),some (fC o),none,none,none,none,none,none,none] J:=by
  refine hNq _ _ ?_
  clear hNq Nq
  generalize some (fC o)=u5
  simp_all! [hD,hll]
  have fin:∀u7 u8 u9 u10 u11 u12:Option PV,Nq [some (.ref p),some (.ref D),some (fr L.t),some (.fl [.int r0,.int r1,.int r2,.int r3,.int r4,.int r5,.int r6,.int r7,.int r8]),some (.int m),u5,u5,u7,u8,u9,u10,u11,u12,none] J:=λu7 u8 u9 u10 u11 u12=>by
   refine hNq _ _ ?_
   clear hNq Nq
   simp_all! []
   refine ⟨L.t,r4,r5,m,rfl,r40,r50,m0,m1,r41,st,λm' hm'=>?_⟩
   have hg:gO m'.num m'.den=true:=rY (Rat.le_trans ok.t0 hm'.le) (vh hm' td) (FO.mpr (so (by omega) (x5 (yN hm' ok.t0) tl)))
   simp_all! [bo]
   refine ⟨dD _ _ _ _,p,L,m'.num,m'.den,rfl,b,ok,(λz=>by rw [hg] at z;cases z),λm2 h1 h2 _=>?_⟩
   obtain rfl:m2=m':=Rat.ext h1 (by omega)
   refine ⟨λz=>absurd z (Rat.not_lt.mpr hm'.le),λ_=>.inl ?_⟩
   simp_all! []
   refine ⟨D,gs,ep,L.t,m2,rfl,hD,gnd,by omega,st2,(mh (rZ hg).1).mono (by decide),gsz2,?_⟩
   rw [pks]
   exact ⟨_,_,rfl,rfl,Ei L.t m2 _ (by rw [cD];exact ok.Kr) (by rw [Us];exact ok.Fc),q⟩
  clear hNq
  split
  ·rename_i c1
   have onm:∀{m:Str} {k:aM},(m,k)∈gs→m∈L.row:=λhm=>(ok.rm _).mpr (by rw [← rl.nm];exact Uu.mpr ⟨_,hm,rfl⟩)
   have ofs:∀{c:Cf},c∈L.cs→c.g=none→(c.n,c.cur)∈L.fs:=λhc hg=>Uu.mpr ⟨_,Ln.cW.mpr ⟨hc,hg⟩,rfl⟩
   obtain ⟨n,hn,ha⟩:=lQ (xs:=gs.map (·.1)) r70 (by rw [Us];omega)
   obtain ⟨n',hn',ha'⟩:=lQ (xs:=gs.map (·.1)) r80 (by rw [Us];omega)
   obtain ⟨l,hm,hvn⟩:=oX (f:=aM.V) gnd hn
   obtain ⟨l',hm',hvn'⟩:=oX (f:=aM.V) gnd hn'
   have hvn:fA (bB gs) n=some l.V:=hvn
   rw [Us] at ha ha'
   have sll:=gsz _ hm
   have sla:=(gsz2 _ hm).jQ st2
   simp_all! [hD,hkv,ha,hll]
   refine ⟨c1,?_⟩
   simp_all! [hD,hkv,ha',hll]
   refine ⟨c1,?_⟩
   simp_all! [bo]
   refine ⟨dD _ _ _ _,p,L,n,n',rfl,b,ok.toa_,λc hc c' hc' e e' hg hg'=>?_,λz=>(z.elim (λz=>absurd (onm hm) z) λz=>absurd (onm hm') z)⟩
   subst e e'
   rw [← FY (rl.ln _ _ _ hm (ofs hc hg)) (rl.ln _ _ _ hm' (ofs hc' hg')) L.t]
   simp_all! []
   refine ⟨D,gs,ep,L.t,c.n,c'.n,l,l',rfl,hD,gnd,hm,hm',gsz2,st2,pD L.t l l',rfl,?_⟩
   simp_all! [hD,hvn]
   refine ⟨l,L.t,rfl,sll.m,sll.p,st,sll.v,?_⟩
   simp_all! []
   refine ⟨⟨eV _,sla.den.mono (by decide)⟩,by decide,?_⟩
   have bx:Bd 1000 ((l.at L.t).num.fdiv ((l.at L.t).den:Int) + r8 % 3 - 1):=(((sla.num.le (E_ (cP _))).add (k:=791) (Bd.small (x:=r8 % 3) (by omega) (by omega))).sub (k:=792) (Bd.small (x:=1) (by decide) (by decide))).mono (by decide)
   generalize (l.at L.t).num.fdiv ((l.at L.t).den:Int) + r8 % 3 - 1=x at bx ⊢
   simp_all! [hD,hkv]
   obtain ⟨In2,hIn2⟩:∃In2:Nat→Sr→Hq→Prop,∀j τ Jb,In2 j τ Jb↔∃(u9 u12:Option PV),τ=[some (.ref p),some (.ref D),some (fr L.t),some (.fl [.int r0,.int r1,.int r2,.int r3,.int r4,.int r5,.int r6,.int r7,.int r8]),some (.int m),u5,u5,some (.str c.n),some (.str c'.n),u9,some (.int x),some (.int (((gs.take j).filter λy=>decide ((x:Rat)≤y.2.at L.t)).length:Nat)),u12,none]∧Jb=J:=⟨_,λ_ _ _=>Iff.rfl⟩
   refine ed In2 ((hIn2 _ _ _).mpr ⟨_,_,rfl,rfl⟩) (λi τ Jb h=>?_) ?_ ?_
   ·obtain ⟨_,_,_,rfl⟩:=(hIn2 _ _ _).mp h
    exact hD
   ·intro j y τ Jb hx hv
    obtain ⟨u9,u12,rfl,rfl⟩:=(hIn2 _ _ _).mp hv
    clear hv fin
    have hj:j < gs.length:=by have:=(Uv.mp hx).1;simpa using this
    rw [Uw,Uw,Ut hj] at hx
    cases hx
    rcases hgj:gs[j] with ⟨n,l⟩
    have hmem:(n,l)∈gs:=by rw [← hgj];exact UP hj
    have hvn:fA (bB gs) n=some l.V:=dX (f:=aM.V) gnd hmem
    have sll:=gsz _ hmem
    have sla:=(gsz2 _ hmem).jQ st2
    have et:gs.take (j + 1)=gs.take j ++ [(n,l)]:=by rw [UN,Ut hj,hgj];rfl
    simp_all! [hD,hvn]
    refine ⟨l,L.t,rfl,sll.m,sll.p,st,sll.v,?_⟩
    simp_all! [FN]
    refine ⟨.of bx sla.den,_,rfl,(hIn2 _ _ _).mpr ⟨some (fr (l.at L.t)),some (.str n),?_,rfl⟩⟩
    rw [et,Vo,U0,VB,UR]
    by_cases c2:(x:Rat)≤l.at L.t
    ·rw [decide_eq_true c2];rfl
    ·rw [decide_eq_false c2];rfl
   intro τ Jb hv
   obtain ⟨u9,u12,rfl,rfl⟩:=(hIn2 _ _ _).mp hv
   clear hv hIn2 In2
   rw [Us,Us,UQ]
   simp_all! [bo]
   refine ⟨dD _ _ _ _,p,L,x,rfl,b,ok,bx.mono (by decide),?_⟩
   rw [rl.cnt L.t (λz=>decide ((x:Rat)≤z))]
   simp_all! []
   exact fin _ _ _ _ _ _
  ·exact fin _ _ _ _ _ _
 clear hNq
 cases o with
 | none=>exact go
 | some y =>
  have nb:yM (fC (some y))=false:=rfl
  have b0:fz J (fC (some y)) (.int 0)=some (fr (mH y)):=de _ _
  simp_all! [nb,b0]
  exact ⟨some (mH y),rfl,go⟩
abbrev iV:Stmt:=(L2.inClass (top 42) 21)
abbrev fm:List Str:=["self","name"]
theorem tu:L2.aw ["self","name"] ["self","name"] (L2.au iV):=dt
def oR (cN cL eC:Addr):cq:=λxs J Q E=>∃p L n,xs=[.ref p,.str n]∧bh cN cL J p L∧a_ L∧(∀c∈L.cs,c.n=n→Q (.ref c.a) J)∧(n ∉ L.cs.map Cf.n→E eC J)
theorem sC {cN cL eC f:Addr} {fd:FuncData} (F:bU K "log_of" "Lane.log_of" iV f fd) (Z:bE mg) (ax:dC K mg "Lane" cN) (aI:aK K cN "logs") (eZ:Own K mg "NoCraft" eC):aS P w K mg base (cn P w) 1 f fd fm (cK K (oR cN cL eC)):=by
 simp_arith [tu,(ai (aP (aE Ck (rv 1) (aV ax.cl aI (rv 0))) (ak (c9 eZ rfl bW B.kn rfl (af bJ ah))) aH)
   (ak (az (aj bI (aV ax.cl aI (rv 0)) (rv 1)))))]
 ·obtain ⟨p,L,n,rfl,_⟩:=h;rfl
 obtain ⟨p,L,n,rfl,b,ok,q,qe⟩:=h
 have bo:=b.ob
 have bd:=b.dc
 refine hX ?_
 simp_all! [bo,pB,bd,ok.T_]
 by_cases c:n∈L.cs.map Cf.n
 ·rw [if_pos (by simpa using c)]
  obtain ⟨c0,hc,rfl⟩:=Uu.mp c
  simp_all! [bo,pB,bd,ok.va hc]
  exact q c0 hc rfl
 ·rw [if_neg (by simpa using c)]
  simp_all! [eW]
  exact qe c
abbrev k8:Stmt:=(L2.inClass (top 42) 17)
abbrev oh:List Str:=["self","name"]
theorem xM:L2.aw ["self","name"] ["self","name"] (L2.au k8):=dt
def CZ (cN cL eC:Addr):cq:=λxs J Q E=>∃p L n,xs=[.ref p,.str n]∧bh cN cL J p L∧a_ L∧(∀c∈L.cs,c.n=n→Q (gv c.g) J)∧(n ∉ L.cs.map Cf.n→E eC J)
theorem wF {cN cL eC f:Addr} {fd:FuncData} (F:bU K "left" "Lane.left" k8 f fd) (Z:bE mg) (ax:dC K mg "Lane" cN) (b9:bV P w K mg base cN 1 "log_of" fm (oR cN cL eC)) (mM:bV P w K mg base cL 1 "left" qh (CS cL)):aS P w K mg base (cn P w) 2 f fd oh (cK K (CZ cN cL eC)):=by
 simp_arith [xM,(ak (az (dy (pl:=_) mM B hr (aX (pl:=_) b9 B hr (rv 0) (af (rv 1) ah)))))]
 ·obtain ⟨p,L,n,rfl,_⟩:=h;rfl
 obtain ⟨p,L,n,rfl,b,ok,q,qe⟩:=h
 have bo:=b.ob
 refine hX ?_
 simp_all! [bo]
 refine ⟨dD _ _ _ _,p,L,n,rfl,b,ok,λc hc e=>?_,qe⟩
 have lo:=(b.lg c hc).o
 simp_all! [lo]
 exact ⟨R' _ _,c.a,c.r,c.w,c.g,rfl,b.lg c hc,q c hc e⟩
abbrev g_:Stmt:=(L2.inClass (top 42) 16)
abbrev jX:List Str:=["self","name"]
theorem qK:L2.aw ["self","name"] ["self","name"] (L2.au g_):=dt
def CW (cN cL eC:Addr):cq:=λxs J Q E=>∃p L n,xs=[.ref p,.str n]∧bh cN cL J p L∧a_ L∧(∀c∈L.cs,c.n=n→Q (.fl (c.w.map aM.V)) J∨∀l,J l=none→Q (.ref l) (put J l (.lst (c.w.map aM.V))))∧(n ∉ L.cs.map Cf.n→E eC J)
theorem qE {cN cL eC f:Addr} {fd:FuncData} (F:bU K "history" "Lane.history" g_ f fd) (Z:bE mg) (ax:dC K mg "Lane" cN) (b9:bV P w K mg base cN 1 "log_of" fm (oR cN cL eC)) (mO:bV P w K mg base cL 1 "legs" qi (CT cL)):aS P w K mg base (cn P w) 2 f fd jX (cK K (CW cN cL eC)):=by
 simp_arith [qK,(ak (az (dy (pl:=_) mO B hr (aX (pl:=_) b9 B hr (rv 0) (af (rv 1) ah)))))]
 ·obtain ⟨p,L,n,rfl,_⟩:=h;rfl
 obtain ⟨p,L,n,rfl,b,ok,q,qe⟩:=h
 have bo:=b.ob
 refine hX ?_
 simp_all! [bo]
 refine ⟨dD _ _ _ _,p,L,n,rfl,b,ok,λc hc e=>?_,qe⟩
 have lo:=(b.lg c hc).o
 simp_all! [lo]
 exact ⟨R_ _ _,c.a,c.r,c.w,c.g,rfl,b.lg c hc,q c hc e⟩
theorem Cf.Fq {L:Ln} (ok:a_ L) {c:Cf} (hc:c∈L.cs) (hg:c.g≠none):there c.w c.g L.t=false:=by
 obtain ⟨q,e⟩:=Option.ne_none_iff_exists'.mp hg
 obtain ⟨l,ls,ew⟩:=U3 (ok.ne c hc)
 rw [e,ew]
 unfold there
 have h:=(ok.gz c hc q e).2
 simp only [V6,Km]
 rw [decide_eq_false (Rat.not_lt.mpr h),V0]
abbrev gq:Stmt:=(L2.inClass (top 42) 18)
abbrev jh:List Str:=["self","name","moment"]
theorem jk:L2.aw ["self","name","moment","log"] ["self","name","moment"] (L2.au gq):=dt
def tO (cN cL eC eN:Addr):cq:=λxs J Q E=>∃(p:Addr) (L:Ln) (n:Str) (q:Rat),xs=[.ref p,.str n,fr q]∧bh cN cL J p L∧a_ L∧Sz 900 q∧(n ∉ L.cs.map Cf.n→E eC J)∧(n∈L.cs.map Cf.n→L.t < q→E eN J) ∧
 (∀c∈L.cs,c.n=n→q≤L.t→(there c.w c.g q=true→∀l,d_ c.w q=some l→Q (fr (l.at q)) J)∧(there c.w c.g q=false→E eN J))
theorem pG {cN cL eC eN f:Addr} {fd:FuncData} (F:bU K "place_at" "Lane.place_at" gq f fd) (Z:bE mg) (ax:dC K mg "Lane" cN) (aB:aK K cN "now") (cH:Own K mg "NotThere" eN) (b9:bV P w K mg base cN 1 "log_of" fm (oR cN cL eC)) (kI:bV P w K mg base cL 5 "place" oq (zC cL eN)) (cO:bj P w K mg base 1 "less" fo cy):aS P w K mg base (cn P w) 6 f fd jh (cK K (tO cN cL eC eN)):=by
 simp_arith [jk,(ai (aA (i:=3) jk.nd (aX (pl:=_) b9 B hr (rv 0) (af (rv 1) ah)))
   (ai (aP (bq (aL cO B hr (af (aV ax.cl aB (rv 0)) (af (rv 2) ah)))) (ak (c9 cH rfl bW B.kn rfl (af bJ ah))) aH)
   (ak (az (aX (pl:=_) kI B hr (rv 3) (af (rv 2) ah))))))]
 ·obtain ⟨p,L,n,q',rfl,_⟩:=h;rfl
 obtain ⟨p,L,n,q',rfl,b,ok,sq,qe,ql,q⟩:=h
 have bo:=b.ob
 refine hX ?_
 simp_all! [bo]
 refine ⟨dD _ _ _ _,p,L,n,rfl,b,ok,λc hc e=>?_,qe⟩
 have hn:n∈L.cs.map Cf.n:=Uu.mpr ⟨c,hc,e⟩
 have q:=q c hc e
 have lo:=(b.lg c hc).o
 simp_all! [bo,pA,cy]
 refine ⟨ok.BA.mono (by decide),sq.mono (by decide),?_⟩
 by_cases c1:L.t < q'
 ·rw [if_pos c1]
  simp_all! [eW]
  exact ql hn c1
 ·rw [if_neg c1]
  have q:=q (Rat.not_lt.mp c1)
  simp_all! [lo]
  exact ⟨Sa _ _,c.a,c.r,c.w,c.g,q',rfl,b.lg c hc,ok.ne c hc,UM (ok.len c hc) (by decide),sq,λl hl=>(ok.ck c hc l hl).Ax,λu hu=>(mh (ok.gz c hc u hu).1).mono (by decide),q.1,q.2⟩
theorem yB {p q:Rat}:(p.num * (q.den:Int)≤q.num * (p.den:Int))=(p≤q):=propext (Rat.le_iff p q).symm
theorem DA {p q:Rat}:(p.num * (q.den:Int) < q.num * (p.den:Int))=(p < q):=propext (Rat.lt_iff p q).symm
def held (rows:List aM) (t:Rat):Option aM:=(d_ rows t).or rows.head?
abbrev Bn:Stmt:=(top 67)
abbrev oz:List Str:=["_law_rows","_law_moment"]
theorem ra:L2.aw ["_law_rows","_law_moment","_law_best","_law_leg"] ["_law_rows","_law_moment"] (L2.au Bn):=dt
def Bw:cq:=λxs J Q _=>∃(rows:List aM) (t:Rat),xs=[.fl (rows.map aM.V),fr t]∧rows≠[]∧Sz 9000 t∧(∀l∈rows,jt 900 l)∧∀l,held rows t=some l→Q l.V J
theorem si (ls:List aM) (l:aM) (t:Rat):d_ (ls ++ [l]) t=if l.m≤t then some l else d_ ls t:=by
 unfold d_
 rw [Vo,U0]
 by_cases c:l.m≤t
 ·rw [if_pos c,if_pos (decide_eq_true c),VB,UX]
 ·rw [if_neg c,if_neg (by simp [c]),VB,Vc]
theorem F8 {f:Addr} {fd:FuncData} (F:bU K "_law_held" "_law_held" Bn f fd) (Z:bE mg):aS P w K mg base (cn P w) 1 f fd oz (cK K Bw):=by
 simp_arith [ra,(ai (aA (i:=2) ra.nd (aj ar (rv 0) ag))
   (ai (cR bG rfl (d7 (rv 0)) (bC (i:=3) ra.nd) (ak (aP (aE sE (ay aT (aj ar (aj ar (rv 3) ag) ag) (aj ar (rv 1) ag)) (ay aT (aj ar (rv 1) ag) (aj ar (aj ar (rv 3) ag) ag))) (ak (aA (i:=2) ra.nd (rv 3))) aH)))
   (ak (az (rv 2)))))]
 ·obtain ⟨rows,t,rfl,_⟩:=h;rfl
 obtain ⟨rows,t,rfl,hne,st,sl,q⟩:=h
 obtain ⟨l0,ls,e0⟩:∃l ls,rows=l :: ls:=U3 hne
 have h0:c4 (rows.map aM.V) 0=some l0.V:=by rw [e0];exact de _ _
 refine hX ?_
 simp_arith! [bc,h0]
 obtain ⟨Inv,hInv⟩:∃Inv:Nat→Sr→Hq→Prop,∀i τ J',Inv i τ J'↔∃(l:aM) (u:Option PV),τ=[some (.fl (rows.map aM.V)),some (fr t),some l.V,u]∧J'=J∧(d_ (rows.take i) t).or (some l0)=some l:=⟨_,λ_ _ _=>Iff.rfl⟩
 refine ed Inv ((hInv _ _ _).mpr ⟨l0,_,rfl,rfl,rfl⟩) (λ_ _ _ _=>trivial) ?_ ?_
 ·intro i x τ J' hx hv
  obtain ⟨l,u,rfl,rfl,hl⟩:=(hInv _ _ _).mp hv
  rw [Uw] at hx
  cases e:rows[i]? with
  | none=>rw [e] at hx;cases hx
  | some y =>
   rw [e] at hx;cases hx
   have sy:=(sl y (Uz e)).m
   have et:rows.take (i + 1)=rows.take i ++ [y]:=by rw [UN,e];rfl
   simp_arith! [bc,mf,yB]
   refine ⟨.of sy.num st.den,.of st.num sy.den,?_⟩
   split
   ·rename_i c
    exact (hInv _ _ _).mpr ⟨y,_,rfl,rfl,by rw [et,si,if_pos c];rfl⟩
   ·rename_i c
    exact (hInv _ _ _).mpr ⟨l,_,rfl,rfl,by rw [et,si,if_neg c];exact hl⟩
 ·intro τ J' hv
  obtain ⟨l,u,rfl,rfl,hl⟩:=(hInv _ _ _).mp hv
  simp_arith! [bc]
  rw [Us,UQ] at hl
  exact q l (by unfold held;rw [e0];rw [e0] at hl;exact hl)
abbrev G6:Stmt:=(top 68)
abbrev qm:List Str:=["_law_rows","_law_gone","_law_moment"]
theorem G':L2.aw ["_law_rows","_law_gone","_law_moment","_law_first"] ["_law_rows","_law_gone","_law_moment"] (L2.au G6):=dt
def La:cq:=λxs J Q _=>∃(rows:List aM) (g:Option Rat) (t:Rat),xs=[.fl (rows.map aM.V),gv g,fr t]∧rows≠[]∧Sz 9000 t∧(∀l∈rows,jt 900 l)∧(∀q,g=some q→Sz 900 q)∧(there rows g t=true→∀l,d_ rows t=some l→Q l.V J)∧(there rows g t=false→Q .non J)
theorem Je {f:Addr} {fd:FuncData} (F:bU K "_law_was" "_law_was" G6 f fd) (Z:bE mg) (Lo:bj P w K mg base 1 "_law_held" oz Bw):aS P w K mg base (cn P w) 2 f fd qm (cK K La):=by
 simp_arith [G',(ai (aA (i:=3) G'.nd (aj ar (aj ar (rv 0) ag) ag))
   (ai (aP (aE fj (ay aT (aj ar (rv 2) ag) (aj ar (rv 3) ag)) (ay aT (aj ar (rv 3) ag) (aj ar (rv 2) ag))) (ak (az dk)) aH)
   (ai (aP (cf (dT (aE jc (rv 1) dk) (c5 (aE sE (ay aT (aj ar (rv 1) ag) (aj ar (rv 2) ag)) (ay aT (aj ar (rv 2) ag) (aj ar (rv 1) ag)))))) (ak (az dk)) aH)
   (ak (az (aL Lo B hr (af (rv 0) (af (rv 2) ah))))))))]
 ·obtain ⟨rows,g,t,rfl,_⟩:=h;rfl
 obtain ⟨rows,g,t,rfl,hne,st,sl,sg,q,qn⟩:=h
 obtain ⟨l0,ls,e0⟩:∃l ls,rows=l :: ls:=U3 hne
 have h0:c4 (rows.map aM.V) 0=some l0.V:=by rw [e0];exact de _ _
 have s0:=(sl l0 (by rw [e0];simp)).m
 have et:there rows g t=(!decide (t < l0.m) && Km g t):=by rw [e0];rfl
 refine hX ?_
 simp_arith! [bc,h0,mf,DA]
 refine ⟨.of st.num s0.den,.of s0.num st.den,?_⟩
 by_cases c:t < l0.m
 ·rw [if_pos c];exact qn (by rw [et,decide_eq_true c];rfl)
 rw [if_neg c]
 have fin:there rows g t=true→Bw [.fl (rows.map aM.V),fr t] J Q E2:=λhc=>by
  refine ⟨rows,t,rfl,hne,st,sl,λl hl=>?_⟩
  obtain ⟨l',h1,h2,_⟩:=oV hc
  refine q hc l ?_
  unfold held at hl
  rw [h1] at hl ⊢
  exact hl
 cases g with
 | none =>
  simp_arith! [bc,gv]
  exact fin (by rw [et,decide_eq_false c];rfl)
 | some u =>
  have su:=sg u rfl
  simp_arith! [bc,gv,pj,yB]
  refine ⟨.of su.num st.den,.of st.num su.den,?_⟩
  split
  ·rename_i cu
   exact qn (by rw [et];simp [Km,Rat.not_lt.mpr cu])
  ·rename_i cu
   exact fin (by rw [et];simp [Km,c,Rat.not_le.mp cu])
abbrev pP:Stmt:=(top 54)
abbrev jZ:List Str:=["_law_found","_law_due_here"]
theorem m7:L2.aw ["_law_found","_law_due_here","_law_k","_law_row"] ["_law_found","_law_due_here"] (L2.au pP):=dt
def vE:cq:=λxs J Q _=>∃(rows:List aM) (x:PV),xs=[x,.fl (rows.map aM.V)]∧kB J x=some (rows.map aM.V)∧rows.length≤900∧Q (.bl true) J
theorem y9 {f:Addr} {fd:FuncData} (F:bU K "_law_legrows" "_law_legrows" pP f fd) (Z:bE mg) (qN:bj P w K mg base 1 "_law_whole" iS jq) (oZ:bj P w K mg base 2 "_law_part" gx iD):aS P w K mg base (cn P w) 3 f fd jZ (cK K vE):=by
 simp_arith [m7,(ai (aP (cf (eI (bT (bq (aF gK rfl Z.isinstance boot_isinstance (af (rv 0) (af (kZ rfl Z.list boot_list) ah))))) (dm (aE (fF hr.aQ) (aF bK rfl Z.len boot_len (af (rv 0) ah)) (aF bK rfl Z.len boot_len (af (rv 1) ah)))))) (ak (az dw)) aH)
   (ai (cR bG rfl (fM rfl Z.range (af (aF bK rfl Z.len boot_len (af (rv 1) ah)) ah)) (bC (i:=2) m7.nd) (ai (aA (i:=3) m7.nd (aj ar (rv 0) (rv 2)))
   (ai (aP (cf (eI (bT (bq (aF gK rfl Z.isinstance boot_isinstance (af (rv 3) (af (kZ rfl Z.tuple boot_tuple) ah))))) (eI (aE (fF hr.aQ) (aF bK rfl Z.len boot_len (af (rv 3) ah)) ag) (dm (bT (bq (aL qN B hr (af (aj ar (rv 3) ag) ah)))))))) (ak (az dw)) aH)
   (ak (aP (cf (eI (bT (bq (aL oZ B hr (af (aj ar (rv 3) ag) (af (aj ar (aj ar (rv 1) (rv 2)) ag) ah))))) (eI (bT (bq (aL oZ B hr (af (aj ar (rv 3) ag) (af (aj ar (aj ar (rv 1) (rv 2)) ag) ah))))) (dm (aE (fF hr.aQ) (rv 3) (aj ar (rv 1) (rv 2))))))) (ak (az dw)) aH)))))
   (ak (az dw))))]
 ·obtain ⟨rows,x,rfl,_⟩:=h;rfl
 obtain ⟨rows,x,rfl,hx,hl,q⟩:=h
 refine hX ?_
 simp_all! [Us,KH hx,Aw hx]
 refine ⟨by omega,by omega,lM (λi τ J'=>∃u u':Option PV,τ=[some x,some (.fl (rows.map aM.V)),u,u']∧J'=J) ⟨none,none,rfl,rfl⟩ ?_ ?_⟩
 ·rintro i τ J' hi ⟨u,u',rfl,rfl⟩
  have hi:i < rows.length:=by omega
  have ha:c4 (rows.map aM.V) (0 + (i:Int))=some (rows[i].V):=by rw [Int.zero_add];exact TB (Ut hi)
  simp_all! [Ce hx,ha,jq,iD,QV,KA,mf,FI,iu,OS,GG,Me]
  rw [if_pos (show ((3:Nat):Int)=3 from rfl)]
  refine hNq _ _ ?_
  clear hNq Nq
  simp_all! [Ce hx,ha,jq,iD,QV,KA,mf,FI,iu,OS,GG,Me]
 ·rintro τ J' ⟨u,u',rfl,rfl⟩
  refine hNq _ _ ?_
  simp_all! []
  exact q
def ff (cs:List Cf) (t:Rat):List (Str × aM):=cs.filterMap λc=>if Ov.there c.w c.g t=true then (d_ c.w t).map λl=>(c.n,l) else none
theorem vM (cs:List Cf) (c:Cf) (t:Rat):ff (cs ++ [c]) t=ff cs t ++ (if Ov.there c.w c.g t=true then (d_ c.w t).map λl=>(c.n,l) else none).toList:=by
 unfold ff
 rw [List.filterMap_append]
 refine congrArg (_ ++ ·) ?_
 rw [Ve]
 cases (if Ov.there c.w c.g t=true then (d_ c.w t).map λl=>(c.n,l) else none) <;> rfl
theorem zP {cs:List Cf} {c:Cf} {t:Rat} {l:aM} (h:there c.w c.g t=true) (hl:d_ c.w t=some l):ff (cs ++ [c]) t=ff cs t ++ [(c.n,l)]:=by rw [vM,if_pos h,hl];rfl
theorem C8 {cs:List Cf} {c:Cf} {t:Rat} (h:there c.w c.g t=false):ff (cs ++ [c]) t=ff cs t:=by rw [vM,if_neg (by rw [h];decide)];exact Vc _
theorem HE {cs:List Cf} {t:Rat} {x:Str × aM} (h:x∈ff cs t):∃c∈cs,there c.w c.g t=true∧x.1=c.n∧d_ c.w t=some x.2:=by
 obtain ⟨c,hc,e⟩:=VM.mp h
 by_cases q:there c.w c.g t=true
 ·rw [if_pos q] at e
  obtain ⟨l,hl,e2⟩:=VU.mp e
  subst e2
  exact ⟨c,hc,q,rfl,hl⟩
 ·rw [if_neg q] at e;cases e
theorem tW (cs:List Cf) (t:Rat):((ff cs t).map (·.1)).Sublist (cs.map Cf.n):=by
 induction cs with
 | nil=>exact List.Sublist.refl _
 | cons c cs ih =>
  have e:ff (c :: cs) t=(if Ov.there c.w c.g t=true then (d_ c.w t).map λl=>(c.n,l) else none).toList ++ ff cs t:=by
   unfold ff
   rw [Ve]
   cases (if Ov.there c.w c.g t=true then (d_ c.w t).map λl=>(c.n,l) else none) <;> rfl
  rw [e,Uy,UA]
  by_cases q:there c.w c.g t=true
  ·rw [if_pos q]
   cases hl:d_ c.w t with
   | none=>exact (ih.cons _)
   | some l=>exact ih.cons₂ _
  ·rw [if_neg q];exact ih.cons _
theorem C7 {cs:List Cf} {t:Rat} (h:(cs.map Cf.n).Nodup):((ff cs t).map (·.1)).Nodup:=h.sublist (tW cs t)
theorem lB (cs:List Cf) (t:Rat):(ff cs t).length≤cs.length:=List.length_filterMap_le _ _
theorem zO {cs:List Cf} {t:Rat} {n:Nat} (h:∀c∈cs,∀l∈c.w,jt n l):∀x∈ff cs t,jt n x.2:=λx hx=>by
 obtain ⟨c,hc,hb,_,hl⟩:=HE hx
 obtain ⟨l,h1,h2,_⟩:=oV hb
 rw [hl] at h1;cases h1
 exact h c hc _ h2
theorem a_.N0 {L:Ln} (ok:a_ L):ff L.cs L.t=L.fs:=by
 unfold Ln.fs Ln.Cq ff
 have h:∀cs:List Cf,(∀c∈cs,c∈L.cs)→(cs.filterMap λc=>if Ov.there c.w c.g L.t=true then (d_ c.w L.t).map λl=>(c.n,l) else none)=(cs.filter λc=>c.g.isNone).map λc=>(c.n,c.cur):=λcs=>by
  induction cs with
  | nil=>intro _;rfl
  | cons c cs ih =>
   intro hs
   have hc:=hs c (UY ..)
   have ih:=ih λc hc=>hs c (US _ hc)
   rw [Ve,U0]
   by_cases hg:c.g=none
   ·rw [if_pos (ok.there hc hg),ok.TV hc,if_pos (by rw [hg];rfl),UA,← ih];rfl
   ·rw [if_neg (by rw [Cf.Fq ok hc hg];decide),if_neg (by rw [Option.isNone_iff_eq_none];exact hg),← ih]
 exact h _ λ_ h=>h
theorem DT {J:Hq} {p o:Addr} {a b:HQ} (hp:J p=none) (ho:J o=none):i6 J (put (put J p a) o b):=λx=>by
 by_cases e:x=o
 ·subst e;exact .inr ho
 ·by_cases e2:x=p
  ·subst e2;exact .inr hp
  ·rw [aq e,aq e2];exact .inl rfl
abbrev eO:Stmt:=(L2.inClass (top 42) 19)
abbrev jg:List Str:=["self","moment"]
theorem jj:L2.aw ["self","moment","legs"] ["self","moment"] (L2.au eO):=dt
def tM (cN cL eN:Addr):cq:=λxs J Q E=>∃(p:Addr) (L:Ln) (t:Rat),xs=[.ref p,fr t]∧bh cN cL J p L∧a_ L∧Sz 900 t∧(t < 0∨L.t < t→E eN J)∧(0≤t→t≤L.t→Q (.fl ((cQ t (ff L.cs t)).map .str)) J∨∀l,J l=none→Q (.ref l) (put J l (.lst ((cQ t (ff L.cs t)).map .str))))
theorem pF {cN cL eN f:Addr} {fd:FuncData} (F:bU K "order_at" "Lane.order_at" eO f fd) (Z:bE mg) (N:o_ K mg) (ax:dC K mg "Lane" cN) (aB:aK K cN "now") (aI:aK K cN "logs") (cH:Own K mg "NotThere" eN) (e9:bV P w K mg base cL 2 "there" jB (tI cL)) (cv:bV P w K mg base cL 3 "leg_at" fR (oQ cL eN)) (cO:bj P w K mg base 1 "less" fo cy) (mB:bj P w K mg base 6 "in_order" kT pY):aS P w K mg base (cn P w) 7 f fd jg (cK K (tM cN cL eN)):=by
 obtain ⟨aN,gN,sN⟩:=N
 have rN:∀(J:Hq) (H:Hp),cY K J H (fr 0) (.ref aN):=λJ H=>⟨aN,_,rfl,sN H,⟨_,_,rfl,rfl,_,_,rfl,rfl,rfl⟩⟩
 simp_arith [jj,(ai (aP (cf (eI (bq (aL cO B hr (af (rv 1) (af (fq (v:=.ref aN) (fr 0) rfl gN rfl rN) ah)))) (dm (bq (aL cO B hr (af (aV ax.cl aB (rv 0)) (af (rv 1) ah))))))) (ak (c9 cH rfl bW B.kn rfl (af bJ ah))) aH)
   (ai (Nr (i:=2) (L2.au eO) ["self","moment","legs"] [("self",0),("moment",1)] rfl rfl rfl jj.nd rfl (Or.inl rfl) (gB (aV ax.cl aI (rv 0))) (λ_ _ _ _ _ _=>(rv 0)) (λ_ _ _ _ _ _=>(aX (pl:=_) cv DC hr (aj bI (aV ax.cl aI (rv 1)) (rv 0)) (af (rv 2) ah))) (λ_ _ _ _ _ _=>(bq (aX (pl:=_) e9 DC hr (aj bI (aV ax.cl aI (rv 1)) (rv 0)) (af (rv 2) ah)))))
   (ak (az (aL mB B hr (af (rv 2) (af (rv 1) ah))))))),F]
 ·obtain ⟨p,L,t,rfl,_⟩:=h;rfl
 obtain ⟨p,L,t,rfl,b,ok,st,qe,q⟩:=h
 have bo:=b.ob
 have bd:=b.dc
 have s0:Sz 9000 (0:Rat):=⟨⟨by decide⟩,⟨by decide⟩⟩
 refine hX ?_
 simp_all! [cy,bo,pA]
 refine ⟨st.mono (by decide),s0,?_⟩
 by_cases c1:t < 0
 ·rw [if_pos c1]
  simp_all! [eW]
  exact qe (.inl c1)
 rw [if_neg c1]
 refine ⟨ok.BA.mono (by decide),st.mono (by decide),?_⟩
 by_cases c2:L.t < t
 ·rw [if_pos c2]
  simp_all! [eW]
  exact qe (.inr c2)
 rw [if_neg c2]
 have q:=q (Rat.not_lt.mp c1) (Rat.not_lt.mp c2)
 refine hNq _ _ ?_
 clear hNq Nq
 simp_all! [Oj,bo,pB,bd]
 intro D hD ep
 have bf:∀e2 kvs,bh cN cL (put J D (.dct kvs e2)) p L:=λe2 kvs=>b.fresh hD
 have Ax:∀c∈L.cs,∀l∈c.w,jt 900 l:=λc hc l hl=>(ok.ck c hc l hl).Ax
 refine ⟨λi J2=>∃e2,J2=put J D (.dct (bB (ff (L.cs.take i) t)) e2),⟨ep,rfl⟩,?_,?_,?_⟩
 ·rintro i J2 ⟨e2,rfl⟩;exact (bf e2 _).dc
 ·rintro i x J2 hx ⟨e2,rfl⟩
  have hi:i < L.cs.length:=by have:=(Uv.mp hx).1;simpa using this
  rw [Uw,Uw,Ut hi] at hx
  cases hx
  have hc:=UP hi
  have et:L.cs.take (i + 1)=L.cs.take i ++ [L.cs[i]]:=by rw [UN,Ut hi];rfl
  generalize L.cs[i]=c at hc et
  have hnot:c.n ∉ (ff (L.cs.take i) t).map (·.1):=λz=>by
   have hnd:((L.cs.take (i + 1)).map Cf.n).Nodup:=ok.nd.sublist ((U' _ _).map _)
   rw [et,Uy] at hnd
   exact (dN hnd).2 ((tW _ t).subset z)
  have b2:=bf e2 (bB (ff (L.cs.take i) t))
  have bo2:=b2.ob
  have bd2:=b2.dc
  have hva:=ok.va hc
  have lo:=(b2.lg c hc).o
  have gsz:∀u,c.g=some u→Sz 900 u:=λu hu=>(mh (ok.gz c hc u hu).1).mono (by decide)
  simp_all! [bo2,pB,bd2,hva,lo]
  refine ⟨Pm _ _,c.a,c.r,c.w,c.g,t,rfl,b2.lg c hc,ok.ne c hc,st,Ax c hc,gsz,?_⟩
  rcases hb:there c.w c.g t with _ | _
  ·refine ⟨e2,?_⟩
   rw [et,C8 hb]
  ·simp_all! [bo2,pB,bd2,hva,lo]
   refine ⟨MD _ _,c.a,c.r,c.w,c.g,t,rfl,b2.lg c hc,ok.ne c hc,UM (ok.len c hc) (by decide),st,Ax c hc,gsz,λ_ l hl=>?_,λz=>absurd (z.symm.trans hb) (by decide)⟩
   refine ⟨_,e2,av,a7 (by have:=lB (L.cs.take i) t;rw [UZ] at this;have:=ok.many;simp only [bB,Us];omega),λep'=>⟨ep',?_⟩⟩
   rw [cm,et,zP hb hl]
   congr 2
   exact mR (f:=aM.V) (l:=l) hnot
 ·rintro J2 ⟨e2,rfl⟩
  rw [Us,Us,UQ]
  refine hNq _ _ ?_
  clear hNq Nq
  simp_all! []
  refine ⟨D,_,e2,t,rfl,av,C7 ok.nd,UM (lB _ _) ok.many,st,zO Ax,λo ho=>?_⟩
  have hoJ:J o=none:=by rw [aq (λz=>by subst z;rw [av] at ho;cases ho)] at ho;exact ho
  rcases q with q | q
  ·exact Fg.pf (DT hD hoJ) av hoJ q
  ·exact Fg.less (vj (fZ hD)) (q o hoJ)
theorem B5 (t:Rat):Rat.divInt t.num (2 * (t.den:Int))=t / 2:=by
 rw [Rat.divInt_eq_div,cast_eq t,Rat.intCast_mul]
 have h:=dJ t
 generalize (((t.den:Int)):Rat)=x at h ⊢
 grind
abbrev Bj:Stmt:=(top 69)
abbrev ot:List Str:=["_law_lane","_law_legs","_law_rows","_law_gone","_law_clock","_law_name"]
theorem jL:L2.aw ["_law_lane","_law_legs","_law_rows","_law_gone","_law_clock","_law_name","_law_half","_law_moment","_law_leg","_law_there","_law_one"] ["_law_lane","_law_legs","_law_rows","_law_gone","_law_clock","_law_name"] (L2.au Bj):=dt
def K_ (cN cL:Addr):cq:=λxs J Q _=>∃(p:Addr) (L:Ln) (D R Gd:Addr) (gs:List (Str × aM)) (eD eR eG:Nat) (gone:List (Str × Rat)) (n:Str),xs=[.ref p,.ref D,.ref R,.ref Gd,fr L.t,.str n]∧bh cN cL J p L∧b_ L∧J D=some (.dct (bB gs) eD)∧Rl L gs∧J R=some (.dct (L.cs.map dA) eR)∧J Gd=some (.dct (gM gone) eG)∧(∀c∈L.cs,∀q,c.g=some q↔(c.n,q)∈gone)∧(gone.map (·.1)).Nodup∧n∈L.cs.map Cf.n∧L.cs.length≤100∧∀J',Sub J J'→Q (.bl true) J'
theorem F4 {cN cL eC eN f:Addr} {fd:FuncData} (F:bU K "_law_back" "_law_back" Bj f fd) (Z:bE mg) (j7:bj P w K mg base 1 "_law_low" dQ fQ) (De:bj P w K mg base 3 "_law_legrows" jZ vE) (nE:bj P w K mg base 3 "_law_maybe" iP xY) (Kj:bj P w K mg base 2 "_law_was" qm La) (i5:bj P w K mg base 2 "_law_at" dj h_) (BG:bj P w K mg base 1 "_law_words" mx C2) (qM:bj P w K mg base 3 "_law_order" iQ tP) (gQ:bV P w K mg base cN 2 "history" jX (CW cN cL eC)) (kE:bV P w K mg base cN 2 "left" oh (CZ cN cL eC)) (gf:bV P w K mg base cN 6 "place_at" jh (tO cN cL eC eN)) (eL:bV P w K mg base cN 7 "order_at" jg (tM cN cL eN)):aS P w K mg base (cn P w) 8 f fd ot (cK K (K_ cN cL)):=by
 simp_arith [jL,(ai (aA (i:=6) jL.nd (aL j7 B hr (af (aj ar (rv 4) ag) (af (ay aT ag (aj ar (rv 4) ag)) ah))))
   (ai (aP (cf (eI (bT (bq (aL De B hr (af (aX (pl:=_) gQ B hr (rv 0) (af (rv 5) ah)) (af (aj bI (rv 2) (rv 5)) ah))))) (dm (bT (bq (aL nE B hr (af (aX (pl:=_) kE B hr (rv 0) (af (rv 5) ah)) (af (gr PySem.F.plainAttrs_dict PySem.F.slot_dict_get PySem.F.type_dict_get wx (rv 3) (af (rv 5) ah)) ah)))))))) (ak (az dw)) aH)
   (ai (cR bG rfl (d7 (qo (af (rv 4) (af (rv 6) (af (aj ar (aj ar (aj bI (rv 2) (rv 5)) ag) ag) ah))))) (bC (i:=7) jL.nd) (ai (aA (i:=8) jL.nd (aL Kj B hr (af (aj bI (rv 2) (rv 5)) (af (gr PySem.F.plainAttrs_dict PySem.F.slot_dict_get PySem.F.type_dict_get wx (rv 3) (af (rv 5) ah)) (af (rv 7) ah)))))
   (ak (aP (cf (dT (aE jc (rv 8) dk) (c5 (bT (bq (aL nE B hr (af (aX (pl:=_) gf B hr (rv 0) (af (rv 5) (af (rv 7) ah))) (af (aL i5 B hr (af (rv 8) (af (rv 7) ah))) ah)))))))) (ak (az dw)) aH))))
   (ai (aA (i:=9) jL.nd oF)
   (ai (cR bG rfl (gB (rv 2)) (bC (i:=10) jL.nd) (ai (aA (i:=8) jL.nd (aL Kj B hr (af (aj bI (rv 2) (rv 10)) (af (gr PySem.F.plainAttrs_dict PySem.F.slot_dict_get PySem.F.type_dict_get wx (rv 3) (af (rv 10) ah)) (af (rv 6) ah)))))
   (ak (aP (aE jc (rv 8) dk) (ak (iT gD (rv 9) (rv 10) (rv 8))) aH))))
   (ai (aP (bT (bq (aL BG B hr (af (aX (pl:=_) eL B hr (rv 0) (af (rv 4) ah)) (af (aL qM B hr (af (rv 1) (af (rv 4) ah))) ah))))) (ak (az dw)) aH)
   (ak (az (aL BG B hr (af (aX (pl:=_) eL B hr (rv 0) (af (rv 6) ah)) (af (aL qM B hr (af (rv 9) (af (rv 6) ah))) ah)))))))))))]
 ·obtain ⟨p,L,D,R,Gd,gs,eD,eR,eG,gone,n,rfl,_⟩:=h;rfl
 obtain ⟨p,L,D,R,Gd,gs,eD,eR,eG,gone,n,rfl,b,ok,hD,rl,hR,hG,g1,g2,hn,cl,q⟩:=h
 refine hX ?_
 have bo:=b.ob
 have ok0:=ok.toa_
 have gnd:=rl.nd ok0
 have cnd:=ok0.nd
 have gsz:∀x∈gs,jt 900 x.2:=λx hx=>(rl.sz x hx).mono (by decide)
 have gl:gs.length≤12:=by rw [rl.len];exact ok.Fc
 have st2:Sz 240 L.t:=(mh ok.ts).mono (by decide)
 have st:=ok.BA
 obtain ⟨c0,hc,hcn⟩:=Uu.mp hn
 subst hcn
 have gv0:∀c∈L.cs,(fA (gM gone) c.n).getD .non=gv c.g:=λc hc=>by
  cases hg:c.g with
  | none =>
   have h1:c.n ∉ gone.map (·.1):=λz=>by
    obtain ⟨y,hy,e⟩:=Uu.mp z
    have:=(g1 c hc y.2).mpr (by rw [← e];exact hy)
    rw [hg] at this;cases this
   have e1:(fA (gM gone) c.n).isSome=decide (c.n∈gone.map (·.1)):=vK (f:=fr) g2
   rw [decide_eq_false h1] at e1
   have h3:fA (gM gone) c.n=none:=by
    cases e:fA (gM gone) c.n with
    | none=>rfl
    | some y=>rw [e] at e1;cases e1
   rw [h3];rfl
  | some u =>
   have h2:fA (gM gone) c.n=some (fr u):=dX (f:=fr) g2 ((g1 c hc u).mp hg)
   rw [h2];rfl
 have hva:=qZ cnd hc
 have gv1:=gv0 c0 hc
 have b2:Bd 304 (2 * (L.t.den:Int)):=.mul (Bd.small (x:=2) (by decide) (by decide)) st2.den
 have sh:Sz 900 (L.t / 2):=by
  rw [← B5]
  exact (Sz.div (n:=304) (st2.num.mono (by decide)) b2 (by have:=cP L.t;omega)).mono (by decide)
 have h0:0≤L.t / 2:=by have:=ok.t0;grind
 have h1:L.t / 2≤L.t:=by have:=ok.t0;grind
 simp_all! [fQ]
 refine ⟨.of (Bd.small (x:=2) (by decide) (by decide)) st2.den,by have:=cP L.t;omega,b2.mono (by decide),?_⟩
 rw [B5]
 generalize L.t / 2=hf at sh h0 h1 ⊢
 simp_all! [bo]
 refine ⟨dD _ _ _ _,p,L,c0.n,rfl,b,ok0,λc' h' e'=>.inl ?_,λz=>absurd hn z⟩
 obtain rfl:c'=c0:=ok.uniq h' hc e'
 clear h' e'
 simp_all! [hR,hva]
 refine ⟨_,_,rfl,rfl,UM (ok.len c' hc) (by decide),?_⟩
 simp_all! [bo]
 refine ⟨dD _ _ _ _,p,L,c'.n,rfl,b,ok0,λc2 h' e'=>?_,λz=>absurd hn z⟩
 obtain rfl:c2=c':=ok.uniq h' hc e'
 clear h' e'
 simp_all! [Cw,hG,gv1]
 refine ⟨c2.g,rfl,?_⟩
 obtain ⟨l0,ls,ew⟩:∃l ls,c2.w=l :: ls:=U3 (ok.ne c2 hc)
 have hw0:c4 (c2.w.map aM.V) 0=some l0.V:=by rw [ew];exact de _ _
 simp_all! [hR,hva,hw0,mf]
 have sl0:=(ok.ck c2 hc l0 (by rw [ew];exact UY)).Ax
 have lsz9:∀c∈L.cs,∀l∈c.w,jt 900 l:=λc hc l hl=>(ok.ck c hc l hl).Ax
 have gsz9:∀c∈L.cs,∀u,c.g=some u→Sz 900 u:=λc hc u hu=>(mh (ok.gz c hc u hu).1).mono (by decide)
 have tms:∀{i:Nat} {x:PV},[fr L.t,fr hf,fr l0.m][i]?=some x→∃q:Rat,x=fr q∧q≤L.t∧Sz 900 q:=λ{i x} h=>by
  have:=Uz h
  simp only [UH,UU,or_false] at this
  rcases this with rfl | rfl | rfl
  ·exact ⟨_,rfl,Rat.le_refl,st⟩
  ·exact ⟨_,rfl,h1,sh⟩
  ·exact ⟨_,rfl,ok.le c2 hc l0 (by rw [ew];exact UY),sl0.m⟩
 obtain ⟨Inv,hInv⟩:∃Inv:Nat→Sr→Hq→Prop,∀i τ J',Inv i τ J'↔∃u7 u8:Option PV,τ=[some (.ref p),some (.ref D),some (.ref R),some (.ref Gd),some (fr L.t),some (.str c2.n),some (fr hf),u7,u8,none,none]∧J'=J:=⟨_,λ_ _ _=>Iff.rfl⟩
 refine ed Inv ((hInv _ _ _).mpr ⟨_,_,rfl,rfl⟩) (λ_ _ _ _=>trivial) ?_ ?_
 ·intro i x τ J' hx hv
  obtain ⟨u7,u8,rfl,rfl⟩:=(hInv _ _ _).mp hv
  clear hv
  obtain ⟨t,rfl,ht,stt⟩:=tms hx
  simp_all! [hR,hva,Cw,hG,gv1]
  refine ⟨c2.w,c2.g,t,rfl,ok.ne c2 hc,stt.mono (by decide),lsz9 c2 hc,gsz9 c2 hc,λhth l hl=>?_,λhth=>?_⟩
  ·have nn:yM l.V=false:=rfl
   have hm:l∈c2.w:=by obtain ⟨l3,h3,h4,_⟩:=oV hth;rw [hl] at h3;cases h3;exact h4
   have sll:=lsz9 c2 hc l hm
   simp_all! [nn,bo]
   refine ⟨dD _ _ _ _,p,L,c2.n,t,rfl,b,ok0,stt,λz=>absurd hn z,λ_ z=>absurd z (Rat.not_lt.mpr ht),λc3 h3 e3 _=>?_⟩
   obtain rfl:c3=c2:=ok.uniq h3 hc e3
   refine ⟨λ_ l2 hl2=>?_,λz=>absurd (z.symm.trans hth) (by decide)⟩
   obtain rfl:l2=l:=Option.some.inj (hl2.symm.trans hl)
   simp_all! []
   refine ⟨l2,t,rfl,sll.m,sll.p,stt,sll.v,some (l2.at t),rfl,?_⟩
   exact (hInv _ _ _).mpr ⟨_,_,rfl,rfl⟩
  ·have nn:yM PV.non=true:=rfl
   simp_all! [nn]
   exact (hInv _ _ _).mpr ⟨_,_,rfl,rfl⟩
 intro τ J' hv
 obtain ⟨u7,u8,rfl,rfl⟩:=(hInv _ _ _).mp hv
 clear hv hInv Inv tms
 refine hNq _ _ ?_
 clear hNq Nq
 simp_all! []
 intro X hX eX
 refine hNq _ _ ?_
 clear hNq Nq
 have nX:∀{a u},J' a=some u→a≠X:=λe z=>by subst z;rw [hX] at e;cases e
 have hR2:∀v,put J' X v R=some (.dct (L.cs.map dA) eR):=λv=>by rw [aq (nX hR)];exact hR
 have hG2:∀v,put J' X v Gd=some (.dct (gM gone) eG):=λv=>by rw [aq (nX hG)];exact hG
 simp_all! [hR2]
 obtain ⟨W,hW⟩:∃W:Nat→Sr→Hq→Prop,∀j τ Ja,W j τ Ja↔∃(u8 u10:Option PV) (e:Nat),τ=[some (.ref p),some (.ref D),some (.ref R),some (.ref Gd),some (fr L.t),some (.str c2.n),some (fr hf),u7,u8,some (.ref X),u10]∧Ja=put J' X (.dct (bB (ff (L.cs.take j) hf)) e):=⟨_,λ_ _ _=>Iff.rfl⟩
 refine ed W ((hW _ _ _).mpr ⟨_,_,_,rfl,rfl⟩) (λi τ Ja hv=>?_) ?_ ?_
 ·obtain ⟨u8,u10,e,rfl,rfl⟩:=(hW _ _ _).mp hv;exact hR2 _
 ·intro j y τ Ja hy hv
  obtain ⟨u8,u10,e,rfl,rfl⟩:=(hW _ _ _).mp hv
  clear hv
  have hi:j < L.cs.length:=by have:=(Uv.mp hy).1;simpa using this
  rw [Uw,Uw,Ut hi] at hy
  cases hy
  have hc:=UP hi
  have et:L.cs.take (j + 1)=L.cs.take j ++ [L.cs[j]]:=by rw [UN,Ut hi];rfl
  generalize L.cs[j]=c0 at hc et
  have hnot:c0.n ∉ (ff (L.cs.take j) hf).map (·.1):=λz=>by
   have hnd:((L.cs.take (j + 1)).map Cf.n).Nodup:=cnd.sublist ((U' _ _).map _)
   rw [et,Uy] at hnd
   exact (dN hnd).2 ((tW _ hf).subset z)
  have hva:=qZ cnd hc
  have gv1:=gv0 c0 hc
  have hk:(dA c0).1=c0.n:=rfl
  simp_all! [hk,hR2,hva,Cw,hG2,gv1]
  refine ⟨c0.w,c0.g,hf,rfl,ok.ne c0 hc,sh.mono (by decide),lsz9 c0 hc,gsz9 c0 hc,λht l hl=>?_,λht=>?_⟩
  ·have nn:yM l.V=false:=rfl
   simp_all! [nn,av]
   refine ⟨a7 (by have:=lB (L.cs.take j) hf;rw [UZ] at this;simp only [bB,Us];omega),λep'=>(hW _ _ _).mpr ⟨_,_,ep',rfl,?_⟩⟩
   rw [cm,et,zP ht hl]
   exact congrArg (λz=>put J' X (.dct z ep')) (mR (f:=aM.V) (l:=l) hnot)
  ·have nn:yM PV.non=true:=rfl
   simp_all! [nn]
   exact (hW _ _ _).mpr ⟨_,_,e,rfl,by rw [et,C8 ht]⟩
 intro τ Ja hv
 obtain ⟨u8,u10,e,rfl,rfl⟩:=(hW _ _ _).mp hv
 clear hv
 rw [Us,Us,UQ]
 have sb4:Sub J' (put J' X (.dct (bB (ff L.cs hf)) e)):=Sub.put hX
 have b4:=b.keep λa o _ e=>sb4 a o e
 have bo4:=b4.ob
 have hD4:=sb4 _ _ hD
 have q4:=q _ sb4
 have hX4:put J' X (.dct (bB (ff L.cs hf)) e) X=some (.dct (bB (ff L.cs hf)) e):=av
 generalize put J' X (.dct (bB (ff L.cs hf)) e)=J4 at b4 bo4 hD4 q4 hX4 ⊢
 have eo:cQ L.t (ff L.cs L.t)=cQ L.t gs:=by rw [ok0.N0];exact congrArg (Wi Ky.n) (sF ok.knd (by rw [cD];exact gnd) (rl.same L.t))
 have wl:∀t,(cQ t (ff L.cs t)).length≤900:=λt=>by rw [sG];have:=lB L.cs t;omega
 refine hNq _ _ ?_
 clear hNq Nq
 simp_all! [bo4]
 refine ⟨dD _ _ _ _,p,L,L.t,rfl,b4,ok0,st,λz=>z.elim (λz=>absurd z (Rat.not_lt.mpr ok.t0)) λz=>absurd z (Rat.not_lt.mpr Rat.le_refl),λ_ _=>.inl ?_⟩
 rw [eo]
 simp_all! []
 refine ⟨D,gs,eD,L.t,rfl,hD4,gnd,by omega,st,gsz,_,rfl,by rw [← eo];exact wl _,?_⟩
 refine hNq _ _ ?_
 clear hNq Nq
 simp_all! [bo4]
 refine ⟨dD _ _ _ _,p,L,hf,rfl,b4,ok0,sh,λz=>z.elim (λz=>absurd z (Rat.not_lt.mpr h0)) λz=>absurd z (Rat.not_lt.mpr h1),λ_ _=>.inl ?_⟩
 simp_all! []
 exact ⟨X,_,e,hf,rfl,hX4,C7 cnd,UM (lB _ _) (by omega),sh,zO lsz9,_,rfl,wl _,q4⟩
theorem Rl.alike {L L':Ln} {gs:List (Str × aM)} (h:Rl L gs) (al:L.alike L'):Rl L' gs:=⟨by rw [al.fs];exact h.nm,λn l l' a b=>h.ln n l l' a (by rw [al.fs] at b;exact b),h.ck,λx hx=>by rw [al.t];exact h.le x hx,λc hc=>by obtain ⟨c0,h0,_,e,_⟩:=al.ex hc;rw [← e];exact h.ct c0 h0⟩
theorem Bh {L L':Ln} (al:L.alike L'):L'.cs.map dA=L.cs.map dA:=by
 have:=congrArg (Wi λf:Str × List aM × Option Rat=>(f.1,PV.fl (f.2.1.map aM.V))) al.cs
 rw [Ux,Ux] at this;exact this
section
variable {cN cL:Addr} {J0 J:Hq} {S0:Addr→Prop} {p:Addr} {L:Ln} {D R G:Addr} {gs:List (Str × aM)} {gone:List (Str × Rat)} {k:Nat}
theorem Lv.sub (h:Lv cN cL J0 S0 J p L D R G gs gone k) {J1:Hq} (s:Sub J J1):Lv cN cL J0 S0 J1 p L D R G gs gone k:=by
 obtain ⟨eD,hD⟩:=h.hD
 obtain ⟨eR,hR⟩:=h.hR
 obtain ⟨eG,hG⟩:=h.hG
 refine ⟨h.b.keep λa o _ e=>s a o e,h.ok,h.rl,⟨eD,s _ _ hD⟩,⟨eR,s _ _ hR⟩,⟨eG,s _ _ hG⟩,h.nD,h.nR,h.nG,h.dr,h.dg,h.rg,⟨λa o e n=>s _ _ (h.mv.keep a o e n),h.mv.own,λa z=>h.mv.mono a ?_⟩,h.td,h.tl,h.wl,h.g1,h.g2,h.g3⟩
 cases e:J a with
 | none=>rfl
 | some o=>rw [s _ _ e] at z;cases z
theorem Lv.twin (h:Lv cN cL J0 S0 J p L D R G gs gone k) {J1 JF:Hq} {p':Addr} {L' L3:Ln} (s:Sub J J1) (b':bh cN cL J1 p' L') (ok':b_ L') (al:L.alike L') (new:∀a,L'.own p' a→J a=none) (mv:Mv J1 JF (L.own p) (L3.own p)):Lv cN cL J0 S0 JF p' L' D R G gs gone k:=by
 obtain ⟨eD,hD⟩:=h.hD
 obtain ⟨eR,hR⟩:=h.hR
 obtain ⟨eG,hG⟩:=h.hG
 have no:∀{a o},J a=some o→¬ L'.own p' a:=λe z=>by rw [new _ z] at e;cases e
 refine ⟨b'.keep λa o ow e=>mv.keep a o e λz=>h.b.some z (new a ow),ok',h.rl.alike al,⟨eD,mv.keep _ _ (s _ _ hD) h.nD⟩,⟨eR,by rw [Bh al];exact mv.keep _ _ (s _ _ hR) h.nR⟩,⟨eG,mv.keep _ _ (s _ _ hG) h.nG⟩,no hD,no hR,no hG,h.dr,h.dg,h.rg,⟨λa o e n=>mv.keep _ _ (s _ _ (h.mv.keep a o e n)) λz=>?_,λa z=>?_,λa z=>h.mv.mono a ?_⟩,by rw [al.t];exact h.td,by rw [al.t];exact h.tl,λc hc=>?_,λc hc q=>?_,h.g2,λx hx=>by rw [al.nm];exact h.g3 x hx⟩
 ·rcases h.mv.own a (.inl z) with y | y
  ·exact n y
  ·rw [e] at y;cases y
 ·rcases z with z | z
  ·exact .inr (h.mv.mono a (new a z))
  ·exact h.mv.own a (.inr z)
 ·have z1:=mv.mono a z
  cases e:J a with
  | none=>rfl
  | some o=>rw [s _ _ e] at z1;cases z1
 ·obtain ⟨c0,h0,_,e,_⟩:=al.ex hc;rw [← e];exact h.wl c0 h0
 ·obtain ⟨c0,h0,e1,_,e⟩:=al.ex hc;rw [← e,← e1];exact h.g1 c0 h0 q
end
theorem OX {a b c d e f r:i8} {D:En} {τ:Sr} {J:Hq} (h:∀N:Sr→Hq→Prop,(∀τ J,r D τ J→N τ J)→bc a (qJ b (qJ c (qJ d (qJ e (bc f λ_=>N))))) D τ J):bc a (qJ b (qJ c (qJ d (qJ e (bc f r))))) D τ J:=h (λτ J=>r D τ J) λ_ _ z=>z
theorem F1 {t:Rat} (h0:0≤t) (h1:t≤10000):gO (t.num.fdiv (t.den:Int) + 1) 1=true∧t≤((t.num.fdiv (t.den:Int) + 1:Int):Rat):=by
 have d:=cP t
 rw [Int.fdiv_eq_ediv_of_nonneg _ (by omega)]
 have e1:=Int.mul_ediv_add_emod t.num (t.den:Int)
 have e2:=Int.emod_nonneg t.num (b:=(t.den:Int)) (by omega)
 have e3:=Int.emod_lt_of_pos t.num d
 have n0:0≤t.num / (t.den:Int):=Int.ediv_nonneg (Rat.num_nonneg.mpr h0) (by omega)
 have h2:t.num * 1≤10000 * (t.den:Int):=(Rat.le_iff t 10000).mp h1
 have n1:t.num / (t.den:Int)≤10000:=Int.le_of_mul_le_mul_left (by rw [Int.mul_comm (t.den:Int) 10000];omega) d
 refine ⟨?_,(Rat.le_iff _ _).mpr ?_⟩
 ·have:=rY (m:=((t.num / (t.den:Int) + 1:Int):Rat)) (by exact_mod_cast (show (0:Int)≤t.num / (t.den:Int) + 1 by omega)) (by rw [Rat.den_intCast];decide) (by rw [Rat.num_intCast,Rat.den_intCast];show _≤1000000 * (1:Int);omega)
  rwa [Rat.num_intCast,Rat.den_intCast] at this
 ·rw [Rat.num_intCast,Rat.den_intCast,Int.add_mul,Int.mul_comm (t.num / (t.den:Int))]
  show t.num * 1≤_
  omega
abbrev CD:Stmt:=(top 72)
abbrev M_:List Str:=["_law_script"]
theorem eu:L2.aw ["_law_script","_law_head","_law_names_here","_law_lane","_law_legs","_law_rows","_law_gone","_law_clock","_law_k","_law_row","_law_deed_here","_law_name","_law_elder"] ["_law_script"] (L2.au CD):=dt
theorem Jc {cN cL T eM eP f:Addr} {fd:FuncData} (F:bU K "law" "law" CD f fd) (Z:bE mg) (zT:bj P w K mg base 1 "_law_cell" ou CN) (nB:bj P w K mg base 1 "_law_digits" gY Bv) (HR:bj P w K mg base 2 "_law_names" mr zJ) (Ll:bj P w K mg base 3 "_law_deed" ox Hd) (Lm:bj P w K mg base 9 "_law_done" oy (He cN cL T)) (ye:bj P w K mg base 3 "_law_turned" kQ vG) (HN:bj P w K mg base 3 "_law_acted" mn CI) (HP:bj P w K mg base 8 "_law_ahead" mq (K9 cN cL)) (Lk:bj P w K mg base 8 "_law_back" ot (K_ cN cL)) (o9:yr P w K mg base cN 1 "Lane" fK (x4 cN cL)) (kG:bV P w K mg base cN 4 "twin" oj (C1 cN cL)) (d3:bV P w K mg base cN 8 "about" iJ (tJ cN cL)) (d4:bV P w K mg base cN 8 "go_to" iK (Hh cN cL eM eP)) :
  aS P w K mg base (cn P w) 10 f fd M_ (cK K (Bx [T])):=by
 simp_arith [eu,(ai (aA (i:=1) eu.nd (aL nB B hr (af (aL zT B hr (af (rv 0) (af ag ah))) (af (qo (af ag (af ag (af ag ah)))) ah))))
   (ai (aA (i:=2) eu.nd (aL HR B hr (af (aL zT B hr (af (rv 0) (af ag ah))) (af (ay bQ (ay bQ ag (aj ar (rv 1) ag)) (ay aT ag (ay d6 (aj ar (rv 1) ag) ag))) ah))))
   (ai (aA (i:=3) eu.nd (sV o9 B hr))
   (ai (aA (i:=4) eu.nd oF)
   (ai (aA (i:=5) eu.nd oF)
   (ai (aA (i:=6) eu.nd oF)
   (ai (aA (i:=7) eu.nd (bY (af ag (af ag ah))))
   (ai (cR bG rfl (fM rfl Z.range (af (ay bQ ag (aj ar (rv 1) ag)) ah)) (bC (i:=8) eu.nd) (ai (aA (i:=9) eu.nd (aL nB B hr (af (aL zT B hr (af (rv 0) (af (ay bQ ag (rv 8)) ah))) (af (qo (xu [.int 10,.int 97,.int 2000001,.int 2001,.int 400000,.int 60,.int 5,.int 97,.int 97] rfl [.int 10,.int 97,.int 2000001,.int 2001,.int 400000,.int 60,.int 5,.int 97,.int 97] rfl)) ah))))
   (ai (aA (i:=10) eu.nd (aL Ll B hr (af (rv 9) (af (aj ar (rv 1) ag) (af (rv 2) (af (rv 5) (af (rv 4) (af (rv 7) ah))))))))
   (ai (bA (aL Lm B hr (af (rv 3) (af (rv 10) ah))))
   (cx (aP (aE (cj hr.aQ) (aj ar (rv 10) ag) bJ) (ak (iT gD (rv 5) (aj ar (rv 10) ag) (qo (af (bY (af (rv 7) (af (bY (af (aj ar (rv 10) ag) (af ag ah))) (af (aj ar (rv 10) ag) ah)))) ah)))) aH)
   (cx (aP (aE (cj hr.aQ) (aj ar (rv 10) ag) bJ) (ak (iT gD (rv 5) (aj ar (rv 10) ag) (aL ye B hr (af (aj bI (rv 5) (aj ar (rv 10) ag)) (af (rv 7) (af (aj ar (rv 10) ag) ah)))))) aH)
   (cx (aP (aE (cj hr.aQ) (aj ar (rv 10) ag) bJ) (ak (iT gD (rv 6) (aj ar (rv 10) ag) (rv 7))) aH)
   (cx (aP (aE (cj hr.aQ) (aj ar (rv 10) ag) bJ) (ak (cR bG rfl (gB (rv 4)) (bC (i:=11) eu.nd) (ak (iT gD (rv 5) (rv 11) (aL ye B hr (af (aj bI (rv 5) (rv 11)) (af (rv 7) (af (oG jP (aj ar (aj bI (rv 4) (rv 11)) ag)) ah)))))))) aH)
   (ai (aA (i:=7) eu.nd (aL HN B hr (af (rv 4) (af (rv 7) (af (rv 10) ah)))))
   (cx (aP (aE (cj hr.aQ) (aj ar (rv 9) ag) ag) (ai (aA (i:=12) eu.nd (rv 3))
   (ai (aA (i:=3) eu.nd (dy (pl:=_) kG B hr (rv 12)))
   (ai (bA (dy (pl:=_) d3 B hr (rv 12)))
   (ak (bA (aX (pl:=_) d4 B hr (rv 12) (af (bY (af (ay bQ (ay d6 (aj ar (rv 7) ag) (aj ar (rv 7) ag)) ag) (af ag ah))) ah))))))) aH)
   (ai (aP (bT (bq (aL HP B hr (af (rv 3) (af (rv 4) (af (rv 7) (af (rv 9) (af (aj ar (rv 1) ag) ah)))))))) (ak (az dw)) aH)
   (ai (aP (aE (cj hr.aQ) (aF nM rfl Z.len boot_len (af (rv 5) ah)) ag) (ak zq) aH)
   (ai (aA (i:=11) eu.nd (aj ar (c8 (kg rfl) rfl Z.list boot_list (af (rv 5) ah)) (ay bX (aj ar (rv 9) ag) (aF nM rfl Z.len boot_len (af (rv 5) ah)))))
   (ak (aP (bT (bq (aL Lk B hr (af (rv 3) (af (rv 4) (af (rv 5) (af (rv 6) (af (rv 7) (af (rv 11) ah))))))))) (ak (az dw)) aH)))))))))))))))
   (ak (az dw))))))))))]
 ·obtain ⟨ns,rfl,_⟩:=h;rfl
 obtain ⟨ns,rfl,hl,hT,hJ,q⟩:=h
 have hT:J T=some .tab:=hT T (by simp)
 refine hX ?_
 simp_all! []
 refine ⟨ns,0,rfl,by decide,by decide,_,[16,8,4],rfl,tE (by decide),by decide,λds hD=>?_⟩
 obtain ⟨d0,ds,rfl,d00,d01,hD⟩:=hD.cons
 obtain ⟨d1,ds,rfl,d10,d11,hD⟩:=hD.cons
 obtain ⟨d2,ds,rfl,d20,d21,hD⟩:=hD.cons
 cases hD.nil
 have q3:d1.fdiv 7≤1∧0≤d1.fdiv 7:=by rw [Int.fdiv_eq_ediv_of_nonneg _ (by decide)];omega
 have c64:∀n:Int,-(2 ^ 60)≤n→n≤2 ^ 60→Bd 64 n:=λn h1 h2=>.small (by omega) (by omega)
 simp_all! []
 refine ⟨ns,1,rfl,by decide,by decide,⟨by decide,(c64 7 (by decide) (by decide)).mono (by decide)⟩,.of (c64 11 (by decide) (by decide)) (c64 _ (by omega) (by omega)),_,2 + d1 + 11 * d1.fdiv 7,rfl,by omega,by omega,λnames nl nd ng=>?_⟩
 simp_all! []
 intro p0 hp
 refine ⟨p0,rfl,av,λJ1 d e o b mv=>?_⟩
 have mvJ:Mv J J1 (λ_=>False) (Ln.own ⟨0,d,e,o,[],[]⟩ p0):=by
  refine (Mv.wz (S:=λ_=>False) hp).trans ⟨λa u h n=>mv.keep a u h λz=>n (.inr z),λa z=>(mv.own a z).imp .inr id,mv.mono⟩
 have ok0:b_ ⟨0,d,e,o,[],[]⟩:=⟨⟨Wd,(by simp),(by simp),(by simp),(by simp),(by simp),Rat.le_refl,Uo _,(by show 0≤100;decide),(by intro n;simp [Ln.fs,Ln.Cq]),Wd,(by show 0≤12;decide)⟩,rfl⟩
 have hT1:J1 T=some .tab:=mvJ.keep _ _ hT λz=>z
 have hnl:names.length≤40:=by omega
 clear mvJ mv hT
 refine ⟨rfl,hNq _ _ ?_⟩
 clear hNq Nq
 obtain ⟨L0,hL0⟩:∃L0:Ln,L0=⟨0,d,e,o,[],[]⟩:=⟨_,rfl⟩
 have cs0:L0.cs=[]:=by rw [hL0]
 have t0:L0.t=0:=by rw [hL0]
 have ok:=ok0
 rw [← hL0] at b ok
 clear hL0
 simp_all! []
 intro D hD eD
 refine hNq _ _ ?_
 clear hNq Nq
 simp_all! []
 intro R hR eR
 refine hNq _ _ ?_
 clear hNq Nq
 simp_all! []
 intro Gd hG eG
 have nDR:D≠R:=λe=>by subst e;rw [av] at hR;cases hR
 have nRG:R≠Gd:=λe=>by subst e;rw [av] at hG;cases hG
 have nDG:D≠Gd:=λe=>by subst e;rw [aq nDR,av] at hG;cases hG
 have hRn:J1 R=none:=by rw [aq (Ne.symm nDR)] at hR;exact hR
 have hGn:J1 Gd=none:=by rw [aq (Ne.symm nRG),aq (Ne.symm nDG)] at hG;exact hG
 have w0:Lv cN cL J1 (L0.own p0) (put (put (put J1 D (.dct [] eD)) R (.dct [] eR)) Gd (.dct [] eG)) p0 L0 D R Gd [] [] 0:=by
  refine ⟨((b.fresh hD).fresh hR).fresh hG,ok,⟨by unfold Ln.fs Ln.Cq;rw [cs0];rfl,(by simp),(by simp),(by simp),(by rw [cs0];simp)⟩,⟨eD,by rw [aq nDG,aq nDR];exact av⟩,⟨eR,by rw [aq nRG,cs0];exact av⟩,⟨eG,av⟩,λz=>b.some z hD,λz=>b.some z hRn,λz=>b.some z hGn,nDR,nDG,nRG,?_,by rw [t0];decide,by rw [t0];decide,by rw [cs0];simp,by rw [cs0];simp,Wd,(by simp)⟩
  have hh:=((Mv.wz (S:=L0.own p0) (o:=.dct [] eD) hD).trans (Mv.wz (o:=.dct [] eR) hR)).trans (Mv.wz (o:=.dct [] eG) hG)
  exact ⟨hh.keep,λa z=>hh.own a (z.elim (λz=>.inl (.inl (.inl z))) λz=>z.elim (λz=>.inl (.inl (.inr z))) λz=>z.elim (λz=>.inl (.inr z)) .inr),hh.mono⟩
 generalize put (put (put J1 D (.dct [] eD)) R (.dct [] eR)) Gd (.dct [] eG)=J2 at w0 ⊢
 clear hG hR hRn hGn
 have hT:=hT1
 clear hT1
 obtain ⟨S1,hS1⟩:∃S1,L0.own p0=S1:=⟨_,rfl⟩
 rw [hS1] at w0
 refine hNq _ _ ?_
 clear hNq Nq
 simp_all! []
 obtain ⟨Inv,hInv⟩:∃Inv:Nat→Sr→Hq→Prop,∀i τ J',Inv i τ J'↔∃(p:Addr) (L:Ln) (gs:List (Str × aM)) (gone:List (Str × Rat)) (u8 u9 u10 u11 u12:Option PV),τ=[some (.fl (ns.map .int)),some (.fl [.int d0,.int d1,.int d2]),some (.fl (names.map .str)),some (.ref p),some (.ref D),some (.ref R),some (.ref Gd),some (fr L.t),u8,u9,u10,u11,u12]∧Lv cN cL J1 S1 J' p L D R Gd gs gone i∧(∀n∈L.cs.map Cf.n,n∈names)∧L.cs.length≤i:=⟨_,λ_ _ _=>Iff.rfl⟩
 refine ⟨by omega,by omega,?_⟩
 refine lM Inv ((hInv _ _ _).mpr ⟨p0,L0,[],[],_,_,_,_,_,by rw [t0];rfl,w0,(by rw [cs0];simp),by rw [cs0];exact UC _⟩) ?_ ?_
 ·intro i τ J' hi hv
  obtain ⟨p,L,gs,gone,u8,u9,u10,u11,u12,rfl,lv,hus,hul⟩:=(hInv _ _ _).mp hv
  clear hv w0
  have hT0:=hT
  have hT:J' T=some .tab:=lv.mv.keep _ _ hT0 (λz=>b.Pq hT0 (by rw [hS1];exact z))
  simp_all! []
  refine ⟨ns,2 + (0 + (i:Int)),rfl,by omega,by omega,_,[10,97,2000001,2001,400000,60,5,97,97],rfl,tE (by decide),by decide,λds hG=>?_⟩
  obtain ⟨r0,ds,rfl,_,_,hG⟩:=hG.cons
  obtain ⟨r1,ds,rfl,r10,_,hG⟩:=hG.cons
  obtain ⟨r2,ds,rfl,r20,_,hG⟩:=hG.cons
  obtain ⟨r3,ds,rfl,r30,r31,hG⟩:=hG.cons
  obtain ⟨r4,ds,rfl,r40,r41,hG⟩:=hG.cons
  obtain ⟨r5,ds,rfl,r50,_,hG⟩:=hG.cons
  obtain ⟨r6,ds,rfl,_,_,hG⟩:=hG.cons
  obtain ⟨r7,ds,rfl,r70,_,hG⟩:=hG.cons
  obtain ⟨r8,ds,rfl,r80,r81,hG⟩:=hG.cons
  cases hG.nil
  have st:Sz 900 L.t:=lv.ok.BA
  have gnd:=lv.rl.nd lv.ok.toa_
  have gl:gs.length≤12:=by rw [lv.rl.len];exact lv.ok.Fc
  have gsz:∀x∈gs,jt 900 x.2:=λx hx=>(lv.rl.sz x hx).mono (by decide)
  obtain ⟨eD',hD⟩:=lv.hD
  obtain ⟨eR',hR⟩:=lv.hR
  obtain ⟨eG',hG⟩:=lv.hG
  simp_all! []
  refine ⟨r0,r1,r2,r3,r4,r5,r6,r7,r8,d2,names,L.cs.map Cf.n,R,D,gs,eD',L.t,L.cs.map dA,eR',rfl,hR,JM _,hD,hnl,by omega,r10,r20,r30,r31,r40,by omega,r50,d20,d21,st,λdv hdv=>?_⟩
  refine hNq _ _ ?_
  clear hNq Nq
  refine OX λN hN=>?_
  have rest:∀(L3:Ln) (gs3:List (Str × aM)) (gone3:List (Str × Rat)) (J3:Hq) (dv:PV) (u11 u12:Option PV) (t3:Rat),L3.t=t3→Lv cN cL J1 S1 J3 p L3 D R Gd gs3 gone3 (i + 1)→(∀n∈L3.cs.map Cf.n,n∈names)→L3.cs.length≤i + 1→N [some (.fl (ns.map .int)),some (.fl [.int d0,.int d1,.int d2]),some (.fl (names.map .str)),some (.ref p),some (.ref D),some (.ref R),some (.ref Gd),some (fr t3),some (.int (0 + (i:Int))),some (.fl [.int r0,.int r1,.int r2,.int r3,.int r4,.int r5,.int r6,.int r7,.int r8]),some dv,u11,u12] J3:=by
   intro L3 gs3 gone3 J3 dv u11 u12 t3 et3 lv3 hus3 hul3
   subst et3
   refine hN _ _ ?_
   have tk:L3.t≤10000:=Rat.le_trans lv3.tl (by have:((500 * (i + 1):Nat):Rat)≤((10000:Nat):Rat):=(by exact_mod_cast (show 500 * (i + 1)≤10000 by omega));exact this)
   obtain ⟨g1,g2⟩:=F1 lv3.ok.t0 tk
   have st3:Sz 240 L3.t:=(mh lv3.ok.ts).mono (by decide)
   simp_all! []
   obtain ⟨M,hM⟩:∃M:Sr→Hq→Prop,∀τ' Ja,M τ' Ja↔∃(p':Addr) (L':Ln) (u12:Option PV),τ'=[some (.fl (ns.map .int)),some (.fl [.int d0,.int d1,.int d2]),some (.fl (names.map .str)),some (.ref p'),some (.ref D),some (.ref R),some (.ref Gd),some (fr L'.t),some (.int (0 + (i:Int))),some (.fl [.int r0,.int r1,.int r2,.int r3,.int r4,.int r5,.int r6,.int r7,.int r8]),some dv,u11,u12]∧Lv cN cL J1 S1 Ja p' L' D R Gd gs3 gone3 (i + 1)∧L'.cs.map Cf.n=L3.cs.map Cf.n:=⟨_,λ_ _=>Iff.rfl⟩
   refine ⟨M,?_,?_⟩
   ·have bo3:=lv3.b.ob
    simp_all! []
    split
    ·have w200:∀c∈L3.cs,c.w.length < 200:=λc hc=>by have:=lv3.wl c hc;omega
     simp_all! [bo3]
     refine ⟨dD _ _ _ _,p,L3,rfl,lv3.b,lv3.ok,λJ4 p' L4 sb b4 ok4 al new=>?_⟩
     have b3:=lv3.b.keep λa o _ e=>sb a o e
     have bo3:=b3.ob
     simp_all! [bo3]
     refine ⟨dD _ _ _ _,p,L3,rfl,b3,lv3.ok,w200,λJ5 L5 b5 ok5 e5 t5 mv5=>?_⟩
     have bo5:=b5.ob
     simp_all! [bo5]
     refine ⟨dD _ _ _ _,⟨eV _,st3.den.mono (by decide)⟩,p,L5,_,1,rfl,b5,ok5,(λz=>by rw [g1] at z;cases z),λm h1 h2 _=>?_⟩
     have em:m=((L3.t.num.fdiv (L3.t.den:Int) + 1:Int):Rat):=Rat.ext (by rw [h1,Rat.num_intCast]) (by rw [Rat.den_intCast];omega)
     refine ⟨λz=>absurd z (Rat.not_lt.mpr (by rw [em,t5];exact g2)),λ_ J6 o6 b6 ok6 mv6=>?_⟩
     exact (hM _ _).mpr ⟨p',L4,_,by rw [al.t],lv3.twin sb b4 ok4 al new (mv5.trans mv6),al.nm⟩
    ·exact (hM _ _).mpr ⟨_,_,_,rfl,lv3,rfl⟩
   intro τ' Ja hm
   obtain ⟨p',L4,u12,rfl,lv4,en4⟩:=(hM _ _).mp hm
   clear hm hM M
   obtain ⟨eD4,hD4⟩:=lv4.hD
   obtain ⟨eR4,hR4⟩:=lv4.hR
   obtain ⟨eG4,hG4⟩:=lv4.hG
   have cl4:L4.cs.length≤i + 1:=by have:=congrArg Vp en4;rw [Us,Us] at this;omega
   have hkv4:(L4.cs.map dA).map (λkv=>PV.str kv.1)=(L4.cs.map Cf.n).map PV.str:=by rw [Ux,Ux];rfl
   simp_all! []
   refine ⟨p',L4,D,gs3,eD4,i + 1,r0,r1,r2,r3,r4,r5,r6,r7,r8,d2,rfl,lv4.b,lv4.ok,hD4,lv4.rl,lv4.td,lv4.tl,by omega,r40,by omega,r50,r70,r80,r81,d20,d21,?_⟩
   simp_all! [hR4,Us]
   by_cases z:L4.cs.length=0
   ·rw [if_pos (by omega)]
    exact (hInv _ _ _).mpr ⟨p',L4,gs3,gone3,_,_,_,_,_,rfl,lv4,by rw [en4];exact hus3,cl4⟩
   rw [if_neg (by omega)]
   obtain ⟨n,hn,ha⟩:=lQ (xs:=L4.cs.map Cf.n) r80 (by rw [Us];omega)
   rw [Us] at ha
   simp_all! [hR4,hkv4,ha,Us]
   refine ⟨by omega,?_⟩
   simp_all! []
   refine ⟨p',L4,D,R,Gd,gs3,eD4,eR4,eG4,gone3,n,rfl,lv4.b,lv4.ok,hD4,lv4.rl,hR4,hG4,lv4.g1,lv4.g2,hn,by omega,λJ5 sb5=>?_⟩
   exact (hInv _ _ _).mpr ⟨p',L4,gs3,gone3,_,_,_,_,_,rfl,lv4.sub sb5,by rw [en4];exact hus3,cl4⟩
  have hT':=hT
  have hw200:∀c∈L.cs,c.w.length < 200:=λc hc=>by have:=lv.wl c hc;omega
  have tl1:L.t≤((500 * (i + 1):Nat):Rat):=JZ lv.tl
  have hrow:∀n,n∈gs.map (·.1)→n∈L.row:=λn hn=>(lv.ok.rm n).mpr (by rw [← lv.rl.nm];exact hn)
  have cnd:=lv.ok.toa_.nd
  have szc:∀c∈L.cs,c.w≠[]∧c.w.length≤900∧∀l∈c.w,jt 900 l:=λc hc=>⟨lv.ok.ne c hc,by have:=lv.wl c hc;omega,λl hl=>(lv.ok.ck c hc l hl).Ax⟩
  have nRD:=Ne.symm lv.dr
  have nGD:=Ne.symm lv.dg
  have nGR:=Ne.symm lv.rg
  have hRl:(L.cs.map dA).length < 200:=by rw [Us];omega
  have keepD:∀{J3:Hq} {L3:Ln},Mv J' J3 (L.own p) (L3.own p)→J3 D=some (.dct (bB gs) eD')∧J3 R=some (.dct (L.cs.map dA) eR')∧J3 Gd=some (.dct (gM gone) eG'):=λmv=>⟨mv.keep _ _ hD lv.nD,mv.keep _ _ hR lv.nR,mv.keep _ _ hG lv.nG⟩
  rcases hdv with ⟨n,x,v,rfl,hn,hnu,hgl,hx,hv⟩ | ⟨n,v,rfl,hn,hv⟩ | rfl | ⟨n,rfl,hn⟩ | ⟨m',rfl,hm'⟩
  ·have i0:∀J,fz J (fE n x v) (.int 0)=some (.str "join"):=λJ=>de _ _
   have i1:∀J,fz J (fE n x v) (.int 1)=some (.str n):=λJ=>fU _ _ _
   have i2:∀J,fz J (fE n x v) (.int 2)=some (.int x):=λJ=>j_ _ _ _ _
   have i3:∀J,fz J (fE n x v) (.int 3)=some (.int v):=λJ=>rfl
   have hnf:n ∉ L.fs.map (·.1):=λz=>hnu (by
    rw [fY,Uu] at z
    obtain ⟨c',hc',e'⟩:=z
    exact Uu.mpr ⟨c',(Ln.cW.mp hc').1,e'⟩)
   simp_all! []
   refine ⟨p,L,_,rfl,lv.b,lv.ok,.inl ⟨n,x,v,rfl,hT',ng n hn,⟨hx,hv⟩,hnu,by rw [lv.ok.row,sG];have:=lv.rl.len;omega,by omega,Fs (ng n hn),λJ3 L3 b3 ok3 jn mv3=>?_⟩⟩
   have rl3:=lv.rl.join ok3.toa_ hv hx jn lv.ok.t0 lv.ok.ts hnf
   obtain ⟨a,r,ecs,et⟩:=jn
   obtain ⟨hD3,hR3,hG3⟩:=keepD mv3
   have epu:lR (L.cs.map dA) n (.fl ([aM.mk L.t (x:Rat) v].map aM.V))=L3.cs.map dA:=by rw [ecs];exact G0 (c:=⟨n,a,r,[⟨L.t,(x:Rat),v⟩],none⟩) hnu
   refine hNq _ _ ?_
   clear hNq Nq
   refine eJ (λτ' J2=>τ'=[some (.fl (ns.map .int)),some (.fl [.int d0,.int d1,.int d2]),some (.fl (names.map .str)),some (.ref p),some (.ref D),some (.ref R),some (.ref Gd),some (fr L.t),some (.int (0 + (i:Int))),some (.fl [.int r0,.int r1,.int r2,.int r3,.int r4,.int r5,.int r6,.int r7,.int r8]),some (fE n x v),u11,u12]∧∃e,J2=put J3 R (.dct (L3.cs.map dA) e)) (qC rfl (i0 _)) ?_ ?_
   ·simp_all! [i1,i2,i3,hR3]
    refine ⟨UJ hRl (by decide),λep'=>⟨ep',?_⟩⟩
    rw [← epu];rfl
   rintro τ' J2 ⟨rfl,e2,rfl⟩
   refine cE rfl (i0 _) (by decide +kernel) ?_
   refine cE rfl (i0 _) (by decide +kernel) ?_
   refine cE rfl (i0 _) (by decide +kernel) ?_
   simp_all! []
   refine ⟨D,gs,eD',L.t,_,rfl,by rw [aq lv.dr];exact hD3,gnd,by omega,st,gsz,.inl ⟨n,x,v,rfl,by rw [lv.rl.nm];exact hnf,λep'=>?_⟩⟩
   refine hNq _ _ (rest L3 _ (gone) _ _ _ _ _ (by rw [et]) (lv.next b3 ok3 mv3 rl3 (by rw [et];exact lv.td) (by rw [et];exact tl1) (λc hc=>?_) (λc hc q=>?_) lv.g2 (λy hy=>by rw [ecs,Uy];exact VH _ (lv.g3 y hy)) ⟨ep',av⟩ ⟨e2,by rw [aq nRD];exact av⟩ ⟨eG',by rw [aq nGD,aq nGR];exact hG3⟩ (λa h1 h2 _=>by rw [aq h1,aq h2])) (λy hy=>?_) ?_)
   ·rw [ecs] at hc
    rcases UB.mp hc with hc | hc
    ·have:=lv.wl c hc;omega
    ·rw [UE] at hc;subst hc;show 1≤_;omega
   ·rw [ecs] at hc
    rcases UB.mp hc with hc | hc
    ·exact lv.g1 c hc q
    ·rw [UE] at hc;subst hc
     exact ⟨λz=>(nomatch z),λz=>absurd (lv.g3 _ z) hnu⟩
   ·rw [ecs,Uy] at hy
    rcases UB.mp hy with hy | hy
    ·exact hus y hy
    ·simp only [UA,Va,UE] at hy;subst hy;exact hn
   ·rw [ecs,UR];show L.cs.length + 1≤_;omega
  ·have i0:∀J,fz J (ib n v) (.int 0)=some (.str "turn"):=λJ=>de _ _
   have i1:∀J,fz J (ib n v) (.int 1)=some (.str n):=λJ=>fU _ _ _
   have i2:∀J,fz J (ib n v) (.int 2)=some (.int v):=λJ=>j_ _ _ _ _
   obtain ⟨c0,h0,hcn,hcg⟩:=lv.ok.found (hrow n hn)
   have hva:=qZ cnd h0
   rw [hcn] at hva
   simp_all! []
   refine ⟨p,L,_,rfl,lv.b,lv.ok,.inr (.inl ⟨n,v,rfl,hrow n hn,hv,hw200,λJ3 L3 b3 ok3 e t1 mv3=>?_⟩)⟩
   obtain ⟨hD3,hR3,hG3⟩:=keepD mv3
   have epu:lR (L.cs.map dA) n (.fl ((turned c0.w L.t v).map aM.V))=L3.cs.map dA:=by
    rw [e]
    refine CC (Uu.mpr ⟨c0,h0,hcn⟩) (λc1 _=>(gE n L.t v c1).1) (λc1 h1 e1=>?_) (λc1 _ e1=>?_)
    ·have:c1=c0:=lv.ok.uniq h1 h0 (e1.trans hcn.symm)
     subst this
     unfold dh;rw [if_pos e1];rfl
    ·unfold dh;rw [if_neg e1]
   refine hNq _ _ ?_
   clear hNq Nq
   refine cE rfl (i0 _) (by decide +kernel) ?_
   refine eJ (λτ' J2=>τ'=[some (.fl (ns.map .int)),some (.fl [.int d0,.int d1,.int d2]),some (.fl (names.map .str)),some (.ref p),some (.ref D),some (.ref R),some (.ref Gd),some (fr L.t),some (.int (0 + (i:Int))),some (.fl [.int r0,.int r1,.int r2,.int r3,.int r4,.int r5,.int r6,.int r7,.int r8]),some (ib n v),u11,u12]∧∃e,J2=put J3 R (.dct (L3.cs.map dA) e)) (qC rfl (i0 _)) ?_ ?_
   ·simp_all! [i1,i2,hR3,hva]
    refine ⟨c0.w,L.t,v,rfl,(szc c0 h0).1,(szc c0 h0).2.1,st,(szc c0 h0).2.2,?_⟩
    simp_all! [i1,hR3]
    exact ⟨UJ hRl (by decide),λep'=>⟨ep',by rw [← epu]⟩⟩
   rintro τ' J2 ⟨rfl,e2,rfl⟩
   refine cE rfl (i0 _) (by decide +kernel) ?_
   refine cE rfl (i0 _) (by decide +kernel) ?_
   simp_all! []
   refine ⟨D,gs,eD',L.t,_,rfl,by rw [aq lv.dr];exact hD3,gnd,by omega,st,gsz,.inr (.inl ⟨n,v,rfl,hn,λep'=>?_⟩)⟩
   refine hNq _ _ (rest L3 _ (gone) _ _ _ _ _ (by rw [t1]) (lv.next b3 ok3 mv3 (lv.rl.turn lv.ok.toa_ hv e t1) (by rw [t1];exact lv.td) (by rw [t1];exact tl1) (λc1 hc=>?_) (λc1 hc q=>?_) lv.g2 (λy hy=>by rw [e,du (λc=>(gE n L.t v c).1)];exact lv.g3 y hy) ⟨ep',av⟩ ⟨e2,by rw [aq nRD];exact av⟩ ⟨eG',by rw [aq nGD,aq nGR];exact hG3⟩ (λa h1 h2 _=>by rw [aq h1,aq h2])) (by rw [e,du (λc=>(gE n L.t v c).1)];exact hus) (by rw [e,Us];omega))
   ·rw [e] at hc
    obtain ⟨c2,h2,rfl⟩:=Uu.mp hc
    have:=lv.wl c2 h2
    unfold dh
    split
    ·have:=nh c2.w L.t v
     show (turned c2.w L.t v).length≤_
     omega
    ·omega
   ·rw [e] at hc
    obtain ⟨c2,h2,rfl⟩:=Uu.mp hc
    rw [(gE n L.t v c2).2.2.2,(gE n L.t v c2).1]
    exact lv.g1 c2 h2 q
  ·have i0:∀J,fz J gJ (.int 0)=some (.str "about"):=λJ=>de _ _
   simp_all! []
   refine ⟨p,L,_,rfl,lv.b,lv.ok,.inr (.inr (.inl ⟨rfl,hw200,λJ3 L3 b3 ok3 e t1 mv3=>?_⟩))⟩
   obtain ⟨hD3,hR3,hG3⟩:=keepD mv3
   refine hNq _ _ ?_
   clear hNq Nq
   refine cE rfl (i0 _) (by decide +kernel) ?_
   refine cE rfl (i0 _) (by decide +kernel) ?_
   refine cE rfl (i0 _) (by decide +kernel) ?_
   refine eJ (λτ' J2=>∃u,τ'=[some (.fl (ns.map .int)),some (.fl [.int d0,.int d1,.int d2]),some (.fl (names.map .str)),some (.ref p),some (.ref D),some (.ref R),some (.ref Gd),some (fr L.t),some (.int (0 + (i:Int))),some (.fl [.int r0,.int r1,.int r2,.int r3,.int r4,.int r5,.int r6,.int r7,.int r8]),some (gJ),u,u12]∧∃e,J2=put J3 R (.dct (L3.cs.map dA) e)) (qC rfl (i0 _)) ?_ ?_
   ·simp_all! [hD3]
    obtain ⟨W,hW⟩:∃W:Nat→Sr→Hq→Prop,∀y τ J',W y τ J'↔∃u e,τ=[some (.fl (ns.map .int)),some (.fl [.int d0,.int d1,.int d2]),some (.fl (names.map .str)),some (.ref p),some (.ref D),some (.ref R),some (.ref Gd),some (fr L.t),some (.int (0 + (i:Int))),some (.fl [.int r0,.int r1,.int r2,.int r3,.int r4,.int r5,.int r6,.int r7,.int r8]),some (gJ),u,u12]∧J'=put J3 R (.dct ((L.cs.map (bp L.t ((gs.map (·.1)).take y))).map dA) e):=⟨_,λ_ _ _=>Iff.rfl⟩
    have e0:∀e',put J3 R (.dct ((L.cs.map (bp L.t ((gs.map (·.1)).take 0))).map dA) e')=put J3 R (.dct (L.cs.map dA) e'):=λe'=>by
     rw [DW λc1 _=>show bp L.t ((gs.map (·.1)).take 0) c1=c1 by unfold bp;simp]
    refine ed W ((hW _ _ _).mpr ⟨_,eR',rfl,by rw [e0,Ba hR3]⟩) (λj τ J4 hv=>?_) ?_ ?_
    ·obtain ⟨u,e',rfl,rfl⟩:=(hW _ _ _).mp hv
     rw [aq lv.dr];exact hD3
    ·intro j y τ J4 hy hv
     obtain ⟨u,e',rfl,rfl⟩:=(hW _ _ _).mp hv
     have hj:j < gs.length:=by have:=(Uv.mp hy).1;simpa [bB] using this
     have hgj:=UP hj
     have et:(gs.map (·.1)).take (j + 1)=(gs.map (·.1)).take j ++ [gs[j].1]:=by rw [UN,Uw,Ut hj];rfl
     have hy':y=.str gs[j].1:=by
      unfold bB at hy
      rw [Uw,Uw,Ut hj] at hy
      exact (Option.some.inj hy).symm
     subst hy'
     have hnd:((gs.map (·.1)).take (j + 1)).Nodup:=gnd.sublist (U' _ _)
     rw [et] at hnd
     have hnot:=(dN hnd).2
     generalize gs[j]=g0 at hgj et hnot
     obtain ⟨n,l⟩:=g0
     simp only at et hnot
     obtain ⟨c0,h0,hcn,hcg⟩:=lv.ok.found (hrow n (Uu.mpr ⟨_,hgj,rfl⟩))
     have hc0:bp L.t ((gs.map (·.1)).take j) c0=c0:=by unfold bp;rw [if_neg (by rw [hcn];exact hnot)]
     have mem':c0∈L.cs.map (bp L.t ((gs.map (·.1)).take j)):=Uu.mpr ⟨c0,h0,hc0⟩
     have nm':(L.cs.map (bp L.t ((gs.map (·.1)).take j))).map Cf.n=L.cs.map Cf.n:=du (λc=>(i9 L.t ((gs.map (·.1)).take j) c).1) L.cs
     have hva:=qZ (by rw [nm'];exact cnd) mem'
     rw [hcn] at hva
     have hvl:fA (bB gs) n=some l.V:=dX (f:=aM.V) gnd hgj
     have sl:l.v=c0.cur.v:=(lv.rl.ln n l c0.cur hgj (Uu.mpr ⟨c0,Ln.cW.mpr ⟨h0,hcg⟩,by rw [hcn]⟩)).1
     have epu:lR ((L.cs.map (bp L.t ((gs.map (·.1)).take j))).map dA) n (.fl ((turned c0.w L.t (-l.v)).map aM.V))=(L.cs.map (bp L.t ((gs.map (·.1)).take (j + 1)))).map dA:=by
      rw [CC (f:=λc1=>if c1.n=n then { c1 with w:=turned c0.w L.t (-l.v) } else c1) (by rw [nm'];exact Uu.mpr ⟨c0,h0,hcn⟩) (λc1 _=>by show (if c1.n=n then _ else c1).n=_;split <;> rfl) (λc1 _ e1=>by show (if c1.n=n then _ else c1).w=_;rw [if_pos e1]) (λc1 _ e1=>by show (if c1.n=n then _ else c1).w=_;rw [if_neg e1])]
      refine congrArg (Wi dA) ?_
      rw [Ux]
      refine UK λc1 h1=>?_
      show (if (bp L.t ((gs.map (·.1)).take j) c1).n=n then _ else bp L.t ((gs.map (·.1)).take j) c1)=_
      rw [(i9 L.t _ c1).1,et]
      by_cases e1:c1.n=n
      ·have:c1=c0:=lv.ok.uniq h1 h0 (e1.trans hcn.symm)
       subst this
       rw [if_pos e1,hc0]
       unfold bp
       rw [if_pos (UG _ (by rw [e1];exact List.mem_singleton_self n)),sl];rfl
      ·rw [if_neg e1]
       unfold bp
       by_cases z:c1.n∈(gs.map (·.1)).take j
       ·rw [if_pos z,if_pos (VH _ z)]
       ·rw [if_neg z,if_neg (λy=>(UB.mp y).elim z λy=>e1 (UE.mp y))]
     have hD4:put J3 R (.dct ((L.cs.map (bp L.t ((gs.map (·.1)).take j))).map dA) e') D=some (.dct (bB gs) eD'):=by rw [aq lv.dr];exact hD3
     have hR4:put J3 R (.dct ((L.cs.map (bp L.t ((gs.map (·.1)).take j))).map dA) e') R=some (.dct ((L.cs.map (bp L.t ((gs.map (·.1)).take j))).map dA) e'):=av
     simp_all! [hR4,hD4,hva,hvl,iu]
     refine ⟨c0.w,L.t,-l.v,rfl,(szc c0 h0).1,(szc c0 h0).2.1,st,(szc c0 h0).2.2,?_⟩
     simp_all! [hR4]
     refine ⟨UJ (show _ < 200 by rw [Us,Us];omega) (by decide),λep'=>(hW _ _ _).mpr ⟨_,ep',rfl,?_⟩⟩
     rw [epu,cm]
    ·intro τ J4 hv
     obtain ⟨u,e',rfl,rfl⟩:=(hW _ _ _).mp hv
     refine ⟨u,rfl,e',?_⟩
     rw [e,← i_ lv.ok.toa_]
     congr 3
     refine UK λc1 _=>?_
     have hm:c1.n∈(gs.map (·.1)).take ((bB gs).map λkv=>PV.str kv.1).length↔c1.n∈L.row:=by
      rw [Vk (by simp [bB]),lv.rl.nm];exact (lv.ok.rm c1.n).symm
     unfold bp
     by_cases z:c1.n∈L.row
     ·rw [if_pos z,if_pos (hm.mpr z)]
     ·rw [if_neg z,if_neg (λy=>z (hm.mp y))]
   rintro τ' J2 ⟨u,rfl,e2,rfl⟩
   simp_all! []
   refine ⟨D,gs,eD',L.t,_,rfl,by rw [aq lv.dr];exact hD3,gnd,by omega,st,gsz,.inr (.inr (.inl ⟨rfl,λep'=>?_⟩))⟩
   refine hNq _ _ (rest L3 _ (gone) _ _ _ _ _ (by rw [t1]) (lv.next b3 ok3 mv3 (lv.rl.about lv.ok.toa_ e t1) (by rw [t1];exact lv.td) (by rw [t1];exact tl1) (λc1 hc=>?_) (λc1 hc q=>?_) lv.g2 (λy hy=>by rw [e,du (λc=>(j8 L.t c).1)];exact lv.g3 y hy) ⟨ep',av⟩ ⟨e2,by rw [aq nRD];exact av⟩ ⟨eG',by rw [aq nGD,aq nGR];exact hG3⟩ (λa h1 h2 _=>by rw [aq h1,aq h2])) (by rw [e,du (λc=>(j8 L.t c).1)];exact hus) (by rw [e,Us];omega))
   ·rw [e] at hc
    obtain ⟨c2,h2,rfl⟩:=Uu.mp hc
    have:=lv.wl c2 h2
    unfold eS
    split
    ·have:=nh c2.w L.t (-c2.cur.v)
     show (turned c2.w L.t (-c2.cur.v)).length≤_
     omega
    ·omega
   ·rw [e] at hc
    obtain ⟨c2,h2,rfl⟩:=Uu.mp hc
    rw [(j8 L.t c2).2.2.2,(j8 L.t c2).1]
    exact lv.g1 c2 h2 q
  ·have i0:∀J,fz J (gd n) (.int 0)=some (.str "leave"):=λJ=>de _ _
   have i1:∀J,fz J (gd n) (.int 1)=some (.str n):=λJ=>fU _ _ _
   obtain ⟨c0,h0,hcn,hcg⟩:=lv.ok.found (hrow n hn)
   have hng':n ∉ gone.map (·.1):=λz=>by
    obtain ⟨y,hy,e⟩:=Uu.mp z
    have:=(lv.g1 c0 h0 y.2).mpr (by rw [hcn,← e];exact hy)
    rw [hcg] at this;cases this
   have gle:gone.length≤L.cs.length:=by
    have h1:=List.Nodup.length_le_of_subset lv.g2 (λy hy=>by
     obtain ⟨z,hz,e⟩:=Uu.mp hy
     rw [← e];exact lv.g3 z hz)
    simpa using h1
   have epu:lR (gM gone) n (fr L.t)=gM (gone ++ [(n,L.t)]):=mR (f:=fr) (l:=L.t) hng'
   simp_all! []
   refine ⟨p,L,_,rfl,lv.b,lv.ok,.inr (.inr (.inr (.inl ⟨n,rfl,hrow n hn,λJ3 L3 b3 ok3 e t1 mv3=>?_⟩)))⟩
   obtain ⟨hD3,hR3,hG3⟩:=keepD mv3
   refine hNq _ _ ?_
   clear hNq Nq
   refine cE rfl (i0 _) (by decide +kernel) ?_
   refine cE rfl (i0 _) (by decide +kernel) ?_
   refine eJ (λτ' J2=>τ'=[some (.fl (ns.map .int)),some (.fl [.int d0,.int d1,.int d2]),some (.fl (names.map .str)),some (.ref p),some (.ref D),some (.ref R),some (.ref Gd),some (fr L.t),some (.int (0 + (i:Int))),some (.fl [.int r0,.int r1,.int r2,.int r3,.int r4,.int r5,.int r6,.int r7,.int r8]),some (gd n),u11,u12]∧∃e,J2=put J3 Gd (.dct (gM (gone ++ [(n,L.t)])) e)) (qC rfl (i0 _)) ?_ ?_
   ·simp_all! [i1,hG3]
    exact ⟨UJ (show (gM gone).length < 200 by unfold gM;rw [Us];omega) (by decide),λep'=>⟨ep',by rw [← epu]⟩⟩
   rintro τ' J2 ⟨rfl,e2,rfl⟩
   refine cE rfl (i0 _) (by decide +kernel) ?_
   simp_all! []
   refine ⟨D,gs,eD',L.t,_,rfl,by rw [aq lv.dg];exact hD3,gnd,by omega,st,gsz,.inr (.inr (.inr (.inl ⟨n,rfl,hn,λep'=>?_⟩)))⟩
   have erow:L3.cs.map dA=L.cs.map dA:=by
    rw [e,Ux]
    refine UK λc1 _=>?_
    show ((bL n L.t c1).n,PV.fl ((bL n L.t c1).w.map aM.V))=_
    rw [(dM n L.t c1).1,(dM n L.t c1).2.2.2];rfl
   have hnm:L3.cs.map Cf.n=L.cs.map Cf.n:=by rw [e,du (λc=>(dM n L.t c).1)]
   refine hNq _ _ (rest L3 _ (gone ++ [(n,L.t)]) _ _ _ _ _ (by rw [t1]) (lv.next b3 ok3 mv3 (lv.rl.leave e t1) (by rw [t1];exact lv.td) (by rw [t1];exact tl1) (λc1 hc=>?_) (λc1 hc q=>?_) (by rw [Uy];exact D0 lv.g2 hng') (λy hy=>?_) ⟨ep',av⟩ ⟨eR',by rw [aq nRD,aq lv.rg,erow];exact hR3⟩ ⟨e2,by rw [aq nGD];exact av⟩ (λa h1 _ h2=>by rw [aq h1,aq h2])) (by rw [hnm];exact hus) (by rw [e,Us];omega))
   ·rw [e] at hc
    obtain ⟨c2,h2,rfl⟩:=Uu.mp hc
    have:=lv.wl c2 h2
    rw [(dM n L.t c2).2.2.2];omega
   ·rw [e] at hc
    obtain ⟨c2,h2,rfl⟩:=Uu.mp hc
    rw [(dM n L.t c2).1]
    by_cases e1:c2.n=n
    ·have:c2=c0:=lv.ok.uniq h2 h0 (e1.trans hcn.symm)
     subst this
     unfold bL
     rw [if_pos e1]
     show some L.t=some q↔_
     rw [UB,UE]
     constructor
     ·intro z;cases z;exact .inr (by rw [e1])
     ·rintro (z | z)
      ·exact absurd (Uu.mpr ⟨_,z,e1⟩) hng'
      ·have:=congrArg Prod.snd z;exact congrArg some this.symm
    ·unfold bL
     rw [if_neg e1,lv.g1 c2 h2 q,UB,UE]
     exact ⟨.inl,λz=>z.elim id λz=>absurd (congrArg Prod.fst z) e1⟩
   ·rw [hnm]
    rcases UB.mp hy with hy | hy
    ·exact lv.g3 y hy
    ·rw [UE] at hy;subst hy;exact Uu.mpr ⟨c0,h0,hcn⟩
  ·have i0:∀J,fz J (Kt m') (.int 0)=some (.str "go"):=λJ=>de _ _
   have tl3:=x5 (yN hm' lv.ok.t0) lv.tl
   have td3:=vh hm' lv.td
   have hg:gO m'.num m'.den=true:=rY (Rat.le_trans lv.ok.t0 (hm'.le)) td3 (FO.mpr (so (by omega) tl3))
   simp_all! []
   refine ⟨p,L,_,rfl,lv.b,lv.ok,.inr (.inr (.inr (.inr ⟨m',rfl,hg,hm'.le,λJ3 o3 b3 ok3 mv3=>?_⟩)))⟩
   obtain ⟨hD3,hR3,hG3⟩:=keepD mv3
   refine hNq _ _ ?_
   clear hNq Nq
   refine cE rfl (i0 _) (by decide +kernel) ?_
   refine cE rfl (i0 _) (by decide +kernel) ?_
   refine cE rfl (i0 _) (by decide +kernel) ?_
   refine cE rfl (i0 _) (by decide +kernel) ?_
   simp_all! []
   refine ⟨D,gs,eD',L.t,_,rfl,hD3,gnd,by omega,st,gsz,.inr (.inr (.inr (.inr ⟨m',rfl,?_⟩)))⟩
   refine hNq _ _ (rest _ _ (gone) _ _ _ _ _ (rfl) (lv.next b3 ok3 mv3 (lv.rl.go hm'.le) td3 tl3 (λc hc=>by have:=lv.wl c hc;omega) lv.g1 lv.g2 lv.g3 ⟨eD',hD3⟩ ⟨eR',hR3⟩ ⟨eG',hG3⟩ (λa _ _ _=>rfl)) hus (by show L.cs.length≤i + 1;omega))
 ·intro τ J' hv
  obtain ⟨p,L,gs,gone,u8,u9,u10,u11,u12,rfl,lv,hus,hul⟩:=(hInv _ _ _).mp hv
  refine hNq _ _ ?_
  simp_all! []
  exact q J' (by simpa using lv.mv.keep _ _ hT (λz=>b.Pq hT (by rw [hS1];exact z)))
end
theorem LU {P:Program} {w:World} {K:PySem.W.Frag} {mg:Str→Option Value} (Z:bE mg) (N:o_ K mg) {jN:Tok} (gL:mg "FARTHEST"=some (.int 1000000 jN)) {gG:Tok} (e8:mg "FASTEST"=some (.int 1000 gG)) {oT:Tok} (km:mg "FINEST"=some (.int 60 oT)) {oU:Tok} (ko:mg "LATEST"=some (.int 1000000 oU)) {lY:Tok} (jb:mg "LONGEST"=some (.int 8 lY)) {x9:Tok} (rW:mg "MOST"=some (.int 12 x9)) {rh:Tok} (nS:mg "SIGNS"=some (.str "abcdefghijklmnopqrstuvwxyz0123456789" rh)) {p_:Addr} (c_:Own K mg "BadMoment" p_) {uY:Addr} (i7:Own K mg "BadName" uY) {E6:Addr} (rH:Own K mg "Full" E6) {uZ:Addr} (eZ:Own K mg "NoCraft" uZ) {rT:Addr} (cH:Own K mg "NotThere" rT) {E7:Addr} (rJ:Own K mg "Past" E7) {BX:Addr} (nK:Own K mg "Taken" BX) {yF:Addr} (fT:Own K mg "TooFar" yF) (X_Log:∃C,dC K mg "Log" C∧aK K C "rows"∧aK K C "gone"∧dn K C "__init__" "Log.__init__" hE∧dn K C "turn" "Log.turn" mU∧dn K C "leave" "Log.leave" k_∧dn K C "legs" "Log.legs" mT∧dn K C "left" "Log.left" mS∧dn K C "twin" "Log.twin" mV∧dn K C "there" "Log.there" lj∧dn K C "leg_at" "Log.leg_at" jK∧dn K C "place" "Log.place" lh) (X_Lane:∃C,dC K mg "Lane" C∧aK K C "now"∧aK K C "logs"∧aK K C "row"∧dn K C "__init__" "Lane.__init__" gj∧dn K C "twin" "Lane.twin" iz∧dn K C "must_be_there" "Lane.must_be_there" dU∧dn K C "leg_of" "Lane.leg_of" iU∧dn K C "settle" "Lane.settle" fS∧dn K C "join" "Lane.join" k7∧dn K C "place" "Lane.place" jJ∧dn K C "closest" "Lane.closest" g9∧dn K C "count_from" "Lane.count_from" dG∧dn K C "log_of" "Lane.log_of" iV∧dn K C "left" "Lane.left" k8∧dn K C "history" "Lane.history" g_∧dn K C "place_at" "Lane.place_at" gq∧dn K C "order_at" "Lane.order_at" eO∧dn K C "meets" "Lane.meets" jI∧dn K C "foretold" "Lane.foretold" gm∧dn K C "go_to" "Lane.go_to" jG∧dn K C "turn" "Lane.turn" k9∧dn K C "about" "Lane.about" jF∧dn K C "leave" "Lane.leave" jH) (X_Bells:∃C,dC K mg "Bells" C∧aK K C "rows"∧dn K C "__init__" "Bells.__init__" fN∧dn K C "drop" "Bells.drop" gC∧dn K C "put" "Bells.put" k6∧dn K C "told" "Bells.told" jE) (Lu:Def K mg "_law_cell" Bk) (EL:Def K mg "shared" tj) (zV:Def K mg "fraction" mW) (Ow:Def K mg "_law_low" G5) (Lz:Def K mg "less" Bo) (LD:Def K mg "plus" Br) (HY:Def K mg "minus" xF) (Ia:Def K mg "times" xH) (EJ:Def K mg "_law_digits" sZ) {il:Addr} (ik:zZ K mg "good_name" iB il) (HZ:Def K mg "_law_names" oJ) (zY:Def K mg "place_on" m3) (Di:Def K mg "last_by" pO) (t9:Def K mg "lies_behind" iX) (zW:Def K mg "in_order" mY) (t_:Def K mg "rings_ahead" iY) (Dk:Def K mg "meeting" pQ) (nH:Def K mg "in_lowest_terms" ft) (t8:Def K mg "good_moment" iW) (Ib:Def K mg "_law_whole" xI) (LC:Def K mg "_law_part" Bq) (HX:Def K mg "_law_maybe" xE) (Ic:Def K mg "_law_words" xJ) (Dl:Def K mg "_law_passrow" pR) (zX:Def K mg "_law_passrows" mZ) (Dj:Def K mg "_law_legrows" pP) (EK:Def K mg "_law_placed" s_) (H_:Def K mg "_law_paced" xG) (Ro:Def K mg "_law_at" Nx) (HW:Def K mg "_law_later" xD) (HU:Def K mg "_law_acted" xA) (EI:Def K mg "_law_before" sY) (H0:Def K mg "_law_order" q9) (Ot:Def K mg "_law_due" G4) (Dh:Def K mg "_law_closest" pN) (LB:Def K mg "_law_next" Bp) (EM:Def K mg "_law_turned" tm) (Ly:Def K mg "_law_held" Bn) (Ox:Def K mg "_law_was" G6) (Lx:Def K mg "_law_done" Bl) (Lw:Def K mg "_law_deed" xC) (HV:Def K mg "_law_ahead" xB) (Ls:Def K mg "_law_back" Bj) {f:Addr} {fd:FuncData} (F:bU K "law" "law" CD f fd) (base:Heap) (Bm:BMain mg base) :
  aS P w K mg base (cn P w) 10 f fd ["_law_script"] (cK K (Bx [il])):=by
 obtain ⟨EZ,a8,aU,bD,qy,yp,vW,yo,yn,yq,vY,uk,vX⟩:=X_Log
 obtain ⟨Ry,ax,aB,aI,aJ,o4,vV,j1,rE,rG,vS,uj,qw,mC,rF,vT,qx,o8,o7,ui,o5,ug,vU,uf,uh⟩:=X_Lane
 obtain ⟨Ra,bN,a9,nJ,ud,vR,ue⟩:=X_Bells
 have LJ:=Lu.cU (P:=P) (w:=w) (base:=base) (λ_ _ F=>F5 F Z) λ_ _ _ _ _ _=>ij λ_ _=>rfl
 have ym:=EL.cU (P:=P) (w:=w) (base:=base) (λ_ _ F=>AI F Z) λ_ _ _ _ _ _=>ij λ_ _=>rfl
 have ju:=zV.cU (λ_ _ F=>wL F Z c_ ym) λ_ _ _ _ _ _=>ij λ_ _=>rfl
 have uP:=Ow.cU (P:=P) (w:=w) (base:=base) (λ_ _ F=>Jd F Z) λ_ _ _ _ _ _=>ij λ_ _=>rfl
 have iG:=Lz.cU (P:=P) (w:=w) (base:=base) (λ_ _ F=>F9 F Z) λ_ _ _ _ _ _=>ij λ_ _=>rfl
 have LP:=LD.cU (λ_ _ F=>Ga F Z ju) λ_ _ _ _ _ _=>ij λ_ _=>rfl
 have vQ:=HY.cU (λ_ _ F=>D8 F Z ju) λ_ _ _ _ _ _=>ij λ_ _=>rfl
 have Ik:=Ia.cU (λ_ _ F=>Ea F Z ju) λ_ _ _ _ _ _=>ij λ_ _=>rfl
 have yi:=EJ.cU (P:=P) (w:=w) (base:=base) (λ_ _ F=>AG F Z) λ_ _ _ _ _ _=>ij λ_ _=>rfl
 have yj:=ik.cU (P:=P) (w:=w) (base:=base) (λ_ _ _ F=>uE F Z Bm jb nS) λ_ _ _ _ _ _=>Ag λ_=>rfl
 have Ii:=HZ.cU (λ_ _ F=>D9 F Z yi) λ_ _ _ _ _ _=>ij λ_ _=>rfl
 have gH:=zY.cU (λ_ _ F=>wO F Z LP vQ Ik) λ_ _ _ _ _ _=>ij λ_ _=>rfl
 have Dq:=Di.cU (λ_ _ F=>y8 F Z iG) λ_ _ _ _ _ _=>ij λ_ _=>rfl
 have ub:=t9.cU (λ_ _ F=>qG F Z gH iG) λ_ _ _ _ _ _=>Rw λ_ _ _ _ _=>rfl
 have rD:=zW.cU (λ_ _ F=>wM F Z ub) λ_ _ _ _ _ _=>ij λ_ _=>rfl
 have uQ:=qy.Se (P:=P) (w:=w) (base:=base) a8 (λ_ _ F=>yX F a8 aU bD) λ_ _ _ _ _ _=>N' λ_ _ _ _=>rfl
 have fI:=yp.nu (mg:=mg) a8.cl (λ_ _ F=>y3 F Z a8 aU gH) λ_ _ _ _ _ _=>HI λ_ _ _=>rfl
 have kH:=vW.nu (P:=P) (w:=w) (base:=base) (mg:=mg) a8.cl (λ_ _ F=>wI F Z a8 bD) λ_ _ _ _ _ _=>ij λ_ _=>rfl
 have mO:=yo.nu (P:=P) (w:=w) (base:=base) (mg:=mg) a8.cl (λ_ _ F=>yZ F Z a8 aU) λ_ _ _ _ _ _=>Ag λ_=>rfl
 have mM:=yn.nu (P:=P) (w:=w) (base:=base) (mg:=mg) a8.cl (λ_ _ F=>yY F Z a8 bD) λ_ _ _ _ _ _=>Ag λ_=>rfl
 have mP:=yq.nu (mg:=mg) a8.cl (λ_ _ F=>y4 F Z a8 aU bD uQ) λ_ _ _ _ _ _=>Ag λ_=>rfl
 have e9:=vY.nu (mg:=mg) a8.cl (λ_ _ F=>wK F Z a8 aU bD iG) λ_ _ _ _ _ _=>ij λ_ _=>rfl
 have cv:=uk.nu (mg:=mg) a8.cl (λ_ _ F=>uD F Z a8 aU cH e9 Dq) λ_ _ _ _ _ _=>ij λ_ _=>rfl
 have kI:=vX.nu (mg:=mg) a8.cl (λ_ _ F=>wJ F Z cv gH) λ_ _ _ _ _ _=>ij λ_ _=>rfl
 have o9:=o4.Se (P:=P) (w:=w) (base:=base) ax (λ_ _ F=>wC F (cL:=EZ) N ax aB aI aJ) λ_ _ _ _ _ _=>Ag λ_=>rfl
 have kG:=vV.nu (mg:=mg) ax.cl (λ_ _ F=>wH F Z ax aB aI aJ o9 mP) λ_ _ _ _ _ _=>Ag λ_=>rfl
 have ba:=j1.nu (P:=P) (w:=w) (base:=base) (mg:=mg) ax.cl (λ_ _ F=>j5 F Z (cL:=EZ) ax aJ eZ) λ_ _ _ _ _ _=>ij λ_ _=>rfl
 have bF:=rE.nu (mg:=mg) ax.cl (λ_ _ F=>sv F Z ax aI aB ba cv) λ_ _ _ _ _ _=>ij λ_ _=>rfl
 have bH:=rG.nu (mg:=mg) ax.cl (λ_ _ F=>sD F Z ax aJ aB bF rD) λ_ _ _ _ _ _=>Ag λ_=>rfl
 have kD:=vS.nu (mg:=mg) ax.cl (λ_ _ F=>wD F Z ax aJ aB aI gL e8 rW i7 fT nK rH yj uQ bH) λ_ _ _ _ _ _=>N' λ_ _ _ _=>rfl
 have di:=uj.nu (mg:=mg) ax.cl (λ_ _ F=>uC F Z ax aB bF gH) λ_ _ _ _ _ _=>ij λ_ _=>rfl
 have gP:=qw.nu (mg:=mg) ax.cl (λ_ _ F=>qD F Z ax aJ di vQ iG) λ_ _ _ _ _ _=>Ag λ_=>rfl
 have fg:=mC.nu (mg:=mg) ax.cl (λ_ _ F=>mQ F Z ax aJ di iG) λ_ _ _ _ _ _=>ij λ_ _=>rfl
 have b9:=rF.nu (P:=P) (w:=w) (base:=base) (mg:=mg) ax.cl (λ_ _ F=>sC F Z (cL:=EZ) ax aI eZ) λ_ _ _ _ _ _=>ij λ_ _=>rfl
 have kE:=vT.nu (mg:=mg) ax.cl (λ_ _ F=>wF F Z ax b9 mM) λ_ _ _ _ _ _=>ij λ_ _=>rfl
 have gQ:=qx.nu (mg:=mg) ax.cl (λ_ _ F=>qE F Z ax b9 mO) λ_ _ _ _ _ _=>ij λ_ _=>rfl
 have gf:=o8.nu (mg:=mg) ax.cl (λ_ _ F=>pG F Z ax aB cH b9 kI iG) λ_ _ _ _ _ _=>HI λ_ _ _=>rfl
 have eL:=o7.nu (mg:=mg) ax.cl (λ_ _ F=>pF F Z N ax aB aI cH e9 cv iG rD) λ_ _ _ _ _ _=>ij λ_ _=>rfl
 have uc:=t_.cU (λ_ _ F=>qH F Z iG) λ_ _ _ _ _ _=>ij λ_ _=>rfl
 have vZ:=nJ.Se (P:=P) (w:=w) (base:=base) bN (λ_ _ F=>uw F bN a9) λ_ _ _ _ _ _=>Ag λ_=>rfl
 have jy:=ud.nu (P:=P) (w:=w) (base:=base) (mg:=mg) bN.cl (λ_ _ F=>uv F Z bN a9) λ_ _ _ _ _ _=>HI λ_ _ _=>rfl
 have kC:=vR.nu (mg:=mg) bN.cl (λ_ _ F=>wB F Z bN a9 jy uc) λ_ _ _ _ _ _=>N' λ_ _ _ _=>rfl
 have jz:=ue.nu (P:=P) (w:=w) (base:=base) (mg:=mg) bN.cl (λ_ _ F=>ux F Z bN a9) λ_ _ _ _ _ _=>Ag λ_=>rfl
 have Ds:=Dk.cU (λ_ _ F=>y_ F Z N gH vQ ju) λ_ _ _ _ _ _=>ij λ_ _=>rfl
 have d5:=ui.nu (mg:=mg) ax.cl (λ_ _ F=>uB F Z ax aB bF Ds iG) λ_ _ _ _ _ _=>HI λ_ _ _=>rfl
 have nI:=nH.cU (λ_ _ F=>l8 F Z ym) λ_ _ _ _ _ _=>Ag λ_=>rfl
 have ua:=t8.cU (λ_ _ F=>qF F Z km ko nI) λ_ _ _ _ _ _=>Ag λ_=>rfl
 have cS:=o5.nu (mg:=mg) ax.cl (λ_ _ F=>pE F Z ax aB aJ c_ rJ ua iG vZ d5 kC jz) λ_ _ _ _ _ _=>ij λ_ _=>rfl
 have d4:=ug.nu (mg:=mg) ax.cl (λ_ _ F=>uz F Z ax aB cS bH) λ_ _ _ _ _ _=>ij λ_ _=>rfl
 have kF:=vU.nu (mg:=mg) ax.cl (λ_ _ F=>wG F Z ax aI aB e8 fT ba fI bH) λ_ _ _ _ _ _=>HI λ_ _ _=>rfl
 have d3:=uf.nu (mg:=mg) ax.cl (λ_ _ F=>uy F Z ax aJ aI aB bF fI bH) λ_ _ _ _ _ _=>Ag λ_=>rfl
 have jA:=uh.nu (mg:=mg) ax.cl (λ_ _ F=>uA F Z ax aI aB aJ ba kH) λ_ _ _ _ _ _=>ij λ_ _=>rfl
 have BL:=Ib.cU (P:=P) (w:=w) (base:=base) (λ_ _ F=>Eb F Z) λ_ _ _ _ _ _=>Ag λ_=>rfl
 have Ab:=LC.cU (λ_ _ F=>F' F Z BL) λ_ _ _ _ _ _=>ij λ_ _=>rfl
 have BJ:=HX.cU (λ_ _ F=>D7 F Z Ab) λ_ _ _ _ _ _=>ij λ_ _=>rfl
 have Il:=Ic.cU (P:=P) (w:=w) (base:=base) (λ_ _ F=>Ec F Z) λ_ _ _ _ _ _=>ij λ_ _=>rfl
 have Dt:=Dl.cU (λ_ _ F=>za F Z Ab) λ_ _ _ _ _ _=>ij λ_ _=>rfl
 have Ac:=zX.cU (λ_ _ F=>wN F Z Dt) λ_ _ _ _ _ _=>ij λ_ _=>rfl
 have Dr:=Dj.cU (λ_ _ F=>y9 F Z BL Ab) λ_ _ _ _ _ _=>ij λ_ _=>rfl
 have EO:=EK.cU (P:=P) (w:=w) (base:=base) (λ_ _ F=>AH F Z) λ_ _ _ _ _ _=>ij λ_ _=>rfl
 have Ij:=H_.cU (P:=P) (w:=w) (base:=base) (λ_ _ F=>D' F Z) λ_ _ _ _ _ _=>ij λ_ _=>rfl
 have yg:=Ro.cU (λ_ _ F=>MJ F Z uP) λ_ _ _ _ _ _=>ij λ_ _=>rfl
 have BI:=HW.cU (λ_ _ F=>D6 F Z uP) λ_ _ _ _ _ _=>N' λ_ _ _ _=>rfl
 have Ig:=HU.cU (λ_ _ F=>D4 F Z yg) λ_ _ _ _ _ _=>HI λ_ _ _=>rfl
 have yh:=EI.cU (P:=P) (w:=w) (base:=base) (λ_ _ F=>AF F Z) λ_ _ _ _ _ _=>ij λ_ _=>rfl
 have BK:=H0.cU (λ_ _ F=>D_ F Z yg yh) λ_ _ _ _ _ _=>ij λ_ _=>rfl
 have Oz:=Ot.cU (λ_ _ F=>I_ F Z yg uP yh) λ_ _ _ _ _ _=>HI λ_ _ _=>rfl
 have Dp:=Dh.cU (λ_ _ F=>y6 F Z BK yg uP) λ_ _ _ _ _ _=>ij λ_ _=>rfl
 have LN:=LB.cU (λ_ _ F=>F_ F Z yg uP) λ_ _ _ _ _ _=>N' λ_ _ _ _=>rfl
 have ER:=EM.cU (λ_ _ F=>AJ F Z yg) λ_ _ _ _ _ _=>HI λ_ _ _=>rfl
 have LM:=Ly.cU (P:=P) (w:=w) (base:=base) (λ_ _ F=>F8 F Z) λ_ _ _ _ _ _=>ij λ_ _=>rfl
 have OA:=Ox.cU (λ_ _ F=>Je F Z LM) λ_ _ _ _ _ _=>HI λ_ _ _=>rfl
 have LL:=Lx.cU (λ_ _ F=>F7 F Z kD jA kF d3 d4) λ_ _ _ _ _ _=>ij λ_ _=>rfl
 have LK:=Lw.cU (λ_ _ F=>F6 F Z EO Ij BI) λ_ _ _ _ _ _=>Tz λ_ _ _ _ _ _=>rfl
 have Ih:=HV.cU (λ_ _ F=>D5 F Z Dp BJ LN yg BI Ac Oz gP d5 fg cS) λ_ _ _ _ _ _=>Rw λ_ _ _ _ _=>rfl
 have LH:=Ls.cU (λ_ _ F=>F4 F Z uP Dr BJ OA yg Il BK gQ kE gf eL) λ_ _ _ _ _ _=>Tz λ_ _ _ _ _ _=>rfl
 exact Jc F Z LJ yi Ii LK LL ER Ig Ih LH o9 kG d3 d4
end Ov
namespace PySem.W.Fast
def tw15264675424161923202:=0
def tw11105034791021231377:=0
def tw1034368917216727040:=0
def tw6996254864768555352:=0
def tw1838356314190696580:=0
def tw11117900150730924915:=0
def tw5685620259741275756:=0
def tw2642723635528959902:=0
def tw2442754939758700201:=0
def tw16721791261147665191:=0
def tw8331165596409739933:=0
def tw6897362172267231215:=0
def tw13065547188136435530:=0
def tw1194718921885124371:=0
def tw12229862235646991197:=0
def tw14790592409351356036:=0
def tw14446329598791618859:=0
def tw18395302078368198504:=0
def tw2933472664695739848:=0
def tw2415028887988185341:=0
def tw4626127079443171985:=0
def tw9117619071906792607:=0
def tw10815242420763964742:=0
def tw16974970182140034680:=0
def tw17030070720302670868:=0
def tw3219452921325302854:=0
def tw7290490630673544892:=0
def tw11230129810687877931:=0
def tw14894631725546483904:=0
def tw3738614308796031602:=0
def tw8138650984272883418:=0
def tw2989634428069722355:=0
def tw9259887888759439816:=0
def tw625882870875555489:=0
def tw2711036885224097349:=0
def tw18001650407105217516:=0
def tw36035067474646648:=0
def tw7632970473336897239:=0
def tw9922951490957611055:=0
def tw10966939695138452689:=0
def tw16640824149444630364:=0
def tw11163656369884155651:=0
def tw12034306777405362898:=0
def tw7941706389840389470:=0
def tw5194310538672802894:=0
def tw1072617878600382624:=0
def tw14907782357703088784:=0
def tw10667079547432658822:=0
def tw14770083911976925242:=0
def tw2178076803506306396:=0
def tw10535823320451773580:=0
def tw6717989554268357891:=0
def tw255493674772771832:=0
def tw13501066361893763910:=0
def tw243438672878819057:=0
def tw13206969318308471088:=0
def tw7679967030237203650:=0
def tw10742963442044125442:=0
def tw12738632109389594993:=0
def tw13473460708929134952:=0
def tw17623598728169768670:=0
def tw3340648104795523535:=0
def tw4200871645789693027:=0
def tw7235566046811730123:=0
def tw8793209800809999993:=0
def tw750228864548984941:=0
def tw15052831565571779334:=0
def tw2894100982958440003:=0
def tw14392556780270456504:=0
def tw6553233362408900412:=0
def tw17625200178367381851:=0
def tw7929513393516131206:=0
def tw15098549080866971441:=0
def tw7841531081462523394:=0
def tw11113614217157869842:=0
def tw3705093421657322206:=0
def tw6096423223322594282:=0
def tw10670197546512949734:=0
def tw17533743133661436721:=0
def tw15682229035635192125:=0
def tw14422183550935057117:=0
def tw11327547834004184340:=0
def tw1931765608023742922:=0
def tw15832158324902843554:=0
def tw9027304173236841296:=0
def tw3542950734640706770:=0
def tw12620683153566342613:=0
def tw7497757324114377493:=0
def tw12140138819261559144:=0
def tw6173042310248855916:=0
def tw5835050186393026177:=0
def tw17280833900201965416:=0
def tw8651724689331492852:=0
def tw10035936622158333340:=0
def tw6083947808988034680:=0
def tw2248954867154749193:=0
def tw1460842641453291489:=0
def tw8986570909214687658:=0
def tw4853543975087798813:=0
def tw15752871265947710544:=0
def tw9654878466529427430:=0
def tw6059419170925040844:=0
def tw13134200038874045660:=0
def tw17338283586494786795:=0
def tw18192288393970274937:=0
def tw16847975014835556444:=0
def tw12009180602787808478:=0
def tw16475210971294823950:=0
def tw15420858114072651884:=0
def tw740758025886300957:=0
def tw3400441918592298726:=0
def tw10193420764421957026:=0
def tw15866878313082799300:=0
def tw3904693344452371744:=0
def tw10806419049904795889:=0
def tw364294030978715566:=0
def tw13698537826448274874:=0
def tw17210004479278253418:=0
def tw2478342973758085211:=0
def tw9801382191617382755:=0
end PySem.W.Fast
open PySem PySem.W PyProof.Rows
set_option hygiene false
local macro_rules | `(tactic| simp_arith)=>`(tactic| (dsimp only [L2.qv];refine' Ov.Ma KX G ?a ?l ?c ?k;(case a=>k_is);(case l=>k_is);(case c=>k_is);(case k=>k_is)))
set_option maxRecDepth 100000 in
set_option maxHeartbeats 0 in
theorem PySem.Challenge.cw_overhaul_k56_whole_looks_each_time_holds : PySem.Challenge.rw_overhaul_k56_whole_looks_each_time.Holds := by
 w_on;o_law;k_head;(case hw=>w_witness2)
 k_fill
 refine Ov.HD (l:=PySem.Challenge.rw_overhaul_k56_whole_looks_each_time) (n:=63) (k:=10) (x:="_law_script") (sp:=Ov.Hf) ["good_name"] rfl (by decide) rfl ⟨rfl,by decide,by decide⟩ (λw h Y=>PySem.W.kIn_of Y) ?Nm ?F (λtabs K H a ns hl hT hS hA hK=>⟨a,ns,rfl,hS,hl,hT,hA,hK,λ_ e=>⟨rfl,e⟩⟩)
 case Nm=>decide +kernel
 case F =>
  intro w mg fa h KX G hmg
  obtain ⟨il,ik⟩:∃T,Ov.zZ (L2.qv KX) mg "good_name" Ov.iB T:=by
   dsimp only [L2.qv]
   refine' ⟨_,Ov.Iu KX G ?ga ?gl ?gc ?gk ?gt ?gp ?gb ?ge ?go⟩
   (case ga=>k_is);(case gl=>k_is);(case gc=>k_is);(case gk=>k_is);(case gt=>k_is);(case gp=>rfl);(case gb=>kernel_rfl);(case ge=>decide);(case go=>kernel_rfl)
  have Ou:Ov.Def (L2.qv KX) mg "law" Ov.CD:=by simp_arith
  have Z:Ov.bE mg:=by
   refine' ⟨Ov.To.mk (PySem.W.mg_none_of KX G ?z0) (PySem.W.mg_none_of KX G ?z1) (PySem.W.mg_none_of KX G ?z2) (PySem.W.mg_none_of KX G ?z3) (PySem.W.mg_none_of KX G ?z4) (PySem.W.mg_none_of KX G ?z5) (PySem.W.mg_none_of KX G ?z6) (PySem.W.mg_none_of KX G ?z7) (PySem.W.mg_none_of KX G ?z8) (PySem.W.mg_none_of KX G ?z9),PySem.W.mg_none_of KX G ?w0,PySem.W.mg_none_of KX G ?w1,PySem.W.mg_none_of KX G ?w2,PySem.W.mg_none_of KX G ?w3,PySem.W.mg_none_of KX G ?w4⟩
   (case z0=>k_is);(case z1=>k_is);(case z2=>k_is);(case z3=>k_is);(case z4=>k_is);(case z5=>k_is);(case z6=>k_is);(case z7=>k_is);(case z8=>k_is);(case z9=>k_is);(case w0=>k_is);(case w1=>k_is);(case w2=>k_is);(case w3=>k_is);(case w4=>k_is)
  have N:Ov.o_ (L2.qv KX) mg:=by
   dsimp only [L2.qv]
   refine' Ov.D1 KX G ?a ?l
   (case a=>k_is);(case l=>k_is)
  obtain ⟨p_,c_⟩:∃C,Ov.Own (L2.qv KX) mg "BadMoment" C:=by
   dsimp only [L2.qv]
   refine' ⟨_,Ov.kL KX G ?a ?b⟩
   (case a=>k_is);(case b=>kernel_rfl)
  obtain ⟨uY,i7⟩:∃C,Ov.Own (L2.qv KX) mg "BadName" C:=by
   dsimp only [L2.qv]
   refine' ⟨_,Ov.kL KX G ?a ?b⟩
   (case a=>k_is);(case b=>kernel_rfl)
  obtain ⟨E6,rH⟩:∃C,Ov.Own (L2.qv KX) mg "Full" C:=by
   dsimp only [L2.qv]
   refine' ⟨_,Ov.kL KX G ?a ?b⟩
   (case a=>k_is);(case b=>kernel_rfl)
  obtain ⟨uZ,eZ⟩:∃C,Ov.Own (L2.qv KX) mg "NoCraft" C:=by
   dsimp only [L2.qv]
   refine' ⟨_,Ov.kL KX G ?a ?b⟩
   (case a=>k_is);(case b=>kernel_rfl)
  obtain ⟨rT,cH⟩:∃C,Ov.Own (L2.qv KX) mg "NotThere" C:=by
   dsimp only [L2.qv]
   refine' ⟨_,Ov.kL KX G ?a ?b⟩
   (case a=>k_is);(case b=>kernel_rfl)
  obtain ⟨E7,rJ⟩:∃C,Ov.Own (L2.qv KX) mg "Past" C:=by
   dsimp only [L2.qv]
   refine' ⟨_,Ov.kL KX G ?a ?b⟩
   (case a=>k_is);(case b=>kernel_rfl)
  obtain ⟨BX,nK⟩:∃C,Ov.Own (L2.qv KX) mg "Taken" C:=by
   dsimp only [L2.qv]
   refine' ⟨_,Ov.kL KX G ?a ?b⟩
   (case a=>k_is);(case b=>kernel_rfl)
  obtain ⟨yF,fT⟩:∃C,Ov.Own (L2.qv KX) mg "TooFar" C:=by
   dsimp only [L2.qv]
   refine' ⟨_,Ov.kL KX G ?a ?b⟩
   (case a=>k_is);(case b=>kernel_rfl)
  obtain ⟨jN,gL⟩:∃t,mg "FARTHEST"=some (.int 1000000 t):=by
   refine' Ov.const_int KX G ?cz ?cw
   (case cz=>k_is);(case cw=>kernel_rfl)
  obtain ⟨gG,e8⟩:∃t,mg "FASTEST"=some (.int 1000 t):=by
   refine' Ov.const_int KX G ?cz ?cw
   (case cz=>k_is);(case cw=>kernel_rfl)
  obtain ⟨oT,km⟩:∃t,mg "FINEST"=some (.int 60 t):=by
   refine' Ov.const_int KX G ?cz ?cw
   (case cz=>k_is);(case cw=>kernel_rfl)
  obtain ⟨oU,ko⟩:∃t,mg "LATEST"=some (.int 1000000 t):=by
   refine' Ov.const_int KX G ?cz ?cw
   (case cz=>k_is);(case cw=>kernel_rfl)
  obtain ⟨lY,jb⟩:∃t,mg "LONGEST"=some (.int 8 t):=by
   refine' Ov.const_int KX G ?cz ?cw
   (case cz=>k_is);(case cw=>kernel_rfl)
  obtain ⟨x9,rW⟩:∃t,mg "MOST"=some (.int 12 t):=by
   refine' Ov.const_int KX G ?cz ?cw
   (case cz=>k_is);(case cw=>kernel_rfl)
  obtain ⟨rh,nS⟩:∃t,mg "SIGNS"=some (.str "abcdefghijklmnopqrstuvwxyz0123456789" t):=by
   refine' Ov.Dz KX G ?cz ?cw
   (case cz=>k_is);(case cw=>kernel_rfl)
  obtain ⟨fd,F,hb⟩:=Ov.Mx Ou hmg (λ_ _ _ _ _ _ _=>rfl)
  exact ⟨fd,[il],hb,(λT hT=>by simp only [UH,UU,or_false] at hT;rcases hT with rfl <;> first | exact ⟨_,by simp,_,ik⟩),λbase _ _ Bm=>Ov.DN (Ov.LU Z N gL e8 km ko jb rW nS c_ i7 rH eZ cH rJ nK fT (by dsimp only [L2.qv];refine' ⟨_,Ov.wm KX G ?a ?pg ?hd ?po ?sa ?mk ?kc,?n0,?n1,Ov.bz ?m0a ?m0i ?m0l ?m0c ?m0k,Ov.bz ?m1a ?m1i ?m1l ?m1c ?m1k,Ov.bz ?m2a ?m2i ?m2l ?m2c ?m2k,Ov.bz ?m3a ?m3i ?m3l ?m3c ?m3k,Ov.bz ?m4a ?m4i ?m4l ?m4c ?m4k,Ov.bz ?m5a ?m5i ?m5l ?m5c ?m5k,Ov.bz ?m6a ?m6i ?m6l ?m6c ?m6k,Ov.bz ?m7a ?m7i ?m7l ?m7c ?m7k,Ov.bz ?m8a ?m8i ?m8l ?m8c ?m8k⟩;(case a=>k_is);(case pg=>k_is);(case hd=>k_is);(case po=>k_is);(case sa=>k_is);(case mk=>k_is);(case kc=>k_is);(case n0=>(show PySem.W.findIn _ _ _=_;k_is));(case n1=>(show PySem.W.findIn _ _ _=_;k_is));(case m0a=>k_is);(case m0i=>k_is);(case m0l=>k_is);(case m0c=>k_is);(case m0k=>k_is);(case m1a=>k_is);(case m1i=>k_is);(case m1l=>k_is);(case m1c=>k_is);(case m1k=>k_is);(case m2a=>k_is);(case m2i=>k_is);(case m2l=>k_is);(case m2c=>k_is);(case m2k=>k_is);(case m3a=>k_is);(case m3i=>k_is);(case m3l=>k_is);(case m3c=>k_is);(case m3k=>k_is);(case m4a=>k_is);(case m4i=>k_is);(case m4l=>k_is);(case m4c=>k_is);(case m4k=>k_is);(case m5a=>k_is);(case m5i=>k_is);(case m5l=>k_is);(case m5c=>k_is);(case m5k=>k_is);(case m6a=>k_is);(case m6i=>k_is);(case m6l=>k_is);(case m6c=>k_is);(case m6k=>k_is);(case m7a=>k_is);(case m7i=>k_is);(case m7l=>k_is);(case m7c=>k_is);(case m7k=>k_is);(case m8a=>k_is);(case m8i=>k_is);(case m8l=>k_is);(case m8c=>k_is);(case m8k=>k_is)) (by dsimp only [L2.qv];refine' ⟨_,Ov.wm KX G ?a ?pg ?hd ?po ?sa ?mk ?kc,?n0,?n1,?n2,Ov.bz ?m0a ?m0i ?m0l ?m0c ?m0k,Ov.bz ?m1a ?m1i ?m1l ?m1c ?m1k,Ov.bz ?m2a ?m2i ?m2l ?m2c ?m2k,Ov.bz ?m3a ?m3i ?m3l ?m3c ?m3k,Ov.bz ?m4a ?m4i ?m4l ?m4c ?m4k,Ov.bz ?m5a ?m5i ?m5l ?m5c ?m5k,Ov.bz ?m6a ?m6i ?m6l ?m6c ?m6k,Ov.bz ?m7a ?m7i ?m7l ?m7c ?m7k,Ov.bz ?m8a ?m8i ?m8l ?m8c ?m8k,Ov.bz ?m9a ?m9i ?m9l ?m9c ?m9k,Ov.bz ?m10a ?m10i ?m10l ?m10c ?m10k,Ov.bz ?m11a ?m11i ?m11l ?m11c ?m11k,Ov.bz ?m12a ?m12i ?m12l ?m12c ?m12k,Ov.bz ?m13a ?m13i ?m13l ?m13c ?m13k,Ov.bz ?m14a ?m14i ?m14l ?m14c ?m14k,Ov.bz ?m15a ?m15i ?m15l ?m15c ?m15k,Ov.bz ?m16a ?m16i ?m16l ?m16c ?m16k,Ov.bz ?m17a ?m17i ?m17l ?m17c ?m17k,Ov.bz ?m18a ?m18i ?m18l ?m18c ?m18k,Ov.bz ?m19a ?m19i ?m19l ?m19c ?m19k⟩;(case a=>k_is);(case pg=>k_is);(case hd=>k_is);(case po=>k_is);(case sa=>k_is);(case mk=>k_is);(case kc=>k_is);(case n0=>(show PySem.W.findIn _ _ _=_;k_is));(case n1=>(show PySem.W.findIn _ _ _=_;k_is));(case n2=>(show PySem.W.findIn _ _ _=_;k_is));(case m0a=>k_is);(case m0i=>k_is);(case m0l=>k_is);(case m0c=>k_is);(case m0k=>k_is);(case m1a=>k_is);(case m1i=>k_is);(case m1l=>k_is);(case m1c=>k_is);(case m1k=>k_is);(case m2a=>k_is);(case m2i=>k_is);(case m2l=>k_is);(case m2c=>k_is);(case m2k=>k_is);(case m3a=>k_is);(case m3i=>k_is);(case m3l=>k_is);(case m3c=>k_is);(case m3k=>k_is);(case m4a=>k_is);(case m4i=>k_is);(case m4l=>k_is);(case m4c=>k_is);(case m4k=>k_is);(case m5a=>k_is);(case m5i=>k_is);(case m5l=>k_is);(case m5c=>k_is);(case m5k=>k_is);(case m6a=>k_is);(case m6i=>k_is);(case m6l=>k_is);(case m6c=>k_is);(case m6k=>k_is);(case m7a=>k_is);(case m7i=>k_is);(case m7l=>k_is);(case m7c=>k_is);(case m7k=>k_is);(case m8a=>k_is);(case m8i=>k_is);(case m8l=>k_is);(case m8c=>k_is);(case m8k=>k_is);(case m9a=>k_is);(case m9i=>k_is);(case m9l=>k_is);(case m9c=>k_is);(case m9k=>k_is);(case m10a=>k_is);(case m10i=>k_is);(case m10l=>k_is);(case m10c=>k_is);(case m10k=>k_is);(case m11a=>k_is);(case m11i=>k_is);(case m11l=>k_is);(case m11c=>k_is);(case m11k=>k_is);(case m12a=>k_is);(case m12i=>k_is);(case m12l=>k_is);(case m12c=>k_is);(case m12k=>k_is);(case m13a=>k_is);(case m13i=>k_is);(case m13l=>k_is);(case m13c=>k_is);(case m13k=>k_is);(case m14a=>k_is);(case m14i=>k_is);(case m14l=>k_is);(case m14c=>k_is);(case m14k=>k_is);(case m15a=>k_is);(case m15i=>k_is);(case m15l=>k_is);(case m15c=>k_is);(case m15k=>k_is);(case m16a=>k_is);(case m16i=>k_is);(case m16l=>k_is);(case m16c=>k_is);(case m16k=>k_is);(case m17a=>k_is);(case m17i=>k_is);(case m17l=>k_is);(case m17c=>k_is);(case m17k=>k_is);(case m18a=>k_is);(case m18i=>k_is);(case m18l=>k_is);(case m18c=>k_is);(case m18k=>k_is);(case m19a=>k_is);(case m19i=>k_is);(case m19l=>k_is);(case m19c=>k_is);(case m19k=>k_is)) (by dsimp only [L2.qv];refine' ⟨_,Ov.wm KX G ?a ?pg ?hd ?po ?sa ?mk ?kc,?n0,Ov.bz ?m0a ?m0i ?m0l ?m0c ?m0k,Ov.bz ?m1a ?m1i ?m1l ?m1c ?m1k,Ov.bz ?m2a ?m2i ?m2l ?m2c ?m2k,Ov.bz ?m3a ?m3i ?m3l ?m3c ?m3k⟩;(case a=>k_is);(case pg=>k_is);(case hd=>k_is);(case po=>k_is);(case sa=>k_is);(case mk=>k_is);(case kc=>k_is);(case n0=>(show PySem.W.findIn _ _ _=_;k_is));(case m0a=>k_is);(case m0i=>k_is);(case m0l=>k_is);(case m0c=>k_is);(case m0k=>k_is);(case m1a=>k_is);(case m1i=>k_is);(case m1l=>k_is);(case m1c=>k_is);(case m1k=>k_is);(case m2a=>k_is);(case m2i=>k_is);(case m2l=>k_is);(case m2c=>k_is);(case m2k=>k_is);(case m3a=>k_is);(case m3i=>k_is);(case m3l=>k_is);(case m3c=>k_is);(case m3k=>k_is)) (by simp_arith) (by simp_arith) (by simp_arith) (by simp_arith) (by simp_arith) (by simp_arith) (by simp_arith) (by simp_arith) (by simp_arith) ik (by simp_arith) (by simp_arith) (by simp_arith) (by simp_arith) (by simp_arith) (by simp_arith) (by simp_arith) (by simp_arith) (by simp_arith) (by simp_arith) (by simp_arith) (by simp_arith) (by simp_arith) (by simp_arith) (by simp_arith) (by simp_arith) (by simp_arith) (by simp_arith) (by simp_arith) (by simp_arith) (by simp_arith) (by simp_arith) (by simp_arith) (by simp_arith) (by simp_arith) (by simp_arith) (by simp_arith) (by simp_arith) (by simp_arith) (by simp_arith) (by simp_arith) (by simp_arith) (by simp_arith) F base Bm)⟩
