import PyProof.Rows.All
import Wide.All
import OpenK.AllK
import Wide.FinOn
import Lean
import PyProof.EqAt
import PyProof.EqKinds
import PyProof.TupleCall
import PyProof.NeKinds
import PyProof.CompFree
import PyProof.CompMap
import PyProof.ListRange
import PyProof.Rows.SortWalk
import PyProof.ExcArgsOwn
import PyProof.ExcAttrAll.ValueError
import KE.KTryMore
import PyProof.GenCompD
import PyProof.StrWalks
import PyProof.ConsumeS
import PyProof.StrOps2
import KE.KRevIter
import PyProof.ZipIter
import PyProof.DictWalks
import PyProof.DictCompW
import PyProof.DictRoads
import PyProof.MeetsDictList
import KE.KDictList
import PyProof.EnumFor
import PyProof.EnumMake
import PyProof.WalksEnum
import KE.KDictOf
import PySem.Challenge.RW_overhaul_k29_orders_that_were
noncomputable section
set_option compiler.extract_closed false
set_option Elab.async false
set_option linter.all false
set_option maxRecDepth 100000
open List renaming length_map→Sg,mem_map→Sh,getElem?_eq_getElem→Si,getElem?_eq_some_iff→Sj,map_append→Sk,getElem?_map→Sl,map_cons→Sm,size_toArray→Sn,mem_append→Sq,map_map→Ss,mem_singleton→Su,mem_of_getElem?→Sv,mem_append_right→Sw,mem_filter→Sx,mem_cons→Sy,length_append→SF,map_congr_left→SG,mem_cons_of_mem→SI,length_cons→SJ,length_take→SK,getElem_mem→SM,getLast?_concat→SO,getElem?_set_self→SQ,take_add_one→SS,filter_cons→SU,take_length→SV,mem_iff_getElem?→SW,mem_cons_self→SY,lookup_cons→S1,not_mem_nil→S2,dropLast_concat_getLast→S3,getElem_of_mem→S4,getElem?_eq_none→S5,getElem?_cons_succ→S6,getElem?_set_ne→S7,range→S8,take_of_length_le→S9,append_nil→S_,map_nil→Ta,exists_cons_of_ne_nil→Tb,filterMap_cons→Tc,take_sublist→Td,pairwise_iff_getElem→Tf,filter_map→Tg,getElem_map→Ti,mem_append_left→Tj,mem_of_mem_take→Tn,replicate→To,nodup_append→Tq,filter_eq_self→Tr,getElem?_append_right→Ts,length_filter_le→Tu,map_take→Tv,getElem?_append_left→Tw,dropLast_concat→Tx,nodup_cons→TB,getElem_inj→TC,length_drop→TF,all_eq_true→TH,mem_range→TJ,filter_append→TK,length_nil→TL,cons_lt_cons_iff→TM,drop_eq_getElem_cons→TR,length→TV,mem_filterMap→TX,length_set→TY,any_cons→TZ,getElem?_cons_zero→T1,filter_nil→T2,pairwise_cons→T3,lookup→T5,eraseIdxIfInBounds_toArray→T6,length_range→T8,drop_zero→T9,take_append_drop→T',map_drop→Ua,head?_cons→Ue,mem_map_of_mem→Ug,filter_sublist→Uh,getElem?_drop→Ui,map_id'→Uj,getElem?_eq_none_iff→Uk,foldl_append→Um,append_assoc→Uo,getElem?_replicate→Up,eraseIdx_cons_succ→Uq,lookup_eq_some_iff→Ur,any_eq_true→Ut,filter_eq_nil_iff→Uv,of_mem_zip→Ux,length_replicate→Uy,dropLast_eq_take→Uz,eq_nil_or_concat→UC,concat_eq_append→UD,pairwise_append→UG,mem_of_mem_drop→UH,nodup_nil→UI,getElem?_range→UJ,all_cons→UK,map→UL,zip_cons_cons→UM,nil_lt_cons→UU,mem_flatMap→UW,forIn_cons→U0,getD→Vk
open Nat renaming le_refl→So,lt_of_lt_of_le→SA,le_trans→SH,ne_of_lt→SN,zero_le→SX,lt_of_le_of_lt→Th,lt_irrefl→Tt,lt_succ_self→TU,lt_or_eq_of_le→T4,le_of_lt→T_,not_lt_zero→Uc,mul_div_cancel_left→Us,ne_of_gt→Uw,lt_or_ge→UB,min_eq_left→UE,lt_trichotomy→UO,min_self→UQ,le_add_right→UT,min_eq_right→UY
open Bool renaming false_ne_true→SD,false_eq_true→SE,and_eq_true→SR,eq_iff_iff→Tz,and_true→TN,and_false→TQ,eq_false_iff→T7,decide_and→Ud,beq_eq_decide_eq→UA,not_eq_true'→UN
open Option renaming some→Te,map_some→Ub,isSome_iff_exists→Ul,map_eq_some_iff→Uu,getD_none→UR
namespace L2
open PySem PySem.Spec PyProof.Rows
abbrev Key:=Sum Int Str
def II:Key→Value→Bool
 | .inl k,v=>Value.isInt k v
 | .inr x,v=>Value.isStrOf x v
def PY (w:World):Key→Int
 | .inl k=>hashInt k
 | .inr x=>hashStr w x
theorem cF:∀{k:Key} {v:Value},II k v=true→(∃i t,k=Sum.inl i∧v=Value.int i t)∨(∃x t,k=Sum.inr x∧v=Value.str x t)
 | .inl i,v,h=>by
  obtain ⟨t,e⟩:=Value.isInt_shape (k:=i) (v:=v) h
  exact .inl ⟨i,t,rfl,e⟩
 | .inr x,v,h=>by
  obtain ⟨t,e⟩:=Value.isStrOf_shape (x:=x) (v:=v) h
  exact .inr ⟨x,t,rfl,e⟩
theorem KD (a b:Int):decide ((Sum.inl a:Key)=Sum.inl b)=(a == b):=by
 by_cases e:a=b
 ·subst e;simp
 ·have h:¬ (Sum.inl a:Key)=Sum.inl b:=λq=>e (Sum.inl.inj q)
  rw [decide_eq_false h]
  exact (beq_eq_false_iff_ne.mpr e).symm
theorem KI (a b:Str):decide ((Sum.inr a:Key)=Sum.inr b)=decide (a=b):=by
 by_cases e:a=b
 ·subst e;simp
 ·have h:¬ (Sum.inr a:Key)=Sum.inr b:=λq=>e (Sum.inr.inj q)
  rw [decide_eq_false h,decide_eq_false e]
theorem KG (a:Int) (b:Str):decide ((Sum.inl a:Key)=Sum.inr b)=false:=decide_eq_false (λq=>nomatch q)
theorem KH (a:Str) (b:Int):decide ((Sum.inr a:Key)=Sum.inl b)=false:=decide_eq_false (λq=>nomatch q)
def GQ (prog:Program) (w:World):PySem.KeyKind prog w Key where
 is:=II
 hash:=PY w
 inj:=λv a b ha hb=>by
  rcases cF ha with ⟨i,t,rfl,rfl⟩ | ⟨x,t,rfl,rfl⟩
  ·rcases cF hb with ⟨j,u,rfl,e⟩ | ⟨y,u,rfl,e⟩
   ·injection e with e1 _;rw [e1]
   ·exact nomatch e
  ·rcases cF hb with ⟨j,u,rfl,e⟩ | ⟨y,u,rfl,e⟩
   ·exact nomatch e
   ·injection e with e1 _;rw [e1]
 byValue:=λk v h=>by
  rcases cF h with ⟨i,t,rfl,rfl⟩ | ⟨x,t,rfl,rfl⟩ <;> rfl
 pyHash:=λhv h=>by
  rcases cF hv with ⟨i,t,rfl,rfl⟩ | ⟨x,t,rfl,rfl⟩
  ·exact wpAny_pyHash_int h
  ·exact wpAny_pyHash_str h
 eqBool:=λhu hv h=>by
  rcases cF hu with ⟨i,t,rfl,rfl⟩ | ⟨x,t,rfl,rfl⟩
  ·rcases cF hv with ⟨j,u,rfl,rfl⟩ | ⟨y,u,rfl,rfl⟩
   ·rw [KD] at h;exact wpAny_eqBool_int h
   ·rw [KG] at h;exact SeqAt.EqAt.int_str i t y u _ _ _ _ h
  ·rcases cF hv with ⟨j,u,rfl,rfl⟩ | ⟨y,u,rfl,rfl⟩
   ·rw [KH] at h;exact SeqAt.EqAt.str_int x t j u _ _ _ _ h
   ·rw [KI] at h;exact wpAny_eqBool_str h
 «strs»:=λk x t v h=>by
  rcases cF h with ⟨i,u,rfl,e⟩ | ⟨y,u,rfl,e⟩
  ·exact nomatch e
  ·injection e with e1 _
   subst e1
   cases v <;> rfl
end L2
namespace L2
open PySem PySem.Spec PyProof.Rows
inductive V where
 | non | bl (b:Bool) | int (i:Int) | str (x:Str) | byt (b:Array UInt8) | flt (b:UInt64) | ref (a:Addr) | ty (n:String)
 deriving DecidableEq
def RelV:V→Value→Prop
 | .non,u=>u=Value.none
 | .bl b,u=>u=Value.bool b
 | .int i,u=>∃t,u=Value.int i t
 | .str x,u=>∃t,u=Value.str x t
 | .byt b,u=>∃t,u=Value.bytes b t
 | .flt b,u=>∃t,u=Value.float b t
 | .ref a,u=>u=Value.ref a
 | .ty n,u=>u=Value.type n
abbrev Vals:List V→List Value→Prop:=Paired RelV
theorem Vals.length {xs:List V} {us:List Value} (r:Vals xs us):xs.length=us.length:=Paired.length r
theorem Vals.get:∀{xs:List V} {us:List Value} {i:Nat} {x:V},Vals xs us→xs[i]?=some x→∃u,us[i]?=some u∧RelV x u
 | _,_,_,_,.nil,e=>by simp at e
 | _,_,0,_,.cons r _,e=>by simp at e;subst e;exact ⟨_,rfl,r⟩
 | _,_,i + 1,x,.cons _ t,e=>by
  obtain ⟨u,h1,h2⟩:=Vals.get (i:=i) (x:=x) t (by simpa using e)
  exact ⟨u,by simpa using h1,h2⟩
theorem Vals.set {x:V} {u:Value} (r:RelV x u):∀{xs:List V} {us:List Value} (i:Nat),Vals xs us→Vals (xs.set i x) (us.set i u)
 | _,_,_,.nil=>.nil
 | _,_,0,.cons _ t=>.cons r t
 | _,_,i + 1,.cons q t=>.cons q (Vals.set r i t)
theorem Vals.append:∀{xs ys:List V} {us ws:List Value},Vals xs us→Vals ys ws→Vals (xs ++ ys) (us ++ ws)
 | _,_,_,_,.nil,s=>s
 | _,_,_,_,.cons r t,s=>.cons r (Vals.append t s)
theorem Vals.take:∀{xs:List V} {us:List Value} (n:Nat),Vals xs us→Vals (xs.take n) (us.take n)
 | _,_,0,_=>.nil
 | _,_,_ + 1,.nil=>.nil
 | _,_,n + 1,.cons r t=>.cons r (Vals.take n t)
theorem Vals.drop:∀{xs:List V} {us:List Value} (n:Nat),Vals xs us→Vals (xs.drop n) (us.drop n)
 | _,_,0,r=>r
 | _,_,_ + 1,.nil=>.nil
 | _,_,n + 1,.cons _ t=>Vals.drop n t
def sk:Option V→Option Value→Prop
 | some v,some u=>RelV v u
 | none,none=>True
 | _,_=>False
def KV {κ:Type}:List (κ × V)→List (κ × Value)→Prop:=Paired λ(p:κ × V) (q:κ × Value)=>p.1=q.1∧RelV p.2 q.2
def kV:Key→V
 | .inl i=>.int i
 | .inr x=>.str x
inductive HO where
 | lst (xs:List V)
 | tup (xs:List V)
 | dK (kvs:List (Key × V)) | dE (kvs:List (Str × V)) (ep:Nat)
 | set (S:Int→Bool) (n:Nat)
 | ins (C dx:Addr) (fs:List (Str × V))
 | own (x:Addr)
 | xd (fs:List (Str × V))
 | met (f x:Addr)
 | Mx (lo hi:Int)
 | pd (o:Obj) (u:HO)
 | tbl (ps:Array Value)
 | ext (φ:Heap→Prop)
abbrev Hp:=Addr→Option HO
def upd (H:Hp) (a:Addr) (o:HO):Hp:=λb=>if b=a then some o else H b
theorem aA {H:Hp} {a:Addr} {o:HO}:upd H a o a=some o:=by unfold upd;rw [if_pos rfl]
theorem aF {H:Hp} {a b:Addr} {o:HO} (h:b≠a):upd H a o b=H b:=by unfold upd;rw [if_neg h]
theorem bF {H:Hp} {a b:Addr} {o:HO} (h:H a=some o) (h':H b=none):a≠b:=by
 intro e;subst e;rw [h] at h';cases h'
section
variable (P:Program) (w:World)
def du (H:Hp) (h:Heap) (a:Addr):HO→Prop
 | .lst xs=>xs.length≤sizeLine∧∃(its:List Value) (n:Nat),Vals xs its∧h.get? a=some { cls:=.type "list",data:=.seq its.toArray n }
 | .tup xs=>xs.length≤sizeLine∧∃its:List Value,Vals xs its∧IsTup h a its.toArray
 | .dK kvs=>kvs.length≤sizeLine∧(a == sysModules)=false∧∃vs,KV kvs vs∧h.DictOf (GQ P w) a vs
 | .dE kvs ep=>kvs.length≤sizeLine∧(a == sysModules)=false∧∃vs,KV kvs vs∧h.DictAt (strKind P w) a vs ep
 | .set S n=>h.SetOf (intKind P w) a S n
 | .ins C dx fs=>H dx=some (.own a)∧fs.length≤1000∧dx≠a∧h.get? a=some (PySem.W.instObj C dx) ∧
   ∃mA,h.Ns1 dx mA∧(∀f,sk (fs.lookup f) (mA f))∧PySem.Within mA (fs.map (·.1))
 | .own _=>∃o,h.get? a=some o
 | .xd fs=>∃mA,h.Ns1 a mA∧∀f,sk (fs.lookup f) (mA f)
 | .Mx lo hi=>∃t u v,h.get? a=some { cls:=.type "range",data:=.fields #[.int lo t,.int hi u,.int 1 v] }
 | .pd o u=>h.get? a=some o∧du H h a u
 | .tbl ps=>h.get? a=some { cls:=.none,data:=.fields ps }
 | .met f x=>h.get? a=some (PySem.W.methodObj (.ref f) (.ref x))
 | .ext φ=>φ h∧(∃o,h.get? a=some o)∧∀h1 h2:Heap,φ h1→(∀o,h1.get? a=some o→h2.get? a=some o)→φ h2
def ma (H:Hp) (h:Heap):Prop:=∀a o,H a=some o→du P w H h a o
end
section
variable {P:Program} {w:World} {H H':Hp} {h h':Heap} {a:Addr} {o:HO}
theorem du.lt (x:du P w H h a o):a < h.objs.size:=by
 cases o with
 | lst xs=>obtain ⟨_,_,_,_,e⟩:=x;exact Heap.lt_size e
 | tup xs=>obtain ⟨_,_,_,p⟩:=x;exact p.lt
 | dK kvs=>obtain ⟨_,_,_,_,o,_,_,e,_⟩:=x;exact Heap.lt_size e
 | dE kvs ep=>obtain ⟨_,_,_,_,o,_,e,_⟩:=x;exact Heap.lt_size e
 | set S n=>obtain ⟨o,_,_,_,e,_⟩:=x;exact Heap.lt_size e
 | ins C dx fs=>obtain ⟨_,_,_,e,_⟩:=x;exact Heap.lt_size e
 | own y=>obtain ⟨_,e⟩:=x;exact Heap.lt_size e
 | xd fs=>obtain ⟨_,⟨_,_,_,e,_⟩,_⟩:=x;exact Heap.lt_size e
 | Mx lo hi=>obtain ⟨_,_,_,e⟩:=x;exact Heap.lt_size e
 | pd ob u=>obtain ⟨e,_⟩:=x;exact Heap.lt_size e
 | tbl ps=>exact Heap.lt_size (show h.get? a=some _ from x)
 | met f y=>exact Heap.lt_size (show h.get? a=some _ from x)
 | ext φ=>obtain ⟨_,⟨_,e⟩,_⟩:=x;exact Heap.lt_size e
theorem du.oM (x:du P w H h a o) (k:∀b u,(b=a∨H b=some (.own a))→h.get? b=some u→h'.get? b=some u)
  (ho:∀b,H b=some (.own a)→H' b=some (.own a)) (ht:∀b xs,H b=some (.tup xs)→H' b=some (.tup xs)):du P w H' h' a o:=by
 induction o with
 | lst xs=>obtain ⟨z,its,n,r,e⟩:=x;exact ⟨z,its,n,r,k _ _ (.inl rfl) e⟩
 | tup xs=>obtain ⟨z,its,r,ob,e,c⟩:=x;exact ⟨z,its,r,ob,k _ _ (.inl rfl) e,c⟩
 | dK kvs=>obtain ⟨z,y,vs,r,ob,es,ep,e,c⟩:=x;exact ⟨z,y,vs,r,ob,es,ep,k _ _ (.inl rfl) e,c⟩
 | dE kvs ep=>obtain ⟨z,y,vs,r,ob,es,e,c⟩:=x;exact ⟨z,y,vs,r,ob,es,k _ _ (.inl rfl) e,c⟩
 | set S n=>obtain ⟨ob,es,ep,t,e,c⟩:=x;exact ⟨ob,es,ep,t,k _ _ (.inl rfl) e,c⟩
 | ins C dx fs =>
  obtain ⟨d,z,ne,e,mA,⟨od,es,ep,e2,c⟩,r⟩:=x
  exact ⟨ho _ d,z,ne,k _ _ (.inl rfl) e,mA,⟨od,es,ep,k _ _ (.inr d) e2,c⟩,r⟩
 | own y=>obtain ⟨ob,e⟩:=x;exact ⟨ob,k _ _ (.inl rfl) e⟩
 | xd fs=>obtain ⟨mA,⟨od,es,ep,e,c⟩,r⟩:=x;exact ⟨mA,⟨od,es,ep,k _ _ (.inl rfl) e,c⟩,r⟩
 | Mx lo hi=>obtain ⟨t,u,v,e⟩:=x;exact ⟨t,u,v,k _ _ (.inl rfl) e⟩
 | pd ob u ih=>obtain ⟨e,q⟩:=x;exact ⟨k _ _ (.inl rfl) e,ih q⟩
 | tbl ps =>
  have e:h.get? a=some { cls:=.none,data:=.fields ps }:=x
  show h'.get? a=some { cls:=.none,data:=.fields ps }
  exact k a _ (.inl rfl) e
 | met f y =>
  have e:h.get? a=some (PySem.W.methodObj (.ref f) (.ref y)):=x
  show h'.get? a=some (PySem.W.methodObj (.ref f) (.ref y))
  exact k a _ (.inl rfl) e
 | ext φ=>obtain ⟨p,⟨o,e⟩,st⟩:=x;exact ⟨st _ _ p λo q=>k _ _ (.inl rfl) q,⟨o,k _ _ (.inl rfl) e⟩,st⟩
theorem ma.lt (x:ma P w H h) (e:H a=some o):a < h.objs.size:=(x a o e).lt
theorem ma.fresh (x:ma P w H h) (e:h.objs.size≤a):H a=none:=by
 cases q:H a with
 | none=>rfl
 | some u=>exact absurd (SA (x.lt q) e) (Tt _)
theorem ma.kept (x:ma P w H h) (k:∀b u,h.get? b=some u→h'.get? b=some u):ma P w H h':=λa o e =>
 (x a o e).oM (λb u _ q=>k b u q) (λ_ q=>q) λ_ _ q=>q
theorem ma.laid (x:ma P w H h) (k:∀b u,h.get? b=some u→h'.get? b=some u) (hp:h.objs.size≤a) (new:du P w (upd H a o) h' a o):ma P w (upd H a o) h':=λb u e=>by
 have hn:=x.fresh hp
 by_cases hb:b=a
 ·subst hb;rw [aA] at e;cases e;exact new
 ·rw [aF hb] at e
  exact (x b u e).oM (λc v _ q=>k c v q) (λc q=>by rw [aF (bF q hn)];exact q) λc xs q=>by rw [aF (bF q hn)];exact q
end
def Rd (H:Hp) (a:Addr) (u:HO):Prop:=H a=some u∨∃o,H a=some (.pd o u)
theorem Rd.ok {P:Program} {w:World} {H:Hp} {h:Heap} {a:Addr} {u:HO} (r:Rd H a u) (x:ma P w H h):du P w H h a u:=by
 rcases r with r | ⟨o,r⟩
 ·exact x a u r
 ·obtain ⟨_,q⟩:=x a _ r
  exact q
def OY:Option HO→Prop
 | some (.lst _)=>True
 | some (.dK _)=>True
 | some (.dE _ _)=>True
 | some (.set _ _)=>True
 | some (.ins _ _ _)=>True
 | some (.ext _)=>True
 | _=>False
section
variable {P:Program} {w:World} {H:Hp} {h h':Heap} {x e:Addr} {o':HO}
theorem ma.write (ok:ma P w H h) (mu:OY (H x)) (he:e=x∨H e=some (.own x)) (k:∀b u,b≠e→h.get? b=some u→h'.get? b=some u) (heo:∃u,h'.get? e=some u)
  (new:du P w (upd H x o') h' x o'):ma P w (upd H x o') h':=λb u q=>by
 have nown:∀c y,H c=some (.own y)→c≠x:=λc y r z=>by subst z;rw [r] at mu;exact mu
 have ntup:∀c xs,H c=some (.tup xs)→c≠x:=λc xs r z=>by subst z;rw [r] at mu;exact mu
 by_cases hb:b=x
 ·subst hb;rw [aA] at q;cases q;exact new
 ·rw [aF hb] at q
  by_cases hbe:b=e
  ·have q':H b=some (.own x):=by
    rcases he with z | z
    ·exact absurd (hbe.trans z) hb
    ·rw [hbe];exact z
   rw [q] at q';cases q'
   obtain ⟨v,hv⟩:=heo
   exact ⟨v,by rw [hbe];exact hv⟩
  ·refine (ok b u q).oM (λc v hc r=>k c v ?_ r) (λc r=>by rw [aF (nown c b r)];exact r) λc xs r=>by rw [aF (ntup c xs r)];exact r
   rcases hc with rfl | hc
   ·exact hbe
   ·rintro rfl
    rcases he with z | z
    ·exact nown c b hc z
    ·rw [hc] at z;cases z;exact hb rfl
end
structure Un (fs ex:List Addr) (H H':Hp) (h h':Heap):Prop where
 keep:∀b o,h.get? b=some o→H b=none→b ∉ fs→b ∉ ex→h'.get? b=some o
 slot:∀b o,h.get? b=some o→H b=none→b∈fs→b ∉ ex→∃sl,h'.get? b=some { o with slots:=sl }
 free:∀b o,h.get? b=some o→H b=none→b ∉ ex→H' b=none
 there:∀b o,h.get? b=some o→b ∉ ex→∃o',h'.get? b=some o'
 tups:∀b xs,H b=some (.tup xs)→H' b=some (.tup xs)
 frzs:∀b o u,H b=some (.pd o u)→H' b=some (.pd o u)
 tbls:∀b ps,H b=some (.tbl ps)→∃more,H' b=some (.tbl (ps ++ more))
section
variable {fs fs' ex ex':List Addr} {H H1 H2:Hp} {h h1 h2 h':Heap} {a x e:Addr} {o:HO}
theorem Un.any (u:Un fs ex H H1 h h1) {b:Addr} {ob:Obj} (q:h.get? b=some ob) (n:H b=none) (hx:b ∉ ex):∃sl,h1.get? b=some { ob with slots:=sl }:=by
 by_cases hb:b∈fs
 ·exact u.slot b ob q n hb hx
 ·exact ⟨ob.slots,u.keep b ob q n hb hx⟩
theorem Un.kept (k:∀b u,h.get? b=some u→h'.get? b=some u):Un fs ex H H h h' :=
 ⟨λb ob q _ _ _=>k b ob q,λb ob q _ _ _=>⟨ob.slots,k b ob q⟩,λ_ _ _ n _=>n,λb ob q _=>⟨ob,k b ob q⟩,λ_ _ q=>q,λ_ _ _ q=>q,λ_ ps q=>⟨#[],by rw [q];simp⟩⟩
theorem Un.refl:Un fs ex H H h h:=Un.kept λ_ _ q=>q
theorem Un.laid (k:∀b u,h.get? b=some u→h'.get? b=some u) (hp:h.objs.size≤a) (hn:H a=none):Un fs ex H (upd H a o) h h' where
 keep:=λb u q _ _ _=>k b u q
 slot:=λb u q _ _ _=>⟨u.slots,k b u q⟩
 free:=λb u q n _=>by rw [aF (SN (SA (Heap.lt_size q) hp))];exact n
 there:=λb u q _=>⟨u,k b u q⟩
 tups:=λb xs q=>by rw [aF (bF q hn)];exact q
 frzs:=λb u xs q=>by rw [aF (bF q hn)];exact q
 tbls:=λb ps q=>⟨#[],by rw [aF (bF q hn),q];simp⟩
theorem Un.write (mu:OY (H x)) (he:e=x∨H e=some (.own x)) (k:∀b u,b≠e→h.get? b=some u→h'.get? b=some u) (heo:∃u,h'.get? e=some u):Un fs ex H (upd H x o) h h':=by
 have hx:∀b,H b=none→b≠x:=λb n z=>by subst z;rw [n] at mu;exact mu
 have hb:∀b,H b=none→b≠e:=λb n z=>by
  subst z
  rcases he with r | r
  ·exact hx b n r
  ·rw [n] at r;cases r
 have hm:∀b u,H b=some u→¬ OY (some u)→b≠x:=λb u q nm z=>by subst z;rw [q] at mu;exact nm mu
 refine ⟨λb u q n _ _=>k b u (hb b n) q,λb u q n _ _=>⟨u.slots,k b u (hb b n) q⟩,λb u q n _=>by rw [aF (hx b n)];exact n,λb u q _=>?_,
  λb xs q=>by rw [aF (hm b _ q λz=>z)];exact q,λb u xs q=>by rw [aF (hm b _ q λz=>z)];exact q,λb ps q=>⟨#[],by rw [aF (hm b _ q λz=>z),q];simp⟩⟩
 by_cases hbe:b=e
 ·subst hbe;exact heo
 ·exact ⟨u,k b u hbe q⟩
end
def Pd (h:Heap) (H:Hp):List Addr:=(S8 h.objs.size).filter λa=>(H a).isSome
def sv (h:Heap) (H:Hp):Heap:=PySem.W.hideAll h (Pd h H)
theorem Bv (h:Heap) (H:Hp):(sv h H).objs.size=h.objs.size:=PySem.W.hideAll_size _ _
theorem Dx {h:Heap} {H:Hp} {b:Addr} {o:Obj} (e:h.get? b=some o) (n:H b=none):(sv h H).get? b=some o :=
 PySem.W.hideAll_get _ e λhm=>by
  have q:(H b).isSome=true:=(Sx.mp hm).2
  rw [n] at q;simp at q
theorem GZ {h:Heap} {H:Hp} {b:Addr} {o:Obj} (e:(sv h H).get? b=some o):h.get? b=some o∧H b=none:=by
 have e':h.get? b=some o:=PySem.W.of_hideAll (Pd h H) e
 refine ⟨e',?_⟩
 cases q:H b with
 | none=>rfl
 | some x =>
  have hm:b∈Pd h H:=Sx.mpr ⟨TJ.mpr (Heap.lt_size e'),by simp [q]⟩
  have z:(sv h H).get? b=none:=PySem.W.hideAll_none (Pd h H) hm
  rw [z] at e;cases e
def Gf (g h:Heap) (L:Addr):List (Addr × Obj):=(S8 h.objs.size).filterMap λa=>if a=L∨(g.get? a).isSome=true then none else (h.get? a).map λo=>(a,o)
def rest (g h:Heap) (L d:Addr):List (Addr × Obj):=(Gf g h L).filter λp=>decide (p.1≠d)
end L2
namespace L2
open PySem PySem.Spec PyProof.Rows
structure Mod (K:PySem.W.Frag) (mg:Str→Option Value) (base:Heap):Prop where
 kin:K.In base
 glob:base.Ns mainGlobals mg
 blt:∃mb,base.Ns builtinsNs mb∧∀x:Str,x≠"__name__"→mb x=bootBuiltins x
 nolimit:base.NoLimit
structure Cx where
 prog:Program
 w:World
 K:PySem.W.Frag
 mg:Str→Option Value
 base:Heap
 A:Around
 N:List Str
 s₀:Shared
 H₀:Hp
 env:Env
 outer:List Env
 stack:List Env
 ex:List Addr
 fn:Str→Bool
 calm:Bool
 pn:List (Addr × Obj)
 xe:Value→Shared→Prop
def jw (l:List Env):List Addr:=l.filterMap (·.frame)
abbrev Cx.fs (X:Cx):List Addr:=jw X.outer
def uv (sc:Scope) (x:Str):Prop:=sc.names.lookup x=some .local∨sc.names.lookup x=some .cell∨sc.names.lookup x=some .free
def Loc (sc:Scope) (x:Str):Prop:=sc.names.lookup x=some .local∨sc.names.lookup x=some .cell
def Look (env:Env) (h:Heap) (m:Str→Option Value) (x:Str) (u:Value):Prop :=
 (env.kindOf x=some .local∧m x=some u)∨((env.kindOf x=some .cell∨env.kindOf x=some .free)∧∃c,env.cells.lookup x=some c∧h.IsCell c (some u))
structure Cx.Ok (X:Cx):Prop where
 mod:Mod X.K X.mg X.base
 kind:X.env.scope.kind=.function
 glob:X.env.globals=mainGlobals
 blt:X.env.builtins=builtinsNs
 above:X.s₀.heap.objs.size≤X.env.locals
 inj:∀x y c,X.env.cells.lookup x=some c→X.env.cells.lookup y=some c→x=y
 has:∀x,(X.env.kindOf x=some .cell∨X.env.kindOf x=some .free)→∃c,X.env.cells.lookup x=some c
 cab:∀x c,X.fn x=true→X.env.cells.lookup x=some c→X.s₀.heap.objs.size≤c
 hd:X.calm=true→X.A.handled=none
 frames:X.A.frames=some X.stack
 stk:X.stack=X.outer∨(X.stack=X.env :: X.outer∧X.env.frame=some X.env.locals)
 exf:∀b∈X.ex,b≠X.env.locals∧∀x c,X.env.cells.lookup x=some c→c≠b
 bs:∀b o,X.base.get? b=some o→X.s₀.heap.get? b=some o∧X.H₀ b=none
 bsz:X.base.objs.size≤X.s₀.heap.objs.size
 noex:∀b o,X.base.get? b=some o→b ∉ X.ex
 exfs:∀b∈X.ex,b ∉ X.fs
 lP:X.s₀.heap.FunFrames X.base X.outer
 frf:∀b∈X.fs,X.H₀ b=none
structure Inv (X:Cx) (pins:List (Addr × Obj)) (σ:List (Option V)) (H:Hp) (s:Shared):Prop where
 ok:X.Ok
 os:s.os=X.s₀.os
 bare:AllBare s.gens
 base:Un X.fs X.ex X.H₀ H X.s₀.heap s.heap
 loc:∃m,s.heap.Ns X.env.locals m∧∀(i:Nat) (x:Str) (v:V),X.N[i]?=some x→σ[i]?=some (some v)→uv X.env.scope x→∃u,RelV v u∧Look X.env s.heap m x u
 cell:∀x c,X.env.cells.lookup x=some c→∃v,s.heap.IsCell c v
 free:H X.env.locals=none
 freeC:∀x c,X.env.cells.lookup x=some c→H c=none
 pin:∀p∈X.pn ++ pins,s.heap.get? p.1=some p.2∧H p.1=none∧p.1≠X.env.locals∧p.1 ∉ X.fs∧∀v,p.2.data≠.cell v
 hok:ma X.prog X.w H s.heap
 len:σ.length=X.N.length
section
variable {X:Cx} {pins:List (Addr × Obj)} {σ:List (Option V)} {H H':Hp} {s:Shared} {h':Heap}
theorem Cx.Ok.Qc (ok:X.Ok) {b:Addr} {o:Obj} (e:X.base.get? b=some o):b ∉ X.fs:=λhb=>by
 have:=(ok.lP.mem hb).1
 rw [e] at this;cases this
theorem Inv.bs (I:Inv X pins σ H s):∀b o,X.base.get? b=some o→s.heap.get? b=some o∧H b=none:=λb o e =>
 ⟨I.base.keep b o (I.ok.bs b o e).1 (I.ok.bs b o e).2 (I.ok.Qc e) (I.ok.noex b o e),I.base.free b o (I.ok.bs b o e).1 (I.ok.bs b o e).2 (I.ok.noex b o e)⟩
theorem Inv.bk (I:Inv X pins σ H s):∀b o,X.base.get? b=some o→s.heap.get? b=some o:=λb o e=>(I.bs b o e).1
theorem Inv.mod (I:Inv X pins σ H s):Mod X.K X.mg X.base:=I.ok.mod
theorem Inv.lR (I:Inv X pins σ H s):X.K.In s.heap:=I.ok.mod.kin.keeps I.bk
theorem Inv.nolimit (I:Inv X pins σ H s):s.heap.NoLimit:=I.ok.mod.nolimit.keeps I.bk
theorem Inv.fr (I:Inv X pins σ H s):∃m,Fr X.base X.env.locals s.heap m :=
 let ⟨m,hn,_⟩:=I.loc
 ⟨m,hn,I.bk,SH I.ok.bsz I.ok.above⟩
theorem Inv.lt (I:Inv X pins σ H s):X.env.locals < s.heap.objs.size:=let ⟨_,hn,_⟩:=I.loc;hn.lt
theorem Inv.sz (I:Inv X pins σ H s):X.s₀.heap.objs.size≤s.heap.objs.size:=SH I.ok.above (T_ I.lt)
theorem Inv.Qd (I:Inv X pins σ H s) {a:Addr} (h:s.heap.objs.size≤a):a ∉ X.fs:=λhb=>by
 obtain ⟨_,o,ho,_⟩:=I.ok.lP.mem hb
 exact absurd (SA (Heap.lt_size ho) (SH I.sz h)) (Tt _)
theorem Inv.Gi (I:Inv X pins σ H s):∀x c,X.env.cells.lookup x=some c→c≠X.env.locals:=λx c e z=>by
 obtain ⟨v,o,ho,hd⟩:=I.cell x c e
 obtain ⟨m,⟨o',es,ep,ho',hd',_⟩,_⟩:=I.loc
 rw [z,ho'] at ho;cases ho;rw [hd'] at hd;cases hd
theorem Inv.lP (I:Inv X pins σ H s):s.heap.FunFrames X.base X.outer:=by
 have all:∀(l:List Env),(∀b∈jw l,b∈X.fs)→X.s₀.heap.FunFrames X.base l→s.heap.FunFrames X.base l:=by
  intro l
  induction l with
  | nil=>intro _ _;trivial
  | cons env r ih =>
   intro hs hl
   obtain ⟨hk,⟨L,o,hf,hn,ho,hd⟩,hr⟩:=hl
   have hL:L∈X.fs:=hs L (by unfold jw;rw [Tc,hf];exact SY)
   obtain ⟨sl,e⟩:=I.base.slot L o ho (I.ok.frf L hL) hL λz=>I.ok.exfs L z hL
   exact ⟨hk,⟨L,_,hf,hn,e,hd⟩,ih (λb hb=>hs b (by unfold jw;rw [Tc,hf];exact SI _ hb)) hr⟩
 exact all X.outer (λ_ hb=>hb) I.ok.lP
theorem Inv.stack (I:Inv X pins σ H s):s.heap.FunFrames X.base X.stack:=by
 rcases I.ok.stk with e | ⟨e,hf⟩
 ·rw [e];exact I.lP
 ·rw [e]
  obtain ⟨m,hn,_⟩:=I.loc
  refine .cons (by rw [I.ok.kind];decide) hf hn ?_ I.lP
  exact Heap.get?_none_of_le (SH I.ok.bsz I.ok.above)
theorem Inv.oN (I:Inv X pins σ H s):∀b∈jw X.stack,b∈X.env.locals :: X.fs:=λb hb=>by
 rcases I.ok.stk with e | ⟨e,hf⟩
 ·rw [e] at hb;exact SI _ hb
 ·rw [e] at hb
  unfold jw at hb
  rw [Tc,hf] at hb
  exact hb
theorem Inv.vY (I:Inv X pins σ H s):∀b∈jw X.stack,H b=none:=λb hb=>by
 rcases Sy.mp (I.oN b hb) with e | hb
 ·rw [e];exact I.free
 ·obtain ⟨_,o,ho,_⟩:=I.ok.lP.mem hb
  exact I.base.free b o ho (I.ok.frf b hb) λz=>I.ok.exfs b z hb
theorem Inv.step {g':Array GenState} {t':Nat} {d':Drawn} {ch:List Addr} (I:Inv X pins σ H s)
  (hch:∀b∈ch,(b∈X.ex∨X.s₀.heap.objs.size≤b)∧b≠X.env.locals∧(∀x c,X.env.cells.lookup x=some c→c≠b)∧∀p∈X.pn ++ pins,p.1≠b)
  (keep:∀b o,b≠X.env.locals→b ∉ X.fs→b ∉ ch→s.heap.get? b=some o→H b=none→h'.get? b=some o)
  (slot:∀b o,b≠X.env.locals→b∈X.fs→b ∉ ch→s.heap.get? b=some o→H b=none→∃sl,h'.get? b=some { o with slots:=sl }) (free:∀b o,b ∉ ch→s.heap.get? b=some o→H b=none→H' b=none)
  (there:∀b o,b ∉ ch→s.heap.get? b=some o→∃o',h'.get? b=some o')
  (tups:∀b xs,H b=some (.tup xs)→H' b=some (.tup xs)) (frzs:∀b o u,H b=some (.pd o u)→H' b=some (.pd o u)) (tbls:∀b ps,H b=some (.tbl ps)→∃more,H' b=some (.tbl (ps ++ more)))
  (ns:∀m,s.heap.Ns X.env.locals m→h'.Ns X.env.locals m) (hok:ma X.prog X.w H' h') (hg:AllBare g') :
  Inv X pins σ H' { s with heap:=h',gens:=g',drawn:=d',toks:=t' }:=by
 have neL:∀b o,X.s₀.heap.get? b=some o→b≠X.env.locals:=λb o e=>SN (SA (Heap.lt_size e) I.ok.above)
 have neC:∀b o,X.s₀.heap.get? b=some o→b ∉ X.ex→b ∉ ch:=λb o e hx hb=>by
  rcases (hch b hb).1 with z | z
  ·exact hx z
  ·exact absurd (SA (Heap.lt_size e) z) (Tt _)
 have cellK:∀x c,X.env.cells.lookup x=some c→∀v,s.heap.IsCell c v→h'.IsCell c v:=λx c e v ⟨o,ho,hd⟩=>by
  have nch:c ∉ ch:=λz=>(hch c z).2.2.1 x c e rfl
  by_cases hc:c∈X.fs
  ·obtain ⟨sl,q⟩:=slot c o (I.Gi x c e) hc nch ho (I.freeC x c e)
   exact ⟨_,q,hd⟩
  ·exact ⟨o,keep c o (I.Gi x c e) hc nch ho (I.freeC x c e),hd⟩
 refine ⟨I.ok,I.os,hg,⟨λb o e n hb hx=>?_,λb o e n hb hx=>?_,λb o e n hx=>?_,λb o e hx=>?_,λb xs e=>tups b xs (I.base.tups b xs e),λb o xs e=>frzs b o xs (I.base.frzs b o xs e),λb ps e=>?_⟩,?_,λx c e=>?_,?_,λx c e=>?_,λp hp=>?_,hok,I.len⟩
 ·exact keep b o (neL b o e) hb (neC b o e hx) (I.base.keep b o e n hb hx) (I.base.free b o e n hx)
 ·obtain ⟨sl,e1⟩:=I.base.slot b o e n hb hx
  obtain ⟨sl',e2⟩:=slot b _ (neL b o e) hb (neC b o e hx) e1 (I.base.free b o e n hx)
  exact ⟨sl',e2⟩
 ·obtain ⟨o',e1⟩:=I.base.there b o e hx
  exact free b o' (neC b o e hx) e1 (I.base.free b o e n hx)
 ·obtain ⟨o',e1⟩:=I.base.there b o e hx
  exact there b o' (neC b o e hx) e1
 ·obtain ⟨m1,e1⟩:=I.base.tbls b ps e
  obtain ⟨m2,e2⟩:=tbls b _ e1
  exact ⟨m1 ++ m2,by rw [e2,Array.append_assoc]⟩
 ·obtain ⟨m,hn,hl⟩:=I.loc
  refine ⟨m,ns m hn,λi x v e1 e2 e3=>?_⟩
  obtain ⟨u,r,l⟩:=hl i x v e1 e2 e3
  refine ⟨u,r,?_⟩
  rcases l with l | ⟨k,c,e,z⟩
  ·exact .inl l
  ·exact .inr ⟨k,c,e,cellK x c e _ z⟩
 ·obtain ⟨v,z⟩:=I.cell x c e
  exact ⟨v,cellK x c e v z⟩
 ·obtain ⟨m,⟨o,_,_,ho,_⟩,_⟩:=I.loc
  exact free _ o (λz=>(hch _ z).2.1 rfl) ho I.free
 ·obtain ⟨v,o,ho,hd⟩:=I.cell x c e
  exact free c o (λz=>(hch c z).2.2.1 x c e rfl) ho (I.freeC x c e)
 ·obtain ⟨e,n,ne,nf,d⟩:=I.pin p hp
  have nch:p.1 ∉ ch:=λz=>(hch p.1 z).2.2.2 p hp rfl
  exact ⟨keep p.1 p.2 ne nf nch e n,free p.1 p.2 nch e n,ne,nf,d⟩
theorem Inv.un {t':Nat} (I:Inv X pins σ H s) (u:Un X.fs [] H H' s.heap h') (hok:ma X.prog X.w H' h'):Inv X pins σ H' { s with heap:=h',toks:=t' }:=by
 obtain ⟨m,⟨o,es,ep,ho,r⟩,_⟩:=id I.loc
 obtain ⟨sl,hL⟩:=u.any ho I.free (by simp)
 exact I.step (g':=s.gens) (d':=s.drawn) (ch:=[]) (λ_ z=>nomatch z) (λb o _ hb _ e n=>u.keep b o e n hb (by simp)) (λb o _ hb _ e n=>u.slot b o e n hb (by simp)) (λb o _ e n=>u.free b o e n (by simp)) (λb o _ e=>u.there b o e (by simp)) u.tups u.frzs u.tbls (λm' hm=>by
  obtain ⟨o',es',ep',ho',r'⟩:=hm
  rw [ho] at ho';cases ho'
  exact ⟨_,es',ep',hL,r'⟩) hok I.bare
theorem Inv.call {g':Array GenState} {t':Nat} {d':Drawn} {ch:List Addr} (I:Inv X pins σ H s) (u:Un (jw X.stack) ch H H' s.heap h') (hok:ma X.prog X.w H' h') (hg:AllBare g')
  (hch:∀b∈ch,(b∈X.ex∨X.s₀.heap.objs.size≤b)∧b≠X.env.locals∧(∀x c,X.env.cells.lookup x=some c→c≠b)∧∀p∈X.pn ++ pins,p.1≠b) :
  Inv X pins σ H' { s with heap:=h',gens:=g',drawn:=d',toks:=t' }:=by
 obtain ⟨m,⟨o,es,ep,ho,r⟩,_⟩:=id I.loc
 obtain ⟨sl,hL⟩:=u.any ho I.free λz=>(hch _ z).2.1 rfl
 exact I.step (ch:=ch) hch (λb o hL hb hc e n=>u.keep b o e n (λz=>(Sy.mp (I.oN b z)).elim hL hb) hc) (λb o _ _ hc e n=>u.any e n hc) (λb o hc e n=>u.free b o e n hc) (λb o hc e=>u.there b o e hc) u.tups u.frzs u.tbls (λm' hm=>by
  obtain ⟨o',es',ep',ho',r'⟩:=hm
  rw [ho] at ho';cases ho'
  exact ⟨_,es',ep',hL,r'⟩) hok hg
theorem Inv.turned {t':Nat} {it:Addr} (I:Inv X pins σ H s) (k:∀b o,b≠it→s.heap.get? b=some o→h'.get? b=some o) (hn:H it=none) (hL:it≠X.env.locals)
  (h1:it∈X.ex∨X.s₀.heap.objs.size≤it) (h2:∀x c,X.env.cells.lookup x=some c→c≠it) (h3:∀p∈X.pn ++ pins,p.1≠it):Inv X pins σ H { s with heap:=h',toks:=t' }:=by
 have nit:∀b u,H b=some u→b≠it:=λb u e z=>by rw [z,hn] at e;cases e
 refine I.step (g':=s.gens) (d':=s.drawn) (ch:=[it]) (λb hb=>?_) (λb o _ _ hc e _=>k b o (λz=>hc (by simp [z])) e) (λb o _ _ hc e _=>⟨o.slots,k b o (λz=>hc (by simp [z])) e⟩) (λ_ _ _ _ n=>n)
  (λb o hc e=>⟨o,k b o (λz=>hc (by simp [z])) e⟩) (λ_ _ e=>e) (λ_ _ _ e=>e) (λb ps e=>⟨#[],by rw [e];simp⟩) (λm hm=>?_) (λb u e=>?_) I.bare
 ·have e:b=it:=by simpa using hb
  subst e
  exact ⟨h1,hL,h2,h3⟩
 ·obtain ⟨o,es,ep,ho,r⟩:=hm
  exact ⟨o,es,ep,k _ o (Ne.symm hL) ho,r⟩
 ·refine (I.hok b u e).oM (λc v hc q=>k c v ?_ q) (λ_ q=>q) λ_ _ q=>q
  rcases hc with z | z
  ·rw [z];exact nit b u e
  ·exact nit c _ z
theorem Inv.tok (I:Inv X pins σ H s) (t:Nat):Inv X pins σ H { s with toks:=t }:=I.un (h':=s.heap) (t':=t) Un.refl I.hok
theorem Inv.kept {t':Nat} (I:Inv X pins σ H s) (k:∀b u,s.heap.get? b=some u→h'.get? b=some u):Inv X pins σ H { s with heap:=h',toks:=t' }:=I.un (Un.kept k) (I.hok.kept k)
theorem Inv.laid {a:Addr} {o:HO} {t':Nat} (I:Inv X pins σ H s) (k:∀b u,s.heap.get? b=some u→h'.get? b=some u) (hp:s.heap.objs.size≤a) (new:du X.prog X.w (upd H a o) h' a o) :
  Inv X pins σ (upd H a o) { s with heap:=h',toks:=t' }:=I.un (Un.laid k hp (I.hok.fresh hp)) (I.hok.laid k hp new)
theorem Inv.write {x e:Addr} {o:HO} {t':Nat} (I:Inv X pins σ H s) (mu:OY (H x)) (he:e=x∨H e=some (.own x)) (k:∀b u,b≠e→s.heap.get? b=some u→h'.get? b=some u) (heo:∃u,h'.get? e=some u)
  (new:du X.prog X.w (upd H x o) h' x o):Inv X pins σ (upd H x o) { s with heap:=h',toks:=t' }:=I.un (Un.write mu he k heo) (I.hok.write mu he k heo new)
theorem Inv.weak {σ':List (Option V)} (I:Inv X pins σ H s) (hl:σ'.length=σ.length) (w:∀(i:Nat) v,σ'[i]?=some (some v)→σ[i]?=some (some v)):Inv X pins σ' H s :=
 ⟨I.ok,I.os,I.bare,I.base,let ⟨m,hn,hl'⟩:=I.loc;⟨m,hn,λi x v e1 e2 e3=>hl' i x v e1 (w i v e2) e3⟩,I.cell,I.free,I.freeC,I.pin,I.hok,hl.trans I.len⟩
theorem Inv.Ae {pins':List (Addr × Obj)} (I:Inv X pins σ H s) (h:∀p∈pins',s.heap.get? p.1=some p.2∧H p.1=none∧p.1≠X.env.locals∧p.1 ∉ X.fs∧∀v,p.2.data≠.cell v):Inv X pins' σ H s :=
 ⟨I.ok,I.os,I.bare,I.base,I.loc,I.cell,I.free,I.freeC,λp hp=>(Sq.mp hp).elim (λz=>I.pin p (Tj _ z)) (h p),I.hok,I.len⟩
theorem qz {N:List Str} (hN:N.Nodup) {i j:Nat} {x:Str} (a:N[i]?=some x) (b:N[j]?=some x):i=j:=by
 obtain ⟨h1,e1⟩:=Sj.mp a
 obtain ⟨h2,e2⟩:=Sj.mp b
 exact (TC hN).mp (e1.trans e2.symm)
theorem oO {M:Model} {A:Around} {E:Value→Shared→Prop} {i:Nat} {x:Str} {v:V} {u:Value} {Q:Unit→Shared→Prop} (I:Inv X pins σ H s) (hN:X.N.Nodup) (hi:X.N[i]?=some x) (hx:Loc X.env.scope x) (r:RelV v u)
  (h:∀s',Inv X pins (σ.set i (some v)) H s'→(∃a,Heap.SameBut a s.heap s'.heap∧(a=X.env.locals∨X.env.cells.lookup x=some a))→Q () s') (hf:X.fn x=true∨X.env.scope.names.lookup x=some .local:=by first | exact .inl rfl | exact .inr rfl | assumption):wpAny M A (storeName X.env x u) Q E s:=by
 obtain ⟨m,hn,hl⟩:=id I.loc
 have hcls:(X.env.scope.kind == .class || (X.env.scope.kind == .module && X.env.locals != X.env.globals))=false:=by rw [I.ok.kind];rfl
 have hiσ:i < σ.length:=by rw [I.len];exact (Sj.mp hi).1
 have Gi:=I.Gi
 have tracked:∀{a:Addr} {h':Heap},(∃o,s.heap.get? a=some o∧H a=none)→Heap.SameBut a s.heap h'→ma X.prog X.w H h':=λ{a h'} ha hs b ob e=>by
  obtain ⟨_,_,hfree⟩:=ha
  refine (I.hok b ob e).oM (λc w' hc q=>(hs.2 c ?_).trans q) (λ_ q=>q) λ_ _ q=>q
  rintro rfl
  rcases hc with rfl | hc
  ·rw [hfree] at e;cases e
  ·rw [hfree] at hc;cases hc
 rcases hx with hk | hk
 ·refine wpAny_storeName_local hk hn (λh' hn' hs=>?_) hcls
  obtain ⟨oL,_,_,hoL,_⟩:=id hn
  refine h _ ⟨I.ok,I.os,I.bare,⟨λb o e n hb hx=>?_,λb o e n hb hx=>?_,I.base.free,λb o e hx=>?_,I.base.tups,I.base.frzs,I.base.tbls⟩,⟨_,hn',λj y v' e1 e2 e3=>?_⟩,λy c e=>?_,I.free,I.freeC,λp hp=>?_,tracked ⟨oL,hoL,I.free⟩ hs,by simpa using I.len⟩ ⟨_,hs,.inl rfl⟩
  ·exact (hs.2 b (SN (SA (Heap.lt_size e) I.ok.above))).trans (I.base.keep b o e n hb hx)
  ·obtain ⟨sl,e1⟩:=I.base.slot b o e n hb hx
   exact ⟨sl,(hs.2 b (SN (SA (Heap.lt_size e) I.ok.above))).trans e1⟩
  ·obtain ⟨o',e1⟩:=I.base.there b o e hx
   exact ⟨o',(hs.2 b (SN (SA (Heap.lt_size e) I.ok.above))).trans e1⟩
  ·by_cases hj:j=i
   ·subst hj
    rw [hi] at e1;cases e1
    rw [SQ hiσ] at e2
    cases e2
    exact ⟨u,r,.inl ⟨hk,by simp⟩⟩
   ·rw [S7 (Ne.symm hj)] at e2
    obtain ⟨u',r',q⟩:=hl j y v' e1 e2 e3
    refine ⟨u',r',?_⟩
    rcases q with ⟨k,e⟩ | ⟨k,c,e,z⟩
    ·refine .inl ⟨k,?_⟩
     have:y≠x:=λe=>hj (qz hN e1 (e ▸ hi))
     simp [this,e]
    ·exact .inr ⟨k,c,e,z.sameBut hs (Gi y c e)⟩
  ·obtain ⟨w',z⟩:=I.cell y c e
   exact ⟨w',z.sameBut hs (Gi y c e)⟩
  ·obtain ⟨e,n,ne,nf,d⟩:=I.pin p hp
   exact ⟨(hs.2 p.1 ne).trans e,n,ne,nf,d⟩
 ·have hfn:X.fn x=true:=by
   rcases hf with z | z
   ·exact z
   ·rw [z] at hk;cases hk
  obtain ⟨c,hc⟩:=I.ok.has x (.inl hk)
  obtain ⟨w',z⟩:=I.cell x c hc
  refine wpAny_storeName_cell I.ok.kind hk hc z (λh' hc' hs=>?_)
  obtain ⟨oc,hoc,hocd⟩:=id z
  refine h { s with heap:=h' } ⟨I.ok,I.os,I.bare,⟨λb o e n hb hx=>?_,λb o e n hb hx=>?_,I.base.free,λb o e hx=>?_,I.base.tups,I.base.frzs,I.base.tbls⟩,⟨m,hn.sameBut hs (Ne.symm (Gi x c hc)),λj y v' e1 e2 e3=>?_⟩,λy c' e=>?_,I.free,I.freeC,λp hp=>?_,tracked ⟨oc,hoc,I.freeC x c hc⟩ hs,by simpa using I.len⟩ ⟨c,hs,.inr hc⟩
  ·exact (hs.2 b (SN (SA (Heap.lt_size e) (I.ok.cab x c hfn hc)))).trans (I.base.keep b o e n hb hx)
  ·obtain ⟨sl,e1⟩:=I.base.slot b o e n hb hx
   exact ⟨sl,(hs.2 b (SN (SA (Heap.lt_size e) (I.ok.cab x c hfn hc)))).trans e1⟩
  ·obtain ⟨o',e1⟩:=I.base.there b o e hx
   exact ⟨o',(hs.2 b (SN (SA (Heap.lt_size e) (I.ok.cab x c hfn hc)))).trans e1⟩
  ·by_cases hj:j=i
   ·subst hj
    rw [hi] at e1;cases e1
    rw [SQ hiσ] at e2
    cases e2
    exact ⟨u,r,.inr ⟨.inl hk,c,hc,hc'⟩⟩
   ·rw [S7 (Ne.symm hj)] at e2
    obtain ⟨u',r',q⟩:=hl j y v' e1 e2 e3
    refine ⟨u',r',?_⟩
    rcases q with q | ⟨k,c',e,z'⟩
    ·exact .inl q
    ·refine .inr ⟨k,c',e,z'.sameBut hs ?_⟩
     rintro rfl
     exact hj (qz hN e1 (I.ok.inj _ _ _ e hc ▸ hi))
  ·by_cases hcc:c'=c
   ·subst hcc;exact ⟨_,hc'⟩
   ·obtain ⟨w2,z2⟩:=I.cell y c' e
    exact ⟨w2,z2.sameBut hs hcc⟩
  ·obtain ⟨e,n,ne,nf,d⟩:=I.pin p hp
   refine ⟨(hs.2 p.1 ?_).trans e,n,ne,nf,d⟩
   intro q
   rw [q,hoc] at e
   have q':oc=p.2:=Option.some.inj e
   exact d w' (by rw [← q'];exact hocd)
theorem fI {M:Model} {A:Around} {E:Value→Shared→Prop} {i:Nat} {x:Str} {v:V} {u:Value} {Q:Unit→Shared→Prop} (I:Inv X pins σ H s) (hN:X.N.Nodup) (hi:X.N[i]?=some x) (hx:Loc X.env.scope x) (r:RelV v u)
  (h:∀s',Inv X pins (σ.set i (some v)) H s'→Q () s') (hf:X.fn x=true∨X.env.scope.names.lookup x=some .local:=by first | exact .inl rfl | exact .inr rfl | assumption):wpAny M A (storeName X.env x u) Q E s :=
 oO I hN hi hx r (λs' I' _=>h s' I') hf
theorem Inv.C5 {s':Shared} {ch:List Addr} (I:Inv X pins σ H s) (ho:s'.os=s.os) (u:Un (jw X.stack) ch H H' s.heap s'.heap) (hok:ma X.prog X.w H' s'.heap) (hg:AllBare s'.gens)
  (hch:∀b∈ch,(b∈X.ex∨X.s₀.heap.objs.size≤b)∧b≠X.env.locals∧(∀x c,X.env.cells.lookup x=some c→c≠b)∧∀p∈X.pn ++ pins,p.1≠b):Inv X pins σ H' s':=by
 obtain ⟨h',g',d',t',o'⟩:=s'
 have e:o'=s.os:=ho
 subst e
 exact I.call (g':=g') (t':=t') (d':=d') u hok hg hch
end
abbrev XK:=Value→Option Addr→Hp→Prop
abbrev St:=List (Option V)
abbrev VK:=V→Hp→Prop
abbrev TE:=St→Hp→VK→Prop
abbrev TT:=St→Hp→(Bool→Hp→Prop)→Prop
abbrev TA:=St→Hp→(List V→Hp→Prop)→Prop
structure Ends where
 nx:St→Hp→Prop
 rt:VK
 bk:St→Hp→Prop:=λ_ _=>False
 ct:St→Hp→Prop:=λ_ _=>False
abbrev TS:=Ends→St→Hp→Prop
def EP (X:Cx) (pins:List (Addr × Obj)) (σ:St) (Q:VK) (u:Value) (s':Shared):Prop:=∃v H',Inv X pins σ H' s'∧RelV v u∧Q v H'
def TP (X:Cx) (pins:List (Addr × Obj)) (σ:St) (Q:Bool→Hp→Prop) (b:Bool) (s':Shared):Prop:=∃H',Inv X pins σ H' s'∧Q b H'
def AP (X:Cx) (pins:List (Addr × Obj)) (σ:St) (Q:List V→Hp→Prop) (us:List Value) (s':Shared):Prop:=∃vs H',Inv X pins σ H' s'∧Vals vs us∧Q vs H'
def SP (X:Cx) (pins:List (Addr × Obj)) (D:Ends) (f:Flow) (s':Shared):Prop :=
 match f with
 | .next=>∃σ' H',Inv X pins σ' H' s'∧D.nx σ' H'
 | .brk=>∃σ' H',Inv X pins σ' H' s'∧D.bk σ' H'
 | .cont=>∃σ' H',Inv X pins σ' H' s'∧D.ct σ' H'
 | .ret u=>∃v σ' H',Inv X pins σ' H' s'∧RelV v u∧D.rt v H'
def PE (X:Cx) (e:Expr) (t:TE):Prop :=
 ∀(pins:List (Addr × Obj)) (s:Shared) (σ:St) (H:Hp) (Q:VK),Inv X pins σ H s→t σ H Q→wpAny (model X.prog X.w) X.A (eval e X.env) (EP X pins σ Q) X.xe s
def PT (X:Cx) (e:Expr) (t:TT):Prop :=
 ∀(pins:List (Addr × Obj)) (s:Shared) (σ:St) (H:Hp) (Q:Bool→Hp→Prop),Inv X pins σ H s→t σ H Q→wpAny (model X.prog X.w) X.A (isTrue e X.env (eval e X.env)) (TP X pins σ Q) X.xe s
def PW (X:Cx) (e:Expr) (t:TT):Prop :=
 ∀(whole:Sem Value) (pins:List (Addr × Obj)) (s:Shared) (σ:St) (H:Hp) (Q:Bool→Hp→Prop),Inv X pins σ H s→t σ H Q→wpAny (model X.prog X.w) X.A (isTrue e X.env whole) (TP X pins σ Q) X.xe s
theorem PW.pt {X:Cx} {e:Expr} {t:TT} (h:PW X e t):PT X e t:=h _
def PA (X:Cx) (es:List Expr) (t:TA):Prop :=
 ∀(pos:Pos) (pins:List (Addr × Obj)) (s:Shared) (σ:St) (H:Hp) (Q:List V→Hp→Prop),Inv X pins σ H s→t σ H Q→wpAny (model X.prog X.w) X.A (spliced (backTo pos (starEach es X.env))) (AP X pins σ Q) X.xe s
def PS (X:Cx) (st:Stmt) (t:TS):Prop :=
 ∀(pins:List (Addr × Obj)) (s:Shared) (σ:St) (H:Hp) (D:Ends),Inv X pins σ H s→t D σ H→wpAny (model X.prog X.w) X.A (exec st X.env) (SP X pins D) X.xe s
def rJ (X:Cx) (st:List Stmt) (t:TS):Prop :=
 ∀(pins:List (Addr × Obj)) (s:Shared) (σ:St) (H:Hp) (D:Ends),Inv X pins σ H s→t D σ H→wpAny (model X.prog X.w) X.A (execs st X.env) (SP X pins D) X.xe s
theorem cA {α:Type} {t:Sem α} {Q Q':α→Shared→Prop} {M:Model} {A:Around} {E:Value→Shared→Prop} {s:Shared} (h:wpAny M A t Q E s) (hQ:∀a s,Q a s→Q' a s):wpAny M A t Q' E s:=wpAny_mono h hQ λ_ _ x=>x
end L2
namespace L2
open PySem PySem.Spec PyProof.Rows
section
variable {X:Cx}
def zj (i:Nat):TE:=λσ H Q=>∃v,σ[i]?=some (some v)∧Q v H
def tC (v:V):TE:=λ_ H Q=>Q v H
theorem yS {i:Nat} {x:Str} {pos:Pos} (hN:X.N[i]?=some x) (hv:uv X.env.scope x) (hd:(x == ("__debug__":Str))=false:=by decide) (hcd:(x == ("__classdict__":Str))=false:=by decide):PE X (.Name x pos) (zj i):=by
 intro pins s σ H Q I h
 obtain ⟨v,e,h⟩:=h
 obtain ⟨m,hn,hl⟩:=I.loc
 obtain ⟨u,r,l⟩:=hl i x v hN e hv
 have fin:EP X pins σ Q u s:=⟨v,H,I,r,h⟩
 rcases l with ⟨hk,hm⟩ | ⟨hk,c,hc,hcell⟩
 ·exact wpAny_Name (wpAny_loadName_local I.ok.kind hk hn hm fin) hd
 ·rcases hk with hk | hk
  ·exact wpAny_Name (wpAny_loadName_cell I.ok.kind hk hc hcell fin) hd
  ·exact wpAny_Name (wpAny_loadName_free I.ok.kind hk hc hcell fin hcd) hd
theorem aP {i j pos}:PE X (.Constant (.int i) j pos) (tC (.int i)):=λ_ _ _ H _ I h=>wpAny_Constant_int ⟨.int i,H,I.tok _,⟨_,rfl⟩,h⟩
theorem xb {b j pos}:PE X (.Constant (.bool b) j pos) (tC (.bl b)):=λ_ _ _ H _ I h=>Constant_bool ⟨.bl b,H,I,rfl,h⟩
theorem yQ {j pos}:PE X (.Constant .none j pos) (tC .non):=λ_ _ _ H _ I h=>Constant_none ⟨.non,H,I,rfl,h⟩
theorem oh {x j pos}:PE X (.Constant (.str x) j pos) (tC (.str x)):=λ_ _ _ H _ I h=>Calls.Constant_str ⟨.str x,H,I.tok _,⟨_,rfl⟩,h⟩
def Gl (X:Cx) (x:Str):Prop:=X.env.kindOf x=some .globalImplicit
theorem kE {E:Value→Shared→Prop} {pins:List (Addr × Obj)} {s:Shared} {σ:St} {H:Hp} {x:Str} {u:Value} {pos:Pos} {Q:Value→Shared→Prop} (I:Inv X pins σ H s) (hg:Gl X x) (hm:X.mg x=some u) (h:Q u s)
  (hd:(x == ("__debug__":Str))=false:=by decide):wpAny (model X.prog X.w) X.A (eval (.Name x pos) X.env) Q E s :=
 Calls.Name_function_global I.ok.kind hg (Calls.loadGlobal_global (by rw [I.ok.glob];exact I.mod.glob.keeps I.bk) hm h) hd
theorem nY {E:Value→Shared→Prop} {pins:List (Addr × Obj)} {s:Shared} {σ:St} {H:Hp} {x:Str} {u:Value} {pos:Pos} {Q:Value→Shared→Prop} (I:Inv X pins σ H s) (hg:Gl X x) (hm:X.mg x=none) (hv:bootBuiltins x=some u) (h:Q u s)
  (hn:x≠"__name__":=by decide) (hd:(x == ("__debug__":Str))=false:=by decide):wpAny (model X.prog X.w) X.A (eval (.Name x pos) X.env) Q E s:=by
 obtain ⟨mb,h1,h2⟩:=I.mod.blt
 exact Calls.Name_function_global I.ok.kind hg (Calls.loadGlobal_builtin (by rw [I.ok.glob];exact I.mod.glob.keeps I.bk) hm (by rw [I.ok.blt];exact h1.keeps I.bk) ((h2 x hn).trans hv) h) hd
theorem dm {x:Str} {v:V} {u:Value} {pos:Pos} (hg:Gl X x) (hm:X.mg x=some u) (r:RelV v u) (hd:(x == ("__debug__":Str))=false:=by decide):PE X (.Name x pos) (tC v) :=
 λ_ _ _ H _ I h=>kE I hg hm ⟨v,H,I,r,h⟩ hd
theorem pI {x:Str} {v:V} {u:Value} {pos:Pos} (hg:Gl X x) (hm:X.mg x=none) (hv:bootBuiltins x=some u) (r:RelV v u) (hn:x≠"__name__":=by decide) (hd:(x == ("__debug__":Str))=false:=by decide):PE X (.Name x pos) (tC v) :=
 λ_ _ _ H _ I h=>nY I hg hm hv ⟨v,H,I,r,h⟩ hn hd
variable {a b:Expr} {ta tb:TE} {pos:Pos}
def tB (t:TE):TT:=λσ H Q=>t σ H λx H1=>∃c,x=.bl c∧Q c H1
theorem yX {e:Expr} {t:TE} (h:PE X e t) (he:∀whole,isTrue e X.env whole=(do let v ← whole;standAt e.pos;holding [v] (truthy v)):=by intro _;rfl):PT X e (tB t):=by
 intro pins s σ H Q I hw
 refine isTrue_plain (cA (h pins s σ H _ I hw) λv s1 ⟨x,H1,I1,r1,q1⟩=>?_) (he _)
 obtain ⟨d,rfl,q⟩:=q1
 cases r1
 exact wpAny_truthy_bool ⟨H1,I1,q⟩
variable {tA tB':TT} {rest:List Expr}
def Fp (t u:TT):TT:=λσ H Q=>t σ H λc H1=>if c=true then u σ H1 Q else Q false H1
def OI (t u:TT):TT:=λσ H Q=>t σ H λc H1=>if c=true then Q true H1 else u σ H1 Q
def H0 (t:TT):TT:=λσ H Q=>t σ H λc H1=>Q (!c) H1
theorem pM (ha:PT X a tA):PW X (.BoolOp .And [a] pos) tA:=by
 intro wh pins s σ H Q I h
 refine isTrue_and (cA (ha pins s σ H Q I h) λc s1 e=>?_)
 cases c with
 | true=>exact isTrue_and_nil e
 | false=>exact e
theorem vp (ha:PT X a tA):PW X (.BoolOp .Or [a] pos) tA:=by
 intro wh pins s σ H Q I h
 refine isTrue_or (cA (ha pins s σ H Q I h) λc s1 e=>?_)
 cases c with
 | false=>exact isTrue_or_nil e
 | true=>exact e
theorem vo (ha:PT X a tA) (hb:PW X (.BoolOp .And (b :: rest) pos) tB'):PW X (.BoolOp .And (a :: b :: rest) pos) (Fp tA tB'):=by
 intro wh pins s σ H Q I h
 refine isTrue_and (cA (ha pins s σ H _ I h) λc s1 ⟨H1,I1,q1⟩=>?_)
 cases c with
 | true=>exact hb wh pins s1 σ H1 Q I1 q1
 | false=>exact ⟨H1,I1,q1⟩
theorem Ah (ha:PT X a tA) (hb:PW X (.BoolOp .Or (b :: rest) pos) tB'):PW X (.BoolOp .Or (a :: b :: rest) pos) (OI tA tB'):=by
 intro wh pins s σ H Q I h
 refine isTrue_or (cA (ha pins s σ H _ I h) λc s1 ⟨H1,I1,q1⟩=>?_)
 cases c with
 | true=>exact ⟨H1,I1,q1⟩
 | false=>exact hb wh pins s1 σ H1 Q I1 q1
theorem yW (ha:PT X a tA):PT X (.UnaryOp .Not a pos) (H0 tA):=by
 intro pins s σ H Q I h
 exact isTrue_not (ha pins s σ H (λc H1=>Q (!c) H1) I h)
def AN (ta tb:TE):TE:=λσ H Q=>ta σ H λx H1=>∃c,x=.bl c∧if c=true then tb σ H1 Q else Q (.bl false) H1
def H_ (ta tb:TE):TE:=λσ H Q=>ta σ H λx H1=>∃c,x=.bl c∧if c=true then Q (.bl true) H1 else tb σ H1 Q
def JB (ta:TE):TE:=λσ H Q=>ta σ H λx H1=>∃c,x=.bl c∧Q (.bl (!c)) H1
theorem yR {op} {t:TE} (h:PE X a t):PE X (.BoolOp op [a] pos) t:=λpins s σ H Q I hw=>BoolOp_one (h pins s σ H Q I hw)
theorem yP (ha:PE X a ta) (hb:PE X (.BoolOp .And (b :: rest) pos) tb):PE X (.BoolOp .And (a :: b :: rest) pos) (AN ta tb):=by
 intro pins s σ H Q I h
 refine BoolOp_and (cA (ha pins s σ H _ I h) λv s1 ⟨x,H1,I1,r1,q1⟩=>?_)
 obtain ⟨c,rfl,q1⟩:=q1
 cases r1
 refine wpAny_truthy_bool ?_
 cases c with
 | true=>exact hb pins s1 σ H1 Q I1 q1
 | false=>exact ⟨.bl false,H1,I1,rfl,q1⟩
theorem Et (ha:PE X a ta) (hb:PE X (.BoolOp .Or (b :: rest) pos) tb):PE X (.BoolOp .Or (a :: b :: rest) pos) (H_ ta tb):=by
 intro pins s σ H Q I h
 refine BoolOp_or (cA (ha pins s σ H _ I h) λv s1 ⟨x,H1,I1,r1,q1⟩=>?_)
 obtain ⟨c,rfl,q1⟩:=q1
 cases r1
 refine wpAny_truthy_bool ?_
 cases c with
 | false=>exact hb pins s1 σ H1 Q I1 q1
 | true=>exact ⟨.bl true,H1,I1,rfl,q1⟩
def O_ (t:TT) (ta tb:TE):TE:=λσ H Q=>t σ H λc H1=>if c=true then ta σ H1 Q else tb σ H1 Q
theorem qH {c:Expr} (hc:PT X c tA) (ha:PE X a ta) (hb:PE X b tb):PE X (.IfExp c a b pos) (O_ tA ta tb):=by
 intro pins s σ H Q I h
 refine wpAny_IfExp (cA (hc pins s σ H _ I h) λd s1 ⟨H1,I1,q1⟩=>?_)
 cases d with
 | true=>exact ha pins s1 σ H1 Q I1 q1
 | false=>exact hb pins s1 σ H1 Q I1 q1
end
end L2
namespace L2
open PySem PySem.Spec PyProof.Rows
def dC (K:PySem.W.Frag) (H:Hp) (a:Addr) (xs:List V):Prop :=
 Rd H a (.lst xs) ∨
  ∃(o:Obj) (its:Array Value) (n:Nat),K.lookup a=some o∧o.cls=.type "list"∧o.dict=none∧o.data=.seq its n∧its.size≤sizeLine∧Vals xs its.toList
def gJ (K:PySem.W.Frag) (H:Hp) (a:Addr) (xs:List V):Prop :=
 Rd H a (.tup xs) ∨
  ∃(o:Obj) (its:Array Value) (n:Nat),K.lookup a=some o∧o.cls=.type "tuple"∧o.data=.seq its n∧its.size≤sizeLine∧Vals xs its.toList
def Pp:Value→Option V
 | .none=>some .non
 | .bool b=>some (.bl b)
 | .int i _=>some (.int i)
 | .str x _=>some (.str x)
 | .bytes b _=>some (.byt b)
 | .float b _=>some (.flt b)
 | .ref a=>some (.ref a)
 | .type n=>some (.ty n)
 | _=>none
theorem RelV.abs {x:V} {u:Value} (r:RelV x u):Pp u=some x:=by
 cases x with
 | non=>cases r;rfl
 | bl _=>cases r;rfl
 | int _=>obtain ⟨t,rfl⟩:=r;rfl
 | str _=>obtain ⟨t,rfl⟩:=r;rfl
 | byt _=>obtain ⟨t,rfl⟩:=r;rfl
 | flt _=>obtain ⟨t,rfl⟩:=r;rfl
 | ref _=>cases r;rfl
 | ty _=>cases r;rfl
theorem RelV.inj {x y:V} {u:Value} (r:RelV x u) (q:RelV y u):x=y:=Option.some.inj (r.abs.symm.trans q.abs)
theorem Vals.inj:∀{xs ys:List V} {us:List Value},Vals xs us→Vals ys us→xs=ys
 | _,_,_,.nil,.nil=>rfl
 | _,_,_,.cons r t,.cons r' t'=>by rw [r.inj r',Vals.inj t t']
section
variable {X:Cx} {pins:List (Addr × Obj)} {σ:St} {H:Hp} {s:Shared} {a:Addr} {xs ys:List V}
theorem dC.of {K:PySem.W.Frag} (h:H a=some (.lst xs)):dC K H a xs:=.inl (.inl h)
theorem gJ.of {K:PySem.W.Frag} (h:H a=some (.tup xs)):gJ K H a xs:=.inl (.inl h)
theorem Inv.list (I:Inv X pins σ H s) (h:dC X.K H a xs):∃its:List Value,Vals xs its∧PlainL s.heap a its.toArray∧xs.length≤sizeLine:=by
 rcases h with h | ⟨o,its,n,hk,hc,hd,hs,hz,r⟩
 ·obtain ⟨z,its,n,r,e⟩:=h.ok I.hok
  exact ⟨its,r,⟨_,n,e,rfl,rfl,rfl⟩,z⟩
 ·refine ⟨its.toList,r,⟨o,n,I.lR a o hk,hc,hd,by simpa using hs⟩,?_⟩
  have e:=r.length
  simp only [Array.length_toList] at e
  omega
theorem Inv.tuple (I:Inv X pins σ H s) (h:gJ X.K H a xs):∃its:List Value,Vals xs its∧IsTup s.heap a its.toArray∧xs.length≤sizeLine:=by
 rcases h with h | ⟨o,its,n,hk,hc,hs,hz,r⟩
 ·obtain ⟨z,its,r,p⟩:=h.ok I.hok
  exact ⟨its,r,p,z⟩
 ·refine ⟨its.toList,r,⟨o,I.lR a o hk,hc,n,by simpa using hs⟩,?_⟩
  have e:=r.length
  simp only [Array.length_toList] at e
  omega
theorem Inv.qv (I:Inv X pins σ H s) (h:dC X.K H a xs) (h':dC X.K H a ys):xs=ys:=by
 obtain ⟨its,r,⟨o,n,e,_,_,d⟩,_⟩:=I.list h
 obtain ⟨its',r',⟨o',n',e',_,_,d'⟩,_⟩:=I.list h'
 rw [e] at e';cases e'
 rw [d] at d'
 injection d' with d1 _
 have:its=its':=by simpa using congrArg Array.toList d1
 subst this
 exact r.inj r'
theorem Inv.Cm (I:Inv X pins σ H s) (h:gJ X.K H a xs) (h':gJ X.K H a ys):xs=ys:=by
 obtain ⟨its,r,⟨o,e,_,n,d⟩,_⟩:=I.tuple h
 obtain ⟨its',r',⟨o',e',_,n',d'⟩,_⟩:=I.tuple h'
 rw [e] at e';cases e'
 rw [d] at d'
 injection d' with d1 _
 have:its=its':=by simpa using congrArg Array.toList d1
 subst this
 exact r.inj r'
end
abbrev Cx.rG (X:Cx) (E:Value→Shared→Prop):Cx:={ X with xe:=E }
abbrev Cx.K0 (X:Cx):Cx:=X.rG λ_ _=>False
theorem Cx.Ok.rG {X:Cx} (ok:X.Ok) (E:Value→Shared→Prop):(X.rG E).Ok :=
 ⟨ok.mod,ok.kind,ok.glob,ok.blt,ok.above,ok.inj,ok.has,ok.cab,ok.hd,ok.frames,ok.stk,ok.exf,ok.bs,ok.bsz,ok.noex,ok.exfs,ok.lP,ok.frf⟩
theorem Cx.Ok.kj {X:Cx} {E:Value→Shared→Prop} (ok:(X.rG E).Ok):X.Ok :=
 ⟨ok.mod,ok.kind,ok.glob,ok.blt,ok.above,ok.inj,ok.has,ok.cab,ok.hd,ok.frames,ok.stk,ok.exf,ok.bs,ok.bsz,ok.noex,ok.exfs,ok.lP,ok.frf⟩
section
variable {X:Cx} {pins:List (Addr × Obj)} {σ:St} {H:Hp} {s:Shared} {E:Value→Shared→Prop}
theorem Inv.rG (I:Inv X pins σ H s) (E:Value→Shared→Prop):Inv (X.rG E) pins σ H s:=⟨I.ok.rG E,I.os,I.bare,I.base,I.loc,I.cell,I.free,I.freeC,I.pin,I.hok,I.len⟩
theorem Inv.kj (I:Inv (X.rG E) pins σ H s):Inv X pins σ H s:=⟨I.ok.kj,I.os,I.bare,I.base,I.loc,I.cell,I.free,I.freeC,I.pin,I.hok,I.len⟩
theorem SP.kj {D:Ends} {f:Flow} {s':Shared} (h:SP (X.rG E) pins D f s'):SP X pins D f s':=by
 cases f with
 | next=>obtain ⟨σ',H',I,q⟩:=h;exact ⟨σ',H',I.kj,q⟩
 | brk=>obtain ⟨σ',H',I,q⟩:=h;exact ⟨σ',H',I.kj,q⟩
 | cont=>obtain ⟨σ',H',I,q⟩:=h;exact ⟨σ',H',I.kj,q⟩
 | ret u=>obtain ⟨v,σ',H',I,r,q⟩:=h;exact ⟨v,σ',H',I.kj,r,q⟩
theorem rJ.K0 {st:List Stmt} {t:TS} (h:rJ X.K0 st t):rJ X st t:=λpins s σ H D I hw =>
 wpAny_mono (h pins s σ H D (I.rG _) hw) (λ_ _ q=>q.kj) λ_ _ z=>False.elim z
end
section
variable {X:Cx} {st:Stmt} {rest:List Stmt} {t u:TS} {e:Expr} {te:TE} {pos:Pos}
def AQ:TS:=λD σ H=>D.nx σ H
def Ic (t u:TS):TS:=λD σ H=>t { D with nx:=u D } σ H
theorem fV:rJ X [] AQ:=λ_ _ σ H _ I h=>wpAny_execs_nil ⟨σ,H,I,h⟩
theorem aX (h1:PS X st t) (h2:rJ X rest u):rJ X (st :: rest) (Ic t u):=by
 intro pins s σ H D I h
 refine wpAny_execs_cons (cA (h1 pins s σ H { D with nx:=u D } I h) λf s1 q=>?_)
 cases f with
 | next =>
  obtain ⟨σ',H',I',q⟩:=q
  exact h2 pins s1 σ' H' D I' q
 | ret v=>exact q
 | brk=>exact q
 | cont=>exact q
theorem bM (h1:PS X st t):rJ X [st] t:=by
 intro pins s σ H D I h
 refine wpAny_execs_cons (cA (h1 pins s σ H D I h) λf s1 q=>?_)
 cases f with
 | next=>exact wpAny_execs_nil q
 | ret v=>exact q
 | brk=>exact q
 | cont=>exact q
def LV:TS:=λD σ H=>D.bk σ H
def OE:TS:=λD σ H=>D.ct σ H
theorem Inv.quiet {pins:List (Addr × Obj)} {σ:St} {H:Hp} {s:Shared} (I:Inv X pins σ H s):interactive X.env=false:=by simp [interactive,I.ok.kind]
def AO (te:TE):TS:=λD σ H=>te σ H λ_ H1=>D.nx σ H1
theorem kI (he:PE X e te) (hs:swapsWith e none pos.line X.env=pure false:=by rfl):PS X (.Expr e pos) (AO te):=by
 intro pins s σ H D I h
 exact wpAny_Expr_any (cA (he pins s σ H _ I h) λv s1 ⟨x,H1,I1,r1,q1⟩=>⟨σ,H1,I1,q1⟩) I.quiet hs
def Ib (te:TE):TS:=λD σ H=>te σ H D.rt
theorem dO (he:PE X e te):PS X (.Return (some e) pos) (Ib te):=by
 intro pins s σ H D I h
 exact wpAny_Return_some (cA (he pins s σ H _ I h) λv s1 ⟨x,H1,I1,r1,q1⟩=>⟨x,σ,H1,I1,r1,q1⟩)
def AS:TS:=λD _ H=>D.rt .non H
theorem vj:PS X (.Return none pos) AS:=λ_ _ σ H _ I h=>wpAny_Return_none ⟨.non,σ,H,I,rfl,h⟩
def HY (c:TT) (t u:TS):TS:=λD σ H=>c σ H λb H1=>if b=true then t D σ H1 else u D σ H1
theorem m5 {c:Expr} {a b:List Stmt} {tc:TT} (hc:PT X c tc) (ha:rJ X a t) (hb:rJ X b u):PS X (.If c a b pos) (HY tc t u):=by
 intro pins s σ H D I h
 refine wpAny_If (cA (hc pins s σ H _ I h) λd s1 ⟨H1,I1,q1⟩=>?_)
 cases d with
 | true=>exact ha pins s1 σ H1 D I1 q1
 | false=>exact hb pins s1 σ H1 D I1 q1
def zi:TS:=λ_ _ _=>False
theorem om {sts:List Stmt}:rJ X sts zi:=λ_ _ _ _ _ _ h=>h.elim
end
abbrev TG:=V→St→Hp→(St→Hp→Prop)→Prop
abbrev o9:=List V→St→Hp→(St→Hp→Prop)→Prop
def PG (X:Cx) (target:Expr) (t:TG):Prop :=
 ∀(pins:List (Addr × Obj)) (s:Shared) (σ:St) (H:Hp) (v:V) (u:Value) (Q:St→Hp→Prop),Inv X pins σ H s→RelV v u→t v σ H Q →
  wpAny (model X.prog X.w) X.A (assign target X.env u) (λ_ s'=>∃σ' H',Inv X pins σ' H' s'∧Q σ' H') X.xe s
def Ir (X:Cx) (ts:List Expr) (t:o9):Prop :=
 ∀(pins:List (Addr × Obj)) (s:Shared) (σ:St) (H:Hp) (vs:List V) (us:List Value) (Q:St→Hp→Prop),Inv X pins σ H s→Vals vs us→t vs σ H Q →
  wpAny (model X.prog X.w) X.A (assignInOrder ((assignEach ts X.env).map (·.2)) us) (λ_ s'=>∃σ' H',Inv X pins σ' H' s'∧Q σ' H') X.xe s
abbrev jv:=V→V→V→Hp→(Hp→Prop)→Prop
def jt (X:Cx) (t:jv):Prop :=
 ∀(pins:List (Addr × Obj)) (s:Shared) (σ:St) (H:Hp) (o i v:V) (ov iv u:Value) (Q:Hp→Prop),Inv X pins σ H s→RelV o ov→RelV i iv→RelV v u→t o i v H Q →
  wpAny (model X.prog X.w) X.A (setItem ov iv u) (λ_ s'=>∃H',Inv X pins σ H' s'∧Q H') X.xe s
abbrev O1:=V→V→Hp→VK→Prop
def Pl (X:Cx) (op:Operator) (t:O1):Prop :=
 ∀(pins:List (Addr × Obj)) (s:Shared) (σ:St) (H:Hp) (x y:V) (v u:Value) (Q:VK),Inv X pins σ H s→RelV x v→RelV y u→t x y H Q →
  wpAny (model X.prog X.w) X.A (inplaceOp op v u) (EP X pins σ Q) X.xe s
section
variable {X:Cx} {pos:Pos}
def oS (i:Nat):TG:=λv σ H Q=>Q (σ.set i (some v)) H
theorem kG {i:Nat} {x:Str} (hN:X.N.Nodup) (hi:X.N[i]?=some x) (hx:Loc X.env.scope x) (hf:X.fn x=true∨X.env.scope.names.lookup x=some .local:=by first | exact .inl rfl | exact .inr rfl | assumption):PG X (.Name x pos) (oS i):=by
 intro pins s σ H v u Q I r h
 exact wpAny_assign_Name (fI I hN hi hx r (λs' I'=>⟨_,H,I',h⟩) hf)
def Gu:o9:=λvs σ H Q=>vs=[]∧Q σ H
def zM (t:TG) (u:o9):o9:=λvs σ H Q=>∃v r,vs=v :: r∧t v σ H λσ' H'=>u r σ' H' Q
theorem vf:Ir X [] Gu:=by
 intro pins s σ H vs us Q I r h
 obtain ⟨e,h⟩:=h
 subst e
 cases r
 exact assignInOrder_nil ⟨σ,H,I,h⟩
theorem qK {e:Expr} {es:List Expr} {t:TG} {u:o9} (h1:PG X e t) (h2:Ir X es u)
  (hs:(assignEach (e :: es) X.env).map (·.2)=assign e X.env :: (assignEach es X.env).map (·.2):=by rfl):Ir X (e :: es) (zM t u):=by
 intro pins s σ H vs us Q I r h
 obtain ⟨v,vr,e1,h⟩:=h
 subst e1
 cases r with
 | cons r rr =>
  rw [hs]
  refine assignInOrder_cons (cA (h1 pins s σ H _ _ _ I r h) λ_ s1 ⟨σ1,H1,I1,q1⟩=>?_)
  exact h2 pins s1 σ1 H1 _ _ Q I1 rr q1
def Gx (K:PySem.W.Frag) (n:Nat) (t:o9):TG:=λv σ H Q=>∃a xs,v=.ref a∧gJ K H a xs∧xs.length=n∧t xs σ H Q
theorem yT {es:List Expr} {k:Nat} {t:o9} {n:Nat} (hc:X.calm=true) (h:Ir X es t)
  (hn:(assignEach es X.env).length=n:=by rfl) (hst:(assignEach es X.env).findIdx? (·.1)=none:=by rfl):PG X (.Tuple es k pos) (Gx X.K n t):=by
 intro pins s σ H v u Q I r hw
 obtain ⟨a,xs,e1,hq,hl,hw⟩:=hw
 subst e1
 cases r
 obtain ⟨its,rv,ht,hz⟩:=I.tuple hq
 refine assign_Tuple_tuple (I.ok.hd hc) ht (by simp [hn,← hl,rv.length]) hst λh' hx=>?_
 have I1:Inv X pins σ H { s with heap:=h' }:=I.kept (t':=s.toks) λb o e=>hx b o (SN (Heap.lt_size e)) e
 exact h pins _ σ H xs _ Q I1 (by simpa using rv) hw
def Gw (to ti:TE) (t:jv):TG:=λv σ H Q=>to σ H λo H1=>ti σ H1 λi H2=>t o i v H2 λH3=>Q σ H3
theorem ve {o i:Expr} {to ti:TE} {t:jv} (ho:PE X o to) (hi:PE X i ti) (hs:jt X t)
  (ha:∀v,assign (.Subscript o i pos) X.env v=(do
   let ov ← holding [v] (eval o X.env)
   let iv ← holding [v,ov] (eval i X.env)
   standAt pos
   holding [v,ov,iv] (setItem ov iv v)
   release [v,ov,iv] []):=by intro _;rfl):PG X (.Subscript o i pos) (Gw to ti t):=by
 intro pins s σ H v u Q I r h
 rw [ha]
 refine wpAny_bind (wpAny_holding (cA (ho pins s σ H _ I h) λov s1 ⟨x,H1,I1,r1,q1⟩=>?_))
 refine wpAny_bind (wpAny_holding (cA (hi pins s1 σ H1 _ I1 q1) λiv s2 ⟨y,H2,I2,r2,q2⟩=>?_))
 refine wpAny_bind (wpAny_standAt (wpAny_bind (wpAny_holding (cA (hs pins s2 σ H2 x y v ov iv u _ I2 r1 r2 r q2) λ_ s3 ⟨H3,I3,q3⟩=>?_))))
 exact wpAny_release ⟨σ,H3,I3,q3⟩
def xQ (te:TE) (g:TG):TS:=λD σ H=>te σ H λx H1=>g x σ H1 D.nx
theorem vi {tg e:Expr} {te:TE} {g:TG} (he:PE X e te) (hg:PG X tg g) (hs:swapsWithSole [tg] e pos.line X.env=pure false:=by rfl) (hw:swappedStores [tg] e X.env=pure none:=by rfl)
  (h1:(assignEach [tg] X.env).map (·.2)=[assign tg X.env]:=by rfl):PS X (.Assign [tg] e pos) (xQ te g):=by
 intro pins s σ H D I h
 refine wpAny_Assign_stores (cA (he pins s σ H _ I h) λv s1 ⟨x,H1,I1,r1,q1⟩=>?_) hs hw
 rw [h1]
 exact cA (hg pins s1 σ H1 x v _ I1 r1 q1) λ_ s2 q=>q
theorem cR {i:Nat} {x:Str} {e:Expr} {te:TE} {pos':Pos} (hN:X.N.Nodup) (hi:X.N[i]?=some x) (hx:Loc X.env.scope x) (he:PE X e te) (hs:swapsWith e (some (.Name x pos')) pos.line X.env=pure false:=by rfl) (hf:X.fn x=true∨X.env.scope.names.lookup x=some .local:=by first | exact .inl rfl | exact .inr rfl | assumption) :
  PS X (.Assign [.Name x pos'] e pos) (xQ te (oS i)):=by
 intro pins s σ H D I h
 refine wpAny_Assign_Name (cA (he pins s σ H _ I h) λv s1 ⟨y,H1,I1,r1,q1⟩=>?_) hs
 exact fI I1 hN hi hx r1 (λs2 I2=>⟨_,H1,I2,q1⟩) hf
def Ia (i j:Nat) (ta:TA):TS:=λD σ H=>ta σ H λvs H1=>∃v w,vs=[v,w]∧D.nx ((σ.set i (some v)).set j (some w)) H1
theorem oj {i j:Nat} {x y:Str} {a b:Expr} {ta:TA} {px py pt:Pos} {kt k2 pt2} (hc:X.calm=true) (hN:X.N.Nodup) (hi:X.N[i]?=some x) (hj:X.N[j]?=some y) (hij:i≠j)
  (hx:X.env.scope.names.lookup x=some .local) (hy:X.env.scope.names.lookup y=some .local) (ha:PA X [a,b] ta)
  (hw:swappedStores [.Tuple [.Name x px,.Name y py] kt pt] (.Tuple [a,b] k2 pt2) X.env=pure (some [x,y]))
  (hs:swapsWithSole [.Tuple [.Name x px,.Name y py] kt pt] (.Tuple [a,b] k2 pt2) pos.line X.env=pure false:=by rfl) :
  PS X (.Assign [.Tuple [.Name x px,.Name y py] kt pt] (.Tuple [a,b] k2 pt2) pos) (Ia i j ta):=by
 intro pins s σ H D I h
 rw [exec_Assign_arm]
 refine wpAny_bind (wpAny_standAt ?_)
 rw [hs]
 refine wpAny_bind (wpAny_pure ?_)
 rw [if_neg (by decide)]
 refine wpAny_bind (Tuple_ (cA (ha _ pins s σ H _ I h) λus s1 ⟨vs,H1,I1,r1,q1⟩=>?_))
 obtain ⟨v,w,e1,q1⟩:=q1
 subst e1
 obtain ⟨u1,u2,rfl,rv,rw'⟩:∃u1 u2,us=[u1,u2]∧RelV v u1∧RelV w u2:=by
  cases r1 with
  | cons p q =>
   cases q with
   | cons p' q' =>
    cases q'
    exact ⟨_,_,rfl,p,p'⟩
 refine wpAny_newObj_type ?_ (by show 2≤sizeLine;decide)
 have I2:Inv X pins σ H1 { s1 with heap:=s1.heap.push { cls:=.type "tuple",data:=.seq [u1,u2].toArray } }:=I1.kept (t':=s1.toks) λb o e=>Heap.get?_push_of_some _ e
 rw [hw]
 refine wpAny_bind (wpAny_pure ?_)
 show wpAny (model X.prog X.w) X.A (do rule "assign.swapped-stores";let items ← unpackItems (.ref s1.heap.objs.size) 2 none;assignInOrder [λv=>bindName X.env y v,λv=>bindName X.env x v] items.reverse;pure Flow.next) _ _ _
 refine wpAny_bind (wpAny_rule (wpAny_bind (unpackItems_tuple (items:=#[u1,u2]) (I.ok.hd hc) (IsTup.new s1.heap _) λh' hx'=>?_)))
 have I3:=I2.kept (h':=h') (t':=s1.toks) λb o e=>hx' b o (SN (Heap.lt_size e)) e
 show wpAny _ _ (assignInOrder [λv=>bindName X.env y v,λv=>bindName X.env x v] [u2,u1] >>= λ_=>pure Flow.next) _ _ _
 refine wpAny_bind (assignInOrder_cons (wpAny_bindName (fI I3 hN hj (.inl hy) rw' (λs2 I4=>?_) (.inr hy))))
 refine assignInOrder_cons (wpAny_bindName (fI I4 hN hi (.inl hx) rv (λs3 I5=>assignInOrder_nil (wpAny_pure ?_)) (.inr hx)))
 rw [List.set_comm _ _ (Ne.symm hij)] at I5
 exact ⟨_,H1,I5,q1⟩
def QC (i:Nat) (te:TE) (ti:O1):TS:=λD σ H=>∃x,σ[i]?=some (some x)∧te σ H λy H1=>ti x y H1 λz H2=>D.nx (σ.set i (some z)) H2
theorem Lj {i:Nat} {x:Str} {e:Expr} {te:TE} {op:Operator} {ti:O1} {pos':Pos} (hN:X.N.Nodup) (hi:X.N[i]?=some x) (hx:Loc X.env.scope x) (he:PE X e te) (ho:Pl X op ti) (hf:X.fn x=true∨X.env.scope.names.lookup x=some .local:=by first | exact .inl rfl | exact .inr rfl | assumption) :
  PS X (.AugAssign (.Name x pos') op e pos) (QC i te ti):=by
 intro pins s σ H D I h
 obtain ⟨v,e1,h⟩:=h
 obtain ⟨m,hn,hl⟩:=I.loc
 have vis:uv X.env.scope x:=by rcases hx with k | k;exact .inl k;exact .inr (.inl k)
 obtain ⟨u,r,l⟩:=hl i x v hi e1 vis
 refine wpAny_AugAssign_Name ?_
 have go:wpAny (model X.prog X.w) X.A (eval e X.env) (λw s₂=>wpAny (model X.prog X.w) X.A (inplaceOp op u w) (λr s₃=>wpAny (model X.prog X.w) X.A (storeName X.env x r) (λ_=>SP X pins D .next) X.xe s₃) X.xe s₂) X.xe s:=by
  refine cA (he pins s σ H _ I h) λw s1 ⟨y,H1,I1,r1,q1⟩=>?_
  refine cA (ho pins s1 σ H1 v y u w _ I1 r r1 q1) λz s2 ⟨zv,H2,I2,r2,q2⟩=>?_
  exact fI I2 hN hi hx r2 (λs3 I3=>⟨_,H2,I3,q2⟩) hf
 rcases l with ⟨hk,hm⟩ | ⟨hk,c,hc,hcell⟩
 ·exact wpAny_loadName_local I.ok.kind hk hn hm go
 ·rcases hk with hk | hk
  ·exact wpAny_loadName_cell I.ok.kind hk hc hcell go
  ·rcases hx with k | k
   ·have:X.env.scope.names.lookup x=some .free:=hk
    rw [k] at this;cases this
   ·have:X.env.scope.names.lookup x=some .free:=hk
    rw [k] at this;cases this
def R4 (f:Int→Int→Int):O1:=λx y H Q=>∃i j,x=.int i∧y=.int j∧Q (.int (f i j)) H
theorem Kx:Pl X .Sub (R4 λi j=>i - j):=by
 intro pins s σ H x y v u Q I r1 r2 h
 obtain ⟨i,j,e1,e2,q⟩:=h
 subst e1;subst e2
 obtain ⟨t,rfl⟩:=r1
 obtain ⟨t',rfl⟩:=r2
 exact isub_int ⟨.int _,H,I.tok _,⟨_,rfl⟩,q⟩
end
section
variable {X:Cx} {pos:Pos}
def v7 (c:TT) (tb:TS):TS:=λD σ H=>∃W:Nat→St→Hp→Prop,(∃m,W m σ H)∧∀m σ H,W m σ H →
 c σ H λb H1=>if b=true then ∃N:St→Hp→Prop,(∀σ' H',N σ' H'→∃m',m' < m∧W m' σ' H')∧tb { D with nx:=N,ct:=N,bk:=D.nx } σ H1 else D.nx σ H1
theorem j4 {c:Expr} {body:List Stmt} {tc:TT} {tb:TS} (hp:PassesOwn (model X.prog X.w) X.A X.env X.xe) (hc:PT X c tc) (hb:rJ X body tb):PS X (.While c body [] pos) (v7 tc tb):=by
 intro pins s σ H D I h
 obtain ⟨W,⟨m0,w0⟩,turn⟩:=h
 refine wpAny_While (codeAny_whileLoop (λn s'=>∃σ' H',Inv X pins σ' H' s'∧W n σ' H') ?_ m0 ⟨σ,H,I,w0⟩)
 rintro n s1 ⟨σ1,H1,I1,w1⟩
 refine wpAny_passesOwn hp (cA (hc pins s1 σ1 H1 _ I1 (turn n σ1 H1 w1)) λb s2 ⟨H2,I2,q2⟩=>?_)
 cases b with
 | true =>
  obtain ⟨N,hN,q2⟩:=q2
  rw [if_pos rfl]
  refine wpAny_passesOwn hp (cA (hb pins s2 σ1 H2 _ I2 q2) λf s3 q3=>?_)
  cases f with
  | next =>
   obtain ⟨σ3,H3,I3,n3⟩:=q3
   obtain ⟨m',hm,w3⟩:=hN σ3 H3 n3
   exact ⟨m',hm,σ3,H3,I3,w3⟩
  | cont =>
   obtain ⟨σ3,H3,I3,n3⟩:=q3
   obtain ⟨m',hm,w3⟩:=hN σ3 H3 n3
   exact ⟨m',hm,σ3,H3,I3,w3⟩
  | brk=>exact q3
  | ret v=>exact q3
 | false =>
  rw [if_neg SD]
  exact wpAny_execs_nil ⟨σ1,H2,I2,q2⟩
end
structure It where
 go:Nat→Hp→Prop
 yld:Nat→Hp→V→Hp→Prop
 stop:Nat→Hp→Prop
def lG (X:Cx) (pins:List (Addr × Obj)) (H:Hp) (b:Addr):Prop :=
 H b=none∧b≠X.env.locals∧b ∉ X.fs∧(b∈X.ex∨X.s₀.heap.objs.size≤b)∧(∀x c,X.env.cells.lookup x=some c→c≠b)∧∀p∈X.pn ++ pins,p.1≠b
theorem Inv.Gs {X:Cx} {pins:List (Addr × Obj)} {σ:St} {H H':Hp} {s:Shared} {b:Addr} (I:Inv X pins σ H s) (hb:s.heap.objs.size≤b) (hn:H' b=none):lG X pins H' b:=by
 refine ⟨hn,Uw (SA I.lt hb),I.Qd hb,.inr (SH I.sz hb),λx c e z=>?_,λp hp z=>?_⟩
 ·obtain ⟨v,q⟩:=I.cell x c e
  exact absurd (SA q.lt (by rw [z];exact hb)) (Tt _)
 ·exact absurd (SA (Heap.lt_size (I.pin p hp).1) (by rw [z];exact hb)) (Tt _)
structure Turn (P:Program) (w:World) (K:PySem.W.Frag) (tg:Expr) (J:It) (fp:List Addr) (it:Addr) (tn:Nat→Heap→Prop):Prop where
 mem:it∈fp
 obj:∀i h,tn i h→∀b∈fp,∃o,h.get? b=some o∧∀v,o.data≠.cell v
 keep:∀i h h',tn i h→(∀b∈fp,∀o,h.get? b=some o→h'.get? b=some o)→tn i h'
 item:∀(X:Cx),X.prog=P→X.w=w→X.K=K→X.calm=true→∀(i:Nat) (pins:List (Addr × Obj)) (s:Shared) (σ:St) (H:Hp) (E:Value→Shared→Prop),Inv X pins σ H s→(∀b∈fp,lG X pins H b)→tn i s.heap→J.go i H →
  wpAny (model P w) X.A (pyNext (.ref it)) (λr s1=>∃u,r=some u ∧
   wpAny (model P w) X.A (letOwnedTupleGo tg (.ref it) u) (λ_ s2=>∃x H',Inv X pins σ H' s2∧RelV x u∧J.yld i H x H'∧tn (i + 1) s2.heap∧∀b∈fp,H' b=none) E s1) E s
 done:∀(X:Cx),X.prog=P→X.w=w→X.K=K→X.calm=true→∀(i:Nat) (pins:List (Addr × Obj)) (s:Shared) (σ:St) (H:Hp) (E:Value→Shared→Prop),Inv X pins σ H s→(∀b∈fp,lG X pins H b)→tn i s.heap→J.stop i H →
  wpAny (model P w) X.A (pyNext (.ref it)) (λr s1=>r=none∧Inv X pins σ H s1) E s
 self:∀(A:Around) (i:Nat) (s:Shared) (Q:Value→Shared→Prop) (E:Value→Shared→Prop),tn i s.heap→Q (.ref it) s→wpAny (model P w) A (pyIter (.ref it)) Q E s
abbrev TI:=St→Hp→(It→Hp→Prop)→Prop
def Rh (X:Cx) (pins:List (Addr × Obj)) (σ:St) (tg:Expr) (R:It→Hp→Prop) (itv:Value) (s2:Shared):Prop :=
 ∃(it:Addr) (fp:List Addr) (tn:Nat→Heap→Prop) (J:It) (H':Hp),itv=.ref it∧Inv X pins σ H' s2∧Turn X.prog X.w X.K tg J fp it tn∧tn 0 s2.heap∧(∀b∈fp,lG X pins H' b)∧R J H'
def PI (X:Cx) (tg iter:Expr) (wi:TI):Prop :=
 ∀(pins:List (Addr × Obj)) (s:Shared) (σ:St) (H:Hp) (R:It→Hp→Prop),Inv X pins σ H s→wi σ H R →
  wpAny (model X.prog X.w) X.A (eval iter X.env) (λv s1=>wpAny (model X.prog X.w) X.A (pyIter v) (Rh X pins σ tg R) X.xe s1) X.xe s
theorem Dt {M:Model} {A:Around} {E:Value→Shared→Prop} {s:Shared} {tg:Expr} {it:Addr} {u:Value} {o:Obj} {n:String} {vs:Array Value} {Q:Unit→Shared→Prop} (ho:s.heap.get? it=some o) (hc:o.cls=.type n) (hd:o.data=.fields vs)
  (hn:["enumerate","zip","dict_itemiterator","dict_reverseitemiterator","odict_iterator","itertools.zip_longest","itertools.pairwise"].contains n=false) (hQ:Q () s):wpAny M A (letOwnedTupleGo tg (.ref it) u) Q E s:=by
 unfold letOwnedTupleGo
 cases tg <;> first
  | exact wpAny_pure hQ
  | (cases u <;> first
    | exact wpAny_pure hQ
    | (refine wpAny_bind (wpAny_load ho ?_)
       rw [hc,hd]
       show wpAny M A (if (["enumerate","zip","dict_itemiterator","dict_reverseitemiterator","odict_iterator","itertools.zip_longest","itertools.pairwise"].contains n && vs[0]? == some (rawInt _))=true then _ else _) Q E s
       rw [if_neg (by intro h;rw [hn,Bool.false_and] at h;cases h)]
       exact wpAny_pure hQ))
def F2 (K:PySem.W.Frag) (a:Addr):It :=
 ⟨λi H=>∃xs x,dC K H a xs∧xs[i]?=some x,λi H x H'=>H'=H∧∀xs,dC K H a xs→xs[i]?=some x,λi H=>∃xs,dC K H a xs∧xs.length≤i⟩
def RP (K:PySem.W.Frag) (a:Addr):It :=
 ⟨λi H=>∃xs x,gJ K H a xs∧xs[i]?=some x,λi H x H'=>H'=H∧∀xs,gJ K H a xs→xs[i]?=some x,λi H=>∃xs,gJ K H a xs∧xs.length≤i⟩
def CI (lo:Int) (n:Nat):It:=⟨λi _=>i < n,λi H x H'=>H'=H∧x=.int (lo + i),λi _=>n≤i⟩
theorem Cp {P:Program} {w:World} {K:PySem.W.Frag} {tg:Expr} (a it:Addr):Turn P w K tg (F2 K a) [it] it (λi h=>h.IsListIter it a i) where
 mem:=by simp
 obj:=λi h st b hb=>by
  have e:b=it:=by simpa using hb
  subst e
  obtain ⟨o,e,c,d⟩:=st
  exact ⟨o,e,λv z=>by rw [d] at z;cases z⟩
 keep:=λi h h' st k=>st.at λo e=>k it (by simp) o e
 item:=by
  intro X hP hw hK hc i pins s σ H E I hf st hg
  subst hP hw hK
  obtain ⟨xs,x,hq,hx⟩:=hg
  obtain ⟨its,rv,p,hz⟩:=I.list hq
  obtain ⟨u,hu,ru⟩:=rv.get hx
  obtain ⟨f0,f1,f2,f3,f4,f5⟩:=hf it (by simp)
  refine wpAny_pyNext_list_item st p.isList (x:=u) (by simpa using hu) λh' st' sb=>?_
  have I1:Inv X pins σ H { s with heap:=h' }:=I.turned (t':=s.toks) (λb o hb e=>(sb.2 b hb).trans e) f0 f1 f3 f4 f5
  obtain ⟨o,e,c,d⟩:=id st'
  exact ⟨u,rfl,Dt (s:={ s with heap:=h' }) e c d (by decide) ⟨x,H,I1,ru,⟨rfl,λys hy=>by rw [I.qv hy hq];exact hx⟩,st',λb hb=>(hf b hb).1⟩⟩
 done:=by
  intro X hP hw hK hc i pins s σ H E I hf st hg
  subst hP hw hK
  obtain ⟨xs,hq,hx⟩:=hg
  obtain ⟨its,rv,p,hz⟩:=I.list hq
  obtain ⟨f0,f1,f2,f3,f4,f5⟩:=hf it (by simp)
  have hl:=rv.length
  exact wpAny_pyNext_list_end (I.ok.hd hc) st p.isList (by simp;omega) λh' eb=>⟨rfl,I.turned (t':=s.toks) (λb o hb e=>eb b o hb e) f0 f1 f3 f4 f5⟩
 self:=λ_ _ _ _ _ st h=>wpAny_pyIter_listiter st h
theorem zk {P:Program} {w:World} {K:PySem.W.Frag} {tg:Expr} (it:Addr) (lo:Int) (n:Nat):Turn P w K tg (CI lo n) [it] it (λi h=>IsRangeIter h it (lo + (i:Nat) * 1) ((n:Int) - (i:Nat)) 1) where
 mem:=by simp
 obj:=λi h st b hb=>by
  have e:b=it:=by simpa using hb
  subst e
  exact ⟨_,st,λv z=>by
   have z':Data.fields _=Data.cell v:=z
   cases z'⟩
 keep:=λi h h' st k=>k it (by simp) _ st
 item:=by
  intro X hP hw hK hc i pins s σ H E I hf st hg
  subst hP hw hK
  obtain ⟨f0,f1,f2,f3,f4,f5⟩:=hf it (by simp)
  have W:=Walks.range (prog:=X.prog) (w:=X.w) (I.ok.hd hc) it lo 1 n
  refine W.item i s _ _ hg st λv h' tk hv st' kk=>?_
  obtain ⟨t,rfl⟩:=hv
  have I1:Inv X pins σ H { s with heap:=h',toks:=tk }:=I.turned (λb o hb e=>kk b o (by simpa using hb) e) f0 f1 f3 f4 f5
  refine ⟨_,rfl,Dt (s:={ s with heap:=h',toks:=tk }) (n:="range_iterator") st' rfl rfl (by decide) ⟨.int (lo + i),H,I1,⟨t,?_⟩,⟨rfl,rfl⟩,st',λb hb=>(hf b hb).1⟩⟩
  rw [Int.mul_one]
 done:=by
  intro X hP hw hK hc i pins s σ H E I hf st hg
  subst hP hw hK
  obtain ⟨f0,f1,f2,f3,f4,f5⟩:=hf it (by simp)
  exact wpAny_pyNext_range_end (I.ok.hd hc) st (by have:n≤i:=hg;omega) λh' eb=>⟨rfl,I.turned (t':=s.toks) (λb o hb e=>eb b o hb e) f0 f1 f3 f4 f5⟩
 self:=λ_ _ _ _ _ st h=>wpAny_pyIter_rangeiter st h
end L2
namespace L2
open PySem PySem.Spec PyProof.Rows
section
variable {X:Cx} {tg:Expr}
def zP (K:PySem.W.Frag) (tl:TE):TI:=λσ H R=>tl σ H λx H1=>∃a,x=.ref a∧(∃xs,dC K H1 a xs)∧R (F2 K a) H1
def PD (K:PySem.W.Frag) (tl:TE):TI:=λσ H R=>tl σ H λx H1=>∃a,x=.ref a∧(∃xs,gJ K H1 a xs)∧R (RP K a) H1
theorem mP {l:Expr} {tl:TE} (hl:PE X l tl):PI X tg l (zP X.K tl):=by
 intro pins s σ H R I h
 refine cA (hl pins s σ H _ I h) λv s1 ⟨x,H1,I1,r1,q1⟩=>?_
 obtain ⟨a,e,⟨xs,hq⟩,q⟩:=q1
 subst e
 cases r1
 obtain ⟨its,rv,p,hz⟩:=I1.list hq
 refine wpAny_pyIter_list p.isList ?_
 refine ⟨s1.heap.objs.size,[s1.heap.objs.size],_,_,H1,rfl,I1.kept (t':=s1.toks) λb o e=>Heap.get?_push_of_some _ e,Cp a _,⟨_,Heap.get?_push_size _ rfl,rfl,rfl⟩,λb hb=>?_,q⟩
 have e:b=s1.heap.objs.size:=by simpa using hb
 subst e
 exact I1.Gs (So _) (I1.hok.fresh (So _))
theorem EM {pins:List (Addr × Obj)} {σ:St} {H:Hp} {s:Shared} {R:It→Hp→Prop} {E:Value→Shared→Prop} {lo hi:Int} {t u v:Tok} {tk:Nat} (I:Inv X pins σ H s) (h1:-(2 ^ 62)≤lo) (h2:lo < 2 ^ 62) (h3:-(2 ^ 62)≤hi) (h4:hi < 2 ^ 62)
  (q:R (CI lo (hi - lo).toNat) H):wpAny (model X.prog X.w) X.A (pyIter (.ref s.heap.objs.size)) (Rh X pins σ tg R) E { s with heap:=s.heap.push { cls:=.type "range",data:=.fields #[.int lo t,.int hi u,.int 1 v] },toks:=tk }:=by
 refine wpAny_pyIter_range (IsRange.new ..) (small_one h1 h2 h3 h4) ?_
 have I1:Inv X pins σ H { s with heap:=s.heap.push { cls:=.type "range",data:=.fields #[.int lo t,.int hi u,.int 1 v] },toks:=tk }:=I.kept λb o e=>Heap.get?_push_of_some _ e
 refine ⟨(s.heap.push { cls:=.type "range",data:=.fields #[.int lo t,.int hi u,.int 1 v] }).objs.size,[(s.heap.push { cls:=.type "range",data:=.fields #[.int lo t,.int hi u,.int 1 v] }).objs.size],_,_,H,rfl,
  I1.kept (t':=tk) λb o e=>Heap.get?_push_of_some _ e,zk _ lo (hi - lo).toNat,?_,λb hb=>?_,q⟩
 ·have e1:lo + ((0:Nat):Int) * 1=lo:=by simp
  have e2:(((hi - lo).toNat:Nat):Int) - ((0:Nat):Int)=Builtin.Range.rangeSize lo hi 1:=by rw [rangeSize_one];split <;> omega
  show IsRangeIter _ _ (lo + ((0:Nat):Int) * 1) ((((hi - lo).toNat:Nat):Int) - ((0:Nat):Int)) 1
  rw [e1,e2]
  exact Heap.get?_push_size _ rfl
 ·have e:b=(s.heap.push { cls:=.type "range",data:=.fields #[.int lo t,.int hi u,.int 1 v] }).objs.size:=by simpa using hb
  subst e
  exact I1.Gs (So _) (I1.hok.fresh (So _))
def zQ (ta:TA):TI:=λσ H R=>ta σ H λvs H1=>∃j:Int,vs=[.int j]∧-(2 ^ 62)≤j∧j < 2 ^ 62∧R (CI 0 j.toNat) H1
def IB (ta:TA):TI:=λσ H R=>ta σ H λvs H1=>∃i j:Int,vs=[.int i,.int j]∧(-(2 ^ 62)≤i∧i < 2 ^ 62∧-(2 ^ 62)≤j∧j < 2 ^ 62)∧R (CI i (j - i).toNat) H1
theorem f6 {a:Expr} {ta:TA} {p pos:Pos} (hg:Gl X "range") (hm:X.mg "range"=none) (ha:PA X [a] ta) (hs:starEach [a] X.env=[(false,eval a X.env)]:=by rfl):PI X tg (.Call (.Name "range" p) [a] [] pos) (zQ ta):=by
 intro pins s σ H R I h
 refine Call_ (nY I hg hm boot_range (PyProof.Rows.callWith_type1 (cA (ha pos pins s σ H _ I h) λus s1 ⟨vs,H1,I1,r1,q1⟩=>?_) hs rfl))
 obtain ⟨j,e,q1,q2,q⟩:=q1
 subst e
 cases r1 with
 | cons r rr =>
  cases rr
  obtain ⟨t,rfl⟩:=r
  exact call_range_1 (EM I1 (by omega) (by omega) q1 q2 (by simpa using q))
def LW (wi:TI) (g:TG) (tb:TS):TS:=λD σ H=>wi σ H λJ H1=>∃W:Nat→Nat→St→Hp→Prop,(∃m,W 0 m σ H1)∧∀i m σ H,W i m σ H →
 (J.stop i H∧D.nx σ H)∨(J.go i H∧∃N:St→Hp→Prop,(∀σ' H',N σ' H'→∃m',m' < m∧W (i + 1) m' σ' H')∧∀x H',J.yld i H x H'→g x σ H' λσ2 H2=>tb { D with nx:=N,ct:=N,bk:=D.nx } σ2 H2)
def vh (fp:List Addr) (h:Heap):List (Addr × Obj):=fp.filterMap λb=>(h.get? b).map λo=>(b,o)
theorem cO {fp:List Addr} {h:Heap} {b:Addr} {o:Obj} (hb:b∈fp) (e:h.get? b=some o):(b,o)∈vh fp h:=TX.mpr ⟨b,hb,by rw [e];rfl⟩
theorem BR {fp:List Addr} {h:Heap} {p:Addr × Obj} (hp:p∈vh fp h):p.1∈fp∧h.get? p.1=some p.2:=by
 obtain ⟨b,hb,e⟩:=TX.mp hp
 cases q:h.get? b with
 | none=>rw [q] at e;cases e
 | some o =>
  rw [q] at e
  have e':(b,o)=p:=Option.some.inj e
  subst e'
  exact ⟨hb,q⟩
theorem Inv.pinned {pins:List (Addr × Obj)} {σ:St} {H:Hp} {s:Shared} {fp:List Addr} (I:Inv X pins σ H s) (hf:∀b∈fp,lG X pins H b) (ho:∀b∈fp,∃o,s.heap.get? b=some o∧∀v,o.data≠.cell v):Inv X (pins ++ vh fp s.heap) σ H s :=
 I.Ae λp hp=>(Sq.mp hp).elim (λz=>I.pin p (Sw _ z)) λz=>by
  obtain ⟨hb,e⟩:=BR z
  obtain ⟨f0,f1,f2,_⟩:=hf p.1 hb
  obtain ⟨o,e',d⟩:=ho p.1 hb
  rw [e] at e';cases e'
  exact ⟨e,f0,f1,f2,d⟩
theorem Inv.gG {pins pl:List (Addr × Obj)} {σ:St} {H:Hp} {s:Shared} (I:Inv X (pins ++ pl) σ H s):Inv X pins σ H s:=I.Ae λp hp=>I.pin p (Sw _ (Tj _ hp))
theorem oi {iter:Expr} {body:List Stmt} {wi:TI} {g:TG} {tb:TS} {pos:Pos} (hp:PassesOwn (model X.prog X.w) X.A X.env X.xe) (hc:X.calm=true) (hi:PI X tg iter wi) (hg:PG X tg g) (hb:rJ X body tb)
  (hs:∀x,foldedSetIterable iter X.env x=pure x:=by intro _;rfl):PS X (.For tg iter body [] pos) (LW wi g tb):=by
 intro pins s σ H D I h
 refine wpAny_For (cA (hi pins s σ H _ I h) λv s1 h1=>cA h1 λitv s2 h2=>?_) hs
 obtain ⟨it,fp,tn,J,H2,e,I2,T,st2,f2,W,⟨m0,w0⟩,turn⟩:=h2
 subst e
 have stat:∀{H':Hp},(∀b∈fp,H' b=none)→∀b∈fp,lG X pins H' b:=λhn b hb=>⟨hn b hb,(f2 b hb).2⟩
 refine codeAny_forLoop_any (λn s'=>∃i σ' H',Inv X pins σ' H' s'∧tn i s'.heap∧(∀b∈fp,H' b=none)∧W i n σ' H') ?_ m0 ⟨0,σ,H2,I2,st2,λb hb=>(f2 b hb).1,w0⟩
 rintro n s3 ⟨i,σ3,H3,I3,st3,fr3,w3⟩
 rcases turn i n σ3 H3 w3 with ⟨stop,qn⟩ | ⟨go,N,hN,step⟩
 ·refine wpAny_passesOwn hp (cA (T.done X rfl rfl rfl hc i pins s3 σ3 H3 X.xe I3 (stat fr3) st3 stop) λr s4 ⟨hr,I4⟩=>?_)
  subst hr
  exact wpAny_execs_nil ⟨σ3,H3,I4,qn⟩
 ·refine wpAny_passesOwn hp (cA (T.item X rfl rfl rfl hc i pins s3 σ3 H3 X.xe I3 (stat fr3) st3 go) λr s4 ⟨u,hr,h4⟩=>?_)
  subst hr
  refine wpAny_passesOwn hp (cA h4 λ_ s5 ⟨x,H5,I5,r5,y5,st5,fr5⟩=>?_)
  have I5':=I5.pinned (stat fr5) (T.obj _ _ st5)
  refine wpAny_passesOwn hp (cA (hg _ s5 σ3 H5 x u _ I5' r5 (step x H5 y5)) λ_ s6 ⟨σ6,H6,I6,q6⟩=>?_)
  refine wpAny_passesOwn hp (cA (hb _ s6 σ6 H6 _ I6 q6) λf s7 q7=>?_)
  have again:∀{σ7:St} {H7:Hp},Inv X (pins ++ vh fp s5.heap) σ7 H7 s7→N σ7 H7→∃m,m < n∧∃i σ' H',Inv X pins σ' H' s7∧tn i s7.heap∧(∀b∈fp,H' b=none)∧W i m σ' H':=λ{σ7 H7} I7 n7=>by
   obtain ⟨m',hm,w7⟩:=hN σ7 H7 n7
   refine ⟨m',hm,i + 1,σ7,H7,I7.gG,T.keep _ _ _ st5 λb hb o e=>(I7.pin (b,o) (Sw _ (Sw _ (cO hb e)))).1,λb hb=>?_,w7⟩
   obtain ⟨o,e,d⟩:=T.obj _ _ st5 b hb
   exact (I7.pin (b,o) (Sw _ (Sw _ (cO hb e)))).2.1
  cases f with
  | next=>obtain ⟨σ7,H7,I7,n7⟩:=q7;exact again I7 n7
  | cont=>obtain ⟨σ7,H7,I7,n7⟩:=q7;exact again I7 n7
  | brk=>obtain ⟨σ7,H7,I7,q7⟩:=q7;exact ⟨σ7,H7,I7.gG,q7⟩
  | ret v=>obtain ⟨x7,σ7,H7,I7,r7,q7⟩:=q7;exact ⟨x7,σ7,H7,I7.gG,r7,q7⟩
end
theorem Dk {K:PySem.W.Frag} {a:Addr} {xs:List V} {g:TG} {tb:TS} {D:Ends} {σ:St} {H:Hp} (Pv:Nat→St→Hp→Prop) (h0:Pv 0 σ H) (hl:∀i σ H,i≤xs.length→Pv i σ H→dC K H a xs)
  (hs:∀i x σ H,xs[i]?=some x→Pv i σ H→g x σ H λσ2 H2=>tb { D with nx:=Pv (i + 1),ct:=Pv (i + 1),bk:=D.nx } σ2 H2) (hd:∀σ H,Pv xs.length σ H→D.nx σ H) :
  ∃W:Nat→Nat→St→Hp→Prop,(∃m,W 0 m σ H)∧∀i m σ H,W i m σ H →
   ((F2 K a).stop i H∧D.nx σ H)∨((F2 K a).go i H∧∃N:St→Hp→Prop,(∀σ' H',N σ' H'→∃m',m' < m∧W (i + 1) m' σ' H')∧∀x H',(F2 K a).yld i H x H'→g x σ H' λσ2 H2=>tb { D with nx:=N,ct:=N,bk:=D.nx } σ2 H2):=by
 refine ⟨λi m σ H=>m=xs.length - i∧i≤xs.length∧Pv i σ H,⟨xs.length,by simp,SX _,h0⟩,?_⟩
 rintro i m σ H ⟨rfl,hi,p⟩
 have q:=hl i σ H hi p
 by_cases hlt:i < xs.length
 ·refine .inr ⟨⟨xs,xs[i],q,by simp [hlt]⟩,Pv (i + 1),λσ' H' p'=>⟨xs.length - (i + 1),by omega,rfl,hlt,p'⟩,λx H' y=>?_⟩
  obtain ⟨e,y⟩:=y
  subst e
  exact hs i x σ _ (y xs q) p
 ·have e:i=xs.length:=by omega
  subst e
  exact .inl ⟨⟨xs,q,So _⟩,hd σ H p⟩
theorem tO {lo:Int} {n:Nat} {g:TG} {tb:TS} {D:Ends} {σ:St} {H:Hp} (Pv:Nat→St→Hp→Prop) (h0:Pv 0 σ H)
  (hs:∀i σ H,i < n→Pv i σ H→g (.int (lo + i)) σ H λσ2 H2=>tb { D with nx:=Pv (i + 1),ct:=Pv (i + 1),bk:=D.nx } σ2 H2) (hd:∀σ H,Pv n σ H→D.nx σ H) :
  ∃W:Nat→Nat→St→Hp→Prop,(∃m,W 0 m σ H)∧∀i m σ H,W i m σ H →
   ((CI lo n).stop i H∧D.nx σ H)∨((CI lo n).go i H∧∃N:St→Hp→Prop,(∀σ' H',N σ' H'→∃m',m' < m∧W (i + 1) m' σ' H')∧∀x H',(CI lo n).yld i H x H'→g x σ H' λσ2 H2=>tb { D with nx:=N,ct:=N,bk:=D.nx } σ2 H2):=by
 refine ⟨λi m σ H=>m=n - i∧i≤n∧Pv i σ H,⟨n,by simp,SX _,h0⟩,?_⟩
 rintro i m σ H ⟨rfl,hi,p⟩
 by_cases hlt:i < n
 ·refine .inr ⟨hlt,Pv (i + 1),λσ' H' p'=>⟨n - (i + 1),by omega,rfl,hlt,p'⟩,λx H' y=>?_⟩
  obtain ⟨e,y⟩:=y
  subst e y
  exact hs i σ _ hlt p
 ·have e:i=n:=by omega
  subst e
  exact .inl ⟨So _,hd σ H p⟩
theorem xT {c:TT} {tb:TS} {D:Ends} {σ:St} {H:Hp} (Pv:St→Hp→Prop) (μ:St→Hp→Nat) (h0:Pv σ H)
  (hs:∀σ H,Pv σ H→c σ H λb H1=>if b=true then tb { D with nx:=λσ' H'=>Pv σ' H'∧μ σ' H' < μ σ H,ct:=λσ' H'=>Pv σ' H'∧μ σ' H' < μ σ H,bk:=D.nx } σ H1 else D.nx σ H1)
  (mono:∀σ H Q Q',(∀b H1,Q b H1→Q' b H1)→c σ H Q→c σ H Q'):v7 c tb D σ H:=by
 refine ⟨λm σ H=>m=μ σ H∧Pv σ H,⟨_,rfl,h0⟩,?_⟩
 rintro m σ H ⟨rfl,p⟩
 refine mono σ H _ _ (λb H1 q=>?_) (hs σ H p)
 cases b with
 | true=>exact ⟨_,λσ' H' ⟨p',l⟩=>⟨_,l,rfl,p'⟩,q⟩
 | false=>exact q
end L2
namespace L2
open PySem PySem.Spec PyProof.Rows
abbrev R2:=V→V→Hp→VK→Prop
def fh (X:Cx) (f:Value→Value→Sem Value) (r:R2):Prop :=
 ∀(pins:List (Addr × Obj)) (s:Shared) (σ:St) (H:Hp) (x y:V) (v u:Value) (Q:VK),Inv X pins σ H s→RelV x v→RelV y u→r x y H Q →
  wpAny (model X.prog X.w) X.A (f v u) (EP X pins σ Q) X.xe s
def wb (X:Cx) (f:Value→Sem Value) (r:V→Hp→VK→Prop):Prop :=
 ∀(pins:List (Addr × Obj)) (s:Shared) (σ:St) (H:Hp) (x:V) (v:Value) (Q:VK),Inv X pins σ H s→RelV x v→r x H Q →
  wpAny (model X.prog X.w) X.A (f v) (EP X pins σ Q) X.xe s
def b7 (X:Cx) (f:Value) (r:List V→Hp→VK→Prop):Prop :=
 ∀(pins:List (Addr × Obj)) (s:Shared) (σ:St) (H:Hp) (xs:List V) (us:List Value) (Q:VK),Inv X pins σ H s→Vals xs us→r xs H Q →
  wpAny (model X.prog X.w) X.A (call f us) (EP X pins σ Q) X.xe s
def Po (X:Cx) (r:V→Hp→(Bool→Hp→Prop)→Prop):Prop :=
 ∀(pins:List (Addr × Obj)) (s:Shared) (σ:St) (H:Hp) (x:V) (v:Value) (Q:Bool→Hp→Prop),Inv X pins σ H s→RelV x v→r x H Q →
  wpAny (model X.prog X.w) X.A (truthy v) (TP X pins σ Q) X.xe s
def Fu (r:R2) (ta tb:TE):TE:=λσ H Q=>ta σ H λx H1=>tb σ H1 λy H2=>r x y H2 Q
def Pc (r:V→Hp→VK→Prop) (ta:TE):TE:=λσ H Q=>ta σ H λx H1=>r x H1 Q
def rI (C:Int→Int→Prop) (g:Int→Int→V):R2:=λx y H Q=>∃i j,x=.int i∧y=.int j∧C i j∧Q (g i j) H
def FJ (g:Int→Int→V):R2:=λx y H Q=>∃i j,x=.int i∧y=.int j∧Q (g i j) H
def rU (g:Int→V):V→Hp→VK→Prop:=λx H Q=>∃i,x=.int i∧Q (g i) H
section
variable {X:Cx} {a b c:Expr} {ta tb tc:TE} {pos:Pos}
theorem Kh (ha:PE X a ta) (hb:PE X b tb) {pins:List (Addr × Obj)} {s:Shared} {σ:St} {H:Hp} {R:V→V→Hp→Prop} (I:Inv X pins σ H s)
  (h:ta σ H λx H1=>tb σ H1 λy H2=>R x y H2) {Q:Value→Shared→Prop} {f:Value→Value→Sem Value}
  (hf:∀v u s2 x y H2,Inv X pins σ H2 s2→RelV x v→RelV y u→R x y H2→wpAny (model X.prog X.w) X.A (f v u) Q X.xe s2) :
  wpAny (model X.prog X.w) X.A (eval a X.env) (λv s₁=>wpAny (model X.prog X.w) X.A (eval b X.env) (λu s₂=>wpAny (model X.prog X.w) X.A (f v u) Q X.xe s₂) X.xe s₁) X.xe s:=by
 refine cA (ha pins s σ H _ I h) λv s1 ⟨x,H1,I1,r1,q1⟩=>?_
 refine cA (hb pins s1 σ H1 _ I1 q1) λu s2 ⟨y,H2,I2,r2,q2⟩=>?_
 exact hf v u s2 x y H2 I2 r1 r2 q2
theorem bA {op:Operator} {r:R2} (ho:fh X (binaryOp op) r) (ha:PE X a ta) (hb:PE X b tb):PE X (.BinOp a op b pos) (Fu r ta tb):=by
 intro pins s σ H Q I h
 exact wpAny_BinOp (Kh ha hb I h λv u s2 x y H2 I2 rx ry q=>ho pins s2 σ H2 x y v u Q I2 rx ry q)
theorem Ad {op:UnaryOp} {r:V→Hp→VK→Prop} (ho:wb X (unaryOp op) r) (ha:PE X a ta):PE X (.UnaryOp op a pos) (Pc r ta):=by
 intro pins s σ H Q I h
 exact UnaryOp_ (cA (ha pins s σ H _ I h) λv s1 ⟨x,H1,I1,r1,q1⟩=>ho pins s1 σ H1 x v Q I1 r1 q1)
theorem O6 {f:Value→Value→Sem Value} {C:Int→Int→Prop} {g:Int→Int→Int}
  (rule:∀(i j:Int) (t u:Tok) (s:Shared) (Q:Value→Shared→Prop) (E:Value→Shared→Prop),C i j→Q (.int (g i j) s.toks) { s with toks:=s.toks + 1 }→wpAny (model X.prog X.w) X.A (f (.int i t) (.int j u)) Q E s) :
  fh X f (rI C λi j=>.int (g i j)):=by
 intro pins s σ H x y v u Q I rx ry h
 obtain ⟨i,j,rfl,rfl,hc,q⟩:=h
 obtain ⟨t,rfl⟩:=rx
 obtain ⟨t',rfl⟩:=ry
 exact rule i j t t' s _ _ hc ⟨.int (g i j),H,I.tok _,⟨_,rfl⟩,q⟩
theorem NP {f:Value→Value→Sem Value} {g:Int→Int→Int}
  (rule:∀(i j:Int) (t u:Tok) (s:Shared) (Q:Value→Shared→Prop) (E:Value→Shared→Prop),Q (.int (g i j) s.toks) { s with toks:=s.toks + 1 }→wpAny (model X.prog X.w) X.A (f (.int i t) (.int j u)) Q E s) :
  fh X f (FJ λi j=>.int (g i j)):=by
 intro pins s σ H x y v u Q I rx ry h
 obtain ⟨i,j,rfl,rfl,q⟩:=h
 obtain ⟨t,rfl⟩:=rx
 obtain ⟨t',rfl⟩:=ry
 exact rule i j t t' s _ _ ⟨.int (g i j),H,I.tok _,⟨_,rfl⟩,q⟩
theorem G6 {f:Value→Value→Sem Value} {g:Int→Int→Bool}
  (rule:∀(i j:Int) (t u:Tok) (s:Shared) (Q:Value→Shared→Prop) (E:Value→Shared→Prop),Q (.bool (g i j)) s→wpAny (model X.prog X.w) X.A (f (.int i t) (.int j u)) Q E s) :
  fh X f (FJ λi j=>.bl (g i j)):=by
 intro pins s σ H x y v u Q I rx ry h
 obtain ⟨i,j,rfl,rfl,q⟩:=h
 obtain ⟨t,rfl⟩:=rx
 obtain ⟨t',rfl⟩:=ry
 exact rule i j t t' s _ _ ⟨.bl (g i j),H,I,rfl,q⟩
def Pf (i j:Int):Prop:=0≤j∧j≤1000000∧i.natAbs < 2 ^ 64
theorem iV:fh X (binaryOp .Add) (FJ λi j=>.int (i + j)):=NP λ_ _ _ _ _ _ _ q=>add_int q
theorem yN:fh X (binaryOp .Sub) (FJ λi j=>.int (i - j)):=NP λ_ _ _ _ _ _ _ q=>sub_int q
theorem gq:fh X (binaryOp .Mod) (rI (λ_ j=>0 < j) λi j=>.int (i % j)):=O6 λi j _ _ _ _ _ hc q=>by
 have h1:(0:Int) < j:=hc
 exact mod_int' (by omega) (by rw [Int.fmod_eq_emod_of_nonneg i (by omega)];exact q)
theorem Ec:fh X (binaryOp .Pow) (rI Pf λi j=>.int (i ^ j.toNat)):=O6 λ_ _ _ _ _ _ _ hc q=>pow_int_small hc.1 hc.2.1 hc.2.2 q
theorem Se {f:Value→Sem Value} {g:Int→Int}
  (rule:∀(i:Int) (t:Tok) (s:Shared) (Q:Value→Shared→Prop) (E:Value→Shared→Prop),Q (.int (g i) s.toks) { s with toks:=s.toks + 1 }→wpAny (model X.prog X.w) X.A (f (.int i t)) Q E s) :
  wb X f (rU λi=>.int (g i)):=by
 intro pins s σ H x v Q I rx h
 obtain ⟨i,rfl,q⟩:=h
 obtain ⟨t,rfl⟩:=rx
 exact rule i t s _ _ ⟨.int (g i),H,I.tok _,⟨_,rfl⟩,q⟩
theorem Fx:wb X (unaryOp .USub) (rU λi=>.int (-i)):=Se λ_ _ _ _ _ q=>neg_int q
end
def E4:V→V→Bool
 | .non,.non=>true | .non,.int _=>true | .int _,.non=>true | .non,.bl _=>true | .bl _,.non=>true | .non,.str _=>true | .str _,.non=>true
 | .int _,.int _=>true | .bl _,.bl _=>true | .str _,.str _=>true | .byt _,.byt _=>true
 | .int _,.str _=>true | .str _,.int _=>true | .bl _,.str _=>true | .str _,.bl _=>true
 | _,_=>false
def RF:R2:=λx y H Q=>E4 x y=true∧Q (.bl (decide (x=y))) H
def RL:R2:=λx y H Q=>E4 x y=true∧Q (.bl (!decide (x=y))) H
theorem zH {i j:Int}:decide (V.int i=V.int j)=(i == j):=by
 rw [Tz]
 simp
theorem Dd {i j:Bool}:decide (V.bl i=V.bl j)=(i == j):=by
 rw [Tz]
 simp
theorem zI {i j:Str}:decide (V.str i=V.str j)=(i == j):=by
 rw [Tz]
 simp
theorem zF {i j:Array UInt8}:decide (V.byt i=V.byt j)=(i.toList == j.toList):=by
 rw [Tz]
 cases i
 cases j
 simp
section
variable {X:Cx} {a b c:Expr} {ta tb tc:TE} {pos:Pos}
theorem bE {pins:List (Addr × Obj)} {σ:St} {H:Hp} {s:Shared} {Q:VK} {k k':Bool} (I:Inv X pins σ H s) (q:Q (.bl k) H) (e:k=k'):EP X pins σ Q (.bool k') s:=by
 subst e
 exact ⟨.bl k,H,I,rfl,q⟩
theorem Eb:fh X (compareOp .Eq) RF:=by
 intro pins s σ H x y v u Q I rx ry h
 obtain ⟨hs,q⟩:=h
 cases x with
 | non =>
  cases rx
  cases y with
  | non=>cases ry;exact PySem.EqNone.eq_none_none (bE I q (by simp))
  | bl j=>cases ry;exact PySem.EqNone.eq_none_bool (bE I q (by simp))
  | int j=>obtain ⟨t',rfl⟩:=ry;exact PySem.EqNone.eq_none_int (bE I q (by simp))
  | str j=>obtain ⟨t',rfl⟩:=ry;exact PySem.EqNone.eq_none_str (bE I q (by simp))
  | _=>exact absurd (show false=true from hs) SD
 | bl i =>
  cases rx
  cases y with
  | non=>cases ry;exact PySem.EqNone.eq_bool_none (bE I q (by simp))
  | bl j=>cases ry;exact eq_bool (bE I q Dd)
  | str j=>obtain ⟨t',rfl⟩:=ry;exact PySem.EqMixed.eq_bool_str (bE I q (by simp))
  | _=>exact absurd (show false=true from hs) SD
 | int i =>
  obtain ⟨t,rfl⟩:=rx
  cases y with
  | non=>cases ry;exact PySem.EqNone.eq_int_none (bE I q (by simp))
  | int j=>obtain ⟨t',rfl⟩:=ry;exact eq_int (bE I q zH)
  | str j=>obtain ⟨t',rfl⟩:=ry;exact PySem.EqMixed.eq_int_str (bE I q (by simp))
  | _=>exact absurd (show false=true from hs) SD
 | str i =>
  obtain ⟨t,rfl⟩:=rx
  cases y with
  | non=>cases ry;exact PySem.EqNone.eq_str_none (bE I q (by simp))
  | bl j=>cases ry;exact PySem.EqMixed.eq_str_bool (bE I q (by simp))
  | int j=>obtain ⟨t',rfl⟩:=ry;exact PySem.EqMixed.eq_str_int (bE I q (by simp))
  | str j=>obtain ⟨t',rfl⟩:=ry;exact eq_str (bE I q zI)
  | _=>exact absurd (show false=true from hs) SD
 | byt i =>
  obtain ⟨t,rfl⟩:=rx
  cases y with
  | byt j=>obtain ⟨t',rfl⟩:=ry;exact PySem.W.eq_bytes (bE I q zF)
  | _=>exact absurd (show false=true from hs) SD
 | _=>cases y <;> exact absurd (show false=true from hs) SD
theorem Jc:fh X (compareOp .NotEq) RL:=by
 intro pins s σ H x y v u Q I rx ry h
 obtain ⟨hs,q⟩:=h
 cases x with
 | non =>
  cases rx
  cases y with
  | non=>cases ry;exact PySem.EqNone.ne_none_none (bE I q (by simp))
  | bl j=>cases ry;exact PySem.EqNone.ne_none_bool (bE I q (by simp))
  | int j=>obtain ⟨t',rfl⟩:=ry;exact PySem.EqNone.ne_none_int (bE I q (by simp))
  | str j=>obtain ⟨t',rfl⟩:=ry;exact PySem.EqNone.ne_none_str (bE I q (by simp))
  | _=>exact absurd (show false=true from hs) SD
 | bl i =>
  cases rx
  cases y with
  | non=>cases ry;exact PySem.EqNone.ne_bool_none (bE I q (by simp))
  | bl j=>cases ry;exact ne_bool (bE I q (congrArg not Dd))
  | str j=>obtain ⟨t',rfl⟩:=ry;exact PySem.EqMixed.ne_bool_str (bE I q (by simp))
  | _=>exact absurd (show false=true from hs) SD
 | int i =>
  obtain ⟨t,rfl⟩:=rx
  cases y with
  | non=>cases ry;exact PySem.EqNone.ne_int_none (bE I q (by simp))
  | int j=>obtain ⟨t',rfl⟩:=ry;exact ne_int (bE I q (congrArg not zH))
  | str j=>obtain ⟨t',rfl⟩:=ry;exact PySem.EqMixed.ne_int_str (bE I q (by simp))
  | _=>exact absurd (show false=true from hs) SD
 | str i =>
  obtain ⟨t,rfl⟩:=rx
  cases y with
  | non=>cases ry;exact PySem.EqNone.ne_str_none (bE I q (by simp))
  | bl j=>cases ry;exact PySem.EqMixed.ne_str_bool (bE I q (by simp))
  | int j=>obtain ⟨t',rfl⟩:=ry;exact PySem.EqMixed.ne_str_int (bE I q (by simp))
  | str j=>obtain ⟨t',rfl⟩:=ry;exact ne_str (bE I q (congrArg not zI))
  | _=>exact absurd (show false=true from hs) SD
 | byt i =>
  obtain ⟨t,rfl⟩:=rx
  cases y with
  | byt j=>obtain ⟨t',rfl⟩:=ry;exact PySem.W.ne_bytes (bE I q (congrArg not zF))
  | _=>exact absurd (show false=true from hs) SD
 | _=>cases y <;> exact absurd (show false=true from hs) SD
theorem z_:fh X (compareOp .Lt) (FJ λi j=>.bl (decide (i < j))):=G6 λ_ _ _ _ _ _ _ q=>lt_int q
theorem Jb:fh X (compareOp .LtE) (FJ λi j=>.bl (decide (i≤j))):=G6 λ_ _ _ _ _ _ _ q=>le_int q
theorem I_:fh X (compareOp .Gt) (FJ λi j=>.bl (decide (j < i))):=G6 λ_ _ _ _ _ _ _ q=>gt_int q
theorem IZ:fh X (compareOp .GtE) (FJ λi j=>.bl (decide (j≤i))):=G6 λ_ _ _ _ _ _ _ q=>ge_int q
theorem B5:fh X (compareOp .Lt) (λx y H Q=>∃i j,x=.str i∧y=.str j∧Q (.bl (decide (i.cps.toList < j.cps.toList))) H):=by
 intro pins s σ H x y v u Q I rx ry h
 obtain ⟨i,j,rfl,rfl,q⟩:=h
 obtain ⟨t,rfl⟩:=rx
 obtain ⟨t',rfl⟩:=ry
 exact lt_str (bE I q rfl)
theorem Lc:fh X (compareOp .Is) (λx y H Q=>y=.non∧Q (.bl (decide (x=.non))) H):=by
 intro pins s σ H x y v u Q I rx ry h
 obtain ⟨rfl,q⟩:=h
 cases ry
 refine is_none_gen (bE I q ?_)
 cases x <;> first
  | (cases rx;rfl)
  | (obtain ⟨t,rfl⟩:=rx;rfl)
theorem G9:fh X (compareOp .IsNot) (λx y H Q=>y=.non∧Q (.bl (!decide (x=.non))) H):=by
 intro pins s σ H x y v u Q I rx ry h
 obtain ⟨rfl,q⟩:=h
 cases ry
 refine isnot_none_gen (bE I q ?_)
 cases x <;> first
  | (cases rx;rfl)
  | (obtain ⟨t,rfl⟩:=rx;rfl)
theorem fh.or {f:Value→Value→Sem Value} {r r':R2} (h:fh X f r) (h':fh X f r'):fh X f (λx y H Q=>r x y H Q∨r' x y H Q):=by
 intro pins s σ H x y v u Q I rx ry q
 rcases q with q | q
 ·exact h pins s σ H x y v u Q I rx ry q
 ·exact h' pins s σ H x y v u Q I rx ry q
theorem fo (b:Expr) {op:CmpOp} (h:op≠.In:=by decide) (h2:op≠.NotIn:=by decide):behindInMarks op b=false:=by
 have e1:(op == CmpOp.In)=false:=by cases op <;> first | rfl | exact absurd rfl h
 have e2:(op == CmpOp.NotIn)=false:=by cases op <;> first | rfl | exact absurd rfl h2
 cases b <;> simp [behindInMarks,e1,e2]
theorem pJ {op:CmpOp} {r:R2} (ho:fh X (compareOp op) r) (ha:PE X a ta) (hb:PE X b tb) (hm:behindInMarks op b=false):PE X (.Compare a [op] [b] pos) (Fu r ta tb):=by
 intro pins s σ H Q I h
 exact wpAny_Compare1 (Kh ha hb I h λv u s2 x y H2 I2 rx ry q=>ho pins s2 σ H2 x y v u Q I2 rx ry q) hm
def AU (t:TE):TT:=λσ H Q=>t σ H λx H'=>∃k,x=.bl k∧Q k H'
theorem dH {op:CmpOp} {r:R2} (ho:fh X (compareOp op) r) (ha:PE X a ta) (hb:PE X b tb) (hm:behindInMarks op b=false):PT X (.Compare a [op] [b] pos) (AU (Fu r ta tb)):=by
 intro pins s σ H Q I h
 refine wpAny_isTrue_Compare1 (cA (ha pins s σ H _ I h) λv s1 ⟨x,H1,I1,r1,q1⟩=>cA (hb pins s1 σ H1 _ I1 q1) λu s2 ⟨y,H2,I2,r2,q2⟩ =>
  cA (ho pins s2 σ H2 x y v u _ I2 r1 r2 q2) λc s3 ⟨z,H3,I3,r3,k,e,q3⟩=>?_) hm
 subst e
 cases r3
 exact wpAny_truthy_bool ⟨H3,I3,q3⟩
def Fq (r r':R2) (ta tb tc:TE):TE:=λσ H Q=>ta σ H λx H1=>tb σ H1 λy H2=>r x y H2 λz H3=>∃k,z=.bl k ∧
 (if k=true then tc σ H3 λw' H4=>r' y w' H4 Q else Q (.bl false) H3)
theorem Eo {op op':CmpOp} {r r':R2} (ho:fh X (compareOp op) r) (ho':fh X (compareOp op') r') (ha:PE X a ta) (hb:PE X b tb) (hc:PE X c tc)
  (hm:lastMarks [op,op'] [b,c]=false:=by with_unfolding_all rfl):PE X (.Compare a [op,op'] [b,c] pos) (Fq r r' ta tb tc):=by
 intro pins s σ H Q I h
 refine Compare_chain (cA (ha pins s σ H _ I h) λv s1 ⟨x,H1,I1,r1,q1⟩=>chain_link (cA (hb pins s1 σ H1 _ I1 q1) λu s2 ⟨y,H2,I2,r2,q2⟩ =>
  cA (ho pins s2 σ H2 x y v u _ I2 r1 r2 q2) λd s3 ⟨z,H3,I3,r3,k,e,q3⟩=>?_)) hm
 subst e
 cases r3
 refine wpAny_truthy_bool ?_
 cases k with
 | false=>exact ite_ff ⟨.bl false,H3,I3,rfl,q3⟩
 | true=>exact ite_tt (chain_last (cA (hc pins s3 σ H3 _ I3 q3) λw' s4 ⟨z',H4,I4,r4,q4⟩=>ho' pins s4 σ H4 y z' u w' Q I4 r2 r4 q4))
def Ka (K:PySem.W.Frag) (x:V) (H:Hp) (k:Bool):Prop :=
 match x with
 | .non=>k=false
 | .bl b=>k=b
 | .int i=>k=(i != 0)
 | .str y=>y.length≤sizeLine∧k=((y.length:Int) != 0)
 | .byt y=>y.size≤sizeLine∧k=((y.size:Int) != 0)
 | .ref p=>(∃xs,dC K H p xs∧k=!xs.isEmpty)∨(∃xs,gJ K H p xs∧k=!xs.isEmpty)∨∃kvs ep,H p=some (.dE kvs ep)∧k=!kvs.isEmpty
 | _=>False
theorem yt {κ:Type} {kvs:List (κ × V)} {vs:List (κ × Value)} (r:KV kvs vs):(!vs.isEmpty)=!kvs.isEmpty:=by
 cases r <;> rfl
theorem qo {xs:List V} {its:List Value} (r:Vals xs its):(!its.toArray.isEmpty)=!xs.isEmpty:=by
 cases r <;> simp
theorem lT:(sizeLine:Nat) < 2 ^ 63:=by rw [sizeLine_eq];decide
theorem L4:Po X (λx H Q=>∃k,Ka X.K x H k∧Q k H):=by
 intro pins s σ H x v Q I rx h
 obtain ⟨k,e,q⟩:=h
 have hl:=lT
 have hs:sizeLine=16777216:=sizeLine_eq
 cases x with
 | non =>
  cases rx
  have e':k=false:=e
  subst e'
  exact truthy_none ⟨H,I,q⟩
 | bl b =>
  cases rx
  have e':k=b:=e
  subst e'
  exact wpAny_truthy_bool ⟨H,I,q⟩
 | int i =>
  obtain ⟨t,rfl⟩:=rx
  have e':k=(i != 0):=e
  subst e'
  exact PySem.P.truthy_int ⟨H,I,q⟩
 | str y =>
  obtain ⟨t,rfl⟩:=rx
  obtain ⟨hy,e'⟩:y.length≤sizeLine∧k=((y.length:Int) != 0):=e
  subst e'
  exact PySem.P.truthy_str (by omega) ⟨H,I.tok _,q⟩
 | byt y =>
  obtain ⟨t,rfl⟩:=rx
  obtain ⟨hy,e'⟩:y.size≤sizeLine∧k=((y.size:Int) != 0):=e
  subst e'
  exact PySem.W.truthy_bytes (by omega) ⟨H,I.tok _,q⟩
 | ref p =>
  cases rx
  have e':(∃xs,dC X.K H p xs∧k=!xs.isEmpty)∨(∃xs,gJ X.K H p xs∧k=!xs.isEmpty)∨∃kvs ep,H p=some (.dE kvs ep)∧k=!kvs.isEmpty:=e
  rcases e' with ⟨xs,hx,e'⟩ | ⟨xs,hx,e'⟩ | ⟨kvs,ep,hx,e'⟩
  ·subst e'
   obtain ⟨its,r,pl,hz⟩:=I.list hx
   have hlen:=r.length
   exact wpAny_truthy_list pl.isList (by simp only [Sn];omega) ⟨H,I.tok _,by rw [qo r];exact q⟩
  ·subst e'
   obtain ⟨its,r,pl,hz⟩:=I.tuple hx
   have hlen:=r.length
   exact truthy_tuple pl (by simp only [Sn];omega) ⟨H,I.tok _,by rw [qo r];exact q⟩
  ·subst e'
   obtain ⟨hz,hS,vs,r,m⟩:kvs.length≤sizeLine∧(p == sysModules)=false∧∃vs,KV kvs vs∧s.heap.DictAt (strKind X.prog X.w) p vs ep:=I.hok p _ hx
   have hlen:kvs.length=vs.length:=Paired.length r
   exact wpAny_truthy_dict hS m.dictOf (by omega) ⟨H,I.tok _,by rw [yt r];exact q⟩
 | _=>exact (show False from e).elim
theorem Ex (ha:PE X a ta) (he:∀whole,isTrue a X.env whole=(do let v ← whole;standAt a.pos;holding [v] (truthy v))) :
  PT X a (λσ H Q=>ta σ H λx H'=>∃k,Ka X.K x H' k∧Q k H'):=by
 intro pins s σ H Q I h
 exact isTrue_plain (cA (ha pins s σ H _ I h) λv s1 ⟨x,H1,I1,r1,q1⟩=>L4 pins s1 σ H1 x v Q I1 r1 q1) (he _)
theorem vals1 {x:V} {us:List Value} (r:Vals [x] us):∃u,us=[u]∧RelV x u:=by
 cases r with
 | cons r1 r2=>cases r2;exact ⟨_,rfl,r1⟩
theorem vals2 {x y:V} {us:List Value} (r:Vals [x,y] us):∃u w',us=[u,w']∧RelV x u∧RelV y w':=by
 cases r with
 | cons r1 r2 =>
  cases r2 with
  | cons r3 r4=>cases r4;exact ⟨_,_,rfl,r1,r3⟩
theorem mw:b7 X (.builtin "abs") (λxs H Q=>∃i,xs=[.int i]∧Q (.int (if i < 0 then -i else i)) H):=by
 intro pins s σ H xs us Q I r h
 obtain ⟨i,rfl,q⟩:=h
 obtain ⟨u,rfl,t,rfl⟩:=vals1 r
 exact call_abs_int λu tk=>⟨.int (if i < 0 then -i else i),H,I.tok _,⟨_,rfl⟩,q⟩
end
end L2
namespace L2
open PySem PySem.Spec PyProof.Rows
structure yb (h:Heap) (x dx C:Addr) (mA:Str→Option Value):Prop where
 obj:h.get? x=some (PySem.W.instObj C dx)
 ns:h.Ns1 dx mA
 ne:dx≠x
theorem BJ {h:Heap} {dx:Addr} {mA:Str→Option Value} (n:h.Ns1 dx mA):∃od,h.get? dx=some od∧∀name,PySem.W.lookIn name od=some (mA name):=by
 obtain ⟨o,es,ep,ho,hd,hk,_,hm⟩:=n
 refine ⟨o,ho,λname=>?_⟩
 have e:=hm name
 unfold nsFind findBy at e
 rw [← Array.find?_toList] at e
 unfold PySem.W.lookIn
 rw [hd]
 dsimp only
 split
 ·rename_i y q
  rw [q] at e
  exact congrArg some e
 ·rename_i q
  rw [q] at e
  have a:es.toList.any (·.refKey)=false:=by
   rw [List.any_eq_false]
   intro y hy
   obtain ⟨z,t,hkey⟩:=hk y (Array.mem_toList_iff.mp hy)
   simp [DictEntry.refKey,hkey]
  have a':¬ es.toList.any (·.refKey)=true:=by rw [a];exact SD
  rw [if_neg a']
  exact congrArg some e
theorem yb.look {h:Heap} {x dx C:Addr} {mA:Str→Option Value} (I:yb h x dx C mA):∃od,PySem.W.InstAt h x (PySem.W.instObj C dx) C (some od)∧∀name,PySem.W.lookIn name od=some (mA name) :=
 let ⟨od,ho,hl⟩:=BJ I.ns
 ⟨od,⟨I.obj,rfl,rfl,ho⟩,hl⟩
section
variable {prog:Program} {w:World} {A:Around} {E:Value→Shared→Prop} {s:Shared} {K:PySem.W.Frag} {x dx C f:Addr} {mA:Str→Option Value} {name:Str} {v:Value}
theorem get_map {expr:Bool} {Q:Value→Shared→Prop} (X:K.In s.heap) (I:yb s.heap x dx C mA) (hg:PySem.W.plainGet K C name=true) (hh:PySem.W.hasDictIn K C=true)
  (ha:PySem.W.findIn K (.ref C) name=some none) (hv:mA name=some v) (hv':PySem.W.handedIn v=true) (h:Q v { s with toks:=s.toks + 1 }) :
  wpAny (model prog w) A (getAttr (.ref x) name expr) Q E s:=by
 obtain ⟨od,J,hl⟩:=I.look
 exact PySem.W.get_value X J (PySem.W.plainGet_of hg).1 (PySem.W.findObj_own hh ha rfl (by rw [hl,hv])) hv' h
theorem Ds {pl:Sem Bool} {Q:Value × List Value→Shared→Prop} (X:K.In s.heap) (I:yb s.heap x dx C mA) (hg:PySem.W.plainGet K C name=true)
  (hf:PySem.W.findIn K (.ref C) name=some (some (.ref f))) (ht:PySem.W.isFn K (.ref f)=true) (hv:mA name=none) (h:Q (.ref f,[.ref x]) s) :
  wpAny (model prog w) A (getMethod (.ref x) name pl) Q E s:=by
 obtain ⟨od,J,hl⟩:=I.look
 exact PySem.W.method_fn X J (PySem.W.plainGet_of hg).1 (PySem.W.plainGet_of hg).2 hf (beq_iff_eq.mp ht) (by show (PySem.W.lookIn name od).map (·.isSome)=some false;rw [hl,hv];rfl) h
theorem HU {ns:List Str} {Q:Unit→Shared→Prop} (X:K.In s.heap) (I:yb s.heap x dx C mA)
  (hs:PySem.W.findIn K (.ref C) "__setattr__"=some (some (.builtin "object.__setattr__"))) (hp:PySem.W.plainOver K C=true) (ht:PySem.W.takerIn K C name=some none) (hh:PySem.W.hasDictIn K C=true)
  (hw:PySem.Within mA ns) (hsz:ns.length≤sizeLine)
  (h:∀h',yb h' x dx C (λy=>if y=name then some v else mA y)→Heap.SameBut dx s.heap h'→Q () { s with heap:=h',toks:=s.toks + 2 }) :
  wpAny (model prog w) A (setAttr (.ref x) name v) Q E s:=by
 obtain ⟨od,J,hl⟩:=I.look
 refine PySem.W.set_plain X J hs (PySem.W.osa_open (s:={ s with toks:=s.toks + 1 }) (r:=none) X J hp ht λb=>?_)
 obtain ⟨cd,hc,hd'⟩:=PySem.W.any_some hh
 have hx:s.heap.get? x=some ⟨.ref C,some dx,.plain,#[]⟩:=I.obj
 refine wpAny_bind (wpAny_pure (wpAny_bind (wpAny_bind (wpAny_loadPart hx (wpAny_bind (PySem.W.Looks.here (s:={ s with toks:=s.toks + 1 }) (PySem.W.looks_clsIn X hc) ?_))))))
 rw [hd']
 refine wpAny_pure (a:=some dx) (wpAny_bind (wpAny_pure (wpAny_bind ?_)))
 refine wpAny_nsSet1 (s:={ s with toks:=s.toks + 1 }) I.ns λh' hn2 hs2=>?_
 obtain ⟨oD,esD,epD,hoD,hdD,hcD⟩:=hn2.count (PySem.Within.cons name v hw)
 refine wpAny_bind (wpAny_lookBehind hoD (by rw [hdD];exact pastItsLine_dict (SH hcD (by rw [SJ];omega))) ?_)
 exact wpAny_pure (h _ ⟨(hs2.2 _ (Ne.symm I.ne)).trans I.obj,hn2,I.ne⟩ hs2)
theorem DU {R:Result→Shared→Prop} {vs:List Value} {kw:List (Str × Value)} (X:K.In s.heap) (hm:PySem.W.makesIn K C=true)
  (hi:PySem.W.findIn K (.ref C) "__init__"=some (some (.ref f))) (hf:PySem.W.typeIn K (.ref f)=some (.type "function"))
  (h:codeAny (model prog w) (A.under (.builtin "type.__call__" ⟨.ref C :: vs,kw⟩)) (.call (.ref f) ⟨.ref (s.heap.objs.size + 1) :: vs,kw⟩) (PySem.W.InitBack (s.heap.objs.size + 1) R)
   { s with heap:=(s.heap.push PySem.W.emptyDict).push (PySem.W.instObj C s.heap.objs.size) }) :
  codeAny (model prog w) A (.call (.ref C) ⟨vs,kw⟩) R s:=by
 obtain ⟨hh,g,d,t,os⟩:=s
 exact PySem.W.make_core (PySem.W.makes_of X hm) (PySem.W.looks_findIn X hi) (λself=>PySem.W.bind_fn X self hf) (.inl rfl) h
end
def eQ (f:Str) (v:V):List (Str × V)→List (Str × V)
 | []=>[(f,v)]
 | (g,x) :: r=>if g=f then (g,v) :: r else (g,x) :: eQ f v r
theorem oU (f g:Str) (v:V):∀fs:List (Str × V),(eQ f v fs).lookup g=if g=f then some v else fs.lookup g
 | []=>by
  show T5 g [(f,v)]=_
  by_cases h:g=f
  ·have hb:(g == f)=true:=beq_iff_eq.mpr h
   simp only [T5,hb,if_pos h]
  ·have hb:(g == f)=false:=beq_eq_false_iff_ne.mpr h
   simp only [T5,hb,if_neg h]
 | (k,x) :: r=>by
  have ih:=oU f g v r
  rw [show eQ f v ((k,x) :: r)=(if k=f then (k,v) :: r else (k,x) :: eQ f v r) from rfl]
  by_cases hk:k=f
  ·rw [if_pos hk]
   by_cases h:g=k
   ·have hb:(g == k)=true:=beq_iff_eq.mpr h
    simp only [T5,hb,if_pos (h.trans hk)]
   ·have hb:(g == k)=false:=beq_eq_false_iff_ne.mpr h
    simp only [T5,hb,if_neg (λe:g=f=>h (e.trans hk.symm))]
  ·rw [if_neg hk]
   by_cases h:g=k
   ·have hb:(g == k)=true:=beq_iff_eq.mpr h
    simp only [T5,hb,if_neg (λe:g=f=>hk (h.symm.trans e))]
   ·have hb:(g == k)=false:=beq_eq_false_iff_ne.mpr h
    simp only [T5,hb]
    exact ih
theorem nW (f:Str) (v:V):∀fs:List (Str × V),f∈(eQ f v fs).map (·.1)∧∀g,g∈fs.map (·.1)→g∈(eQ f v fs).map (·.1)
 | []=>⟨by simp [eQ],λg h=>by simp at h⟩
 | (k,x) :: r=>by
  obtain ⟨i1,i2⟩:=nW f v r
  rw [show eQ f v ((k,x) :: r)=(if k=f then (k,v) :: r else (k,x) :: eQ f v r) from rfl]
  by_cases hk:k=f
  ·rw [if_pos hk]
   subst hk
   exact ⟨by simp,λg h=>by simpa using h⟩
  ·rw [if_neg hk]
   refine ⟨?_,λg h=>?_⟩
   ·rw [Sm]
    exact SI _ i1
   ·rw [Sm] at h ⊢
    rcases Sy.mp h with e | e
    ·exact Sy.mpr (.inl e)
    ·exact SI _ (i2 g e)
theorem oT (f:Str) (v:V):∀fs:List (Str × V),(eQ f v fs).length≤fs.length + 1
 | []=>by simp [eQ]
 | (k,x) :: r=>by
  have ih:=oT f v r
  rw [show eQ f v ((k,x) :: r)=(if k=f then (k,v) :: r else (k,x) :: eQ f v r) from rfl]
  by_cases hk:k=f
  ·rw [if_pos hk,SJ,SJ];omega
  ·rw [if_neg hk,SJ,SJ];omega
theorem sk.some_of {v:V} {o:Option Value} (r:sk (some v) o):∃u,o=some u∧RelV v u:=by
 cases o with
 | none=>exact (show False from r).elim
 | some u=>exact ⟨u,rfl,r⟩
theorem sk.none_of {o:Option Value} (r:sk none o):o=none:=by
 cases o with
 | none=>rfl
 | some u=>exact (show False from r).elim
theorem Bu {v:V} {u:Value} (r:RelV v u):PySem.W.handedIn u=true:=by
 cases v with
 | non=>cases (show u=Value.none from r);rfl
 | bl b=>cases (show u=Value.bool b from r);rfl
 | int i=>obtain ⟨t,e⟩:=(show ∃t,u=Value.int i t from r);cases e;rfl
 | str x=>obtain ⟨t,e⟩:=(show ∃t,u=Value.str x t from r);cases e;rfl
 | byt b=>obtain ⟨t,e⟩:=(show ∃t,u=Value.bytes b t from r);cases e;rfl
 | flt b=>obtain ⟨t,e⟩:=(show ∃t,u=Value.float b t from r);cases e;rfl
 | ref a=>cases (show u=Value.ref a from r);rfl
 | ty n=>cases (show u=Value.type n from r);rfl
section
variable {P:Program} {w:World} {H H':Hp} {h h':Heap} {a C dx:Addr} {fs fs':List (Str × V)}
theorem pE (hok:ma P w H h) (e:H a=some (.ins C dx fs)):∃mA,yb h a dx C mA∧(∀f,sk (fs.lookup f) (mA f))∧PySem.Within mA (fs.map (·.1))∧fs.length≤1000∧H dx=some (.own a):=by
 obtain ⟨d,z,ne,ob,mA,n,r,q⟩:=(show du P w H h a (.ins C dx fs) from hok a _ e)
 exact ⟨mA,⟨ob,n,ne⟩,r,q,z,d⟩
end
structure oP (K:PySem.W.Frag) (C:Addr):Prop where
 pg:PySem.W.plainGet K C Str.empty=true
 hd:PySem.W.hasDictIn K C=true
 po:PySem.W.plainOver K C=true
 sa:PySem.W.findIn K (.ref C) "__setattr__"=some (some (.builtin "object.__setattr__"))
theorem oP.get {K:PySem.W.Frag} {C:Addr} (c:oP K C) (f:Str):PySem.W.plainGet K C f=true:=c.pg
def aI (K:PySem.W.Frag) (C:Addr) (f:Str):Prop:=PySem.W.findIn K (.ref C) f=some none
theorem aI.OJ {K:PySem.W.Frag} {C:Addr} {f:Str} (n:aI K C f):PySem.W.takerIn K C f=some none:=by
 unfold PySem.W.takerIn
 rw [show PySem.W.findIn K (.ref C) f=some none from n]
 rfl
structure Meth (K:PySem.W.Frag) (C:Addr) (m:Str) (f:Addr):Prop where
 at_:PySem.W.findIn K (.ref C) m=some (some (.ref f))
 fn:PySem.W.isFn K (.ref f)=true
 kp:PySem.W.keepIn K (.ref f)=true
section
variable {X:Cx} {pins:List (Addr × Obj)} {σ:St} {H:Hp} {s:Shared} {a C dx:Addr} {fs:List (Str × V)} {f:Str} {v:V} {A:Around} {E:Value→Shared→Prop}
theorem yp {b:Bool} {Q:Value→Shared→Prop} (I:Inv X pins σ H s) (e:H a=some (.ins C dx fs)) (c:oP X.K C) (n:aI X.K C f) (l:fs.lookup f=some v)
  (h:∀u s',Inv X pins σ H s'→RelV v u→Q u s'):wpAny (model X.prog X.w) A (getAttr (.ref a) f b) Q E s:=by
 obtain ⟨mA,O,r,_,_,_⟩:=pE I.hok e
 obtain ⟨u,hu,ru⟩:=sk.some_of (v:=v) (o:=mA f) (by rw [← l];exact r f)
 exact get_map I.lR O (c.get f) c.hd n hu (Bu ru) (h u _ (I.tok _) ru)
theorem ql {m:Str} {g:Addr} {pl:Sem Bool} {Q:Value × List Value→Shared→Prop} (I:Inv X pins σ H s) (e:H a=some (.ins C dx fs)) (c:oP X.K C) (k:Meth X.K C m g) (l:fs.lookup m=none)
  (h:Q (.ref g,[.ref a]) s):wpAny (model X.prog X.w) A (getMethod (.ref a) m pl) Q E s:=by
 obtain ⟨mA,O,r,_,_,_⟩:=pE I.hok e
 have hn:mA m=none:=sk.none_of (by rw [← l];exact r m)
 exact Ds I.lR O (c.get m) k.at_ k.fn hn h
theorem zd {y:V} {u:Value} {Q:Unit→Shared→Prop} (I:Inv X pins σ H s) (e:H a=some (.ins C dx fs)) (c:oP X.K C) (n:aI X.K C f) (hl:fs.length < 1000) (ry:RelV y u)
  (h:∀s',Inv X pins σ (upd H a (.ins C dx (eQ f y fs))) s'→Q () s'):wpAny (model X.prog X.w) A (setAttr (.ref a) f u) Q E s:=by
 obtain ⟨mA,O,r,wi,_,ho⟩:=pE I.hok e
 have hz:(fs.map (·.1)).length≤sizeLine:=by rw [Sg,sizeLine_eq];omega
 refine HU I.lR O c.sa c.po n.OJ c.hd wi hz λh' O' sb=>h _ ?_
 have hd:∃o,h'.get? dx=some o:=let ⟨o,_,_,e',_⟩:=O'.ns;⟨o,e'⟩
 refine I.write (x:=a) (e:=dx) (by rw [e];exact True.intro) (.inr ho) (λb q hb z=>(sb.2 b hb).trans z) hd ?_
 refine ⟨by rw [aF O.ne];exact ho,?_,O.ne,O'.obj,_,O'.ns,λg=>?_,λg hg=>?_⟩
 ·have:=oT f y fs;omega
 ·show sk ((eQ f y fs).lookup g) (if g=f then some u else mA g)
  rw [oU]
  by_cases q:g=f
  ·rw [if_pos q,if_pos q];exact ry
  ·rw [if_neg q,if_neg q];exact r g
 ·by_cases q:g=f
  ·rw [q];exact (nW f y fs).1
  ·refine (nW f y fs).2 g (wi g λz=>hg ?_)
   show (if g=f then some u else mA g)=none
   rw [if_neg q];exact z
theorem Inv.made (I:Inv X pins σ H s):Inv X pins σ (upd (upd H s.heap.objs.size (.own (s.heap.objs.size + 1))) (s.heap.objs.size + 1) (.ins C s.heap.objs.size []))
  { s with heap:=(s.heap.push PySem.W.emptyDict).push (PySem.W.instObj C s.heap.objs.size) }:=by
 have e1:(s.heap.push PySem.W.emptyDict).get? s.heap.objs.size=some PySem.W.emptyDict:=Heap.get?_push_size s.heap rfl
 have e2:((s.heap.push PySem.W.emptyDict).push (PySem.W.instObj C s.heap.objs.size)).get? (s.heap.objs.size + 1)=some (PySem.W.instObj C s.heap.objs.size):=by
  have:=Heap.get?_push_size (s.heap.push PySem.W.emptyDict) (o:=PySem.W.instObj C s.heap.objs.size) rfl
  rwa [Heap.size_push] at this
 have e3:(s.heap.push PySem.W.emptyDict).Ns s.heap.objs.size (λ_=>none):=⟨PySem.W.emptyDict,#[],_,e1,rfl,(λe he=>absurd he (by simp)),λ_=>rfl⟩
 have I1:=I.laid (a:=s.heap.objs.size) (o:=.own (s.heap.objs.size + 1)) (h':=s.heap.push PySem.W.emptyDict) (t':=s.toks) (λb u q=>Heap.get?_push_of_some _ q) (So _) ⟨_,e1⟩
 refine I1.laid (a:=s.heap.objs.size + 1) (o:=.ins C s.heap.objs.size []) (t':=s.toks) (λb u q=>Heap.get?_push_of_some _ q) (Nat.le_of_eq (Heap.size_push _ _)) ?_
 have ne:s.heap.objs.size≠s.heap.objs.size + 1:=SN (TU _)
 refine ⟨by rw [aF ne,aA],SX _,ne,e2,λ_=>none,(Heap.Ns1.of_empty e3).at λo q=>Heap.get?_push_of_some _ q,λ_=>True.intro,λy hy=>absurd rfl hy⟩
theorem Gh {prog:Program} {w:World} {env:Env} {e:Expr} {f:Str} {pos:Pos} {s:Shared} {Q:Value→Shared→Prop} (hb:attributeBase e f env (eval e env)=eval e env)
  (h:wpAny (model prog w) A (eval e env) (λo s₁=>wpAny (model prog w) A (getAttr o f true) Q E s₁) E s):wpAny (model prog w) A (eval (.Attribute e f pos) env) Q E s :=
 Attribute_any_ h (by rw [arm_eval_Attribute,hb])
end
def QH (K:PySem.W.Frag) (ta:TE) (f:Str):TE:=λσ H Q=>ta σ H λx H1=>∃a C dx fs v,x=.ref a∧H1 a=some (.ins C dx fs)∧oP K C∧aI K C f∧fs.lookup f=some v∧Q v H1
def Qz (K:PySem.W.Frag) (ta tv:TE) (f:Str):TS:=λD σ H=>tv σ H λy H1=>ta σ H1 λx H2=>∃a C dx fs,x=.ref a∧H2 a=some (.ins C dx fs)∧oP K C∧aI K C f∧fs.length < 1000 ∧
 D.nx σ (upd H2 a (.ins C dx (eQ f y fs)))
section
variable {X:Cx} {o e value:Expr} {f:Str} {pos pos' tpos:Pos} {ta tv:TE}
theorem Lh (he:PE X e ta) (hb:attributeBase e f X.env (eval e X.env)=eval e X.env):PE X (.Attribute e f pos) (QH X.K ta f):=by
 intro pins s σ H Q I h
 refine Gh hb (cA (he pins s σ H _ I h) λu s1 ⟨x,H1,I1,rx,a,C,dx,fs,v,ex,ea,c,n,l,q⟩=>?_)
 subst ex
 obtain rfl:u=Value.ref a:=rx
 exact yp I1 ea c n l λu' s2 I2 ru=>⟨v,H1,I2,ru,q⟩
theorem Lk (ha:PE X o ta) (hv:PE X value tv) (hs:swapsWith value (some (.Attribute o f pos')) pos.line X.env=pure false):PS X (.Assign [.Attribute o f pos'] value pos) (Qz X.K ta tv f):=by
 intro pins s σ H D I h
 refine plainObj_wpAny_Assign_Attribute (cA (hv pins s σ H _ I h) λu s1 ⟨y,H1,I1,ry,q⟩=>cA (ha pins s1 σ H1 _ I1 q) λov s2 ⟨x,H2,I2,rx,a,C,dx,fs,ex,ea,c,n,l,q2⟩=>?_) hs
 subst ex
 obtain rfl:ov=Value.ref a:=rx
 exact zd I2 ea c n l ry λs3 I3=>⟨σ,_,I3,q2⟩
end
section
variable {X:Cx} {pins:List (Addr × Obj)} {σ:St} {H:Hp} {s:Shared} {A:Around} {E:Value→Shared→Prop} {Q:Value→Shared→Prop} {c:Value} {b:Bool}
inductive fT (K:PySem.W.Frag) (H:Hp):V→Value→Prop where
 | non:fT K H .non (.type "NoneType")
 | bl (x:Bool):fT K H (.bl x) (.type "bool")
 | int (i:Int):fT K H (.int i) (.type "int")
 | str (x:Str):fT K H (.str x) (.type "str")
 | flt (x:UInt64):fT K H (.flt x) (.type "float")
 | lst {a:Addr} {xs:List V} (e:H a=some (.lst xs)):fT K H (.ref a) (.type "list")
 | pd {a:Addr} {o:Obj} {xs:List V} (e:H a=some (.pd o (.lst xs))):fT K H (.ref a) (.type "list")
 | tup {a:Addr} {xs:List V} (e:H a=some (.tup xs)):fT K H (.ref a) (.type "tuple")
 | dK {a:Addr} {kvs:List (Key × V)} (e:H a=some (.dK kvs)):fT K H (.ref a) (.type "dict")
 | dE {a:Addr} {kvs:List (Str × V)} {ep:Nat} (e:H a=some (.dE kvs ep)):fT K H (.ref a) (.type "dict")
 | ins {a C dx:Addr} {fs:List (Str × V)} (e:H a=some (.ins C dx fs)) (cl:oP K C) (ha:PySem.W.findIn K (.ref C) "__class__"=some (some (.builtin "object.__class__")))
   (hn:PySem.W.specialIn K (.builtin "object.__class__") "__get__"=some (some (.builtin "getset_descriptor.__get__"))) (htk:PySem.W.takesIn K (.builtin "object.__class__")=some true)
   (hm:PySem.W.mroIn K C (.type "object")=some true):fT K H (.ref a) (.ref C)
theorem Bz {x:V} {u t:Value} (I:Inv X pins σ H s) (rx:RelV x u) (ty:fT X.K H x t) (e:PySem.W.kitOne X.K t c=some b) (h:∀tk,Q (.bool b) { s with toks:=tk }) :
  wpAny (model X.prog X.w) A (call (.builtin "isinstance") [u,c]) Q E s:=by
 cases ty with
 | non=>cases (show u=Value.none from rx);exact PySem.W.kia_one PySem.W.kitx_none I.lR True.intro e (λz=>nomatch z) h
 | bl y=>cases (show u=Value.bool y from rx);exact PySem.W.kia_one PySem.W.kitx_bool I.lR True.intro e (λz=>nomatch z) h
 | int i=>obtain ⟨t,q⟩:=(show ∃t,u=Value.int i t from rx);cases q;exact PySem.W.kia_one PySem.W.kitx_int I.lR True.intro e (λz=>nomatch z) h
 | str y=>obtain ⟨t,q⟩:=(show ∃t,u=Value.str y t from rx);cases q;exact PySem.W.kia_one PySem.W.kitx_str I.lR True.intro e (λz=>nomatch z) h
 | flt y=>obtain ⟨t,q⟩:=(show ∃t,u=Value.float y t from rx);cases q;exact PySem.W.kia_one PySem.W.kitx_float I.lR True.intro e (λz=>nomatch z) h
 | @lst a xs ea =>
  cases (show u=Value.ref a from rx)
  obtain ⟨_,_,n,_,h1⟩:=(show du X.prog X.w H s.heap a (.lst xs) from I.hok a _ ea)
  exact PySem.W.kia_one PySem.W.kitx_list I.lR ⟨_,h1,rfl⟩ e (λz=>nomatch z) h
 | @pd a ob xs ea =>
  cases (show u=Value.ref a from rx)
  obtain ⟨_,_,_,n,_,h1⟩:=(show du X.prog X.w H s.heap a (.pd ob (.lst xs)) from I.hok a _ ea)
  exact PySem.W.kia_one PySem.W.kitx_list I.lR ⟨_,h1,rfl⟩ e (λz=>nomatch z) h
 | @tup a xs ea =>
  cases (show u=Value.ref a from rx)
  obtain ⟨_,_,_,p⟩:=(show du X.prog X.w H s.heap a (.tup xs) from I.hok a _ ea)
  obtain ⟨o,h1,h2,_⟩:=p
  exact PySem.W.kia_one PySem.W.kitx_tuple I.lR ⟨o,h1,h2⟩ e (λz=>nomatch z) h
 | @dK a kvs ea =>
  cases (show u=Value.ref a from rx)
  obtain ⟨_,_,vs,_,p⟩:=(show du X.prog X.w H s.heap a (.dK kvs) from I.hok a _ ea)
  obtain ⟨o,es,ep,h1,h2,_⟩:=p
  exact PySem.W.kia_one PySem.W.kitx_dict I.lR ⟨o,h1,h2.1⟩ e (λz=>nomatch z) h
 | @dE a kvs ep ea =>
  cases (show u=Value.ref a from rx)
  obtain ⟨_,_,vs,_,o,es,h1,h2,_⟩:=(show du X.prog X.w H s.heap a (.dE kvs ep) from I.hok a _ ea)
  exact PySem.W.kia_one PySem.W.kitx_dict I.lR ⟨o,h1,h2.1⟩ e (λz=>nomatch z) h
 | @ins a C dx fs ea cl ha hn htk hm =>
  cases (show u=Value.ref a from rx)
  obtain ⟨mA,O,_⟩:=pE I.hok ea
  obtain ⟨od,J,_⟩:=O.look
  exact PySem.W.kia_one (PySem.W.kitx_own (cl.get _) cl.hd ha hn htk hm) I.lR J e (λz=>nomatch z) h
end
end L2
namespace L2
open PySem PySem.Spec PyProof.Rows
structure bS (k:Nat) (A:Around):Prop where
 hd:A.handled=none
 dp:A.depth + 3 * k + 5 < recursionLimit
 un:A.units + 16 * k + 200 < cLine
theorem bS.mono {j k:Nat} {A:Around} (r:bS k A) (h:j≤k):bS j A:=⟨r.hd,by have:=r.dp;omega,by have:=r.un;omega⟩
theorem bS.deeper {k:Nat} {A:Around} (r:bS (k + 1) A) (env:Env):bS k (A.deeper env) :=
 ⟨r.hd,by have:=r.dp;show A.depth + 1 + 3 * k + 5 < _;omega,by have:=r.un;show A.units + 3 + 16 * k + 200 < _;omega⟩
theorem yB {A:Around} {C:Addr} {us:List Value} {kw:List (Str × Value)}:(A.under (.builtin "type.__call__" ⟨.ref C :: us,kw⟩)).depth=A.depth + 1:=by
 first | rfl | simp [Around.under,Code.weight,Code.isCreation,Code.isGuard,Code.isCaller,Code.frames,Code.isFrame,guardIds]
theorem yC {A:Around} {C:Addr} {us:List Value} {kw:List (Str × Value)}:(A.under (.builtin "type.__call__" ⟨.ref C :: us,kw⟩)).units=A.units + 1:=by
 first | rfl | simp [Around.under,Code.cUnits,Code.frames,Code.isFrame]
theorem bS.make {k:Nat} {A:Around} (r:bS (k + 1) A) (C:Addr) (us:List Value) (kw:List (Str × Value)):bS k (A.under (.builtin "type.__call__" ⟨.ref C :: us,kw⟩)) :=
 ⟨r.hd,by have:=r.dp;rw [yB];omega,by have:=r.un;rw [yC];omega⟩
theorem bS.depth {k:Nat} {A:Around} (r:bS k A):A.depth < recursionLimit:=by have:=r.dp;omega
theorem bS.L8 {k:Nat} {A:Around} (r:bS k A):A.units < cLine:=by have:=r.un;omega
def v3:TA:=λ_ H Q=>Q [] H
def fc (ta:TE) (tr:TA):TA:=λσ H Q=>ta σ H λx H1=>tr σ H1 λxs H2=>Q (x :: xs) H2
section
variable {X:Cx} {e:Expr} {es:List Expr} {te:TE} {t:TA} {pos:Pos}
theorem bp:PA X [] v3:=λ_ _ _ _ H Q I h=>Calls.spliced_nil ⟨[],H,I,.nil,h⟩
theorem ay (ha:PE X e te) (hr:PA X es t) (hs:starEach (e :: es) X.env=(false,eval e X.env) :: starEach es X.env:=by rfl):PA X (e :: es) (fc te t):=by
 intro pos pins s σ H Q I h
 rw [hs]
 show wpAny _ _ (spliced ((false,eval e X.env) :: backTo pos (starEach es X.env))) _ _ s
 refine Calls.spliced_cons (cA (ha pins s σ H _ I h) λu s1 ⟨x,H1,I1,r1,q1⟩=>?_)
 exact cA (hr pos pins s1 σ H1 _ I1 q1) λus s2 ⟨xs,H2,I2,r2,q2⟩=>⟨x :: xs,H2,I2,.cons r1 r2,q2⟩
def Ie (t:TA):TE:=λσ H Q=>t σ H λxs H1=>xs.length≤sizeLine∧∀p,H1 p=none→Q (.ref p) (upd H1 p (.tup xs))
def Ck (t:TA):TE:=λσ H Q=>t σ H λxs H1=>xs.length≤sizeLine∧∀p,H1 p=none→Q (.ref p) (upd H1 p (.lst xs))
theorem qJ {x1} (h:PA X es t):PE X (.Tuple es x1 pos) (Ie t):=by
 intro pins s σ H Q I hq
 refine wpAny_Tuple_spliced (cA (h pos pins s σ H _ I hq) λus s1 ⟨xs,H1,I1,r,z,q⟩=>⟨by rw [← r.length];exact z,?_⟩)
 have hf:H1 s1.heap.objs.size=none:=I1.hok.fresh (So _)
 refine ⟨.ref s1.heap.objs.size,upd H1 s1.heap.objs.size (.tup xs),I1.laid (t':=s1.toks) (λb u e=>Heap.get?_push_of_some _ e) (So _) ?_,rfl,q _ hf⟩
 exact ⟨z,us,r,⟨_,Heap.get?_push_size _ rfl,rfl,_,rfl⟩⟩
theorem iW (h:PA X es t):PE X (.List es pos) (Ck t):=by
 intro pins s σ H Q I hq
 refine wpAny_List_spliced (cA (h pos pins s σ H _ I hq) λus s1 ⟨xs,H1,I1,r,z,q⟩=>⟨by rw [← r.length];exact z,?_⟩)
 have hf:H1 s1.heap.objs.size=none:=I1.hok.fresh (So _)
 refine ⟨.ref s1.heap.objs.size,upd H1 s1.heap.objs.size (.lst xs),I1.laid (t':=s1.toks) (λb u e=>Heap.get?_push_of_some _ e) (So _) ?_,rfl,q _ hf⟩
 exact ⟨z,us,0,r,Heap.get?_push_size _ rfl⟩
end
abbrev Sp:=List V→Hp→VK→XK→Prop
abbrev p5:=List Env→Hp→Shared→XK→Value→Shared→Prop
structure x5 (P:Program) (w:World) (K:PySem.W.Frag) (mg:Str→Option Value) (base:Heap) (A:Around) (outer:List Env) (s:Shared) (H:Hp):Prop where
 frames:A.frames=some outer
 mod:Mod K mg base
 bs:∀b o,base.get? b=some o→s.heap.get? b=some o∧H b=none
 bsz:base.objs.size≤s.heap.objs.size
 lP:s.heap.FunFrames base outer
 frf:∀b∈jw outer,H b=none
 hok:ma P w H s.heap
 bare:AllBare s.gens
def CE (outer:List Env) (P:Program) (w:World) (H:Hp) (s:Shared) (Q:VK) (u:Value) (s':Shared):Prop :=
 ∃v H',s'.os=s.os∧AllBare s'.gens∧Un (jw outer) [] H H' s.heap s'.heap∧ma P w H' s'.heap∧RelV v u∧Q v H'
def CR (CX:p5) (outer:List Env) (P:Program) (w:World) (H:Hp) (s:Shared) (Q:VK) (E:XK) (r:Result) (s':Shared):Prop :=
 match r with
 | .ok (.ret u)=>CE outer P w H s Q u s'
 | .ok _=>False
 | .error e=>CX outer H s E e s'
structure aQ (P:Program) (w:World) (K:PySem.W.Frag) (mg:Str→Option Value) (base:Heap) (CX:p5) (k:Nat) (f:Addr) (fd:FuncData) (ps:List Str) (sp:Sp):Prop where
 len:∀vs H Q E,sp vs H Q E→vs.length=ps.length
 run:∀(A:Around) (outer:List Env) (s:Shared) (H:Hp) (args:Args) (us:List Value) (vs:List V) (Q:VK) (E:XK),bS k A→x5 P w K mg base A outer s H→BindsTo s fd args (ps.zip us)→Vals vs us→sp vs H Q E →
  codeAny (model P w) A (.call (.ref f) args) (CR CX outer P w H s Q E) s
theorem aQ.imp {P:Program} {w:World} {K:PySem.W.Frag} {mg:Str→Option Value} {base:Heap} {CX:p5} {k:Nat} {f:Addr} {fd:FuncData} {ps:List Str} {sp sp':Sp} (F:aQ P w K mg base CX k f fd ps sp)
  (h:∀vs H Q E,sp' vs H Q E→sp vs H Q E):aQ P w K mg base CX k f fd ps sp' :=
 ⟨λvs H Q E q=>F.len vs H Q E (h _ _ _ _ q),λA outer s H args us vs Q E hr he hb hv hs=>F.run A outer s H args us vs Q E hr he hb hv (h _ _ _ _ hs)⟩
theorem x5.make {P:Program} {w:World} {K:PySem.W.Frag} {mg:Str→Option Value} {base:Heap} {A:Around} {outer:List Env} {s:Shared} {H:Hp} (e:x5 P w K mg base A outer s H) (C:Addr) (us:List Value) (kw:List (Str × Value)) :
  x5 P w K mg base (A.under (.builtin "type.__call__" ⟨.ref C :: us,kw⟩)) outer s H:=⟨by first | exact e.frames | (simpa [Around.under,Code.envs,Code.isFrame,pushEnvs] using e.frames),e.mod,e.bs,e.bsz,e.lP,e.frf,e.hok,e.bare⟩
section
variable {X:Cx} {pins:List (Addr × Obj)} {σ:St} {H:Hp} {s s':Shared}
theorem Inv.MX (I:Inv X pins σ H s):x5 X.prog X.w X.K X.mg X.base X.A X.stack s H :=
 ⟨I.ok.frames,I.ok.mod,I.bs,SH I.ok.bsz I.sz,I.stack,I.vY,I.hok,I.bare⟩
theorem Inv.after {Q:VK} {u:Value} (I:Inv X pins σ H s) (h:CE X.stack X.prog X.w H s Q u s'):EP X pins σ Q u s':=by
 obtain ⟨v,H',os,bare,un,hok,r,q⟩:=h
 obtain ⟨hh,g,d,t,os'⟩:=s'
 obtain rfl:os'=s.os:=os
 exact ⟨v,H',I.call (h':=hh) (g':=g) (d':=d) (t':=t) (ch:=[]) un hok bare (λb z=>absurd z (by simp)),r,q⟩
end
def rA (sp:Sp) (dvs:List V) (E:XK) (t:TA):TE:=λσ H Q=>t σ H λvs H1=>sp (vs ++ dvs) H1 Q E
def Ft (C:Addr) (m:Str) (sp:Sp) (dvs:List V) (E:XK) (ta:TE) (t:TA):TE:=λσ H Q=>ta σ H λx H1=>∃a dx fs,x=.ref a∧H1 a=some (.ins C dx fs)∧fs.lookup m=none ∧
 t σ H1 λvs H2=>sp (x :: (vs ++ dvs)) H2 Q E
def Fs (C:Addr) (sp:Sp) (dvs:List V) (E:XK) (t:TA):TE:=λσ H Q=>t σ H λvs H1=>∀x dx,H1 x=none→H1 dx=none→dx≠x →
 sp (.ref x :: (vs ++ dvs)) (upd (upd H1 dx (.own x)) x (.ins C dx [])) (λv H2=>v=.non∧Q (.ref x) H2) E
def Binds (K:PySem.W.Frag) (fd:FuncData) (ps:List Str) (ds:List Value):Prop :=
 ∀(s:Shared) (us:List Value),K.In s.heap→(us ++ ds).length=ps.length→BindsTo s fd ⟨us,[]⟩ (ps.zip (us ++ ds))
theorem Binds.all {K:PySem.W.Frag} {fd:FuncData} {ps:List Str} (h:∀us:List Value,us.length=ps.length→bindArgs fd ⟨us,[]⟩=pure (ps.zip us)):Binds K fd ps []:=λs us _ hl=>by
 rw [S_] at hl ⊢
 exact .of_eq (h us hl)
def Passes (CX:p5) (X:Cx) (E:XK):Prop:=∀(pins:List (Addr × Obj)) (σ:St) (H:Hp) (s:Shared) (e:Value) (s':Shared),Inv X pins σ H s→CX X.stack H s E e s'→X.xe e s'
section
variable {X:Cx} {CX:p5} {k:Nat} {f C:Addr} {fd:FuncData} {ps:List Str} {sp:Sp} {dvs:List V} {ds:List Value} {E:XK} {x m:Str} {p pos apos:Pos} {e o:Expr} {es:List Expr} {ta:TE} {t:TA}
theorem y3 {pins:List (Addr × Obj)} {σ:St} {H:Hp} {s:Shared} {Q:VK} {us:List Value} {vs:List V} (F:aQ X.prog X.w X.K X.mg X.base CX k f fd ps sp) (hr:bS k X.A) (hb:Binds X.K fd ps ds) (hd:Vals dvs ds) (hx:Passes CX X E)
  (I:Inv X pins σ H s) (r:Vals vs us) (h:sp (vs ++ dvs) H Q E):wpAny (model X.prog X.w) X.A (call (.ref f) us) (EP X pins σ Q) X.xe s:=by
 have r2:Vals (vs ++ dvs) (us ++ ds):=r.append hd
 have hl:(us ++ ds).length=ps.length:=by rw [← r2.length];exact F.len _ _ _ _ h
 refine wpAny_call (codeAny_mono (F.run X.A X.stack s H ⟨us,[]⟩ (us ++ ds) (vs ++ dvs) Q E hr I.MX (hb s us I.lR hl) r2 h) λr s' hq=>?_)
 cases r with
 | error e=>exact hx pins σ H s e s' I hq
 | ok fl =>
  cases fl with
  | ret u=>exact I.after hq
  | next=>exact False.elim hq
  | brk=>exact False.elim hq
  | cont=>exact False.elim hq
theorem Ac (F:aQ X.prog X.w X.K X.mg X.base CX k f fd ps sp) (hr:bS k X.A) (hg:Gl X x) (hm:X.mg x=some (.ref f)) (hk:PySem.W.keepIn X.K (.ref f)=true) (hb:Binds X.K fd ps ds) (hd:Vals dvs ds) (hx:Passes CX X E)
  (ha:PA X (e :: es) t) (hdb:(x == ("__debug__":Str))=false:=by decide) (he:starEach (e :: es) X.env=(false,eval e X.env) :: starEach es X.env:=by rfl) (hpl:(backTo pos (starEach es X.env)).any (·.1)=false:=by rfl) :
  PE X (.Call (.Name x p) (e :: es) [] pos) (rA sp dvs E t):=by
 intro pins s σ H Q I h
 refine wpAny_Call_Name_kw (kE I hg hm ?_ hdb)
 refine PySem.W.callWith_K (h₀:=X.base) I.ok.mod.kin hk (cA (ha pos pins s σ H _ I h) λus s1 ⟨vs,H1,I1,r,q⟩=>⟨I1.lR,?_⟩) he hpl
 exact y3 F hr hb hd hx I1 r q
theorem Hh {pl:Sem Bool} (he:PE X o ta) (c:oP X.K C) (hm:Meth X.K C m f) (F:aQ X.prog X.w X.K X.mg X.base CX k f fd ps sp) (hr:bS k X.A) (hb:Binds X.K fd ps ds) (hd:Vals dvs ds) (hx:Passes CX X E) (ha:PA X (e :: es) t)
  (hst:starEach (e :: es) X.env=(false,eval e X.env) :: starEach es X.env:=by rfl) (hpl:(backTo pos (starEach es X.env)).any (·.1)=false:=by rfl)
  (ht:eval (.Call (.Attribute o m apos) (e :: es) [] pos) X.env=(do
   let ov ← eval o X.env
   standAt apos.atName
   let (f,first) ← holding [ov] (getMethod ov m pl)
   callWith pos f first (backTo pos (starEach (e :: es) X.env)) (backToKw pos (keywordEach [] X.env))):=by rfl) :
  PE X (.Call (.Attribute o m apos) (e :: es) [] pos) (Ft C m sp dvs E ta t):=by
 intro pins s σ H Q I h
 refine PySem.W.methodCall_KW (pl:=pl) (cA (he pins s σ H _ I h) λu s1 ⟨x,H1,I1,rx,a,dx,fs,ex,ea,l,q⟩=>?_) ht
 subst ex
 obtain rfl:u=Value.ref a:=rx
 refine ql I1 ea c hm l ?_
 refine PySem.W.callWith_K (first:=[.ref a]) (h₀:=X.base) I.ok.mod.kin hm.kp (cA (ha pos pins s1 σ H1 _ I1 q) λus s2 ⟨vs,H2,I2,r,q2⟩=>⟨I2.lR,?_⟩) hst hpl
 exact y3 (us:=.ref a :: us) (vs:=.ref a :: vs) F hr hb hd hx I2 (.cons rfl r) q2
theorem Es {pl:Sem Bool} (he:PE X o ta) (c:oP X.K C) (hm:Meth X.K C m f) (F:aQ X.prog X.w X.K X.mg X.base CX k f fd ps sp) (hr:bS k X.A) (hb:Binds X.K fd ps ds) (hd:Vals dvs ds) (hx:Passes CX X E)
  (ht:eval (.Call (.Attribute o m apos) [] [] pos) X.env=(do
   let ov ← eval o X.env
   standAt apos.atName
   let (f,first) ← holding [ov] (getMethod ov m pl)
   callWith pos f first (backTo pos (starEach [] X.env)) (backToKw pos (keywordEach [] X.env))):=by rfl) :
  PE X (.Call (.Attribute o m apos) [] [] pos) (Ft C m sp dvs E ta v3):=by
 intro pins s σ H Q I h
 refine PySem.W.methodCall_KW (pl:=pl) (cA (he pins s σ H _ I h) λu s1 ⟨x,H1,I1,rx,a,dx,fs,ex,ea,l,q⟩=>?_) ht
 subst ex
 obtain rfl:u=Value.ref a:=rx
 refine ql I1 ea c hm l ?_
 exact PySem.W.callWith_K0 (first:=[.ref a]) I1.lR hm.kp (y3 (us:=[.ref a]) (vs:=[.ref a]) F hr hb hd hx I1 (.cons rfl .nil) q)
structure Mk (K:PySem.W.Frag) (C f:Addr):Prop where
 makes:PySem.W.makesIn K C=true
 init:PySem.W.findIn K (.ref C) "__init__"=some (some (.ref f))
 fn:PySem.W.isFn K (.ref f)=true
 kp:PySem.W.keepIn K (.ref C)=true
theorem xt {pins:List (Addr × Obj)} {σ:St} {H:Hp} {s:Shared} {Q:VK} {us:List Value} {vs:List V} (M:Mk X.K C f) (F:aQ X.prog X.w X.K X.mg X.base CX k f fd ps sp) (hr:bS (k + 1) X.A) (hb:Binds X.K fd ps ds) (hd:Vals dvs ds)
  (hx:Passes CX X E) (I:Inv X pins σ H s) (r:Vals vs us)
  (h:∀x dx,H x=none→H dx=none→dx≠x→sp (.ref x :: (vs ++ dvs)) (upd (upd H dx (.own x)) x (.ins C dx [])) (λv H2=>v=.non∧Q (.ref x) H2) E) :
  wpAny (model X.prog X.w) X.A (call (.ref C) us) (EP X pins σ Q) X.xe s:=by
 have hq:=h (s.heap.objs.size + 1) s.heap.objs.size (I.hok.fresh (Nat.le_succ _)) (I.hok.fresh (So _)) (SN (TU _))
 have I2:=Inv.made (C:=C) I
 have r2:Vals (V.ref (s.heap.objs.size + 1) :: (vs ++ dvs)) (Value.ref (s.heap.objs.size + 1) :: (us ++ ds)):=.cons rfl (r.append hd)
 have hl:(Value.ref (s.heap.objs.size + 1) :: us ++ ds).length=ps.length:=by
  have e:=r2.length
  rw [F.len _ _ _ _ hq] at e
  exact e.symm
 refine wpAny_call (DU (f:=f) I.lR M.makes M.init (beq_iff_eq.mp M.fn) (codeAny_mono (F.run _ X.stack _ _ ⟨Value.ref (s.heap.objs.size + 1) :: us,[]⟩ (Value.ref (s.heap.objs.size + 1) :: (us ++ ds)) _ _ E (hr.make C us [])
  (I2.MX.make C us []) (hb _ (Value.ref (s.heap.objs.size + 1) :: us) I2.lR hl) r2 hq) λr s' hq'=>?_))
 cases r with
 | error e=>exact hx pins σ _ _ e s' I2 hq'
 | ok fl =>
  cases fl with
  | ret u =>
   obtain ⟨v,H',I3,rv,ev,q3⟩:=I2.after hq'
   subst ev
   exact ⟨rv,⟨V.ref (s.heap.objs.size + 1),H',I3,rfl,q3⟩⟩
  | next=>exact False.elim hq'
  | brk=>exact False.elim hq'
  | cont=>exact False.elim hq'
theorem Hg (M:Mk X.K C f) (F:aQ X.prog X.w X.K X.mg X.base CX k f fd ps sp) (hr:bS (k + 1) X.A) (hg:Gl X x) (hm:X.mg x=some (.ref C)) (hb:Binds X.K fd ps ds) (hd:Vals dvs ds) (hx:Passes CX X E)
  (ha:PA X (e :: es) t) (hdb:(x == ("__debug__":Str))=false:=by decide) (he:starEach (e :: es) X.env=(false,eval e X.env) :: starEach es X.env:=by rfl) (hpl:(backTo pos (starEach es X.env)).any (·.1)=false:=by rfl) :
  PE X (.Call (.Name x p) (e :: es) [] pos) (Fs C sp dvs E t):=by
 intro pins s σ H Q I h
 refine wpAny_Call_Name_kw (kE I hg hm ?_ hdb)
 refine PySem.W.callWith_K (h₀:=X.base) I.ok.mod.kin M.kp (cA (ha pos pins s σ H _ I h) λus s1 ⟨vs,H1,I1,r,q⟩=>⟨I1.lR,?_⟩) he hpl
 exact xt M F hr hb hd hx I1 r q
theorem Ep (M:Mk X.K C f) (F:aQ X.prog X.w X.K X.mg X.base CX k f fd ps sp) (hr:bS (k + 1) X.A) (hg:Gl X x) (hm:X.mg x=some (.ref C)) (hb:Binds X.K fd ps ds) (hd:Vals dvs ds) (hx:Passes CX X E)
  (hdb:(x == ("__debug__":Str))=false:=by decide):PE X (.Call (.Name x p) [] [] pos) (Fs C sp dvs E v3):=by
 intro pins s σ H Q I h
 refine wpAny_Call_Name_kw (kE I hg hm ?_ hdb)
 exact PySem.W.callWith_K0 I.lR M.kp (xt (us:=[]) M F hr hb hd hx I .nil h)
end
section
variable {X:Cx} {CX:p5} {k:Nat} {f C:Addr} {fd:FuncData} {ps ks:List Str} {sp:Sp} {E:XK} {x m:Str} {p pos apos kpos:Pos} {e o:Expr} {es:List Expr} {kws:List Keyword} {te ta:TE} {t tk:TA} {nm:Option Str}
variable {g:List Value→List Value→List Value} {gV:List V→List V→List V}
end
structure aw (N P:List Str) (sc:Scope):Prop where
 kind:sc.kind=.function
 co:sc.isCoroutine=false
 gen:sc.isGenerator=false
 nd:N.Nodup
 pre:N.take P.length=P
 par:∀x∈P,sc.names.lookup x=some .local∨sc.names.lookup x=some .cell
 nofree:∀y∈sc.names,y.2≠.free
theorem tE {kindOf:Str→Option NameKind} {x:Str}:∀{binds:List (Str × Value)} {m:Str→Option Value},(∀v,(x,v) ∉ binds)→bindL kindOf binds m x=m x
 | [],_,_=>rfl
 | (n,v) :: r,m,h=>by
  unfold bindL
  rw [tE λw hw=>h w (SI _ hw)]
  split
  ·have:x≠n:=by rintro rfl;exact h v SY
   simp [this]
  ·rfl
theorem tw {kindOf:Str→Option NameKind} {x:Str}:∀{binds:List (Str × Value)} {m:Str→Option Value},(∀v,(x,v) ∉ binds)→bindC kindOf binds m x=m x
 | [],_,_=>rfl
 | (n,v) :: r,m,h=>by
  unfold bindC
  rw [tw λw hw=>h w (SI _ hw)]
  split
  ·rfl
  ·have:x≠n:=by rintro rfl;exact h v SY
   simp [this]
theorem tD {kindOf:Str→Option NameKind} {x:Str} {v:Value}:∀{P:List Str} {vs:List Value} {i:Nat} {m:Str→Option Value},P.Nodup→P[i]?=some x→vs[i]?=some v→kindOf x=some .local →
  bindL kindOf (P.zip vs) m x=some v
 | [],_,_,_,_,h,_,_=>by simp at h
 | _ :: _,[],_,_,_,_,h,_=>by simp at h
 | p :: P,w :: vs,0,m,nd,h1,h2,hk=>by
  simp at h1 h2;subst h1;subst h2
  show bindL kindOf ((p,w) :: P.zip vs) m p=_
  unfold bindL
  rw [tE λv hv=>(TB.mp nd).1 (Ux hv).1,if_pos hk]
  simp
 | p :: P,w :: vs,i + 1,m,nd,h1,h2,hk=>by
  show bindL kindOf ((p,w) :: P.zip vs) m x=_
  unfold bindL
  exact tD (i:=i) (TB.mp nd).2 (by simpa using h1) (by simpa using h2) hk
theorem tu {kindOf:Str→Option NameKind} {x:Str} {v:Value}:∀{P:List Str} {vs:List Value} {i:Nat} {m:Str→Option Value},P.Nodup→P[i]?=some x→vs[i]?=some v→kindOf x≠some .local →
  bindC kindOf (P.zip vs) m x=some v
 | [],_,_,_,_,h,_,_=>by simp at h
 | _ :: _,[],_,_,_,_,h,_=>by simp at h
 | p :: P,w :: vs,0,m,nd,h1,h2,hk=>by
  simp at h1 h2;subst h1;subst h2
  show bindC kindOf ((p,w) :: P.zip vs) m p=_
  unfold bindC
  rw [tw λv hv=>(TB.mp nd).1 (Ux hv).1,if_neg hk]
  simp
 | p :: P,w :: vs,i + 1,m,nd,h1,h2,hk=>by
  show bindC kindOf ((p,w) :: P.zip vs) m x=_
  unfold bindC
  exact tu (i:=i) (TB.mp nd).2 (by simpa using h1) (by simpa using h2) hk
def start (N:List Str) (vs:List V):St:=vs.map some ++ To (N.length - vs.length) none
def uA (CX:p5) (P:Program) (w:World) (K:PySem.W.Frag) (mg:Str→Option Value) (base:Heap) (N:List Str) (qual:Str) (scope:Scope) (f:Addr) (cd:Value) (A:Around) (outer:List Env) (s:Shared) (H:Hp) (E:XK):Cx where
 prog:=P
 w:=w
 K:=K
 mg:=mg
 base:=base
 A:=A.deeper (envOfC qual scope s.heap.objs.size f cd)
 N:=N
 s₀:=s
 H₀:=H
 env:=envOfC qual scope s.heap.objs.size f cd
 outer:=outer
 stack:=envOfC qual scope s.heap.objs.size f cd :: outer
 ex:=[]
 calm:=true
 fn:=λ_=>true
 pn:=[]
 xe:=λe s'=>wpAny (model P w) (A.deeper (envOfC qual scope s.heap.objs.size f cd)) (leaving (envOfC qual scope s.heap.objs.size f cd) e) (λ_ s''=>CX outer H s E e s'') (λe' s''=>CX outer H s E e' s'') s'
theorem wt {sc:Scope} {n:Nat} {x:Str} (h:sc.names.lookup x=some .cell):∃c,(cellsFrom n sc.names []).lookup x=some c:=by
 have q:=PySem.W.cellsFrom_some sc.names n [] (.inl h)
 exact Ul.mp q
theorem Bx {CX:p5} {P:Program} {w:World} {K:PySem.W.Frag} {mg:Str→Option Value} {base:Heap} {N ps:List Str} {qual:Str} {scope:Scope} {f:Addr} {cd:Value} {A:Around} {outer:List Env} {s s1:Shared} {H:Hp} {E:XK} {us:List Value} {vs:List V}
  (S:aw N ps scope) (hd:A.handled=none) (e0:x5 P w K mg base A outer s H) (hl:vs.length=ps.length) (r:Vals vs us)
  (x:InCallC s s.heap.objs.size (bindL (envOfC qual scope s.heap.objs.size f cd).kindOf (ps.zip us) λ_=>none) (cellsFrom (s.heap.objs.size + 1) scope.names []) (bindC (envOfC qual scope s.heap.objs.size f cd).kindOf (ps.zip us) λ_=>none) s1) :
  Inv (uA CX P w K mg base N qual scope f cd A outer s H E) [] (start N vs) H s1:=by
 have hpl:ps.length≤N.length:=by have:=congrArg TV S.pre;rw [SK] at this;omega
 obtain ⟨h1,tk,rfl,hk⟩:=x.done
 have noA:∀b:Addr,b ∉ (uA CX P w K mg base N qual scope f cd A outer s H E).ex:=λb z=>absurd (show b∈([]:List Addr) from z) (by simp)
 refine ⟨⟨e0.mod,S.kind,rfl,rfl,So _,λy z c h1 h2=>?_,λy hy=>?_,λy c _ h=>?_,λ_=>hd,Around.frames_deeper e0.frames,.inr ⟨rfl,rfl⟩,λb z=>absurd z (noA b),e0.bs,e0.bsz,λb _ _=>noA b,λb z=>absurd z (noA b),e0.lP,e0.frf⟩,
  rfl,e0.bare,Un.kept hk,⟨_,x.toInCall.ns,λi y v h1 h2 h3=>?_⟩,λy c h=>⟨_,x.cell y c h⟩,e0.hok.fresh (So _),λy c h=>?_,λp hp=>absurd (show p∈([]:List (Addr × Obj)) from hp) (by simp),e0.hok.kept hk,?_⟩
 ·exact name_of_addr x.apart (PySem.mem_of_lookup h1) (PySem.mem_of_lookup h2)
 ·have hy:scope.names.lookup y=some .cell∨scope.names.lookup y=some .free:=hy
  rcases hy with hy | hy
  ·exact wt hy
  ·exact absurd rfl (S.nofree _ (PySem.mem_of_lookup hy))
 ·exact T_ (x.above y c (PySem.mem_of_lookup h))
 ·have hi:i < vs.length:=by
   unfold start at h2
   by_cases hi:i < vs.length
   ·exact hi
   ·rw [Ts (by simpa using hi)] at h2
    rw [Up] at h2
    split at h2 <;> cases h2
  have ha:vs[i]?=some v:=by
   unfold start at h2
   rw [Tw (by simpa using hi),Sl] at h2
   cases e:vs[i]? with
   | none=>rw [e] at h2;cases h2
   | some a=>rw [e] at h2;cases h2;rfl
  obtain ⟨u,hu,rv⟩:=r.get ha
  have hp:ps[i]?=some y:=by
   rw [← S.pre,List.getElem?_take_of_lt (by omega)];exact h1
  have ndP:ps.Nodup:=by rw [← S.pre];exact S.nd.sublist (Td _ _)
  refine ⟨u,rv,?_⟩
  rcases S.par y (Sv hp) with k | k
  ·exact .inl ⟨k,tD ndP hp hu k⟩
  ·obtain ⟨c,e⟩:=wt (n:=s.heap.objs.size + 1) k
   refine .inr ⟨.inl k,c,e,?_⟩
   have q:=x.cell y c e
   rw [tu ndP hp hu (by show scope.names.lookup y≠_;rw [k];decide)] at q
   exact q
 ·exact e0.hok.fresh (T_ (x.above y c (PySem.mem_of_lookup h)))
 ·unfold start
  show _=N.length
  rw [SF,Sg,Uy]
  omega
theorem Dj {CX:p5} {P:Program} {w:World} {K:PySem.W.Frag} {mg:Str→Option Value} {base:Heap} {k:Nat} {f:Addr} {name qual:Str} {params:Arguments} {body:List Stmt} {scope:Scope} {dV kV doc pm cdv ct oc:Value} {an od:Option Addr}
  {osl:Array (Option Value)} {N ps:List Str} {sp:Sp} (lk:K.lookup f=some ⟨oc,od,.func (PySem.W.fnOf name qual params body scope dV kV doc pm an cdv ct),osl⟩) (hcd:PySem.W.codeIn K cdv qual=true) (S:aw N ps scope)
  (len:∀vs H Q E,sp vs H Q E→vs.length=ps.length)
  (hbody:∀(A:Around) (outer:List Env) (s:Shared) (H:Hp) (vs:List V) (Q:VK) (E:XK),bS k (A.deeper (envOfC qual scope s.heap.objs.size f cdv))→sp vs H Q E →
   ∃t,rJ (uA CX P w K mg base N qual scope f cdv A outer s H E) body t∧t { nx:=λ_ H'=>Q .non H',rt:=Q } (start N vs) H) :
  aQ P w K mg base CX (k + 1) f (PySem.W.fnOf name qual params body scope dV kV doc pm an cdv ct) ps sp:=by
 refine ⟨len,λA outer s H args us vs Q E hr e0 hb r hsp=>?_⟩
 have hl:=len _ _ _ _ hsp
 have KX:K.In s.heap:=e0.mod.kin.keeps λb o e=>(e0.bs b o e).1
 have lim:s.heap.NoLimit:=e0.mod.nolimit.keeps λb o e=>(e0.bs b o e).1
 have hkind:∀y∈ps.zip us,scope.names.lookup y.1=some .local∨(scope.names.lookup y.1=some .cell∧((cellsFrom (s.heap.objs.size + 1) scope.names []).lookup y.1).isSome=true):=λ⟨n,v⟩ hy=>by
  rcases S.par n (Ux hy).1 with q | q
  ·exact .inl q
  ·exact .inr ⟨q,PySem.W.cellsFrom_some _ _ _ (.inl q)⟩
 refine codeAny_call_function hr.depth (KX _ _ lk) rfl S.co S.gen rfl (PySem.W.codeRec_of KX hcd) (hb _ _ _ _ ?_)
 refine wpAny_newFunctionEnv_cells S.kind hkind λenv he s1 x=>?_
 subst he
 refine ⟨lim.keeps x.toInCall.keep,codeAny_func ?_⟩
 obtain ⟨t,ht,hq⟩:=hbody A outer s H vs Q E (hr.deeper _) hsp
 have I:Inv (uA CX P w K mg base N qual scope f cdv A outer s H E) [] (start N vs) H s1:=Bx S hr.hd e0 hl r x
 refine wpAny_mono (ht [] s1 (start N vs) H _ I hq) (λfl s' hs=>?_) λe s' hs=>hs
 have fin:∀{σ':St} {H':Hp} {v:V} {u:Value},Inv (uA CX P w K mg base N qual scope f cdv A outer s H E) [] σ' H' s'→RelV v u→Q v H'→CE outer P w H s Q u s' :=
  λ{σ' H' v u} J rv q=>⟨v,H',J.os,J.bare,J.base,J.hok,rv,q⟩
 cases fl with
 | ret u =>
  obtain ⟨v,σ',H',J,rv,q⟩:=hs
  exact fin J rv q
 | next =>
  obtain ⟨σ',H',J,q⟩:=hs
  exact fin (v:=V.non) (u:=Value.none) J rfl q
 | brk =>
  obtain ⟨_,_,_,q⟩:=hs
  exact False.elim q
 | cont =>
  obtain ⟨_,_,_,q⟩:=hs
  exact False.elim q
end L2
namespace L2
open PySem PySem.Spec PyProof.Rows
section
variable {X:Cx} {x:Str} {p pos:Pos} {e:Expr} {es:List Expr} {t:TA} {id T:String} {r:List V→Hp→VK→Prop}
def HX (r:List V→Hp→VK→Prop) (t:TA):TE:=λσ H Q=>t σ H λvs H1=>r vs H1 Q
theorem bH (hc:b7 X (.builtin id) r) (hg:Gl X x) (hm:X.mg x=none) (hv:bootBuiltins x=some (.builtin id)) (ha:PA X (e :: es) t) (hn:x≠"__name__":=by decide) (hdb:(x == ("__debug__":Str))=false:=by decide)
  (he:starEach (e :: es) X.env=(false,eval e X.env) :: starEach es X.env:=by rfl) (hpl:(backTo pos (starEach es X.env)).any (·.1)=false:=by rfl):PE X (.Call (.Name x p) (e :: es) [] pos) (HX r t):=by
 intro pins s σ H Q I h
 refine wpAny_Call_Name_kw (nY I hg hm hv ?_ hn hdb)
 exact PyProof.Rows.callWith_builtin1 (cA (ha pos pins s σ H _ I h) λus s1 ⟨vs,H1,I1,r1,q1⟩=>hc pins s1 σ H1 vs us Q I1 r1 q1) he hpl
theorem og (hc:b7 X (.type T) r) (hg:Gl X x) (hm:X.mg x=none) (hv:bootBuiltins x=some (.type T)) (ha:PA X (e :: es) t) (hn:x≠"__name__":=by decide) (hdb:(x == ("__debug__":Str))=false:=by decide)
  (he:starEach (e :: es) X.env=(false,eval e X.env) :: starEach es X.env:=by rfl) (hpl:(backTo pos (starEach es X.env)).any (·.1)=false:=by rfl):PE X (.Call (.Name x p) (e :: es) [] pos) (HX r t):=by
 intro pins s σ H Q I h
 refine wpAny_Call_Name_kw (nY I hg hm hv ?_ hn hdb)
 exact PyProof.Rows.callWith_type1 (cA (ha pos pins s σ H _ I h) λus s1 ⟨vs,H1,I1,r1,q1⟩=>hc pins s1 σ H1 vs us Q I1 r1 q1) he hpl
end
end L2
namespace HT
open PySem PyProof.Rows
def lexLt:List Int→List Int→Bool
 | [],[]=>false
 | [],_ :: _=>true
 | _ :: _,[]=>false
 | x :: xs,y :: ys=>if x=y then lexLt xs ys else decide (x < y)
section
open PySem.SeqAt
open PySem.AutoSeq1 (wpAny_loadPart')
open PySem.MeetsSeq PySem.MeetsSeq2 PySem.MeetsSeq3
end
section
variable {prog:Program} {w:World} {A:Around} {E:Value→Shared→Prop} {s:Shared}
def dT (n d:Nat):Option Int→Nat
 | none=>d
 | some v=>if v < 0 then (v + (n:Int)).toNat else min v.toNat n
theorem qR (n d:Nat):dT n d none=d:=rfl
theorem pQ (n d k:Nat):dT n d (some (k:Int))=min k n:=by
 show (if (k:Int) < 0 then ((k:Int) + (n:Int)).toNat else min (k:Int).toNat n)=min k n
 rw [if_neg (by omega),Int.toNat_natCast]
theorem LJ (n d:Nat) (hd:d≤n) (o:Option Int):dT n d o≤n:=by
 cases o with
 | none=>exact hd
 | some v =>
  show (if v < 0 then (v + (n:Int)).toNat else min v.toNat n)≤n
  by_cases hv:v < 0
  ·rw [if_pos hv];omega
  ·rw [if_neg hv];exact Nat.min_le_right _ _
theorem zx (v:Int) (n d:Nat):(if v < 0 then max (v + (n:Int)) 0 else min v (n:Int))=((dT n d (some v):Nat):Int):=by
 show (if v < 0 then max (v + (n:Int)) 0 else min v (n:Int))=(((if v < 0 then (v + (n:Int)).toNat else min v.toNat n):Nat):Int)
 by_cases hv:v < 0
 ·simp only [if_pos hv];omega
 ·simp only [if_neg hv];omega
theorem yc (lo hi:Option Int) (n:Nat):Builtin.Slice.sliceAdjust lo hi 1 (n:Int)=(((dT n 0 lo:Nat):Int),((dT n n hi:Nat):Int)):=by
 have h1:¬ ((1:Int) < 0):=by omega
 unfold Builtin.Slice.sliceAdjust
 simp only [h1,if_false]
 refine Prod.ext ?_ ?_
 ·cases lo with
  | none=>rfl
  | some v=>exact zx v n 0
 ·cases hi with
  | none=>rfl
  | some v=>exact zx v n n
theorem yU (i j:Nat):Builtin.Slice.slicePlaces (i:Int) (j:Int) 1=j - i:=by
 unfold Builtin.Slice.slicePlaces
 have h1:(1:Int) > 0:=by omega
 simp only [h1,if_true,Int.ediv_one]
 split <;> omega
theorem q_ {v:Value} {o:Option Int} {Q:Option Int→Shared→Prop} (p:IsPart v o) (h:Q o s):wpAny (model prog w) A (Builtin.Slice.slicePartIndex v) Q E s:=by
 cases p with
 | none=>exact slicePart_none h
 | int i t=>exact slicePart_int h
theorem oG {sl:Addr} {vl vu:Value} {lo hi:Option Int} {n:Nat} {Q:Int × Int × Nat→Shared→Prop} (hs:s.heap.IsSliceOf sl vl vu .none) (pl:IsPart vl lo) (pu:IsPart vu hi)
  (h:Q (((dT n 0 lo:Nat):Int),1,dT n n hi - dT n 0 lo) s):wpAny (model prog w) A (Builtin.Slice.sliceApplied (.ref sl) (pure (n:Int))) Q E s:=by
 obtain ⟨os,hos,hcs,hds⟩:=id hs
 unfold Builtin.Slice.sliceApplied Builtin.Slice.sliceFields
 refine wpAny_bind (wpAny_bind (wpAny_field hos hds (x:=vl) rfl (wpAny_bind (wpAny_field hos hds (x:=vu) rfl (wpAny_bind (wpAny_field hos hds (x:=.none) rfl (wpAny_pure ?_)))))))
 refine wpAny_bind (slicePart_none ?_)
 show wpAny _ _ (if ((1:Int) == 0)=true then _ else _) _ _ s
 rw [if_neg (by decide)]
 refine wpAny_bind (q_ pl (wpAny_bind (q_ pu (wpAny_bind (wpAny_pure ?_)))))
 show wpAny _ _ (match Builtin.Slice.sliceAdjust lo hi 1 (n:Int) with | (lo,hi)=>pure (lo,(1:Int),Builtin.Slice.slicePlaces lo hi 1)) _ _ s
 rw [yc lo hi n]
 show wpAny _ _ (pure (((dT n 0 lo:Nat):Int),(1:Int),Builtin.Slice.slicePlaces ((dT n 0 lo:Nat):Int) ((dT n n hi:Nat):Int) 1)) _ _ s
 rw [yU]
 exact wpAny_pure h
theorem Eu (xs:Array Value) (i k:Nat):((S8 k).filterMap λ(m:Nat)=>xs[((i:Int) + (m:Int) * 1).toNat]?).toArray=((xs.toList.drop i).take k).toArray:=by
 have e:(λ(m:Nat)=>xs[((i:Int) + (m:Int) * 1).toNat]?)=λm=>xs[i + m]?:=by
  funext m
  have:((i:Int) + (m:Int) * 1).toNat=i + m:=by omega
  rw [this]
 rw [e]
 have:=pick_run xs i k
 rw [List.filterMap_map] at this
 have e2:((λx=>xs[x]?) ∘ λx=>i + x)=λm=>xs[i + m]?:=rfl
 rw [e2] at this
 rw [this]
theorem mC {t sl:Addr} {items:Array Value} {vl vu:Value} {lo hi:Option Int} {Q:Value→Shared→Prop} (ht:IsTup s.heap t items) (hs:s.heap.IsSliceOf sl vl vu .none) (pl:IsPart vl lo) (pu:IsPart vu hi)
  (hw:¬ (dT items.size 0 lo=0∧dT items.size items.size hi=items.size))
  (h:Q (.ref s.heap.objs.size) { s with heap:=s.heap.push { cls:=.type "tuple",data:=.seq ((items.toList.drop (dT items.size 0 lo)).take (dT items.size items.size hi - dT items.size 0 lo)).toArray } })
  (hsz:items.size≤sizeLine):wpAny (model prog w) A (getItem (.ref t) (.ref sl)) Q E s:=by
 have htake:sizeOk (.seq ((items.toList.drop (dT items.size 0 lo)).take (dT items.size items.size hi - dT items.size 0 lo)).toArray):=by
  show ((items.toList.drop (dT items.size 0 lo)).take (dT items.size items.size hi - dT items.size 0 lo)).toArray.size≤sizeLine
  rw [Sn,SK,TF,Array.length_toList]
  omega
 have hj:dT items.size items.size hi≤items.size:=LJ _ _ (So _) hi
 obtain ⟨os,hos,hcs,hds⟩:=id hs
 have hTs:s.TypeIs (.ref sl) "slice":=⟨os,hos,hcs⟩
 unfold getItem
 try with_reducible refine wpAny_holding ?_
 first | refine wpAny_bind (wpAny_pure ?_) | skip
 refine wpAny_bind (wpAny_sequenceKey ht.typeIs (by decide) ?_)
 refine wpAny_bind (wpAny_callSpecial?_slot (name:=Str.ofString "__getitem__") ht.typeIs PyProof.Rows.slot_tuple_getitem
  (wpAny_call_entry PyProof.Rows.slot_tuple_getitem ht.typeIs entry_tuple_getitem ?_ (args_tuple_getitem _ _)))
 show wpAny _ _ (Builtin.Tuple.tupleItemsOf (.ref t) >>= _) _ _ s
 refine wpAny_bind (tupleItemsOf_ ht ?_)
 refine wpAny_bind (wpAny_typeOf hTs ?_)
 rw [if_pos (by decide)]
 refine wpAny_bind (oG hs pl pu ?_)
 have hno:¬ ((((dT items.size 0 lo:Nat):Int) == 0 && (1:Int) == 1 && (dT items.size items.size hi - dT items.size 0 lo) == items.size)=true):=by
  intro q
  rw [SR,SR] at q
  have q1:((dT items.size 0 lo:Nat):Int)=0:=eq_of_beq q.1.1
  have q2:dT items.size items.size hi - dT items.size 0 lo=items.size:=eq_of_beq q.2
  exact hw ⟨by omega,by omega⟩
 show wpAny _ _ (if (((dT items.size 0 lo:Nat):Int) == 0 && (1:Int) == 1 && (dT items.size items.size hi - dT items.size 0 lo) == items.size)=true then _ else _) _ _ s
 rw [if_neg hno,Eu]
 first
  | exact wpAny_bind (m:=Builtin.Tuple.tupleExact _) (wpAny_newObj_type (wpAny_pure ⟨_,rfl,wpAny_pure h⟩) htake)
  | exact wpAny_bind (m:=Builtin.Tuple.tupleExact _) (wpAny_newObj_type (wpAny_bind (wpAny_pure (wpAny_pure ⟨_,rfl,wpAny_pure h⟩))) htake)
  | exact wpAny_bind (wpAny_bind (m:=Builtin.Tuple.tupleExact _) (wpAny_newObj_type (wpAny_pure (wpAny_pure ⟨_,rfl,wpAny_pure h⟩)) htake))
  | exact wpAny_bind (wpAny_bind (m:=Builtin.Tuple.tupleExact _) (wpAny_newObj_type (wpAny_pure ⟨_,rfl,wpAny_pure h⟩) htake))
end
end HT
namespace L2
open PySem PySem.Spec PyProof.Rows
abbrev TO:=St→Hp→(Option Int→Hp→Prop)→Prop
def PO (X:Cx) (e:Option Expr) (t:TO):Prop :=
 ∀(pins:List (Addr × Obj)) (s:Shared) (σ:St) (H:Hp) (Q:Option Int→Hp→Prop),Inv X pins σ H s→t σ H Q →
  wpAny (model X.prog X.w) X.A (evalPart e X.env) (λu s'=>∃o H',Inv X pins σ H' s'∧IsPart u o∧Q o H') X.xe s
def pX:TO:=λ_ H Q=>Q none H
def AR (t:TE):TO:=λσ H Q=>t σ H λx H1=>∃i,x=.int i∧Q (some i) H1
theorem intsAre_of {ns:List Int}:∀{us:List Value},Vals (ns.map V.int) us→IntsAre us ns:=by
 induction ns with
 | nil=>intro us r;rw [Ta] at r;cases r;exact .nil
 | cons n ns ih =>
  intro us r
  rw [Sm] at r
  cases r with
  | cons r1 r2 =>
   obtain ⟨t,e⟩:=r1
   subst e
   exact .cons n t (ih r2)
section
variable {X:Cx} {e:Expr} {te:TE} {lo hi:Option Expr} {tl th:TO} {pos p2:Pos}
theorem pK:PO X none pX:=by
 intro pins s σ H Q I h
 rw [evalPart_none]
 exact wpAny_pure ⟨none,H,I,.none,h⟩
theorem kH (h:PE X e te):PO X (some e) (AR te):=by
 intro pins s σ H Q I hw
 rw [evalPart_some]
 refine cA (h pins s σ H _ I hw) λu s1 ⟨x,H1,I1,r1,q1⟩=>?_
 obtain ⟨i,rfl,q⟩:=q1
 obtain ⟨t,rfl⟩:=r1
 exact ⟨some i,H1,I1,.int i t,q⟩
def rK (X:Cx) (r:V→Option Int→Option Int→Hp→VK→Prop):Prop :=
 ∀(pins:List (Addr × Obj)) (s:Shared) (σ:St) (H:Hp) (x:V) (v vl vu:Value) (lo hi:Option Int) (sl:Addr) (Q:VK),Inv X pins σ H s→RelV x v→s.heap.IsSliceOf sl vl vu .none→IsPart vl lo→IsPart vu hi→r x lo hi H Q →
  ∃T id,typeLookup (.type T) "__getitem__"=pure (some (.builtin id))∧s.TypeIs v T∧wpAny (model X.prog X.w) X.A (getItem v (.ref sl)) (EP X pins σ Q) X.xe s
theorem rK.or {r r':V→Option Int→Option Int→Hp→VK→Prop} (h:rK X r) (h':rK X r'):rK X (λx lo hi H Q=>r x lo hi H Q∨r' x lo hi H Q):=by
 intro pins s σ H x v vl vu lo hi sl Q I rx hs pl pu q
 rcases q with q | q
 ·exact h pins s σ H x v vl vu lo hi sl Q I rx hs pl pu q
 ·exact h' pins s σ H x v vl vu lo hi sl Q I rx hs pl pu q
def Pb (r:V→Option Int→Option Int→Hp→VK→Prop) (te:TE) (tl th:TO):TE:=λσ H Q=>te σ H λx H1=>tl σ H1 λl H2=>th σ H2 λu H3=>r x l u H3 Q
theorem jU {r:V→Option Int→Option Int→Hp→VK→Prop} (hr:rK X r) (he:PE X e te) (hl:PO X lo tl) (hu:PO X hi th):PE X (.Subscript e (.Slice lo hi none p2) pos) (Pb r te tl th):=by
 intro pins s σ H Q I h
 refine Subscript_ (cA (he pins s σ H _ I h) λv s1 ⟨x,H1,I1,r1,q1⟩=>?_)
 refine wpAny_Slice (cA (hl pins s1 σ H1 _ I1 q1) λvl s2 ⟨l,H2,I2,pl,q2⟩=>cA (hu pins s2 σ H2 _ I2 q2) λvu s3 ⟨u,H3,I3,pu,q3⟩=>?_)
 rw [evalPart_none]
 refine wpAny_pure ?_
 have I4:Inv X pins σ H3 { s3 with heap:=s3.heap.push { cls:=.type "slice",data:=.fields #[vl,vu,.none] } }:=I3.kept (t':=s3.toks) λb ob q=>Heap.get?_push_of_some _ q
 obtain ⟨T,id,hT,ht,hg⟩:=hr pins { s3 with heap:=s3.heap.push { cls:=.type "slice",data:=.fields #[vl,vu,.none] } } σ H3 x v vl vu l u s3.heap.objs.size Q I4 r1 (Heap.IsSliceOf.new ..) pl pu q3
 show wpAny (model X.prog X.w) X.A (subscriptTail e (.Slice lo hi none p2) v (.ref s3.heap.objs.size)) (EP X pins σ Q) X.xe { s3 with heap:=s3.heap.push { cls:=.type "slice",data:=.fields #[vl,vu,.none] } }
 exact tail_any (ops:=[.ref s3.heap.objs.size,v]) ht hT hg (by with_unfolding_all rfl)
def nQ (xs:List V) (lo hi:Option Int):List V:=(xs.drop (HT.dT xs.length 0 lo)).take (HT.dT xs.length xs.length hi - HT.dT xs.length 0 lo)
theorem oR (xs:List V) (lo hi:Option Int):(nQ xs lo hi).length≤xs.length:=by
 unfold nQ
 rw [SK,TF]
 omega
def Qx (K:PySem.W.Frag):V→Option Int→Option Int→Hp→VK→Prop:=λx lo hi H Q=>∃a xs,x=.ref a∧gJ K H a xs ∧
 ¬ (HT.dT xs.length 0 lo=0∧HT.dT xs.length xs.length hi=xs.length)∧∀p,H p=none→Q (.ref p) (upd H p (.tup (nQ xs lo hi)))
theorem LP:rK X (Qx X.K):=by
 intro pins s σ H x v vl vu lo hi sl Q I rx hs pl pu h
 obtain ⟨a,xs,rfl,hx,hw,q⟩:=h
 cases rx
 obtain ⟨its,r,ht,hz⟩:=I.tuple hx
 have hlen:its.toArray.size=xs.length:=by rw [Sn];exact r.length.symm
 refine ⟨"tuple",_,PyProof.Rows.slot_tuple_getitem.lookup,ht.typeIs,?_⟩
 refine HT.mC ht hs pl pu (by rw [hlen];exact hw) ?_ (by rw [hlen];exact hz)
 rw [hlen]
 refine ⟨.ref s.heap.objs.size,_,I.laid (t':=s.toks) (o:=.tup (nQ xs lo hi)) (λb ob q=>Heap.get?_push_of_some _ q) (So _) ?_,rfl,q _ (I.hok.fresh (So _))⟩
 exact ⟨SH (oR xs lo hi) hz,_,(r.drop (HT.dT xs.length 0 lo)).take (HT.dT xs.length xs.length hi - HT.dT xs.length 0 lo),IsTup.new _ _⟩
end
end L2
namespace L2
open PySem PySem.Spec PyProof.Rows
def Cu (n:Nat) (i:Int):Option Nat:=if 0≤i then (if i < n then some i.toNat else none) else if -(n:Int)≤i then some (i + n).toNat else none
def di {α:Type} (xs:List α) (i:Int):Option α:=(Cu xs.length i).bind λj=>xs[j]?
theorem zV {n:Nat} {i:Int} {j:Nat} (h:Cu n i=some j):seqIndex? i n=some j∧j < n∧-(n:Int)≤i∧i < n:=by
 unfold Cu at h
 by_cases h0:0≤i
 ·rw [if_pos h0] at h
  by_cases h1:i < n
  ·rw [if_pos h1] at h
   have e:i.toNat=j:=Option.some.inj h
   exact ⟨by rw [seqIndex_of h0 h1,e],by omega,by omega,h1⟩
  ·rw [if_neg h1] at h;cases h
 ·rw [if_neg h0] at h
  by_cases h1:-(n:Int)≤i
  ·rw [if_pos h1] at h
   have e:(i + n).toNat=j:=Option.some.inj h
   exact ⟨by rw [seqIndex_neg (by omega) h1,e],by omega,h1,by omega⟩
  ·rw [if_neg h1] at h;cases h
theorem uw {α:Type} {xs:List α} {i:Int} {v:α} (h:di xs i=some v):∃j,seqIndex? i xs.length=some j∧xs[j]?=some v∧j < xs.length∧-(xs.length:Int)≤i∧i < xs.length:=by
 unfold di at h
 cases e:Cu xs.length i with
 | none=>rw [e] at h;cases h
 | some j =>
  rw [e] at h
  obtain ⟨h1,h2,h3,h4⟩:=zV e
  exact ⟨j,h1,h,h2,h3,h4⟩
theorem bB {α:Type} {xs:List α} {j:Nat} {v:α} (h:xs[j]?=some v):di xs (j:Int)=some v:=by
 have hj:j < xs.length:=(Sj.mp h).1
 have e:Cu xs.length (j:Int)=some j:=by
  unfold Cu
  rw [if_pos (by omega),if_pos (by omega)];simp
 unfold di;rw [e];exact h
def cV (b:Expr):Prop:=∀o i,subscripted b false o i=operate [o,i] (getItem o i)
def o5 (X:Cx) (r:R2):Prop :=
 ∀(value slice:Expr) (pins:List (Addr × Obj)) (s:Shared) (σ:St) (H:Hp) (x y:V) (v u:Value) (Q:VK),Inv X pins σ H s→RelV x v→RelV y u→r x y H Q →
  subscripted slice false v u=operate [v,u] (getItem v u)→wpAny (model X.prog X.w) X.A (subscriptTail value slice v u) (EP X pins σ Q) X.xe s
def o7 (X:Cx) (id:String) (r:V→List V→Hp→VK→Prop):Prop :=
 ∀(pins:List (Addr × Obj)) (s:Shared) (σ:St) (H:Hp) (x:V) (xs:List V) (v:Value) (us:List Value) (Q:VK),Inv X pins σ H s→RelV x v→Vals xs us→r x xs H Q →
  wpAny (model X.prog X.w) X.A (call (.builtin id) (v :: us)) (EP X pins σ Q) X.xe s
section
variable {X:Cx} {a b:Expr} {ta tb:TE} {pos:Pos}
theorem o5.or {r r':R2} (h:o5 X r) (h':o5 X r'):o5 X (λx y H Q=>r x y H Q∨r' x y H Q):=by
 intro value slice pins s σ H x y v u Q I rx ry q hs
 rcases q with q | q
 ·exact h value slice pins s σ H x y v u Q I rx ry q hs
 ·exact h' value slice pins s σ H x y v u Q I rx ry q hs
theorem o7.or {id:String} {r r':V→List V→Hp→VK→Prop} (h:o7 X id r) (h':o7 X id r'):o7 X id (λx xs H Q=>r x xs H Q∨r' x xs H Q):=by
 intro pins s σ H x xs v us Q I rx rs q
 rcases q with q | q
 ·exact h pins s σ H x xs v us Q I rx rs q
 ·exact h' pins s σ H x xs v us Q I rx rs q
theorem cm {r:R2} (hr:o5 X r) (ha:PE X a ta) (hb:PE X b tb) (hs:cV b):PE X (.Subscript a b pos) (Fu r ta tb):=by
 intro pins s σ H Q I h
 exact Subscript_ (Kh ha hb I h λv u s2 x y H2 I2 rx ry q=>hr a b pins s2 σ H2 x y v u Q I2 rx ry q (hs _ _))
def Ob (K:PySem.W.Frag):R2:=λx y H Q=>∃p xs i v,x=.ref p∧y=.int i∧dC K H p xs∧di xs i=some v∧Q v H
def Od (K:PySem.W.Frag):R2:=λx y H Q=>∃p xs i v,x=.ref p∧y=.int i∧gJ K H p xs∧di xs i=some v∧Q v H
def Oc:R2:=λx y H Q=>∃z i c,x=.str z∧y=.int i∧z.length≤sizeLine∧di z.cps.toList i=some c∧Q (.str ⟨#[c]⟩) H
theorem uH:o5 X (Ob X.K):=by
 intro value slice pins s σ H x y v u Q I rx ry h hs
 obtain ⟨p,xs,i,z,rfl,rfl,hq,he,q⟩:=h
 cases rx
 obtain ⟨t,rfl⟩:=ry
 obtain ⟨its,r,pl,hz⟩:=I.list hq
 obtain ⟨j,h1,h2,h3,h4,h5⟩:=uw he
 obtain ⟨w,ew,rw'⟩:=r.get h2
 have hl:=r.length
 have hn:=lT
 have fin:EP X pins σ Q w s:=⟨z,H,I,rw',q⟩
 by_cases h0:0≤i
 ·have hj:i.toNat=j:=by
   rw [seqIndex_of h0 h5] at h1
   exact Option.some.inj h1
  exact item_listR pl.isList h0 (by omega) (by rw [hj];simpa using ew) fin hs
 ·have hj:(i + (its.toArray.size:Int)).toNat=j:=by
   rw [seqIndex_neg (by omega) h4] at h1
   rw [Sn,← hl]
   exact Option.some.inj h1
  exact subscriptTail_builtinR (x:=w) pl.isList.typeIs slot_list_getitem.lookup
   (wpAny_getItem_list_neg (Q:=λr s'=>r=w∧EP X pins σ Q r s') pl.isList (by omega) (by rw [Sn] <;> omega) (by omega) (by rw [hj];simpa using ew) ⟨rfl,fin⟩) hs
theorem cX:o5 X (Od X.K):=by
 intro value slice pins s σ H x y v u Q I rx ry h hs
 obtain ⟨p,xs,i,z,rfl,rfl,hq,he,q⟩:=h
 cases rx
 obtain ⟨t,rfl⟩:=ry
 obtain ⟨its,r,pl,hz⟩:=I.tuple hq
 obtain ⟨j,h1,h2,h3,h4,h5⟩:=uw he
 obtain ⟨w,ew,rw'⟩:=r.get h2
 have hl:=r.length
 have hn:=lT
 have fin:EP X pins σ Q w s:=⟨z,H,I,rw',q⟩
 exact subscriptTail_builtinR (x:=w) pl.typeIs slot_tuple_getitem.lookup
  (getItem_tuple (j:=j) (Q:=λr s'=>r=w∧EP X pins σ Q r s') pl (by omega) (by omega) (by rw [Sn,← hl];exact h1) (by simpa using ew) ⟨rfl,fin⟩) hs
theorem DH:o5 X Oc:=by
 intro value slice pins s σ H x y v u Q I rx ry h hs
 obtain ⟨z,i,c,rfl,rfl,hz,he,q⟩:=h
 obtain ⟨t,rfl⟩:=rx
 obtain ⟨t',rfl⟩:=ry
 obtain ⟨j,h1,h2,h3,h4,h5⟩:=uw he
 have hl:z.cps.toList.length=z.length:=by simp [Str.length]
 rw [hl] at h1 h4 h5
 have hn:=lT
 exact tail_any (typeIs_str s z t) slot_str_getitem.lookup (getItem_str (c:=c) (by
  have e1:decide (i < -(2 ^ 63:Int))=false:=decide_eq_false (by omega)
  have e2:decide (i ≥ 2 ^ 63)=false:=decide_eq_false (by omega)
  rw [e1,e2,Bool.or_false]) (by rw [h1];simpa using h2) ⟨.str ⟨#[c]⟩,H,I.tok _,⟨_,rfl⟩,q⟩) hs
theorem yD (its:List Value) (n j:Nat) (u:Value):Obj.mapSeq (·.setIfInBounds j u) { cls:=.type "list",data:=.seq its.toArray n }={ cls:=.type "list",data:=.seq (its.set j u).toArray n }:=by
 simp [Obj.mapSeq]
theorem Inv.lst {pins:List (Addr × Obj)} {σ:St} {H:Hp} {s:Shared} {p:Addr} {xs:List V} (I:Inv X pins σ H s) (h:H p=some (.lst xs)) :
  ∃(its:List Value) (n:Nat),Vals xs its∧s.heap.get? p=some { cls:=.type "list",data:=.seq its.toArray n }∧xs.length≤sizeLine:=by
 obtain ⟨z,its,n,r,e⟩:=I.hok p _ h
 exact ⟨its,n,r,e,z⟩
theorem Inv.KW {pins:List (Addr × Obj)} {σ:St} {H:Hp} {s:Shared} {p:Addr} {xs ys:List V} {its its':List Value} {n n':Nat} {f:Obj→Obj} (I:Inv X pins σ H s) (h:H p=some (.lst xs))
  (ho:s.heap.get? p=some { cls:=.type "list",data:=.seq its.toArray n }) (hf:f { cls:=.type "list",data:=.seq its.toArray n }={ cls:=.type "list",data:=.seq its'.toArray n' }) (r:Vals ys its') (hz:ys.length≤sizeLine) (t:Nat) :
  Inv X pins σ (upd H p (.lst ys)) { s with heap:=s.heap.update p f,toks:=t }:=by
 have e:(s.heap.update p f).get? p=some { cls:=.type "list",data:=.seq its'.toArray n' }:=by
  rw [Heap.get?_update_self f ho (by rw [hf] <;> rfl),hf]
 refine I.write (x:=p) (e:=p) (by rw [h];trivial) (.inl rfl) (λb u hb q=>(Heap.get?_update_other _ _ (Ne.symm hb)).trans q) ⟨_,e⟩ ?_
 exact ⟨hz,its',n',r,e⟩
def Jr:V→V→V→Hp→(Hp→Prop)→Prop:=λo i v H Q=>∃p xs k j,o=.ref p∧i=.int k∧H p=some (.lst xs)∧Cu xs.length k=some j∧Q (upd H p (.lst (xs.set j v)))
theorem set_list:jt X Jr:=by
 intro pins s σ H o i v ov iv u Q I ro ri rv h
 obtain ⟨p,xs,k,j,rfl,rfl,hp,hj,q⟩:=h
 cases ro
 obtain ⟨t,rfl⟩:=ri
 obtain ⟨its,n,r,ho,hz⟩:=I.lst hp
 obtain ⟨h1,h2,h3,h4⟩:=zV hj
 have hl:=r.length
 have hn:=lT
 have I':Inv X pins σ (upd H p (.lst (xs.set j v))) { s with heap:=s.heap.update p (Obj.mapSeq (·.setIfInBounds j u)) } :=
  I.KW hp ho (yD its n j u) (r.set rv j) (by rw [TY];exact hz) s.toks
 by_cases h0:0≤k
 ·have hk:k.toNat=j:=by
   rw [seqIndex_of h0 h4] at h1
   exact Option.some.inj h1
  exact PySem.W.ki_setAt ho h0 (by omega) (by rw [Sn,← hl];exact h4) (by rw [hk];exact ⟨_,I',q⟩)
 ·have hk:(k + (its.toArray.size:Int)).toNat=j:=by
   rw [seqIndex_neg (by omega) h3] at h1
   rw [Sn,← hl]
   exact Option.some.inj h1
  exact PySem.W.ki_setBack ho (by omega) (by rw [Sn,← hl];exact h3) (by omega) (by rw [hk];exact ⟨_,I',q⟩)
theorem vS (lo hi:Option Int) (n:Nat):(sliceBounds lo hi none n).1=((HT.dT n 0 lo:Nat):Int)∧(sliceBounds lo hi none n).2.1=((HT.dT n n hi:Nat):Int)∧(sliceBounds lo hi none n).2.2=1:=by
 refine ⟨?_,?_,rfl⟩
 ·cases lo with
  | none=>simp [sliceBounds,HT.dT]
  | some i =>
   simp only [sliceBounds,HT.dT,UR,show (1:Int) > 0 by decide,if_true]
   by_cases h:i < 0
   ·simp only [h,if_true] <;> omega
   ·simp only [h,if_false] <;> omega
 ·cases hi with
  | none=>simp [sliceBounds,HT.dT]
  | some i =>
   simp only [sliceBounds,HT.dT,UR,show (1:Int) > 0 by decide,if_true]
   by_cases h:i < 0
   ·simp only [h,if_true] <;> omega
   ·simp only [h,if_false] <;> omega
theorem sZ (its:List Value) (lo hi:Option Int):slicePick its.toArray lo hi none=((its.drop (HT.dT its.length 0 lo)).take (HT.dT its.length its.length hi - HT.dT its.length 0 lo)).toArray:=by
 obtain ⟨h1,h2,h3⟩:=vS lo hi its.toArray.size
 unfold slicePick
 rw [h1,h2,h3]
 simp only [sliceRange_one,pick_run,Sn] <;> rfl
def Oq (K:PySem.W.Frag):V→Option Int→Option Int→Hp→VK→Prop:=λx lo hi H Q=>∃a xs,x=.ref a∧dC K H a xs∧∀p,H p=none→Q (.ref p) (upd H p (.lst (nQ xs lo hi)))
theorem vR:rK X (Oq X.K):=by
 intro pins s σ H x v vl vu lo hi sl Q I rx hs pl pu h
 obtain ⟨a,xs,rfl,hx,q⟩:=h
 cases rx
 obtain ⟨its,r,ht,hz⟩:=I.list hx
 have hlen:=r.length
 refine ⟨"list",_,slot_list_getitem.lookup,ht.isList.typeIs,?_⟩
 refine wpAny_getItem_list_slice ht.isList hs pl pu .none (by simp) ?_ (by rw [Sn] <;> omega)
 rw [sZ,← hlen]
 refine ⟨.ref s.heap.objs.size,_,I.laid (t':=s.toks) (o:=.lst (nQ xs lo hi)) (λb ob q=>Heap.get?_push_of_some _ q) (So _) ?_,rfl,q _ (I.hok.fresh (So _))⟩
 exact ⟨SH (oR xs lo hi) hz,_,0,(r.drop (HT.dT xs.length 0 lo)).take (HT.dT xs.length xs.length hi - HT.dT xs.length 0 lo),Heap.get?_push_size _ rfl⟩
def jj:V→Bool
 | .non=>true
 | .bl _=>true
 | .int _=>true
 | .str _=>true
 | _=>false
def FG:V→V→Bool
 | .non,.non=>true
 | .bl a,.bl b=>a == b
 | .bl a,.int b=>(if a then 1 else 0) == b
 | .int a,.bl b=>a == (if b then 1 else 0)
 | .int a,.int b=>a == b
 | .str a,.str b=>a == b
 | _,_=>false
theorem Kr {A:Around} {s:Shared} {y x:V} {u v:Value} (ry:RelV y u) (rx:RelV x v) (fy:jj y=true) (fx:jj x=true):SeqAt.EqAt A s u v (FG y x):=by
 cases y with
 | non =>
  cases ry
  cases x with
  | non=>cases rx;exact SeqAt.EqAt.same _
  | bl b=>cases rx;exact SeqAt.EqAt.none_bool b
  | int b=>obtain ⟨t,rfl⟩:=rx;exact SeqAt.EqAt.none_int b t
  | str b=>obtain ⟨t,rfl⟩:=rx;exact SeqAt.EqAt.none_str b t
  | _=>exact absurd (show false=true from fx) SD
 | bl a =>
  cases ry
  cases x with
  | non=>cases rx;exact SeqAt.EqAt.bool_none a
  | bl b=>cases rx;exact SeqAt.EqAt.bool_bool a b
  | int b=>obtain ⟨t,rfl⟩:=rx;exact SeqAt.EqAt.bool_int a b t
  | str b=>obtain ⟨t,rfl⟩:=rx;exact SeqAt.EqAt.bool_str a b t
  | _=>exact absurd (show false=true from fx) SD
 | int a =>
  obtain ⟨t',rfl⟩:=ry
  cases x with
  | non=>cases rx;exact SeqAt.EqAt.int_none a t'
  | bl b=>cases rx;exact SeqAt.EqAt.int_bool a t' b
  | int b=>obtain ⟨t,rfl⟩:=rx;exact SeqAt.EqAt.int_int a t' b t
  | str b=>obtain ⟨t,rfl⟩:=rx;exact SeqAt.EqAt.int_str a t' b t
  | _=>exact absurd (show false=true from fx) SD
 | str a =>
  obtain ⟨t',rfl⟩:=ry
  cases x with
  | non=>cases rx;exact SeqAt.EqAt.str_none a t'
  | bl b=>cases rx;exact SeqAt.EqAt.str_bool a t' b
  | int b=>obtain ⟨t,rfl⟩:=rx;exact SeqAt.EqAt.str_int a t' b t
  | str b=>obtain ⟨t,rfl⟩:=rx;exact SeqAt.EqAt.str_str a t' b t
  | _=>exact absurd (show false=true from fx) SD
 | _=>exact absurd (show false=true from fy) SD
def yi (x:V) (u:Value):Bool:=match u with
 | .none=>FG .non x
 | .bool b=>FG (.bl b) x
 | .int i _=>FG (.int i) x
 | .str z _=>FG (.str z) x
 | _=>false
theorem Dg {x y:V} {u:Value} (r:RelV y u) (f:jj y=true):yi x u=FG y x:=by
 cases y with
 | non=>cases r;rfl
 | bl b=>cases r;rfl
 | int i=>obtain ⟨t,rfl⟩:=r;rfl
 | str z=>obtain ⟨t,rfl⟩:=r;rfl
 | _=>exact absurd (show false=true from f) SD
theorem mr {x:V}:∀{xs:List V} {us:List Value},Vals xs us→xs.all jj=true→us.any (yi x)=xs.any λy=>FG y x
 | _,_,.nil,_=>rfl
 | y :: xs,u :: us,.cons r t,f=>by
  rw [UK,SR] at f
  rw [TZ,TZ,Dg r f.1,mr t f.2]
theorem jR {A:Around} {s:Shared} {x:V} {v:Value} (rx:RelV x v) (fx:jj x=true):∀{xs:List V} {us:List Value},Vals xs us→xs.all jj=true→∀u∈us,SeqAt.EqAt A s u v (yi x u)
 | _,_,.nil,_=>λu hu=>by cases hu
 | y :: xs,u :: us,.cons r t,f=>λu' hu=>by
  rw [UK,SR] at f
  rcases Sy.mp hu with rfl | hu
  ·rw [Dg r f.1];exact Kr r rx f.1 fx
  ·exact jR rx fx t f.2 u' hu
def Mo (x:V) (xs:List V):Bool:=xs.any λy=>FG y x
def RK (K:PySem.W.Frag) (neg:Bool):R2:=λx y H Q=>∃p xs,y=.ref p∧(dC K H p xs∨gJ K H p xs)∧jj x=true∧xs.all jj=true∧Q (.bl (if neg then !Mo x xs else Mo x xs)) H
theorem B4:fh X (compareOp .In) (RK X.K false):=by
 intro pins s σ H x y v u Q I rx ry h
 obtain ⟨p,xs,rfl,hq,fx,fs,q⟩:=h
 cases ry
 rcases hq with hq | hq
 ·obtain ⟨its,r,pl,hz⟩:=I.list hq
  refine SeqAt.in_listAt (yi x) pl.isList (λw hw=>jR rx fx r fs w (by simpa using hw)) ⟨.bl _,H,I,rfl,?_⟩
  rw [show its.toArray.any (yi x)=its.any (yi x) by simp,mr r fs]
  exact q
 ·obtain ⟨its,r,pl,hz⟩:=I.tuple hq
  refine SeqAt.in_tupleAt (yi x) pl (λw hw=>jR rx fx r fs w (by simpa using hw)) ⟨.bl _,H,I,rfl,?_⟩
  rw [show its.toArray.any (yi x)=its.any (yi x) by simp,mr r fs]
  exact q
theorem vb:fh X (compareOp .NotIn) (RK X.K true):=by
 intro pins s σ H x y v u Q I rx ry h
 obtain ⟨p,xs,rfl,hq,fx,fs,q⟩:=h
 cases ry
 rcases hq with hq | hq
 ·obtain ⟨its,r,pl,hz⟩:=I.list hq
  refine SeqAt.notIn_listAt (yi x) pl.isList (λw hw=>jR rx fx r fs w (by simpa using hw)) ⟨.bl _,H,I,rfl,?_⟩
  rw [show its.toArray.any (yi x)=its.any (yi x) by simp,mr r fs]
  exact q
 ·obtain ⟨its,r,pl,hz⟩:=I.tuple hq
  refine SeqAt.notIn_tupleAt (yi x) pl (λw hw=>jR rx fx r fs w (by simpa using hw)) ⟨.bl _,H,I,rfl,?_⟩
  rw [show its.toArray.any (yi x)=its.any (yi x) by simp,mr r fs]
  exact q
theorem iI:b7 X (.builtin "len") (λxs H Q=>∃p ys,xs=[.ref p]∧(dC X.K H p ys∨gJ X.K H p ys)∧Q (.int ys.length) H):=by
 intro pins s σ H xs us Q I r h
 obtain ⟨p,ys,rfl,hq,q⟩:=h
 obtain ⟨u,rfl,rx⟩:=vals1 r
 cases rx
 have hn:=lT
 rcases hq with hq | hq
 ·obtain ⟨its,r',pl,hz⟩:=I.list hq
  have hlen:=r'.length
  exact Calls.call_len_list pl.isList (by simp only [Sn] <;> omega) ⟨.int ys.length,H,I.tok _,⟨s.toks + 1,by rw [Sn,hlen]⟩,q⟩
 ·obtain ⟨its,r',pl,hz⟩:=I.tuple hq
  have hlen:=r'.length
  exact len_tuple pl (by simp only [Sn] <;> omega) ⟨.int ys.length,H,I.tok _,⟨s.toks + 1,by rw [Sn,hlen]⟩,q⟩
theorem mx:b7 X (.builtin "len") (λxs H Q=>∃z,xs=[.str z]∧z.length≤sizeLine∧Q (.int z.length) H):=by
 intro pins s σ H xs us Q I r h
 obtain ⟨z,rfl,hz,q⟩:=h
 obtain ⟨u,rfl,t,rfl⟩:=vals1 r
 have hn:=lT
 exact len_str (by omega) ⟨.int z.length,H,I.tok _,⟨_,rfl⟩,q⟩
theorem b7.or {f:Value} {r r':List V→Hp→VK→Prop} (h:b7 X f r) (h':b7 X f r'):b7 X f (λxs H Q=>r xs H Q∨r' xs H Q):=by
 intro pins s σ H xs us Q I rs q
 rcases q with q | q
 ·exact h pins s σ H xs us Q I rs q
 ·exact h' pins s σ H xs us Q I rs q
theorem uy:b7 X (.type "list") (λxs H Q=>∃p ys,xs=[.ref p]∧(dC X.K H p ys∨gJ X.K H p ys)∧∀l,H l=none→Q (.ref l) (upd H l (.lst ys))):=by
 intro pins s σ H xs us Q I r h
 obtain ⟨p,ys,rfl,hq,q⟩:=h
 obtain ⟨u,rfl,rx⟩:=vals1 r
 cases rx
 have fin:∀(its:List Value),Vals ys its→ys.length≤sizeLine→∀(h':Heap) (c':Nat),(∀b o',s.heap.get? b=some o'→h'.get? b=some o') →
   h'.get? s.heap.objs.size=some { cls:=.type "list",dict:=none,data:=.seq its.toArray c',slots:=#[] }→EP X pins σ Q (.ref s.heap.objs.size) { s with heap:=h' }:=λits r' hz h' c' kp e =>
  ⟨.ref s.heap.objs.size,_,I.laid (t':=s.toks) kp (So _) (show du X.prog X.w _ h' _ (.lst ys) from ⟨hz,its,c',r',e⟩),rfl,q _ (I.hok.fresh (So _))⟩
 rcases hq with hq | hq
 ·obtain ⟨its,r',pl,hz⟩:=I.list hq
  have hlen:=r'.length
  obtain ⟨o,ho,hc,n,hd⟩:=pl.isList
  exact call_list_seq p (.inl rfl) ho hc hd (λh' c' kp e=>fin its r' hz h' c' kp e) (by simp only [Sn] <;> omega)
 ·obtain ⟨its,r',pl,hz⟩:=I.tuple hq
  have hlen:=r'.length
  obtain ⟨o,ho,hc,n,hd⟩:=pl
  exact call_list_seq p (.inr rfl) ho hc hd (λh' c' kp e=>fin its r' hz h' c' kp e) (by simp only [Sn] <;> omega)
def Pe (K:PySem.W.Frag) (T:String) (x:V) (H:Hp):Prop:=match x with
 | .str _=>T="str"
 | .int _=>T="int"
 | .ref p=>(T="list"∧∃xs,dC K H p xs)∨(T="tuple"∧∃o,K.lookup p=some o∧o.cls=.type "tuple"∧o.dict=none) ∨
   (T="dict"∧((∃kvs,H p=some (.dK kvs))∨∃kvs ep,H p=some (.dE kvs ep)))∨(T="set"∧∃S n,H p=some (.set S n))
 | _=>False
theorem Fw {pins:List (Addr × Obj)} {σ:St} {H:Hp} {s:Shared} {T:String} {x:V} {v:Value} (I:Inv X pins σ H s) (r:RelV x v) (ty:Pe X.K T x H) :
  s.TypeIs v T∧∀a,v=.ref a→∃ob,s.heap.get? a=some ob∧ob.dict=none:=by
 cases x with
 | str z =>
  obtain ⟨t,rfl⟩:=r
  cases (show T="str" from ty)
  exact ⟨typeIs_str s z t,λ_ e=>nomatch e⟩
 | int i =>
  obtain ⟨t,rfl⟩:=r
  cases (show T="int" from ty)
  exact ⟨typeIs_int s i t,λ_ e=>nomatch e⟩
 | ref p =>
  cases r
  rcases ty with ⟨rfl,xs,hq⟩ | ⟨rfl,o,hk,hc,hd⟩ | ⟨rfl,hk⟩ | ⟨rfl,S,n,hk⟩
  ·obtain ⟨its,_,pl,_⟩:=I.list hq
   refine ⟨pl.isList.typeIs,λa e=>?_⟩
   cases e
   obtain ⟨o,n,e,c,hd,_⟩:=pl
   exact ⟨o,e,hd⟩
  ·refine ⟨⟨o,I.lR p o hk,hc⟩,λa e=>?_⟩
   cases e
   exact ⟨o,I.lR _ o hk,hd⟩
  ·have z:∃o,s.heap.get? p=some o∧o.ExactDict:=by
    rcases hk with ⟨kvs,hk⟩ | ⟨kvs,ep,hk⟩
    ·obtain ⟨_,_,_,_,o,_,_,e,ex,_⟩:=I.hok p _ hk
     exact ⟨o,e,ex⟩
    ·obtain ⟨_,_,_,_,o,_,e,ex,_⟩:=I.hok p _ hk
     exact ⟨o,e,ex⟩
   obtain ⟨o,e,ex⟩:=z
   refine ⟨⟨o,e,ex.1⟩,λa e2=>?_⟩
   cases e2
   exact ⟨o,e,ex.2.1⟩
  ·obtain ⟨o,_,_,_,e,ex,_⟩:=I.hok p _ hk
   refine ⟨⟨o,e,ex.1⟩,λa e2=>?_⟩
   cases e2
   exact ⟨o,e,ex.2.1⟩
 | _=>exact False.elim ty
def QD (K:PySem.W.Frag) (T:String) (r:V→List V→Hp→VK→Prop) (to:TE):TE:=λσ H Q=>to σ H λx H1=>Pe K T x H1∧r x [] H1 Q
def O9 (K:PySem.W.Frag) (T:String) (r:V→List V→Hp→VK→Prop) (to:TE) (t:TA):TE:=λσ H Q=>to σ H λx H1=>Pe K T x H1∧t σ H1 λxs H2=>r x xs H2 Q
variable {o e:Expr} {es:List Expr} {to:TE} {t:TA} {name:Str} {apos cpos:Pos} {T id:String} {r:V→List V→Hp→VK→Prop}
theorem Lf (pa:PlainAttrs T) (slot:Slot T name id) (hty:typeOf (.builtin id)=pure (.type "method_descriptor")) (hm:o7 X id r) (ho:PE X o to)
  (hbase:attributeBase o name X.env (eval o X.env)=eval o X.env:=by rfl) (hline:(apos.endLine == cpos.line)=true:=by rfl):PE X (.Call (.Attribute o name apos) [] [] cpos) (QD X.K T r to):=by
 intro pins s σ H Q I h
 refine wpAny_Call_method0_late hbase hline (cA (ho pins s σ H _ I h) λv s1 ⟨x,H1,I1,r1,ty,q1⟩=>?_)
 obtain ⟨h1,h2⟩:=Fw I1 r1 ty
 exact ⟨T,id,pa,slot,hty,h1,h2,Calls.callWith_builtin rfl (PySem.evalArgs_none (hm pins s1 σ H1 x [] v [] Q I1 r1 .nil q1))⟩
theorem qG (pa:PlainAttrs T) (slot:Slot T name id) (hty:typeOf (.builtin id)=pure (.type "method_descriptor")) (hm:o7 X id r) (ho:PE X o to) (ha:PA X (e :: es) t)
  (hbase:attributeBase o name X.env (eval o X.env)=eval o X.env:=by rfl)
  (hfew:((backTo cpos (starEach (e :: es) X.env)).all (λx=>!x.1) && (backToKw cpos (keywordEach [] X.env)).all (λx=>x.1.isSome)
   && decide ((e :: es).length + ([]:List Keyword).length + (if ([]:List Keyword).isEmpty then 0 else 1) < 30))=true:=by rfl)
  (hline:(apos.endLine == cpos.line)=true:=by rfl) (hs:starEach (e :: es) X.env=(false,eval e X.env) :: starEach es X.env:=by rfl) (hplain:(backTo cpos (starEach es X.env)).any (·.1)=false:=by rfl) :
  PE X (.Call (.Attribute o name apos) (e :: es) [] cpos) (O9 X.K T r to t):=by
 intro pins s σ H Q I h
 refine wpAny_Call_method_late hbase hfew hline rfl (cA (ho pins s σ H _ I h) λv s1 ⟨x,H1,I1,r1,ty,q1⟩=>?_)
 obtain ⟨h1,h2⟩:=Fw I1 r1 ty
 refine ⟨T,id,pa,slot,hty,h1,h2,?_⟩
 have hA:=ha cpos pins s1 σ H1 _ I1 q1
 rw [hs] at hA ⊢
 refine Calls.callWith_builtin (by show (false || (backTo cpos (starEach es X.env)).any (·.1))=false;rw [hplain] <;> rfl) (Calls.evalArgs_plain ?_)
 exact cA hA λus s2 ⟨vs,H2,I2,r2,q2⟩=>hm pins s2 σ H2 x vs v us Q I2 r1 r2 q2
end
end L2
namespace L2
open PySem PySem.Spec PyProof.Rows
def Rg (X:Cx) (id:String) (r:V→List V→Hp→VK→Prop):Prop :=
 ∀(pins:List (Addr × Obj)) (s:Shared) (σ:St) (H:Hp) (x:V) (xs:List V) (v:Value) (us:List Value) (Q:VK),Inv X pins σ H s→RelV x v→Vals xs us→r x xs H Q →
  wpAny (model X.prog X.w) X.A (call (.builtin id) (v :: us)) (EP X pins σ Q) X.xe s
theorem Vals.one {x:V} {us:List Value} (r:Vals [x] us):∃u,us=[u]∧RelV x u:=vals1 r
theorem Vals.two {x y:V} {us:List Value} (r:Vals [x,y] us):∃u v,us=[u,v]∧RelV x u∧RelV y v:=vals2 r
theorem Vals.zero:∀{us:List Value},Vals [] us→us=[]
 | _,.nil=>rfl
theorem Vals.dropLast {xs:List V} {us:List Value} (h:Vals xs us):Vals xs.dropLast us.dropLast:=by
 induction h with
 | nil=>exact .nil
 | cons r t ih =>
  cases t with
  | nil=>exact .nil
  | cons q t'=>exact .cons r ih
theorem Vals.eraseIdx:∀{xs:List V} {us:List Value} (i:Nat),Vals xs us→Vals (xs.eraseIdx i) (us.eraseIdx i)
 | _,_,_,.nil=>.nil
 | _,_,0,.cons _ t=>t
 | _,_,i + 1,.cons r t=>.cons r (Vals.eraseIdx i t)
theorem ym {α:Type} (l:List α):l.eraseIdx (l.length - 1)=l.dropLast:=by
 induction l with
 | nil=>rfl
 | cons a r ih =>
  cases r with
  | nil=>rfl
  | cons b r =>
   have e:(a :: b :: r).length - 1=((b :: r).length - 1) + 1:=by
    have h1:(a :: b :: r).length=r.length + 2:=rfl
    have h2:(b :: r).length=r.length + 1:=rfl
    omega
   rw [e,Uq,ih]
   all_goals rfl
section
variable {X:Cx} {pins:List (Addr × Obj)} {σ:St} {H:Hp} {s:Shared} {l b:Addr} {xs ys zs:List V}
theorem Inv.GK {its its':List Value} {n:Nat} {f:Array Value→Array Value} {t':Nat} (I:Inv X pins σ H s) (hH:H l=some (.lst xs))
  (e:s.heap.get? l=some { cls:=.type "list",data:=.seq its.toArray n }) (hf:f its.toArray=its'.toArray) (hv:Vals ys its') (hz:ys.length≤sizeLine) :
  Inv X pins σ (upd H l (.lst ys)) { s with heap:=s.heap.update l (Obj.mapSeq f),toks:=t' }:=by
 have q:=PySem.IsL.update e f
 rw [hf] at q
 refine I.write (x:=l) (e:=l) (by rw [hH];exact trivial) (.inl rfl) (λb' u hb hu=>(Heap.get?_update_other s.heap (Obj.mapSeq f) (Ne.symm hb)).trans hu) ⟨_,q⟩ ?_
 exact ⟨hz,its',_,hv,q⟩
theorem Inv.P6 {its:List Value} {t':Nat} (I:Inv X pins σ H s) (hv:Vals ys its) (hz:ys.length≤sizeLine) :
  Inv X pins σ (upd H s.heap.objs.size (.lst ys)) { s with heap:=s.heap.push { cls:=.type "list",data:=.seq its.toArray },toks:=t' } :=
 I.laid (λ_ _ q=>Heap.get?_push_of_some _ q) (So _) ⟨hz,its,0,hv,Heap.get?_push_size _ rfl⟩
theorem Inv.fresh (I:Inv X pins σ H s):H s.heap.objs.size=none:=I.hok.fresh (So _)
theorem Inv.GL (I:Inv X pins σ H s) (hH:H l=some (.lst xs)):xs.length≤sizeLine∧∃(its:List Value) (n:Nat),Vals xs its∧xs.length=its.length∧s.heap.get? l=some { cls:=.type "list",data:=.seq its.toArray n }:=by
 obtain ⟨z,its,n,r,e⟩:=I.hok l _ hH
 exact ⟨z,its,n,r,r.length,e⟩
end
section
variable {X:Cx}
def Al:V→List V→Hp→VK→Prop:=λx vs H Q=>∃l xs y,x=.ref l∧vs=[y]∧H l=some (.lst xs)∧xs.length < sizeLine∧Q .non (upd H l (.lst (xs ++ [y])))
theorem iq:Rg X "list.append" Al:=by
 intro pins s σ H x vs v us Q I rx rv h
 obtain ⟨l,xs,y,rfl,rfl,hH,hz,q⟩:=h
 cases rx
 obtain ⟨u,rfl,ru⟩:=rv.one
 obtain ⟨z,its,n,r,hl,e⟩:=I.GL hH
 refine call_meets F.slot_list_append ⟨_,e,rfl⟩ F.entry_list_append (F.args_list_append_2 _ _) (PySem.list_append l its.toArray n u (by rw [Sn];omega)) ⟨e,?_⟩
 refine ⟨.non,_,I.GK (its':=its ++ [u]) hH e (by simp) (r.append (.cons ru .nil)) ?_,rfl,q⟩
 rw [SF,List.length_singleton]
 omega
def Qw:V→List V→Hp→VK→Prop:=λx vs H Q=>∃l xs y,x=.ref l∧vs=[]∧H l=some (.lst xs)∧xs[xs.length - 1]?=some y∧Q y (upd H l (.lst xs.dropLast))
theorem KZ:Rg X "list.pop" Qw:=by
 intro pins s σ H x vs v us Q I rx rv h
 obtain ⟨l,xs,y,rfl,rfl,hH,hy,q⟩:=h
 cases rx
 have hus:=rv.zero
 subst hus
 obtain ⟨z,its,n,r,hl,e⟩:=I.GL hH
 obtain ⟨u,hu,ru⟩:=r.get hy
 have hy':its.toArray[its.toArray.size - 1]?=some u:=by
  show its.toArray[its.length - 1]?=some u
  rw [← Array.getElem?_toList,← hl]
  exact hu
 refine call_meets F.slot_list_pop ⟨_,e,rfl⟩ F.entry_list_pop (F.args_list_pop_1 _) (MeetsSeq.list_pop_last l its.toArray n u hy' (by rw [Sn];omega)) ⟨e,?_⟩
 refine ⟨y,_,I.GK (its':=its.dropLast) hH e ?_ r.dropLast ?_,ru,q⟩
 ·show its.toArray.eraseIdxIfInBounds (its.toArray.size - 1)=its.dropLast.toArray
  rw [Sn,T6,ym]
 ·rw [List.length_dropLast]
  omega
end
section
variable {prog:Program} {w:World} {A:Around} {E:Value→Shared→Prop} {s:Shared}
end
section
variable {X:Cx}
end
end L2
namespace Att
open PySem PySem.W PySem.Calls PyProof.Rows
theorem pf {P:Params} {h:Heap}:∀(ns:List Int) (vs:List Value),WellAll P h vs (ns.map WData.int)→IntsAre vs ns:=by
 intro ns
 induction ns with
 | nil =>
  intro vs w
  rw [Ta] at w
  cases w
  exact .nil
 | cons n ns ih =>
  intro vs w
  rw [Sm] at w
  cases w with
  | cons a b =>
   cases a
   exact .cons _ _ (ih _ b)
theorem Cg {l:OpenLaw} {n:Nat} (hn:l.most=some n) {P:Params} {h:Heap} {args:List WData} {vals:List Value}
  (hpre:l.row.toRowW.claim.pre args=true) (hwl:WellAll P h vals args) :
  ∃a vs ns,vals=[Value.ref a]∧args=[WData.list (ns.map WData.int)]∧h.get? a=some { cls:=.type "list",data:=.seq vs.toArray }∧IntsAre vs ns∧ns.length≤n:=by
 have hsh:WShape.hasAll [] args [.list .int]=true:=(pre_splitW hpre).1
 have hc:l.pre.holds [] { args:=args }=true:=(pre_splitW hpre).2
 obtain ⟨d,r,rfl,h1,h2⟩:=hasAllW_cons hsh
 obtain rfl:=hasAllW_nil h2
 obtain ⟨xs,rfl,h3⟩:=hasW_list h1
 obtain ⟨ns,rfl⟩:=items_int h3
 have hlen:ns.length≤n:=by
  unfold OpenLaw.pre at hc
  have h4:(WTm.not (.lt (.lit (.int (n:Int))) (.len (.arg 0)))).holds [] { args:=[.list (ns.map .int)] }=true:=by
   have h4:=(holds_andW hc).1
   rw [hn] at h4
   exact h4
  have h5:=condW_of h4 (w_not (w_lt w_lit (w_len_list (w_arg rfl))))
  rw [Sg] at h5
  refine Nat.le_of_not_lt λq=>?_
  have q':(n:Int) < ((ns.length:Nat):Int):=by omega
  first
   | (rw [decide_eq_true q'] at h5;exact absurd h5 (by decide))
   | (simp at h5;omega)
 cases hwl with
 | cons w1 w2 =>
  cases w2
  cases w1 with
  | list ho hall=>exact ⟨_,_,ns,rfl,rfl,ho,pf ns _ hall,hlen⟩
theorem B' (l:OpenLaw) (args:List WData):l.row.toRowW.claim.post args (.bool true) args=true :=
 postW_of (r:=l.row.toRowW) (X:=(true == true))
  (show WShape.has [] (.bool true) .bool=true by first | rfl | decide | simp [WShape.has,WShape.arms,WShape.armsAll])
  (show (WTm.eq .res (.lit (.bool true))).value [] { args:=args,res:=some (.bool true),after:=args }=some (.bool (true == true)) from w_eq_bool (w_res rfl) w_lit) rfl
theorem wm {l:OpenLaw} {n:Nat} {q:Program} {loose:List Str} {XP:(Str→Option Value)→Heap→Prop} {YP:World→Heap→Prop} {d:DefRec}
  (hn:l.most=some n) (hdf:d.params.defaults=[])
  (call:∀(w:World) (s₀ s₁:Shared) (mg mb:Str→Option Value) (fa:Addr) (o:Obj) (pm cd doc:Value) (a:Addr) (vs:List Value) (ns:List Int),
   Ground q loose [] XP w s₀ mg mb s₁.heap→YP w s₁.heap →
   s₁.heap.get? fa=some o→o.data=.func (docDef d.name d.params d.body d.scope pm cd doc)→s₁.heap.CodeRec cd d.name→mg d.name=some (.ref fa) →
   s₁.heap.get? a=some { cls:=.type "list",data:=.seq vs.toArray }→IntsAre vs ns→ns.length≤n→s₁.gens=#[] →
   codeAny (model l.prog w) callerA (.call (.ref fa) ⟨[.ref a],[]⟩) (λr s'=>r=.ok (.ret (.bool true))∧OldK s₁.heap s'.heap∧s'.os=s₁.os∧AllBare s'.gens) s₁) :
  WalkO q loose XP YP l.row.toRowW d [] (λf vs=>PySem.call f vs):=by
 intro w s₀ s₁ mg mb G Y fa o pm cd doc dV kV ho hd hcd hD hmg hg args vals as hpre hlay hrd hwl hlo
 obtain rfl:dV=.none:=Dflts.none hD hdf
 obtain rfl:kV=.none:=Dflts.noKw hD
 obtain ⟨a,vs,ns,rfl,rfl,hobj,hints,hlen⟩:=Cg hn hpre hwl
 refine enter_call (codeAny_mono (call w s₀ s₁ mg mb fa o pm cd doc a vs ns G Y ho (fd_plain hd) hcd hmg hobj hints hlen hg) λr s' hq=>?_)
 obtain ⟨rfl,h2,h3,h4⟩:=hq
 exact ⟨.inl ⟨.bool true,.bool true,[],rfl,λ_=>rfl,.bool true,B' l _,λ_=>⟨List.Pairwise.nil,λ_ hm=>(nomatch hm)⟩⟩,h2,h3,h4⟩
section
variable {prog:Program} {w:World} {A:Around} {E:Value→Shared→Prop} {s:Shared} {K:Frag}
end
end Att
namespace L2
open PySem PySem.Spec PyProof.Rows
theorem ue:∀{vs:List Value} {ns:List Int},IntsAre vs ns→Vals (ns.map V.int) vs
 | _,_,.nil=>.nil
 | _,_,.cons n t h=>.cons ⟨t,rfl⟩ (ue h)
end L2
namespace L2
open PySem PySem.Spec PyProof.Rows
abbrev CJ {K:PySem.W.Frag} {h:Heap} (_:K.In h):PySem.W.Frag:=K
end L2
namespace L2
open PySem PySem.Spec PyProof.Rows
def inClass (s:Stmt) (j:Nat):Stmt:=match s with
 | .ClassDef _ _ _ body _ _ _ _ _ _ _=>body.getD j (.Pass ⟨0,0,0,0⟩)
 | _=>.Pass ⟨0,0,0,0⟩
def dk (s:Stmt):Arguments:=match s with
 | .FunctionDef _ a _ _ _ _ _ _ _ _=>a
 | _=>{ posonlyargs:=[],args:=[],vararg:=none,kwonlyargs:=[],kw_defaults:=[],kwarg:=none,defaults:=[] }
def bV (s:Stmt):List Stmt:=match s with
 | .FunctionDef _ _ b _ _ _ _ _ _ _=>b
 | _=>[]
def ai (s:Stmt):Scope:=match s with
 | .FunctionDef _ _ _ _ _ _ sc _ _ _=>sc
 | _=>{ kind:=.function,names:=[],isGenerator:=false,isCoroutine:=false }
abbrev pZ:p5:=λ_ _ _ _ _ _=>False
abbrev E0:XK:=λ_ _ _=>False
theorem NR {X:Cx}:Passes pZ X E0:=λ_ _ _ _ _ _ _ h=>h.elim
structure cE (K:PySem.W.Frag) (x qual:Str) (st:Stmt) (f:Addr) (fd:FuncData):Prop where
 ex:∃(oc:Value) (od:Option Addr) (kV doc pm:Value) (an:Option Addr) (cdv ct:Value) (osl:Array (Option Value)),
  fd=PySem.W.fnOf x qual (dk st) (bV st) (ai st) .none kV doc pm an cdv ct∧K.lookup f=some ⟨oc,od,.func fd,osl⟩∧PySem.W.codeIn K cdv qual=true
 kp:PySem.W.keepIn K (.ref f)=true
section
variable {P:Program} {w:World} {K:PySem.W.Frag} {mg:Str→Option Value} {base:Heap}
theorem cE.ok {x qual:Str} {st:Stmt} {f:Addr} {fd:FuncData} {N ps:List Str} {k:Nat} {sp:Sp} (F:cE K x qual st f fd) (S:aw N ps (ai st)) (len:∀vs H Q E,sp vs H Q E→vs.length=ps.length)
  (hbody:∀(cdv:Value) (A:Around) (outer:List Env) (s:Shared) (H:Hp) (vs:List V) (Q:VK) (E:XK),bS k (A.deeper (envOfC qual (ai st) s.heap.objs.size f cdv))→sp vs H Q E →
   ∃t,rJ (uA pZ P w K mg base N qual (ai st) f cdv A outer s H E).K0 (bV st) t∧t { nx:=λ_ H'=>Q .non H',rt:=Q } (start N vs) H):aQ P w K mg base pZ (k + 1) f fd ps sp:=by
 obtain ⟨oc,od,kV,doc,pm,an,cdv,ct,osl,rfl,lk,hcd⟩:=F.ex
 refine Dj lk hcd S len λA outer s H vs Q E hr hsp=>?_
 obtain ⟨t,h,q⟩:=hbody cdv A outer s H vs Q E hr hsp
 exact ⟨t,h.K0,q⟩
theorem cE.binds {x qual:Str} {st:Stmt} {f:Addr} {fd:FuncData} {ps:List Str} (F:cE K x qual st f fd)
  (h:∀(kV doc pm:Value) (an:Option Addr) (cdv ct:Value) (us:List Value),us.length=ps.length→bindArgs (PySem.W.fnOf x qual (dk st) (bV st) (ai st) .none kV doc pm an cdv ct) ⟨us,[]⟩=pure (ps.zip us)):Binds K fd ps []:=by
 obtain ⟨oc,od,kV,doc,pm,an,cdv,ct,osl,rfl,lk,hcd⟩:=F.ex
 exact .all (h kV doc pm an cdv ct)
theorem yo {x qual:Str} {st:Stmt} {f:Addr} {oc:Value} {od an:Option Addr} {osl:Array (Option Value)} {kV doc pm cdv ct:Value} (l:K.lookup f=some ⟨oc,od,.func (PySem.W.fnOf x qual (dk st) (bV st) (ai st) .none kV doc pm an cdv ct),osl⟩)
  (c:PySem.W.codeIn K cdv qual=true) (k:PySem.W.keepIn K (.ref f)=true):cE K x qual st f (PySem.W.fnOf x qual (dk st) (bV st) (ai st) .none kV doc pm an cdv ct):=⟨⟨oc,od,kV,doc,pm,an,cdv,ct,osl,rfl,l,c⟩,k⟩
end
theorem aZ {n:Nat} (h:n≤1000):n < sizeLine:=Th h (by decide)
section
variable {X:Cx}
theorem pv (i:Nat) {x:Str} {pos:Pos} (hN:X.N[i]?=some x:=by rfl) (hv:uv X.env.scope x:=by first | exact Or.inl rfl | exact Or.inr (Or.inl rfl) | exact Or.inr (Or.inr rfl)) (hd:(x == ("__debug__":Str))=false:=by decide)
  (hcd:(x == ("__classdict__":Str))=false:=by decide):PE X (.Name x pos) (zj i):=yS hN hv hd hcd
end
theorem DG {c A B:Prop} [Decidable c] (h1:c→A) (h2:¬ c→B):if c then A else B:=by
 by_cases h:c
 ·rw [if_pos h]
  exact h1 h
 ·rw [if_neg h]
  exact h2 h
def bD (H H':Hp):Prop:=∀b o,H b=some o→H' b=some o
theorem bD.trans {H H1 H2:Hp} (a:bD H H1) (b:bD H1 H2):bD H H2:=λc o h=>b c o (a c o h)
theorem bD.free {H H':Hp} (e:bD H H') {l:Addr} (h:H' l=Option.none):H l=Option.none:=by
 cases q:H l with
 | none=>rfl
 | some o =>
  rw [e l o q] at h
  cases h
theorem bD.seq {K:PySem.W.Frag} {H H':Hp} {a:Addr} {xs:List V} (e:bD H H') (h:dC K H a xs):dC K H' a xs:=by
 rcases h with (h | ⟨o,h⟩) | h
 ·exact .inl (.inl (e _ _ h))
 ·exact .inl (.inr ⟨o,e _ _ h⟩)
 ·exact .inr h
end L2
namespace Ov
theorem wB {a b:Int} (h:b≠0):Int.gcd b (a % b)=Int.gcd a b:=by
 have e:a=b * (a / b) + a % b:=(Int.mul_ediv_add_emod a b).symm
 have d1:((Int.gcd b (a % b):Nat):Int) ∣ a:=by
  rw [e]
  exact Int.dvd_add (Int.dvd_trans (Int.gcd_dvd_left ..) (Int.dvd_mul_right ..)) (by rw [← e];exact Int.gcd_dvd_right ..)
 have d2:((Int.gcd a b:Nat):Int) ∣ a % b:=by
  have e2:a % b=a - b * (a / b):=by omega
  rw [e2]
  exact Int.dvd_sub (Int.gcd_dvd_left ..) (Int.dvd_trans (Int.gcd_dvd_right ..) (Int.dvd_mul_right ..))
 exact Nat.dvd_antisymm (Int.dvd_gcd d1 (Int.gcd_dvd_left ..)) (Int.dvd_gcd (Int.gcd_dvd_right ..) d2)
theorem zN {a:Int} (h:0≤a):((Int.gcd a 0:Nat):Int)=a:=by
 rw [Int.gcd_zero_right];omega
theorem Gy (a b:Int):Int.gcd (if a < 0 then -a else a) (if b < 0 then -b else b)=Int.gcd a b:=by
 split <;> split <;> simp [Int.gcd_neg,Int.neg_gcd]
theorem Dp (a b:Int):Int.gcd (if a < 0 then -a else a) b=Int.gcd a b:=by
 split <;> simp [Int.gcd_neg,Int.neg_gcd]
theorem zO {t b:Int} (h:b≠0):0 < ((Int.gcd t b:Nat):Int):=by
 have:0 < Int.gcd t b:=Int.gcd_pos_of_ne_zero_right t h
 omega
theorem Kv {t b:Int} (h:b≠0):Int.gcd t b≤b.natAbs:=Nat.le_of_dvd (by omega) (Int.ofNat_dvd.mp (by rw [Int.dvd_natAbs];exact Int.gcd_dvd_right ..))
theorem uR {t b:Int} (h:0 < b):t.fdiv ((Int.gcd t b:Nat):Int)=(Rat.divInt t b).num:=by
 rw [Rat.num_divInt,Int.sign_eq_one_of_pos h,Int.one_mul,Int.gcd_comm b t,Int.fdiv_eq_ediv_of_nonneg _ (Int.natCast_nonneg _)]
theorem den_pos {t b:Int} (h:0 < b):b.fdiv ((Int.gcd t b:Nat):Int)=((Rat.divInt t b).den:Int):=by
 rw [Rat.den_divInt,if_neg (by omega),Int.gcd_comm b t,Int.fdiv_eq_ediv_of_nonneg _ (Int.natCast_nonneg _)]
 rw [Int.natCast_ediv]
 congr 1
 omega
theorem zZ {t b:Int} (h:b < 0):t.fdiv (-((Int.gcd t b:Nat):Int))=(Rat.divInt t b).num:=by
 have e:t.fdiv (-((Int.gcd t b:Nat):Int))=(-t).fdiv ((Int.gcd t b:Nat):Int):=by
  have:=Int.neg_fdiv_neg (a:=-t) (b:=((Int.gcd t b:Nat):Int))
  rw [← this];simp
 rw [e,Rat.num_divInt,Int.sign_eq_neg_one_of_neg h,Int.gcd_comm b t,Int.fdiv_eq_ediv_of_nonneg _ (Int.natCast_nonneg _)]
 congr 1
 omega
theorem Gk {t b:Int} (h:b < 0):b.fdiv (-((Int.gcd t b:Nat):Int))=((Rat.divInt t b).den:Int):=by
 have e:b.fdiv (-((Int.gcd t b:Nat):Int))=(-b).fdiv ((Int.gcd t b:Nat):Int):=by
  have:=Int.neg_fdiv_neg (a:=-b) (b:=((Int.gcd t b:Nat):Int))
  rw [← this];simp
 rw [e,Rat.den_divInt,if_neg (by omega),Int.gcd_comm b t,Int.fdiv_eq_ediv_of_nonneg _ (Int.natCast_nonneg _)]
 rw [Int.natCast_ediv]
 congr 1
 omega
theorem zY (t b:Int):(Rat.divInt t b).num.natAbs≤t.natAbs:=by
 rcases Int.lt_trichotomy b 0 with h | h | h
 ·rw [← zZ h]
  exact Int.natAbs_fdiv_le_natAbs ..
 ·subst h;simp
 ·rw [← uR h,Int.fdiv_eq_ediv_of_nonneg _ (Int.natCast_nonneg _)]
  exact Int.natAbs_ediv_le_natAbs ..
theorem uB {t b:Int} (h:b≠0):(((Rat.divInt t b).den:Int)).natAbs≤b.natAbs:=by
 rw [Rat.den_divInt,if_neg h]
 exact Nat.div_le_self ..
theorem kM (p:Rat):Rat.divInt p.num p.den=p:=Rat.num_divInt_den p
theorem fj (p:Rat):(p.den:Int)≠0:=by have:=p.den_pos;omega
theorem lM (p:Rat):(0:Int) < p.den:=by have:=p.den_pos;omega
theorem add_eq (p q:Rat):Rat.divInt (p.num * q.den + q.num * p.den) (p.den * q.den)=p + q:=by
 rw [← Rat.divInt_add_divInt _ _ (fj p) (fj q),kM,kM]
theorem sub_eq (p q:Rat):Rat.divInt (p.num * q.den - q.num * p.den) (p.den * q.den)=p - q:=by
 rw [← Rat.divInt_sub_divInt _ _ (fj p) (fj q),kM,kM]
theorem mul_eq (p:Rat) (m:Int):Rat.divInt (p.num * m) p.den=p * m:=by
 have:=Rat.divInt_mul_divInt p.num m (d₁:=p.den) (d₂:=1)
 rw [kM,Int.mul_one] at this
 rw [← this,Rat.divInt_eq_div]
 congr 1
 grind
theorem cast_eq (p:Rat):(p.num:Rat)=p * (p.den:Int):=by
 have h:((p.den:Int):Rat)≠0:=by
  intro e
  exact fj p (by exact_mod_cast e)
 have e:=kM p
 rw [Rat.divInt_eq_div] at e
 grind
theorem f' (p:Rat):((p.den:Int):Rat)≠0:=λe=>fj p (by exact_mod_cast e)
theorem MS (b p m:Rat) (v:Int):Rat.divInt (p.num * (m.den * b.den) + v * (m.num * b.den - b.num * m.den) * p.den) (p.den * (m.den * b.den))=p + (m - b) * v:=by
 have h:=f' p
 have g:=f' b
 have k:=f' m
 simp only [Rat.divInt_eq_div,Rat.intCast_add,Rat.intCast_sub,Rat.intCast_mul,cast_eq p,cast_eq b,cast_eq m]
 generalize ((p.den:Int):Rat)=d at h ⊢
 generalize ((b.den:Int):Rat)=e at g ⊢
 generalize ((m.den:Int):Rat)=f at k ⊢
 generalize (v:Rat)=v
 grind
theorem wG {n:Int} (h:n≠0):(n:Rat)≠0:=λe=>h (by exact_mod_cast e)
theorem Ls (g:Rat) (n:Int) (h:n≠0):Rat.divInt g.num (g.den * n)=g / n:=by
 have k:=f' g
 have l:=wG h
 simp only [Rat.divInt_eq_div,Rat.intCast_mul,cast_eq g]
 generalize ((g.den:Int):Rat)=d at k ⊢
 generalize (n:Rat)=n at l ⊢
 grind
end Ov
namespace Ov
open PySem PySem.Spec PyProof.Rows L2
structure Bd (n:Nat) (x:Int):Prop where
 lt:x.natAbs < 2 ^ n
theorem Bd.bits {n:Nat} {x:Int} (h:Bd n x):Builtin.Int.intBits x≤n:=intBits_le_iff.mpr h.lt
theorem Bd.of {n:Nat} {x:Int} (h:Builtin.Int.intBits x≤n):Bd n x:=⟨intBits_le_iff.mp h⟩
theorem Bd.mono {m n:Nat} {x:Int} (h:Bd m x) (hmn:m≤n):Bd n x:=.of (SH h.bits hmn)
theorem Bd.neg {n:Nat} {x:Int} (h:Bd n x):Bd n (-x):=.of (intBits_neg_le h.bits)
theorem Bd.add {m n k:Nat} {x y:Int} (h:Bd m x) (g:Bd n y) (hk:max m n + 1≤k:=by decide):Bd k (x + y):=(Bd.of (intBits_add_le h.bits g.bits)).mono hk
theorem Bd.sub {m n k:Nat} {x y:Int} (h:Bd m x) (g:Bd n y) (hk:max m n + 1≤k:=by decide):Bd k (x - y):=(Bd.of (intBits_sub_le h.bits g.bits)).mono hk
theorem Bd.mul {m n k:Nat} {x y:Int} (h:Bd m x) (g:Bd n y) (hk:m + n≤k:=by decide):Bd k (x * y):=(Bd.of (intBits_mul_le h.bits g.bits)).mono hk
theorem Bd.le {n:Nat} {x y:Int} (g:Bd n y) (h:x.natAbs≤y.natAbs):Bd n x:=⟨Th h g.lt⟩
theorem Bd.small {x:Int} (h1:-(2 ^ 64) < x) (h2:x < 2 ^ 64):Bd 64 x:=.of (intBits_le_64 h1 h2)
theorem Bd.log {n:Nat} {x:Int} (h:Bd n x) (hn:n≤9000) (h0:x≠0):x.natAbs.log2 < 9000 :=
 SA ((Nat.log2_lt (by omega)).mpr h.lt) hn
section
variable {X:Cx}
def CM (i j:Int):Prop:=∃m n,Bd m i∧Bd n j∧m + n≤134217728
theorem CM.of {m n:Nat} {i j:Int} (h:Bd m i) (g:Bd n j) (hk:m + n≤134217728:=by decide):CM i j:=⟨m,n,h,g,hk⟩
theorem cP:fh X (binaryOp .Mult) (rI CM λi j=>.int (i * j)):=O6 λ_ _ _ _ _ _ _ hc q=>by
 obtain ⟨m,n,h,g,hk⟩:=hc
 exact mul_int q (IntMulOk.of_le h.bits g.bits hk)
def CQ (_ j:Int):Prop:=j≠0∧Bd 9000 j
theorem gm:fh X (binaryOp .FloorDiv) (rI CQ λi j=>.int (i.fdiv j)):=O6 λ_ _ _ _ _ _ _ hc q =>
 floordiv_int hc.1 q (.inl (PyProof.noPylong_of_log2 (hc.2.log (So _) hc.1)))
def Sa (f:Bool→Bool):R2:=λx y H Q=>∃(p q:Addr) (a b c d:Int),x=.ref p∧y=.ref q∧H p=some (.tup [.int a,.int b])∧H q=some (.tup [.int c,.int d])∧Q (.bl (f (decide (a=c∧b=d)))) H
def OF (t u:TS):TS:=λD σ H=>∃M:L2.St→Hp→Prop,t { D with nx:=M } σ H∧∀σ' H',M σ' H'→u D σ' H'
theorem Hs {st:Stmt} {rest:List Stmt} {t u:TS} (h1:PS X st t) (h2:rJ X rest u):rJ X (st :: rest) (OF t u):=by
 intro pins s σ H D I h
 obtain ⟨M,h,k⟩:=h
 refine wpAny_execs_cons (cA (h1 pins s σ H { D with nx:=M } I h) λf s1 q=>?_)
 cases f with
 | next =>
  obtain ⟨σ',H',I',q⟩:=q
  exact h2 pins s1 σ' H' D I' (k _ _ q)
 | ret v=>exact q
 | brk=>exact q
 | cont=>exact q
end
section
variable {X:Cx}
def Jn:R2:=λx y H Q=>∃p xs i v,x=.ref p∧y=.int i∧H p=some (.lst xs)∧di xs i=some v∧Q v H
def Oe:R2:=λx y H Q=>∃p xs i v,x=.ref p∧y=.int i∧H p=some (.tup xs)∧di xs i=some v∧Q v H
theorem gh:o5 X Jn:=λvalue slice pins s σ H x y v u Q I rx ry ⟨p,xs,i,z,e1,e2,h,e3,q⟩ hs =>
 uH value slice pins s σ H x y v u Q I rx ry ⟨p,xs,i,z,e1,e2,dC.of h,e3,q⟩ hs
end
theorem dj {α:Type} (x:α) (xs:List α):di (x :: xs) 0=some x:=bB (j:=0) rfl
theorem eZ {α:Type} (x y:α) (xs:List α):di (x :: y :: xs) 1=some y:=bB (j:=1) rfl
theorem ji {α:Type} (x y z:α) (xs:List α):di (x :: y :: z :: xs) 2=some z:=bB (j:=2) rfl
theorem C3 {α:Type} (x y z u:α) (xs:List α):di (x :: y :: z :: u :: xs) 3=some u:=bB (j:=3) rfl
theorem HR (i j:Int):E4 (.int i) (.int j)=true:=rfl
theorem HP (i j:Bool):E4 (.bl i) (.bl j)=true:=rfl
theorem HS (i j:Str):E4 (.str i) (.str j)=true:=rfl
def rH (P:Program) (w:World) (K:PySem.W.Frag) (mg:Str→Option Value) (base:Heap) (k:Nat) (x:Str) (ps:List Str) (sp:Sp):Prop :=
 ∃f fd,aQ P w K mg base pZ k f fd ps sp∧Binds K fd ps []∧PySem.W.keepIn K (.ref f)=true∧mg x=some (.ref f)
theorem Lg {X:Cx} {k k':Nat} {x:Str} {ps:List Str} {sp:Sp} {p pos:Pos} {e:Expr} {es:List Expr} {t:TA} (C:rH X.prog X.w X.K X.mg X.base k x ps sp) (hr:bS k' X.A) (hk:k≤k') (hg:Gl X x) (ha:PA X (e :: es) t)
  (hdb:(x == ("__debug__":Str))=false:=by decide) (he:starEach (e :: es) X.env=(false,eval e X.env) :: starEach es X.env:=by rfl) (hpl:(backTo pos (starEach es X.env)).any (·.1)=false:=by rfl) :
  PE X (.Call (.Name x p) (e :: es) [] pos) (rA sp [] E0 t):=by
 obtain ⟨f,fd,F,b,kp,m⟩:=C
 exact Ac F (hr.mono hk) hg m kp b .nil NR ha hdb he hpl
theorem eJ {N P:List Str} {sc:Scope} (a:sc.kind=.function:=by rfl) (b:sc.isCoroutine=false:=by rfl) (c:sc.isGenerator=false:=by rfl) (d:N.Nodup:=by decide +kernel) (e:N.take P.length=P:=by rfl) (f:∀x∈P,sc.names.lookup x=some .local∨sc.names.lookup x=some .cell:=by decide +kernel) (g:∀y∈sc.names,y.2≠.free:=by decide +kernel):aw N P sc:=⟨a,b,c,d,e,f,g⟩
def Def (K:PySem.W.Frag) (mg:Str→Option Value) (x:Str) (st:Stmt):Prop:=∃f fd,cE K x x st f fd∧mg x=some (.ref f)
theorem Kp {K:PySem.W.Frag} {h:Heap} {mg:Str→Option Value} {x:Str} {st:Stmt} (X:K.In h) (G:h.Ns mainGlobals mg) {f:Addr} {od an:Option Addr} {sl:Array (Option Value)} {oc kV dc pm cd ct:Value}
  (a:PySem.W.nsIn K mainGlobals x=some (some (.ref f))) (l:K.lookup f=some ⟨oc,od,.func (PySem.W.fnOf x x (dk st) (bV st) (ai st) .none kV dc pm an cd ct),sl⟩) (c:PySem.W.codeIn K cd x=true) (k:PySem.W.keepIn K (.ref f)=true) :
  Def K mg x st:=⟨f,_,yo l c k,PySem.W.mg_of X G a⟩
theorem Def.C6 {P:Program} {w:World} {K:PySem.W.Frag} {mg:Str→Option Value} {base:Heap} {x:Str} {st:Stmt} {k:Nat} {ps:List Str} {sp:Sp} (D:Def K mg x st)
  (h:∀f fd,cE K x x st f fd→aQ P w K mg base pZ k f fd ps sp)
  (hb:∀(kV doc pm:Value) (an:Option Addr) (cdv ct:Value) (us:List Value),us.length=ps.length→bindArgs (PySem.W.fnOf x x (dk st) (bV st) (ai st) .none kV doc pm an cdv ct) ⟨us,[]⟩=pure (ps.zip us)) :
  rH P w K mg base k x ps sp:=by
 obtain ⟨f,fd,F,m⟩:=D
 exact ⟨f,fd,h f fd F,F.binds hb,F.kp,m⟩
theorem KJ {K:PySem.W.Frag} {mg:Str→Option Value} {st:Stmt} {fa:Addr} {p:Str} (D:Def K mg "law" st) (hfa:mg "law"=some (.ref fa))
  (hb:∀(kV doc pm:Value) (an:Option Addr) (cdv ct:Value) (u:Value),bindArgs (PySem.W.fnOf "law" "law" (dk st) (bV st) (ai st) .none kV doc pm an cdv ct) ⟨[u],[]⟩=pure [(p,u)]) :
  ∃fd,cE K "law" "law" st fa fd∧∀(s:Shared) (u:Value),BindsTo s fd ⟨[u],[]⟩ [(p,u)]:=by
 obtain ⟨f,fd,F,m⟩:=D
 have e:=m.symm.trans hfa
 cases e
 obtain ⟨oc,od,kV,doc,pm,an,cdv,ct,osl,rfl,lk,hcd⟩:=F.ex
 exact ⟨_,F,λs u=>.of_eq (hb kV doc pm an cdv ct u)⟩
structure Cs (mg:Str→Option Value):Prop where
 abs:mg "abs"=none
 len:mg "len"=none
 isinstance:mg "isinstance"=none
 range:mg "range"=none
 int:mg "int"=none
 bool:mg "bool"=none
 tuple:mg "tuple"=none
 list:mg "list"=none
 sorted:mg "sorted"=none
 all:mg "all"=none
theorem _root_.L2.bD.tup {K:PySem.W.Frag} {H H':Hp} {a:Addr} {xs:List V} (e:bD H H') (h:gJ K H a xs):gJ K H' a xs:=by
 rcases h with (h | ⟨o,h⟩) | h
 ·exact .inl (.inl (e _ _ h))
 ·exact .inl (.inr ⟨o,e _ _ h⟩)
 ·exact .inr h
theorem _root_.L2.bD.new {H:Hp} {p:Addr} (h:H p=none) (o:HO):bD H (upd H p o):=λb u q=>by rw [aF (bF q h)];exact q
theorem _root_.L2.bD.Mw {H H':Hp} {p:Addr} (h:H p=none) (e:bD H H') (o:HO):bD H (upd H' p o):=λb u q=>by rw [aF (bF q h)];exact e b u q
def Mh (K:PySem.W.Frag) (H:Hp) (a:Addr) (q:Rat):Prop:=gJ K H a [.int q.num,.int q.den]
structure Sz (n:Nat) (q:Rat):Prop where
 num:Bd n q.num
 den:Bd n q.den
theorem Sz.mono {m n:Nat} {q:Rat} (h:Sz m q) (k:m≤n):Sz n q:=⟨h.num.mono k,h.den.mono k⟩
theorem HE (x y:Rat):(x.num=y.num∧(x.den:Int)=(y.den:Int))=(x=y):=propext
 ⟨λh=>Rat.ext h.1 (by have:=h.2;omega),λh=>by subst h;exact ⟨rfl,rfl⟩⟩
theorem jM (c:Str→NameKind→Bool):∀(names:List (Str × NameKind)) (y:Str),
  (names.map λ(x:Str × NameKind)=>if c x.1 x.2 then (x.1,NameKind.cell) else (x.1,x.2)).lookup y=(names.lookup y).map λk=>if c y k then NameKind.cell else k
 | [],_=>rfl
 | (n,k) :: r,y=>by
  have ih:=jM c r y
  cases hy:y == n with
  | true =>
   have e:y=n:=by simpa using hy
   subst e
   by_cases h:c y k=true <;> simp [S1,h]
  | false =>
   by_cases h:c n k=true <;> simp [S1,h,hy,ih]
theorem j5 (sc:Scope) (env:Env) (y:Str):(relabel sc env).names.lookup y=(sc.names.lookup y).map λk=>if (k == .free && env.scope.kind == .function && env.kindOf y == some .cell) then NameKind.cell else k:=by
 have h:=jM (λn k=>k == .free && env.scope.kind == .function && env.kindOf n == some .cell) sc.names y
 exact h
theorem lL {env:Env}:∀(names:List (Str × NameKind)) (acc:List (Str × Addr)),(∀y∈names,y.2=.free→∃c,env.cells.lookup y.1=some c)→(∀y c,acc.lookup y=some c→env.cells.lookup y=some c) →
  ∃cl,(forIn names acc λ(x:Str × NameKind) (r:List (Str × Addr))=>match x with
   | (name,kind)=>if (kind == NameKind.free)=true then (do let c ← cellOf env name;pure (ForInStep.yield ((name,c) :: r))) else (pure (ForInStep.yield r):Sem (ForInStep (List (Str × Addr)))))=(pure cl:Sem (List (Str × Addr))) ∧
   (∀y c,cl.lookup y=some c→env.cells.lookup y=some c)∧(∀y c,acc.lookup y=some c→∃c,cl.lookup y=some c)∧∀y∈names,y.2=.free→∃c,cl.lookup y.1=some c
 | [],acc,_,ha=>⟨acc,rfl,ha,λy c e=>⟨c,e⟩,λy hy=>by cases hy⟩
 | (n,k) :: r,acc,hn,ha=>by
  by_cases hk:k=.free
  ·subst hk
   obtain ⟨c,hc⟩:=hn (n,.free) SY rfl
   obtain ⟨cl,e,h1,h2,h3⟩:=lL r ((n,c) :: acc) (λy hy=>hn y (SI _ hy)) (λy d e=>by
    rw [S1] at e
    cases hy:y == n with
    | true =>
     rw [hy] at e
     have e1:y=n:=by simpa using hy
     subst e1
     rw [hc]
     exact e
    | false=>rw [hy] at e;exact ha y d e)
   have self:∃d,cl.lookup n=some d:=h2 n c (by simp [S1])
   refine ⟨cl,?_,h1,λy d q=>?_,λy hy hf=>?_⟩
   ·rw [U0]
    have ec:cellOf env n=pure c:=by unfold cellOf;rw [hc]
    simp only [beq_self_eq_true,if_true,ec,pure_bind]
    exact e
   ·by_cases hy:y=n
    ·subst hy;exact self
    ·exact h2 y d (by rw [List.lookup_cons];have:(y == n)=false:=by simpa using hy
                      rw [this];exact q)
   ·rcases Sy.mp hy with rfl | hy
    ·exact self
    ·exact h3 y hy hf
  ·obtain ⟨cl,e,h1,h2,h3⟩:=lL r acc (λy hy=>hn y (SI _ hy)) ha
   refine ⟨cl,?_,h1,h2,λy hy hf=>?_⟩
   ·rw [U0]
    have hb:(k == NameKind.free)=false:=by simpa using hk
    simp only [hb,SE,if_false,pure_bind]
    exact e
   ·rcases Sy.mp hy with rfl | hy
    ·exact absurd hf hk
    ·exact h3 y hy hf
theorem iJ {sc:Scope} {env:Env} (h:∀y∈sc.names,y.2=.free→∃c,env.cells.lookup y.1=some c) :
  ∃cl,closureFor sc env=pure cl∧(∀y c,cl.lookup y=some c→env.cells.lookup y=some c)∧∀y∈sc.names,y.2=.free→∃c,cl.lookup y.1=some c:=by
 obtain ⟨cl,e,h1,_,h3⟩:=lL sc.names [] h (λy c z=>by cases z)
 refine ⟨cl,?_,h1,h3⟩
 unfold closureFor
 have e':=congrArg (λm=>m >>= λr=>(pure r:Sem (List (Str × Addr)))) e
 simp only [pure_bind] at e'
 exact e'
abbrev cD (sc osc:Scope) (N:List Str) (x:Str) (ks:List (Str × Nat)):Prop :=
 sc.kind=.function∧(∀y∈sc.names,y.2≠.cell)∧sc.names.lookup x=some .local∧(∀y∈sc.names,y.2=.local→sc.names.lookup y.1=some .local) ∧
 (∀y∈sc.names,y.2=.free→osc.names.lookup y.1=some .cell)∧(∀p∈ks,N[p.2]?=some p.1∧sc.names.lookup p.1=some .free)∧(x :: ks.map (·.1)).Nodup
def fF (X:Cx) (sc:Scope) (cl:List (Str × Addr)) (C:Addr) (x:Str) (ks:List (Str × Nat)) (s₀:Shared) (H₀:Hp) (fp:List Addr) (pins:List (Addr × Obj)):Cx :=
 { X with N:=x :: ks.map (·.1),s₀:=s₀,H₀:=H₀,env:=compEnvC sc cl C X.env,outer:=X.stack,ex:=fp,fn:=λ_=>false,pn:=X.pn ++ pins,xe:=λ_ _=>False }
def dW (ks:List (Str × Nat)) (σ:L2.St):L2.St:=ks.map λp=>(σ[p.2]?).getD none
section
variable {X:Cx} {pins:List (Addr × Obj)} {σ:L2.St} {H:Hp} {s:Shared} {sc:Scope} {cl:List (Str × Addr)} {x:Str} {ks:List (Str × Nat)} {fp:List Addr}
theorem get_map {α β:Type} (f:α→β) (l:List α) (i:Nat):(l.map f)[i]?=(l[i]?).map f:=Sl
theorem wH (I:Inv X pins σ H s) (ok:cD sc X.env.scope X.N x ks) (h1:∀y c,cl.lookup y=some c→X.env.cells.lookup y=some c) (h2:∀y∈sc.names,y.2=.free→∃c,cl.lookup y.1=some c)
  (hfp:∀b∈fp,lG X pins H b∧∃o,s.heap.get? b=some o) {h4:Heap} {m:Str→Option Value} {t':Nat} (hn:h4.Ns s.heap.objs.size m) (kp:∀b o,s.heap.get? b=some o→h4.get? b=some o) :
  Inv (fF X sc cl s.heap.objs.size x ks s H fp pins) [] (none :: dW ks σ) H { s with heap:=h4,toks:=t' }:=by
 obtain ⟨kd,nc,lx,ll,fr,kk,nd⟩:=ok
 have fresh:H s.heap.objs.size=none:=I.hok.fresh (So _)
 have lt:∀b o,s.heap.get? b=some o→b≠s.heap.objs.size:=λb o e=>SN (Heap.lt_size e)
 have cellLt:∀y c,X.env.cells.lookup y=some c→c≠s.heap.objs.size:=λy c e=>by
  obtain ⟨v,o,ho,_⟩:=I.cell y c e
  exact lt c o ho
 have sub:∀b∈jw X.stack,b=X.env.locals∨b∈X.fs:=λb hb=>Sy.mp (I.oN b hb)
 have kof:∀y,(compEnvC sc cl s.heap.objs.size X.env).kindOf y=(relabel sc X.env).names.lookup y:=λy=>rfl
 have ok':(fF X sc cl s.heap.objs.size x ks s H fp pins).Ok:={
  mod:=I.ok.mod
  kind:=kd
  glob:=I.ok.glob
  blt:=I.ok.blt
  above:=So _
  inj:=λy z c e1 e2=>I.ok.inj y z c (h1 y c e1) (h1 z c e2)
  has:=λy hy=>by
   rw [show (fF X sc cl s.heap.objs.size x ks s H fp pins).env.kindOf y=_ from kof y,j5] at hy
   cases e:sc.names.lookup y with
   | none=>rw [e] at hy;rcases hy with z | z <;> cases z
   | some k =>
    have hm:(y,k)∈sc.names:=by
     have:=Ur.mp e
     obtain ⟨l1,l2,q,_⟩:=this
     rw [q]
     simp
    by_cases hk:k=.free
    ·subst hk;exact h2 _ hm rfl
    ·have hb:(k == NameKind.free)=false:=by simpa using hk
     rw [e] at hy
     simp only [Ub,hb,Bool.false_and,SE,if_false] at hy
     rcases hy with z | z
     ·exact absurd (Option.some.inj z) (nc _ hm)
     ·exact absurd (Option.some.inj z) hk
  cab:=λ_ _ z=>by cases z
  hd:=λz=>I.ok.hd z
  frames:=I.ok.frames
  stk:=.inl rfl
  exf:=λb hb=>⟨lt b _ (hfp b hb).2.choose_spec,λy c e=>(hfp b hb).1.2.2.2.2.1 y c (h1 y c e)⟩
  bs:=λb o e=>I.bs b o e
  bsz:=SH I.ok.bsz I.sz
  noex:=λb o e hb=>by
   rcases (hfp b hb).1.2.2.2.1 with z | z
   ·exact I.ok.noex b o e z
   ·exact absurd (SA (Heap.lt_size e) (SH I.ok.bsz z)) (Tt _)
  exfs:=λb hb z=>by
   rcases sub b z with e | e
   ·exact (hfp b hb).1.2.1 e
   ·exact (hfp b hb).1.2.2.1 e
  lP:=I.stack
  frf:=I.vY }
 obtain ⟨mX,hnX,hlX⟩:=I.loc
 refine ⟨ok',rfl,I.bare,Un.kept kp,⟨m,hn,λi y v e1 e2 e3=>?_⟩,λy c e=>?_,fresh,λy c e=>I.freeC y c (h1 y c e),λp hp=>?_,I.hok.kept kp,by simp [fF,dW]⟩
 ·cases i with
  | zero =>
   rw [T1] at e2
   cases e2
  | succ i =>
   have e1':(ks.map (·.1))[i]?=some y:=by simpa [fF] using e1
   rw [S6] at e2
   unfold dW at e2
   rw [Sl] at e1' e2
   cases ep:ks[i]? with
   | none=>rw [ep] at e1';cases e1'
   | some p =>
    rw [ep] at e1' e2
    have ey:p.1=y:=Option.some.inj e1'
    have ev:(σ[p.2]?).getD none=some v:=Option.some.inj e2
    obtain ⟨kN,kf⟩:=kk p (Sv ep)
    have es:σ[p.2]?=some (some v):=by
     cases q:σ[p.2]? with
     | none=>rw [q] at ev;cases ev
     | some w=>rw [q] at ev;exact congrArg some ev
    have hm:(p.1,NameKind.free)∈sc.names:=by
     obtain ⟨l1,l2,q,_⟩:=Ur.mp kf
     rw [q]
     simp
    have oc:X.env.scope.names.lookup p.1=some .cell:=fr _ hm rfl
    obtain ⟨u,ru,lu⟩:=hlX p.2 p.1 v kN es (.inr (.inl oc))
    refine ⟨u,ru,.inr ⟨.inl ?_,?_⟩⟩
    ·rw [show (fF X sc cl s.heap.objs.size x ks s H fp pins).env.kindOf y=_ from kof y,j5,← ey,kf]
     have k1:X.env.kindOf p.1=some .cell:=oc
     simp [I.ok.kind,k1]
    ·obtain ⟨c,hc⟩:=h2 _ hm rfl
     have hc:cl.lookup p.1=some c:=hc
     rcases lu with ⟨z,_⟩ | ⟨_,c',hc',z⟩
     ·have z':X.env.scope.names.lookup p.1=some .local:=z
      rw [oc] at z';cases z'
     ·have:=h1 _ _ hc
      rw [hc'] at this
      cases this
      obtain ⟨o,ho,hd⟩:=z
      exact ⟨_,by rw [← ey];exact hc,o,kp _ _ ho,hd⟩
 ·obtain ⟨v,o,ho,hd⟩:=I.cell y c (h1 y c e)
  exact ⟨v,o,kp _ _ ho,hd⟩
 ·rw [S_] at hp
  obtain ⟨a1,a2,a3,a4,a5⟩:=I.pin p hp
  refine ⟨kp _ _ a1,a2,lt _ _ a1,λz=>?_,a5⟩
  rcases sub p.1 z with e | e
  ·exact a3 e
  ·exact a4 e
end
def FF (X:Cx) (ifs:List Expr) (t:TT):Prop :=
 ∀(pins:List (Addr × Obj)) (s:Shared) (σ:L2.St) (H:Hp) (Q:Bool→Hp→Prop),Inv X pins σ H s→t σ H Q →
  wpAny (model X.prog X.w) X.A (forIn ifs true λc r=>if r=true then do let ok ← isTrue c X.env (eval c X.env);pure (ForInStep.yield ok) else pure (ForInStep.yield r)) (TP X pins σ Q) X.xe s
theorem vm {X:Cx}:FF X [] (λ_ H Q=>Q true H):=λpins s σ H Q I h=>by rw [List.forIn_nil];exact wpAny_pure ⟨H,I,h⟩
theorem vn {X:Cx} {c:Expr} {t:TT} (h:PT X c t):FF X [c] t:=λpins s σ H Q I q=>wpAny_tests_one (h pins s σ H Q I q)
section
variable {prog:Program} {w:World} {A:Around} {R:Result→Shared→Prop} {s:Shared}
theorem BK {elt iter:Expr} {ifs:List Expr} {x:Str} {px:Pos} {sc:Scope} {pos:Pos} {it acc:Value} {env:Env} (I:Nat→Shared→Prop)
  (turn:∀n s,I n s→wpAny (model prog w) A (pyNext it) (λr s₁=>match r with
   | none=>R (.ok .next) s₁
   | some v=>wpAny (model prog w) A (letOwnedTupleGo (.Name x px) it v) (λ_ s₂=>wpAny (model prog w) A (assign (.Name x px) env v) (λ_ s₃=>wpAny (model prog w) A (forIn ifs true λc r=>if r=true then do let ok ← isTrue c env (eval c env);pure (ForInStep.yield ok) else pure (ForInStep.yield r)) (λok s₃=>if ok=true then wpAny (model prog w) A (eval elt env) (λy s₄ =>
     wpAny (model prog w) A (call (.builtin "list.append") [acc,y]) (λ_ s₅=>∃m,m < n∧I m s₅) (λ_ _=>False) s₄) (λ_ _=>False) s₃ else ∃m,m < n∧I m s₃) (λ_ _=>False) s₃) (λ_ _=>False) s₂) (λ_ _=>False) s₁) (λ_ _=>False) s)
  (n:Nat) (h:I n s):codeAny (model prog w) A (.compLoop (.ListComp elt [⟨.Name x px,iter,ifs,0⟩] sc pos) 0 it acc env) R s:=by
 refine codeAny_loop rfl I (λn s hI=>?_) n h
 show wpAny _ _ ((compTurn (.ListComp elt [⟨.Name x px,iter,ifs,0⟩] sc pos) 0 it acc env).onRaise (λx=>do noteFrame x env;theTreesLotGoes x)) _ _ s
 refine wpAny_noted ?_
 rw [compTurn_list]
 have no:∀(e:Value) (s':Shared),False→notedBy (model prog w) A env (λe s'=>R (.error e) s') e s':=λ_ _ z=>z.elim
 refine wpAny_bind (wpAny_standAt (wpAny_bind (wpAny_mono (turn n s hI) (λr s₁ h₁=>?_) no)))
 cases r with
 | none=>exact wpAny_pure h₁
 | some v =>
  refine wpAny_bind (wpAny_mono h₁ (λ_ s₂ h₂=>?_) no)
  refine wpAny_bind (wpAny_mono h₂ (λ_ s₃ h₃=>wpAny_bind (wpAny_mono h₃ (λok s₃' h₃'=>?_) no)) no)
  cases ok with
  | false=>exact wpAny_pure ⟨rfl,h₃'⟩
  | true =>
   exact wpAny_bind (wpAny_bind (wpAny_mono h₃' (λy s₄ h₄=>wpAny_bind (wpAny_mono h₄ (λ_ s₅ h₅=>wpAny_pure (wpAny_pure ⟨rfl,h₅⟩)) no)) no))
end
def HZ (wi:TI) (ks:List (Str × Nat)) (tc:TT) (te:TE):TE:=λσ H Q=>wi σ H λJ H1=>∀D,H1 D=none→∃W:Nat→Nat→Hp→Prop,(∃m,W 0 m (upd H1 D (.lst []))) ∧
 ∀i m H2,W i m H2→(J.stop i H2∧Q (.ref D) H2)∨(J.go i H2∧∀v H3,J.yld i H2 v H3→tc (some v :: dW ks σ) H3 λb H4=>if b=true then te (some v :: dW ks σ) H4 λy H5=>∃ys,H5 D=some (.lst ys)∧ys.length < sizeLine∧∃m',m' < m∧W (i + 1) m' (upd H5 D (.lst (ys ++ [y]))) else ∃m',m' < m∧W (i + 1) m' H4)
section
variable {X:Cx}
theorem xr {elt iter:Expr} {ifs:List Expr} {x:Str} {px:Pos} {sc:Scope} {pos:Pos} {te:TE} {tc:TT} {ks:List (Str × Nat)} {cl:List (Str × Addr)} {pins:List (Addr × Obj)} {σ:L2.St} {H:Hp} {s:Shared} {it:Addr} {fp:List Addr} {tn:Nat→Heap→Prop} {J:It} {Q:VK}
  {RR:Value→Addr→Result→Shared→Prop} {E:Value→Shared→Prop}
  (hc:X.calm=true) (ok:cD sc X.env.scope X.N x ks) (h1:∀y c,cl.lookup y=some c→X.env.cells.lookup y=some c) (h2:∀y∈sc.names,y.2=.free→∃c,cl.lookup y.1=some c)
  (he:∀cl C s₀ H₀ fp pins,PE (fF X sc cl C x ks s₀ H₀ fp pins) elt te) (hcn:∀cl C s₀ H₀ fp pins,FF (fF X sc cl C x ks s₀ H₀ fp pins) ifs tc)
  (I:Inv X pins σ H s) (T:Turn X.prog X.w X.K (.Name x px) J fp it tn) (st:tn 0 s.heap) (f:∀b∈fp,lG X pins H b)
  (hw:∀D,H D=none→∃W:Nat→Nat→Hp→Prop,(∃m,W 0 m (upd H D (.lst [])))∧∀i m H2,W i m H2→(J.stop i H2∧Q (.ref D) H2) ∨
   (J.go i H2∧∀v H3,J.yld i H2 v H3→tc (some v :: dW ks σ) H3 λb H4=>if b=true then te (some v :: dW ks σ) H4 λy H5=>∃ys,H5 D=some (.lst ys)∧ys.length < sizeLine∧∃m',m' < m∧W (i + 1) m' (upd H5 D (.lst (ys ++ [y]))) else ∃m',m' < m∧W (i + 1) m' H4))
  (hR:∀(D C:Addr) (s':Shared) (H':Hp) (m:Str→Option Value),Inv X pins σ H' s'→Q (.ref D) H'→s'.heap.Ns C m→H' C=none→C≠X.env.locals→X.s₀.heap.objs.size≤C→(∀y c,X.env.cells.lookup y=some c→c≠C)→(∀p∈X.pn ++ pins,p.1≠C)→RR (.ref D) C (.ok .next) s') :
  wpAny (model X.prog X.w) X.A (newList []) (λacc s₃=>wpAny (model X.prog X.w) X.A (newFunctionEnv sc X.env.globals cl [] X.env.qual none .none (some X.env)) (λcenv s₄ =>
   codeAny (model X.prog X.w) X.A (.compStart (.ListComp elt [⟨.Name x px,iter,ifs,0⟩] sc pos) 0 (.ref it) acc { cenv with scope:=relabel sc X.env }) (RR acc cenv.locals) s₄) E s₃) E s:=by
 have okk:=ok
 obtain ⟨kd,nc,lx,ll,fr,kk,nd⟩:=okk
 have hD0:H s.heap.objs.size=none:=I.hok.fresh (So _)
 obtain ⟨W,⟨m0,w0⟩,turn⟩:=hw s.heap.objs.size hD0
 refine wpAny_newObj_type ?_
 have I3:Inv X pins σ (upd H s.heap.objs.size (.lst [])) { s with heap:=s.heap.push { cls:=.type "list",dict:=none,data:=.seq ([]:List Value).toArray } } :=
  I.laid (t':=s.toks) (λb u e=>Heap.get?_push_of_some _ e) (So _) (show du X.prog X.w _ _ _ (.lst []) from ⟨SX _,[],0,.nil,Heap.get?_push_size _ rfl⟩)
 have st3:tn 0 (s.heap.push { cls:=.type "list",dict:=none,data:=.seq ([]:List Value).toArray }):=T.keep 0 _ _ st λb hb o e=>Heap.get?_push_of_some _ e
 generalize hD:s.heap.objs.size=D at *
 generalize hH:upd H D (.lst [])=H3 at *
 generalize hs3:({ s with heap:=s.heap.push { cls:=.type "list",dict:=none,data:=.seq ([]:List Value).toArray } }:Shared)=s3 at *
 have e3:s.heap.push { cls:=.type "list",dict:=none,data:=.seq ([]:List Value).toArray }=s3.heap:=by rw [← hs3]
 rw [e3] at st3
 have fD:∀b∈fp,b≠D:=λb hb z=>by
  obtain ⟨o,ho,_⟩:=T.obj 0 _ st b hb
  have:=Heap.lt_size ho
  rw [z,← hD] at this
  exact Tt _ this
 have f3:∀b∈fp,lG X pins H3 b:=λb hb=>⟨by rw [← hH,aF (fD b hb)];exact (f b hb).1,(f b hb).2⟩
 have g3:∀b∈fp,∃o,s3.heap.get? b=some o:=λb hb=>by
  obtain ⟨o,ho,_⟩:=T.obj 0 _ st3 b hb
  exact ⟨o,ho⟩
 refine wpAny_newFunctionEnv nc (by intro y hy;simp at hy) (λh₁ hns hsb=>?_) kd
 have kp:∀b o,s3.heap.get? b=some o→h₁.get? b=some o:=λb o e=>hsb.extBut b o (SN (Heap.lt_size e)) (Heap.get?_push_of_some _ e)
 have J0:=wH (fp:=fp) (cl:=cl) (t':=s3.toks + ([]:List (Str × Value)).length) I3 ok h1 h2 (λb hb=>⟨f3 b hb,g3 b hb⟩) hns kp
 have st4:tn 0 h₁:=T.keep 0 _ _ st3 λb hb o e=>kp b o e
 have ltC:∀b o,s3.heap.get? b=some o→b≠s3.heap.objs.size:=λb o e=>SN (Heap.lt_size e)
 have cC:∀y c,X.env.cells.lookup y=some c→c≠s3.heap.objs.size:=λy c e=>by
  obtain ⟨v,o,ho,_⟩:=I3.cell y c e
  exact ltC c o ho
 have pC:∀p∈X.pn ++ pins,p.1≠s3.heap.objs.size:=λp hp=>ltC _ _ (I3.pin p hp).1
 have lC:s3.heap.objs.size≠X.env.locals:=Uw I3.lt
 have fX:∀{H':Hp},(∀b∈fp,H' b=none)→∀b∈fp,lG (fF X sc cl s3.heap.objs.size x ks s3 H3 fp pins) [] H' b:=λhn b hb=>by
  obtain ⟨o,ho⟩:=g3 b hb
  obtain ⟨_,q1,q2,q3,q4,q5⟩:=f b hb
  refine ⟨hn b hb,ltC b o ho,λz=>?_,.inl hb,λy c e=>q4 y c (h1 y c e),λp hp=>q5 p (by simpa [fF] using hp)⟩
  rcases Sy.mp (I3.oN b z) with e | e
  ·exact q1 e
  ·exact q2 e
 have back:∀{o:Option V} {H':Hp} {s':Shared},Inv (fF X sc cl s3.heap.objs.size x ks s3 H3 fp pins) [] (o :: dW ks σ) H' s'→Inv X pins σ H' s':=λ{o H' s'} J=>by
  obtain ⟨hh,g,d,t,os'⟩:=s'
  obtain rfl:os'=s3.os:=J.os
  exact I3.call (h':=hh) (g':=g) (d':=d) (t':=t) (ch:=fp) J.base J.hok J.bare λb hb=>⟨(f b hb).2.2.2.1,(f b hb).2.1,(f b hb).2.2.2.2.1,(f b hb).2.2.2.2.2⟩
 have lookX:(relabel sc X.env).names.lookup x=some .local:=lookup_relabel_local lx
 have loop:∀s',(∃(i:Nat) (o:Option V) (H':Hp),Inv (fF X sc cl s3.heap.objs.size x ks s3 H3 fp pins) [] (o :: dW ks σ) H' s'∧tn i s'.heap∧(∀b∈fp,H' b=none)∧W i m0 H') →
   codeAny (model X.prog X.w) X.A (.compLoop (.ListComp elt [⟨.Name x px,iter,ifs,0⟩] sc pos) 0 (.ref it) (.ref D) (compEnvC sc cl s3.heap.objs.size X.env)) (RR (.ref D) s3.heap.objs.size) s':=by
  intro s' hs'
  refine BK (λn s'=>∃(i:Nat) (o:Option V) (H':Hp),Inv (fF X sc cl s3.heap.objs.size x ks s3 H3 fp pins) [] (o :: dW ks σ) H' s'∧tn i s'.heap∧(∀b∈fp,H' b=none)∧W i n H') ?_ m0 hs'
  rintro n s5 ⟨i,o,H5,J5,t5,n5,w5⟩
  rcases turn i n H5 w5 with ⟨stop,hq⟩ | ⟨go,step⟩
  ·refine cA (T.done (fF X sc cl s3.heap.objs.size x ks s3 H3 fp pins) rfl rfl rfl hc i [] s5 _ H5 _ J5 (fX n5) t5 stop) λr s6 ⟨hr,J6⟩=>?_
   subst hr
   obtain ⟨m,hm,_⟩:=J6.loc
   exact hR D _ s6 H5 m (back J6) hq hm J6.free lC I3.sz cC pC
  ·refine cA (T.item (fF X sc cl s3.heap.objs.size x ks s3 H3 fp pins) rfl rfl rfl hc i [] s5 _ H5 _ J5 (fX n5) t5 go) λr s6 ⟨u,hr,h6⟩=>?_
   subst hr
   refine cA h6 λ_ s7 ⟨v,H7,J7,r7,y7,t7,n7⟩=>?_
   have J7':=J7.pinned (fX n7) (T.obj _ _ t7)
   refine wpAny_assign_Name (fI (X:=fF X sc cl s3.heap.objs.size x ks s3 H3 fp pins) (i:=0) J7' nd rfl (.inl lookX) r7 (λs8 J8=>?_) (.inr lookX))
   refine cA (hcn cl s3.heap.objs.size s3 H3 fp pins _ s8 _ H7 _ J8 (step v H7 y7)) λok s8' ⟨H8,J8',q8⟩=>?_
   cases ok with
   | false =>
    simp only [SE,if_false] at q8 ⊢
    obtain ⟨m',hm,w'⟩:=q8
    refine ⟨m',hm,i + 1,_,_,J8'.gG,?_,?_,w'⟩
    ·exact T.keep _ _ _ t7 λb hb o e=>(J8'.pin (b,o) (Sw _ (Sw _ (cO hb e)))).1
    ·intro b hb
     obtain ⟨o,e,d⟩:=T.obj _ _ t7 b hb
     exact (J8'.pin (b,o) (Sw _ (Sw _ (cO hb e)))).2.1
   | true =>
    simp only [if_true] at q8 ⊢
    refine cA (he cl s3.heap.objs.size s3 H3 fp pins _ s8' _ H8 _ J8' q8) λy s9 ⟨vy,H9,J9,r9,ys,hys,hz,m',hm,w'⟩=>?_
    refine cA (iq (X:=fF X sc cl s3.heap.objs.size x ks s3 H3 fp pins) _ s9 _ H9 (.ref D) [vy] (.ref D) [y] (λ_ H'=>H'=upd H9 D (.lst (ys ++ [vy]))) J9 rfl (.cons r9 .nil) ⟨D,ys,vy,rfl,rfl,hys,hz,rfl⟩) λ_ s10 ⟨_,H10,J10,_,eH⟩=>?_
    subst eH
    refine ⟨m',hm,i + 1,_,_,J10.gG,?_,?_,w'⟩
    ·exact T.keep _ _ _ t7 λb hb o e=>(J10.pin (b,o) (Sw _ (Sw _ (cO hb e)))).1
    ·intro b hb
     obtain ⟨o,e,d⟩:=T.obj _ _ t7 b hb
     exact (J10.pin (b,o) (Sw _ (Sw _ (cO hb e)))).2.1
 have l0:=loop _ ⟨0,none,H3,J0,st4,λb hb=>(f3 b hb).1,w0⟩
 exact codeAny_compStart_list l0 (T.self _ 0 _ _ _ st4 l0)
theorem mO {sc osc:Scope} {N:List Str} {x:Str} {ks:List (Str × Nat)} (ok:cD sc osc N x ks) {pins:List (Addr × Obj)} {σ:L2.St} {H:Hp} {s:Shared} (I:Inv X pins σ H s) (ho:X.env.scope=osc):∀y∈sc.names,y.2=.free→∃c,X.env.cells.lookup y.1=some c:=λy hy hf =>
 I.ok.has y.1 (.inl (by show X.env.scope.names.lookup y.1=some .cell;rw [ho];exact ok.2.2.2.2.1 y hy hf))
theorem Li {elt iter:Expr} {ifs:List Expr} {x:Str} {px:Pos} {sc:Scope} {pos:Pos} {wi:TI} {te:TE} {tc:TT} (osc:Scope) (N:List Str) (ks:List (Str × Nat)) (hc:X.calm=true) (ho:X.env.scope=osc) (hN:X.N=N) (hi:PI X (.Name x px) iter wi)
  (he:∀cl C s₀ H₀ fp pins,PE (fF X sc cl C x ks s₀ H₀ fp pins) elt te) (hcn:∀cl C s₀ H₀ fp pins,FF (fF X sc cl C x ks s₀ H₀ fp pins) ifs tc) (ok:cD sc osc N x ks:=by decide +kernel) (hs:∀x,foldedSetIterable iter X.env x=pure x:=by intro _;rfl) :
  PE X (.ListComp elt [⟨.Name x px,iter,ifs,0⟩] sc pos) (HZ wi ks tc te):=by
 intro pins s σ H Q I hw
 obtain ⟨cl,hcl,h1,h2⟩:=iJ (mO ok I ho)
 have ok':cD sc X.env.scope X.N x ks:=by rw [ho,hN];exact ok
 rw [eval_ListComp]
 refine wpAny_comprehension_free (use:=none) rfl hs hcl ok.1 ok.2.2.2.1 (cA (hi pins s σ H _ I hw) λv s1 h3=>cA h3 λitv s2 h4=>?_)
 obtain ⟨it,fp,tn,J,H2,rfl,I2,T,st2,f2,hR⟩:=h4
 refine xr (RR:=λacc C=>compPost (model X.prog X.w) X.A X.xe none (EP X pins σ Q) acc C) hc ok' h1 h2 he hcn I2 T st2 f2 hR ?_
 intro D C s' H' m J' q hn hC cl' cs cc cp
 refine ⟨m,hn,λh' hsb=>⟨.ref D,H',?_,rfl,q⟩⟩
 exact J'.turned (t':=s'.toks) (it:=C) (λb o ne e=>hsb.extBut b o ne e) hC cl' (.inr cs) cc cp
def OG (wi:TI) (ks:List (Str × Nat)) (tc:TT) (te:TE) (i:Nat):TS:=λD σ H=>HZ wi ks tc te σ H λv H1=>D.nx (σ.set i (some v)) H1
theorem yV {elt iter:Expr} {ifs:List Expr} {x y:Str} {px py:Pos} {sc:Scope} {pos spos:Pos} {wi:TI} {te:TE} {tc:TT} {i:Nat} (osc:Scope) (N:List Str) (ks:List (Str × Nat)) (hc:X.calm=true) (ho:X.env.scope=osc) (hN:X.N=N) (hnd:X.N.Nodup) (hy:X.N[i]?=some y) (hl:Loc X.env.scope y)
  (hi:PI X (.Name x px) iter wi) (he:∀cl C s₀ H₀ fp pins,PE (fF X sc cl C x ks s₀ H₀ fp pins) elt te) (hcn:∀cl C s₀ H₀ fp pins,FF (fF X sc cl C x ks s₀ H₀ fp pins) ifs tc) (ok:cD sc osc N x ks:=by decide +kernel) (hs:∀x,foldedSetIterable iter X.env x=pure x:=by intro _;rfl)
  (hsw:swapsWith (.ListComp elt [⟨.Name x px,iter,ifs,0⟩] sc pos) (some (.Name y py)) spos.line X.env=pure true:=by rfl) (hf:X.fn y=true∨X.env.scope.names.lookup y=some .local:=by first | exact .inl rfl | exact .inr rfl | assumption) :
  PS X (.Assign [.Name y py] (.ListComp elt [⟨.Name x px,iter,ifs,0⟩] sc pos) spos) (OG wi ks tc te i):=by
 intro pins s σ H Dn I hw
 obtain ⟨cl,hcl,h1,h2⟩:=iJ (mO ok I ho)
 have ok':cD sc X.env.scope X.N x ks:=by rw [ho,hN];exact ok
 rw [exec_Assign_Name_used _ _ _ _ hsw]
 refine wpAny_bind (wpAny_standAt (wpAny_bind ?_))
 show wpAny _ X.A (do let _ ← comprehension (.ListComp elt [⟨.Name x px,iter,ifs,0⟩] sc pos) sc X.env _ (newList []) false (eval iter X.env) (some (assign (.Name y py) X.env))) _ _ s
 refine wpAny_bind (wpAny_mono (wpAny_comprehension_free (use:=some (assign (.Name y py) X.env)) (Q:=λ_ s'=>SP X pins Dn .next s') rfl hs hcl ok.1 ok.2.2.2.1
  (cA (hi pins s σ H _ I hw) λv s1 h3=>cA h3 λitv s2 h4=>?_)) (λ_ s' hq=>wpAny_pure (wpAny_pure hq)) λ_ _ e=>e)
 obtain ⟨it,fp,tn,J,H2,rfl,I2,T,st2,f2,hR⟩:=h4
 refine xr (Q:=λv H1=>Dn.nx (σ.set i (some v)) H1) (RR:=λacc C=>compPost (model X.prog X.w) X.A X.xe (some (assign (.Name y py) X.env)) (λ_ s'=>SP X pins Dn .next s') acc C) hc ok' h1 h2 he hcn I2 T st2 f2 hR ?_
 intro D C s' H' m J' q hn hC cl' cs cc cp
 show wpAny _ X.A (assign (.Name y py) X.env (.ref D)) _ _ _
 refine wpAny_assign_Name (oO J' hnd hy hl (v:=.ref D) rfl (λs'' J'' ⟨a,hsb,ha⟩=>?_) hf)
 refine ⟨m,hn.sameBut hsb (λz=>?_),λh' hsb'=>⟨_,H',?_,q⟩⟩
 ·rcases ha with e | e
  ·exact cl' (z.trans e)
  ·exact cc _ _ e z.symm
 ·exact J''.turned (t':=s''.toks) (it:=C) (λb o ne e=>hsb'.extBut b o ne e) hC cl' (.inr cs) cc cp
def Pa (wi:TI) (ks:List (Str × Nat)) (te:TE):TE:=λσ H Q=>wi σ H λJ H1=>∀D,H1 D=none→∃W:Nat→Nat→Hp→Prop,(∃m,W 0 m (upd H1 D (.lst []))) ∧
 ∀i m H2,W i m H2→(J.stop i H2∧Q (.ref D) H2)∨(J.go i H2∧∀v H3,J.yld i H2 v H3→te (some v :: dW ks σ) H3 λy H4=>∃ys,H4 D=some (.lst ys)∧ys.length < sizeLine∧∃m',m' < m∧W (i + 1) m' (upd H4 D (.lst (ys ++ [y]))))
theorem Jd {elt iter:Expr} {x:Str} {px:Pos} {sc:Scope} {pos:Pos} {wi:TI} {te:TE} (osc:Scope) (N:List Str) (ks:List (Str × Nat)) (hc:X.calm=true) (ho:X.env.scope=osc) (hN:X.N=N) (hi:PI X (.Name x px) iter wi)
  (he:∀cl C s₀ H₀ fp pins,PE (fF X sc cl C x ks s₀ H₀ fp pins) elt te) (ok:cD sc osc N x ks:=by decide +kernel) (hs:∀x,foldedSetIterable iter X.env x=pure x:=by intro _;rfl) :
  PE X (.ListComp elt [⟨.Name x px,iter,[],0⟩] sc pos) (Pa wi ks te):=λpins s σ H Q I hw=>Li osc N ks hc ho hN hi he (λ_ _ _ _ _ _=>vm) ok hs pins s σ H Q I hw
def LX (wi:TI) (ks:List (Str × Nat)) (te:TE) (i:Nat):TS:=λD σ H=>Pa wi ks te σ H λv H1=>D.nx (σ.set i (some v)) H1
theorem Je {elt iter:Expr} {x y:Str} {px py:Pos} {sc:Scope} {pos spos:Pos} {wi:TI} {te:TE} {i:Nat} (osc:Scope) (N:List Str) (ks:List (Str × Nat)) (hc:X.calm=true) (ho:X.env.scope=osc) (hN:X.N=N) (hnd:X.N.Nodup) (hy:X.N[i]?=some y) (hl:Loc X.env.scope y)
  (hi:PI X (.Name x px) iter wi) (he:∀cl C s₀ H₀ fp pins,PE (fF X sc cl C x ks s₀ H₀ fp pins) elt te) (ok:cD sc osc N x ks:=by decide +kernel) (hs:∀x,foldedSetIterable iter X.env x=pure x:=by intro _;rfl)
  (hsw:swapsWith (.ListComp elt [⟨.Name x px,iter,[],0⟩] sc pos) (some (.Name y py)) spos.line X.env=pure true:=by rfl) (hf:X.fn y=true∨X.env.scope.names.lookup y=some .local:=by first | exact .inl rfl | exact .inr rfl | assumption) :
  PS X (.Assign [.Name y py] (.ListComp elt [⟨.Name x px,iter,[],0⟩] sc pos) spos) (LX wi ks te i):=λpins s σ H D I hw=>yV osc N ks hc ho hN hnd hy hl hi he (λ_ _ _ _ _ _=>vm) ok hs hsw hf pins s σ H D I hw
end
theorem GH {K:PySem.W.Frag} {a D:Addr} {xs:List V} {H:Hp} {te:TE} {ks:List (Str × Nat)} {σ:L2.St} {q:Hp→Prop} (Pv:Nat→Hp→Prop) (h0:Pv 0 (upd H D (.lst []))) (hl:∀i H,i≤xs.length→Pv i H→dC K H a xs)
  (hs:∀i x H (R:VK),xs[i]?=some x→Pv i H→(∀y H4 ys,H4 D=some (.lst ys)→ys.length < sizeLine→Pv (i + 1) (upd H4 D (.lst (ys ++ [y])))→R y H4)→te (some x :: dW ks σ) H R) (hd:∀H,Pv xs.length H→q H) :
  ∃W:Nat→Nat→Hp→Prop,(∃m,W 0 m (upd H D (.lst [])))∧∀i m H2,W i m H2→((F2 K a).stop i H2∧q H2) ∨
   ((F2 K a).go i H2∧∀v H3,(F2 K a).yld i H2 v H3→te (some v :: dW ks σ) H3 λy H4=>∃ys,H4 D=some (.lst ys)∧ys.length < sizeLine∧∃m',m' < m∧W (i + 1) m' (upd H4 D (.lst (ys ++ [y])))):=by
 refine ⟨λi m H=>m=xs.length - i∧i≤xs.length∧Pv i H,⟨xs.length,by simp,SX _,h0⟩,?_⟩
 rintro i m H2 ⟨rfl,hi,p⟩
 have hq:=hl i H2 hi p
 by_cases hlt:i < xs.length
 ·refine .inr ⟨⟨xs,xs[i],hq,by simp [hlt]⟩,λv H3 y=>?_⟩
  obtain ⟨e,y⟩:=y
  subst e
  exact hs i v _ _ (y xs hq) p λy H4 ys e1 e2 e3=>⟨ys,e1,e2,xs.length - (i + 1),by omega,rfl,hlt,e3⟩
 ·have e:i=xs.length:=by omega
  subst e
  exact .inl ⟨⟨xs,hq,So _⟩,hd H2 p⟩
theorem DO {lo:Int} {n:Nat} {D:Addr} {H:Hp} {te:TE} {ks:List (Str × Nat)} {σ:L2.St} {q:Hp→Prop} (Pv:Nat→Hp→Prop) (h0:Pv 0 (upd H D (.lst [])))
  (hs:∀i H (R:VK),i < n→Pv i H→(∀y H4 ys,H4 D=some (.lst ys)→ys.length < sizeLine→Pv (i + 1) (upd H4 D (.lst (ys ++ [y])))→R y H4)→te (some (.int (lo + i)) :: dW ks σ) H R) (hd:∀H,Pv n H→q H) :
  ∃W:Nat→Nat→Hp→Prop,(∃m,W 0 m (upd H D (.lst [])))∧∀i m H2,W i m H2→((CI lo n).stop i H2∧q H2) ∨
   ((CI lo n).go i H2∧∀v H3,(CI lo n).yld i H2 v H3→te (some v :: dW ks σ) H3 λy H4=>∃ys,H4 D=some (.lst ys)∧ys.length < sizeLine∧∃m',m' < m∧W (i + 1) m' (upd H4 D (.lst (ys ++ [y])))):=by
 refine ⟨λi m H=>m=n - i∧i≤n∧Pv i H,⟨n,by simp,SX _,h0⟩,?_⟩
 rintro i m H2 ⟨rfl,hi,p⟩
 by_cases hlt:i < n
 ·refine .inr ⟨hlt,λv H3 y=>?_⟩
  obtain ⟨e,y⟩:=y
  subst e y
  exact hs i _ _ hlt p λy H4 ys e1 e2 e3=>⟨ys,e1,e2,n - (i + 1),by omega,rfl,hlt,e3⟩
 ·have e:i=n:=by omega
  subst e
  exact .inl ⟨So _,hd H2 p⟩
def one (c:Nat):Str:=⟨#[c]⟩
theorem tQ:∀(cs:List Nat) (acc:Array Nat),(cs.map one).foldl (λacc (p:Str)=>acc ++ (Str.ofString "").cps ++ p.cps) acc=acc ++ cs.toArray
 | [],acc=>by simp
 | c :: cs,acc=>by
  have e:(Str.ofString "").cps=#[]:=by decide +kernel
  rw [Sm,List.foldl_cons,tQ cs]
  rw [e]
  show (acc ++ #[] ++ #[c]) ++ cs.toArray=_
  simp
theorem join_ones (cs:List Nat):Txt.join (Str.ofString "") (cs.map one)=⟨cs.toArray⟩:=by
 unfold Txt.join Builtin.Str.glued
 cases cs with
 | nil=>rfl
 | cons c cs =>
  simp only [Sm,List.drop_succ_cons,T9,List.headD_cons]
  rw [tQ]
  show (⟨#[c] ++ cs.toArray⟩:Str)=_
  simp
theorem jf:∀{ys:List Str} {us:List Value},Vals (ys.map V.str) us→StrsAre us ys
 | [],_,.nil=>.nil
 | y :: ys,_,.cons r rr=>by
  obtain ⟨t,rfl⟩:=r
  exact .cons y t (jf rr)
section
variable {X:Cx}
def rJoin (K:PySem.W.Frag):V→List V→Hp→VK→Prop:=λx vs H Q=>∃z p ys,x=.str z∧vs=[.ref p]∧dC K H p (ys.map V.str)∧(ys.map (·.length)).sum + ys.length * z.length≤16777216∧Q (.str (Txt.join z ys)) H
theorem GS:o7 X "str.join" (rJoin X.K):=by
 intro pins s σ H x vs v us Q I rx rv h
 obtain ⟨z,p,ys,rfl,rfl,hp,hz,q⟩:=h
 obtain ⟨t,rfl⟩:=rx
 obtain ⟨u,rfl,ru⟩:=vals1 rv
 cases ru
 obtain ⟨its,r,pl,_⟩:=I.list hp
 exact join_list pl.isList (by simpa using jf r) hz λt' k=>⟨.str _,H,I.tok _,⟨_,rfl⟩,q⟩
end
def uz:Expr→Option V
 | .Constant (.int i) _ _=>some (.int i)
 | .Constant (.str x) _ _=>some (.str x)
 | .Constant (.bool b) _ _=>some (.bl b)
 | _=>none
theorem qF {X:Cx}:∀{es:List Expr} (vs:List V),es.map uz=vs.map some→PA X es (λ_ H Q=>Q vs H)
 | [],[],_=>λ_ _ _ _ H Q I h=>Calls.spliced_nil ⟨[],H,I,.nil,h⟩
 | [],_ :: _,h=>by cases h
 | _ :: _,[],h=>by cases h
 | e :: es,v :: vs,h=>by
  rw [Sm,Sm] at h
  injection h with h1 h2
  have ih:=qF (X:=X) (es:=es) vs h2
  have hs:starEach (e :: es) X.env=(false,eval e X.env) :: starEach es X.env:=by
   cases e <;> first | rfl | cases h1
  have he:PE X e (tC v):=by
   cases e with
   | Constant c j pos =>
    cases c with
    | int i=>cases h1;exact aP
    | str x=>cases h1;exact oh
    | bool b=>cases h1;exact xb
    | _=>cases h1
   | _=>cases h1
  exact λpos pins s σ H Q I hq=>ay he ih hs pos pins s σ H Q I hq
end Ov
namespace Ov
open PySem PySem.Spec PyProof.Rows
open L2 (V HO Hp Inv Cx St VK TE TT TA TS TG o9 TI TO jv Ends uv Loc Gl Rd RelV Vals fh wb b7 o5 rK o7 jt R2 zj tC Fu Pc AU tB Fp OI H0 AN H_ JB O_ Ie Ck v3 fc HX rA O9 xQ Ia oS Gu zM Gx Gw HY v7 LW zP PD zQ IB Ib AS AO OE LV AQ Ic zi pX AR Pb upd E0 bS cV)
structure QE (X:Cx) (e:Expr) (t:TE):Prop where
 run:L2.PE X e t
structure QT (X:Cx) (e:Expr) (t:TT):Prop where
 run:L2.PT X e t
structure QW (X:Cx) (e:Expr) (t:TT):Prop where
 run:L2.PW X e t
structure QA (X:Cx) (es:List Expr) (t:TA):Prop where
 run:L2.PA X es t
structure QS (X:Cx) (st:Stmt) (t:TS):Prop where
 run:L2.PS X st t
structure QB (X:Cx) (st:List Stmt) (t:TS):Prop where
 run:L2.rJ X st t
structure QG (X:Cx) (e:Expr) (t:TG):Prop where
 run:L2.PG X e t
structure OZ (X:Cx) (es:List Expr) (t:o9):Prop where
 run:L2.Ir X es t
structure QI (X:Cx) (tg e:Expr) (t:TI):Prop where
 run:L2.PI X tg e t
structure QO (X:Cx) (e:Option Expr) (t:TO):Prop where
 run:L2.PO X e t
section
variable {X:Cx} {a b c e o:Expr} {es rest:List Expr} {ta tb te tc to:TE} {tA tB':TT} {t:TA} {pos px p p2 apos cpos:Pos} {x:Str} {i j:Nat}
theorem pv (i:Nat) {x:Str} {pos:Pos} (hN:X.N[i]?=some x:=by rfl) (hv:uv X.env.scope x:=by first | exact Or.inl rfl | exact Or.inr (Or.inl rfl) | exact Or.inr (Or.inr rfl)) (hd:(x == ("__debug__":Str))=false:=by decide)
  (hcd:(x == ("__classdict__":Str))=false:=by decide):QE X (.Name x pos) (zj i):=⟨L2.yS hN hv hd hcd⟩
theorem aP {i:Int} {j pos}:QE X (.Constant (.int i) j pos) (tC (.int i)):=⟨L2.aP⟩
theorem xb {b:Bool} {j pos}:QE X (.Constant (.bool b) j pos) (tC (.bl b)):=⟨L2.xb⟩
theorem yQ {j pos}:QE X (.Constant .none j pos) (tC .non):=⟨L2.yQ⟩
theorem oh {x:Str} {j pos}:QE X (.Constant (.str x) j pos) (tC (.str x)):=⟨L2.oh⟩
theorem dm {v:V} {u:Value} (hg:Gl X x) (hm:X.mg x=some u) (r:RelV v u) (hd:(x == ("__debug__":Str))=false:=by decide):QE X (.Name x pos) (tC v):=⟨L2.dm hg hm r hd⟩
theorem pI {v:V} {u:Value} (hg:Gl X x) (hm:X.mg x=none) (hv:bootBuiltins x=some u) (r:RelV v u) (hn:x≠"__name__":=by decide) (hd:(x == ("__debug__":Str))=false:=by decide):QE X (.Name x pos) (tC v):=⟨L2.pI hg hm hv r hn hd⟩
theorem bA {op:Operator} {r:R2} (ho:fh X (binaryOp op) r) (ha:QE X a ta) (hb:QE X b tb):QE X (.BinOp a op b pos) (Fu r ta tb):=⟨L2.bA ho ha.run hb.run⟩
theorem Ad {op:UnaryOp} {r:V→Hp→VK→Prop} (ho:wb X (unaryOp op) r) (ha:QE X a ta):QE X (.UnaryOp op a pos) (Pc r ta):=⟨L2.Ad ho ha.run⟩
theorem pJ {op:CmpOp} {r:R2} (ho:fh X (compareOp op) r) (ha:QE X a ta) (hb:QE X b tb) (hm:behindInMarks op b=false):QE X (.Compare a [op] [b] pos) (Fu r ta tb):=⟨L2.pJ ho ha.run hb.run hm⟩
theorem dH {op:CmpOp} {r:R2} (ho:fh X (compareOp op) r) (ha:QE X a ta) (hb:QE X b tb) (hm:behindInMarks op b=false):QT X (.Compare a [op] [b] pos) (AU (Fu r ta tb)):=⟨L2.dH ho ha.run hb.run hm⟩
theorem yR {op} (h:QE X a ta):QE X (.BoolOp op [a] pos) ta:=⟨L2.yR h.run⟩
theorem yP (ha:QE X a ta) (hb:QE X (.BoolOp .And (b :: rest) pos) tb):QE X (.BoolOp .And (a :: b :: rest) pos) (AN ta tb):=⟨L2.yP ha.run hb.run⟩
theorem Et (ha:QE X a ta) (hb:QE X (.BoolOp .Or (b :: rest) pos) tb):QE X (.BoolOp .Or (a :: b :: rest) pos) (H_ ta tb):=⟨L2.Et ha.run hb.run⟩
theorem yW (ha:QT X a tA):QT X (.UnaryOp .Not a pos) (H0 tA):=⟨L2.yW ha.run⟩
theorem pM (ha:QT X a tA):QW X (.BoolOp .And [a] pos) tA:=⟨L2.pM ha.run⟩
theorem vp (ha:QT X a tA):QW X (.BoolOp .Or [a] pos) tA:=⟨L2.vp ha.run⟩
theorem vo (ha:QT X a tA) (hb:QW X (.BoolOp .And (b :: rest) pos) tB'):QW X (.BoolOp .And (a :: b :: rest) pos) (Fp tA tB'):=⟨L2.vo ha.run hb.run⟩
theorem Ah (ha:QT X a tA) (hb:QW X (.BoolOp .Or (b :: rest) pos) tB'):QW X (.BoolOp .Or (a :: b :: rest) pos) (OI tA tB'):=⟨L2.Ah ha.run hb.run⟩
theorem Jf (h:QW X e tA):QT X e tA:=⟨h.run.pt⟩
theorem yX (h:QE X e te) (he:∀whole,isTrue e X.env whole=(do let v ← whole;standAt e.pos;holding [v] (truthy v)):=by intro _;rfl):QT X e (tB te):=⟨L2.yX h.run he⟩
theorem qH (hc:QT X c tA) (ha:QE X a ta) (hb:QE X b tb):QE X (.IfExp c a b pos) (O_ tA ta tb):=⟨L2.qH hc.run ha.run hb.run⟩
theorem bp:QA X [] v3:=⟨L2.bp⟩
theorem ay (ha:QE X e te) (hr:QA X es t) (hs:starEach (e :: es) X.env=(false,eval e X.env) :: starEach es X.env:=by rfl):QA X (e :: es) (fc te t):=⟨L2.ay ha.run hr.run hs⟩
theorem Ek {es:List Expr} (vs:List V) (h:es.map uz=vs.map some):QA X es (λ_ H Q=>Q vs H):=⟨qF vs h⟩
theorem qJ {x1} (h:QA X es t):QE X (.Tuple es x1 pos) (Ie t):=⟨L2.qJ h.run⟩
theorem iW (h:QA X es t):QE X (.List es pos) (Ck t):=⟨L2.iW h.run⟩
theorem cm {r:R2} (hr:o5 X r) (ha:QE X a ta) (hb:QE X b tb) (hs:cV b):QE X (.Subscript a b pos) (Fu r ta tb):=⟨L2.cm hr ha.run hb.run hs⟩
theorem pK:QO X none pX:=⟨L2.pK⟩
theorem kH (h:QE X e te):QO X (some e) (AR te):=⟨L2.kH h.run⟩
theorem jU {lo hi:Option Expr} {tl th:TO} {r:V→Option Int→Option Int→Hp→VK→Prop} (hr:rK X r) (he:QE X e te) (hl:QO X lo tl) (hu:QO X hi th):QE X (.Subscript e (.Slice lo hi none p2) pos) (Pb r te tl th):=⟨L2.jU hr he.run hl.run hu.run⟩
theorem bH {id:String} {r:List V→Hp→VK→Prop} (hc:b7 X (.builtin id) r) (hg:Gl X x) (hm:X.mg x=none) (hv:bootBuiltins x=some (.builtin id)) (ha:QA X (e :: es) t) (hn:x≠"__name__":=by decide) (hdb:(x == ("__debug__":Str))=false:=by decide)
  (he:starEach (e :: es) X.env=(false,eval e X.env) :: starEach es X.env:=by rfl) (hpl:(backTo pos (starEach es X.env)).any (·.1)=false:=by rfl):QE X (.Call (.Name x p) (e :: es) [] pos) (HX r t):=⟨L2.bH hc hg hm hv ha.run hn hdb he hpl⟩
theorem og {T:String} {r:List V→Hp→VK→Prop} (hc:b7 X (.type T) r) (hg:Gl X x) (hm:X.mg x=none) (hv:bootBuiltins x=some (.type T)) (ha:QA X (e :: es) t) (hn:x≠"__name__":=by decide) (hdb:(x == ("__debug__":Str))=false:=by decide)
  (he:starEach (e :: es) X.env=(false,eval e X.env) :: starEach es X.env:=by rfl) (hpl:(backTo pos (starEach es X.env)).any (·.1)=false:=by rfl):QE X (.Call (.Name x p) (e :: es) [] pos) (HX r t):=⟨L2.og hc hg hm hv ha.run hn hdb he hpl⟩
theorem xf {k k':Nat} {ps:List Str} {sp:L2.Sp} (C:rH X.prog X.w X.K X.mg X.base k x ps sp) (hr:bS k' X.A) (hk:k≤k') (hg:Gl X x) (ha:QA X (e :: es) t)
  (hdb:(x == ("__debug__":Str))=false:=by decide) (he:starEach (e :: es) X.env=(false,eval e X.env) :: starEach es X.env:=by rfl) (hpl:(backTo pos (starEach es X.env)).any (·.1)=false:=by rfl) :
  QE X (.Call (.Name x p) (e :: es) [] pos) (rA sp [] E0 t):=⟨Lg C hr hk hg ha.run hdb he hpl⟩
theorem qG {name:Str} {T id:String} {r:V→List V→Hp→VK→Prop} (pa:PlainAttrs T) (slot:Slot T name id) (hty:typeOf (.builtin id)=pure (.type "method_descriptor")) (hm:o7 X id r) (ho:QE X o to) (ha:QA X (e :: es) t)
  (hbase:attributeBase o name X.env (eval o X.env)=eval o X.env:=by rfl)
  (hfew:((backTo cpos (starEach (e :: es) X.env)).all (λx=>!x.1) && (backToKw cpos (keywordEach [] X.env)).all (λx=>x.1.isSome)
   && decide ((e :: es).length + ([]:List Keyword).length + (if ([]:List Keyword).isEmpty then 0 else 1) < 30))=true:=by rfl)
  (hline:(apos.endLine == cpos.line)=true:=by rfl) (hs:starEach (e :: es) X.env=(false,eval e X.env) :: starEach es X.env:=by rfl) (hplain:(backTo cpos (starEach es X.env)).any (·.1)=false:=by rfl) :
  QE X (.Call (.Attribute o name apos) (e :: es) [] cpos) (O9 X.K T r to t):=⟨L2.qG pa slot hty hm ho.run ha.run hbase hfew hline hs hplain⟩
end
section
variable {X:Cx} {st:Stmt} {rest:List Stmt} {t u:TS} {e tg:Expr} {es:List Expr} {te:TE} {pos:Pos} {g:TG}
theorem fV:QB X [] AQ:=⟨L2.fV⟩
theorem aX (h1:QS X st t) (h2:QB X rest u):QB X (st :: rest) (Ic t u):=⟨L2.aX h1.run h2.run⟩
theorem bM (h1:QS X st t):QB X [st] t:=⟨L2.bM h1.run⟩
theorem xi (h1:QS X st t) (h2:QB X rest u):QB X (st :: rest) (OF t u):=⟨Hs h1.run h2.run⟩
theorem om {sts:List Stmt}:QB X sts zi:=⟨L2.om⟩
theorem kI (he:QE X e te) (hs:swapsWith e none pos.line X.env=pure false:=by rfl):QS X (.Expr e pos) (AO te):=⟨L2.kI he.run hs⟩
theorem dO (he:QE X e te):QS X (.Return (some e) pos) (Ib te):=⟨L2.dO he.run⟩
theorem vj:QS X (.Return none pos) AS:=⟨L2.vj⟩
theorem m5 {c:Expr} {a b:List Stmt} {tc:TT} (hc:QT X c tc) (ha:QB X a t) (hb:QB X b u):QS X (.If c a b pos) (HY tc t u):=⟨L2.m5 hc.run ha.run hb.run⟩
theorem j4 {c:Expr} {body:List Stmt} {tc:TT} {tb:TS} (hp:PassesOwn (model X.prog X.w) X.A X.env X.xe) (hc:QT X c tc) (hb:QB X body tb):QS X (.While c body [] pos) (v7 tc tb):=⟨L2.j4 hp hc.run hb.run⟩
theorem kG {i:Nat} {x:Str} (hN:X.N.Nodup) (hi:X.N[i]?=some x) (hx:Loc X.env.scope x) (hf:X.fn x=true∨X.env.scope.names.lookup x=some .local:=by first | exact .inl rfl | exact .inr rfl | assumption):QG X (.Name x pos) (oS i):=⟨L2.kG hN hi hx hf⟩
theorem vf:OZ X [] Gu:=⟨L2.vf⟩
theorem qK {e:Expr} {es:List Expr} {t:TG} {u:o9} (h1:QG X e t) (h2:OZ X es u)
  (hs:(assignEach (e :: es) X.env).map (·.2)=assign e X.env :: (assignEach es X.env).map (·.2):=by rfl):OZ X (e :: es) (zM t u):=⟨L2.qK h1.run h2.run hs⟩
theorem yT {k:Nat} {t:o9} {n:Nat} (hc:X.calm=true) (h:OZ X es t)
  (hn:(assignEach es X.env).length=n:=by rfl) (hst:(assignEach es X.env).findIdx? (·.1)=none:=by rfl):QG X (.Tuple es k pos) (Gx X.K n t):=⟨L2.yT hc h.run hn hst⟩
theorem ve {o i:Expr} {to ti:TE} {t:jv} (ho:QE X o to) (hi:QE X i ti) (hs:jt X t)
  (ha:∀v,assign (.Subscript o i pos) X.env v=(do
   let ov ← holding [v] (eval o X.env)
   let iv ← holding [v,ov] (eval i X.env)
   standAt pos
   holding [v,ov,iv] (setItem ov iv v)
   release [v,ov,iv] []):=by intro _;rfl):QG X (.Subscript o i pos) (Gw to ti t):=⟨L2.ve ho.run hi.run hs ha⟩
theorem vi {tg e:Expr} (he:QE X e te) (hg:QG X tg g) (hs:swapsWithSole [tg] e pos.line X.env=pure false:=by rfl) (hw:swappedStores [tg] e X.env=pure none:=by rfl)
  (h1:(assignEach [tg] X.env).map (·.2)=[assign tg X.env]:=by rfl):QS X (.Assign [tg] e pos) (xQ te g):=⟨L2.vi he.run hg.run hs hw h1⟩
theorem cR {i:Nat} {x:Str} {pos':Pos} (hN:X.N.Nodup) (hi:X.N[i]?=some x) (hx:Loc X.env.scope x) (he:QE X e te) (hs:swapsWith e (some (.Name x pos')) pos.line X.env=pure false:=by rfl) (hf:X.fn x=true∨X.env.scope.names.lookup x=some .local:=by first | exact .inl rfl | exact .inr rfl | assumption) :
  QS X (.Assign [.Name x pos'] e pos) (xQ te (oS i)):=⟨L2.cR hN hi hx he.run hs hf⟩
theorem oj {i j:Nat} {x y:Str} {a b:Expr} {ta:TA} {px py pt:Pos} {kt k2 pt2} (hc:X.calm=true) (hN:X.N.Nodup) (hi:X.N[i]?=some x) (hj:X.N[j]?=some y) (hij:i≠j)
  (hx:X.env.scope.names.lookup x=some .local) (hy:X.env.scope.names.lookup y=some .local) (ha:QA X [a,b] ta)
  (hw:swappedStores [.Tuple [.Name x px,.Name y py] kt pt] (.Tuple [a,b] k2 pt2) X.env=pure (some [x,y]))
  (hs:swapsWithSole [.Tuple [.Name x px,.Name y py] kt pt] (.Tuple [a,b] k2 pt2) pos.line X.env=pure false:=by rfl) :
  QS X (.Assign [.Tuple [.Name x px,.Name y py] kt pt] (.Tuple [a,b] k2 pt2) pos) (Ia i j ta):=⟨L2.oj hc hN hi hj hij hx hy ha.run hw hs⟩
theorem mP {l:Expr} {tl:TE} (hl:QE X l tl):QI X tg l (zP X.K tl):=⟨L2.mP hl.run⟩
theorem f6 {a:Expr} {ta:TA} {p pos:Pos} (hg:Gl X "range") (hm:X.mg "range"=none) (ha:QA X [a] ta) (hs:starEach [a] X.env=[(false,eval a X.env)]:=by rfl):QI X tg (.Call (.Name "range" p) [a] [] pos) (zQ ta):=⟨L2.f6 hg hm ha.run hs⟩
theorem oi {iter:Expr} {body:List Stmt} {wi:TI} {g:TG} {tb:TS} {pos:Pos} (hp:PassesOwn (model X.prog X.w) X.A X.env X.xe) (hc:X.calm=true) (hi:QI X tg iter wi) (hg:QG X tg g) (hb:QB X body tb)
  (hs:∀x,foldedSetIterable iter X.env x=pure x:=by intro _;rfl):QS X (.For tg iter body [] pos) (LW wi g tb):=⟨L2.oi hp hc hi.run hg.run hb.run hs⟩
theorem Hf {elt iter:Expr} {x:Str} {px:Pos} {sc:Scope} {pos:Pos} {wi:TI} (osc:Scope) (N:List Str) (ks:List (Str × Nat)) (hc:X.calm=true) (ho:X.env.scope=osc) (hN:X.N=N) (hi:QI X (.Name x px) iter wi)
  (he:∀cl C s₀ H₀ fp pins,QE (fF X sc cl C x ks s₀ H₀ fp pins) elt te) (ok:cD sc osc N x ks:=by decide +kernel) (hs:∀x,foldedSetIterable iter X.env x=pure x:=by intro _;rfl) :
  QE X (.ListComp elt [⟨.Name x px,iter,[],0⟩] sc pos) (Pa wi ks te):=⟨Jd osc N ks hc ho hN hi.run (λcl C s₀ H₀ fp pins=>(he cl C s₀ H₀ fp pins).run) ok hs⟩
theorem Ho {elt iter:Expr} {x y:Str} {px py:Pos} {sc:Scope} {pos spos:Pos} {wi:TI} {i:Nat} (osc:Scope) (N:List Str) (ks:List (Str × Nat)) (hc:X.calm=true) (ho:X.env.scope=osc) (hN:X.N=N) (hnd:X.N.Nodup) (hy:X.N[i]?=some y) (hl:Loc X.env.scope y)
  (hi:QI X (.Name x px) iter wi) (he:∀cl C s₀ H₀ fp pins,QE (fF X sc cl C x ks s₀ H₀ fp pins) elt te) (ok:cD sc osc N x ks:=by decide +kernel) (hs:∀x,foldedSetIterable iter X.env x=pure x:=by intro _;rfl)
  (hsw:swapsWith (.ListComp elt [⟨.Name x px,iter,[],0⟩] sc pos) (some (.Name y py)) spos.line X.env=pure true:=by rfl) (hf:X.fn y=true∨X.env.scope.names.lookup y=some .local:=by first | exact .inl rfl | exact .inr rfl | assumption) :
  QS X (.Assign [.Name y py] (.ListComp elt [⟨.Name x px,iter,[],0⟩] sc pos) spos) (LX wi ks te i):=⟨Je osc N ks hc ho hN hnd hy hl hi.run (λcl C s₀ H₀ fp pins=>(he cl C s₀ H₀ fp pins).run) ok hs hsw hf⟩
end
end Ov
namespace Ov
open PySem PySem.Spec PyProof.Rows
open L2 (V HO Hp Inv Cx VK TE TA Vals RelV fh b7 dC R2 upd EP vals1 intsAre_of Gl)
section
variable {X:Cx}
end
end Ov
namespace Ov
open PySem PySem.Spec PyProof.Rows
open L2 (V HO Hp Inv Cx VK TE TA Vals RelV fh b7 dC gJ R2 upd bD)
inductive Py where
 | non | bl (b:Bool) | int (i:Int) | str (x:Str) | tup (xs:List Py) | lst (xs:List Py)
mutual
def At (K:PySem.W.Frag) (H:Hp):Py→V→Prop
 | .non,v=>v=.non
 | .bl b,v=>v=.bl b
 | .int i,v=>v=.int i
 | .str x,v=>v=.str x
 | .tup xs,v=>∃a vs,v=.ref a∧gJ K H a vs∧rM K H xs vs
 | .lst xs,v=>∃a vs,v=.ref a∧dC K H a vs∧rM K H xs vs
def rM (K:PySem.W.Frag) (H:Hp):List Py→List V→Prop
 | [],vs=>vs=[]
 | x :: xs,vs=>∃v us,vs=v :: us∧At K H x v∧rM K H xs us
end
mutual
def kD:Py→Py→Bool
 | .non,.non=>true
 | .bl a,.bl b=>a == b
 | .int a,.int b=>a == b
 | .bl a,.int b=>(if a then 1 else 0) == b
 | .int a,.bl b=>a == (if b then 1 else 0)
 | .str a,.str b=>a == b
 | .tup xs,.tup ys=>jH xs ys
 | .lst xs,.lst ys=>jH xs ys
 | _,_=>false
def jH:List Py→List Py→Bool
 | [],[]=>true
 | x :: xs,y :: ys=>kD x y && jH xs ys
 | _,_=>false
end
mutual
def dep:Py→Nat
 | .tup xs=>dQ xs + 1
 | .lst xs=>dQ xs + 1
 | _=>0
def dQ:List Py→Nat
 | []=>0
 | x :: xs=>max (dep x) (dQ xs)
end
mutual
theorem wA:∀x:Py,kD x x=true
 | .non=>rfl
 | .bl b=>by simp [kD]
 | .int b=>by simp [kD]
 | .str b=>by simp [kD]
 | .tup xs=>by simpa [kD] using nS xs
 | .lst xs=>by simpa [kD] using nS xs
theorem nS:∀xs:List Py,jH xs xs=true
 | []=>rfl
 | x :: xs=>by simp [jH,wA x,nS xs]
end
mutual
theorem At.same {K:PySem.W.Frag} {H H':Hp} (e:bD H H'):∀{x:Py} {v:V},At K H x v→At K H' x v
 | .non,_,h=>h
 | .bl _,_,h=>h
 | .int _,_,h=>h
 | .str _,_,h=>h
 | .tup xs,_,⟨a,vs,e1,h,k⟩=>⟨a,vs,e1,e.tup h,rM.same e k⟩
 | .lst xs,_,⟨a,vs,e1,h,k⟩=>⟨a,vs,e1,e.seq h,rM.same e k⟩
theorem rM.same {K:PySem.W.Frag} {H H':Hp} (e:bD H H'):∀{xs:List Py} {vs:List V},rM K H xs vs→rM K H' xs vs
 | [],_,h=>h
 | _ :: _,_,⟨v,us,e1,h,k⟩=>⟨v,us,e1,At.same e h,rM.same e k⟩
end
theorem rM.length {K:PySem.W.Frag} {H:Hp}:∀{xs:List Py} {vs:List V},rM K H xs vs→xs.length=vs.length
 | [],_,h=>by cases h;rfl
 | _ :: xs,_,⟨v,us,e1,_,k⟩=>by subst e1;simp [rM.length k]
def Bp (xs ys:List Py) (j:Nat):Bool:=match xs[j]?,ys[j]? with
 | some x,some y=>kD x y
 | _,_=>false
theorem iH:∀(xs ys:List Py),((S8 (min xs.length ys.length)).all (Bp xs ys) && (xs.length == ys.length))=jH xs ys
 | [],[]=>rfl
 | [],_ :: _=>by simp [jH]
 | _ :: _,[]=>by simp [jH]
 | x :: xs,y :: ys=>by
  have ih:=iH xs ys
  rw [SJ,SJ,Nat.succ_min_succ,List.range_succ_eq_map,UK,List.all_map]
  have e1:(Bp (x :: xs) (y :: ys) ∘ Nat.succ)=Bp xs ys:=by
   funext j
   simp [Bp]
  have e2:(xs.length + 1 == ys.length + 1)=(xs.length == ys.length):=by
   rw [Tz]
   simp
  rw [e1,e2,Bool.and_assoc,ih]
  simp [Bp,jH]
section
variable {X:Cx} {pins:List (Addr × Obj)} {σ:L2.St} {H:Hp} {s:Shared}
mutual
theorem At.one (I:Inv X pins σ H s):∀{x y:Py} {v:V},At X.K H x v→At X.K H y v→kD x y=true
 | .non,y,v,h,k=>by cases h;cases y <;> simp_all [At,kD]
 | .bl b,y,v,h,k=>by cases h;cases y <;> simp_all [At,kD]
 | .int b,y,v,h,k=>by cases h;cases y <;> simp_all [At,kD]
 | .str b,y,v,h,k=>by cases h;cases y <;> simp_all [At,kD]
 | .tup xs,y,v,h,k=>by
  obtain ⟨a,vs,rfl,h1,h2⟩:=h
  cases y with
  | tup ys =>
   obtain ⟨b,us,e,k1,k2⟩:=k
   cases e
   cases I.Cm h1 k1
   simpa [kD] using rM.one I h2 k2
  | lst ys =>
   obtain ⟨b,us,e,k1,k2⟩:=k
   cases e
   obtain ⟨_,_,⟨o,e1,c1,_⟩,_⟩:=I.tuple h1
   obtain ⟨_,_,⟨o',n,e2,c2,_⟩,_⟩:=I.list k1
   rw [e1] at e2;cases e2;exact absurd (Value.type.inj (c1.symm.trans c2)) (by decide)
  | _=>cases k
 | .lst xs,y,v,h,k=>by
  obtain ⟨a,vs,rfl,h1,h2⟩:=h
  cases y with
  | lst ys =>
   obtain ⟨b,us,e,k1,k2⟩:=k
   cases e
   cases I.qv h1 k1
   simpa [kD] using rM.one I h2 k2
  | tup ys =>
   obtain ⟨b,us,e,k1,k2⟩:=k
   cases e
   obtain ⟨_,_,⟨o,e1,c1,_⟩,_⟩:=I.tuple k1
   obtain ⟨_,_,⟨o',n,e2,c2,_⟩,_⟩:=I.list h1
   rw [e1] at e2;cases e2;exact absurd (Value.type.inj (c1.symm.trans c2)) (by decide)
  | _=>cases k
theorem rM.one (I:Inv X pins σ H s):∀{xs ys:List Py} {vs:List V},rM X.K H xs vs→rM X.K H ys vs→jH xs ys=true
 | [],ys,vs,h,k=>by
  cases h
  cases ys with
  | nil=>rfl
  | cons y ys=>obtain ⟨_,_,e,_⟩:=k;cases e
 | x :: xs,ys,vs,h,k=>by
  obtain ⟨v,us,rfl,h1,h2⟩:=h
  cases ys with
  | nil=>cases k
  | cons y ys =>
   obtain ⟨v',us',e,k1,k2⟩:=k
   cases e
   simp [jH,At.one I h1 k1,rM.one I h2 k2]
end
mutual
theorem Px (I:Inv X pins σ H s):∀(x y:Py) {v v':V} {u u':Value} {A:Around},At X.K H x v→At X.K H y v'→RelV v u→RelV v' u'→A.units + dep x < cLine→SeqAt.EqAt A s u u' (kD x y)
 | .non,y,v,v',u,u',A,h,k,r,r',hu=>by
  cases h;cases r
  cases y with
  | non=>cases k;cases r';exact SeqAt.EqAt.same _
  | bl b=>cases k;cases r';exact SeqAt.EqAt.none_bool _
  | int b=>cases k;obtain ⟨t,rfl⟩:=r';exact SeqAt.EqAt.none_int _ _
  | str b=>cases k;obtain ⟨t,rfl⟩:=r';exact SeqAt.EqAt.none_str _ _
  | tup ys=>obtain ⟨a,vs,rfl,h1,h2⟩:=k;cases r';obtain ⟨_,_,p,_⟩:=I.tuple h1;exact SeqAt.EqAt.none_tuple p (by simpa [dep] using hu)
  | lst ys=>obtain ⟨a,vs,rfl,h1,h2⟩:=k;cases r';obtain ⟨_,_,p,_⟩:=I.list h1;exact SeqAt.EqAt.none_list p.isList (by simpa [dep] using hu)
 | .bl x,y,v,v',u,u',A,h,k,r,r',hu=>by
  cases h;cases r
  cases y with
  | non=>cases k;cases r';exact SeqAt.EqAt.bool_none _
  | bl b=>cases k;cases r';exact SeqAt.EqAt.bool_bool _ _
  | int b=>cases k;obtain ⟨t,rfl⟩:=r';exact SeqAt.EqAt.bool_int _ _ _
  | str b=>cases k;obtain ⟨t,rfl⟩:=r';exact SeqAt.EqAt.bool_str _ _ _
  | tup ys=>obtain ⟨a,vs,rfl,h1,h2⟩:=k;cases r';obtain ⟨_,_,p,_⟩:=I.tuple h1;exact SeqAt.EqAt.bool_tuple _ p (by simpa [dep] using hu)
  | lst ys=>obtain ⟨a,vs,rfl,h1,h2⟩:=k;cases r';obtain ⟨_,_,p,_⟩:=I.list h1;exact SeqAt.EqAt.bool_list _ p.isList (by simpa [dep] using hu)
 | .int x,y,v,v',u,u',A,h,k,r,r',hu=>by
  cases h;obtain ⟨t0,rfl⟩:=r
  cases y with
  | non=>cases k;cases r';exact SeqAt.EqAt.int_none _ _
  | bl b=>cases k;cases r';exact SeqAt.EqAt.int_bool _ _ _
  | int b=>cases k;obtain ⟨t,rfl⟩:=r';exact SeqAt.EqAt.int_int _ _ _ _
  | str b=>cases k;obtain ⟨t,rfl⟩:=r';exact SeqAt.EqAt.int_str _ _ _ _
  | tup ys=>obtain ⟨a,vs,rfl,h1,h2⟩:=k;cases r';obtain ⟨_,_,p,_⟩:=I.tuple h1;exact SeqAt.EqAt.int_tuple _ _ p (by simpa [dep] using hu)
  | lst ys=>obtain ⟨a,vs,rfl,h1,h2⟩:=k;cases r';obtain ⟨_,_,p,_⟩:=I.list h1;exact SeqAt.EqAt.int_list _ _ p.isList (by simpa [dep] using hu)
 | .str x,y,v,v',u,u',A,h,k,r,r',hu=>by
  cases h;obtain ⟨t0,rfl⟩:=r
  cases y with
  | non=>cases k;cases r';exact SeqAt.EqAt.str_none _ _
  | bl b=>cases k;cases r';exact SeqAt.EqAt.str_bool _ _ _
  | int b=>cases k;obtain ⟨t,rfl⟩:=r';exact SeqAt.EqAt.str_int _ _ _ _
  | str b=>cases k;obtain ⟨t,rfl⟩:=r';exact SeqAt.EqAt.str_str _ _ _ _
  | tup ys=>obtain ⟨a,vs,rfl,h1,h2⟩:=k;cases r';obtain ⟨_,_,p,_⟩:=I.tuple h1;exact SeqAt.EqAt.str_tuple _ _ p (by simpa [dep] using hu)
  | lst ys=>obtain ⟨a,vs,rfl,h1,h2⟩:=k;cases r';obtain ⟨_,_,p,_⟩:=I.list h1;exact SeqAt.EqAt.str_list _ _ p.isList (by simpa [dep] using hu)
 | .tup xs,y,v,v',u,u',A,h,k,r,r',hu=>by
  have h0:=h
  obtain ⟨a,vs,rfl,h1,h2⟩:=h
  cases r
  obtain ⟨is,r1,p1,_⟩:=I.tuple h1
  have hu0:A.units < cLine:=by omega
  have hu1:A.in1.units + dQ xs < cLine:=by
   have e:dep (.tup xs)=dQ xs + 1:=by rw [dep]
   rw [e] at hu
   show A.units + 1 + dQ xs < cLine
   omega
  cases y with
  | non=>cases k;cases r';exact SeqAt.EqAt.tuple_none p1 hu0
  | bl b=>cases k;cases r';exact SeqAt.EqAt.tuple_bool _ p1 hu0
  | int b=>cases k;obtain ⟨t,rfl⟩:=r';exact SeqAt.EqAt.tuple_int _ _ p1 hu0
  | str b=>cases k;obtain ⟨t,rfl⟩:=r';exact SeqAt.EqAt.tuple_str _ _ p1 hu0
  | lst ys=>obtain ⟨b,us,rfl,k1,k2⟩:=k;cases r';obtain ⟨_,_,p,_⟩:=I.list k1;exact SeqAt.EqAt.tuple_list p1 p.isList hu0
  | tup ys =>
   have k0:=k
   obtain ⟨b,us,rfl,k1,k2⟩:=k
   cases r'
   by_cases hab:a=b
   ·subst hab
    rw [At.one I h0 k0]
    exact SeqAt.EqAt.same _
   ·obtain ⟨js,r2,p2,_⟩:=I.tuple k1
    refine SeqAt.EqAt.of_refs hab ?_
    have key:=SeqAt.RcAt.tuples (e:=Bp xs ys) p1 p2 hu0 λj q1 q2=>qi I xs ys h2 k2 r1 r2 hu1 j (by simpa using q1) (by simpa using q2)
    have e1:is.length=xs.length:=by rw [← r1.length,h2.length]
    have e2:js.length=ys.length:=by rw [← r2.length,k2.length]
    simp only [Sn] at key
    rw [e1,e2,iH] at key
    simpa [kD] using key
 | .lst xs,y,v,v',u,u',A,h,k,r,r',hu=>by
  have h0:=h
  obtain ⟨a,vs,rfl,h1,h2⟩:=h
  cases r
  obtain ⟨is,r1,p1,_⟩:=I.list h1
  have hu0:A.units < cLine:=by omega
  have hu1:A.in1.units + dQ xs < cLine:=by
   have e:dep (.lst xs)=dQ xs + 1:=by rw [dep]
   rw [e] at hu
   show A.units + 1 + dQ xs < cLine
   omega
  cases y with
  | non=>cases k;cases r';exact SeqAt.EqAt.list_none p1.isList hu0
  | bl b=>cases k;cases r';exact SeqAt.EqAt.list_bool _ p1.isList hu0
  | int b=>cases k;obtain ⟨t,rfl⟩:=r';exact SeqAt.EqAt.list_int _ _ p1.isList hu0
  | str b=>cases k;obtain ⟨t,rfl⟩:=r';exact SeqAt.EqAt.list_str _ _ p1.isList hu0
  | tup ys=>obtain ⟨b,us,rfl,k1,k2⟩:=k;cases r';obtain ⟨_,_,p,_⟩:=I.tuple k1;exact SeqAt.EqAt.list_tuple p1.isList p hu0
  | lst ys =>
   have k0:=k
   obtain ⟨b,us,rfl,k1,k2⟩:=k
   cases r'
   by_cases hab:a=b
   ·subst hab
    rw [At.one I h0 k0]
    exact SeqAt.EqAt.same _
   ·obtain ⟨js,r2,p2,_⟩:=I.list k1
    refine SeqAt.EqAt.of_refs hab ?_
    have e1:is.length=xs.length:=by rw [← r1.length,h2.length]
    have e2:js.length=ys.length:=by rw [← r2.length,k2.length]
    have ae:=iH xs ys
    by_cases hl:xs.length=ys.length
    ·have key:=SeqAt.RcAt.lists (e:=Bp xs ys) p1.isList p2.isList (by simp only [Sn];omega) hu0 λj q1 q2=>qi I xs ys h2 k2 r1 r2 hu1 j (by simpa using q1) (by simpa using q2)
     simp only [Sn] at key
     rw [hl,UQ] at ae
     have e3:(ys.length == ys.length)=true:=by simp
     rw [e3,TN] at ae
     rw [e1,hl,ae] at key
     simpa [kD] using key
    ·have key:=SeqAt.RcAt.lists_lengths p1.isList p2.isList (A:=A) (by simp only [Sn];rw [e1,e2];simpa using hl) hu0
     have e3:jH xs ys=false:=by
      rw [← ae]
      have:(xs.length == ys.length)=false:=by simpa using hl
      rw [this,TQ]
     simpa [kD,e3] using key
theorem qi (I:Inv X pins σ H s):∀(xs ys:List Py) {vs us:List V} {is js:List Value} {A:Around},rM X.K H xs vs→rM X.K H ys us→Vals vs is→Vals us js→A.units + dQ xs < cLine→∀j (h1:j < is.length) (h2:j < js.length),SeqAt.EqAt A s is[j] js[j] (Bp xs ys j)
 | [],ys,vs,us,is,js,A,h,k,r,r',hu,j,h1,h2=>by
  cases h;cases r;exact absurd h1 (Uc _)
 | x :: xs,[],vs,us,is,js,A,h,k,r,r',hu,j,h1,h2=>by
  cases k;cases r';exact absurd h2 (Uc _)
 | x :: xs,y :: ys,vs,us,is,js,A,h,k,r,r',hu,j,h1,h2=>by
  obtain ⟨v,vs',rfl,a1,a2⟩:=h
  obtain ⟨v',us',rfl,b1,b2⟩:=k
  cases r with
  | cons q1 q2 =>
   cases r' with
   | cons z1 z2 =>
    have e:dQ (x :: xs)=max (dep x) (dQ xs):=by rw [dQ]
    rw [e] at hu
    cases j with
    | zero=>exact Px I x y a1 b1 q1 z1 (by omega)
    | succ j =>
     have:=qi I xs ys a2 b2 q2 z2 (A:=A) (by omega) j (by simpa using h1) (by simpa using h2)
     simpa [Bp] using this
end
theorem Qy (I:Inv X pins σ H s) (x y:Py) {v v':V} {u u':Value} {A:Around} (h:At X.K H x v) (k:At X.K H y v') (r:RelV v u) (r':RelV v' u') (hu:A.units + dep x < cLine):SeqAt.RcAt A s u u' (kD x y):=by
 have hu0:A.units < cLine:=by omega
 cases x with
 | non =>
  cases h;cases r
  cases y with
  | non=>cases k;cases r';exact SeqAt.RcAt.none_none
  | bl b=>cases k;cases r';exact SeqAt.RcAt.none_bool _
  | int b=>cases k;obtain ⟨t,rfl⟩:=r';exact SeqAt.RcAt.none_int _ _
  | str b=>cases k;obtain ⟨t,rfl⟩:=r';exact SeqAt.RcAt.none_str _ _
  | tup ys=>obtain ⟨b,us,rfl,k1,k2⟩:=k;cases r';obtain ⟨js,r2,p2,_⟩:=I.tuple k1;exact SeqAt.RcAt.none_tuple p2 hu0
  | lst ys=>obtain ⟨b,us,rfl,k1,k2⟩:=k;cases r';obtain ⟨js,r2,p2,_⟩:=I.list k1;exact SeqAt.RcAt.none_list p2.isList hu0
 | bl i =>
  cases h;cases r
  cases y with
  | non=>cases k;cases r';exact SeqAt.RcAt.bool_none _
  | bl b=>cases k;cases r';exact SeqAt.RcAt.bool_bool _ _
  | int b=>cases k;obtain ⟨t,rfl⟩:=r';exact SeqAt.RcAt.bool_int _ _ _
  | str b=>cases k;obtain ⟨t,rfl⟩:=r';exact SeqAt.RcAt.bool_str _ _ _
  | tup ys=>obtain ⟨b,us,rfl,k1,k2⟩:=k;cases r';obtain ⟨js,r2,p2,_⟩:=I.tuple k1;exact SeqAt.RcAt.bool_tuple _ p2 hu0
  | lst ys=>obtain ⟨b,us,rfl,k1,k2⟩:=k;cases r';obtain ⟨js,r2,p2,_⟩:=I.list k1;exact SeqAt.RcAt.bool_list _ p2.isList hu0
 | int i =>
  cases h;obtain ⟨t0,rfl⟩:=r
  cases y with
  | non=>cases k;cases r';exact SeqAt.RcAt.int_none _ _
  | bl b=>cases k;cases r';exact SeqAt.RcAt.int_bool _ _ _
  | int b=>cases k;obtain ⟨t,rfl⟩:=r';exact SeqAt.RcAt.int_int _ _ _ _
  | str b=>cases k;obtain ⟨t,rfl⟩:=r';exact SeqAt.RcAt.int_str _ _ _ _
  | tup ys=>obtain ⟨b,us,rfl,k1,k2⟩:=k;cases r';obtain ⟨js,r2,p2,_⟩:=I.tuple k1;exact SeqAt.RcAt.int_tuple _ _ p2 hu0
  | lst ys=>obtain ⟨b,us,rfl,k1,k2⟩:=k;cases r';obtain ⟨js,r2,p2,_⟩:=I.list k1;exact SeqAt.RcAt.int_list _ _ p2.isList hu0
 | str i =>
  cases h;obtain ⟨t0,rfl⟩:=r
  cases y with
  | non=>cases k;cases r';exact SeqAt.RcAt.str_none _ _
  | bl b=>cases k;cases r';exact SeqAt.RcAt.str_bool _ _ _
  | int b=>cases k;obtain ⟨t,rfl⟩:=r';exact SeqAt.RcAt.str_int _ _ _ _
  | str b=>cases k;obtain ⟨t,rfl⟩:=r';exact SeqAt.RcAt.str_str _ _ _ _
  | tup ys=>obtain ⟨b,us,rfl,k1,k2⟩:=k;cases r';obtain ⟨js,r2,p2,_⟩:=I.tuple k1;exact SeqAt.RcAt.str_tuple _ _ p2 hu0
  | lst ys=>obtain ⟨b,us,rfl,k1,k2⟩:=k;cases r';obtain ⟨js,r2,p2,_⟩:=I.list k1;exact SeqAt.RcAt.str_list _ _ p2.isList hu0
 | tup xs =>
  obtain ⟨a,vs,rfl,h1,h2⟩:=h
  cases r
  obtain ⟨is,r1,p1,_⟩:=I.tuple h1
  have hu1:A.in1.units + dQ xs < cLine:=by
   have e:dep (.tup xs)=dQ xs + 1:=by rw [dep]
   rw [e] at hu
   show A.units + 1 + dQ xs < cLine
   omega
  cases y with
  | non=>cases k;cases r';exact SeqAt.RcAt.tuple_none p1 hu0
  | bl b=>cases k;cases r';exact SeqAt.RcAt.tuple_bool _ p1 hu0
  | int b=>cases k;obtain ⟨t,rfl⟩:=r';exact SeqAt.RcAt.tuple_int _ _ p1 hu0
  | str b=>cases k;obtain ⟨t,rfl⟩:=r';exact SeqAt.RcAt.tuple_str _ _ p1 hu0
  | tup ys =>
   obtain ⟨b,us,rfl,k1,k2⟩:=k;cases r';obtain ⟨js,r2,p2,_⟩:=I.tuple k1
   have e1:is.length=xs.length:=by rw [← r1.length,h2.length]
   have e2:js.length=ys.length:=by rw [← r2.length,k2.length]
   have ae:=iH xs ys
   have key:=SeqAt.RcAt.tuples (e:=Bp xs ys) p1 p2 hu0 λj q1 q2=>qi I xs ys h2 k2 r1 r2 hu1 j (by simpa using q1) (by simpa using q2)
   simp only [Sn] at key
   rw [e1,e2,ae] at key
   simpa [kD] using key
  | lst ys=>obtain ⟨b,us,rfl,k1,k2⟩:=k;cases r';obtain ⟨js,r2,p2,_⟩:=I.list k1;exact SeqAt.RcAt.tuple_list p1 p2.isList hu0
 | lst xs =>
  obtain ⟨a,vs,rfl,h1,h2⟩:=h
  cases r
  obtain ⟨is,r1,p1,_⟩:=I.list h1
  have hu1:A.in1.units + dQ xs < cLine:=by
   have e:dep (.lst xs)=dQ xs + 1:=by rw [dep]
   rw [e] at hu
   show A.units + 1 + dQ xs < cLine
   omega
  cases y with
  | non=>cases k;cases r';exact SeqAt.RcAt.list_none p1.isList hu0
  | bl b=>cases k;cases r';exact SeqAt.RcAt.list_bool _ p1.isList hu0
  | int b=>cases k;obtain ⟨t,rfl⟩:=r';exact SeqAt.RcAt.list_int _ _ p1.isList hu0
  | str b=>cases k;obtain ⟨t,rfl⟩:=r';exact SeqAt.RcAt.list_str _ _ p1.isList hu0
  | tup ys=>obtain ⟨b,us,rfl,k1,k2⟩:=k;cases r';obtain ⟨js,r2,p2,_⟩:=I.tuple k1;exact SeqAt.RcAt.list_tuple p1.isList p2 hu0
  | lst ys =>
   obtain ⟨b,us,rfl,k1,k2⟩:=k;cases r';obtain ⟨js,r2,p2,_⟩:=I.list k1
   have e1:is.length=xs.length:=by rw [← r1.length,h2.length]
   have e2:js.length=ys.length:=by rw [← r2.length,k2.length]
   have ae:=iH xs ys
   by_cases hl:xs.length=ys.length
   ·have key:=SeqAt.RcAt.lists (e:=Bp xs ys) p1.isList p2.isList (by simp only [Sn];omega) hu0 λj q1 q2=>qi I xs ys h2 k2 r1 r2 hu1 j (by simpa using q1) (by simpa using q2)
    simp only [Sn] at key
    rw [hl,UQ] at ae
    have e3:(ys.length == ys.length)=true:=by simp
    rw [e3,TN] at ae
    rw [e1,hl,ae] at key
    simpa [kD] using key
   ·have key:=SeqAt.RcAt.lists_lengths p1.isList p2.isList (A:=A) (by simp only [Sn];rw [e1,e2];simpa using hl) hu0
    have e3:jH xs ys=false:=by
     rw [← ae]
     have:(xs.length == ys.length)=false:=by simpa using hl
     rw [this,TQ]
    simpa [kD,e3] using key
theorem OA (I:Inv X pins σ H s) (x y:Py) {v v':V} {u u':Value} {A:Around} (h:At X.K H x v) (k:At X.K H y v') (r:RelV v u) (r':RelV v' u') (hu:A.units + dep x < cLine):SeqAt.RcNeAt A s u u' (!kD x y):=by
 have hu0:A.units < cLine:=by omega
 cases x with
 | non =>
  cases h;cases r
  cases y with
  | non=>cases k;cases r';exact SeqAt.RcNeAt.none_none
  | bl b=>cases k;cases r';exact SeqAt.RcNeAt.none_bool _
  | int b=>cases k;obtain ⟨t,rfl⟩:=r';exact SeqAt.RcNeAt.none_int _ _
  | str b=>cases k;obtain ⟨t,rfl⟩:=r';exact SeqAt.RcNeAt.none_str _ _
  | tup ys=>obtain ⟨b,us,rfl,k1,k2⟩:=k;cases r';obtain ⟨js,r2,p2,_⟩:=I.tuple k1;exact SeqAt.RcNeAt.none_tuple p2 hu0
  | lst ys=>obtain ⟨b,us,rfl,k1,k2⟩:=k;cases r';obtain ⟨js,r2,p2,_⟩:=I.list k1;exact SeqAt.RcNeAt.none_list p2.isList hu0
 | bl i =>
  cases h;cases r
  cases y with
  | non=>cases k;cases r';exact SeqAt.RcNeAt.bool_none _
  | bl b=>cases k;cases r';exact SeqAt.RcNeAt.bool_bool _ _
  | int b=>cases k;obtain ⟨t,rfl⟩:=r';exact SeqAt.RcNeAt.bool_int _ _ _
  | str b=>cases k;obtain ⟨t,rfl⟩:=r';exact SeqAt.RcNeAt.bool_str _ _ _
  | tup ys=>obtain ⟨b,us,rfl,k1,k2⟩:=k;cases r';obtain ⟨js,r2,p2,_⟩:=I.tuple k1;exact SeqAt.RcNeAt.bool_tuple _ p2 hu0
  | lst ys=>obtain ⟨b,us,rfl,k1,k2⟩:=k;cases r';obtain ⟨js,r2,p2,_⟩:=I.list k1;exact SeqAt.RcNeAt.bool_list _ p2.isList hu0
 | int i =>
  cases h;obtain ⟨t0,rfl⟩:=r
  cases y with
  | non=>cases k;cases r';exact SeqAt.RcNeAt.int_none _ _
  | bl b=>cases k;cases r';exact SeqAt.RcNeAt.int_bool _ _ _
  | int b=>cases k;obtain ⟨t,rfl⟩:=r';exact SeqAt.RcNeAt.int_int _ _ _ _
  | str b=>cases k;obtain ⟨t,rfl⟩:=r';exact SeqAt.RcNeAt.int_str _ _ _ _
  | tup ys=>obtain ⟨b,us,rfl,k1,k2⟩:=k;cases r';obtain ⟨js,r2,p2,_⟩:=I.tuple k1;exact SeqAt.RcNeAt.int_tuple _ _ p2 hu0
  | lst ys=>obtain ⟨b,us,rfl,k1,k2⟩:=k;cases r';obtain ⟨js,r2,p2,_⟩:=I.list k1;exact SeqAt.RcNeAt.int_list _ _ p2.isList hu0
 | str i =>
  cases h;obtain ⟨t0,rfl⟩:=r
  cases y with
  | non=>cases k;cases r';exact SeqAt.RcNeAt.str_none _ _
  | bl b=>cases k;cases r';exact SeqAt.RcNeAt.str_bool _ _ _
  | int b=>cases k;obtain ⟨t,rfl⟩:=r';exact SeqAt.RcNeAt.str_int _ _ _ _
  | str b=>cases k;obtain ⟨t,rfl⟩:=r';exact SeqAt.RcNeAt.str_str _ _ _ _
  | tup ys=>obtain ⟨b,us,rfl,k1,k2⟩:=k;cases r';obtain ⟨js,r2,p2,_⟩:=I.tuple k1;exact SeqAt.RcNeAt.str_tuple _ _ p2 hu0
  | lst ys=>obtain ⟨b,us,rfl,k1,k2⟩:=k;cases r';obtain ⟨js,r2,p2,_⟩:=I.list k1;exact SeqAt.RcNeAt.str_list _ _ p2.isList hu0
 | tup xs =>
  obtain ⟨a,vs,rfl,h1,h2⟩:=h
  cases r
  obtain ⟨is,r1,p1,_⟩:=I.tuple h1
  have hu1:A.in1.units + dQ xs < cLine:=by
   have e:dep (.tup xs)=dQ xs + 1:=by rw [dep]
   rw [e] at hu
   show A.units + 1 + dQ xs < cLine
   omega
  cases y with
  | non=>cases k;cases r';exact SeqAt.RcNeAt.tuple_none p1 hu0
  | bl b=>cases k;cases r';exact SeqAt.RcNeAt.tuple_bool _ p1 hu0
  | int b=>cases k;obtain ⟨t,rfl⟩:=r';exact SeqAt.RcNeAt.tuple_int _ _ p1 hu0
  | str b=>cases k;obtain ⟨t,rfl⟩:=r';exact SeqAt.RcNeAt.tuple_str _ _ p1 hu0
  | tup ys =>
   obtain ⟨b,us,rfl,k1,k2⟩:=k;cases r';obtain ⟨js,r2,p2,_⟩:=I.tuple k1
   have e1:is.length=xs.length:=by rw [← r1.length,h2.length]
   have e2:js.length=ys.length:=by rw [← r2.length,k2.length]
   have ae:=iH xs ys
   have key:=SeqAt.RcNeAt.tuples (e:=Bp xs ys) p1 p2 hu0 λj q1 q2=>qi I xs ys h2 k2 r1 r2 hu1 j (by simpa using q1) (by simpa using q2)
   simp only [Sn] at key
   rw [e1,e2,ae] at key
   simpa [kD] using key
  | lst ys=>obtain ⟨b,us,rfl,k1,k2⟩:=k;cases r';obtain ⟨js,r2,p2,_⟩:=I.list k1;exact SeqAt.RcNeAt.tuple_list p1 p2.isList hu0
 | lst xs =>
  obtain ⟨a,vs,rfl,h1,h2⟩:=h
  cases r
  obtain ⟨is,r1,p1,_⟩:=I.list h1
  have hu1:A.in1.units + dQ xs < cLine:=by
   have e:dep (.lst xs)=dQ xs + 1:=by rw [dep]
   rw [e] at hu
   show A.units + 1 + dQ xs < cLine
   omega
  cases y with
  | non=>cases k;cases r';exact SeqAt.RcNeAt.list_none p1.isList hu0
  | bl b=>cases k;cases r';exact SeqAt.RcNeAt.list_bool _ p1.isList hu0
  | int b=>cases k;obtain ⟨t,rfl⟩:=r';exact SeqAt.RcNeAt.list_int _ _ p1.isList hu0
  | str b=>cases k;obtain ⟨t,rfl⟩:=r';exact SeqAt.RcNeAt.list_str _ _ p1.isList hu0
  | tup ys=>obtain ⟨b,us,rfl,k1,k2⟩:=k;cases r';obtain ⟨js,r2,p2,_⟩:=I.tuple k1;exact SeqAt.RcNeAt.list_tuple p1.isList p2 hu0
  | lst ys =>
   obtain ⟨b,us,rfl,k1,k2⟩:=k;cases r';obtain ⟨js,r2,p2,_⟩:=I.list k1
   have e1:is.length=xs.length:=by rw [← r1.length,h2.length]
   have e2:js.length=ys.length:=by rw [← r2.length,k2.length]
   have ae:=iH xs ys
   by_cases hl:xs.length=ys.length
   ·have key:=SeqAt.RcNeAt.lists (e:=Bp xs ys) p1.isList p2.isList (by simp only [Sn];omega) hu0 λj q1 q2=>qi I xs ys h2 k2 r1 r2 hu1 j (by simpa using q1) (by simpa using q2)
    simp only [Sn] at key
    rw [hl,UQ] at ae
    have e3:(ys.length == ys.length)=true:=by simp
    rw [e3,TN] at ae
    rw [e1,hl,ae] at key
    simpa [kD] using key
   ·have key:=SeqAt.RcNeAt.lists_lengths p1.isList p2.isList (A:=A) (by simp only [Sn];rw [e1,e2];simpa using hl) hu0
    have e3:jH xs ys=false:=by
     rw [← ae]
     have:(xs.length == ys.length)=false:=by simpa using hl
     rw [this,TQ]
    simpa [kD,e3] using key
def rP (K:PySem.W.Frag) (f:Bool→Bool):R2:=λv v' H Q=>∃x y:Py,At K H x v∧At K H y v'∧dep x≤60∧Q (.bl (f (kD x y))) H
theorem La (hu:X.A.units + 61 < cLine):fh X (compareOp .Eq) (rP X.K id):=by
 intro pins s σ H x y v u Q I rx ry h
 obtain ⟨a,b,h1,h2,d,q⟩:=h
 exact Qy I a b h1 h2 rx ry (by omega) X.prog X.w X.xe _ ⟨.bl _,H,I,rfl,q⟩
theorem Ld (hu:X.A.units + 61 < cLine):fh X (compareOp .NotEq) (rP X.K not):=by
 intro pins s σ H x y v u Q I rx ry h
 obtain ⟨a,b,h1,h2,d,q⟩:=h
 exact OA I a b h1 h2 rx ry (by omega) X.prog X.w X.xe _ ⟨.bl _,H,I,rfl,q⟩
end
end Ov
namespace Ov
open PySem PySem.Spec PySem.Calls PyProof.Rows PySem.W Builtin.Getset_descriptor
def ExcAt (x D:Addr) (h:Heap):Prop:=∃ox,h.get? x=some ox∧ox.cls=.ref D
theorem ExcAt.ty {M:Model} {h:Heap} {x D:Addr} (I:ExcAt x D h):Looks M h (typeOf (.ref x)) (.ref D):=by
 obtain ⟨ox,a,b⟩:=I
 rw [← b]
 exact (Looks.ld a).andThen .now
section
variable {prog:Program} {w:World} {A:Around} {E:Value→Shared→Prop} {s:Shared} {K:Frag} {x D:Addr}
structure o_ (K:Frag) (D:Addr):Prop where
 cls:(clsIn K D).isSome=true
 ga:findIn K (.ref D) "__getattribute__"=some (some (.builtin "BaseException.__getattribute__"))
 gt:findIn K (.ref D) "__getattr__"=some none
 ca:findIn K (.ref D) "__class__"=some (some (.builtin "object.__class__"))
 get:specialIn K (.builtin "object.__class__") "__get__"=some (some (.builtin "getset_descriptor.__get__"))
 tk:takesIn K (.builtin "object.__class__")=some true
 obj:mroIn K D (.type "object")=some true
 bex:subIn K (.ref D) (.type "BaseException")=some true
theorem Io {M:Model} {h:Heap} (X:K.In h) (Z:o_ K D):Looks M h (Builtin.ObjectAttr.find (.ref x) (.ref D) "__class__") (.bind (.builtin "getset_descriptor.__get__") (.builtin "object.__class__")) :=
 (looks_findIn X Z.ca).andThen ((show Looks M h (Builtin.ObjectAttr.getOf (some (.builtin "object.__class__"))) _ from looks_specialIn X Z.get).andThen
  ((show Looks M h (Builtin.ObjectAttr.dataDescriptor? (some (.builtin "object.__class__")) (some (.builtin "getset_descriptor.__get__"))) (some (.builtin "getset_descriptor.__get__",.builtin "object.__class__")) from (looks_takesIn X Z.tk).andThen .now).andThen (Looks.tag .now)))
theorem Ma {tp:Value} {R:Result→Shared→Prop} (X:K.In s.heap) (Z:o_ K D) (I:ExcAt x D s.heap) (h:R (.ok (.ret (.ref D))) s) :
  codeAny (model prog w) A (.call (.builtin "getset_descriptor.__get__") ⟨[.builtin "object.__class__",.ref x,tp],[]⟩) R s:=by
 obtain ⟨hh,g,dr,t,os⟩:=s
 have L0:=I.ty (M:=model prog w)
 have L1:=looks_mroIn (M:=model prog w) X Z.obj
 refine codeAny_call_builtin KF.slot_gs.plain KF.entry_gs ?_
 refine KF.slot_gs.check _ _ _ _ _ _ _ _ KF.type_class (KF.args_gs _ _ _) ?_
 unfold Builtin.«getset_descriptor.__get__» descrGet;rw [dga_obj]
 refine wpAny_bind (wpAny_pure ?_)
 unfold descrGetter descrCheckInstance descrNameAndClass isInstance;simp only [KF.owner_class]
 repeat lk
 refine ⟨Code.quiet_builtin _ (by decide +kernel),?_⟩
 refine codeAny_builtin KF.entry_class ?_
 unfold Builtin.«object.__class__» shownTypeOf;repeat lk
 exact h
theorem FD {tk:Tok} {Q:Fin→Shared→Prop} (X:K.In s.heap) (Z:o_ K D) (I:ExcAt x D s.heap) (h:Q (.done (.ret (.ref D))) s) :
  wpAny (model prog w) A (Builtin.«object.__getattribute__» ⟨[.ref x,.str "__class__" tk],[]⟩) Q E s:=by
 obtain ⟨hh,gg,d,t,os⟩:=s
 have L0:=I.ty (M:=model prog w)
 have L1:=Io (x:=x) (M:=model prog w) X Z
 unfold Builtin.«object.__getattribute__»
 refine wpAny_bind (wpAny_pure (wpAny_bind (wpAny_pure (wpAny_bind (L0.at (wpAny_bind (L1.at ?_)))))))
 show wpAny _ _ (holding [.builtin "object.__class__"] (call (.builtin "getset_descriptor.__get__") [.builtin "object.__class__",.ref x,.ref D]) >>= ret) _ _ _
 exact wpAny_bind (wpAny_holding (wpAny_call (Ma (tp:=.ref D) X Z I (wpAny_pure h))))
theorem FA {M:Model} {nameV:Value} {Q:Unit→Shared→Prop} (X:K.In s.heap) (Z:o_ K D) (I:ExcAt x D s.heap) (hq:Q () s) :
  wpAny M A (checkBuiltinCall "BaseException.__getattribute__" ⟨[.ref x,nameV],[]⟩) Q E s:=by
 have k:builtinKind "BaseException.__getattribute__"=some .slot:=by decide +kernel
 have sp:splitId "BaseException.__getattribute__"=some ("BaseException","__getattribute__"):=by decide +kernel
 have ok:=F.args_bexc_ga (.ref x) nameV
 have L1:Looks M s.heap (isInstance (.ref x) (.type "BaseException")) true:=I.ty.andThen (looks_subIn X Z.bex)
 obtain ⟨hh,gg,d,t,os⟩:=s
 simp only [checkBuiltinCall,k,sp]
 refine wpAny_bind (L1.at ?_)
 simp only [Bool.not_true,SE,if_false]
 cases sg:Manifest.signature? "BaseException.__getattribute__" with
 | none=>exact wpAny_pure hq
 | some z =>
  unfold argsOk at ok
  rw [sg] at ok
  show wpAny _ _ (Bind.checkArgs _ z _) _ _ _
  rw [show Bind.checkArgs "BaseException.__getattribute__" z ⟨[.ref x,nameV],[]⟩=pure () from ok]
  exact wpAny_pure hq
theorem FC {Q:Option Value→Shared→Prop} (X:K.In s.heap) (Z:o_ K D) (I:ExcAt x D s.heap) (h:Q (some (.ref D)) { s with toks:=s.toks + 1 }):wpAny (model prog w) A (getAttr? (.ref x) "__class__") Q E s:=by
 obtain ⟨hh,gg,d,t,os⟩:=s
 have L0:=I.ty (M:=model prog w)
 have L1:=looks_findIn (M:=model prog w) X Z.ga
 have L2:=looks_findIn (M:=model prog w) X Z.gt
 unfold getAttr? getAttrBy? getAttrBy
 refine wpAny_bind (wpAny_mkText (wpAny_bind (wpAny_attempt (wpAny_holding ?_))))
 refine wpAny_bind (L0.at (wpAny_bind (L1.at ?_)))
 have no:(Value.builtin "BaseException.__getattribute__" == Value.builtin "object.__getattribute__")=false:=by decide +kernel
 show wpAny _ _ (if onTheHeap (.ref D) && Value.builtin "BaseException.__getattribute__" == Value.builtin "object.__getattribute__" then _ else _) _ _ _
 rw [no,TQ]
 simp only [SE,if_false]
 unfold getAttrByItsOwn hookBefore callGetattribute boundAndCalled
 have f3:=PySem.F.attr_ValueError.ga.bind (.ref x)
 refine wpAny_bind ((show wpAny _ _ (typeLookup (Value.ref D) "__getattr__") _ _ _ from L2.at ?_))
 refine wpAny_bind (wpAny_attempt (wpAny_holding ?_))
 show wpAny _ _ (bindSpecial (Value.builtin "BaseException.__getattribute__") (Value.ref x) >>= _) _ _ _
 rw [f3]
 refine wpAny_bind (wpAny_pure ?_)
 refine wpAny_call (codeAny_call_builtin PySem.F.attr_ValueError.ga.plain PySem.F.entry_bexc_ga (FA (s:=⟨hh,gg,d,t + 1,os⟩) X Z I (FD (s:=⟨hh,gg,d,t + 1,os⟩) X Z I ?_)))
 exact handed_on rfl (wpAny_pure h)
theorem o_.at {h:Heap} (Z:o_ K D) (X:K.In h):∃c d cd sl,h.get? D=some ⟨c,d,.cls cd,sl⟩:=by
 obtain ⟨cd,q⟩:=Ul.mp Z.cls
 unfold clsIn at q
 split at q
 ·exact ⟨_,_,_,_,X _ _ (by assumption)⟩
 ·cases q
theorem DI (Z:o_ K D):KitX K (.ref x) (.ref D) (ExcAt x D) where
 ty:=λ_ _ _ I=>I.ty
 it:=λ_ _ X _=>by
  obtain ⟨c,d,cd,sl,o⟩:=Z.at X
  intro A' Q' E' s' k q
  unfold isType loadHead
  exact wpAny_bind (wpAny_loadPart (k _ _ o) (wpAny_pure q))
 ne:=λh tp dd its n sl X htp=>T7.mpr λq=>by
  obtain ⟨c,d,cd,sl',o⟩:=Z.at X
  rw [Value.ref.inj (beq_iff_eq.mp q)] at o
  cases o.symm.trans htp
 ca:=λX I k=>FC X Z I k
end
end Ov
namespace Ov
open PySem PySem.Spec PyProof.Rows L2
structure kS (P:Program) (w:World) (outer:List Env) (H:Hp) (s:Shared) (ea:Addr) (cls:Value) (H':Hp) (s':Shared):Prop where
 os:s'.os=s.os
 bare:AllBare s'.gens
 un:Un (jw outer) [] H H' s.heap s'.heap
 hok:ma P w H' s'.heap
 fl:∃B t,Heap.FlyingW B outer ea cls (.ref t) s'.heap∧∀b o,s'.heap.get? b=some o→(H' b≠none∨∃o₀,s.heap.get? b=some o₀)→b ∉ jw outer→B.get? b=some o
def dn (P:Program) (w:World):p5:=λouter H s E e s'=>∃ea cls H',e=.ref ea∧kS P w outer H s ea cls H' s'∧E cls none H'
theorem GY {P:Program} {w:World} {H:Hp} {h:Heap} {a:Addr} {o:HO} (x:du P w H h a o):∃ob,h.get? a=Te ob:=by
 have lt:=x.lt
 cases o with
 | lst xs=>obtain ⟨_,_,_,_,e⟩:=x;exact ⟨_,e⟩
 | tup xs=>obtain ⟨_,_,_,ob,e,_⟩:=x;exact ⟨_,e⟩
 | dK kvs=>obtain ⟨_,_,_,_,o,_,_,e,_⟩:=x;exact ⟨_,e⟩
 | dE kvs ep=>obtain ⟨_,_,_,_,o,_,e,_⟩:=x;exact ⟨_,e⟩
 | set S n=>obtain ⟨o,_,_,_,e,_⟩:=x;exact ⟨_,e⟩
 | ins C dx fs=>obtain ⟨_,_,_,e,_⟩:=x;exact ⟨_,e⟩
 | own y=>exact x
 | xd fs=>obtain ⟨_,⟨_,_,_,e,_⟩,_⟩:=x;exact ⟨_,e⟩
 | Mx lo hi=>obtain ⟨_,_,_,e⟩:=x;exact ⟨_,e⟩
 | pd ob u=>obtain ⟨e,_⟩:=x;exact ⟨_,e⟩
 | tbl ps=>exact ⟨_,x⟩
 | met f y=>exact ⟨_,x⟩
 | ext φ=>obtain ⟨_,e,_⟩:=x;exact e
section
variable {X:Cx} {pins:List (Addr × Obj)} {σ:L2.St} {H H':Hp} {s:Shared} {ea t:Addr} {cls:Value} {B h1 h2:Heap}
theorem jI (I:Inv X pins σ H s) (un:Un (jw X.stack) [] H H' s.heap h1) {b:Addr} (hb:b∈jw X.stack):H' b=none∧∃o,h1.get? b=some o∧∀vs,o.data≠.fields vs:=by
 obtain ⟨_,o,ho,hn⟩:=I.stack.mem hb
 have n:=I.vY b hb
 obtain ⟨sl,e⟩:=un.any ho n (by simp)
 exact ⟨un.free b o ho n (by simp),_,e,hn⟩
theorem uF (I:Inv X pins σ H s) (un:Un (jw X.stack) [] H H' s.heap h1) (cov:∀b o,h1.get? b=some o→(H' b≠none∨∃o₀,s.heap.get? b=some o₀)→b ∉ jw X.stack→B.get? b=some o)
  (hB:B.StaysIn h2) (up:h1.UpToSlots h2):Un (jw X.stack) [] H H' s.heap h2 where
 keep:=λb o e n hb hx=>hB b o (cov b o (un.keep b o e n hb hx) (.inr ⟨o,e⟩) hb)
 slot:=λb o e n hb hx=>by
  obtain ⟨sl,e1⟩:=un.slot b o e n hb hx
  obtain ⟨_,o',e2,hn⟩:=jI I un hb
  rw [e1] at e2;cases e2
  obtain ⟨sl',e3⟩:=up b _ e1 hn
  exact ⟨sl',e3⟩
 free:=un.free
 there:=λb o e hx=>by
  obtain ⟨o',e1⟩:=un.there b o e hx
  by_cases hb:b∈jw X.stack
  ·obtain ⟨_,o2,e2,hn⟩:=jI I un hb
   obtain ⟨sl',e3⟩:=up b _ e2 hn
   exact ⟨_,e3⟩
  ·exact ⟨o',hB b o' (cov b o' e1 (.inr ⟨o,e⟩) hb)⟩
 tups:=un.tups
 frzs:=un.frzs
 tbls:=un.tbls
theorem uE (I:Inv X pins σ H s) (un:Un (jw X.stack) [] H H' s.heap h1) (cov:∀b o,h1.get? b=some o→(H' b≠none∨∃o₀,s.heap.get? b=some o₀)→b ∉ jw X.stack→B.get? b=some o)
  (hB:B.StaysIn h2) (ok:ma X.prog X.w H' h1):ma X.prog X.w H' h2:=λa o e=>by
 have nf:∀b u,H' b=some u→b ∉ jw X.stack:=λb u q hb=>by
  have:=(jI I un hb).1
  rw [q] at this;cases this
 refine (ok a o e).oM (λb u hb q=>?_) (λ_ q=>q) λ_ _ q=>q
 rcases hb with rfl | hb
 ·exact hB _ _ (cov _ _ q (.inl (by rw [e];exact λz=>nomatch z)) (nf _ _ e))
 ·exact hB _ _ (cov _ _ q (.inl (by rw [hb];exact λz=>nomatch z)) (nf _ _ hb))
theorem ye (un:Un (jw X.stack) [] H H' s.heap h1) (ok:ma X.prog X.w H' h1) (cov:∀b o,h1.get? b=some o→(H' b≠none∨∃o₀,s.heap.get? b=some o₀)→b ∉ jw X.stack→B.get? b=some o) (hB:B.StaysIn h2) :
  ∀b o,h2.get? b=some o→(H' b≠none∨∃o₀,s.heap.get? b=some o₀)→b ∉ jw X.stack→B.get? b=some o:=λb o e hb nb=>by
 have:∃o1,h1.get? b=some o1:=by
  rcases hb with z | ⟨o₀,z⟩
  ·cases q:H' b with
   | none=>exact absurd q z
   | some u=>exact GY (ok b u q)
  ·exact un.there b o₀ z (by simp)
 obtain ⟨o1,e1⟩:=this
 have c:=cov b o1 e1 hb nb
 have:=hB b o1 c
 rw [e] at this;cases this
 exact c
theorem kS.on {s':Shared} (I:Inv X pins σ H s) (F:kS X.prog X.w X.stack H s ea cls H' s'):∃B t,Heap.FlyingW B X.stack ea cls (.ref t) s'.heap ∧
  ∀h2,Heap.FlyingW B X.stack ea cls (.ref t) h2→s'.heap.UpToSlots h2→kS X.prog X.w X.stack H s ea cls H' { s' with heap:=h2 }:=by
 obtain ⟨B,t,fl,cov⟩:=F.fl
 exact ⟨B,t,fl,λh2 fl2 up=>⟨F.os,F.bare,uF I F.un cov fl2.1 up,uE I F.un cov fl2.1 F.hok,B,t,fl2,ye F.un F.hok cov fl2.1⟩⟩
theorem zK {s2:Shared} (I:Inv X pins σ H s) (hst:X.stack=X.env :: X.outer) (hfr:X.env.frame=some X.env.locals) (hex:X.ex=[]) (os:s2.os=s.os) (bare:AllBare s2.gens) (un:Un (jw X.stack) [] H H' s.heap s2.heap)
  (ok:ma X.prog X.w H' s2.heap) (cov:∀b o,s2.heap.get? b=some o→(H' b≠none∨∃o₀,s.heap.get? b=some o₀)→b ∉ jw X.stack→B.get? b=some o) (fl:Heap.FlyingW B X.outer ea cls (.ref t) s2.heap) :
  kS X.prog X.w X.outer X.H₀ X.s₀ ea cls H' s2:=by
 have nst:∀b o,X.s₀.heap.get? b=some o→b ∉ X.fs→b ∉ jw X.stack:=λb o e nb hb=>by
  rcases Sy.mp (I.oN b hb) with z | z
  ·have:=SA (Heap.lt_size e) I.ok.above
   rw [z] at this
   exact Tt _ this
  ·exact nb z
 have sub:∀b,b∈X.fs→b∈jw X.stack:=λb hb=>by rw [hst];unfold jw;rw [Tc,hfr];exact SI _ hb
 have nx:∀b:Addr,b ∉ X.ex:=λb=>by rw [hex];simp
 refine ⟨os.trans I.os,bare,⟨λb o e n hb _=>?_,λb o e n hb _=>?_,λb o e n _=>?_,λb o e _=>?_,λb xs q=>un.tups b xs (I.base.tups b xs q),λb o xs q=>un.frzs b o xs (I.base.frzs b o xs q),λb ps q=>?_⟩,ok,B,t,fl,λb o e hb nb=>?_⟩
 ·exact un.keep b o (I.base.keep b o e n hb (nx b)) (I.base.free b o e n (nx b)) (nst b o e hb) (by simp)
 ·obtain ⟨sl,e1⟩:=I.base.slot b o e n hb (nx b)
  obtain ⟨sl',e2⟩:=un.slot b _ e1 (I.base.free b o e n (nx b)) (sub b hb) (by simp)
  exact ⟨sl',e2⟩
 ·obtain ⟨o',e1⟩:=I.base.there b o e (nx b)
  exact un.free b o' e1 (I.base.free b o e n (nx b)) (by simp)
 ·obtain ⟨o',e1⟩:=I.base.there b o e (nx b)
  exact un.there b o' e1 (by simp)
 ·obtain ⟨m1,e1⟩:=I.base.tbls b ps q
  obtain ⟨m2,e2⟩:=un.tbls b _ e1
  exact ⟨m1 ++ m2,by rw [e2,Array.append_assoc]⟩
 ·rcases hb with z | ⟨o₀,z⟩
  ·exact cov b o e (.inl z) λhb=>z (jI I un hb).1
  ·obtain ⟨o1,e1⟩:=I.base.there b o₀ z (nx b)
   exact cov b o e (.inr ⟨o1,e1⟩) (nst b o₀ z nb)
theorem BE {E:XK} {e:Value} {s':Shared} {R:Value→Shared→Prop} (I:Inv X pins σ H s) (hst:X.stack=X.env :: X.outer) (hfr:X.env.frame=some X.env.locals) (hex:X.ex=[]) (h:dn X.prog X.w X.stack H s E e s') :
  wpAny (model X.prog X.w) X.A (leaving X.env e) (λ_ s''=>dn X.prog X.w X.outer X.H₀ X.s₀ E e s'') R s':=by
 obtain ⟨ea,cls,H',rfl,F,q⟩:=h
 obtain ⟨B,t,fl,cov⟩:=F.fl
 refine wpAny_leaves_onW (by rw [I.ok.frames,hst]) hfr (hst ▸ fl) λh2 fl2 up=>?_
 exact ⟨ea,cls,H',rfl,zK (s2:={ s' with heap:=h2 }) I hst hfr hex F.os F.bare (uF I F.un cov fl2.1 up) (uE I F.un cov fl2.1 F.hok) (ye F.un F.hok cov fl2.1) fl2,q⟩
theorem leave_new {E:XK} {e C:Addr} {args:List Value} {h':Heap} {R:Value→Shared→Prop} (I:Inv X pins σ H s) (hst:X.stack=X.env :: X.outer) (hfr:X.env.frame=some X.env.locals) (hex:X.ex=[])
  (hx:Heap.MadeExcOf s.heap h' e (.ref C) args) (q:E (.ref C) none H) :
  wpAny (model X.prog X.w) X.A (leaving X.env (.ref e)) (λ_ s''=>dn X.prog X.w X.outer X.H₀ X.s₀ E (.ref e) s'') R { s with heap:=h' }:=by
 have hin:∀env∈X.env :: X.outer,∀a,env.frame=some a→a∈jw X.stack:=λenv he a ha=>by rw [hst];exact TX.mpr ⟨env,he,ha⟩
 have cov:∀b o,s.heap.get? b=some o→(H b≠none∨∃o₀,s.heap.get? b=some o₀)→b ∉ jw X.stack→(PySem.W.hideAll s.heap (jw X.stack)).get? b=some o:=λb o e _ nb=>PySem.W.hideAll_get _ e nb
 refine wpAny_leaves_madeW (base:=PySem.W.hideAll s.heap (jw X.stack)) (by rw [I.ok.frames,hst]) hfr (λb o z=>PySem.W.of_hideAll _ z) (PySem.W.funFrames_hide (hst ▸ I.stack) hin) hx λh2 t fl _ _ up=>?_
 have up2:s.heap.UpToSlots h2:=(Heap.UpToSlots.of_keeps hx.keeps).trans up
 exact ⟨e,.ref C,H,rfl,zK (s2:={ s with heap:=h2 }) I hst hfr hex rfl I.bare (uF I Un.refl cov fl.1 up2) (uE I Un.refl cov fl.1 I.hok) (ye Un.refl I.hok cov fl.1) fl,q⟩
end
abbrev Pt:List Value:=[.type "ValueError",.type "Exception",.type "BaseException",.type "object"]
structure Own (K:PySem.W.Frag) (mg:Str→Option Value) (x:Str) (C:Addr):Prop where
 mg:mg x=some (.ref C)
 own:PySem.W.excIn K C Pt "ValueError.__new__"=true
 xc:o_ K C
theorem Hd {K:PySem.W.Frag} {h:Heap} {C:Addr} {bmB:List Value} {newId:String} (X:K.In h) (q:PySem.W.excIn K C bmB newId=true) :
  ∃bm N nm qn bs hd sn sub ab col dd k0 k1 k2 k3 k5 mN,h.get? C=some (excClassObj nm qn C N bs bm hd sn sub ab col dd k0 k1 k2 k3 k5 newId)∧h.Ns N mN∧mN "__init__"=none∧OwnTail h bmB bm:=by
 unfold PySem.W.excIn at q
 split at q
 ·next dd cd sl ho =>
  split at q
  ·next C' bm k0 k1 k2 k3 n k5 hm hs =>
   simp only [beq_iff_eq,SR,UN] at q
   obtain ⟨⟨⟨⟨⟨rfl,rfl⟩,e3⟩,e4⟩,e5⟩,e6⟩:=q
   cases cd with
   | mk nm bs mro ns qn hd sn sub ab col del =>
    have hm:mro=.ref C' :: bm:=hm
    have e3:del=false:=e3
    subst hm;subst e3
    have hsl:sl=#[k0,k1,k2,k3,some (.builtin n),k5]:=Array.toList_inj.mp hs
    subst hsl
    exact ⟨bm,ns,nm,qn,bs,hd,sn,sub,ab,col,dd,k0,k1,k2,k3,k5,_,X _ _ ho,.of_isNs (PySem.W.isNs_of_in X e5),PySem.W.nsMap_none_of_in X e5 e6,PySem.W.tail_of_in X e4⟩
  ·cases q
 ·cases q
def LY (C:Addr) (E:XK) (t:TA):TS:=λ_ σ H=>t σ H λvs H1=>vs.length≤sizeLine∧E (.ref C) none H1
def Throws (X:Cx) (E:XK):Prop:=∀(pins:List (Addr × Obj)) (σ:L2.St) (H:Hp) (s:Shared) (e C:Addr) (args:List Value) (h':Heap),Inv X pins σ H s→Heap.MadeExcOf s.heap h' e (.ref C) args→E (.ref C) none H→X.xe (.ref e) { s with heap:=h' }
theorem Cb {X:Cx} {E:XK} {x:Str} {C:Addr} {e:Expr} {es:List Expr} {np cpos pos:Pos} {t:TA} (O:Own X.K X.mg x C) (hc:X.calm=true) (hx:Throws X E) (hg:Gl X x) (ha:PA X (e :: es) t)
  (hd:(x == ("__debug__":Str))=false:=by decide) (he:starEach (e :: es) X.env=(false,eval e X.env) :: starEach es X.env:=by rfl) (hpl:(backTo cpos (starEach es X.env)).any (·.1)=false:=by rfl) :
  PS X (.Raise (some (.Call (.Name x np) (e :: es) [] cpos)) none pos) (LY C E t):=by
 intro pins s σ H D I h
 obtain ⟨bm,N,nm,qn,bs,hd',sn,sub,ab,col,dd,k0,k1,k2,k3,k5,mN,hC,hN,hni,T⟩:=Hd I.mod.kin O.own
 have hplain:(backTo cpos (starEach (e :: es) X.env)).any (·.1)=false:=by
  rw [he]
  show (false || (backTo cpos (starEach es X.env)).any (·.1))=false
  rw [hpl];rfl
 refine wpAny_Raise_call_subT (C:=C) (N:=N) (nm:=nm) (q:=qn) (bs:=bs) (hdct:=hd') (sn:=sn) (sub:=sub) (ab:=ab) (col:=col) (dd:=dd) (k0:=k0) (k1:=k1) (k2:=k2) (k3:=k3) (k5:=k5) PySem.F.excBase_ValueError (T.hasType (by decide +kernel)) (I.ok.hd hc) hplain hni ?_
 refine kE I hg O.mg ⟨rfl,?_⟩ hd
 have key:=cA (ha cpos pins s σ H _ I h) (Q':=λus s1=>us.length≤sizeLine∧s1.heap.get? C=some (excClassObj nm qn C N bs bm hd' sn sub ab col dd k0 k1 k2 k3 k5 "ValueError.__new__")∧s1.heap.Ns N mN∧OwnTail s1.heap Pt bm ∧
  ∀h' e,Heap.MadeExcOf s1.heap h' e (.ref C) us→X.xe (.ref e) { s1 with heap:=h' }) λus s1 ⟨vs,H1,I1,r,z,q⟩ =>
   ⟨by rw [← r.length];exact z,I1.bk _ _ hC,hN.keeps I1.bk,T.keeps I1.bk,λh' ea hm=>hx pins σ H1 s1 ea C us h' I1 hm q⟩
 rw [he] at key ⊢
 exact PySem.Calls.evalArgs_plain (cA key λ_ _ z=>⟨rfl,z⟩)
section
variable {P:Program} {w:World} {K:PySem.W.Frag} {mg:Str→Option Value} {base:Heap} {N:List Str} {qual:Str} {scope:Scope} {f:Addr} {cd:Value} {A:Around} {outer:List Env} {s:Shared} {H:Hp} {E:XK}
abbrev xU (P:Program) (w:World) (K:PySem.W.Frag) (mg:Str→Option Value) (base:Heap) (N:List Str) (qual:Str) (scope:Scope) (f:Addr) (cd:Value) (A:Around) (outer:List Env) (s:Shared) (H:Hp) (E:XK):Cx:=uA (dn P w) P w K mg base N qual scope f cd A outer s H E
theorem cK:Throws (xU P w K mg base N qual scope f cd A outer s H E) E:=λpins σ H1 s1 e C args h' I hm q =>
 leave_new (X:=xU P w K mg base N qual scope f cd A outer s H E) I rfl rfl rfl hm q
theorem yg:Passes (dn P w) (xU P w K mg base N qual scope f cd A outer s H E) E:=λpins σ H1 s1 e s' I h =>
 BE (X:=xU P w K mg base N qual scope f cd A outer s H E) I rfl rfl rfl h
theorem bZ:PassesOwn (model P w) (xU P w K mg base N qual scope f cd A outer s H E).A (xU P w K mg base N qual scope f cd A outer s H E).env (xU P w K mg base N qual scope f cd A outer s H E).xe:=PassesOwn.leaving
theorem R_ {x qual:Str} {st:Stmt} {f:Addr} {fd:FuncData} {N ps:List Str} {k:Nat} {sp:Sp} (F:cE K x qual st f fd) (S:aw N ps (ai st)) (len:∀vs H Q E,sp vs H Q E→vs.length=ps.length)
  (hbody:∀(cdv:Value) (A:Around) (outer:List Env) (s:Shared) (H:Hp) (vs:List V) (Q:VK) (E:XK),bS k (A.deeper (envOfC qual (ai st) s.heap.objs.size f cdv))→sp vs H Q E →
   ∃t,QB (xU P w K mg base N qual (ai st) f cdv A outer s H E) (bV st) t∧t { nx:=λ_ H'=>Q .non H',rt:=Q } (start N vs) H):aQ P w K mg base (dn P w) (k + 1) f fd ps sp:=by
 obtain ⟨oc,od,kV,doc,pm,an,cdv,ct,osl,rfl,lk,hcd⟩:=F.ex
 refine Dj lk hcd S len λA outer s H vs Q E hr hsp=>?_
 obtain ⟨t,h,q⟩:=hbody cdv A outer s H vs Q E hr hsp
 exact ⟨t,h.run,q⟩
end
def CA (P:Program) (w:World) (K:PySem.W.Frag) (mg:Str→Option Value) (base:Heap) (k:Nat) (x:Str) (ps:List Str) (sp:Sp):Prop :=
 ∃f fd,aQ P w K mg base (dn P w) k f fd ps sp∧Binds K fd ps []∧PySem.W.keepIn K (.ref f)=true∧mg x=some (.ref f)
theorem He {X:Cx} {k k':Nat} {x:Str} {ps:List Str} {sp:Sp} {p pos:Pos} {e:Expr} {es:List Expr} {t:TA} {E:XK} (C:CA X.prog X.w X.K X.mg X.base k x ps sp) (hx:Passes (dn X.prog X.w) X E) (hr:bS k' X.A) (hk:k≤k') (hg:Gl X x) (ha:PA X (e :: es) t)
  (hdb:(x == ("__debug__":Str))=false:=by decide) (he:starEach (e :: es) X.env=(false,eval e X.env) :: starEach es X.env:=by rfl) (hpl:(backTo pos (starEach es X.env)).any (·.1)=false:=by rfl) :
  PE X (.Call (.Name x p) (e :: es) [] pos) (rA sp [] E t):=by
 obtain ⟨f,fd,F,b,kp,m⟩:=C
 exact Ac F (hr.mono hk) hg m kp b .nil hx ha hdb he hpl
theorem Def.Pw {P:Program} {w:World} {K:PySem.W.Frag} {mg:Str→Option Value} {base:Heap} {x:Str} {st:Stmt} {k:Nat} {ps:List Str} {sp:Sp} (D:Def K mg x st)
  (h:∀f fd,cE K x x st f fd→aQ P w K mg base (dn P w) k f fd ps sp)
  (hb:∀(kV doc pm:Value) (an:Option Addr) (cdv ct:Value) (us:List Value),us.length=ps.length→bindArgs (PySem.W.fnOf x x (dk st) (bV st) (ai st) .none kV doc pm an cdv ct) ⟨us,[]⟩=pure (ps.zip us)) :
  CA P w K mg base k x ps sp:=by
 obtain ⟨f,fd,F,m⟩:=D
 exact ⟨f,fd,h f fd F,F.binds hb,F.kp,m⟩
section
variable {X:Cx} {pins pn:List (Addr × Obj)} {σ:L2.St} {H H':Hp} {s:Shared}
abbrev Km (X:Cx) (pn:List (Addr × Obj)) (xe:Value→Shared→Prop):Cx:={ X with pn:=pn,xe:=xe }
abbrev Ml (X:Cx) (pn:List (Addr × Obj)) (e:Addr):Cx:={ X with A:=X.A.mark (some (.ref e)),calm:=false,pn:=pn,xe:=λ_ _=>False }
theorem Qh {X:Cx} (ok:X.Ok) (pn:List (Addr × Obj)) (xe:Value→Shared→Prop):(Km X pn xe).Ok :=
 ⟨ok.mod,ok.kind,ok.glob,ok.blt,ok.above,ok.inj,ok.has,ok.cab,ok.hd,ok.frames,ok.stk,ok.exf,ok.bs,ok.bsz,ok.noex,ok.exfs,ok.lP,ok.frf⟩
theorem Qg {X:Cx} (ok:X.Ok) (pn:List (Addr × Obj)) (e:Addr):(Ml X pn e).Ok :=
 ⟨ok.mod,ok.kind,ok.glob,ok.blt,ok.above,ok.inj,ok.has,ok.cab,(λz=>nomatch z),ok.frames,ok.stk,ok.exf,ok.bs,ok.bsz,ok.noex,ok.exfs,ok.lP,ok.frf⟩
theorem M6 (I:Inv X pins σ H s) (xe:Value→Shared→Prop):Inv (Km X (X.pn ++ pins) xe) [] σ H s :=
 ⟨Qh I.ok _ xe,I.os,I.bare,I.base,I.loc,I.cell,I.free,I.freeC,λp hp=>I.pin p (by simpa using hp),I.hok,I.len⟩
theorem mD {pins1:List (Addr × Obj)} {xe:Value→Shared→Prop} (ok:X.Ok) (I:Inv (Km X (X.pn ++ pins) xe) pins1 σ H s):Inv X pins σ H s :=
 ⟨ok,I.os,I.bare,I.base,I.loc,I.cell,I.free,I.freeC,λp hp=>I.pin p (Tj _ hp),I.hok,I.len⟩
theorem IC (I:Inv X pins σ H s) (e:Addr):Inv (Ml X (X.pn ++ pins) e) [] σ H s :=
 ⟨Qg I.ok _ e,I.os,I.bare,I.base,I.loc,I.cell,I.free,I.freeC,λp hp=>I.pin p (by simpa using hp),I.hok,I.len⟩
theorem pF {pins1:List (Addr × Obj)} {e:Addr} (ok:X.Ok) (I:Inv (Ml X (X.pn ++ pins) e) pins1 σ H s):Inv X pins σ H s :=
 ⟨ok,I.os,I.bare,I.base,I.loc,I.cell,I.free,I.freeC,λp hp=>I.pin p (Tj _ hp),I.hok,I.len⟩
theorem nB {M:Model} {A:Around} {E:Value→Shared→Prop} {i:Nat} {n:Str} {pos:Pos} {Q:Unit→Shared→Prop} (I:Inv X pins σ H s) (hN:X.N.Nodup) (hi:X.N[i]?=some n) (hk:X.env.kindOf n=some .local)
  (h:∀s',Inv X pins (σ.set i none) H s'→Q () s'):wpAny M A (do bindName X.env n .none;unbindBehindTheSuite X.env n pos) Q E s:=by
 obtain ⟨m,hn,hl⟩:=id I.loc
 have hcl:(X.env.scope.kind == .class || (X.env.scope.kind == .module && X.env.locals != X.env.globals))=false:=by rw [I.ok.kind];rfl
 have ne:∀b o,X.s₀.heap.get? b=some o→b≠X.env.locals:=λb o e=>SN (SA (Heap.lt_size e) I.ok.above)
 have hiσ:i < σ.length:=by rw [I.len];exact (Sj.mp hi).1
 refine wpAny_nameGoes_keeps hk hn hcl λh' v hn' hs=>?_
 refine h _ ⟨I.ok,I.os,I.bare,⟨λb o e n hb hx=>(hs.2 b (ne b o e)).trans (I.base.keep b o e n hb hx),λb o e n hb hx=>?_,I.base.free,λb o e hx=>?_,I.base.tups,I.base.frzs,I.base.tbls⟩,
  ⟨_,hn',λj y v' e1 e2 e3=>?_⟩,λy c e=>?_,I.free,I.freeC,λp hp=>?_,λb ob e=>?_,by simpa using I.len⟩
 ·obtain ⟨sl,e1⟩:=I.base.slot b o e n hb hx
  exact ⟨sl,(hs.2 b (ne b o e)).trans e1⟩
 ·obtain ⟨o',e1⟩:=I.base.there b o e hx
  exact ⟨o',(hs.2 b (ne b o e)).trans e1⟩
 ·by_cases hj:j=i
  ·subst hj
   rw [SQ hiσ] at e2
   cases e2
  ·rw [S7 (Ne.symm hj)] at e2
   obtain ⟨u',r',q⟩:=hl j y v' e1 e2 e3
   refine ⟨u',r',?_⟩
   rcases q with ⟨k,e⟩ | ⟨k,c,e,z⟩
   ·refine .inl ⟨k,?_⟩
    have hy:y≠n:=λe=>hj (qz hN e1 (e ▸ hi))
    simp [hy,e]
   ·exact .inr ⟨k,c,e,z.sameBut hs (I.Gi y c e)⟩
 ·obtain ⟨w',z⟩:=I.cell y c e
  exact ⟨w',z.sameBut hs (I.Gi y c e)⟩
 ·obtain ⟨e,n,nl,nf,d⟩:=I.pin p hp
  exact ⟨(hs.2 p.1 nl).trans e,n,nl,nf,d⟩
 ·refine (I.hok b ob e).oM (λc w' hc q=>(hs.2 c ?_).trans q) (λ_ q=>q) λ_ _ q=>q
  rintro rfl
  rcases hc with z | hc
  ·rw [← z,I.free] at e;cases e
  ·rw [I.free] at hc;cases hc
theorem yr {ea D:Addr} {oe:Obj} {vs:Array Value} (I:Inv X pins σ H s) (he:s.heap.get? ea=some oe) (hc:oe.cls=.ref D) (hd:oe.data=.fields vs) (hn:H ea=none) (h0:X.s₀.heap.get? ea=none) (hp:∀p∈X.pn ++ pins,p.1≠ea) :
  Inv X pins σ (upd H ea (.ext (ExcAt ea D))) s:=by
 have nl:X.env.locals≠ea:=λz=>by
  obtain ⟨m,⟨o,es,ep,ho,hd',_⟩,_⟩:=I.loc
  rw [z,he] at ho;cases ho;rw [hd] at hd';cases hd'
 refine ⟨I.ok,I.os,I.bare,⟨I.base.keep,I.base.slot,λb o e n hx=>?_,I.base.there,λb xs q=>?_,λb o xs q=>?_,λb ps q=>?_⟩,I.loc,I.cell,?_,λx c e=>?_,λp hq=>?_,λb u q=>?_,I.len⟩
 ·rw [aF (λz=>by rw [z,h0] at e;cases e)]
  exact I.base.free b o e n hx
 ·have:=I.base.tups b xs q
  rw [aF (bF this hn)];exact this
 ·have:=I.base.frzs b o xs q
  rw [aF (bF this hn)];exact this
 ·obtain ⟨m,z⟩:=I.base.tbls b ps q
  exact ⟨m,by rw [aF (bF z hn)];exact z⟩
 ·rw [aF nl];exact I.free
 ·rw [aF]
  ·exact I.freeC x c e
  ·rintro rfl
   obtain ⟨v,o,ho,hd'⟩:=I.cell x c e
   rw [he] at ho;cases ho;rw [hd] at hd';cases hd'
 ·obtain ⟨e,n,r⟩:=I.pin p hq
  exact ⟨e,by rw [aF (hp p hq)];exact n,r⟩
 ·by_cases hb:b=ea
  ·subst hb
   rw [aA] at q;cases q
   exact ⟨⟨oe,he,hc⟩,⟨oe,he⟩,λh1 h2 ⟨o,a,c⟩ k=>⟨o,k o a,c⟩⟩
  ·rw [aF hb] at q
   exact (I.hok b u q).oM (λ_ _ _ z=>z) (λc z=>by rw [aF (bF z hn)];exact z) λc xs z=>by rw [aF (bF z hn)];exact z
theorem kS.new {ea:Addr} {cls:Value} {s':Shared} (I:Inv X pins σ H s) (F:kS X.prog X.w X.stack H s ea cls H' s'):H' ea=none∧s.heap.get? ea=none:=by
 obtain ⟨B,t,fl,cov⟩:=F.fl
 obtain ⟨oe,vs,he,_,hd,_⟩:=fl.first
 have nf:ea ∉ jw X.stack:=λhb=>by
  obtain ⟨_,o,ho,hn⟩:=jI I F.un hb
  rw [he] at ho;cases ho
  exact hn vs hd
 have no:¬ (H' ea≠none∨∃o₀,s.heap.get? ea=some o₀):=λz=>by
  have:=cov ea oe he z nf
  rw [fl.2.1] at this;cases this
 refine ⟨?_,?_⟩
 ·cases q:H' ea with
  | none=>rfl
  | some u=>exact absurd (.inl (by rw [q];exact λz=>nomatch z)) no
 ·cases q:s.heap.get? ea with
  | none=>rfl
  | some u=>exact absurd (.inr ⟨u,q⟩) no
def QJ (K:PySem.W.Frag) (N:Nat) (CW:Addr) (i:Nat) (tb:XK→TS) (ts:TS):TS:=λD σ H=>tb (λcls _ H'=>∃C,cls=.ref C∧PySem.W.exmOne K (.ref C) (.ref CW)=some true ∧
 ∀ea,H' ea=none→ts { nx:=λσ' H2=>D.nx (σ'.set i none) H2,rt:=D.rt,bk:=λσ' H2=>D.bk (σ'.set i none) H2,ct:=λσ' H2=>D.ct (σ'.set i none) H2 } ((To N none).set i (some (.ref ea))) (upd H' ea (.ext (ExcAt ea C)))) D σ H
theorem Hr {body suite:List Stmt} {b₀:Stmt} {x n:Str} {i:Nat} {CW:Addr} {tb:XK→TS} {ts:TS} {np hpos pos:Pos} (hst:X.stack=X.env :: X.outer) (hfr:X.env.frame=some X.env.locals) (hex:X.ex=[]) (hg:Gl X x) (hm:X.mg x=some (.ref CW))
  (hN:X.N.Nodup) (hi:X.N[i]?=some n) (hk:X.env.kindOf n=some .local) (hb:∀pn xe E,Passes (dn X.prog X.w) (Km X pn xe) E→rJ (Km X pn xe) body (tb E)) (hs:∀pn ea,rJ (Ml X pn ea) (b₀ :: suite) ts) (hd:(x == ("__debug__":Str))=false:=by decide) :
  PS X (.Try body [.ExceptHandler (some (.Name x np)) (some n) (b₀ :: suite) hpos] [] [] pos) (QJ X.K X.N.length CW i tb ts):=by
 intro pins s σ H D I h
 refine wpAny_Try_except ?_
 refine wpAny_mono (hb (X.pn ++ pins) (λe s₁=>wpAny (model X.prog X.w) X.A (noteFrame e X.env) (λ_ s₂=>wpAny (model X.prog X.w) X.A (setFlight e none) (λ_ s₃ =>
  wpAny (model X.prog X.w) X.A (handleBy e X.env [.ExceptHandler (some (.Name x np)) (some n) (b₀ :: suite) hpos]) (SP X pins D) X.xe s₃) X.xe s₂) X.xe s₁) _ ?pass [] s σ H D (M6 I _) h) (λf s1 q=>?_) (λ_ _ z=>z)
 case pass =>
  intro pins1 σ1 H1 s1 e s' I1 hf
  obtain ⟨ea,cls,H2,rfl,F,C,rfl,em,k⟩:=hf
  have J1:Inv X pins σ1 H1 s1:=mD I.ok I1
  have F:kS X.prog X.w X.stack H1 s1 ea (.ref C) H2 s':=F
  obtain ⟨hn,hnew⟩:=kS.new J1 F
  obtain ⟨B,t,fl,on⟩:=kS.on J1 F
  have h0:X.s₀.heap.get? ea=none:=by
   cases q:X.s₀.heap.get? ea with
   | none=>rfl
   | some o =>
    obtain ⟨o',e1⟩:=J1.base.there ea o q (by rw [hex];simp)
    rw [hnew] at e1;cases e1
  refine wpAny_looks_onW (by rw [I.ok.frames,hst]) hfr (hst ▸ fl) λh4 held4 up4=>?_
  refine wpAny_landsW held4 λh5 fl5 up5=>?_
  have F5:=on h5 (hst ▸ fl5) (up4.trans up5)
  have J5:Inv X pins σ1 H2 { s' with heap:=h5 }:=J1.C5 F5.os F5.un F5.hok F5.bare (λb z=>absurd z (by simp))
  have Y5:=IC J5 ea
  refine wpAny_handleBy_cons (codeAny_handlers_test (kE Y5 hg hm ?_ hd)) (by intro q;cases q)
  obtain ⟨ob,hob,hobc⟩:=fl5.there
  have LT:PySem.W.Looks (model X.prog X.w) h5 (typeOf (.ref ea)) (.ref C):=ExcAt.ty ⟨ob,hob,hobc⟩
  refine (PySem.W.exm_one Y5.lR LT em).here ?_
  refine codeAny_handlers_suite_as ?_
  refine lands_againW fl5 λh6 fl6 up6=>?_
  have F6:=on h6 (hst ▸ fl6) ((up4.trans up5).trans up6)
  have J6:Inv X pins σ1 H2 { s' with heap:=h6 }:=J1.C5 F6.os F6.un F6.hok F6.bare (λb z=>absurd z (by simp))
  obtain ⟨oe,vs,hoe,hoec,hoed,_⟩:=fl6.first
  have J7:=yr J6 hoe hoec hoed hn h0 λp hp z=>by
   have:=(J1.pin p hp).1
   rw [z,hnew] at this;cases this
  have Y7:=IC (J7.weak (σ':=To X.N.length none) (by rw [Uy,J7.len]) λj v z=>by
   rw [Up] at z
   split at z <;> cases z) ea
  refine fI (X:=Ml X (X.pn ++ pins) ea) Y7 hN hi (Or.inl hk) (v:=.ref ea) rfl (λs8 I8=>?_) (Or.inr hk)
  refine wpAny_noRaise (cA (hs (X.pn ++ pins) ea [] s8 _ _ _ I8 (k ea hn)) λf s9 q=>?_)
  cases f with
  | next=>obtain ⟨σ',H',I',q⟩:=q;exact nB (pF I.ok I') hN hi hk λ_ I9=>⟨_,_,I9,q⟩
  | brk=>obtain ⟨σ',H',I',q⟩:=q;exact nB (pF I.ok I') hN hi hk λ_ I9=>⟨_,_,I9,q⟩
  | cont=>obtain ⟨σ',H',I',q⟩:=q;exact nB (pF I.ok I') hN hi hk λ_ I9=>⟨_,_,I9,q⟩
  | ret u=>obtain ⟨v,σ',H',I',r,q⟩:=q;exact nB (pF I.ok I') hN hi hk λ_ I9=>⟨v,_,_,I9,r,q⟩
 ·cases f with
  | next=>obtain ⟨σ',H',I',q⟩:=q;exact wpAny_execs_nil ⟨_,_,mD I.ok I',q⟩
  | brk=>obtain ⟨σ',H',I',q⟩:=q;exact ⟨_,_,mD I.ok I',q⟩
  | cont=>obtain ⟨σ',H',I',q⟩:=q;exact ⟨_,_,mD I.ok I',q⟩
  | ret u=>obtain ⟨v,σ',H',I',r,q⟩:=q;exact ⟨v,_,_,mD I.ok I',r,q⟩
def MU:V→Option Value
 | .ref a=>some (.ref a)
 | .ty n=>some (.type n)
 | _=>none
def Oa (K:PySem.W.Frag):List V→Hp→VK→Prop:=λxs H Q=>∃a D c cv b,xs=[.ref a,c]∧H a=some (.ext (ExcAt a D))∧o_ K D∧MU c=some cv∧PySem.W.kitOne K (.ref D) cv=some b∧Q (.bl b) H
theorem cQ {X:Cx} {K:PySem.W.Frag} (hK:X.K=K):b7 X (.builtin "isinstance") (Oa K):=by
 subst hK
 intro pins s σ H xs us Q I r h
 obtain ⟨a,D,c,cv,b,rfl,ha,xc,rc,e,q⟩:=h
 obtain ⟨u,w',rfl,rx,ry⟩:=vals2 r
 obtain rfl:u=Value.ref a:=rx
 have:w'=cv:=by
  cases c with
  | ref z=>exact (show w'=Value.ref z from ry).trans (Option.some.inj rc)
  | ty z=>exact (show w'=Value.type z from ry).trans (Option.some.inj rc)
  | _=>cases rc
 subst this
 exact PySem.W.kia_one (DI xc) I.lR (I.hok a _ ha).1 e (by intro z;cases z) λtk=>⟨.bl b,H,I.tok _,rfl,q⟩
end
end Ov
namespace Ov
open PySem PySem.Spec PyProof.Rows
open L2 (V HO Hp Inv Cx St VK TE TT TA TS Ends Loc Gl RelV Vals fh b7 rA upd E0 bS XK Passes)
section
variable {X:Cx} {e:Expr} {es:List Expr} {t:TA} {x:Str} {np cpos pos p:Pos}
end
def gP (i:Nat):Str:=(["BadName","Taken","Full","NoCraft","TooFar","BadMoment","Past","NotThere","NoWatch","NoTale"]:List Str).getD i ""
structure Ba (K:PySem.W.Frag) (mg:Str→Option Value) (W:Addr) (c:Nat→Addr):Prop where
 nV:mg "ValueError"=none
 mW:mg "WaterError"=some (.ref W)
 own:∀i,i < 10→Own K mg (gP i) (c i)
 val:∀i,i < 10→PySem.W.kitOne K (.ref (c i)) (.type "ValueError")=some true
 wat:∀i,i < 10→PySem.W.exmOne K (.ref (c i)) (.ref W)=some true
 kit:∀i,i < 10→∀j,j < 10→PySem.W.kitOne K (.ref (c i)) (.ref (c j))=some (decide (i=j))
open PySem.W in
def FE (K:Frag) (D:Addr):Bool:=(clsIn K D).isSome && findIn K (.ref D) "__getattribute__" == some (some (.builtin "BaseException.__getattribute__")) && findIn K (.ref D) "__getattr__" == some none &&
 findIn K (.ref D) "__class__" == some (some (.builtin "object.__class__")) && specialIn K (.builtin "object.__class__") "__get__" == some (some (.builtin "getset_descriptor.__get__")) && takesIn K (.builtin "object.__class__") == some true &&
 mroIn K D (.type "object") == some true && subIn K (.ref D) (.type "BaseException") == some true
theorem Ip {K:PySem.W.Frag} {D:Addr} (h:FE K D=true):o_ K D:=by
 simp only [FE,SR,beq_iff_eq] at h
 obtain ⟨⟨⟨⟨⟨⟨⟨a,b⟩,c⟩,d⟩,e⟩,f⟩,g⟩,i⟩:=h
 exact ⟨a,b,c,d,e,f,g,i⟩
open PySem.W in
def MZ (K:Frag) (W:Addr) (cs:List Addr):Bool:=cs.length == 10 && (S8 10).all λi=>excIn K (cs.getD i 0) Pt "ValueError.__new__" && FE K (cs.getD i 0) && kitOne K (.ref (cs.getD i 0)) (.type "ValueError") == some true &&
 exmOne K (.ref (cs.getD i 0)) (.ref W) == some true && (S8 10).all λj=>kitOne K (.ref (cs.getD i 0)) (.ref (cs.getD j 0)) == some (decide (i=j))
theorem Gr {K:PySem.W.Frag} {h:Heap} {mg:Str→Option Value} (X:K.In h) (G:h.Ns mainGlobals mg) {W c0 c1 c2 c3 c4 c5 c6 c7 c8 c9:Addr} (v:PySem.W.nsIn K mainGlobals "ValueError"=some none) (w:PySem.W.nsIn K mainGlobals "WaterError"=some (some (.ref W)))
  (a0:PySem.W.nsIn K mainGlobals "BadName"=some (some (.ref c0))) (a1:PySem.W.nsIn K mainGlobals "Taken"=some (some (.ref c1))) (a2:PySem.W.nsIn K mainGlobals "Full"=some (some (.ref c2))) (a3:PySem.W.nsIn K mainGlobals "NoCraft"=some (some (.ref c3)))
  (a4:PySem.W.nsIn K mainGlobals "TooFar"=some (some (.ref c4))) (a5:PySem.W.nsIn K mainGlobals "BadMoment"=some (some (.ref c5))) (a6:PySem.W.nsIn K mainGlobals "Past"=some (some (.ref c6))) (a7:PySem.W.nsIn K mainGlobals "NotThere"=some (some (.ref c7)))
  (a8:PySem.W.nsIn K mainGlobals "NoWatch"=some (some (.ref c8))) (a9:PySem.W.nsIn K mainGlobals "NoTale"=some (some (.ref c9))) (b:MZ K W [c0,c1,c2,c3,c4,c5,c6,c7,c8,c9]=true):∃W c,Ba K mg W c:=by
 have m:∀i,i < 10→mg (gP i)=some (.ref ([c0,c1,c2,c3,c4,c5,c6,c7,c8,c9].getD i 0)):=λi hi=>by
  match i,hi with
  | 0,_=>exact PySem.W.mg_of X G a0
  | 1,_=>exact PySem.W.mg_of X G a1
  | 2,_=>exact PySem.W.mg_of X G a2
  | 3,_=>exact PySem.W.mg_of X G a3
  | 4,_=>exact PySem.W.mg_of X G a4
  | 5,_=>exact PySem.W.mg_of X G a5
  | 6,_=>exact PySem.W.mg_of X G a6
  | 7,_=>exact PySem.W.mg_of X G a7
  | 8,_=>exact PySem.W.mg_of X G a8
  | 9,_=>exact PySem.W.mg_of X G a9
 unfold MZ at b
 have b:=(Bool.and_eq_true_iff.mp b).2
 have k:∀i,i < 10→_:=λi hi=>TH.mp b i (TJ.mpr hi)
 simp only [SR,beq_iff_eq,TH,TJ] at k
 exact ⟨W,λi=>[c0,c1,c2,c3,c4,c5,c6,c7,c8,c9].getD i 0,PySem.W.mg_none_of X G v,PySem.W.mg_of X G w,λi hi=>⟨m i hi,(k i hi).1.1.1.1,Ip (k i hi).1.1.1.2⟩,λi hi=>(k i hi).1.1.2,λi hi=>(k i hi).1.2,λi hi j hj=>(k i hi).2 j hj⟩
open L2 (xQ Ck fc v3 zj tC HX oS)
def uD (i:Nat):List V:=.bl true :: (S8 10).map λj=>.bl (decide (i=j))
abbrev tI (K:PySem.W.Frag) (m:Nat) (v:V):TE:=HX (Oa K) (fc (zj m) (fc (tC v) v3))
theorem kg {K:PySem.W.Frag} {m ea:Nat} {D:Addr} {v:V} {cv:Value} {b:Bool} {σ:L2.St} {H:Hp} {Q:VK} (hσ:σ[m]?=some (some (.ref ea))) (hH:H ea=some (.ext (ExcAt ea D))) (xc:o_ K D) (hv:MU v=some cv) (hk:PySem.W.kitOne K (.ref D) cv=some b) (q:Q (.bl b) H) :
  tI K m v σ H Q:=⟨_,hσ,ea,D,v,cv,b,rfl,hH,xc,hv,hk,q⟩
theorem Fl {K:PySem.W.Frag} {mg:Str→Option Value} {W:Addr} {c:Nat→Addr} (Er:Ba K mg W c) {i m n:Nat} {ea:Addr} (hi:i < 10) {σ:L2.St} {H:Hp} {D:Ends} (hσ:σ[m]?=some (some (.ref ea))) (hH:H ea=some (.ext (ExcAt ea (c i))))
  (q:∀l,H l=none→D.nx (σ.set n (some (.ref l))) (upd H l (.lst (uD i)))) :
  xQ (Ck (fc (tI K m (.ty "ValueError")) (fc (tI K m (.ref (c 0))) (fc (tI K m (.ref (c 1))) (fc (tI K m (.ref (c 2))) (fc (tI K m (.ref (c 3))) (fc (tI K m (.ref (c 4))) (fc (tI K m (.ref (c 5))) (fc (tI K m (.ref (c 6))) (fc (tI K m (.ref (c 7)))
   (fc (tI K m (.ref (c 8))) (fc (tI K m (.ref (c 9))) v3)))))))))))) (oS n) D σ H:=by
 have xc:=(Er.own i hi).xc
 have k:=Er.kit i hi
 refine kg hσ hH xc rfl (Er.val i hi) (kg hσ hH xc rfl (k 0 (by decide)) (kg hσ hH xc rfl (k 1 (by decide)) (kg hσ hH xc rfl (k 2 (by decide)) (kg hσ hH xc rfl (k 3 (by decide)) (kg hσ hH xc rfl (k 4 (by decide))
  (kg hσ hH xc rfl (k 5 (by decide)) (kg hσ hH xc rfl (k 6 (by decide)) (kg hσ hH xc rfl (k 7 (by decide)) (kg hσ hH xc rfl (k 8 (by decide)) (kg hσ hH xc rfl (k 9 (by decide)) ?_))))))))))
 exact ⟨(by show 11≤sizeLine;decide),λl hl=>q l hl⟩
theorem _root_.L2.bS.aV {k:Nat} {A:Around} (r:bS k A):A.units + 61 < cLine:=by have:=r.un;omega
end Ov
namespace Ov
open PySem PySem.Spec PyProof.Rows L2
def eE (P:Addr) (h:Heap):Prop:=∃ps:Array Value,h.get? P=some { cls:=.none,data:=.fields ps }∧TriplesOk ps.toList
def tj (K:PySem.W.Frag) (c P:Addr):Prop:=c≠P∧∃(o:Obj) (vs:Array Value) (file:Str) (tf:Tok) (flags:Int) (tg:Tok) (inF:Bool) (text:Int) (tt:Tok),
 K.lookup c=some o∧o.cls=.type "code"∧o.data=.fields vs∧vs[11]?=some (.ref P)∧vs.getD 18 .none=.str file tf∧vs.getD 7 .none=.int flags tg∧vs.getD 9 .none=.bool inF∧vs.getD 10 .none=.int text tt
def BMain (mg:Str→Option Value) (h:Heap):Prop:=∃bm ob,mg "__builtins__"=some (.ref bm)∧bm≠builtinsNs∧h.get? bm=some ob∧ob.cls=.type "module"∧ob.dict=some builtinsNs∧ob.data=.plain
theorem tj.at {K:PySem.W.Frag} {h:Heap} {c P:Addr} {ps:Array Value} (Z:tj K c P) (X:K.In h) (hp:h.get? P=some { cls:=.none,data:=.fields ps }) (tr:TriplesOk ps.toList):h.IsCode c P ps∧h.TableAt c P ps:=by
 obtain ⟨ne,o,vs,file,tf,flags,tg,inF,text,tt,lk,hc,hd,h11,h18,h7,h9,h10⟩:=Z
 have e11:vs.getD 11 .none=.ref P:=by
  rw [Array.getD_eq_getD_getElem?,h11];rfl
 exact ⟨⟨o,vs,file,tf,flags,tg,inF,text,tt,_,X _ _ lk,hd,e11,h18,h7,h9,h10,hp,rfl,tr,ne⟩,⟨o,vs,X _ _ lk,hc,hd,h11⟩,hp⟩
section
variable {X:Cx} {pins:List (Addr × Obj)} {σ:L2.St} {H:Hp} {s:Shared} {c P:Addr}
theorem GD {s':Shared} (I:Inv X pins σ H s) (hP:H P=some (.ext (eE P))) (os:s'.os=s.os) (bare:AllBare s'.gens) (k:∀b o,b≠P→s.heap.get? b=some o→s'.heap.get? b=some o) (t:eE P s'.heap):Inv X pins σ H s':=by
 have nP:∀b,H b=none→b≠P:=λb n z=>by rw [z,hP] at n;cases n
 have hok:ma X.prog X.w H s'.heap:=λb u e=>by
  by_cases hb:b=P
  ·subst hb
   rw [hP] at e;cases e
   obtain ⟨ps,hp,_⟩:=id t
   exact ⟨t,⟨_,hp⟩,((I.hok b _ hP)).2.2⟩
  ·refine (I.hok b u e).oM (λd v hd q=>k d v ?_ q) (λ_ q=>q) λ_ _ q=>q
   rcases hd with rfl | hd
   ·exact hb
   ·intro z
    rw [z,hP] at hd;cases hd
 have un:Un (jw X.stack) [] H H s.heap s'.heap:=⟨λb o e n _ _=>k b o (nP b n) e,λb o e n _ _=>⟨o.slots,k b o (nP b n) e⟩,λ_ _ _ n _=>n,λb o e _=>by
  by_cases hb:b=P
  ·subst hb
   obtain ⟨ps,hp,_⟩:=t
   exact ⟨_,hp⟩
  ·exact ⟨o,k b o hb e⟩,λ_ _ q=>q,λ_ _ _ q=>q,λ_ ps q=>⟨#[],by rw [q];simp⟩⟩
 exact I.C5 os un hok bare λb z=>absurd z (by simp)
theorem Dr {M:Model} {A:Around} {E:Value→Shared→Prop} {env:Env} {pos:Pos} {q:Str} {sc:Scope} {Q:Value→Shared→Prop} {s:Shared} (hc:env.code=.ref c) (Z:tj X.K c P) (kin:X.K.In s.heap) (t:eE P s.heap)
  (h:∀code h' tk,(∀b o,b≠P→s.heap.get? b=some o→h'.get? b=some o)→s.heap.objs.size≤h'.objs.size→eE P h'→Q code { s with heap:=h',toks:=tk }):wpAny M A (genexprCode env pos q sc) Q E s:=by
 obtain ⟨ps,hp,tr⟩:=t
 obtain ⟨ic,ta⟩:=Z.at kin hp tr
 cases hf:codeAmong pos ps.toList with
 | some c'=>exact wpAny_genexprCode_hit hc ic hf (h c' s.heap s.toks (λ_ _ _ e=>e) (So _) ⟨ps,hp,tr⟩)
 | none =>
  refine wpAny_genexprCodeX hc ic ta hf λc' h' tk ext l1 l2 ic' _ ta' _=>h _ h' tk (λb o nb e=>ext b o nb e) (T_ (Th l1 l2)) ⟨_,ta'.2,?_⟩
  obtain ⟨_,_,_,_,_,_,_,_,_,_,_,_,_,_,_,_,_,hop,hpd,tr',_⟩:=ic'
  exact tr'
theorem CZ {α:Type} (B:List α) (q:α→Bool):((S8 B.length).all λj=>(B[j]?).elim true q)=B.all q:=by
 rw [Tz,TH,TH]
 refine ⟨λh b hb=>?_,λh j hj=>?_⟩
 ·obtain ⟨j,hj,rfl⟩:=S4 hb
  have:=h j (TJ.mpr hj)
  rwa [Si hj] at this
 ·have hj:=TJ.mp hj
  rw [Si hj]
  exact h _ (SM hj)
def d_ (tx:Str) (ch:Nat):Bool:=!(Builtin.Str.occurrences tx ⟨#[ch]⟩ 0 tx.length 1).isEmpty
def Fn (P:Addr) (tx:Str) (ti:TE):TE:=λσ H Q=>ti σ H λv H1=>∃y:Str,v=.str y∧H1 P=some (.ext (eE P))∧Q (.bl (y.cps.toList.all (d_ tx))) H1
theorem EI {prog:Program} {w:World} {env:Env} {scope:Scope} {x g:Str} {tx y:Str} {tt:Tok} {C:Addr} {code:Value} {fp wr:List Addr} {href:Heap} {D U:Nat} {p1 p2 p3:Pos} {mg:Str→Option Value} (sck:scope.kind=.function) (hx:scope.names.lookup x=some .local) (hg:scope.names.lookup g=some .globalImplicit)
  (ns:href.Ns env.globals mg) (hm:mg g=some (.str tx tt)) (h1:env.globals∈fp) (h2:env.globals ∉ wr) (hmk:behindInMarks .In (.Name g p2)=false) (hdx:(x == ("__debug__":Str))=false) (hdg:(g == ("__debug__":Str))=false) :
  QuietGenD prog w (genEnv scope [] C code builtinsNs env) x [] (.Compare (.Name x p1) [.In] [.Name g p2] p3) fp wr (SignAt y) (λ_=>true) (λi v=>∃ch,y.cps[i]?=some ch∧v=.bool (d_ tx ch)) href D U where
 tests:=λA' E' i v s₂ m₂ _ _ _ _ _ _ _=>wpAny_pure ⟨rfl,_,_,rfl,λ_ _ e=>e⟩
 elt:=λA' E' i v s₂ m₂ _ _ _ hP _ hn hmx hk=>by
  obtain ⟨ch,u,hch,rfl⟩:=hP
  refine wpAny_Compare1 (wpAny_Name (wpAny_loadName_local (show (genEnv scope [] C code builtinsNs env).scope.kind=.function from sck) (show (genEnv scope [] C code builtinsNs env).kindOf x=some .local from hx) hn hmx ?_) hdx) hmk
  refine Calls.Name_function_global (show (genEnv scope [] C code builtinsNs env).scope.kind=.function from sck) (show (genEnv scope [] C code builtinsNs env).kindOf g=some .globalImplicit from hg) (Calls.loadGlobal_global (ns.at' λo e=>hk _ h1 h2 o e) hm ?_) hdg
  exact in_str ⟨⟨ch,hch,rfl⟩,_,_,rfl,λ_ _ e=>e⟩
theorem B9 {x g:Str} {p px p1 p2 p3 gpos cpos:Pos} {iter:Expr} {ti:TE} {scope:Scope} {tx:Str} {tt:Tok} (hcalm:X.calm=true) (Bm:BMain X.mg X.base) (hcode:X.env.code=.ref c) (Z:tj X.K c P) (hdep:X.A.depth < recursionLimit)
  (hgl:Gl X "all") (hma:X.mg "all"=none) (hsg:X.mg g=some (.str tx tt)) (hi:PE X iter ti) (sck:scope.kind=.function) (hco:scope.isCoroutine=false) (hclos:closureFor scope X.env=pure []) (hcell:∀y∈scope.names,y.2≠.cell)
  (h0:scope.names.lookup (".0":Str)=some NameKind.local) (hx:scope.names.lookup x=some .local) (hsc:scope.names.lookup g=some .globalImplicit) (hmk:behindInMarks .In (.Name g p2)=false) (hs:∀x,genFold iter X.env x=pure x)
  (hst:starEach [.GeneratorExp (.Compare (.Name x p1) [.In] [.Name g p2] p3) [⟨.Name x px,iter,[],0⟩] scope gpos] X.env=[(false,eval (.GeneratorExp (.Compare (.Name x p1) [.In] [.Name g p2] p3) [⟨.Name x px,iter,[],0⟩] scope gpos) X.env)])
  (hdx:(x == ("__debug__":Str))=false) (hdg:(g == ("__debug__":Str))=false) :
  PE X (.Call (.Name "all" p) [.GeneratorExp (.Compare (.Name x p1) [.In] [.Name g p2] p3) [⟨.Name x px,iter,[],0⟩] scope gpos] [] cpos) (Fn P tx ti):=by
 intro pins s σ H Q I h
 refine wpAny_Call_Name_kw (nY I hgl hma PyProof.Rows.Boot.«all» ?_)
 refine PyProof.Rows.callWith_builtin1 ?_ hst rfl
 rw [hst]
 show wpAny _ _ (spliced ((false,eval (.GeneratorExp (.Compare (.Name x p1) [.In] [.Name g p2] p3) [⟨.Name x px,iter,[],0⟩] scope gpos) X.env) :: [])) _ _ s
 refine Calls.spliced_cons ?_
 refine wpAny_GeneratorExp_walksQD (I.ok.hd hcalm) hco hclos hcell h0 hx sck hdep ?_ hs
 refine cA (hi pins s σ H _ I h) λxv s1 ⟨v,H1,I1,r1,y,ev,hP,q⟩=>?_
 subst ev
 obtain ⟨ty,rfl⟩:=r1
 have t1:eE P s1.heap:=(I1.hok P _ hP).1
 have ltP:P < s1.heap.objs.size:=I1.hok.lt hP
 refine wpAny_pyIter_str λo St W st0=>?_
 have k1:∀b ob,s1.heap.get? b=some ob→(s1.heap.push o).get? b=some ob:=λb ob e=>Heap.get?_push_of_some _ e
 refine ⟨I1.nolimit.keeps k1,?_⟩
 have t2:eE P (s1.heap.push o):=let ⟨ps,hp,tr⟩:=t1;⟨ps,k1 _ _ hp,tr⟩
 refine Dr (X:=X) (s:={ s1 with heap:=s1.heap.push o }) hcode Z (I1.lR.keeps k1) t2 λcode h' tk k sz t'=>?_
 have kk:∀b ob,b≠P→s1.heap.get? b=some ob→h'.get? b=some ob:=λb ob nb e=>k b ob nb (k1 b ob e)
 have nsP:∀(b:Addr) (m:Str→Option Value),s1.heap.Ns b m→b≠P:=λb m hn z=>by
  obtain ⟨ob,es,ep,ho,hd,_⟩:=hn
  obtain ⟨ps,hp,_⟩:=t1
  rw [z,hp] at ho;cases ho;cases hd
 have nsK:∀(b:Addr) (m:Str→Option Value),s1.heap.Ns b m→h'.Ns b m:=λb m hn=>hn.at' λob e=>kk b ob (nsP b m hn) e
 have nsG:s1.heap.Ns X.env.globals X.mg:=by rw [I1.ok.glob];exact I1.mod.glob.keeps I1.bk
 have nl:h'.NoLimit:=let ⟨mc,h1,h2⟩:=I1.nolimit;⟨mc,nsK _ _ h1,h2⟩
 have ltC:cStatics < s1.heap.objs.size:=let ⟨mc,h1,_⟩:=I1.nolimit;h1.lt
 have szI:s1.heap.objs.size < h'.objs.size:=SA (by rw [Heap.size_push];exact TU _) sz
 obtain ⟨bm,ob,b1,b2,b3,b4,b5,b6⟩:=Bm
 have b3':=I1.bk _ _ b3
 have nbm:bm≠P:=λz=>by
  obtain ⟨ps,hp,_⟩:=t1
  rw [z,hp] at b3'
  rw [← Option.some.inj b3'] at b6;cases b6
 refine wpAny_builtinsFor (nsK _ _ nsG) b1 b2 (kk _ _ nbm b3') b4 b5 b6 ?_
 refine ⟨s1.heap.objs.size,[s1.heap.objs.size],[s1.heap.objs.size],y.cps.size,SignAt y,St,λ_=>true,λi v=>∃ch,y.cps[i]?=some ch∧v=.bool (d_ tx ch),rfl,W,
  (W X.A (I.ok.hd hcalm)).frame _ _ _ st0 λb hb o' e=>k b o' (by rw [Su.mp hb];exact Uw ltP) e,λb hb=>by rw [Su.mp hb];exact szI,nl,
  λhb=>SN ltC (Su.mp hb),λhref kh=>EI sck hx hsc ((nsK _ _ nsG).keeps kh) hsg (TJ.mpr (nsK _ _ nsG).lt) (λhb=>SN nsG.lt (Su.mp hb)) hmk hdx hdg,λa h5 tk5 gs hgs ltA szA k5 WS G=>?_⟩
 refine Calls.spliced_nil ?_
 have pall:passing (λ_=>true) y.cps.size 0=S8 y.cps.size:=by simp [passing]
 have WS:=WS.in4_1
 refine call_all_walkS (WS.self 0 _ _ _ G ⟨a,_,_,_,_,_,_,(λj=>(y.cps.toList[j]?).elim true (d_ tx)),rfl,WS,G,λj v s Q E hv hQ=>?_,λs' hm=>?_⟩)
 ·obtain ⟨i,hi,ch,hch,rfl⟩:=hv
  rw [pall] at hi
  have hji:i=j:=by
   obtain ⟨hj,e⟩:=Sj.mp hi
   simpa using e.symm
  subst hji
  have e:y.cps.toList[i]?=some ch:=by simpa using hch
  simp only [e,Option.elim] at hQ
  exact wpAny_truthy_bool hQ
 ·have nwr:∀b,b < s1.heap.objs.size→b ∉ h'.objs.size :: [s1.heap.objs.size]:=λb hb hm=>by
   rcases Sy.mp hm with z | z
   ·omega
   ·have:=Su.mp z
    omega
  refine ⟨.bl _,H1,GD I1 hP hm.os ((I1.bare.push hgs).movedS hm) (λb o' nb e=>hm.heap b o' (nwr b (Heap.lt_size e)) (k5 b o' (kk b o' nb e))) ?_,rfl,?_⟩
  ·obtain ⟨ps,hp,tr⟩:=t'
   exact ⟨ps,hm.heap P _ (nwr P ltP) (k5 P _ hp),tr⟩
  ·rw [pall]
   have e:y.cps.size=y.cps.toList.length:=by simp
   have z:=CZ y.cps.toList (d_ tx)
   rw [T8,e,z]
   exact q
end
section
variable {X:Cx} {c P:Addr}
theorem Em {x g:Str} {p px p1 p2 p3 gpos cpos:Pos} {iter:Expr} {ti:TE} {scope:Scope} {tx:Str} {tt:Tok} {k:Nat} (hcalm:X.calm=true) (Bm:BMain X.mg X.base) (hcode:X.env.code=.ref c) (Z:tj X.K c P) (hr:bS k X.A)
  (hgl:Gl X "all") (hma:X.mg "all"=none) (hsg:X.mg g=some (.str tx tt)) (hi:QE X iter ti) (sck:scope.kind=.function:=by rfl) (hco:scope.isCoroutine=false:=by rfl) (hclos:closureFor scope X.env=pure []:=by rfl) (hcell:∀y∈scope.names,y.2≠.cell:=by decide)
  (h0:scope.names.lookup (".0":Str)=some NameKind.local:=by rfl) (hx:scope.names.lookup x=some .local:=by rfl) (hsc:scope.names.lookup g=some .globalImplicit:=by rfl) (hmk:behindInMarks .In (.Name g p2)=false:=by with_unfolding_all rfl) (hs:∀x,genFold iter X.env x=pure x:=by intro _;rfl)
  (hst:starEach [.GeneratorExp (.Compare (.Name x p1) [.In] [.Name g p2] p3) [⟨.Name x px,iter,[],0⟩] scope gpos] X.env=[(false,eval (.GeneratorExp (.Compare (.Name x p1) [.In] [.Name g p2] p3) [⟨.Name x px,iter,[],0⟩] scope gpos) X.env)]:=by rfl)
  (hdx:(x == ("__debug__":Str))=false:=by decide) (hdg:(g == ("__debug__":Str))=false:=by decide) :
  QE X (.Call (.Name "all" p) [.GeneratorExp (.Compare (.Name x p1) [.In] [.Name g p2] p3) [⟨.Name x px,iter,[],0⟩] scope gpos] [] cpos) (Fn P tx ti) :=
 ⟨B9 hcalm Bm hcode Z (by have:=hr.dp;omega) hgl hma hsg hi.run sck hco hclos hcell h0 hx hsc hmk hs hst hdx hdg⟩
end
structure F1 (K:PySem.W.Frag) (mg:Str→Option Value) (x:Str) (st:Stmt) (P:Addr) (f:Addr) (fd:FuncData) (c:Addr):Prop where
 fn:cE K x x st f fd
 mg:mg x=some (.ref f)
 code:fd.code=.ref c
 tab:tj K c P
 out:K.lookup P=none
def x4 (K:PySem.W.Frag) (mg:Str→Option Value) (x:Str) (st:Stmt) (P:Addr):Prop:=∃f fd c,F1 K mg x st P f fd c
section
variable {P:Program} {w:World} {K:PySem.W.Frag} {mg:Str→Option Value} {base:Heap}
theorem R8 {x:Str} {st:Stmt} {T f c:Addr} {fd:FuncData} {N ps:List Str} {k:Nat} {sp:Sp} (F:F1 K mg x st T f fd c) (S:aw N ps (ai st)) (len:∀vs H Q E,sp vs H Q E→vs.length=ps.length)
  (hbody:∀(A:Around) (outer:List Env) (s:Shared) (H:Hp) (vs:List V) (Q:VK) (E:XK),bS k (A.deeper (envOfC x (ai st) s.heap.objs.size f (.ref c)))→sp vs H Q E →
   ∃t,QB (uA pZ P w K mg base N x (ai st) f (.ref c) A outer s H E).K0 (bV st) t∧t { nx:=λ_ H'=>Q .non H',rt:=Q } (start N vs) H):aQ P w K mg base pZ (k + 1) f fd ps sp:=by
 obtain ⟨oc,od,kV,doc,pm,an,cdv,ct,osl,rfl,lk,hcd⟩:=F.fn.ex
 obtain rfl:cdv=.ref c:=F.code
 refine Dj lk hcd S len λA outer s H vs Q E hr hsp=>?_
 obtain ⟨t,h,q⟩:=hbody A outer s H vs Q E hr hsp
 exact ⟨t,h.run.K0,q⟩
theorem x4.C6 {x:Str} {st:Stmt} {T:Addr} {k:Nat} {ps:List Str} {sp:Sp} (D:x4 K mg x st T)
  (h:∀f fd c,F1 K mg x st T f fd c→aQ P w K mg base pZ k f fd ps sp)
  (hb:∀(kV doc pm:Value) (an:Option Addr) (cdv ct:Value) (us:List Value),us.length=ps.length→bindArgs (PySem.W.fnOf x x (dk st) (bV st) (ai st) .none kV doc pm an cdv ct) ⟨us,[]⟩=pure (ps.zip us)) :
  rH P w K mg base k x ps sp:=by
 obtain ⟨f,fd,c,F⟩:=D
 exact ⟨f,fd,h f fd c F,F.fn.binds hb,F.fn.kp,F.mg⟩
end
def codeB (vs:Array Value):Bool:=(match vs.getD 18 .none with | .str _ _=>true | _=>false) && (match vs.getD 7 .none with | .int _ _=>true | _=>false) && (match vs.getD 9 .none with | .bool _=>true | _=>false) && (match vs.getD 10 .none with | .int _ _=>true | _=>false)
theorem Gj {K:PySem.W.Frag} {h:Heap} {mg:Str→Option Value} {x:Str} {st:Stmt} (X:K.In h) (G:h.Ns mainGlobals mg) {f c T:Addr} {od an od':Option Addr} {sl sl':Array (Option Value)} {vs:Array Value} {oc kV dc pm ct:Value}
  (a:PySem.W.nsIn K mainGlobals x=some (some (.ref f))) (l:K.lookup f=some ⟨oc,od,.func (PySem.W.fnOf x x (dk st) (bV st) (ai st) .none kV dc pm an (.ref c) ct),sl⟩) (cc:PySem.W.codeIn K (.ref c) x=true) (k:PySem.W.keepIn K (.ref f)=true)
  (t:K.lookup c=some ⟨.type "code",od',.fields vs,sl'⟩) (p:vs[11]?=some (.ref T)) (b:codeB vs=true) (ne:c≠T) (out:K.lookup T=none):x4 K mg x st T:=by
 refine ⟨f,_,c,yo l cc k,PySem.W.mg_of X G a,rfl,⟨ne,?_⟩,out⟩
 simp only [codeB,SR] at b
 obtain ⟨⟨⟨b1,b2⟩,b3⟩,b4⟩:=b
 cases e1:vs.getD 18 .none with
 | str file tf =>
  cases e2:vs.getD 7 .none with
  | int fl tg =>
   cases e3:vs.getD 9 .none with
   | bool inF =>
    cases e4:vs.getD 10 .none with
    | int text tt=>exact ⟨_,vs,file,tf,fl,tg,inF,text,tt,t,rfl,rfl,p,e1,e2,e3,e4⟩
    | _=>rw [e4] at b4;cases b4
   | _=>rw [e3] at b3;cases b3
  | _=>rw [e2] at b2;cases b2
 | _=>rw [e1] at b1;cases b1
def MI (K:PySem.W.Frag) (mg:Str→Option Value) (names:List Str) (T:Addr):Prop:=∃x∈names,∃st,x4 K mg x st T
theorem BC {P:Program} {w:World} {K:PySem.W.Frag} {mg mb:Str→Option Value} {k:Nat} {fa a:Addr} {fd:FuncData} {x:Str} {sp:Sp} {s₁:Shared} {vs:List Value} {ns:List Int} {tabs:List Addr}
  (KX:K.In s₁.heap) (hns:s₁.heap.Ns mainGlobals mg) (hb:s₁.heap.Ns builtinsNs mb) (hbb:∀x:Str,x≠"__name__"→mb x=bootBuiltins x) (hlim:s₁.heap.NoLimit) (hg:s₁.gens=#[])
  (ha:s₁.heap.get? a=some { cls:=.type "list",data:=.seq vs.toArray }) (hi:IntsAre vs ns) (hl:ns.length≤sizeLine) (hr:bS k callerA) (hbm:BMain mg s₁.heap)
  (htab:∀T∈tabs,isCodeTable s₁.heap T∧s₁.heap.get? T=some { cls:=.none,data:=.fields #[] }∧K.lookup T=none)
  (F:∀base:Heap,K.In base→base.Ns mainGlobals mg→BMain mg base→aQ P w K mg base pZ k fa fd [x] sp) (hbind:∀(s:Shared) (u:Value),BindsTo s fd ⟨[u],[]⟩ [(x,u)])
  (hsp:∀H:Hp,(∀T∈tabs,H T=some (.ext (eE T)))→dC K H a (ns.map V.int)→(∀b,H b≠none→b=a∨b∈tabs)→(∀u,H a=some u→∃o xs,u=.pd o (.lst xs))→sp [.ref a] H (λv H'=>v=.bl true∧bD H H') λ_ _ _=>False) :
  codeAny (model P w) callerA (.call (.ref fa) ⟨[.ref a],[]⟩) (λr s'=>r=.ok (.ret (.bool true))∧OldK s₁.heap s'.heap∧s'.os=s₁.os∧AllBare s'.gens) s₁:=by
 have rv:=ue hi
 have lenV:=hi.length
 have naT:∀T∈tabs,T≠a:=λT hT z=>by
  have:=(htab T hT).2.1
  rw [z,ha] at this
  have h1:=congrArg Obj.cls (Option.some.inj this)
  cases h1
 have core:∀H:Hp,(∀T∈tabs,H T=some (.ext (eE T)))→dC K H a (ns.map V.int)→ma P w H s₁.heap→(∀b,H b≠none→b=a∨b∈tabs)→(∀u,H a=some u→K.lookup a=none∧∃o xs,u=.pd o (.lst xs)) →
   codeAny (model P w) callerA (.call (.ref fa) ⟨[.ref a],[]⟩) (λr s'=>r=.ok (.ret (.bool true))∧OldK s₁.heap s'.heap∧s'.os=s₁.os∧AllBare s'.gens) s₁:=by
  intro H hT hS hok hA hK
  have base_of:∀{b:Addr} {o:Obj},s₁.heap.get? b=some o→H b=none→(sv s₁.heap H).get? b=some o:=λe n=>Dx e n
  have no:∀{b:Addr} {o:Obj},s₁.heap.get? b=some o→(∀xs n,o.data≠.seq xs n)→(∀xs,o.data≠.fields xs)→H b=none:=λ{b o} e d1 d2=>by
   cases q:H b with
   | none=>rfl
   | some u =>
    rcases hA b (by rw [q];simp) with rfl | hb
    ·rw [ha] at e;cases e;exact absurd rfl (d1 _ _)
    ·rw [(htab b hb).2.1] at e;cases e;exact absurd rfl (d2 _)
  have nsK:∀{b:Addr} {m:Str→Option Value},s₁.heap.Ns b m→(sv s₁.heap H).Ns b m:=λ{b m} ⟨o,es,ep,e,d,r⟩=>⟨o,es,ep,base_of e (no e (λ_ _ z=>by rw [d] at z;cases z) λ_ z=>by rw [d] at z;cases z),d,r⟩
  have hKb:K.In (sv s₁.heap H):=λb o e=>base_of (KX b o e) (by
   cases q:H b with
   | none=>rfl
   | some u =>
    rcases hA b (by rw [q];simp) with rfl | hb
    ·have:=(hK u q).1
     exact absurd (this.symm.trans e) (λz=>nomatch z)
    ·have:=(htab b hb).2.2
     exact absurd (this.symm.trans e) (λz=>nomatch z))
  have hM:Mod K mg (sv s₁.heap H):=⟨hKb,nsK hns,⟨mb,nsK hb,hbb⟩,let ⟨mc,h1,h2⟩:=hlim;⟨mc,nsK h1,h2⟩⟩
  have hbm':BMain mg (sv s₁.heap H):=by
   obtain ⟨bm,ob,b1,b2,b3,b4,b5,b6⟩:=hbm
   exact ⟨bm,ob,b1,b2,base_of b3 (no b3 (λ_ _ z=>by rw [b6] at z;cases z) λ_ z=>by rw [b6] at z;cases z),b4,b5,b6⟩
  have e0:x5 P w K mg (sv s₁.heap H) callerA [] s₁ H:=⟨rfl,hM,λb o e=>GZ e,Nat.le_of_eq (Bv _ _),trivial,λb hb=>absurd (show b∈([]:List Addr) from hb) (by simp),hok,.of_eq hg⟩
  refine codeAny_mono ((F _ hKb (nsK hns) hbm').run callerA [] s₁ H ⟨[.ref a],[]⟩ [.ref a] [.ref a] _ _ hr e0 (hbind s₁ (.ref a)) (.cons rfl .nil) (hsp H hT hS hA λu z=>(hK u z).2)) λr s' h=>?_
  cases r with
  | error e=>exact False.elim h
  | ok fl =>
   cases fl with
   | next=>exact False.elim h
   | brk=>exact False.elim h
   | cont=>exact False.elim h
   | ret u =>
    obtain ⟨v,H',os,bare,un,hok',r',rfl,same⟩:=h
    obtain rfl:u=Value.bool true:=r'
    refine ⟨rfl,⟨λb o e=>?_,λb o e=>?_⟩,os,bare⟩
    ·cases q:H b with
     | none=>exact .inl (un.keep b o e q (by intro z;exact absurd (show b∈([]:List Addr) from z) (by simp)) (by simp))
     | some u =>
      have q':=same b u q
      rcases hA b (by rw [q];simp) with rfl | hb'
      ·obtain ⟨_,ob,xs,rfl⟩:=hK u q
       obtain ⟨e1,_⟩:=hok _ _ q
       obtain ⟨e2,_⟩:=hok' _ _ q'
       rw [e] at e1;cases e1
       exact .inl e2
      ·have hz:=hT b hb'
       rw [q] at hz;cases hz
       obtain ⟨⟨ps,hp,_⟩,_⟩:=hok' _ _ q'
       obtain ⟨t1,t2,_⟩:=htab b hb'
       rw [t2] at e;cases e
       exact .inr (.inl ⟨t1,rfl,#[],ps,rfl,by rw [hp];simp⟩)
    ·exact un.there b o e (by simp)
 have hTt:∀T∈tabs,∀H:Hp,du P w H s₁.heap T (.ext (eE T)):=λT hT H=>by
  have:=(htab T hT).2.1
  exact ⟨⟨#[],this,trivial⟩,⟨_,this⟩,λh1 h2 ⟨ps,hp,tr⟩ kk=>⟨ps,kk _ hp,tr⟩⟩
 cases hk:K.lookup a with
 | some o =>
  have e:=KX a o hk
  rw [ha] at e
  cases e
  refine core (λb=>if b∈tabs then some (.ext (eE b)) else none) (λT hT=>if_pos hT) (.inr ⟨_,vs.toArray,_,hk,rfl,rfl,rfl,by rw [Sn,lenV];exact hl,by simpa using rv⟩) (λb u z=>?_) (λb z=>?_) λu z=>?_
  ·by_cases hb:b∈tabs
   ·have z':=(if_pos hb).symm.trans z
    cases z'
    exact hTt b hb _
   ·have z':=(if_neg hb).symm.trans z
    cases z'
  ·by_cases hb:b∈tabs
   ·exact .inr hb
   ·exact absurd (if_neg hb) z
  ·have hb:a ∉ tabs:=λhb=>naT a hb rfl
   have z':=(if_neg hb).symm.trans z
   cases z'
 | none =>
  refine core (λb=>if b=a then some (.pd { cls:=.type "list",data:=.seq vs.toArray } (.lst (ns.map V.int))) else if b∈tabs then some (.ext (eE b)) else none) (λT hT=>?_) (.inl (.inr ⟨{ cls:=.type "list",data:=.seq vs.toArray },if_pos rfl⟩)) (λb u z=>?_) (λb z=>?_) λu z=>?_
  ·show (if T=a then _ else _)=_
   rw [if_neg (naT T hT),if_pos hT]
  ·by_cases hb:b=a
   ·have z':=(if_pos hb).symm.trans z
    cases z'
    subst hb
    exact ⟨ha,by rw [Sg];exact hl,vs,_,rv,ha⟩
   ·have z:=(if_neg hb).symm.trans z
    by_cases hb:b∈tabs
    ·have z':=(if_pos hb).symm.trans z
     cases z'
     exact hTt b hb _
    ·have z':=(if_neg hb).symm.trans z
     cases z'
  ·by_cases hb:b=a
   ·exact .inl hb
   ·by_cases hb':b∈tabs
    ·exact .inr hb'
    ·exact absurd ((if_neg hb).trans (if_neg hb')) z
  ·have z':=(if_pos rfl).symm.trans z
   cases z'
   exact ⟨hk,_,_,rfl⟩
theorem LZ {p:Program} {loose:List Str} {mean:ExcName→Option Value} {mg mb:Str→Option Value} {h:Heap} {K:PySem.W.Frag} {x:Str} {st:Stmt} {T:Addr} (Tp:Top p loose mean mg mb h) (KX:K.In h) (hx:∃d∈recsOf p,d.name=x) (D:x4 K mg x st T) :
  isCodeTable h T∧h.get? T=some { cls:=.none,data:=.fields #[] }∧K.lookup T=none:=by
 obtain ⟨f,fd,c,F⟩:=D
 obtain ⟨d,hd,rfl⟩:=hx
 obtain ⟨a',o',fd',c',P',h1,h2,h3,h4,h5,h6⟩:=Tp.tab d hd
 rw [F.mg] at h1;cases h1
 obtain ⟨oc,od,kV,doc,pm,an,cdv,ct,osl,rfl,lk,_⟩:=F.fn.ex
 have:=KX _ _ lk
 rw [h2] at this;cases this
 have e3:fd'=_:=(Data.func.inj h3).symm
 subst e3
 have e4:=F.code.symm.trans h4
 cases e4
 obtain ⟨_,oo,vs,_,_,_,_,_,_,_,lk',_,hd',h11,_⟩:=F.tab
 obtain ⟨⟨o2,vs2,g1,g2,g3,g4⟩,g5⟩:=id h6
 rw [KX _ _ lk'] at g1;cases g1
 rw [hd'] at g3;cases g3
 rw [h11] at g4;cases g4
 exact ⟨h6.isCodeTable,g5,F.out⟩
theorem Fy {l:PySem.W.OpenLaw} {n k:Nat} {q:Program} {loose:List Str} {XP:(Str→Option Value)→Heap→Prop} {YP:World→Heap→Prop} {d:DefRec} {K:Params→PySem.W.Frag} {sp:List Addr→PySem.W.Frag→Sp} {x:Str} (names:List Str)
  (hn:l.most=some n) (hn2:n≤sizeLine) (hdf:d.params.defaults=[]) (hr:bS k callerA) (hY:∀(w:World) (h:Heap),YP w h→(K w.params).In h) (hnm:∀x∈names,∃d∈recsOf q,d.name=x)
  (F:∀(w:World) (mg:Str→Option Value) (fa:Addr) (h:Heap),(K w.params).In h→h.Ns mainGlobals mg→mg d.name=some (.ref fa) →
   ∃(fd:FuncData) (tabs:List Addr),(∀(s:Shared) (u:Value),BindsTo s fd ⟨[u],[]⟩ [(x,u)])∧(∀T∈tabs,MI (K w.params) mg names T) ∧
    ∀base:Heap,(K w.params).In base→base.Ns mainGlobals mg→BMain mg base→aQ l.prog w (K w.params) mg base pZ k fa fd [x] (sp tabs (K w.params)))
  (hsp:∀(tabs:List Addr) (K:PySem.W.Frag) (H:Hp) (a:Addr) (ns:List Int),ns.length≤n→(∀T∈tabs,H T=some (.ext (eE T)))→dC K H a (ns.map V.int)→(∀b,H b≠none→b=a∨b∈tabs)→(∀u,H a=some u→∃o xs,u=.pd o (.lst xs))→sp tabs K [.ref a] H (λv H'=>v=.bl true∧bD H H') λ_ _ _=>False) :
  PySem.W.WalkO q loose XP YP l.row.toRowW d [] (λf vs=>PySem.call f vs):=by
 refine Att.wm hn hdf λw s₀ s₁ mg mb fa o pm cd doc a vs ns G Y ho hd hcd hmg hobj hints hlen hg=>?_
 have KX:=hY w _ Y
 obtain ⟨fd,tabs,hb,ht,hF⟩:=F w mg fa _ KX G.T.g hmg
 refine BC KX G.T.g G.T.b G.T.builtins G.T.nolimit hg hobj hints (SH hlen hn2) hr G.T.bmain (λT hT=>?_) hF hb (λH hT hS hA hK=>hsp tabs _ H a ns hlen hT hS hA hK)
 obtain ⟨x,hx,st,D⟩:=ht T hT
 exact LZ G.T KX (hnm x hx) D
def DE (s:Str):Value→Bool
 | .str y _=>y == s
 | _=>false
def DD (i:Int):Value→Bool
 | .int j _=>j == i
 | _=>false
theorem Bk {K:PySem.W.Frag} {h:Heap} {mg:Str→Option Value} {x s:Str} {u:Value} (X:K.In h) (G:h.Ns mainGlobals mg) (e:PySem.W.nsIn K mainGlobals x=some (some u)) (hu:DE s u=true):∃t,mg x=some (.str s t):=by
 cases u with
 | str y t =>
  have:y=s:=by simpa [DE] using hu
  subst this
  exact ⟨t,PySem.W.mg_of X G e⟩
 | _=>cases hu
theorem const_int {K:PySem.W.Frag} {h:Heap} {mg:Str→Option Value} {x:Str} {i:Int} {u:Value} (X:K.In h) (G:h.Ns mainGlobals mg) (e:PySem.W.nsIn K mainGlobals x=some (some u)) (hu:DD i u=true):∃t,mg x=some (.int i t):=by
 cases u with
 | int y t =>
  have:y=i:=by simpa [DD] using hu
  subst this
  exact ⟨t,PySem.W.mg_of X G e⟩
 | _=>cases hu
section
variable {X:Cx} {tg:Expr}
end
end Ov
namespace Ov
open PySem PySem.Spec PyProof.Rows
open L2 (V HO Hp Inv Cx VK XK TE TT TA TS TG o9 TI TO jv Ends uv Loc Gl Rd RelV Vals fh wb b7 o5 rK o7 jt R2 upd aA aF dC gJ Sp p5 It bD)
inductive PV where
 | non | bl (b:Bool) | int (i:Int) | str (x:Str) | ref (a:Addr) | ty (n:String) | tup (xs:List PV) | fl (xs:List PV)
inductive HQ where
 | lst (xs:List PV) | ins (C:Addr) (fs:List (Str × PV)) | dct (kvs:List (Str × PV)) (ep:Nat) | tab | dtp (hs:List Str→Int) (ks:List (List Str))
def Ph (hs:List Str→Int) (a:Addr) (xs:List (List Str × Addr × Value)) (h:Heap):Prop:=(a == sysModules)=false∧xs.length≤sizeLine∧(xs.map (·.1)).Nodup∧∃o es ep,h.get? a=some o∧o.ExactDict∧o.data=.dict es ep∧es.toList=xs.map λx=>(⟨hs x.1,.ref x.2.1,x.2.2⟩:DictEntry)
abbrev Hq:=Addr→Option HQ
def put (J:Hq) (a:Addr) (o:HQ):Hq:=λb=>if b=a then some o else J b
theorem aq {J:Hq} {a:Addr} {o:HQ}:put J a o a=some o:=by unfold put;rw [if_pos rfl]
theorem ak {J:Hq} {a b:Addr} {o:HQ} (h:b≠a):put J a o b=J b:=by unfold put;rw [if_neg h]
theorem bW {J:Hq} {a:Addr} {o u:HQ}:put (put J a o) a u=put J a u:=by
 funext b;unfold put;split <;> rfl
theorem ED {J:Hq} {a b:Addr} {o u:HQ} (h:a≠b):put (put J a o) b u=put (put J b u) a o:=by
 funext c;unfold put
 by_cases h1:c=b <;> by_cases h2:c=a <;> simp [h1,h2]
 ·exact absurd (h2.symm.trans h1) h
 ·intro z;exact absurd z.symm h
 ·intro z;exact absurd z h
theorem yZ {J:Hq} {a:Addr} {o:HQ} (h:J a=some o):put J a o=J:=by
 funext b;unfold put
 by_cases e:b=a
 ·subst e;rw [if_pos rfl,h]
 ·rw [if_neg e]
def CH (K:PySem.W.Frag) (J:Hq) (H:Hp) (a:Addr) (vs:List V):Prop:=(J a=none∧Rd H a (.lst vs))∨∃(o:Obj) (its:Array Value) (n:Nat),K.lookup a=some o∧o.cls=.type "list"∧o.dict=none∧o.data=.seq its n∧its.size≤sizeLine∧Vals vs its.toList
theorem CH.sq {K:PySem.W.Frag} {J:Hq} {H:Hp} {a:Addr} {vs:List V} (h:CH K J H a vs):dC K H a vs:=by
 rcases h with h | h
 ·exact .inl h.2
 ·exact .inr h
section
variable (K:PySem.W.Frag)
mutual
def cy (J:Hq) (H:Hp):PV→V→Prop
 | .non,v=>v=.non
 | .bl b,v=>v=.bl b
 | .int i,v=>v=.int i
 | .str x,v=>v=.str x
 | .ref a,v=>v=.ref a
 | .ty n,v=>v=.ty n
 | .tup xs,v=>∃a vs,v=.ref a∧gJ K H a vs∧aT J H xs vs
 | .fl xs,v=>∃a vs,v=.ref a∧CH K J H a vs∧aT J H xs vs
def aT (J:Hq) (H:Hp):List PV→List V→Prop
 | [],vs=>vs=[]
 | x :: xs,vs=>∃v us,vs=v :: us∧cy J H x v∧aT J H xs us
end
def lJ {κ:Type} (J:Hq) (H:Hp) (fs:List (κ × PV)) (gs:List (κ × V)):Prop:=fs.map (·.1)=gs.map (·.1)∧aT K J H (fs.map (·.2)) (gs.map (·.2))
def CU (J:Hq) (H:Hp) (a:Addr):HQ→Prop
 | .lst xs=>∃vs,H a=some (.lst vs)∧aT K J H xs vs
 | .ins C fs=>∃dx gs,H a=some (.ins C dx gs)∧lJ K J H fs gs
 | .dct kvs ep=>∃gs,H a=some (.dE gs ep)∧lJ K J H kvs gs
 | .tab=>H a=some (.ext (eE a))
 | .dtp hs ks=>∃xs:List (List Str × Addr × Value),xs.map (·.1)=ks∧H a=some (.ext (Ph hs a xs))∧∀x∈xs,gJ K H x.2.1 (x.1.map V.str)
def Rep (J:Hq) (H:Hp):Prop:=∀a o,J a=some o→CU K J H a o
structure Ext (J:Hq) (H:Hp) (J':Hq) (H':Hp):Prop where
 tup:∀a vs,gJ K H a vs→gJ K H' a vs
 ll:∀a o,J a=none→H a=some o→((∃vs,o=.lst vs)∨∃ob vs,o=.pd ob (.lst vs))→J' a=none∧H' a=some o
end
section
variable {K:PySem.W.Frag} {J J' J'':Hq} {H H' H'':Hp}
theorem Ext.fl (e:Ext K J H J' H') (a:Addr) (vs:List V) (n:J a=none) (h:Rd H a (.lst vs)):J' a=none∧Rd H' a (.lst vs):=by
 rcases h with h | ⟨o,h⟩
 ·obtain ⟨a,b⟩:=e.ll a _ n h (.inl ⟨_,rfl⟩);exact ⟨a,.inl b⟩
 ·obtain ⟨a,b⟩:=e.ll a _ n h (.inr ⟨_,_,rfl⟩);exact ⟨a,.inr ⟨o,b⟩⟩
theorem Ext.flat (e:Ext K J H J' H') {a:Addr} {vs:List V} (h:CH K J H a vs):CH K J' H' a vs:=by
 rcases h with h | h
 ·exact .inl (e.fl a vs h.1 h.2)
 ·exact .inr h
mutual
theorem Ext.rep (e:Ext K J H J' H'):∀{x:PV} {v:V},cy K J H x v→cy K J' H' x v
 | .non,_,h=>h
 | .bl _,_,h=>h
 | .int _,_,h=>h
 | .str _,_,h=>h
 | .ref _,_,h=>h
 | .ty _,_,h=>h
 | .tup xs,_,⟨a,vs,e1,h,k⟩=>⟨a,vs,e1,e.tup _ _ h,Ext.jy e k⟩
 | .fl xs,_,⟨a,vs,e1,h,k⟩=>⟨a,vs,e1,e.flat h,Ext.jy e k⟩
theorem Ext.jy (e:Ext K J H J' H'):∀{xs:List PV} {vs:List V},aT K J H xs vs→aT K J' H' xs vs
 | [],_,h=>h
 | _ :: _,_,⟨v,us,e1,h,k⟩=>⟨v,us,e1,Ext.rep e h,Ext.jy e k⟩
end
theorem Ext.refl:Ext K J H J H:=⟨λ_ _ h=>h,λ_ _ n h _=>⟨n,h⟩⟩
theorem Ext.trans (a:Ext K J H J' H') (b:Ext K J' H' J'' H''):Ext K J H J'' H'' :=
 ⟨λc vs h=>b.tup c vs (a.tup c vs h),λc o n h z=>b.ll c o (a.ll c o n h z).1 (a.ll c o n h z).2 z⟩
theorem Ext.xq {κ:Type} (e:Ext K J H J' H') {fs:List (κ × PV)} {gs:List (κ × V)} (h:lJ K J H fs gs):lJ K J' H' fs gs:=⟨h.1,e.jy h.2⟩
theorem Ext.same (s:bD H H'):Ext K J H J H':=⟨λa vs h=>s.tup h,λa o n h _=>⟨n,s _ _ h⟩⟩
theorem CU.same (s:bD H H') {a:Addr} {o:HQ} (h:CU K J H a o):CU K J H' a o:=by
 have e:=Ext.same (K:=K) (J:=J) s
 cases o with
 | lst xs=>obtain ⟨vs,h1,h2⟩:=h;exact ⟨vs,s _ _ h1,e.jy h2⟩
 | ins C fs=>obtain ⟨dx,gs,h1,h2⟩:=h;exact ⟨dx,gs,s _ _ h1,e.xq h2⟩
 | dct kvs ep=>obtain ⟨gs,h1,h2⟩:=h;exact ⟨gs,s _ _ h1,e.xq h2⟩
 | tab=>exact s _ _ (show H a=some (.ext (eE a)) from h)
 | dtp hs ks=>obtain ⟨xs,h0,h1,h2⟩:=h;exact ⟨xs,h0,s _ _ h1,λx hx=>s.tup (h2 x hx)⟩
theorem Rep.same (s:bD H H') (h:Rep K J H):Rep K J H':=λa o q=>(h a o q).same s
theorem Ext.less (h:∀a,J' a=J a∨J' a=none):Ext K J H J' H:=⟨λ_ _ h=>h,λa o n z _=>⟨(h a).elim (λe=>e.trans n) (λe=>e),z⟩⟩
theorem Rep.less (h:∀a,J' a=J a∨J' a=none) (r:Rep K J H):Rep K J' H:=λa o q=>by
 have e:J a=some o:=by
  rcases h a with e | e
  ·rw [← e];exact q
  ·rw [e] at q;cases q
 have x:=Ext.less (K:=K) (H:=H) h
 have z:=r a o e
 cases o with
 | lst xs=>obtain ⟨vs,h1,h2⟩:=z;exact ⟨vs,h1,x.jy h2⟩
 | ins C fs=>obtain ⟨dx,gs,h1,h2⟩:=z;exact ⟨dx,gs,h1,x.xq h2⟩
 | dct kvs ep=>obtain ⟨gs,h1,h2⟩:=z;exact ⟨gs,h1,x.xq h2⟩
 | tab=>exact z
 | dtp hs ks=>exact z
theorem aT.length:∀{xs:List PV} {vs:List V},aT K J H xs vs→xs.length=vs.length
 | [],_,h=>by cases h;rfl
 | _ :: xs,_,⟨v,us,e1,_,k⟩=>by subst e1;simp [aT.length k]
theorem aT.get:∀{xs:List PV} {vs:List V} {i:Nat} {x:PV},aT K J H xs vs→xs[i]?=some x→∃v,vs[i]?=some v∧cy K J H x v
 | [],_,i,x,h,e=>by simp at e
 | y :: xs,_,0,x,⟨v,us,e1,h,k⟩,e=>by subst e1;simp at e;subst e;exact ⟨v,rfl,h⟩
 | y :: xs,_,i + 1,x,⟨v,us,e1,h,k⟩,e=>by
  subst e1
  obtain ⟨w,h1,h2⟩:=aT.get (i:=i) (x:=x) k (by simpa using e)
  exact ⟨w,by simpa using h1,h2⟩
theorem aT.get':∀{xs:List PV} {vs:List V} {i:Nat} {v:V},aT K J H xs vs→vs[i]?=some v→∃x,xs[i]?=some x∧cy K J H x v
 | [],_,i,x,h,e=>by cases h;simp at e
 | y :: xs,_,0,x,⟨v,us,e1,h,k⟩,e=>by subst e1;simp at e;subst e;exact ⟨y,rfl,h⟩
 | y :: xs,_,i + 1,x,⟨v,us,e1,h,k⟩,e=>by
  subst e1
  obtain ⟨w,h1,h2⟩:=aT.get' (i:=i) (v:=x) k (by simpa using e)
  exact ⟨w,by simpa using h1,h2⟩
theorem aT.append:∀{xs ys:List PV} {vs us:List V},aT K J H xs vs→aT K J H ys us→aT K J H (xs ++ ys) (vs ++ us)
 | [],_,_,_,h,k=>by cases h;exact k
 | x :: xs,ys,_,us,⟨v,ws,e1,h,h'⟩,k=>by subst e1;exact ⟨v,ws ++ us,rfl,h,aT.append h' k⟩
theorem aT.drop:∀(n:Nat) {xs:List PV} {vs:List V},aT K J H xs vs→aT K J H (xs.drop n) (vs.drop n)
 | 0,_,_,h=>h
 | n + 1,[],_,h=>by cases h;rfl
 | n + 1,x :: xs,_,⟨v,ws,e1,h,h'⟩=>by subst e1;exact aT.drop n h'
theorem aT.take:∀(n:Nat) {xs:List PV} {vs:List V},aT K J H xs vs→aT K J H (xs.take n) (vs.take n)
 | 0,_,_,h=>rfl
 | n + 1,[],_,h=>by cases h;rfl
 | n + 1,x :: xs,_,⟨v,ws,e1,h,h'⟩=>by subst e1;exact ⟨v,_,rfl,h,aT.take n h'⟩
theorem lJ.look {κ:Type} [BEq κ] [LawfulBEq κ] {f:κ}:∀{fs:List (κ × PV)} {gs:List (κ × V)} {x:PV},lJ K J H fs gs→fs.lookup f=some x→∃v,gs.lookup f=some v∧cy K J H x v
 | [],_,_,_,e=>by cases e
 | (k,y) :: fs,[],x,h,e=>by cases h.1
 | (k,y) :: fs,(k',w) :: gs,x,h,e=>by
  obtain ⟨h1,v,us,h2,h3,h4⟩:=h
  simp only [Sm,List.cons.injEq] at h1 h2
  obtain ⟨rfl,h1⟩:=h1
  obtain ⟨rfl,rfl⟩:=h2
  rw [S1] at e ⊢
  cases hk:f == k with
  | true=>rw [hk] at e;cases e;exact ⟨w,rfl,h3⟩
  | false=>rw [hk] at e;exact lJ.look ⟨h1,h4⟩ e
theorem lJ.none {κ:Type} [BEq κ] [LawfulBEq κ] {f:κ}:∀{fs:List (κ × PV)} {gs:List (κ × V)},lJ K J H fs gs→fs.lookup f=none→gs.lookup f=none
 | [],[],_,_=>rfl
 | [],_ :: _,h,e=>by cases h.1
 | (k,y) :: fs,[],h,e=>by cases h.1
 | (k,y) :: fs,(k',w) :: gs,h,e=>by
  obtain ⟨h1,v,us,h2,h3,h4⟩:=h
  simp only [Sm,List.cons.injEq] at h1 h2
  obtain ⟨rfl,h1⟩:=h1
  obtain ⟨rfl,rfl⟩:=h2
  rw [S1] at e ⊢
  cases hk:f == k with
  | true=>rw [hk] at e;cases e
  | false=>rw [hk] at e;exact lJ.none ⟨h1,h4⟩ e
end
section
variable {K:PySem.W.Frag} {J J':Hq} {H H':Hp} {p:Addr}
theorem GW {a p:Addr} {o:HQ} (r:Rep K J H) (h:J a=some o) (n:H p=none):a≠p:=by
 intro e;subst e
 have:=r _ _ h
 cases o with
 | lst xs=>obtain ⟨vs,h1,_⟩:=this;rw [n] at h1;cases h1
 | ins C fs=>obtain ⟨dx,gs,h1,_⟩:=this;rw [n] at h1;cases h1
 | dct kvs ep=>obtain ⟨gs,h1,_⟩:=this;rw [n] at h1;cases h1
 | tab=>have h1:H a=some (.ext (eE a)):=this;rw [n] at h1;cases h1
 | dtp hs ks=>obtain ⟨xs,_,h1,_⟩:=this;rw [n] at h1;cases h1
theorem Rep.free (r:Rep K J H) (n:H p=none):J p=none:=by
 cases e:J p with
 | none=>rfl
 | some o=>exact absurd rfl (GW r e n)
theorem Ext.laid {o:HO} {u:HQ} (n:H p=none):Ext K J H (put J p u) (upd H p o):=by
 refine ⟨λa vs h=>(bD.new n o).tup h,λa o' z h _=>⟨?_,bD.new n o _ _ h⟩⟩
 have ne:a≠p:=by intro e;subst e;rw [n] at h;cases h
 rw [ak ne];exact z
theorem Rep.Cq {J':Hq} {H':Hp} (e:Ext K J H J' H') (r:Rep K J H) (p:Addr) (q:∀a,a≠p→J' a=J a) (s:∀a o,a≠p→J a≠none→H a=some o→H' a=some o) (h:∀u,J' p=some u→CU K J' H' p u):Rep K J' H':=λa o z=>by
 by_cases ep:a=p
 ·subst ep;exact h o z
 ·rw [q a ep] at z
  have t:=r a o z
  have jn:J a≠none:=by rw [z];exact λy=>nomatch y
  cases o with
  | lst xs=>obtain ⟨vs,h1,h2⟩:=t;exact ⟨vs,s _ _ ep jn h1,e.jy h2⟩
  | ins C fs=>obtain ⟨dx,gs,h1,h2⟩:=t;exact ⟨dx,gs,s _ _ ep jn h1,e.xq h2⟩
  | dct kvs eq=>obtain ⟨gs,h1,h2⟩:=t;exact ⟨gs,s _ _ ep jn h1,e.xq h2⟩
  | tab=>exact s _ _ ep jn (show H a=some (.ext (eE a)) from t)
  | dtp hs ks=>obtain ⟨xs,h0,h1,h2⟩:=t;exact ⟨xs,h0,s _ _ ep jn h1,λx hx=>e.tup _ _ (h2 x hx)⟩
theorem Rep.DJ {xs:List PV} {vs:List V} (r:Rep K J H) (n:H p=none) (h:aT K J H xs vs):Rep K (put J p (.lst xs)) (upd H p (.lst vs)):=by
 have e:=Ext.laid (K:=K) (J:=J) (o:=.lst vs) (u:=.lst xs) n
 refine r.Cq e p (λa ne=>ak ne) (λa o ne _ z=>by rw [aF ne];exact z) λu z=>?_
 rw [aq] at z;cases z
 exact ⟨vs,aA,e.jy h⟩
theorem Ext.wrote {xs ys:List PV} {ws vs:List V} (h:J p=some (.lst xs)) (k:H p=some (.lst ws)):Ext K J H (put J p (.lst ys)) (upd H p (.lst vs)):=by
 have sm:∀a u,(∀l,u≠HO.lst l)∨a≠p→Rd H a u→Rd (upd H p (.lst vs)) a u:=λa u d z=>by
  have ne:a≠p:=by
   rcases d with d | d
   ·intro e;subst e
    rcases z with z | ⟨o,z⟩
    ·rw [k] at z;cases z;exact d _ rfl
    ·rw [k] at z;cases z
   ·exact d
  rcases z with z | ⟨o,z⟩
  ·exact .inl (by rw [aF ne];exact z)
  ·exact .inr ⟨o,by rw [aF ne];exact z⟩
 refine ⟨λa vs' z=>?_,λa o z q _=>?_⟩
 ·rcases z with z | z
  ·exact .inl (sm a _ (.inl λl e=>nomatch e) z)
  ·exact .inr z
 ·have ne:a≠p:=by intro e;subst e;rw [h] at z;cases z
  exact ⟨by rw [ak ne];exact z,by rw [aF ne];exact q⟩
theorem Rep.wrote {xs ys:List PV} {ws vs:List V} (r:Rep K J H) (h:J p=some (.lst xs)) (k:H p=some (.lst ws)) (q:aT K J H ys vs):Rep K (put J p (.lst ys)) (upd H p (.lst vs)):=by
 have e:=Ext.wrote (K:=K) (ys:=ys) (vs:=vs) h k
 refine r.Cq e p (λa ne=>ak ne) (λa o ne _ z=>by rw [aF ne];exact z) λu z=>?_
 rw [aq] at z;cases z
 exact ⟨vs,aA,e.jy q⟩
end
abbrev Sr:=List (Option PV)
abbrev dt:=Sr→Hq→(PV→Hq→Prop)→Prop
abbrev kT:=Sr→Hq→(Bool→Hq→Prop)→Prop
abbrev pB:=Sr→Hq→(List PV→Hq→Prop)→Prop
structure En where
 nx:Sr→Hq→Prop
 rt:PV→Hq→Prop
 bk:Sr→Hq→Prop:=λ_ _=>False
 ct:Sr→Hq→Prop:=λ_ _=>False
abbrev iG:=En→Sr→Hq→Prop
structure lK (K:PySem.W.Frag) (J:Hq) (H:Hp) (τ:Sr) (σ:L2.St):Prop where
 len:τ.length=σ.length
 get:∀(i:Nat) (x:PV),τ[i]?=some (some x)→∃v,σ[i]?=some (some v)∧cy K J H x v
theorem lK.ext {K:PySem.W.Frag} {J J':Hq} {H H':Hp} {τ:Sr} {σ:L2.St} (r:lK K J H τ σ) (e:Ext K J H J' H'):lK K J' H' τ σ :=
 ⟨r.len,λi x h=>let ⟨v,a,b⟩:=r.get i x h;⟨v,a,e.rep b⟩⟩
theorem lK.set {K:PySem.W.Frag} {J:Hq} {H:Hp} {τ:Sr} {σ:L2.St} (r:lK K J H τ σ) {x:PV} {v:V} (i:Nat) (h:cy K J H x v):lK K J H (τ.set i (some x)) (σ.set i (some v)):=by
 refine ⟨by rw [TY,TY,r.len],λj y e=>?_⟩
 by_cases hj:i=j
 ·subst hj
  by_cases hl:i < τ.length
  ·rw [SQ hl] at e
   cases e
   exact ⟨v,SQ (by rw [← r.len];exact hl),h⟩
  ·rw [S5 (by rw [TY];omega)] at e
   cases e
 ·rw [S7 hj] at e ⊢
  exact r.get j y e
abbrev G2:=Hq × Hp
structure wa (K:PySem.W.Frag) (G:G2) (τ:Sr) (J:Hq) (σ:L2.St) (H:Hp):Prop where
 sl:lK K J H τ σ
 hp:Rep K J H
 ext:Ext K G.1 G.2 J H
section
variable (K:PySem.W.Frag) (G:G2)
def LE (t:dt):TE:=λσ H Q=>∃τ J Q2,wa K G τ J σ H∧t τ J Q2∧∀x J' v H',cy K J' H' x v→Rep K J' H'→Ext K J H J' H'→Q2 x J'→Q v H'
def LT (t:kT):TT:=λσ H Q=>∃τ J Q2,wa K G τ J σ H∧t τ J Q2∧∀b J' H',Rep K J' H'→Ext K J H J' H'→Q2 b J'→Q b H'
def LA (t:pB):TA:=λσ H Q=>∃τ J Q2,wa K G τ J σ H∧t τ J Q2∧∀xs J' vs H',aT K J' H' xs vs→Rep K J' H'→Ext K J H J' H'→Q2 xs J'→Q vs H'
structure Goes (J:Hq) (H:Hp) (D2:En) (D:Ends):Prop where
 nx:∀τ J' σ H',lK K J' H' τ σ→Rep K J' H'→Ext K J H J' H'→D2.nx τ J'→D.nx σ H'
 rt:∀x J' v H',cy K J' H' x v→Rep K J' H'→Ext K J H J' H'→D2.rt x J'→D.rt v H'
 bk:∀τ J' σ H',lK K J' H' τ σ→Rep K J' H'→Ext K J H J' H'→D2.bk τ J'→D.bk σ H'
 ct:∀τ J' σ H',lK K J' H' τ σ→Rep K J' H'→Ext K J H J' H'→D2.ct τ J'→D.ct σ H'
def LS (t:iG):TS:=λD σ H=>∃τ J D2,wa K G τ J σ H∧t D2 τ J∧Goes K J H D2 D
end
theorem Goes.ext {K:PySem.W.Frag} {J J':Hq} {H H':Hp} {D2:En} {D:Ends} (g:Goes K J H D2 D) (e:Ext K J H J' H'):Goes K J' H' D2 D :=
 ⟨λτ J1 σ H1 a b c=>g.nx τ J1 σ H1 a b (e.trans c),λx J1 v H1 a b c=>g.rt x J1 v H1 a b (e.trans c),λτ J1 σ H1 a b c=>g.bk τ J1 σ H1 a b (e.trans c),λτ J1 σ H1 a b c=>g.ct τ J1 σ H1 a b (e.trans c)⟩
theorem wa.go {K:PySem.W.Frag} {G:G2} {τ:Sr} {J J':Hq} {σ:L2.St} {H H':Hp} (a:wa K G τ J σ H) (r:Rep K J' H') (e:Ext K J H J' H'):wa K G τ J' σ H':=⟨a.sl.ext e,r,a.ext.trans e⟩
structure RE (X:Cx) (G:G2) (e:Expr) (t:dt):Prop where
 run:L2.PE X e (LE X.K G t)
structure RT (X:Cx) (G:G2) (e:Expr) (t:kT):Prop where
 run:L2.PT X e (LT X.K G t)
structure RW (X:Cx) (G:G2) (e:Expr) (t:kT):Prop where
 run:L2.PW X e (LT X.K G t)
structure RA (X:Cx) (G:G2) (es:List Expr) (t:pB):Prop where
 run:L2.PA X es (LA X.K G t)
structure RS (X:Cx) (G:G2) (st:Stmt) (t:iG):Prop where
 run:L2.PS X st (LS X.K G t)
structure RB (X:Cx) (G:G2) (st:List Stmt) (t:iG):Prop where
 run:L2.rJ X st (LS X.K G t)
theorem kY {X:Cx} {e:Expr} {t t':TE} (h:L2.PE X e t) (k:∀σ H Q,t' σ H Q→t σ H Q):L2.PE X e t':=λpins s σ H Q I q=>h pins s σ H Q I (k _ _ _ q)
theorem O8 {X:Cx} {e:Expr} {t t':TT} (h:L2.PT X e t) (k:∀σ H Q,t' σ H Q→t σ H Q):L2.PT X e t':=λpins s σ H Q I q=>h pins s σ H Q I (k _ _ _ q)
theorem Rz {X:Cx} {e:Expr} {t t':TT} (h:L2.PW X e t) (k:∀σ H Q,t' σ H Q→t σ H Q):L2.PW X e t':=λwh pins s σ H Q I q=>h wh pins s σ H Q I (k _ _ _ q)
theorem Qk {X:Cx} {e:List Expr} {t t':TA} (h:L2.PA X e t) (k:∀σ H Q,t' σ H Q→t σ H Q):L2.PA X e t':=λpos pins s σ H Q I q=>h pos pins s σ H Q I (k _ _ _ q)
theorem xh {X:Cx} {e:Stmt} {t t':TS} (h:L2.PS X e t) (k:∀D σ H,t' D σ H→t D σ H):L2.PS X e t':=λpins s σ H D I q=>h pins s σ H D I (k _ _ _ q)
theorem Ql {X:Cx} {e:List Stmt} {t t':TS} (h:L2.rJ X e t) (k:∀D σ H,t' D σ H→t D σ H):L2.rJ X e t':=λpins s σ H D I q=>h pins s σ H D I (k _ _ _ q)
end Ov
namespace Ov
open PySem PySem.Spec PyProof.Rows
open L2 (V HO Hp Inv Cx VK XK TE TT TA TS TG o9 TI TO jv Ends uv Loc Gl Rd RelV Vals fh wb b7 o5 rK o7 jt R2 upd aA aF dC gJ Sp p5 It bD cV bS Passes oP aI Meth Mk Binds aQ cE aw di fT)
def gI {α:Sort _} (_:α):Type:=Unit
def dp {α:Sort _} {k:α}:gI k:=()
def w8 {α:Type} (o:Option α) (k:α→Prop) (_:gI k:=dp):Prop:=match o with | some x=>k x | none=>False
def Mq (o:Option (Option PV)) (k:PV→Prop) (_:gI k:=dp):Prop:=match o with | some (some x)=>k x | _=>False
def Cv (x:PV) (k:Int→Prop) (_:gI k:=dp):Prop:=match x with | .int i=>k i | _=>False
def IW (x:PV) (k:Bool→Prop) (_:gI k:=dp):Prop:=match x with | .bl i=>k i | _=>False
def IY (x:PV) (k:Str→Prop) (_:gI k:=dp):Prop:=match x with | .str i=>k i | _=>False
def B3 (x:PV) (k:Addr→Prop) (_:gI k:=dp):Prop:=match x with | .ref a=>k a | _=>False
def Mt (x:PV) (k:List PV→Prop) (_:gI k:=dp):Prop:=match x with | .tup a=>k a | _=>False
def B2 (xs:List PV) (k:PV→Prop) (_:gI k:=dp):Prop:=match xs with | [x]=>k x | _=>False
def Mr (o:Option HQ) (k:List PV→Prop) (_:gI k:=dp):Prop:=match o with | some (.lst xs)=>k xs | _=>False
def FI (o:Option HQ) (k:List (Str × PV)→Nat→Prop) (_:gI k:=dp):Prop:=match o with | some (.dct xs e)=>k xs e | _=>False
def K5 (C:Addr) (o:Option HQ) (k:List (Str × PV)→Prop) (_:gI k:=dp):Prop:=match o with | some (.ins C' fs)=>if C'=C then k fs else False | _=>False
def Qi (xs:List PV) (k:Prop) (_:gI k:=dp):Prop:=match xs with | []=>k | _=>False
def K6 (xs:List PV) (k:PV→List PV→Prop) (_:gI k:=dp):Prop:=match xs with | x :: r=>k x r | []=>False
def Ms (xs:List PV) (k:PV→PV→Prop) (_:gI k:=dp):Prop:=match xs with | [x,y]=>k x y | _=>False
theorem NI {k:Prop} {d:gI k}:Qi [] k d=k:=rfl
theorem K7 {x:PV} {r:List PV} {k:PV→List PV→Prop} {d:gI k}:K6 (x :: r) k d=k x r:=rfl
theorem NJ {x y:PV} {k:PV→PV→Prop} {d:gI k}:Ms [x,y] k d=k x y:=rfl
theorem K9 {xs:List PV} {k:Prop} {d:gI k} (h:Qi xs k d):xs=[]∧k:=by cases xs with | nil=>exact ⟨rfl,h⟩ | cons x r=>exact h.elim
theorem G5 {xs:List PV} {k:PV→List PV→Prop} {d:gI k} (h:K6 xs k d):∃x r,xs=x :: r∧k x r:=by cases xs with | nil=>exact h.elim | cons x r=>exact ⟨_,_,rfl,h⟩
theorem D_ {xs:List PV} {k:PV→PV→Prop} {d:gI k} (h:Ms xs k d):∃x y,xs=[x,y]∧k x y:=by
 unfold Ms at h
 split at h
 ·exact ⟨_,_,rfl,h⟩
 ·exact h.elim
theorem NL {α:Type} {x:α} {k:α→Prop} {d:gI k}:w8 (some x) k d=k x:=rfl
theorem NC {x:PV} {k:PV→Prop} {d:gI k}:Mq (some (some x)) k d=k x:=rfl
theorem NG {x:Int} {k:Int→Prop} {d:gI k}:Cv (.int x) k d=k x:=rfl
theorem ND {x:Bool} {k:Bool→Prop} {d:gI k}:IW (.bl x) k d=k x:=rfl
theorem NM {x:Str} {k:Str→Prop} {d:gI k}:IY (.str x) k d=k x:=rfl
theorem NK {x:Addr} {k:Addr→Prop} {d:gI k}:B3 (.ref x) k d=k x:=rfl
theorem NN {x:List PV} {k:List PV→Prop} {d:gI k}:Mt (.tup x) k d=k x:=rfl
theorem NB {x:PV} {k:PV→Prop} {d:gI k}:B2 [x] k d=k x:=rfl
theorem NH {x:List PV} {k:List PV→Prop} {d:gI k}:Mr (some (.lst x)) k d=k x:=rfl
theorem NF {x:List (Str × PV)} {e:Nat} {k:List (Str × PV)→Nat→Prop} {d:gI k}:FI (some (.dct x e)) k d=k x e:=rfl
theorem IX {C:Addr} {x:List (Str × PV)} {k:List (Str × PV)→Prop} {d:gI k}:K5 C (some (.ins C x)) k d=k x:=if_pos rfl
theorem fL {α:Type} {o:Option α} {k:α→Prop} {d:gI k} (h:w8 o k d):∃x,o=some x∧k x:=by cases o with | none=>exact h.elim | some x=>exact ⟨x,rfl,h⟩
theorem jT {α:Type} {o:Option α} {x:α} {k:α→Prop} (e:o=some x) (h:k x):w8 o k:=by rw [e];exact h
theorem D9 {o:Option (Option PV)} {k:PV→Prop} {d:gI k} (h:Mq o k d):∃x,o=some (some x)∧k x:=by
 unfold Mq at h
 split at h
 ·exact ⟨_,rfl,h⟩
 ·exact h.elim
theorem K4 {o:Option (Option PV)} {x:PV} {k:PV→Prop} (e:o=some (some x)) (h:k x):Mq o k:=by rw [e];exact h
theorem gY {x:PV} {k:Int→Prop} {d:gI k} (h:Cv x k d):∃i,x=.int i∧k i:=by cases x <;> first | exact ⟨_,rfl,h⟩ | exact False.elim h
theorem qC {x:PV} {k:Bool→Prop} {d:gI k} (h:IW x k d):∃i,x=.bl i∧k i:=by cases x <;> first | exact ⟨_,rfl,h⟩ | exact False.elim h
theorem oa {x:PV} {k:Str→Prop} {d:gI k} (h:IY x k d):∃i,x=.str i∧k i:=by cases x <;> first | exact ⟨_,rfl,h⟩ | exact False.elim h
theorem gZ {x:PV} {k:Addr→Prop} {d:gI k} (h:B3 x k d):∃i,x=.ref i∧k i:=by cases x <;> first | exact ⟨_,rfl,h⟩ | exact False.elim h
theorem D' {x:PV} {k:List PV→Prop} {d:gI k} (h:Mt x k d):∃i,x=.tup i∧k i:=by cases x <;> first | exact ⟨_,rfl,h⟩ | exact False.elim h
theorem jS {xs:List PV} {k:PV→Prop} {d:gI k} (h:B2 xs k d):∃x,xs=[x]∧k x:=by
 unfold B2 at h
 split at h
 ·exact ⟨_,rfl,h⟩
 ·exact h.elim
theorem K8 {o:Option HQ} {k:List PV→Prop} {d:gI k} (h:Mr o k d):∃x,o=some (.lst x)∧k x:=by
 unfold Mr at h
 split at h
 ·exact ⟨_,rfl,h⟩
 ·exact h.elim
theorem n_ {o:Option HQ} {k:List (Str × PV)→Nat→Prop} {d:gI k} (h:FI o k d):∃x e,o=some (.dct x e)∧k x e:=by
 unfold FI at h
 split at h
 ·exact ⟨_,_,rfl,h⟩
 ·exact h.elim
theorem yL {C:Addr} {o:Option HQ} {k:List (Str × PV)→Prop} {d:gI k} (h:K5 C o k d):∃x,o=some (.ins C x)∧k x:=by
 unfold K5 at h
 split at h
 ·split at h
  ·rename_i e;subst e;exact ⟨_,rfl,h⟩
  ·exact h.elim
 ·exact h.elim
theorem yM {x:PV} {xs:List PV} {k:List PV→Prop} (e:x=.tup xs) (h:k xs):Mt x k:=by rw [e];exact h
theorem yK {x:PV} {b:Bool} {k:Bool→Prop} (e:x=.bl b) (h:k b):IW x k:=by rw [e];exact h
theorem lU {C:Addr} {o:Option HQ} {x:List (Str × PV)} {k:List (Str × PV)→Prop} (e:o=some (.ins C x)) (h:k x):K5 C o k:=by rw [e,IX];exact h
section
variable {X:Cx} {G:G2} {a b c e o:Expr} {es rest:List Expr} {ta tb te tc to:dt} {tA tB':kT} {t:pB} {pos px p p2 apos cpos:Pos} {x:Str} {i j:Nat}
def qN (i:Nat):dt:=λτ J Q=>Mq τ[i]? λx=>Q x J
theorem rv (i:Nat) {x:Str} {pos:Pos} (hN:X.N[i]?=some x:=by rfl) (hv:uv X.env.scope x:=by first | exact Or.inl rfl | exact Or.inr (Or.inl rfl) | exact Or.inr (Or.inr rfl)) (hd:(x == ("__debug__":Str))=false:=by decide)
  (hcd:(x == ("__classdict__":Str))=false:=by decide):RE X G (.Name x pos) (qN i) :=
 ⟨kY (L2.yS hN hv hd hcd) λσ H Q ⟨τ,J,Q2,a2,hq,k⟩=>let ⟨y,ey,q⟩:=D9 hq;let ⟨v,e1,r⟩:=a2.sl.get i y ey;⟨v,e1,k y J v H r a2.hp .refl q⟩⟩
def rC (x:PV):dt:=λ_ J Q=>Q x J
theorem ag {i:Int} {j pos}:RE X G (.Constant (.int i) j pos) (rC (.int i)):=⟨kY L2.aP λσ H Q ⟨τ,J,Q2,a2,q,k⟩=>k (.int i) J _ H rfl a2.hp .refl q⟩
theorem qO {b:Bool} {j pos}:RE X G (.Constant (.bool b) j pos) (rC (.bl b)):=⟨kY L2.xb λσ H Q ⟨τ,J,Q2,a2,q,k⟩=>k (.bl b) J _ H rfl a2.hp .refl q⟩
theorem gy {j pos}:RE X G (.Constant .none j pos) (rC .non):=⟨kY L2.yQ λσ H Q ⟨τ,J,Q2,a2,q,k⟩=>k .non J _ H rfl a2.hp .refl q⟩
theorem bK {x:Str} {j pos}:RE X G (.Constant (.str x) j pos) (rC (.str x)):=⟨kY L2.oh λσ H Q ⟨τ,J,Q2,a2,q,k⟩=>k (.str x) J _ H rfl a2.hp .refl q⟩
theorem fB {v:V} {u:Value} (y:PV) (hg:Gl X x) (hm:X.mg x=some u) (r:RelV v u) (hr:∀J H,cy X.K J H y v) (hd:(x == ("__debug__":Str))=false:=by decide):RE X G (.Name x pos) (rC y) :=
 ⟨kY (L2.dm hg hm r hd) λσ H Q ⟨τ,J,Q2,a2,q,k⟩=>k y J v H (hr J H) a2.hp .refl q⟩
theorem Jt {n:String} (hg:Gl X x) (hm:X.mg x=none) (hv:bootBuiltins x=some (.type n)) (hn:x≠"__name__":=by decide) (hd:(x == ("__debug__":Str))=false:=by decide):RE X G (.Name x pos) (rC (.ty n)) :=
 ⟨kY (L2.pI (v:=.ty n) hg hm hv rfl hn hd) λσ H Q ⟨τ,J,Q2,a2,q,k⟩=>k (.ty n) J _ H rfl a2.hp .refl q⟩
abbrev mq:=PV→PV→Hq→(PV→Hq→Prop)→Prop
abbrev MF:=PV→Hq→(PV→Hq→Prop)→Prop
abbrev zr:=List PV→Hq→(PV→Hq→Prop)→Prop
def Kn (K:PySem.W.Frag) (J:Hq) (H:Hp) (Q2:PV→Hq→Prop) (Q:VK):Prop:=∀z J' u H',cy K J' H' z u→Rep K J' H'→Ext K J H J' H'→Q2 z J'→Q u H'
def LR (K:PySem.W.Frag) (r:R2) (q:mq):Prop:=∀J H x y v w Q2 Q,cy K J H x v→cy K J H y w→Rep K J H→q x y J Q2→Kn K J H Q2 Q→r v w H Q
def RV (K:PySem.W.Frag) (r:V→Hp→VK→Prop) (q:MF):Prop:=∀J H x v Q2 Q,cy K J H x v→Rep K J H→q x J Q2→Kn K J H Q2 Q→r v H Q
def Rf (K:PySem.W.Frag) (r:List V→Hp→VK→Prop) (q:zr):Prop:=∀J H xs vs Q2 Q,aT K J H xs vs→Rep K J H→q xs J Q2→Kn K J H Q2 Q→r vs H Q
def md (X:Cx) (f:Value→Value→Sem Value) (q:mq):Prop:=∃r,fh X f r∧LR X.K r q
def Ri (X:Cx) (f:Value→Sem Value) (q:MF):Prop:=∃r,wb X f r∧RV X.K r q
def Pj (X:Cx) (q:mq):Prop:=∃r,o5 X r∧LR X.K r q
def JK (X:Cx) (f:Value) (q:zr):Prop:=∃r,b7 X f r∧Rf X.K r q
def y2 (q:mq) (ta tb:dt):dt:=λτ J Q=>ta τ J λx J1=>tb τ J1 λy J2=>q x y J2 Q
def RN (q:MF) (ta:dt):dt:=λτ J Q=>ta τ J λx J1=>q x J1 Q
theorem pH {r:R2} {q:mq} (lr:LR X.K r q):∀σ H Q,LE X.K G (y2 q ta tb) σ H Q→L2.Fu r (LE X.K G ta) (LE X.K G tb) σ H Q:=λσ H Q ⟨τ,J,Q2,a2,h,k⟩ =>
 ⟨τ,J,_,a2,h,λx J1 v H1 rx r1 e1 q1=>⟨τ,J1,_,a2.go r1 e1,q1,λy J2 w H2 ry r2 e2 q2 =>
  lr J2 H2 x y v w Q2 Q (e2.rep rx) ry r2 q2 λz J' u H' rz rr ee qq=>k z J' u H' rz rr ((e1.trans e2).trans ee) qq⟩⟩
theorem aO {op:Operator} {q:mq} (ho:md X (binaryOp op) q) (ha:RE X G a ta) (hb:RE X G b tb):RE X G (.BinOp a op b pos) (y2 q ta tb):=by
 obtain ⟨r,h,lr⟩:=ho
 exact ⟨kY (L2.bA h ha.run hb.run) (pH lr)⟩
theorem lB {op:UnaryOp} {q:MF} (ho:Ri X (unaryOp op) q) (ha:RE X G a ta):RE X G (.UnaryOp op a pos) (RN q ta):=by
 obtain ⟨r,h,lr⟩:=ho
 exact ⟨kY (L2.Ad h ha.run) λσ H Q ⟨τ,J,Q2,a2,h,k⟩=>⟨τ,J,_,a2,h,λx J1 v H1 rx r1 e1 q1 =>
  lr J1 H1 x v Q2 Q rx r1 q1 λz J' u H' rz rr ee qq=>k z J' u H' rz rr (e1.trans ee) qq⟩⟩
theorem ar {q:mq} (hr:Pj X q) (ha:RE X G a ta) (hb:RE X G b tb) (hs:cV b:=by exact λ_ _=>rfl):RE X G (.Subscript a b pos) (y2 q ta tb):=by
 obtain ⟨r,h,lr⟩:=hr
 exact ⟨kY (L2.cm h ha.run hb.run hs) (pH lr)⟩
theorem fN {op:CmpOp} {q:mq} (ho:md X (compareOp op) q) (ha:RE X G a ta) (hb:RE X G b tb) (hm:behindInMarks op b=false:=by first | exact L2.fo _ | with_unfolding_all rfl):RE X G (.Compare a [op] [b] pos) (y2 q ta tb):=by
 obtain ⟨r,h,lr⟩:=ho
 exact ⟨kY (L2.pJ h ha.run hb.run hm) (pH lr)⟩
def rB (t:dt):kT:=λτ J Q=>t τ J λx J1=>IW x λk=>Q k J1
theorem aB {op:CmpOp} {q:mq} (ho:md X (compareOp op) q) (ha:RE X G a ta) (hb:RE X G b tb) (hm:behindInMarks op b=false:=by first | exact L2.fo _ | with_unfolding_all rfl):RT X G (.Compare a [op] [b] pos) (rB (y2 q ta tb)):=by
 obtain ⟨r,h,lr⟩:=ho
 refine ⟨O8 (L2.dH h ha.run hb.run hm) λσ H Q ⟨τ,J,Q2,a2,h,k⟩=>?_⟩
 refine pH lr σ H _ ⟨τ,J,_,a2,h,λz J' u H' rz rr ee qq=>?_⟩
 obtain ⟨b,rfl,q⟩:=qC qq
 exact ⟨b,rz,k b J' H' rr ee q⟩
theorem dh (h:RE X G e te) (he:∀whole,isTrue e X.env whole=(do let v ← whole;standAt e.pos;holding [v] (truthy v)):=by intro _;rfl):RT X G e (rB te) :=
 ⟨O8 (L2.yX h.run he) λσ H Q ⟨τ,J,Q2,a2,h,k⟩=>⟨τ,J,_,a2,h,λz J' u H' rz rr ee qq=>by obtain ⟨b,eb,q⟩:=qC qq;subst eb;exact ⟨b,rz,k b J' H' rr ee q⟩⟩⟩
def v9 (J:Hq):PV→Option Bool
 | .non=>some false
 | .bl b=>some b
 | .int i=>some (i != 0)
 | .tup xs=>some (!xs.isEmpty)
 | .fl xs=>some (!xs.isEmpty)
 | .ref a=>match J a with
  | some (.lst xs)=>some (!xs.isEmpty)
  | some (.dct kvs _)=>some (!kvs.isEmpty)
  | _=>none
 | _=>none
theorem gQ {α β:Type} {xs:List α} {ys:List β} (h:xs.length=ys.length):xs.isEmpty=ys.isEmpty:=by cases xs <;> cases ys <;> simp_all
theorem Ig {K:PySem.W.Frag} {J:Hq} {H:Hp} {x:PV} {v:V} {k:Bool} (r:cy K J H x v) (hp:Rep K J H) (h:v9 J x=some k):L2.Ka K v H k:=by
 cases x with
 | non=>cases r;cases h;rfl
 | bl b=>cases r;cases h;rfl
 | int i=>cases r;cases h;rfl
 | str s=>cases h
 | ty n=>cases h
 | tup xs=>obtain ⟨a,vs,rfl,h1,h2⟩:=r;cases h;exact .inr (.inl ⟨vs,h1,by rw [gQ h2.length]⟩)
 | fl xs=>obtain ⟨a,vs,rfl,h1,h2⟩:=r;cases h;exact .inl ⟨vs,h1.sq,by rw [gQ h2.length]⟩
 | ref a =>
  cases r
  unfold v9 at h
  dsimp only at h
  cases e:J a with
  | none=>rw [e] at h;cases h
  | some o =>
   rw [e] at h
   have z:=hp a o e
   cases o with
   | lst xs=>obtain ⟨vs,h1,h2⟩:=z;cases h;exact .inl ⟨vs,.inl (.inl h1),by rw [gQ h2.length]⟩
   | ins C fs=>cases h
   | tab=>cases h
   | dtp hs ks=>cases h
   | dct kvs ep =>
    obtain ⟨gs,h1,h2⟩:=z;cases h
    refine .inr (.inr ⟨gs,ep,h1,?_⟩)
    have:=congrArg TV h2.1
    simp only [Sg] at this
    rw [gQ this]
def Ot (te:dt):kT:=λτ J Q=>te τ J λx J1=>w8 (v9 J1 x) λk=>Q k J1
theorem LH (h:RE X G e te) (he:∀whole,isTrue e X.env whole=(do let v ← whole;standAt e.pos;holding [v] (truthy v)):=by intro _;rfl):RT X G e (Ot te) :=
 ⟨O8 (L2.Ex h.run he) λσ H Q ⟨τ,J,Q2,a2,h,k⟩=>⟨τ,J,_,a2,h,λz J' u H' rz rr ee qq=>let ⟨b,eb,q⟩:=fL qq;⟨b,Ig rz rr eb,k b J' H' rr ee q⟩⟩⟩
def Hx (t u:kT):kT:=λτ J Q=>t τ J λc J1=>if c=true then u τ J1 Q else Q false J1
def Qv (t u:kT):kT:=λτ J Q=>t τ J λc J1=>if c=true then Q true J1 else u τ J1 Q
def Og (t:kT):kT:=λτ J Q=>t τ J λc J1=>Q (!c) J1
theorem j6 (ha:RT X G a tA):RT X G (.UnaryOp .Not a pos) (Og tA):=⟨O8 (L2.yW ha.run) λσ H Q ⟨τ,J,Q2,a2,h,k⟩=>⟨τ,J,_,a2,h,λb J' H' rr ee q=>k _ J' H' rr ee q⟩⟩
theorem eV (ha:RT X G a tA):RW X G (.BoolOp .And [a] pos) tA:=⟨L2.pM ha.run⟩
theorem lW (ha:RT X G a tA):RW X G (.BoolOp .Or [a] pos) tA:=⟨L2.vp ha.run⟩
theorem C1 {σ:L2.St} {H:Hp} {Q:Bool→Hp→Prop}:LT X.K G (Hx tA tB') σ H Q→L2.Fp (LT X.K G tA) (LT X.K G tB') σ H Q:=λ⟨τ,J,Q2,a2,h,k⟩ =>
 ⟨τ,J,_,a2,h,λb J' H' rr ee q=>by
  cases b with
  | true=>simp only [if_true] at q ⊢;exact ⟨τ,J',Q2,a2.go rr ee,q,λb J2 H2 r2 e2 q2=>k b J2 H2 r2 (ee.trans e2) q2⟩
  | false=>simp only [SE,if_false] at q ⊢;exact k _ J' H' rr ee q⟩
theorem Hc {σ:L2.St} {H:Hp} {Q:Bool→Hp→Prop}:LT X.K G (Qv tA tB') σ H Q→L2.OI (LT X.K G tA) (LT X.K G tB') σ H Q:=λ⟨τ,J,Q2,a2,h,k⟩ =>
 ⟨τ,J,_,a2,h,λb J' H' rr ee q=>by
  cases b with
  | false=>simp only [SE,if_false] at q ⊢;exact ⟨τ,J',Q2,a2.go rr ee,q,λb J2 H2 r2 e2 q2=>k b J2 H2 r2 (ee.trans e2) q2⟩
  | true=>simp only [if_true] at q ⊢;exact k _ J' H' rr ee q⟩
theorem fP (ha:RT X G a tA) (hb:RW X G (.BoolOp .And (b :: rest) pos) tB'):RW X G (.BoolOp .And (a :: b :: rest) pos) (Hx tA tB'):=⟨Rz (L2.vo ha.run hb.run) λσ H Q h=>C1 h⟩
theorem qQ (ha:RT X G a tA) (hb:RW X G (.BoolOp .Or (b :: rest) pos) tB'):RW X G (.BoolOp .Or (a :: b :: rest) pos) (Qv tA tB'):=⟨Rz (L2.Ah ha.run hb.run) λσ H Q h=>Hc h⟩
theorem fb (h:RW X G e tA):RT X G e tA:=⟨h.run.pt⟩
def Jk (ta tb:dt):dt:=λτ J Q=>ta τ J λx J1=>IW x λc=>if c=true then tb τ J1 Q else Q (.bl false) J1
def Oi (ta tb:dt):dt:=λτ J Q=>ta τ J λx J1=>IW x λc=>if c=true then Q (.bl true) J1 else tb τ J1 Q
def Oh (ta:dt):dt:=λτ J Q=>ta τ J λx J1=>IW x λc=>Q (.bl (!c)) J1
theorem ET {op} (h:RE X G a ta):RE X G (.BoolOp op [a] pos) ta:=⟨L2.yR h.run⟩
theorem Ly (ha:RE X G a ta) (hb:RE X G (.BoolOp .And (b :: rest) pos) tb):RE X G (.BoolOp .And (a :: b :: rest) pos) (Jk ta tb):=⟨kY (L2.yP ha.run hb.run) λσ H Q ⟨τ,J,Q2,a2,h,k⟩ =>
 ⟨τ,J,_,a2,h,λx J' v H' rx rr ee qq=>by
  obtain ⟨c,ec,q⟩:=qC qq
  subst ec
  refine ⟨c,rx,?_⟩
  cases c with
  | true=>simp only [if_true] at q ⊢;exact ⟨τ,J',Q2,a2.go rr ee,q,λz J2 u H2 rz r2 e2 q2=>k z J2 u H2 rz r2 (ee.trans e2) q2⟩
  | false=>simp only [SE,if_false] at q ⊢;exact k (.bl false) J' _ H' rfl rr ee q⟩⟩
theorem Oz (ha:RE X G a ta) (hb:RE X G (.BoolOp .Or (b :: rest) pos) tb):RE X G (.BoolOp .Or (a :: b :: rest) pos) (Oi ta tb):=⟨kY (L2.Et ha.run hb.run) λσ H Q ⟨τ,J,Q2,a2,h,k⟩ =>
 ⟨τ,J,_,a2,h,λx J' v H' rx rr ee qq=>by
  obtain ⟨c,ec,q⟩:=qC qq
  subst ec
  refine ⟨c,rx,?_⟩
  cases c with
  | false=>simp only [SE,if_false] at q ⊢;exact ⟨τ,J',Q2,a2.go rr ee,q,λz J2 u H2 rz r2 e2 q2=>k z J2 u H2 rz r2 (ee.trans e2) q2⟩
  | true=>simp only [if_true] at q ⊢;exact k (.bl true) J' _ H' rfl rr ee q⟩⟩
def RJ (t:kT) (ta tb:dt):dt:=λτ J Q=>t τ J λc J1=>if c=true then ta τ J1 Q else tb τ J1 Q
theorem Oy (hc:RT X G c tA) (ha:RE X G a ta) (hb:RE X G b tb):RE X G (.IfExp c a b pos) (RJ tA ta tb):=⟨kY (L2.qH hc.run ha.run hb.run) λσ H Q ⟨τ,J,Q2,a2,h,k⟩ =>
 ⟨τ,J,_,a2,h,λc J' H' rr ee q=>by
  cases c with
  | true=>simp only [if_true] at q ⊢;exact ⟨τ,J',Q2,a2.go rr ee,q,λz J2 u H2 rz r2 e2 q2=>k z J2 u H2 rz r2 (ee.trans e2) q2⟩
  | false=>simp only [SE,if_false] at q ⊢;exact ⟨τ,J',Q2,a2.go rr ee,q,λz J2 u H2 rz r2 e2 q2=>k z J2 u H2 rz r2 (ee.trans e2) q2⟩⟩⟩
def y0:pB:=λ_ J Q=>Q [] J
def xm (ta:dt) (tr:pB):pB:=λτ J Q=>ta τ J λx J1=>tr τ J1 λxs J2=>Q (x :: xs) J2
theorem ah:RA X G [] y0:=⟨Qk L2.bp λσ H Q ⟨τ,J,Q2,a2,h,k⟩=>k [] J [] H rfl a2.hp .refl h⟩
theorem af (ha:RE X G e te) (hr:RA X G es t) (hs:starEach (e :: es) X.env=(false,eval e X.env) :: starEach es X.env:=by rfl):RA X G (e :: es) (xm te t) :=
 ⟨Qk (L2.ay ha.run hr.run hs) λσ H Q ⟨τ,J,Q2,a2,h,k⟩=>⟨τ,J,_,a2,h,λx J' v H' rx rr ee q=>⟨τ,J',_,a2.go rr ee,q,λxs J2 vs H2 rs r2 e2 q2=>k (x :: xs) J2 (v :: vs) H2 ⟨v,vs,rfl,e2.rep rx,rs⟩ r2 (ee.trans e2) q2⟩⟩⟩
def vP:V→PV
 | .non=>.non | .bl b=>.bl b | .int i=>.int i | .str x=>.str x | _=>.non
theorem qP {K:PySem.W.Frag} {J:Hq} {H:Hp}:∀{es:List Expr} {vs:List V},es.map uz=vs.map some→aT K J H (vs.map vP) vs
 | [],[],_=>rfl
 | [],_ :: _,h=>by cases h
 | _ :: _,[],h=>by cases h
 | e :: es,v :: vs,h=>by
  rw [Sm,Sm] at h
  injection h with h1 h2
  refine ⟨v,vs,rfl,?_,qP h2⟩
  cases e with
  | Constant c j pos =>
   cases c with
   | int i=>cases h1;rfl
   | str x=>cases h1;rfl
   | bool b=>cases h1;rfl
   | _=>cases h1
  | _=>cases h1
theorem vw {es:List Expr} (vs:List V) (h:es.map uz=vs.map some) (xs:List PV) (hx:vs.map vP=xs):RA X G es (λ_ J Q=>Q xs J) :=
 ⟨Qk (qF vs h) λσ H Q ⟨τ,J,Q2,a2,q,k⟩=>k _ J _ H (by rw [← hx];exact qP h) a2.hp .refl q⟩
def Ow (t:pB):dt:=λτ J Q=>t τ J λxs J1=>xs.length≤sizeLine∧Q (.tup xs) J1
theorem cq {x1} (h:RA X G es t):RE X G (.Tuple es x1 pos) (Ow t):=⟨kY (L2.qJ h.run) λσ H Q ⟨τ,J,Q2,a2,h,k⟩=>⟨τ,J,_,a2,h,λxs J' vs H' rs rr ee ⟨hl,q⟩ =>
 ⟨by rw [← rs.length];exact hl,λp hp=>by
  have sm:=bD.new hp (.tup vs)
  have e2:=Ext.same (K:=X.K) (J:=J') sm
  exact k (.tup xs) J' (.ref p) _ ⟨p,vs,rfl,.inl (.inl aA),e2.jy rs⟩ (rr.same sm) (ee.trans e2) q⟩⟩⟩
def Of (t:pB):dt:=λτ J Q=>t τ J λxs J1=>xs.length≤sizeLine∧∀p,J1 p=none→Q (.ref p) (put J1 p (.lst xs))
theorem ot (h:RA X G es t):RE X G (.List es pos) (Of t):=⟨kY (L2.iW h.run) λσ H Q ⟨τ,J,Q2,a2,h,k⟩=>⟨τ,J,_,a2,h,λxs J' vs H' rs rr ee ⟨hl,q⟩ =>
 ⟨by rw [← rs.length];exact hl,λp hp=>k (.ref p) _ (.ref p) _ rfl (rr.DJ hp rs) (ee.trans (.laid hp)) (q p (rr.free hp))⟩⟩⟩
def RH (t:pB):dt:=λτ J Q=>t τ J λxs J1=>xs.length≤sizeLine∧Q (.fl xs) J1
theorem qy {K:PySem.W.Frag} {J:Hq} {H:Hp} {xs:List PV} {vs:List V} {p:Addr} (rr:Rep K J H) (rs:aT K J H xs vs) (hp:H p=none):cy K J (upd H p (.lst vs)) (.fl xs) (.ref p)∧Rep K J (upd H p (.lst vs))∧Ext K J H J (upd H p (.lst vs)):=by
 have sm:=bD.new hp (.lst vs)
 have e2:=Ext.same (K:=K) (J:=J) sm
 exact ⟨⟨p,vs,rfl,.inl ⟨rr.free hp,.inl aA⟩,e2.jy rs⟩,rr.same sm,e2⟩
theorem lA (h:RA X G es t):RE X G (.List es pos) (RH t):=⟨kY (L2.iW h.run) λσ H Q ⟨τ,J,Q2,a2,h,k⟩=>⟨τ,J,_,a2,h,λxs J' vs H' rs rr ee ⟨hl,q⟩ =>
 ⟨by rw [← rs.length];exact hl,λp hp=>let ⟨x1,x2,x3⟩:=qy rr rs hp;k (.fl xs) _ (.ref p) _ x1 x2 (ee.trans x3) q⟩⟩⟩
abbrev Mi:=Sr→Hq→(Option Int→Hq→Prop)→Prop
def LO (K:PySem.W.Frag) (G:G2) (t:Mi):TO:=λσ H Q=>∃τ J Q2,wa K G τ J σ H∧t τ J Q2∧∀b J' H',Rep K J' H'→Ext K J H J' H'→Q2 b J'→Q b H'
structure RO (X:Cx) (G:G2) (e:Option Expr) (t:Mi):Prop where
 run:L2.PO X e (LO X.K G t)
theorem Ry {X:Cx} {e:Option Expr} {t t':TO} (h:L2.PO X e t) (k:∀σ H Q,t' σ H Q→t σ H Q):L2.PO X e t':=λpins s σ H Q I q=>h pins s σ H Q I (k _ _ _ q)
def Am:Mi:=λ_ J Q=>Q none J
def Jp (t:dt):Mi:=λτ J Q=>t τ J λx J1=>Cv x λi=>Q (some i) J1
theorem kJ:RO X G none Am:=⟨Ry L2.pK λσ H Q ⟨τ,J,Q2,a2,h,k⟩=>k none J H a2.hp .refl h⟩
theorem kK (h:RE X G e te):RO X G (some e) (Jp te):=⟨Ry (L2.kH h.run) λσ H Q ⟨τ,J,Q2,a2,h,k⟩=>⟨τ,J,_,a2,h,λx J' v H' rx rr ee qq=>by obtain ⟨i,ei,q⟩:=gY qq;subst ei;exact ⟨i,rx,k _ J' H' rr ee q⟩⟩⟩
abbrev Bg:=PV→Option Int→Option Int→Hq→(PV→Hq→Prop)→Prop
def Pm (X:Cx) (q:Bg):Prop:=∃r,rK X r∧∀J H x lo hi v Q2 Q,cy X.K J H x v→Rep X.K J H→q x lo hi J Q2→Kn X.K J H Q2 Q→r v lo hi H Q
def RM (q:Bg) (te:dt) (tl th:Mi):dt:=λτ J Q=>te τ J λx J1=>tl τ J1 λl J2=>th τ J2 λu J3=>q x l u J3 Q
theorem iC {lo hi:Option Expr} {tl th:Mi} {q:Bg} (hr:Pm X q) (he:RE X G e te) (hl:RO X G lo tl) (hu:RO X G hi th):RE X G (.Subscript e (.Slice lo hi none p2) pos) (RM q te tl th):=by
 obtain ⟨r,h,lr⟩:=hr
 exact ⟨kY (L2.jU h he.run hl.run hu.run) λσ H Q ⟨τ,J,Q2,a2,h,k⟩=>⟨τ,J,_,a2,h,λx J' v H' rx rr ee q1=>⟨τ,J',_,a2.go rr ee,q1,λl J2 H2 r2 e2 q2 =>
  ⟨τ,J2,_,a2.go r2 (ee.trans e2),q2,λu J3 H3 r3 e3 q3=>lr J3 H3 x l u v Q2 Q ((e2.trans e3).rep rx) r3 q3 λz J4 w H4 rz r4 e4 q4=>k z J4 w H4 rz r4 (((ee.trans e2).trans e3).trans e4) q4⟩⟩⟩⟩
def N8 (q:zr) (t:pB):dt:=λτ J Q=>t τ J λxs J1=>q xs J1 Q
theorem zw {r:List V→Hp→VK→Prop} {q:zr} (lr:Rf X.K r q):∀σ H Q,LE X.K G (N8 q t) σ H Q→L2.HX r (LA X.K G t) σ H Q:=λσ H Q ⟨τ,J,Q2,a2,h,k⟩ =>
 ⟨τ,J,_,a2,h,λxs J1 vs H1 rs r1 e1 q1=>lr J1 H1 xs vs Q2 Q rs r1 q1 λz J' u H' rz rr ee qq=>k z J' u H' rz rr (e1.trans ee) qq⟩
theorem bx {id:String} {q:zr} (hc:JK X (.builtin id) q) (hg:Gl X x) (hm:X.mg x=none) (hv:bootBuiltins x=some (.builtin id)) (ha:RA X G (e :: es) t) (hn:x≠"__name__":=by decide) (hdb:(x == ("__debug__":Str))=false:=by decide)
  (he:starEach (e :: es) X.env=(false,eval e X.env) :: starEach es X.env:=by rfl) (hpl:(backTo pos (starEach es X.env)).any (·.1)=false:=by rfl):RE X G (.Call (.Name x p) (e :: es) [] pos) (N8 q t):=by
 obtain ⟨r,h,lr⟩:=hc
 exact ⟨kY (L2.bH h hg hm hv ha.run hn hdb he hpl) (zw lr)⟩
theorem iB {T:String} {q:zr} (hc:JK X (.type T) q) (hg:Gl X x) (hm:X.mg x=none) (hv:bootBuiltins x=some (.type T)) (ha:RA X G (e :: es) t) (hn:x≠"__name__":=by decide) (hdb:(x == ("__debug__":Str))=false:=by decide)
  (he:starEach (e :: es) X.env=(false,eval e X.env) :: starEach es X.env:=by rfl) (hpl:(backTo pos (starEach es X.env)).any (·.1)=false:=by rfl):RE X G (.Call (.Name x p) (e :: es) [] pos) (N8 q t):=by
 obtain ⟨r,h,lr⟩:=hc
 exact ⟨kY (L2.og h hg hm hv ha.run hn hdb he hpl) (zw lr)⟩
abbrev Ct:=PV→List PV→Hq→(PV→Hq→Prop)→Prop
def J_ (X:Cx) (T id:String) (q:Ct):Prop:=∃r,o7 X id r∧∀J H x xs v vs Q2 Q,cy X.K J H x v→aT X.K J H xs vs→Rep X.K J H→q x xs J Q2→Kn X.K J H Q2 Q→r v vs H Q
def Mz (T:String) (J:Hq):PV→Prop
 | .str _=>T="str"
 | .fl _=>T="list"
 | .ref a=>(T="list"∧∃xs,J a=some (.lst xs))∨(T="dict"∧∃kvs ep,J a=some (.dct kvs ep))
 | _=>False
theorem AW {K:PySem.W.Frag} {T:String} {J:Hq} {H:Hp} {x:PV} {v:V} (r:cy K J H x v) (hp:Rep K J H) (h:Mz T J x):L2.Pe K T v H:=by
 cases x with
 | str s=>cases r;exact h
 | fl xs=>obtain ⟨a,vs,rfl,h1,h2⟩:=r;exact .inl ⟨h,vs,h1.sq⟩
 | ref a =>
  cases r
  rcases h with ⟨h,xs,e⟩ | ⟨h,kvs,ep,e⟩
  ·obtain ⟨vs,h1,_⟩:=hp _ _ e;exact .inl ⟨h,vs,.inl (.inl h1)⟩
  ·obtain ⟨gs,h1,_⟩:=hp _ _ e;exact .inr (.inr (.inl ⟨h,.inr ⟨gs,ep,h1⟩⟩))
 | _=>cases h
def RD (T:String) (q:Ct) (to:dt) (t:pB):dt:=λτ J Q=>to τ J λx J1=>Mz T J1 x∧t τ J1 λxs J2=>q x xs J2 Q
def N7 (T:String) (q:Ct) (to:dt):dt:=λτ J Q=>to τ J λx J1=>Mz T J1 x∧q x [] J1 Q
theorem jm {name:Str} {T id:String} {q:Ct} (pa:PlainAttrs T) (slot:Slot T name id) (hty:typeOf (.builtin id)=pure (.type "method_descriptor")) (hm:J_ X T id q) (ho:RE X G o to) (ha:RA X G (e :: es) t)
  (hbase:attributeBase o name X.env (eval o X.env)=eval o X.env:=by rfl)
  (hfew:((backTo cpos (starEach (e :: es) X.env)).all (λx=>!x.1) && (backToKw cpos (keywordEach [] X.env)).all (λx=>x.1.isSome)
   && decide ((e :: es).length + ([]:List Keyword).length + (if ([]:List Keyword).isEmpty then 0 else 1) < 30))=true:=by rfl)
  (hline:(apos.endLine == cpos.line)=true:=by rfl) (hs:starEach (e :: es) X.env=(false,eval e X.env) :: starEach es X.env:=by rfl) (hplain:(backTo cpos (starEach es X.env)).any (·.1)=false:=by rfl) :
  RE X G (.Call (.Attribute o name apos) (e :: es) [] cpos) (RD T q to t):=by
 obtain ⟨r,h,lr⟩:=hm
 exact ⟨kY (L2.qG pa slot hty h ho.run ha.run hbase hfew hline hs hplain) λσ H Q ⟨τ,J,Q2,a2,h,k⟩=>⟨τ,J,_,a2,h,λx J1 v H1 rx r1 e1 ⟨ty,q1⟩=>⟨AW rx r1 ty,τ,J1,_,a2.go r1 e1,q1,λxs J2 vs H2 rs r2 e2 q2 =>
  lr J2 H2 x xs v vs Q2 Q (e2.rep rx) rs r2 q2 λz J' u H' rz rr ee qq=>k z J' u H' rz rr ((e1.trans e2).trans ee) qq⟩⟩⟩
theorem ER {name:Str} {T id:String} {q:Ct} (pa:PlainAttrs T) (slot:Slot T name id) (hty:typeOf (.builtin id)=pure (.type "method_descriptor")) (hm:J_ X T id q) (ho:RE X G o to)
  (hbase:attributeBase o name X.env (eval o X.env)=eval o X.env:=by rfl) (hline:(apos.endLine == cpos.line)=true:=by rfl):RE X G (.Call (.Attribute o name apos) [] [] cpos) (N7 T q to):=by
 obtain ⟨r,h,lr⟩:=hm
 exact ⟨kY (L2.Lf pa slot hty h ho.run hbase hline) λσ H Q ⟨τ,J,Q2,a2,h,k⟩=>⟨τ,J,_,a2,h,λx J1 v H1 rx r1 e1 ⟨ty,q1⟩=>⟨AW rx r1 ty,
  lr J1 H1 x [] v [] Q2 Q rx rfl r1 q1 λz J' u H' rz rr ee qq=>k z J' u H' rz rr (e1.trans ee) qq⟩⟩⟩
end
end Ov
namespace Ov
open PySem PySem.Spec PyProof.Rows
open L2 (V HO Hp Inv Cx VK XK TE TT TA TS TG o9 TI TO jv Ends uv Loc Gl Rd RelV Vals fh wb b7 o5 rK o7 jt R2 upd aA aF dC gJ Sp p5 It bD cV bS Passes oP aI Meth Mk Binds aQ cE aw di fT eQ)
abbrev cS:=List PV→Hq→(PV→Hq→Prop)→(Addr→Hq→Prop)→Prop
def Iq (K:PySem.W.Frag) (J:Hq) (H:Hp) (E2:Addr→Hq→Prop) (E:XK):Prop:=∀c J' H',Rep K J' H'→Ext K J H J' H'→E2 c J'→E (.ref c) none H'
def d4 (K:PySem.W.Frag) (sp:cS):Sp:=λvs H Q E=>∃xs J Q2 E2,aT K J H xs vs∧Rep K J H∧sp xs J Q2 E2∧Kn K J H Q2 Q∧Iq K J H E2 E
theorem Iq.ext {K:PySem.W.Frag} {J J':Hq} {H H':Hp} {E2:Addr→Hq→Prop} {E:XK} (k:Iq K J H E2 E) (e:Ext K J H J' H'):Iq K J' H' E2 E:=λc J1 H1 r x q=>k c J1 H1 r (e.trans x) q
theorem _root_.L2.aQ.R0 {P:Program} {w:World} {K:PySem.W.Frag} {mg:Str→Option Value} {base:Heap} {k:Nat} {f:Addr} {fd:FuncData} {ps:List Str} {sp:Sp} (F:aQ P w K mg base L2.pZ k f fd ps sp):aQ P w K mg base (dn P w) k f fd ps sp :=
 ⟨F.len,λA outer s H args us vs Q E hr he hb hv hs=>codeAny_mono (F.run A outer s H args us vs Q E hr he hb hv hs) λr s' q=>by
  cases r with
  | error e=>exact False.elim q
  | ok fl=>cases fl <;> exact q⟩
theorem _root_.L2.aQ.OV {P:Program} {w:World} {K:PySem.W.Frag} {mg:Str→Option Value} {base:Heap} {k:Nat} {f:Addr} {fd:FuncData} {ps:List Str} {sp:Sp} (F:aQ P w K mg base (dn P w) k f fd ps sp):aQ P w K mg base L2.pZ k f fd ps (λvs H Q _=>sp vs H Q L2.E0) :=
 ⟨λvs H Q E q=>F.len vs H Q _ q,λA outer s H args us vs Q E hr he hb hv hs=>codeAny_mono (F.run A outer s H args us vs Q _ hr he hb hv hs) λr s' q=>by
  cases r with
  | error e=>obtain ⟨_,_,_,_,_,z⟩:=q;exact z.elim
  | ok fl=>cases fl <;> exact q⟩
def bC (P:Program) (w:World) (K:PySem.W.Frag) (mg:Str→Option Value) (base:Heap) (k:Nat) (x:Str) (ps:List Str) (sp:cS):Prop:=CA P w K mg base k x ps (d4 K sp)
theorem _root_.Ov.rH.lift {P:Program} {w:World} {K:PySem.W.Frag} {mg:Str→Option Value} {base:Heap} {k:Nat} {x:Str} {ps:List Str} {sp:Sp} (C:rH P w K mg base k x ps sp) {sp':cS}
  (h:∀xs J vs H Q2 E2 Q E,aT K J H xs vs→Rep K J H→sp' xs J Q2 E2→Kn K J H Q2 Q→sp vs H Q E):bC P w K mg base k x ps sp':=by
 obtain ⟨f,fd,F,r⟩:=C
 exact ⟨f,fd,(F.R0).imp λvs H Q E ⟨xs,J,Q2,E2,a,b,c,d,_⟩=>h xs J vs H Q2 E2 Q E a b c d,r⟩
theorem CA.lift {P:Program} {w:World} {K:PySem.W.Frag} {mg:Str→Option Value} {base:Heap} {k:Nat} {x:Str} {ps:List Str} {sp:Sp} (C:CA P w K mg base k x ps sp) {sp':cS}
  (h:∀xs J vs H Q2 E2 Q E,aT K J H xs vs→Rep K J H→sp' xs J Q2 E2→Kn K J H Q2 Q→Iq K J H E2 E→sp vs H Q E):bC P w K mg base k x ps sp':=by
 obtain ⟨f,fd,F,r⟩:=C
 exact ⟨f,fd,F.imp λvs H Q E ⟨xs,J,Q2,E2,a,b,c,d,e⟩=>h xs J vs H Q2 E2 Q E a b c d e,r⟩
section
variable {X:Cx} {G:G2} {a b c e o value:Expr} {es rest:List Expr} {ta tb te tc to tv:dt} {tA tB':kT} {t:pB} {pos px p p2 apos cpos pos':Pos} {x:Str} {i j:Nat} {E:XK} {E2:Addr→Hq→Prop}
structure A_ (X:Cx) (G:G2) (E2:Addr→Hq→Prop) (E:XK):Prop where
 pass:Passes (dn X.prog X.w) X E
 kn:Iq X.K G.1 G.2 E2 E
def EJ (sp:cS) (E2:Addr→Hq→Prop) (t:pB):dt:=λτ J Q=>t τ J λxs J1=>sp xs J1 Q E2
theorem aU {k k':Nat} {ps:List Str} {sp:cS} (C:bC X.prog X.w X.K X.mg X.base k x ps sp) (B:A_ X G E2 E) (hr:bS k' X.A) (ha:RA X G (e :: es) t) (hk:k≤k':=by decide) (hg:Gl X x:=by rfl)
  (hdb:(x == ("__debug__":Str))=false:=by decide) (he:starEach (e :: es) X.env=(false,eval e X.env) :: starEach es X.env:=by rfl) (hpl:(backTo pos (starEach es X.env)).any (·.1)=false:=by rfl) :
  RE X G (.Call (.Name x p) (e :: es) [] pos) (EJ sp E2 t) :=
 ⟨kY (He C B.pass hr hk hg ha.run hdb he hpl) λσ H Q ⟨τ,J,Q2,a2,h,k⟩=>⟨τ,J,_,a2,h,λxs J1 vs H1 rs r1 e1 q1=>by
  simp only [S_]
  exact ⟨xs,J1,Q2,E2,rs,r1,q1,λz J' u H' rz rr ee qq=>k z J' u H' rz rr (e1.trans ee) qq,B.kn.ext (a2.ext.trans e1)⟩⟩⟩
def N_ (C:Addr) (ta:dt) (f:Str):dt:=λτ J Q=>ta τ J λx J1=>B3 x λa=>K5 C (J1 a) λfs=>w8 (fs.lookup f) λv=>Q v J1
theorem ba {C:Addr} {f:Str} (cl:oP X.K C) (na:aI X.K C f) (he:RE X G e ta) (hb:attributeBase e f X.env (eval e X.env)=eval e X.env:=by rfl):RE X G (.Attribute e f pos) (N_ C ta f) :=
 ⟨kY (L2.Lh he.run hb) λσ H Q ⟨τ,J,Q2,a2,h,k⟩=>⟨τ,J,_,a2,h,λx J1 v H1 rx r1 e1 hh=>by
  obtain ⟨a,ex,hh⟩:=gZ hh;obtain ⟨fs,ja,hh⟩:=yL hh;obtain ⟨y,lk,q⟩:=fL hh
  subst ex;cases rx
  obtain ⟨dx,gs,ha,rf⟩:=r1 _ _ ja
  obtain ⟨w,lw,rw'⟩:=rf.look lk
  exact ⟨a,C,dx,gs,w,rfl,ha,cl,na,lw,k y J1 w H1 rw' r1 e1 q⟩⟩⟩
structure dq (P:Program) (w:World) (K:PySem.W.Frag) (mg:Str→Option Value) (base:Heap) (C:Addr) (k:Nat) (m:Str) (ps:List Str) (sp:cS):Prop where
 cl:oP K C
 ex:∃f fd,Meth K C m f∧aQ P w K mg base (dn P w) k f fd ps (d4 K sp)∧Binds K fd ps []
theorem dq.imp {P:Program} {w:World} {K:PySem.W.Frag} {mg:Str→Option Value} {base:Heap} {C:Addr} {k:Nat} {m:Str} {ps:List Str} {sp sp':cS} (M:dq P w K mg base C k m ps sp) (h:∀xs J Q E,sp' xs J Q E→sp xs J Q E):dq P w K mg base C k m ps sp':=by
 obtain ⟨cl,f,fd,hm,F,r⟩:=M
 exact ⟨cl,f,fd,hm,F.imp λvs H Q E ⟨xs,J,Q2,E2,a,b,c,d⟩=>⟨xs,J,Q2,E2,a,b,h _ _ _ _ c,d⟩,r⟩
def HC (C:Addr) (m:Str) (sp:cS) (E2:Addr→Hq→Prop) (ta:dt) (t:pB):dt:=λτ J Q=>ta τ J λx J1=>B3 x λa=>K5 C (J1 a) λfs=>fs.lookup m=none∧t τ J1 λxs J2=>sp (x :: xs) J2 Q E2
theorem wU {C:Addr} {m:Str} {sp:cS} (B:A_ X G E2 E):∀σ H Q,LE X.K G (HC C m sp E2 to t) σ H Q→L2.Ft C m (d4 X.K sp) [] E (LE X.K G to) (LA X.K G t) σ H Q:=λσ H Q ⟨τ,J,Q2,a2,h,k⟩ =>
 ⟨τ,J,_,a2,h,λx J1 v H1 rx r1 e1 hh=>by
  obtain ⟨a,ex,hh⟩:=gZ hh;obtain ⟨fs,ja,lk,q⟩:=yL hh
  subst ex;cases rx
  obtain ⟨dx,gs,ha,rf⟩:=r1 _ _ ja
  refine ⟨a,dx,gs,rfl,ha,rf.none lk,τ,J1,_,a2.go r1 e1,q,λxs J2 vs H2 rs r2 e2 q2=>?_⟩
  simp only [S_]
  exact ⟨.ref a :: xs,J2,Q2,E2,⟨.ref a,vs,rfl,rfl,rs⟩,r2,q2,λz J' u H' rz rr ee qq=>k z J' u H' rz rr ((e1.trans e2).trans ee) qq,B.kn.ext ((a2.ext.trans e1).trans e2)⟩⟩
theorem bI {C:Addr} {m:Str} {k k':Nat} {ps:List Str} {sp:cS} {pl:Sem Bool} (M:dq X.prog X.w X.K X.mg X.base C k m ps sp) (B:A_ X G E2 E) (hr:bS k' X.A) (ho:RE X G o to) (ha:RA X G (e :: es) t) (hk:k≤k':=by decide)
  (hst:starEach (e :: es) X.env=(false,eval e X.env) :: starEach es X.env:=by rfl) (hpl:(backTo pos (starEach es X.env)).any (·.1)=false:=by rfl)
  (ht:eval (.Call (.Attribute o m apos) (e :: es) [] pos) X.env=(do
   let ov ← eval o X.env
   standAt apos.atName
   let (f,first) ← holding [ov] (getMethod ov m pl)
   callWith pos f first (backTo pos (starEach (e :: es) X.env)) (backToKw pos (keywordEach [] X.env))):=by rfl) :
  RE X G (.Call (.Attribute o m apos) (e :: es) [] pos) (HC C m sp E2 to t):=by
 obtain ⟨cl,f,fd,hm,F,b⟩:=M
 exact ⟨kY (L2.Hh (pl:=pl) ho.run cl hm F (hr.mono hk) b .nil B.pass ha.run hst hpl ht) (wU B)⟩
theorem gx {C:Addr} {m:Str} {k k':Nat} {ps:List Str} {sp:cS} {pl:Sem Bool} (M:dq X.prog X.w X.K X.mg X.base C k m ps sp) (B:A_ X G E2 E) (hr:bS k' X.A) (ho:RE X G o to) (hk:k≤k':=by decide)
  (ht:eval (.Call (.Attribute o m apos) [] [] pos) X.env=(do
   let ov ← eval o X.env
   standAt apos.atName
   let (f,first) ← holding [ov] (getMethod ov m pl)
   callWith pos f first (backTo pos (starEach [] X.env)) (backToKw pos (keywordEach [] X.env))):=by rfl) :
  RE X G (.Call (.Attribute o m apos) [] [] pos) (HC C m sp E2 to y0):=by
 obtain ⟨cl,f,fd,hm,F,b⟩:=M
 refine ⟨kY (L2.Es (pl:=pl) ho.run cl hm F (hr.mono hk) b .nil B.pass ht) λσ H Q h=>?_⟩
 have z:=wU B σ H Q h
 obtain ⟨τ,J,Q2,a2,h1,k1⟩:=z
 refine ⟨τ,J,Q2,a2,h1,λx J1 v H1 rx r1 e1 q1=>?_⟩
 obtain ⟨a,dx,fs,h2,h3,h4,τ',J',Q',a2',h5,k5⟩:=k1 x J1 v H1 rx r1 e1 q1
 exact ⟨a,dx,fs,h2,h3,h4,k5 [] J' [] H1 rfl a2'.hp .refl h5⟩
structure Bf (P:Program) (w:World) (K:PySem.W.Frag) (mg:Str→Option Value) (base:Heap) (C:Addr) (k:Nat) (x:Str) (ps:List Str) (sp:cS):Prop where
 m:mg x=some (.ref C)
 ex:∃f fd,Mk K C f∧aQ P w K mg base (dn P w) k f fd ps (d4 K sp)∧Binds K fd ps []
def HB (C:Addr) (sp:cS) (E2:Addr→Hq→Prop) (t:pB):dt:=λτ J Q=>t τ J λxs J1=>∀a,J1 a=none→sp (.ref a :: xs) (put J1 a (.ins C [])) (λv J2=>v=.non∧Q (.ref a) J2) E2
theorem wN {C:Addr} {sp:cS} (B:A_ X G E2 E):∀σ H Q,LE X.K G (HB C sp E2 t) σ H Q→L2.Fs C (d4 X.K sp) [] E (LA X.K G t) σ H Q:=λσ H Q ⟨τ,J,Q2,a2,h,k⟩ =>
 ⟨τ,J,_,a2,h,λxs J1 vs H1 rs r1 e1 q1 x dx hx hdx ne=>by
  have s1:=bD.new hdx (.own x)
  have hx':upd H1 dx (.own x) x=none:=by rw [aF (Ne.symm ne)];exact hx
  have r2:=r1.same s1
  have e2:Ext X.K J1 H1 (put J1 x (.ins C [])) (upd (upd H1 dx (.own x)) x (.ins C dx [])):=(Ext.same s1).trans (.laid hx')
  have r3:Rep X.K (put J1 x (.ins C [])) (upd (upd H1 dx (.own x)) x (.ins C dx [])):=r2.Cq (.laid hx') x (λa ne=>ak ne) (λa o ne _ z=>by rw [aF ne];exact z) λu z=>by
   rw [aq] at z;cases z
   exact ⟨dx,[],aA,rfl,rfl⟩
  simp only [S_]
  refine ⟨.ref x :: xs,_,_,E2,⟨.ref x,vs,rfl,rfl,e2.jy rs⟩,r3,q1 x (r1.free hx),λz J' u H' rz rr ee ⟨ez,qq⟩=>?_,B.kn.ext ((a2.ext.trans e1).trans e2)⟩
  subst ez
  exact ⟨rz,k (.ref x) J' (.ref x) H' rfl rr ((e1.trans e2).trans ee) qq⟩⟩
theorem HF {C:Addr} {k k':Nat} {ps:List Str} {sp:cS} (M:Bf X.prog X.w X.K X.mg X.base C k x ps sp) (B:A_ X G E2 E) (hr:bS k' X.A) (ha:RA X G (e :: es) t) (hk:k + 1≤k':=by decide) (hg:Gl X x:=by rfl)
  (hdb:(x == ("__debug__":Str))=false:=by decide) (he:starEach (e :: es) X.env=(false,eval e X.env) :: starEach es X.env:=by rfl) (hpl:(backTo pos (starEach es X.env)).any (·.1)=false:=by rfl) :
  RE X G (.Call (.Name x p) (e :: es) [] pos) (HB C sp E2 t):=by
 obtain ⟨hm,f,fd,mk,F,b⟩:=M
 exact ⟨kY (L2.Hg mk F (hr.mono hk) hg hm b .nil B.pass ha.run hdb he hpl) (wN B)⟩
theorem xp {C:Addr} {k k':Nat} {ps:List Str} {sp:cS} (M:Bf X.prog X.w X.K X.mg X.base C k x ps sp) (B:A_ X G E2 E) (hr:bS k' X.A) (hk:k + 1≤k':=by decide) (hg:Gl X x:=by rfl)
  (hdb:(x == ("__debug__":Str))=false:=by decide):RE X G (.Call (.Name x p) [] [] pos) (HB C sp E2 y0):=by
 obtain ⟨hm,f,fd,mk,F,b⟩:=M
 refine ⟨kY (L2.Ep mk F (hr.mono hk) hg hm b .nil B.pass hdb) λσ H Q h=>?_⟩
 obtain ⟨τ,J,Q2,a2,h1,k1⟩:=wN (t:=y0) B σ H Q h
 exact k1 [] J [] H rfl a2.hp .refl h1
end
section
variable {X:Cx} {G:G2} {st:Stmt} {rest:List Stmt} {t u:iG} {e tg o value:Expr} {es:List Expr} {te ta tv:dt} {tc:kT} {pos pos':Pos}
def tX:iG:=λD τ J=>D.nx τ J
def bQ (t u:iG):iG:=λD τ J=>t { D with nx:=u D } τ J
theorem aL:RB X G [] tX:=⟨Ql L2.fV λD σ H ⟨τ,J,D2,a2,h,g⟩=>g.nx τ J σ H a2.sl a2.hp .refl h⟩
theorem aj (h1:RS X G st t) (h2:RB X G rest u):RB X G (st :: rest) (bQ t u):=⟨Ql (L2.aX h1.run h2.run) λD σ H ⟨τ,J,D2,a2,h,g⟩=>⟨τ,J,{ D2 with nx:=u D2 },a2,h,
 { nx:=λτ' J' σ' H' rs rr ee q=>⟨τ',J',D2,⟨rs,rr,a2.ext.trans ee⟩,q,g.ext ee⟩,rt:=g.rt,bk:=g.bk,ct:=g.ct }⟩⟩
theorem au (h1:RS X G st t):RB X G [st] t:=⟨L2.bM h1.run⟩
def Hy (t u:iG):iG:=λD τ J=>∃M:Sr→Hq→Prop,t { D with nx:=M } τ J∧∀τ' J',M τ' J'→u D τ' J'
theorem cH (h1:RS X G st t) (h2:RB X G rest u):RB X G (st :: rest) (Hy t u):=⟨Ql (L2.aX h1.run h2.run) λD σ H ⟨τ,J,D2,a2,⟨M,h,hm⟩,g⟩=>⟨τ,J,{ D2 with nx:=M },a2,h,
 { nx:=λτ' J' σ' H' rs rr ee q=>⟨τ',J',D2,⟨rs,rr,a2.ext.trans ee⟩,hm _ _ q,g.ext ee⟩,rt:=g.rt,bk:=g.bk,ct:=g.ct }⟩⟩
def Qs:iG:=λD τ J=>D.bk τ J
def Qt:iG:=λD τ J=>D.ct τ J
def Jl (te:dt):iG:=λD τ J=>te τ J λ_ J1=>D.nx τ J1
theorem bq (he:RE X G e te) (hs:swapsWith e none pos.line X.env=pure false:=by rfl):RS X G (.Expr e pos) (Jl te):=⟨xh (L2.kI he.run hs) λD σ H ⟨τ,J,D2,a2,h,g⟩ =>
 ⟨τ,J,_,a2,h,λx J' v H' rx rr ee q=>g.nx τ J' σ H' (a2.sl.ext ee) rr ee q⟩⟩
def Om (te:dt):iG:=λD τ J=>te τ J D.rt
theorem aE (he:RE X G e te):RS X G (.Return (some e) pos) (Om te):=⟨xh (L2.dO he.run) λD σ H ⟨τ,J,D2,a2,h,g⟩=>⟨τ,J,_,a2,h,λx J' v H' rx rr ee q=>g.rt x J' v H' rx rr ee q⟩⟩
def Jq:iG:=λD _ J=>D.rt .non J
theorem HJ:RS X G (.Return none pos) Jq:=⟨xh L2.vj λD σ H ⟨τ,J,D2,a2,h,g⟩=>g.rt .non J .non H rfl a2.hp .refl h⟩
def Cc (c:kT) (t u:iG):iG:=λD τ J=>c τ J λb J1=>if b=true then t D τ J1 else u D τ J1
theorem aY {c:Expr} {a b:List Stmt} (hc:RT X G c tc) (ha:RB X G a t) (hb:RB X G b u):RS X G (.If c a b pos) (Cc tc t u):=⟨xh (L2.m5 hc.run ha.run hb.run) λD σ H ⟨τ,J,D2,a2,h,g⟩ =>
 ⟨τ,J,_,a2,h,λc J' H' rr ee q=>by
  cases c with
  | true=>simp only [if_true] at q ⊢;exact ⟨τ,J',D2,a2.go rr ee,q,g.ext ee⟩
  | false=>simp only [SE,if_false] at q ⊢;exact ⟨τ,J',D2,a2.go rr ee,q,g.ext ee⟩⟩⟩
abbrev zt:=PV→Sr→Hq→(Sr→Hq→Prop)→Prop
abbrev wj:=List PV→Sr→Hq→(Sr→Hq→Prop)→Prop
def LG (K:PySem.W.Frag) (G:G2) (t:zt):TG:=λv σ H Q=>∃x τ J Q2,cy K J H x v∧wa K G τ J σ H∧t x τ J Q2∧∀τ' J' σ' H',lK K J' H' τ' σ'→Rep K J' H'→Ext K J H J' H'→Q2 τ' J'→Q σ' H'
def RQ (K:PySem.W.Frag) (G:G2) (t:wj):o9:=λvs σ H Q=>∃xs τ J Q2,aT K J H xs vs∧wa K G τ J σ H∧t xs τ J Q2∧∀τ' J' σ' H',lK K J' H' τ' σ'→Rep K J' H'→Ext K J H J' H'→Q2 τ' J'→Q σ' H'
structure RG (X:Cx) (G:G2) (e:Expr) (t:zt):Prop where
 run:L2.PG X e (LG X.K G t)
structure O0 (X:Cx) (G:G2) (es:List Expr) (t:wj):Prop where
 run:L2.Ir X es (RQ X.K G t)
theorem Qm {X:Cx} {e:Expr} {t t':TG} (h:L2.PG X e t) (k:∀v σ H Q,t' v σ H Q→t v σ H Q):L2.PG X e t':=λpins s σ H v u Q I r q=>h pins s σ H v u Q I r (k _ _ _ _ q)
theorem NT {X:Cx} {e:List Expr} {t t':o9} (h:L2.Ir X e t) (k:∀v σ H Q,t' v σ H Q→t v σ H Q):L2.Ir X e t':=λpins s σ H v u Q I r q=>h pins s σ H v u Q I r (k _ _ _ _ q)
def Gv (i:Nat):zt:=λx τ J Q=>Q (τ.set i (some x)) J
theorem bJ {i:Nat} {x:Str} (hN:X.N.Nodup) (hi:X.N[i]?=some x:=by rfl) (hx:Loc X.env.scope x:=by first | exact .inl rfl | exact .inr rfl) (hf:X.fn x=true∨X.env.scope.names.lookup x=some .local:=by first | exact .inl rfl | exact .inr rfl | assumption):RG X G (.Name x pos) (Gv i) :=
 ⟨Qm (L2.kG hN hi hx hf) λv σ H Q ⟨x,τ,J,Q2,rx,a2,q,k⟩=>k _ J _ H (a2.sl.set i rx) a2.hp .refl q⟩
def Rn:wj:=λvs τ J Q=>Qi vs (Q τ J)
def Rm (t:zt) (u:wj):wj:=λvs τ J Q=>K6 vs λv r=>t v τ J λτ' J'=>u r τ' J' Q
theorem pN:O0 X G [] Rn:=⟨NT L2.vf λvs σ H Q ⟨xs,τ,J,Q2,rs,a2,hh,k⟩=>by obtain ⟨e,q⟩:=K9 hh;subst e;exact ⟨rs,k τ J σ H a2.sl a2.hp .refl q⟩⟩
theorem dA {e:Expr} {es:List Expr} {t:zt} {u:wj} (h1:RG X G e t) (h2:O0 X G es u)
  (hs:(assignEach (e :: es) X.env).map (·.2)=assign e X.env :: (assignEach es X.env).map (·.2):=by rfl):O0 X G (e :: es) (Rm t u):=⟨NT (L2.qK h1.run h2.run hs) λvs σ H Q ⟨xs,τ,J,Q2,rs,a2,hh,k⟩=>by
 obtain ⟨y,r,e,q⟩:=G5 hh
 subst e
 obtain ⟨v,us,rfl,rv,ru⟩:=rs
 exact ⟨v,us,rfl,y,τ,J,_,rv,a2,q,λτ' J' σ' H' rs' rr ee q'=>⟨r,τ',J',Q2,ee.jy ru,⟨rs',rr,a2.ext.trans ee⟩,q',λτ2 J2 σ2 H2 rs2 rr2 ee2 q2=>k τ2 J2 σ2 H2 rs2 rr2 (ee.trans ee2) q2⟩⟩⟩
def Ro (n:Nat) (t:wj):zt:=λx τ J Q=>Mt x λxs=>xs.length=n∧t xs τ J Q
theorem vB {k:Nat} {t:wj} {n:Nat} (hc:X.calm=true) (h:O0 X G es t)
  (hn:(assignEach es X.env).length=n:=by rfl) (hst:(assignEach es X.env).findIdx? (·.1)=none:=by rfl):RG X G (.Tuple es k pos) (Ro n t):=⟨Qm (L2.yT hc h.run hn hst) λv σ H Q ⟨x,τ,J,Q2,rx,a2,hh,k⟩=>by
 obtain ⟨xs,e,l,q⟩:=D' hh
 subst e
 obtain ⟨a,vs,rfl,h1,h2⟩:=rx
 exact ⟨a,vs,rfl,h1,by rw [← h2.length];exact l,xs,τ,J,Q2,h2,a2,q,k⟩⟩
def sU (te:dt) (g:zt):iG:=λD τ J=>te τ J λx J1=>g x τ J1 D.nx
theorem vC {tg e:Expr} {g:zt} (he:RE X G e te) (hg:RG X G tg g) (hs:swapsWithSole [tg] e pos.line X.env=pure false:=by rfl) (hw:swappedStores [tg] e X.env=pure none:=by rfl)
  (h1:(assignEach [tg] X.env).map (·.2)=[assign tg X.env]:=by rfl):RS X G (.Assign [tg] e pos) (sU te g):=⟨xh (L2.vi he.run hg.run hs hw h1) λD σ H ⟨τ,J,D2,a2,h,g⟩ =>
 ⟨τ,J,_,a2,h,λx J' v H' rx rr ee q=>⟨x,τ,J',_,rx,a2.go rr ee,q,λτ' J2 σ' H2 rs r2 e2 q2=>g.nx τ' J2 σ' H2 rs r2 (ee.trans e2) q2⟩⟩⟩
theorem aM {i:Nat} {x:Str} {pos':Pos} (hN:X.N.Nodup) (he:RE X G e te) (hi:X.N[i]?=some x:=by rfl) (hx:Loc X.env.scope x:=by first | exact .inl rfl | exact .inr rfl) (hs:swapsWith e (some (.Name x pos')) pos.line X.env=pure false:=by rfl) (hf:X.fn x=true∨X.env.scope.names.lookup x=some .local:=by first | exact .inl rfl | exact .inr rfl | assumption) :
  RS X G (.Assign [.Name x pos'] e pos) (sU te (Gv i)):=⟨xh (L2.cR hN hi hx he.run hs hf) λD σ H ⟨τ,J,D2,a2,h,g⟩ =>
 ⟨τ,J,_,a2,h,λx J' v H' rx rr ee q=>g.nx _ J' _ H' ((a2.sl.ext ee).set i rx) rr ee q⟩⟩
def Oj (i j:Nat) (ta:pB):iG:=λD τ J=>ta τ J λvs J1=>Ms vs λv w=>D.nx ((τ.set i (some v)).set j (some w)) J1
theorem LD {i j:Nat} {x y:Str} {a b:Expr} {ta:pB} {px py pt:Pos} {kt k2 pt2} (hc:X.calm=true) (hN:X.N.Nodup) (hi:X.N[i]?=some x) (hj:X.N[j]?=some y) (hij:i≠j)
  (hx:X.env.scope.names.lookup x=some .local) (hy:X.env.scope.names.lookup y=some .local) (ha:RA X G [a,b] ta)
  (hw:swappedStores [.Tuple [.Name x px,.Name y py] kt pt] (.Tuple [a,b] k2 pt2) X.env=pure (some [x,y]))
  (hs:swapsWithSole [.Tuple [.Name x px,.Name y py] kt pt] (.Tuple [a,b] k2 pt2) pos.line X.env=pure false:=by rfl) :
  RS X G (.Assign [.Tuple [.Name x px,.Name y py] kt pt] (.Tuple [a,b] k2 pt2) pos) (Oj i j ta):=⟨xh (L2.oj hc hN hi hj hij hx hy ha.run hw hs) λD σ H ⟨τ,J,D2,a2,h,g⟩ =>
 ⟨τ,J,_,a2,h,λxs J' vs H' rs rr ee hh=>by
  obtain ⟨v,w,e,q⟩:=D_ hh
  subst e
  obtain ⟨v',us,rfl,rv,w',us',rfl,rw',e'⟩:=rs
  cases e'
  exact ⟨v',w',rfl,g.nx _ J' _ H' (((a2.sl.ext ee).set i rv).set j rw') rr ee q⟩⟩⟩
def oq (f:Str) (v:PV):List (Str × PV)→List (Str × PV)
 | []=>[(f,v)]
 | (g,w) :: r=>if g=f then (g,v) :: r else (g,w) :: oq f v r
theorem xk {K:PySem.W.Frag} {J:Hq} {H:Hp} {f:Str} {y:PV} {v:V} (r:cy K J H y v):∀{fs:List (Str × PV)} {gs:List (Str × V)},lJ K J H fs gs→lJ K J H (oq f y fs) (eQ f v gs)
 | [],[],_=>⟨rfl,v,[],rfl,r,rfl⟩
 | [],_ :: _,h=>by cases h.1
 | _ :: _,[],h=>by cases h.1
 | (k,y') :: fs,(k',w) :: gs,h=>by
  obtain ⟨h1,v',us,h2,h3,h4⟩:=h
  simp only [Sm,List.cons.injEq] at h1 h2
  obtain ⟨rfl,h1⟩:=h1
  obtain ⟨rfl,rfl⟩:=h2
  unfold oq L2.eQ
  by_cases hk:k=f
  ·rw [if_pos hk,if_pos hk]
   exact ⟨by simp only [Sm,h1],v,_,rfl,r,h4⟩
  ·rw [if_neg hk,if_neg hk]
   obtain ⟨z1,z2⟩:=xk (f:=f) r (⟨h1,h4⟩:lJ K J H fs gs)
   exact ⟨by simp only [Sm,z1],w,_,rfl,h3,z2⟩
def Jm (C:Addr) (ta tv:dt) (f:Str):iG:=λD τ J=>tv τ J λy J1=>ta τ J1 λx J2=>B3 x λa=>K5 C (J2 a) λfs=>fs.length < 1000∧D.nx τ (put J2 a (.ins C (oq f y fs)))
theorem Ext.L_ {K:PySem.W.Frag} {J:Hq} {H:Hp} {p C dx:Addr} {fs gs:List (Str × PV)} {fs' gs':List (Str × V)} (h:J p=some (.ins C fs)) (k:H p=some (.ins C dx fs')):Ext K J H (put J p (.ins C gs)) (upd H p (.ins C dx gs')):=by
 have sm:∀a u,a≠p→Rd H a u→Rd (upd H p (.ins C dx gs')) a u:=λa u ne z=>by
  rcases z with z | ⟨o,z⟩
  ·exact .inl (by rw [aF ne];exact z)
  ·exact .inr ⟨o,by rw [aF ne];exact z⟩
 have nn:∀a u,(∀c d l,u≠HO.ins c d l)→Rd H a u→a≠p:=λa u d z e=>by
  subst e
  rcases z with z | ⟨o,z⟩
  ·rw [k] at z;cases z;exact d _ _ _ rfl
  ·rw [k] at z;cases z
 refine ⟨λa vs' z=>?_,λa o z q _=>?_⟩
 ·rcases z with z | z
  ·exact .inl (sm a _ (nn a (.tup vs') (λ_ _ _ e=>nomatch e) z) z)
  ·exact .inr z
 ·have ne:a≠p:=by intro e;subst e;rw [h] at z;cases z
  exact ⟨by rw [ak ne];exact z,by rw [aF ne];exact q⟩
theorem g7 {C:Addr} {f:Str} (cl:oP X.K C) (na:aI X.K C f) (ha:RE X G o ta) (hv:RE X G value tv) (hs:swapsWith value (some (.Attribute o f pos')) pos.line X.env=pure false:=by rfl):RS X G (.Assign [.Attribute o f pos'] value pos) (Jm C ta tv f) :=
 ⟨xh (L2.Lk ha.run hv.run hs) λD σ H ⟨τ,J,D2,a2,h,g⟩=>⟨τ,J,_,a2,h,λy J1 v H1 ry r1 e1 q1=>⟨τ,J1,_,a2.go r1 e1,q1,λx J2 w H2 rx r2 e2 hh=>by
  obtain ⟨a,ex,hh⟩:=gZ hh;obtain ⟨fs,ja,hl,q2⟩:=yL hh
  subst ex;cases rx
  obtain ⟨dx,gs,h2,rf⟩:=r2 _ _ ja
  have ll:gs.length=fs.length:=by have:=congrArg TV rf.1;simpa using this.symm
  have e3:=Ext.L_ (K:=X.K) (gs:=oq f y fs) (gs':=eQ f v gs) ja h2
  refine ⟨a,C,dx,gs,rfl,h2,cl,na,by omega,g.nx τ _ σ _ (((a2.sl.ext e1).ext e2).ext e3) ?_ ((e1.trans e2).trans e3) q2⟩
  refine r2.Cq e3 a (λb ne=>ak ne) (λb o ne _ z=>by rw [aF ne];exact z) λu z=>?_
  rw [aq] at z;cases z
  exact ⟨dx,_,aA,e3.xq (xk (e2.rep ry) rf)⟩⟩⟩⟩
def EL (c:kT) (tb:iG):iG:=λD τ J=>∃W:Nat→Sr→Hq→Prop,(∃m,W m τ J)∧∀m τ J,W m τ J →
 c τ J λb J1=>if b=true then ∃N:Sr→Hq→Prop,(∀τ' J',N τ' J'→∃m',m' < m∧W m' τ' J')∧tb { D with nx:=N,ct:=N,bk:=D.nx } τ J1 else D.nx τ J1
theorem m9 {c:Expr} {body:List Stmt} {tb:iG} (hp:PassesOwn (model X.prog X.w) X.A X.env X.xe) (hc:RT X G c tc) (hb:RB X G body tb):RS X G (.While c body [] pos) (EL tc tb):=⟨xh (L2.j4 hp hc.run hb.run) λD σ H ⟨τ,J,D2,a2,⟨W,⟨m0,w0⟩,h⟩,g⟩=>by
 refine ⟨λm σ' H'=>∃τ' J',wa X.K G τ' J' σ' H'∧Ext X.K J H J' H'∧W m τ' J',⟨m0,τ,J,a2,.refl,w0⟩,λm σ1 H1 ⟨τ1,J1,a1,e1,w1⟩=>?_⟩
 refine ⟨τ1,J1,_,a1,h m τ1 J1 w1,λb J2 H2 r2 e2 q=>?_⟩
 cases b with
 | false=>simp only [SE,if_false] at q ⊢;exact g.nx τ1 J2 σ1 H2 (a1.sl.ext e2) r2 (e1.trans e2) q
 | true =>
  simp only [if_true] at q ⊢
  obtain ⟨N,hN,q⟩:=q
  refine ⟨λσ' H'=>∃τ' J',wa X.K G τ' J' σ' H'∧Ext X.K J H J' H'∧N τ' J',λσ' H' ⟨τ',J',a',e',n'⟩=>let ⟨m',lt,w'⟩:=hN τ' J' n';⟨m',lt,τ',J',a',e',w'⟩,τ1,J2,{ D2 with nx:=N,ct:=N,bk:=D2.nx },a1.go r2 e2,q,?_⟩
  have ge:=g.ext (e1.trans e2)
  exact { nx:=λτ' J' σ' H' rs rr ee q=>⟨τ',J',⟨rs,rr,(a1.ext.trans e2).trans ee⟩,(e1.trans e2).trans ee,q⟩,rt:=ge.rt,bk:=ge.nx,ct:=λτ' J' σ' H' rs rr ee q=>⟨τ',J',⟨rs,rr,(a1.ext.trans e2).trans ee⟩,(e1.trans e2).trans ee,q⟩ }⟩
structure x6 where
 xs:List PV
 ok:Hq→Prop
structure tm (K:PySem.W.Frag) (it:x6) (I:It) (J:Hq) (H:Hp):Prop where
 go:∀J' H',Ext K J H J' H'→Rep K J' H'→it.ok J'→∀i,i < it.xs.length→I.go i H'
 yl:∀J' H',Ext K J H J' H'→Rep K J' H'→it.ok J'→∀i,i < it.xs.length→∀v H2,I.yld i H' v H2→∃x,it.xs[i]?=some x∧cy K J' H2 x v∧Rep K J' H2∧Ext K J' H' J' H2
 stop:∀J' H',Ext K J H J' H'→Rep K J' H'→it.ok J'→I.stop it.xs.length H'
abbrev so:=Sr→Hq→(x6→Hq→Prop)→Prop
def LI (K:PySem.W.Frag) (G:G2) (t:so):TI:=λσ H R=>∃τ J R2,wa K G τ J σ H∧t τ J R2∧∀it J' I H',tm K it I J' H'→Rep K J' H'→Ext K J H J' H'→R2 it J'→R I H'
structure RI (X:Cx) (G:G2) (tg e:Expr) (t:so):Prop where
 run:L2.PI X tg e (LI X.K G t)
theorem O7 {X:Cx} {tg e:Expr} {t t':TI} (h:L2.PI X tg e t) (k:∀σ H Q,t' σ H Q→t σ H Q):L2.PI X tg e t':=λpins s σ H Q I q=>h pins s σ H Q I (k _ _ _ q)
def N' (wi:so) (g:zt) (tb:iG):iG:=λD τ J=>wi τ J λit J1=>∃Pv:Nat→Sr→Hq→Prop,Pv 0 τ J1∧(∀i τ J,Pv i τ J→it.ok J) ∧
 (∀i x τ J,it.xs[i]?=some x→Pv i τ J→g x τ J λτ2 J2=>tb { D with nx:=Pv (i + 1),ct:=Pv (i + 1),bk:=D.nx } τ2 J2)∧∀τ J,Pv it.xs.length τ J→D.nx τ J
theorem d8 {iter:Expr} {body:List Stmt} {wi:so} {g:zt} {tb:iG} {pos:Pos} (hp:PassesOwn (model X.prog X.w) X.A X.env X.xe) (hc:X.calm=true) (hi:RI X G tg iter wi) (hg:RG X G tg g) (hb:RB X G body tb)
  (hs:∀x,foldedSetIterable iter X.env x=pure x:=by intro _;rfl):RS X G (.For tg iter body [] pos) (N' wi g tb):=⟨xh (L2.oi hp hc hi.run hg.run hb.run hs) λD σ H ⟨τ,J,D2,a2,h,g⟩=>by
 refine ⟨τ,J,_,a2,h,λit J1 I H1 ir r1 e1 ⟨Pv,p0,pok,step,fin⟩=>?_⟩
 refine ⟨λi m σ' H'=>m=it.xs.length - i∧i≤it.xs.length∧∃τ' J',wa X.K G τ' J' σ' H'∧Ext X.K J1 H1 J' H'∧Pv i τ' J',⟨_,rfl,SX _,τ,J1,a2.go r1 e1,.refl,p0⟩,?_⟩
 rintro i m σ2 H2 ⟨rfl,hil,τ2,J2,a3,e3,p3⟩
 by_cases hlt:i < it.xs.length
 ·refine .inr ⟨ir.go J2 H2 e3 a3.hp (pok _ _ _ p3) i hlt,λσ' H'=>∃τ' J',wa X.K G τ' J' σ' H'∧Ext X.K J1 H1 J' H'∧Pv (i + 1) τ' J',λσ' H' z=>⟨_,by omega,rfl,hlt,z⟩,λv H4 y=>?_⟩
  obtain ⟨x,ex,rx,r4,e4⟩:=ir.yl J2 H2 e3 a3.hp (pok _ _ _ p3) i hlt v H4 y
  refine ⟨x,τ2,J2,_,rx,a3.go r4 e4,step i x τ2 J2 ex p3,λτ5 J5 σ5 H5 rs5 r5 e5 q5=>?_⟩
  have ae:=(a3.ext.trans e4).trans e5
  have ge:=g.ext (((e1.trans e3).trans e4).trans e5)
  refine ⟨τ5,J5,{ D2 with nx:=Pv (i + 1),ct:=Pv (i + 1),bk:=D2.nx },⟨rs5,r5,ae⟩,q5,?_⟩
  exact { nx:=λτ' J' σ' H' rs rr ee q=>⟨τ',J',⟨rs,rr,ae.trans ee⟩,((e3.trans e4).trans e5).trans ee,q⟩,rt:=ge.rt,bk:=ge.nx,ct:=λτ' J' σ' H' rs rr ee q=>⟨τ',J',⟨rs,rr,ae.trans ee⟩,((e3.trans e4).trans e5).trans ee,q⟩ }
 ·have ei:i=it.xs.length:=by omega
  subst ei
  exact .inl ⟨ir.stop J2 H2 e3 a3.hp (pok _ _ _ p3),g.nx τ2 J2 σ2 H2 a3.sl a3.hp (e1.trans e3) (fin _ _ p3)⟩⟩
def O4 (J:Hq):PV→Option x6
 | .fl xs=>some ⟨xs,λ_=>True⟩
 | .ref a=>match J a with
  | some (.lst xs)=>some ⟨xs,λJ'=>J' a=some (.lst xs)⟩
  | _=>none
 | _=>none
def Rr (te:dt):so:=λτ J R=>te τ J λx J1=>w8 (O4 J1 x) λit=>R it J1
theorem tm.list {K:PySem.W.Frag} {it:x6} {a:Addr} {J:Hq} {H:Hp} (h:∀J' H',Ext K J H J' H'→Rep K J' H'→it.ok J'→∃vs,dC K H' a vs∧aT K J' H' it.xs vs):tm K it (L2.F2 K a) J H where
 go:=λJ' H' e r o i hi=>by
  obtain ⟨vs,s,rs⟩:=h J' H' e r o
  exact ⟨vs,vs[i]'(by rw [← rs.length];exact hi),s,by simp⟩
 yl:=λJ' H' e r o i hi v H2 y=>by
  obtain ⟨vs,s,rs⟩:=h J' H' e r o
  obtain ⟨e1,y⟩:=y
  subst e1
  obtain ⟨x,ex,rx⟩:=rs.get' (y vs s)
  exact ⟨x,ex,rx,r,.refl⟩
 stop:=λJ' H' e r o=>by
  obtain ⟨vs,s,rs⟩:=h J' H' e r o
  exact ⟨vs,s,by rw [rs.length];exact So _⟩
theorem dI {l:Expr} {tl:dt} (hl:RE X G l tl):RI X G tg l (Rr tl):=⟨O7 (L2.mP hl.run) λσ H R ⟨τ,J,R2,a2,h,k⟩=>⟨τ,J,_,a2,h,λx J1 v H1 rx r1 e1 hh=>by
 obtain ⟨it,ei,q⟩:=fL hh
 cases x with
 | fl xs =>
  obtain ⟨a,vs,rfl,h1,h2⟩:=rx
  cases ei
  refine ⟨a,rfl,⟨vs,h1.sq⟩,k _ J1 _ H1 (.list λJ' H' e r _=>⟨vs,(e.flat h1).sq,e.jy h2⟩) r1 e1 q⟩
 | ref a =>
  cases rx
  unfold O4 at ei
  dsimp only at ei
  cases ej:J1 a with
  | none=>rw [ej] at ei;cases ei
  | some o =>
   rw [ej] at ei
   cases o with
   | lst xs =>
    cases ei
    obtain ⟨vs,h1,h2⟩:=r1 _ _ ej
    refine ⟨a,rfl,⟨vs,.inl (.inl h1)⟩,k _ J1 _ H1 (.list λJ' H' e r o=>?_) r1 e1 q⟩
    obtain ⟨vs',h1',h2'⟩:=r _ _ o
    exact ⟨vs',.inl (.inl h1'),h2'⟩
   | _=>cases ei
 | _=>cases ei⟩⟩
def R3 (te:dt):so:=λτ J R=>te τ J λx J1=>Mt x λxs=>R ⟨xs,λ_=>True⟩ J1
def sx (lo:Int) (n:Nat):List PV:=(S8 n).map λ(i:Nat)=>PV.int (lo + (i:Int))
theorem jL (lo:Int) (n:Nat):(sx lo n).length=n:=by simp [sx]
theorem wI (lo:Int) (n i:Nat) (x:PV):(sx lo n)[i]?=some x↔i < n∧x=.int (lo + i):=by
 unfold sx
 rw [Sl]
 by_cases h:i < n
 ·rw [UJ h];simp [h,eq_comm]
 ·rw [S5 (by simpa using h)];simp [h]
theorem tm.Mx {K:PySem.W.Frag} {J:Hq} {H:Hp} (lo:Int) (n:Nat):tm K ⟨sx lo n,λ_=>True⟩ (L2.CI lo n) J H where
 go:=λJ' H' e r o i hi=>by
  show i < n
  simpa [jL] using hi
 yl:=λJ' H' e r o i hi v H2 y=>by
  obtain ⟨e1,y⟩:=y
  subst e1 y
  exact ⟨.int (lo + i),(wI lo n i _).mpr ⟨by simpa [jL] using hi,rfl⟩,rfl,r,.refl⟩
 stop:=λJ' H' e r o=>by
  show n≤(sx lo n).length
  rw [jL];exact So _
def Rt (ta:pB):so:=λτ J R=>ta τ J λvs J1=>B2 vs λx=>Cv x λj=>-(2 ^ 62)≤j∧j < 2 ^ 62∧R ⟨sx 0 j.toNat,λ_=>True⟩ J1
def R1 (ta:pB):so:=λτ J R=>ta τ J λvs J1=>Ms vs λx y=>Cv x λi=>Cv y λj=>(-(2 ^ 62)≤i∧i < 2 ^ 62∧-(2 ^ 62)≤j∧j < 2 ^ 62)∧R ⟨sx i (j - i).toNat,λ_=>True⟩ J1
theorem Cd {a:Expr} {ta:pB} {p pos:Pos} (hg:Gl X "range") (hm:X.mg "range"=none) (ha:RA X G [a] ta) (hs:starEach [a] X.env=[(false,eval a X.env)]:=by rfl):RI X G tg (.Call (.Name "range" p) [a] [] pos) (Rt ta) :=
 ⟨O7 (L2.f6 hg hm ha.run hs) λσ H R ⟨τ,J,R2,a2,h,k⟩=>⟨τ,J,_,a2,h,λxs J1 vs H1 rs r1 e1 hh=>by
  obtain ⟨x,ex,hh⟩:=jS hh;obtain ⟨j,ej,l1,l2,q⟩:=gY hh;subst ej ex
  obtain ⟨v,us,rfl,rv,e'⟩:=rs
  cases rv;cases e'
  exact ⟨j,rfl,l1,l2,k _ J1 _ H1 (.Mx 0 _) r1 e1 q⟩⟩⟩
def ft (C:Addr) (E2:Addr→Hq→Prop) (t:pB):iG:=λ_ τ J=>t τ J λxs J1=>xs.length≤sizeLine∧E2 C J1
theorem dS {E:XK} {E2:Addr→Hq→Prop} {C:Addr} {x:Str} {t:pB} {np cpos:Pos} (O:Own X.K X.mg x C) (hc:X.calm=true) (hx:Throws X E) (kn:Iq X.K G.1 G.2 E2 E) (hg:Gl X x) (ha:RA X G (e :: es) t)
  (hd:(x == ("__debug__":Str))=false:=by decide) (he:starEach (e :: es) X.env=(false,eval e X.env) :: starEach es X.env:=by rfl) (hpl:(backTo cpos (starEach es X.env)).any (·.1)=false:=by rfl) :
  RS X G (.Raise (some (.Call (.Name x np) (e :: es) [] cpos)) none pos) (ft C E2 t):=⟨xh (Cb O hc hx hg ha.run hd he hpl) λD σ H ⟨τ,J,D2,a2,h,g⟩ =>
 ⟨τ,J,_,a2,h,λxs J1 vs H1 rs r1 e1 ⟨hl,q⟩=>⟨by rw [← rs.length];exact hl,kn C J1 H1 r1 (a2.ext.trans e1) q⟩⟩⟩
end
section
variable {P:Program} {w:World} {K:PySem.W.Frag} {mg:Str→Option Value} {base:Heap}
section
variable {α β:Type} {a b:α} {l m:List α} {i:Nat} {f:α→β} {c:Bool}
theorem Mf:UL f (a :: l)=f a :: UL f l:=rfl
theorem Mg:UL f []=[]:=rfl
theorem Md:(a :: l).length=l.length + 1:=rfl
theorem Me:([]:List α).length=0:=rfl
theorem Mb:(a :: l) ++ m=a :: (l ++ m):=rfl
theorem Mc:[] ++ m=m:=rfl
theorem QY:(a :: l)[0]?=some a:=rfl
theorem QZ:(a :: l)[i + 1]?=l[i]?:=rfl
theorem Q8:(a :: l).set 0 b=b :: l:=rfl
theorem Q9:(a :: l).set (i + 1) b=a :: l.set i b:=rfl
theorem Q5:Option.map f (some a)=some (f a):=rfl
theorem Q4:(some a).getD b=a:=rfl
theorem Q3:(!true)=false:=rfl
theorem Q1:(!false)=true:=rfl
theorem Q_:(true && c)=c:=rfl
theorem QX:(false && c)=false:=rfl
theorem Q6:To 0 a=[]:=rfl
theorem Q7:To (i + 1) a=a :: To i a:=rfl
theorem OW:(a :: l).isEmpty=false:=rfl
theorem OX:([]:List α).isEmpty=true:=rfl
end
def vZ (N:List Str) (xs:List PV):Sr:=xs.map some ++ To (N.length - xs.length) none
theorem Fi {J:Hq} {H:Hp} {N:List Str} {xs:List PV} {vs:List V} (r:aT K J H xs vs):lK K J H (vZ N xs) (L2.start N vs):=by
 refine ⟨by simp [vZ,L2.start,r.length],λi x e=>?_⟩
 unfold vZ at e
 unfold L2.start
 by_cases hi:i < xs.length
 ·rw [Tw (by simpa using hi),Sl] at e
  cases ex:xs[i]? with
  | none=>rw [ex] at e;cases e
  | some y =>
   rw [ex] at e
   cases e
   obtain ⟨v,h1,h2⟩:=r.get ex
   exact ⟨v,by rw [Tw (by rw [Sg,← r.length];exact hi),Sl,h1];rfl,h2⟩
 ·rw [Ts (by simpa using hi)] at e
  have:=Sv e
  rw [List.mem_replicate] at this
  cases this.2
theorem Qf {x qual:Str} {st:Stmt} {f:Addr} {fd:FuncData} {N ps:List Str} {k:Nat} {sp:cS} (F:cE K x qual st f fd) (S:aw N ps (L2.ai st)) (len:∀xs J Q E,sp xs J Q E→xs.length=ps.length)
  (hbody:∀(cdv:Value) (A:Around) (outer:List Env) (s:Shared) (H:Hp) (E:XK) (G:G2) (xs:List PV) (J:Hq) (Q:PV→Hq→Prop) (E2:Addr→Hq→Prop),bS k (A.deeper (envOfC qual (L2.ai st) s.heap.objs.size f cdv))→sp xs J Q E2 →
   A_ (xU P w K mg base N qual (L2.ai st) f cdv A outer s H E) G E2 E →
   ∃t,RB (xU P w K mg base N qual (L2.ai st) f cdv A outer s H E) G (L2.bV st) t∧t { nx:=λ_ J'=>Q .non J',rt:=Q } (vZ N xs) J):aQ P w K mg base (dn P w) (k + 1) f fd ps (d4 K sp):=by
 refine R_ F S (λvs H Q E ⟨xs,J,Q2,E2,a,_,b,_⟩=>by rw [← a.length];exact len _ _ _ _ b) λcdv A outer s H vs Q E hr ⟨xs,J,Q2,E2,rs,rr,hs,kn,ke⟩=>?_
 obtain ⟨t,hb,q⟩:=hbody cdv A outer s H E (J,H) xs J Q2 E2 hr hs ⟨yg,ke⟩
 refine ⟨_,⟨hb.run⟩,vZ N xs,J,_,⟨Fi rs,rr,.refl⟩,q,?_⟩
 exact { nx:=λτ J' σ H' _ r e q=>kn .non J' .non H' rfl r e q,rt:=λx J' v H' rx r e q=>kn x J' v H' rx r e q,bk:=λ_ _ _ _ _ _ _ q=>q.elim,ct:=λ_ _ _ _ _ _ _ q=>q.elim }
theorem R9 {x qual:Str} {st:Stmt} {f:Addr} {fd:FuncData} {N ps:List Str} {k:Nat} {sp:cS} {t:(Addr→Hq→Prop)→iG} (F:cE K x qual st f fd) (S:aw N ps (L2.ai st)) (len:∀xs J Q E,sp xs J Q E→xs.length=ps.length)
  (rd:∀(cdv:Value) (A:Around) (outer:List Env) (s:Shared) (H:Hp) (E:XK) (G:G2) (E2:Addr→Hq→Prop),bS k (A.deeper (envOfC qual (L2.ai st) s.heap.objs.size f cdv)) →
   A_ (xU P w K mg base N qual (L2.ai st) f cdv A outer s H E) G E2 E→RB (xU P w K mg base N qual (L2.ai st) f cdv A outer s H E) G (L2.bV st) (t E2))
  (run:∀(xs:List PV) (J:Hq) (Q:PV→Hq→Prop) (E2:Addr→Hq→Prop),sp xs J Q E2→∀X:Prop,(t E2 { nx:=λ_ J'=>Q .non J',rt:=Q } (vZ N xs) J→X)→X):aQ P w K mg base (dn P w) (k + 1) f fd ps (d4 K sp) :=
 Qf F S len λcdv A outer s H E G xs J Q E2 hr h B=>⟨_,rd cdv A outer s H E G E2 hr B,run xs J Q E2 h _ id⟩
theorem _root_.Ov.Def.fE {x:Str} {st:Stmt} {k:Nat} {ps:List Str} {sp:cS} (D:Def K mg x st)
  (h:∀f fd,cE K x x st f fd→aQ P w K mg base (dn P w) k f fd ps (d4 K sp))
  (hb:∀(kV doc pm:Value) (an:Option Addr) (cdv ct:Value) (us:List Value),us.length=ps.length→bindArgs (PySem.W.fnOf x x (L2.dk st) (L2.bV st) (L2.ai st) .none kV doc pm an cdv ct) ⟨us,[]⟩=pure (ps.zip us)) :
  bC P w K mg base k x ps sp:=D.Pw h hb
end
section
variable {X:Cx} {K:PySem.W.Frag}
def EF (g:Int→Int→PV):mq:=λx y J Q=>Cv x λi=>Cv y λj=>Q (g i j) J
def qI (C:Int→Int→Prop) (g:Int→Int→PV):mq:=λx y J Q=>Cv x λi=>Cv y λj=>C i j∧Q (g i j) J
theorem tT {g:Int→Int→V} {g':Int→Int→PV} (hg:∀J H i j,cy K J H (g' i j) (g i j)):LR K (L2.FJ g) (EF g'):=λJ H x y v w Q2 Q rx ry r h k=>by
 obtain ⟨i,ex,h⟩:=gY h;obtain ⟨j,ey,q⟩:=gY h
 subst ex ey;exact ⟨i,j,rx,ry,k _ J _ H (hg _ _ _ _) r .refl q⟩
theorem KS {C:Int→Int→Prop} {g:Int→Int→V} {g':Int→Int→PV} (hg:∀J H i j,cy K J H (g' i j) (g i j)):LR K (L2.rI C g) (qI C g'):=λJ H x y v w Q2 Q rx ry r h k=>by
 obtain ⟨i,ex,h⟩:=gY h;obtain ⟨j,ey,c,q⟩:=gY h
 subst ex ey;exact ⟨i,j,rx,ry,c,k _ J _ H (hg _ _ _ _) r .refl q⟩
theorem dN:md X (binaryOp .Add) (EF λi j=>.int (i + j)):=⟨_,L2.iV,tT λ_ _ _ _=>rfl⟩
theorem fM:md X (binaryOp .Sub) (EF λi j=>.int (i - j)):=⟨_,L2.yN,tT λ_ _ _ _=>rfl⟩
theorem bU:md X (binaryOp .Mult) (qI CM λi j=>.int (i * j)):=⟨_,cP,KS λ_ _ _ _=>rfl⟩
theorem kF:md X (binaryOp .FloorDiv) (qI CQ λi j=>.int (i.fdiv j)):=⟨_,gm,KS λ_ _ _ _=>rfl⟩
theorem eK:md X (binaryOp .Mod) (qI (λ_ j=>0 < j) λi j=>.int (i % j)):=⟨_,L2.gq,KS λ_ _ _ _=>rfl⟩
theorem fS:md X (compareOp .Lt) (EF λi j=>.bl (decide (i < j))):=⟨_,L2.z_,tT λ_ _ _ _=>rfl⟩
theorem Ab:md X (compareOp .LtE) (EF λi j=>.bl (decide (i≤j))):=⟨_,L2.Jb,tT λ_ _ _ _=>rfl⟩
theorem oV:md X (compareOp .Gt) (EF λi j=>.bl (decide (j < i))):=⟨_,L2.I_,tT λ_ _ _ _=>rfl⟩
theorem Ed:md X (compareOp .GtE) (EF λi j=>.bl (decide (j≤i))):=⟨_,L2.IZ,tT λ_ _ _ _=>rfl⟩
def qU (g:Int→PV):MF:=λx J Q=>Cv x λi=>Q (g i) J
theorem h_:Ri X (unaryOp .USub) (qU λi=>.int (-i)):=⟨_,L2.Fx,λJ H x v Q2 Q rx r h k=>by obtain ⟨i,ex,q⟩:=gY h;subst ex;exact ⟨i,rx,k (.int (-i)) J _ H rfl r .refl q⟩⟩
def N1:mq:=λx y J Q=>IY x λi=>IY y λj=>Q (.bl (decide (i.cps.toList < j.cps.toList))) J
theorem yO:md X (compareOp .Lt) N1:=⟨_,L2.B5,λJ H x y v w Q2 Q rx ry r h k=>by obtain ⟨i,ex,h⟩:=oa h;obtain ⟨j,ey,q⟩:=oa h;subst ex ey;exact ⟨i,j,rx,ry,k (.bl _) J _ H rfl r .refl q⟩⟩
def By:PV→Bool
 | .non=>true
 | _=>false
theorem zU {J:Hq} {H:Hp} {x:PV} {v:V} (r:cy K J H x v):decide (v=.non)=By x:=by
 cases x with
 | non=>cases r;rfl
 | tup xs=>obtain ⟨a,vs,rfl,_⟩:=r;rfl
 | fl xs=>obtain ⟨a,vs,rfl,_⟩:=r;rfl
 | _=>cases r;rfl
def RC:mq:=λx y J Q=>y=.non∧Q (.bl (By x)) J
def EG:mq:=λx y J Q=>y=.non∧Q (.bl (!By x)) J
theorem NQ:md X (compareOp .Is) RC:=⟨_,L2.Lc,λJ H x y v w Q2 Q rx ry r ⟨ey,q⟩ k=>by subst ey;cases ry;exact ⟨rfl,by rw [zU rx];exact k (.bl _) J _ H rfl r .refl q⟩⟩
theorem mK:md X (compareOp .IsNot) EG:=⟨_,L2.G9,λJ H x y v w Q2 Q rx ry r ⟨ey,q⟩ k=>by subst ey;cases ry;exact ⟨rfl,by rw [zU rx];exact k (.bl _) J _ H rfl r .refl q⟩⟩
mutual
def gu:PV→Py
 | .non=>.non | .bl b=>.bl b | .int i=>.int i | .str x=>.str x | .ref _=>.non | .ty _=>.non | .tup xs=>.tup (gw xs) | .fl xs=>.lst (gw xs)
def gw:List PV→List Py
 | []=>[]
 | x :: xs=>gu x :: gw xs
end
mutual
def nF:PV→Bool
 | .ref _=>false | .ty _=>false | .tup xs=>iZ xs | .fl xs=>iZ xs | _=>true
def iZ:List PV→Bool
 | []=>true
 | x :: xs=>nF x && iZ xs
end
mutual
theorem ux {J:Hq} {H:Hp}:∀{x:PV} {v:V},nF x=true→cy K J H x v→At K H (gu x) v
 | .non,_,_,h=>h
 | .bl _,_,_,h=>h
 | .int _,_,_,h=>h
 | .str _,_,_,h=>h
 | .tup xs,_,p,⟨a,vs,e,h,k⟩=>⟨a,vs,e,h,qa (by simpa [nF] using p) k⟩
 | .fl xs,_,p,⟨a,vs,e,h,k⟩=>⟨a,vs,e,h.sq,qa (by simpa [nF] using p) k⟩
theorem qa {J:Hq} {H:Hp}:∀{xs:List PV} {vs:List V},iZ xs=true→aT K J H xs vs→rM K H (gw xs) vs
 | [],_,_,h=>h
 | x :: xs,_,p,⟨v,us,e,h,k⟩=>by
  have p':nF x=true∧iZ xs=true:=by simpa [iZ] using p
  exact ⟨v,us,e,ux p'.1 h,qa p'.2 k⟩
end
def eqQ (x y:PV):Bool:=kD (gu x) (gu y)
def Iw (x:PV):Prop:=nF x=true∧dep (gu x)≤60
def Lp (f:Bool→Bool):mq:=λx y J Q=>Iw x∧nF y=true∧Q (.bl (f (eqQ x y))) J
theorem IS (f:Bool→Bool):LR K (rP K f) (Lp f):=λJ H x y v w Q2 Q rx ry r ⟨⟨px,d⟩,py,q⟩ k=>⟨gu x,gu y,ux px rx,ux py ry,d,k (.bl _) J _ H rfl r .refl q⟩
theorem cG (hu:X.A.units + 61 < cLine):md X (compareOp .Eq) (Lp id):=⟨_,La hu,IS id⟩
theorem mL (hu:X.A.units + 61 < cLine):md X (compareOp .NotEq) (Lp not):=⟨_,Ld hu,IS not⟩
def e9 (J:Hq):PV→PV→Option PV
 | .tup xs,.int i=>di xs i
 | .fl xs,.int i=>di xs i
 | .ref a,.int i=>match J a with
  | some (.lst xs)=>di xs i
  | _=>none
 | _,_=>none
theorem aT.di {J:Hq} {H:Hp} {xs:List PV} {vs:List V} {i:Int} {x:PV} (r:aT K J H xs vs) (h:L2.di xs i=some x):∃v,L2.di vs i=some v∧cy K J H x v:=by
 unfold L2.di at h ⊢
 rw [← r.length]
 cases e:L2.Cu xs.length i with
 | none=>rw [e] at h;cases h
 | some j =>
  rw [e] at h
  obtain ⟨v,h1,h2⟩:=r.get h
  exact ⟨v,h1,h2⟩
def Mu:mq:=λx y J Q=>w8 (e9 J x y) λv=>Q v J
theorem av:Pj X Mu:=⟨_,L2.uH.or L2.cX,λJ H x y v w Q2 Q rx ry r h k=>by
 obtain ⟨z,ez,q⟩:=fL h
 cases y with
 | int i =>
  cases ry
  cases x with
  | tup xs =>
   obtain ⟨a,vs,rfl,h1,h2⟩:=rx
   obtain ⟨u,e1,e2⟩:=h2.di (show L2.di xs i=some z from ez)
   exact .inr ⟨a,vs,i,u,rfl,rfl,h1,e1,k z J u H e2 r .refl q⟩
  | fl xs =>
   obtain ⟨a,vs,rfl,h1,h2⟩:=rx
   obtain ⟨u,e1,e2⟩:=h2.di (show L2.di xs i=some z from ez)
   exact .inl ⟨a,vs,i,u,rfl,rfl,h1.sq,e1,k z J u H e2 r .refl q⟩
  | ref a =>
   cases rx
   unfold e9 at ez
   dsimp only at ez
   cases ej:J a with
   | none=>rw [ej] at ez;cases ez
   | some o =>
    rw [ej] at ez
    cases o with
    | lst xs =>
     obtain ⟨vs,h1,h2⟩:=r _ _ ej
     obtain ⟨u,e1,e2⟩:=h2.di (show L2.di xs i=some z from ez)
     exact .inl ⟨a,vs,i,u,rfl,rfl,.inl (.inl h1),e1,k z J u H e2 r .refl q⟩
    | _=>cases ez
  | _=>cases ez
 | _=>cases x <;> cases ez⟩
def kQ (xs:List PV) (lo hi:Option Int):List PV:=(xs.drop (HT.dT xs.length 0 lo)).take (HT.dT xs.length xs.length hi - HT.dT xs.length 0 lo)
theorem zA {J:Hq} {H:Hp} {xs:List PV} {vs:List V} {lo hi:Option Int} (r:aT K J H xs vs):aT K J H (kQ xs lo hi) (L2.nQ vs lo hi):=by
 unfold kQ L2.nQ
 rw [← r.length]
 exact (r.drop _).take _
def N5:Bg:=λx lo hi J Q=>Mt x λxs=>¬ (HT.dT xs.length 0 lo=0∧HT.dT xs.length xs.length hi=xs.length)∧Q (.tup (kQ xs lo hi)) J
theorem zh:Pm X N5:=⟨_,L2.LP,λJ H x lo hi v Q2 Q rx r h k=>by
 obtain ⟨xs,ex,hn,q⟩:=D' h
 subst ex
 obtain ⟨a,vs,rfl,h1,h2⟩:=rx
 refine ⟨a,vs,rfl,h1,by rw [← h2.length];exact hn,λp hp=>?_⟩
 have sm:=bD.new hp (.tup (L2.nQ vs lo hi))
 have e2:=Ext.same (K:=X.K) (J:=J) sm
 exact k (.tup (kQ xs lo hi)) J (.ref p) _ ⟨p,_,rfl,.inl (.inl aA),e2.jy (zA h2)⟩ (r.same sm) e2 q⟩
def rL (J:Hq):PV→Option (List PV)
 | .fl xs=>some xs
 | .ref a=>match J a with
  | some (.lst xs)=>some xs
  | _=>none
 | _=>none
theorem mH {J:Hq} {H:Hp} {x:PV} {v:V} {xs:List PV} (rx:cy K J H x v) (r:Rep K J H) (h:rL J x=some xs):∃a vs,v=.ref a∧dC K H a vs∧aT K J H xs vs:=by
 cases x with
 | fl ys=>obtain ⟨a,vs,rfl,h1,h2⟩:=rx;cases h;exact ⟨a,vs,rfl,h1.sq,h2⟩
 | ref a =>
  cases rx
  unfold rL at h
  dsimp only at h
  cases ej:J a with
  | none=>rw [ej] at h;cases h
  | some o =>
   rw [ej] at h
   cases o with
   | lst ys=>cases h;obtain ⟨vs,h1,h2⟩:=r _ _ ej;exact ⟨a,vs,rfl,.inl (.inl h1),h2⟩
   | _=>cases h
 | _=>cases h
def N4:Bg:=λx lo hi J Q=>w8 (rL J x) λxs=>Q (.fl (kQ xs lo hi)) J
theorem Fd:Pm X N4:=⟨_,L2.vR,λJ H x lo hi v Q2 Q rx r h k=>by
 obtain ⟨xs,ex,q⟩:=fL h
 obtain ⟨a,vs,rfl,h1,h2⟩:=mH rx r ex
 refine ⟨a,vs,rfl,h1,λp hp=>?_⟩
 obtain ⟨x1,x2,x3⟩:=qy r (zA (lo:=lo) (hi:=hi) h2) hp
 exact k _ J _ _ x1 x2 x3 q⟩
def Qr:Bg:=λx lo hi J Q=>w8 (rL J x) λxs=>∀p,J p=none→Q (.ref p) (put J p (.lst (kQ xs lo hi)))
def NW:zr:=λxs J Q=>B2 xs λx=>Cv x λi=>Q (.int (if i < 0 then -i else i)) J
theorem yf:JK X (.builtin "abs") NW:=⟨_,L2.mw,λJ H xs vs Q2 Q rs r h k=>by
 obtain ⟨x,ex,h⟩:=jS h;obtain ⟨i,ei,q⟩:=gY h;subst ei
 subst ex;obtain ⟨v,us,rfl,rv,e⟩:=rs;cases rv;cases e
 exact ⟨i,rfl,k (.int _) J _ H rfl r .refl q⟩⟩
def yu (J:Hq):PV→Option Nat
 | .tup xs=>some xs.length
 | x=>(rL J x).map TV
def Lr:zr:=λxs J Q=>B2 xs λx=>w8 (yu J x) λn=>Q (.int n) J
theorem cW:JK X (.builtin "len") Lr:=⟨_,L2.iI,λJ H xs vs Q2 Q rs r h k=>by
 obtain ⟨x,ex,h⟩:=jS h;obtain ⟨n,en,q⟩:=fL h
 subst ex;obtain ⟨v,us,rfl,rv,e⟩:=rs;cases e
 have go:∀ys,rL J x=some ys→ys.length=n→∃p ws,([v]:List V)=[.ref p]∧(dC X.K H p ws∨gJ X.K H p ws)∧Q (.int ws.length) H:=λys h1 h2=>by
  obtain ⟨a,ws,rfl,h3,h4⟩:=mH rv r h1
  exact ⟨a,ws,rfl,.inl h3,by rw [← h4.length,h2];exact k (.int _) J _ H rfl r .refl q⟩
 cases x with
 | tup ys =>
  obtain ⟨a,ws,rfl,h1,h2⟩:=rv
  cases en
  exact ⟨a,ws,rfl,.inr h1,by rw [← h2.length];exact k (.int _) J _ H rfl r .refl q⟩
 | fl ys=>cases en;exact go _ rfl rfl
 | ref a =>
  unfold yu at en
  cases el:rL J (.ref a) with
  | none=>simp [el] at en
  | some ys=>simp [el] at en;exact go _ el en
 | _=>cases en⟩
def Cw (J:Hq):PV→Option String
 | .non=>some "NoneType" | .bl _=>some "bool" | .int _=>some "int" | .str _=>some "str" | .tup _=>some "tuple" | .fl _=>some "list"
 | .ref a=>match J a with
  | some (.lst _)=>some "list"
  | some (.dct _ _)=>some "dict"
  | _=>none
 | _=>none
def l9 (t n:String):Option Bool :=
 if n∈["int","bool","str","tuple","list"] then some (t == n || (t == "bool" && n == "int")) else none
theorem GG (K:PySem.W.Frag) {t n:String} {b:Bool} (ht:t∈["NoneType","bool","int","str","tuple","list","dict"]) (h:l9 t n=some b):PySem.W.kitOne K (.type t) (.type n)=some b:=by
 unfold l9 at h
 by_cases hn:n∈["int","bool","str","tuple","list"]
 ·rw [if_pos hn] at h
  simp only [Sy,S2,or_false] at ht hn
  rcases ht with rfl | rfl | rfl | rfl | rfl | rfl | rfl <;> rcases hn with rfl | rfl | rfl | rfl | rfl <;> cases h <;> with_unfolding_all rfl
 ·rw [if_neg hn] at h;cases h
theorem Ii {J:Hq} {x:PV} {t:String} (h:Cw J x=some t):t∈["NoneType","bool","int","str","tuple","list","dict"]:=by
 cases x with
 | ref a =>
  unfold Cw at h
  dsimp only at h
  cases ej:J a with
  | none=>rw [ej] at h;cases h
  | some o=>rw [ej] at h;cases o <;> cases h <;> simp
 | ty n=>cases h
 | _=>cases h;simp
def Qj (x:PV) (k:String→Prop) (_:gI k:=dp):Prop:=match x with | .ty n=>k n | _=>False
theorem NO {x:String} {k:String→Prop} {d:gI k}:Qj (.ty x) k d=k x:=rfl
theorem K_ {x:PV} {k:String→Prop} {d:gI k} (h:Qj x k d):∃n,x=.ty n∧k n:=by cases x <;> first | exact ⟨_,rfl,h⟩ | exact False.elim h
def NY:zr:=λxs J Q=>Ms xs λx y=>Qj y λn=>w8 (Cw J x) λt=>w8 (l9 t n) λb=>Q (.bl b) J
theorem Bj:b7 X (.builtin "isinstance") (λxs H Q=>∃x n t b,xs=[x,.ty n]∧(fT X.K H x (.type t)∨(t="tuple"∧∃a vs,x=.ref a∧gJ X.K H a vs)∨(t="list"∧∃a vs,x=.ref a∧dC X.K H a vs))∧PySem.W.kitOne X.K (.type t) (.type n)=some b∧Q (.bl b) H):=by
 intro pins s σ H xs us Q I r h
 obtain ⟨x,n,t,b,rfl,ty,e,q⟩:=h
 obtain ⟨u,w',rfl,rx,ry⟩:=L2.vals2 r
 cases (show w'=Value.type n from ry)
 rcases ty with ty | ⟨rfl,a,vs,rfl,hs⟩ | ⟨rfl,a,vs,rfl,hs⟩
 ·exact L2.Bz I rx ty e λtk=>⟨.bl b,H,I.tok _,rfl,q⟩
 ·cases rx
  obtain ⟨its,_,⟨o,h1,h2,_⟩,_⟩:=I.tuple hs
  exact PySem.W.kia_one PySem.W.kitx_tuple I.lR ⟨o,h1,h2⟩ e (λz=>nomatch z) λtk=>⟨.bl b,H,I.tok _,rfl,q⟩
 ·cases rx
  obtain ⟨its,_,⟨o,_,h1,h2,_⟩,_⟩:=I.list hs
  exact PySem.W.kia_one PySem.W.kitx_list I.lR ⟨o,h1,h2⟩ e (λz=>nomatch z) λtk=>⟨.bl b,H,I.tok _,rfl,q⟩
theorem C8:JK X (.builtin "isinstance") NY:=⟨_,Bj,λJ H xs vs Q2 Q rs r h k=>by
 obtain ⟨x,y,ex,h⟩:=D_ h;obtain ⟨n,ey,h⟩:=K_ h;obtain ⟨t,et,h⟩:=fL h;obtain ⟨b,es,q⟩:=fL h
 subst ey
 subst ex
 obtain ⟨v,us,rfl,rv,w,us',rfl,rw',e⟩:=rs
 cases rw';cases e
 refine ⟨v,n,t,b,rfl,?_,GG X.K (Ii et) es,k (.bl _) J _ H rfl r .refl q⟩
 cases x with
 | non=>cases rv;cases et;exact .inl .non
 | bl i=>cases rv;cases et;exact .inl (.bl i)
 | int i=>cases rv;cases et;exact .inl (.int i)
 | str i=>cases rv;cases et;exact .inl (.str i)
 | tup xs=>obtain ⟨a,ws,rfl,h1,_⟩:=rv;cases et;exact .inr (.inl ⟨rfl,a,ws,rfl,h1⟩)
 | fl xs =>
  obtain ⟨a,ws,rfl,h1,_⟩:=rv;cases et
  exact .inr (.inr ⟨rfl,a,ws,rfl,h1.sq⟩)
 | ty n=>cases et
 | ref a =>
  cases rv
  unfold Cw at et
  dsimp only at et
  cases ej:J a with
  | none=>rw [ej] at et;cases et
  | some o =>
   rw [ej] at et
   have z:=r _ _ ej
   cases o with
   | lst xs=>obtain ⟨ws,h1,_⟩:=z;cases et;exact .inl (.lst h1)
   | dct kvs ep=>obtain ⟨gs,h1,_⟩:=z;cases et;exact .inl (.dE h1)
   | tab=>cases et
   | dtp hs ks=>cases et
   | ins C fs=>cases et⟩
def Lo:zr:=λxs J Q=>B2 xs λx=>w8 (rL J x) λys=>Q (.fl ys) J
def EE:zr:=λxs J Q=>B2 xs λx=>w8 (rL J x) λys=>∀p,J p=none→Q (.ref p) (put J p (.lst ys))
theorem qd:JK X (.type "list") EE:=⟨_,L2.uy,λJ H xs vs Q2 Q rs r h k=>by
 obtain ⟨x,ex,h⟩:=jS h;obtain ⟨ys,el,q⟩:=fL h
 subst ex;obtain ⟨v,us,rfl,rv,e⟩:=rs;cases e
 obtain ⟨a,ws,rfl,h3,h4⟩:=mH rv r el
 exact ⟨a,ws,rfl,.inl h3,λp hp=>k (.ref p) _ _ _ rfl (r.DJ hp h4) (.laid hp) (q p (r.free hp))⟩⟩
def Qq:zr:=λxs J Q=>∃i j,xs=[.int i,.int j]∧Q (.int (if j > i then j else i)) J
def Ai:Ct:=λx xs J Q=>B3 x λa=>B2 xs λy=>Mr (J a) λys=>ys.length < sizeLine∧Q .non (put J a (.lst (ys ++ [y])))
theorem fm:J_ X "list" "list.append" Ai:=⟨_,L2.iq,λJ H x xs v vs Q2 Q rx rs r h k=>by
 obtain ⟨a,ex,h⟩:=gZ h;obtain ⟨y,exs,h⟩:=jS h;obtain ⟨ys,ja,hl,q⟩:=K8 h
 subst ex exs;cases rx;obtain ⟨w,us,rfl,rw',e⟩:=rs;cases e
 obtain ⟨ws,h1,h2⟩:=r _ _ ja
 exact ⟨a,ws,w,rfl,rfl,h1,by rw [← h2.length];exact hl,k .non _ _ _ rfl (r.wrote (ys:=ys ++ [y]) ja h1 (h2.append (show aT X.K J H [y] [w] from ⟨w,[],rfl,rw',rfl⟩))) (.wrote ja h1) q⟩⟩
def N2:Ct:=λx xs J Q=>∃a ys y,x=.ref a∧xs=[]∧J a=some (.lst ys)∧ys[ys.length - 1]?=some y∧Q y (put J a (.lst ys.dropLast))
theorem aT.dropLast {J:Hq} {H:Hp} {xs:List PV} {vs:List V} (r:aT K J H xs vs):aT K J H xs.dropLast vs.dropLast:=by
 rw [Uz,Uz,← r.length]
 exact r.take _
theorem DX:J_ X "list" "list.pop" N2:=⟨_,L2.KZ,λJ H x xs v vs Q2 Q rx rs r ⟨a,ys,y,ex,exs,ja,hy,q⟩ k=>by
 subst ex exs;cases rx;cases rs
 obtain ⟨ws,h1,h2⟩:=r _ _ ja
 obtain ⟨w,e1,e2⟩:=h2.get hy
 have ex:=Ext.wrote (K:=X.K) (ys:=ys.dropLast) (vs:=ws.dropLast) ja h1
 exact ⟨a,ws,w,rfl,rfl,h1,by rw [← h2.length];exact e1,k y _ w _ (ex.rep e2) (r.wrote ja h1 h2.dropLast) ex q⟩⟩
def Lm:Ct:=λx xs J Q=>∃a ys,x=.ref a∧xs=[]∧J a=some (.lst ys)∧Q .non (put J a (.lst []))
def HA:V→List V→Hp→VK→Prop:=λx vs H Q=>∃l xs i y,x=.ref l∧vs=[.int (i:Nat),y]∧H l=some (.lst xs)∧i≤xs.length∧xs.length < sizeLine∧i < 2 ^ 62∧Q .non (upd H l (.lst (xs.take i ++ y :: xs.drop i)))
theorem yq (its:List Value) (i:Nat) (u:Value) (h:i≤its.length):((its.toArray.extract 0 (min ((i:Int)).toNat its.toArray.size)).push u ++ its.toArray.extract (min ((i:Int)).toNat its.toArray.size))=(its.take i ++ u :: its.drop i).toArray:=by
 have e:min ((i:Int)).toNat its.toArray.size=i:=by simp;omega
 rw [e]
 apply Array.ext'
 simp
 exact S9 (by simp)
theorem BO:o7 X "list.insert" HA:=by
 intro pins s σ H x vs v us Q I rx rv h
 obtain ⟨l,xs,i,y,rfl,rfl,hH,hi,hz,hb,q⟩:=h
 cases rx
 obtain ⟨u,w,rfl,ru,rw'⟩:=L2.vals2 rv
 obtain ⟨t,rfl⟩:=ru
 obtain ⟨z,its,n,r,hl,e⟩:=I.GL hH
 have h63:((i:Nat):Int) < 2 ^ 63:=by
  have:((i:Nat):Int) < ((2 ^ 62:Nat):Int):=Int.ofNat_lt.mpr hb
  exact Int.lt_trans this (by decide)
 have hf:Builtin.List.listFitsIndex ((i:Nat):Int)=true:=fitsIndex_both (Int.le_trans (by decide) (Int.natCast_nonneg i)) h63
 have hs:its.toArray.size≤sizeLine:=by rw [Sn,← hl];exact z
 have hn:¬(!Builtin.List.listFitsIndex ((i:Nat):Int))=true:=by rw [hf];exact λz=>nomatch z
 have hneg:¬ (((i:Nat):Int) < 0):=by omega
 have hins:=yq its i w (by omega)
 clear hb h63 hf
 generalize ((i:Nat):Int)=ii at *
 have mm:=PySem.AutoSeq1.list_insert_list_int_val_1 l its.toArray n ii t w hn hs
 refine call_meets PySem.F.slot_list_insert ⟨_,e,rfl⟩ PySem.F.entry_list_insert (PySem.F.args_list_insert_3 _ _ _) mm ⟨e,?_⟩
 refine ⟨.non,_,I.GK (its':=its.take i ++ w :: its.drop i) hH e ?_ ((r.take i).append (.cons rw' (r.drop i))) ?_,rfl,q⟩
 ·simp only [if_neg hneg]
  exact hins
 ·rw [SF,SJ,SK,TF];omega
def Aj:Ct:=λx xs J Q=>∃a ys i y,x=.ref a∧xs=[.int (i:Nat),y]∧J a=some (.lst ys)∧i≤ys.length∧ys.length < sizeLine∧i < 2 ^ 62∧Q .non (put J a (.lst (ys.take i ++ y :: ys.drop i)))
theorem n6:J_ X "list" "list.insert" Aj:=⟨_,BO,λJ H x xs v vs Q2 Q rx rs r ⟨a,ys,i,y,ex,exs,ja,hi,hl,hb,q⟩ k=>by
 subst ex exs;cases rx;obtain ⟨w0,us,rfl,rw0,w,us',rfl,rw',e⟩:=rs;cases e;cases rw0
 obtain ⟨ws,h1,h2⟩:=r _ _ ja
 exact ⟨a,ws,i,w,rfl,rfl,h1,by rw [← h2.length];exact hi,by rw [← h2.length];exact hl,hb,k .non _ _ _ rfl (r.wrote (ys:=ys.take i ++ y :: ys.drop i) ja h1 ((h2.take i).append (show aT X.K J H (y :: ys.drop i) (w :: ws.drop i) from ⟨w,_,rfl,rw',h2.drop i⟩))) (.wrote ja h1) q⟩⟩
end
def pA (ks:List (Str × Nat)) (τ:Sr):Sr:=ks.map λp=>(τ[p.2]?).getD none
theorem Ap {K:PySem.W.Frag} {J:Hq} {H:Hp} {τ:Sr} {σ:L2.St} (r:lK K J H τ σ) {x:PV} {v:V} (rx:cy K J H x v) (ks:List (Str × Nat)):lK K J H (some x :: pA ks τ) (some v :: dW ks σ):=by
 refine ⟨by simp [pA,dW],λi y e=>?_⟩
 cases i with
 | zero=>rw [T1] at e ⊢;cases e;exact ⟨v,rfl,rx⟩
 | succ i =>
  rw [S6] at e ⊢
  unfold pA at e
  unfold dW
  rw [Sl] at e ⊢
  cases ep:ks[i]? with
  | none=>rw [ep] at e;cases e
  | some p =>
   rw [ep] at e
   have e':(τ[p.2]?).getD none=some y:=Option.some.inj e
   have e2:τ[p.2]?=some (some y):=by
    cases q:τ[p.2]? with
    | none=>rw [q] at e';cases e'
    | some w=>rw [q] at e';exact congrArg some e'
   obtain ⟨v',h1,h2⟩:=r.get _ _ e2
   exact ⟨v',by show some ((σ[p.2]?).getD none)=_;rw [h1];rfl,h2⟩
def Sub (J J':Hq):Prop:=∀a o,J a=some o→J' a=some o
theorem Sub.refl (J:Hq):Sub J J:=λ_ _ h=>h
theorem Sub.put {J:Hq} {D:Addr} {o:HQ} (h:J D=none):Sub J (put J D o):=λa u e=>by
 have ne:a≠D:=by intro z;subst z;rw [h] at e;cases e
 rw [ak ne];exact e
def Pk (it:x6) (J1:Hq) (ks:List (Str × Nat)) (τ:Sr) (tc:kT) (te:dt) (c:PV→Bool) (g:PV→PV):Prop:=it.xs.length < sizeLine∧∀J',Sub J1 J'→it.ok J' ∧
 ∀x∈it.xs,tc (some x :: pA ks τ) J' (λb J2=>b=c x∧J2=J')∧(c x=true→te (some x :: pA ks τ) J' λy J2=>y=g x∧J2=J')
def vt (wi:so) (ks:List (Str × Nat)) (tc:kT) (te:dt):dt:=λτ J Q=>wi τ J λit J1=>∃(c:PV→Bool) (g:PV→PV),Pk it J1 ks τ tc te c g∧Q (.fl ((it.xs.filter c).map g)) J1
def Lw (wi:so) (ks:List (Str × Nat)) (tc:kT) (te:dt):dt:=λτ J Q=>wi τ J λit J1=>∃(c:PV→Bool) (g:PV→PV),Pk it J1 ks τ tc te c g∧∀p,J1 p=none→Q (.ref p) (put J1 p (.lst ((it.xs.filter c).map g)))
def xo:kT:=λ_ J Q=>Q true J
section
variable {X:Cx} {G:G2}
theorem o4 {α:Type} (c:α→Bool) {xs:List α} {i:Nat} {x:α} (h:xs[i]?=some x):(xs.take (i + 1)).filter c=(xs.take i).filter c ++ (if c x=true then [x] else []):=by
 rw [SS,h,TK]
 congr 1
 simp only [Option.toList_some,SU,T2]
theorem uL {K:PySem.W.Frag} {ks:List (Str × Nat)} {tc:kT} {te:dt} {σ:L2.St} {H:Hp} {Q:VK} {τ:Sr} {J:Hq} (a2:wa K G τ J σ H) {it:x6} {J1:Hq} {I:It} {H1:Hp} (ir:tm K it I J1 H1) (r1:Rep K J1 H1) (e1:Ext K J H J1 H1) {c:PV→Bool} {g:PV→PV}
  (w:Pk it J1 ks τ tc te c g)
  (q:∀D H2,H1 D=none→J1 D=none→Rep K (put J1 D (.lst ((it.xs.filter c).map g))) H2→Ext K J1 H1 (put J1 D (.lst ((it.xs.filter c).map g))) H2→Q (.ref D) H2) :
  ∀D,H1 D=none→∃W:Nat→Nat→Hp→Prop,(∃m,W 0 m (upd H1 D (.lst [])))∧∀i m H2,W i m H2→(I.stop i H2∧Q (.ref D) H2) ∨
   (I.go i H2∧∀v H3,I.yld i H2 v H3→LT K G tc (some v :: dW ks σ) H3 λb H4=>if b=true then LE K G te (some v :: dW ks σ) H4 λy H5=>∃ys,H5 D=some (.lst ys)∧ys.length < sizeLine∧∃m',m' < m∧W (i + 1) m' (upd H5 D (.lst (ys ++ [y]))) else ∃m',m' < m∧W (i + 1) m' H4):=by
 intro D hD
 obtain ⟨hlen,w⟩:=w
 have jD:J1 D=none:=r1.free hD
 refine ⟨λi m H2=>m=it.xs.length - i∧i≤it.xs.length∧Rep K (put J1 D (.lst (((it.xs.take i).filter c).map g))) H2∧Ext K J1 H1 (put J1 D (.lst (((it.xs.take i).filter c).map g))) H2,⟨_,rfl,SX _,r1.DJ (xs:=[]) (vs:=[]) hD rfl,.laid hD⟩,?_⟩
 rintro i m H2 ⟨rfl,hi,r2,e2⟩
 obtain ⟨ok,ww⟩:=w _ (Sub.put (o:=.lst (((it.xs.take i).filter c).map g)) jD)
 by_cases hlt:i < it.xs.length
 ·refine .inr ⟨ir.go _ H2 e2 r2 ok i hlt,λv H3 y=>?_⟩
  obtain ⟨x,ex,rx,r3,e3⟩:=ir.yl _ H2 e2 r2 ok i hlt v H3 y
  obtain ⟨hc,he⟩:=ww x (Sv ex)
  have a3:wa K G (some x :: pA ks τ) _ (some v :: dW ks σ) H3:=⟨Ap (a2.sl.ext ((e1.trans e2).trans e3)) rx ks,r3,((a2.ext.trans e1).trans e2).trans e3⟩
  refine ⟨_,_,_,a3,hc,λb J4 H4 r4 e4 ⟨eb,ej⟩=>?_⟩
  subst ej
  cases hb:c x with
  | false =>
   rw [eb,hb]
   simp only [SE,if_false]
   refine ⟨_,by omega,rfl,hlt,?_⟩
   rw [o4 c ex,hb]
   simp only [SE,if_false,S_]
   exact ⟨r4,(e2.trans e3).trans e4⟩
  | true =>
   rw [eb,hb]
   simp only [if_true]
   refine ⟨_,_,_,a3.go r4 e4,he hb,λz J5 u H5 rz r5 e5 ⟨ez,ej⟩=>?_⟩
   subst ej ez
   obtain ⟨ys,h5,ry⟩:=r5 D _ aq
   have ll:ys.length≤i:=by
    rw [← ry.length,Sg]
    exact SH (Tu _ _) (by rw [SK];omega)
   have r6:=r5.wrote (ys:=((it.xs.take i).filter c).map g ++ [g x]) (vs:=ys ++ [u]) aq h5 (ry.append (show aT K _ H5 [g x] [u] from ⟨u,[],rfl,rz,rfl⟩))
   have e6:=Ext.wrote (K:=K) (ys:=((it.xs.take i).filter c).map g ++ [g x]) (vs:=ys ++ [u]) (J:=put J1 D (.lst (((it.xs.take i).filter c).map g))) aq h5
   rw [bW] at r6 e6
   refine ⟨ys,h5,by omega,_,by omega,rfl,hlt,?_⟩
   rw [o4 c ex,hb,if_pos rfl,Sk]
   exact ⟨r6,(((e2.trans e3).trans e4).trans e5).trans e6⟩
 ·have ei:i=it.xs.length:=by omega
  subst ei
  rw [SV] at r2 e2 ok
  exact .inl ⟨ir.stop _ H2 e2 r2 ok,q D H2 hD jD r2 e2⟩
theorem freeze {K:PySem.W.Frag} {J1:Hq} {H2:Hp} {D:Addr} {xs:List PV} (jD:J1 D=none) (r:Rep K (put J1 D (.lst xs)) H2):cy K J1 H2 (.fl xs) (.ref D)∧Rep K J1 H2∧Ext K (put J1 D (.lst xs)) H2 J1 H2:=by
 obtain ⟨ys,h,ry⟩:=r D _ aq
 have less:∀a,J1 a=put J1 D (.lst xs) a∨J1 a=none:=λa=>by
  by_cases e:a=D
  ·subst e;exact .inr jD
  ·rw [ak e];exact .inl rfl
 have e:=Ext.less (K:=K) (H:=H2) less
 exact ⟨⟨D,ys,rfl,.inl ⟨jD,.inl h⟩,e.jy ry⟩,r.less less,e⟩
theorem DM {wi:so} {ks:List (Str × Nat)} {tc:kT} {te:dt}:∀σ H Q,LE X.K G (vt wi ks tc te) σ H Q→HZ (LI X.K G wi) ks (LT X.K G tc) (LE X.K G te) σ H Q:=λσ H Q ⟨τ,J,Q2,a2,h,k⟩ =>
 ⟨τ,J,_,a2,h,λit J1 I H1 ir r1 e1 ⟨c,g,w,q⟩=>uL (Q:=Q) a2 ir r1 e1 w λD H2 hD jD r2 e2=>let ⟨x1,x2,x3⟩:=freeze jD r2;k _ J1 _ H2 x1 x2 ((e1.trans e2).trans x3) q⟩
theorem DN {wi:so} {ks:List (Str × Nat)} {tc:kT} {te:dt}:∀σ H Q,LE X.K G (Lw wi ks tc te) σ H Q→HZ (LI X.K G wi) ks (LT X.K G tc) (LE X.K G te) σ H Q:=λσ H Q ⟨τ,J,Q2,a2,h,k⟩ =>
 ⟨τ,J,_,a2,h,λit J1 I H1 ir r1 e1 ⟨c,g,w,q⟩=>uL (Q:=Q) a2 ir r1 e1 w λD H2 hD jD r2 e2=>k (.ref D) _ _ H2 rfl r2 (e1.trans e2) (q D jD)⟩
theorem wJ {wi:so} {ks:List (Str × Nat)} {te:dt}:∀σ H Q,LE X.K G (vt wi ks xo te) σ H Q→Pa (LI X.K G wi) ks (LE X.K G te) σ H Q:=λσ H Q ⟨τ,J,Q2,a2,h,k⟩ =>
 ⟨τ,J,_,a2,h,λit J1 I H1 ir r1 e1 ⟨c,g,w,q⟩ D hD=>by
  obtain ⟨W,w0,turn⟩:=uL (Q:=Q) a2 ir r1 e1 w (λD H2 hD jD r2 e2=>let ⟨x1,x2,x3⟩:=freeze jD r2;k _ J1 _ H2 x1 x2 ((e1.trans e2).trans x3) q) D hD
  refine ⟨W,w0,λi m H2 hw=>?_⟩
  rcases turn i m H2 hw with z | ⟨go,z⟩
  ·exact .inl z
  ·refine .inr ⟨go,λv H3 y=>?_⟩
   obtain ⟨τ',J',Q',a',t',k'⟩:=z v H3 y
   have:=k' true J' H3 a'.hp .refl t'
   simpa using this⟩
variable {elt iter cnd:Expr} {x y:Str} {px py:Pos} {sc:Scope} {pos spos:Pos} {wi:so} {te:dt} {tc:kT} {i:Nat}
theorem Js (osc:Scope) (N:List Str) (ks:List (Str × Nat)) (hc:X.calm=true) (ho:X.env.scope=osc) (hN:X.N=N) (hi:RI X G (.Name x px) iter wi) (he:∀cl C s₀ H₀ fp pins,RE (fF X sc cl C x ks s₀ H₀ fp pins) G elt te)
  (ok:cD sc osc N x ks:=by decide +kernel) (hs:∀x,foldedSetIterable iter X.env x=pure x:=by intro _;rfl):RE X G (.ListComp elt [⟨.Name x px,iter,[],0⟩] sc pos) (vt wi ks xo te) :=
 ⟨kY (Jd osc N ks hc ho hN hi.run (λcl C s₀ H₀ fp pins=>(he cl C s₀ H₀ fp pins).run) ok hs) wJ⟩
theorem mF {t:dt} {u:TE} (h:∀σ H Q,LE X.K G t σ H Q→u σ H Q):∀D σ H,LS X.K G (sU t (Gv i)) D σ H→u σ H λv H1=>D.nx (σ.set i (some v)) H1:=λD σ H ⟨τ,J,D2,a2,q,g⟩ =>
 h σ H _ ⟨τ,J,_,a2,q,λx J' v H' rx rr ee q=>g.nx _ J' _ H' ((a2.sl.ext ee).set i rx) rr ee q⟩
theorem LC (osc:Scope) (N:List Str) (ks:List (Str × Nat)) (hc:X.calm=true) (ho:X.env.scope=osc) (hN:X.N=N) (hnd:X.N.Nodup) (hy:X.N[i]?=some y) (hl:Loc X.env.scope y) (hi:RI X G (.Name x px) iter wi) (he:∀cl C s₀ H₀ fp pins,RE (fF X sc cl C x ks s₀ H₀ fp pins) G elt te) (hcn:∀cl C s₀ H₀ fp pins,RT (fF X sc cl C x ks s₀ H₀ fp pins) G cnd tc)
  (ok:cD sc osc N x ks:=by decide +kernel) (hs:∀x,foldedSetIterable iter X.env x=pure x:=by intro _;rfl) (hsw:swapsWith (.ListComp elt [⟨.Name x px,iter,[cnd],0⟩] sc pos) (some (.Name y py)) spos.line X.env=pure true:=by rfl) (hf:X.fn y=true∨X.env.scope.names.lookup y=some .local:=by first | exact .inl rfl | exact .inr rfl | assumption) :
  RS X G (.Assign [.Name y py] (.ListComp elt [⟨.Name x px,iter,[cnd],0⟩] sc pos) spos) (sU (vt wi ks tc te) (Gv i)) :=
 ⟨xh (yV osc N ks hc ho hN hnd hy hl hi.run (λcl C s₀ H₀ fp pins=>(he cl C s₀ H₀ fp pins).run) (λcl C s₀ H₀ fp pins=>vn (hcn cl C s₀ H₀ fp pins).run) ok hs hsw hf) (mF DM)⟩
theorem HI (osc:Scope) (N:List Str) (ks:List (Str × Nat)) (hc:X.calm=true) (ho:X.env.scope=osc) (hN:X.N=N) (hnd:X.N.Nodup) (hy:X.N[i]?=some y) (hl:Loc X.env.scope y) (hi:RI X G (.Name x px) iter wi) (he:∀cl C s₀ H₀ fp pins,RE (fF X sc cl C x ks s₀ H₀ fp pins) G elt te) (hcn:∀cl C s₀ H₀ fp pins,RT (fF X sc cl C x ks s₀ H₀ fp pins) G cnd tc)
  (ok:cD sc osc N x ks:=by decide +kernel) (hs:∀x,foldedSetIterable iter X.env x=pure x:=by intro _;rfl) (hsw:swapsWith (.ListComp elt [⟨.Name x px,iter,[cnd],0⟩] sc pos) (some (.Name y py)) spos.line X.env=pure true:=by rfl) (hf:X.fn y=true∨X.env.scope.names.lookup y=some .local:=by first | exact .inl rfl | exact .inr rfl | assumption) :
  RS X G (.Assign [.Name y py] (.ListComp elt [⟨.Name x px,iter,[cnd],0⟩] sc pos) spos) (sU (Lw wi ks tc te) (Gv i)) :=
 ⟨xh (yV osc N ks hc ho hN hnd hy hl hi.run (λcl C s₀ H₀ fp pins=>(he cl C s₀ H₀ fp pins).run) (λcl C s₀ H₀ fp pins=>vn (hcn cl C s₀ H₀ fp pins).run) ok hs hsw hf) (mF DN)⟩
theorem OC (osc:Scope) (N:List Str) (ks:List (Str × Nat)) (hc:X.calm=true) (ho:X.env.scope=osc) (hN:X.N=N) (hnd:X.N.Nodup) (hy:X.N[i]?=some y) (hl:Loc X.env.scope y) (hi:RI X G (.Name x px) iter wi) (he:∀cl C s₀ H₀ fp pins,RE (fF X sc cl C x ks s₀ H₀ fp pins) G elt te)
  (ok:cD sc osc N x ks:=by decide +kernel) (hs:∀x,foldedSetIterable iter X.env x=pure x:=by intro _;rfl) (hsw:swapsWith (.ListComp elt [⟨.Name x px,iter,[],0⟩] sc pos) (some (.Name y py)) spos.line X.env=pure true:=by rfl) (hf:X.fn y=true∨X.env.scope.names.lookup y=some .local:=by first | exact .inl rfl | exact .inr rfl | assumption) :
  RS X G (.Assign [.Name y py] (.ListComp elt [⟨.Name x px,iter,[],0⟩] sc pos) spos) (sU (vt wi ks xo te) (Gv i)) :=
 ⟨xh (Je osc N ks hc ho hN hnd hy hl hi.run (λcl C s₀ H₀ fp pins=>(he cl C s₀ H₀ fp pins).run) ok hs hsw hf) (mF wJ)⟩
end
end Ov
namespace Ov
open PySem PySem.Spec PyProof.Rows
section
open HT (lexLt)
def lS:List Str→List Str→Bool
 | [],[]=>false
 | [],_ :: _=>true
 | _ :: _,[]=>false
 | x :: xs,y :: ys=>if x=y then lS xs ys else decide (x.cps.toList < y.cps.toList)
theorem n4 (x y:Str) (xs ys:List Str):lS (x :: xs) (y :: ys)=if x=y then lS xs ys else decide (x.cps.toList < y.cps.toList):=rfl
theorem mG:lS [] []=false:=rfl
theorem sD (y:Str) (ys:List Str):lS [] (y :: ys)=true:=rfl
theorem sC (x:Str) (xs:List Str):lS (x :: xs) []=false:=rfl
theorem Df (A:Around) (s:Shared) (a:Str) (t:Tok) (c:Str) (u:Tok):∃e,SeqAt.EqAt A s (.str a t) (.str c u) e∧(e=true↔a=c) :=
 ⟨(a == c),SeqAt.EqAt.str_str a t c u,by simp⟩
theorem EN (A:Around) (s:Shared) (a:Str) (t:Tok) (c:Str) (u:Tok) (prog:Program) (w:World) (E:Value→Shared→Prop) (Q:Value→Shared→Prop) (h:Q (.bool (decide (a.cps.toList < c.cps.toList))) s) :
  wpAny (model prog w) A (richCompare .Lt (.str a t) (.str c u)) Q E s :=
 (PyProof.Rows.lt_str h:wpAny (model prog w) A (compareOp .Lt (.str a t) (.str c u)) Q E s)
open PySem.SeqAt
open PySem.AutoSeq1 (wpAny_loadPart')
open PySem.MeetsSeq PySem.MeetsSeq2 PySem.MeetsSeq3
theorem s_ (l b:Addr) (items items2:Array Value) (n n2:Nat) (dd dd2:Option Addr) (sl sl2:Array (Option Value)) (ns ms:List Str) (hi:StrsAre items.toList ns) (hj:StrsAre items2.toList ms) :
  Meets (Builtin.«tuple.__lt__» ⟨[.ref l,.ref b],[]⟩)
   (λ_ R s=>s.heap.get? l=some { cls:=.type "tuple",dict:=dd,data:=.seq items n,slots:=sl }∧s.heap.get? b=some { cls:=.type "tuple",dict:=dd2,data:=.seq items2 n2,slots:=sl2 } ∧
    R (.ok (.ret (.bool (lS ns ms)))) s) :=
 .of_wp λprog w A R s h=>by
  obtain ⟨hp,g,d,tk,os⟩:=s;obtain ⟨hl,hb,h⟩:=h
  have f2:=AutoSeq1.sub_tuple_tuple
  have z1:items.size=ns.length:=by rw [← hi.length];simp
  have z2:items2.size=ms.length:=by rw [← hj.length];simp
  wp_walk using wpAny_loadPart' hl,wpAny_loadPart' hb,wpAny_forIn_list _ (λrest b s'=>b.1=none∧s'=⟨hp,g,d,tk,os⟩∧∃(vs ws:List Value) (ns' ms':List Str),rest=vs.zip ws ∧
   StrsAre vs ns'∧StrsAre ws ms'∧ns'.length + items2.size=ms'.length + items.size∧R (.ok (.ret (.bool (lS ns' ms')))) ⟨hp,g,d,tk,os⟩) _
  case turn =>
   rintro ⟨y,x⟩ rest b s' ⟨hb',rfl,vs,ws,ns',ms',hz,hvi,hwi,hlen,hR⟩
   cases hvi with
   | nil=>rw [List.zip_nil_left] at hz;cases hz
   | cons a t hvi' =>
    cases hwi with
    | nil=>rw [List.zip_nil_right] at hz;cases hz
    | cons c u hwi' =>
     rw [UM] at hz
     injection hz with hyx hrest
     injection hyx with hy hx
     subst hy hx
     rw [n4] at hR
     simp only [SJ] at hlen
     obtain ⟨e,he,hiff⟩:=Df A.in1 ⟨hp,g,d,tk,os⟩ a t c u
     refine wpAny_bind (he prog w _ _ ?_)
     cases e with
     | true =>
      rw [if_pos (hiff.mp rfl)] at hR
      wp_walk
      exact ⟨rfl,rfl,_,_,_,_,hrest,hvi',hwi',by omega,hR⟩
     | false =>
      rw [if_neg (λq=>absurd (hiff.mpr q) SD)] at hR
      have hri:=EN A.in1 ⟨hp,g,d,tk,os⟩ a t c u prog w
      wp_walk using hri
      exact ⟨_,rfl,by simpa using hR⟩
  case fin =>
   rintro ⟨b1,b2⟩ s' ⟨hb',rfl,vs,ws,ns',ms',hz,hvi,hwi,hlen,hR⟩
   simp only at hb'
   subst hb'
   have hv:lS ns' ms'=decide (items.size < items2.size):=by
    cases hvi with
    | nil =>
     cases hwi with
     | nil =>
      simp only [TL] at hlen
      rw [mG]
      exact (decide_eq_false (by omega)).symm
     | cons c u hw =>
      simp only [TL,SJ] at hlen
      rw [sD]
      exact (decide_eq_true (by omega)).symm
    | cons a t hv =>
     cases hwi with
     | nil =>
      simp only [TL,SJ] at hlen
      rw [sC]
      exact (decide_eq_false (by omega)).symm
     | cons c u hw =>
      rw [UM] at hz
      cases hz
   rw [hv] at hR
   wp_walk
   exact ⟨_,rfl,by simpa [Builtin.Tuple.tupleCompareSizes] using hR⟩
  case h =>
   exact ⟨rfl,rfl,items.toList,items2.toList,ns,ms,rfl,hi,hj,by omega,h⟩
section
variable {prog:Program} {w:World} {A:Around} {E:Value→Shared→Prop} {s:Shared}
theorem yA {l b:Addr} {items items2:Array Value} {ns ms:List Str} {Q:Value→Shared→Prop} (hl:IsTup s.heap l items) (hb:IsTup s.heap b items2) (hi:StrsAre items.toList ns) (hj:StrsAre items2.toList ms)
  (hu:A.units < cLine) (h:Q (.bool (lS ns ms)) s):wpAny (model prog w) A (compareOp .Lt (.ref l) (.ref b)) Q E s:=by
 obtain ⟨⟨cls,dd,data,sl⟩,ho,hc,n,hd⟩:=id hl
 obtain ⟨⟨cls2,dd2,data2,sl2⟩,ho2,hc2,n2,hd2⟩:=id hb
 simp only at hc hd hc2 hd2
 subst hc hd hc2 hd2
 exact richCompare_meets_room (op:=.Lt) ⟨_,ho,rfl⟩ ⟨_,ho2,rfl⟩ PySem.F.slot_tuple_lt PySem.F.entry_tuple_lt (PySem.F.args_tuple_lt_2 _ _) (s_ l b items items2 n n2 dd dd2 sl sl2 ns ms hi hj)
  ⟨ho,ho2,show Value.bool (lS ns ms)≠Value.notImplemented∧Q (.bool (lS ns ms)) s from ⟨(λx=>nomatch x),h⟩⟩ hu
end
end
open L2 (V HO Hp Inv Cx VK XK TE TT TA TS TG o9 TI TO jv Ends uv Loc Gl Rd RelV Vals fh wb b7 o5 rK o7 jt R2 upd aA aF dC gJ Sp p5 It bD cV bS Passes oP aI Meth Mk Binds aQ cE aw di fT eQ)
section
variable {X:Cx} {K:PySem.W.Frag}
theorem G8 (hu:X.A.units < cLine):fh X (compareOp .Lt) (λx y H Q=>∃a b ns ms,x=.ref a∧y=.ref b∧gJ X.K H a (ns.map V.str)∧gJ X.K H b (ms.map V.str)∧Q (.bl (lS ns ms)) H):=by
 intro pins s σ H x y v u Q I rx ry h
 obtain ⟨a,b,ns,ms,rfl,rfl,ha,hb,q⟩:=h
 cases rx;cases ry
 obtain ⟨is,r1,t1,_⟩:=I.tuple ha
 obtain ⟨js,r2,t2,_⟩:=I.tuple hb
 exact yA t1 t2 (by simpa using jf r1) (by simpa using jf r2) hu ⟨.bl _,H,I,rfl,q⟩
theorem rq {J:Hq} {H:Hp}:∀{ns:List Str} {vs:List V},aT K J H (ns.map PV.str) vs→vs=ns.map V.str
 | [],_,h=>h
 | n :: ns,_,⟨v,us,e,h,k⟩=>by subst e;cases h;rw [rq k];rfl
def Jh:mq:=λx y J Q=>∃ns ms,x=.tup (ns.map .str)∧y=.tup (ms.map .str)∧Q (.bl (lS ns ms)) J
theorem G_ (hu:X.A.units < cLine):md X (compareOp .Lt) Jh:=⟨_,G8 hu,λJ H x y v w Q2 Q rx ry r ⟨ns,ms,ex,ey,q⟩ k=>by
 subst ex ey
 obtain ⟨a,vs,rfl,h1,h2⟩:=rx
 obtain ⟨b,ws,rfl,h3,h4⟩:=ry
 cases rq h2;cases rq h4
 exact ⟨a,b,ns,ms,rfl,rfl,h1,h3,k (.bl _) J _ H rfl r .refl q⟩⟩
theorem G7:fh X (binaryOp .Add) (λx y H Q=>∃l b xs zs,x=.ref l∧y=.ref b∧dC X.K H l xs∧dC X.K H b zs∧xs.length + zs.length≤sizeLine∧∀p,H p=none→Q (.ref p) (upd H p (.lst (xs ++ zs)))):=by
 intro pins s σ H x y v u Q I rx ry h
 obtain ⟨l,b,xs,zs,rfl,rfl,hH,hB,hz,q⟩:=h
 cases rx;cases ry
 obtain ⟨its,r,pl,_⟩:=I.list hH
 obtain ⟨its2,r2,pl2,_⟩:=I.list hB
 have l1:=r.length
 have l2:=r2.length
 obtain ⟨⟨c1,d1,da1,sl1⟩,n,e,hc,hd,hda⟩:=pl
 obtain ⟨⟨c2,d2,da2,sl2⟩,n2,e2,hc2,hd2,hda2⟩:=pl2
 simp only at hc hd hda hc2 hd2 hda2
 subst hc hd hda hc2 hd2 hda2
 refine concat_meets ⟨_,e,rfl⟩ ⟨_,e2,rfl⟩ noFill_list_add seq_list_add PySem.F.slot_list_add PySem.F.entry_list_add (PySem.F.args_list_add_2 _ _) (list_addW l b its.toArray its2.toArray n n2 none none sl1 sl2 (by simp only [Sn];omega)) ⟨e,e2,?_⟩
 have ea:its.toArray ++ its2.toArray=(its ++ its2).toArray:=by simp
 rw [ea]
 exact ⟨.ref _,_,I.P6 (t':=s.toks) (r.append r2) (by rw [SF];omega),rfl,q _ I.fresh⟩
def Jg:mq:=λx y J Q=>∃xs ys,rL J x=some xs∧rL J y=some ys∧xs.length + ys.length≤sizeLine∧Q (.fl (xs ++ ys)) J
theorem Aa:md X (binaryOp .Add) Jg:=⟨_,G7,λJ H x y v w Q2 Q rx ry r ⟨xs,ys,ex,ey,hl,q⟩ k=>by
 obtain ⟨a,vs,rfl,h1,h2⟩:=mH rx r ex
 obtain ⟨b,ws,rfl,h3,h4⟩:=mH ry r ey
 refine ⟨a,b,vs,ws,rfl,rfl,h1,h3,by rw [← h2.length,← h4.length];exact hl,λp hp=>?_⟩
 obtain ⟨x1,x2,x3⟩:=qy r (h2.append h4) hp
 exact k _ J _ _ x1 x2 x3 q⟩
end
def ff (K:PySem.W.Frag) (C:Addr) (m qual:Str) (st:Stmt):Prop:=∃f fd,Meth K C m f∧cE K m qual st f fd
structure fe (K:PySem.W.Frag) (mg:Str→Option Value) (x:Str) (C:Addr):Prop where
 cl:oP K C
 m:mg x=some (.ref C)
 mkz:PySem.W.makesIn K C=true
 kp:PySem.W.keepIn K (.ref C)=true
theorem bR {K:PySem.W.Frag} {C f:Addr} {m qual:Str} {st:Stmt} {od an:Option Addr} {sl:Array (Option Value)} {oc kV dc pm cd ct:Value} (a:PySem.W.findIn K (.ref C) m=some (some (.ref f))) (i:PySem.W.isFn K (.ref f)=true)
  (l:K.lookup f=some ⟨oc,od,.func (PySem.W.fnOf m qual (L2.dk st) (L2.bV st) (L2.ai st) .none kV dc pm an cd ct),sl⟩) (c:PySem.W.codeIn K cd qual=true) (k:PySem.W.keepIn K (.ref f)=true):ff K C m qual st :=
 ⟨f,_,⟨a,i,k⟩,L2.yo l c k⟩
theorem uI {K:PySem.W.Frag} {h:Heap} {mg:Str→Option Value} {x:Str} {C:Addr} (X:K.In h) (G:h.Ns mainGlobals mg) (aC:PySem.W.nsIn K mainGlobals x=some (some (.ref C)))
  (pg:PySem.W.plainGet K C Str.empty=true) (hd:PySem.W.hasDictIn K C=true) (po:PySem.W.plainOver K C=true) (sa:PySem.W.findIn K (.ref C) "__setattr__"=some (some (.builtin "object.__setattr__"))) (mk:PySem.W.makesIn K C=true) (kc:PySem.W.keepIn K (.ref C)=true):fe K mg x C :=
 ⟨⟨pg,hd,po,sa⟩,PySem.W.mg_of X G aC,mk,kc⟩
section
variable {P:Program} {w:World} {K:PySem.W.Frag} {mg:Str→Option Value} {base:Heap}
theorem ff.uP {C:Addr} {m qual:Str} {st:Stmt} {k:Nat} {ps:List Str} {sp:cS} (D:ff K C m qual st) (cl:oP K C) (h:∀f fd,cE K m qual st f fd→aQ P w K mg base (dn P w) k f fd ps (d4 K sp))
  (hb:∀(kV doc pm:Value) (an:Option Addr) (cdv ct:Value) (us:List Value),us.length=ps.length→bindArgs (PySem.W.fnOf m qual (L2.dk st) (L2.bV st) (L2.ai st) .none kV doc pm an cdv ct) ⟨us,[]⟩=pure (ps.zip us)):dq P w K mg base C k m ps sp:=by
 obtain ⟨f,fd,hm,F⟩:=D
 exact ⟨cl,f,fd,hm,h f fd F,F.binds hb⟩
theorem ff.P9 {x:Str} {C:Addr} {qual:Str} {st:Stmt} {k:Nat} {ps:List Str} {sp:cS} (D:ff K C "__init__" qual st) (kd:fe K mg x C) (h:∀f fd,cE K "__init__" qual st f fd→aQ P w K mg base (dn P w) k f fd ps (d4 K sp))
  (hb:∀(kV doc pm:Value) (an:Option Addr) (cdv ct:Value) (us:List Value),us.length=ps.length→bindArgs (PySem.W.fnOf "__init__" qual (L2.dk st) (L2.bV st) (L2.ai st) .none kV doc pm an cdv ct) ⟨us,[]⟩=pure (ps.zip us)):Bf P w K mg base C k x ps sp:=by
 obtain ⟨f,fd,hm,F⟩:=D
 exact ⟨kd.m,f,fd,⟨kd.mkz,hm.at_,hm.fn,kd.kp⟩,h f fd F,F.binds hb⟩
end
theorem Mj {n:Nat} {F:List Value→Prop} (h:∀a us,us.length=n→F (a :: us)) (us:List Value) (hu:us.length=n + 1):F us:=by
 cases us with
 | nil=>cases hu
 | cons a us=>exact h a us (Nat.succ.inj hu)
theorem RX {F:List Value→Prop} (h:F []) (us:List Value) (hu:us.length=0):F us:=by
 cases us with
 | nil=>exact h
 | cons a us=>cases hu
theorem C2 {F:List Value→Prop} (h:∀a,F [a]):∀us:List Value,us.length=1→F us:=Mj λa=>RX (F:=λus=>F (a :: us)) (h a)
theorem ku {F:List Value→Prop} (h:∀a b,F [a,b]):∀us:List Value,us.length=2→F us:=Mj λa=>C2 (F:=λus=>F (a :: us)) (h a)
theorem Iu {F:List Value→Prop} (h:∀a b c,F [a,b,c]):∀us:List Value,us.length=3→F us:=Mj λa=>ku (F:=λus=>F (a :: us)) (h a)
theorem Kc {F:List Value→Prop} (h:∀a b c d,F [a,b,c,d]):∀us:List Value,us.length=4→F us:=Mj λa=>Iu (F:=λus=>F (a :: us)) (h a)
theorem Rj {F:List Value→Prop} (h:∀a b c d e,F [a,b,c,d,e]):∀us:List Value,us.length=5→F us:=Mj λa=>Kc (F:=λus=>F (a :: us)) (h a)
theorem RY {F:List Value→Prop} (h:∀a b c d e f,F [a,b,c,d,e,f]):∀us:List Value,us.length=6→F us:=Mj λa=>Rj (F:=λus=>F (a :: us)) (h a)
end Ov
namespace Ov
open PySem PySem.Spec PyProof.Rows
open L2 (V HO Hp Inv Cx VK XK Rd dC gJ Sp bD bS Passes aQ cE aw di upd aA aF)
def fr (q:Rat):PV:=.tup [.int q.num,.int (q.den:Int)]
theorem Kt (a b:Rat):(fr a=fr b)=(a=b):=by
 apply propext
 constructor
 ·intro h
  unfold fr at h
  simp only [PV.tup.injEq,List.cons.injEq,PV.int.injEq,and_true] at h
  exact Rat.ext h.1 (by have:=h.2;omega)
 ·intro h;rw [h]
theorem Dl (a:Rat):fr a=.tup [.int a.num,.int (a.den:Int)]:=rfl
theorem Kz (J:Hq) (q:Rat):e9 J (fr q) (.int 0)=some (.int q.num):=dj _ _
theorem KA (J:Hq) (q:Rat):e9 J (fr q) (.int 1)=some (.int (q.den:Int)):=eZ _ _ _
theorem OT (J:Hq) (q:Rat):Cw J (fr q)=some "tuple":=rfl
theorem KN (J:Hq) (q:Rat):yu J (fr q)=some 2:=rfl
theorem EA (q:Rat):nF (fr q)=true:=by simp [fr,nF,iZ]
theorem qp (q:Rat):By (fr q)=false:=rfl
theorem Kq (q:Rat):dep (gu (fr q))=1:=by simp [fr,gu,gw,dep,dQ]
theorem MW (q:Rat):Iw (fr q)=True:=eq_true ⟨EA q,by rw [Kq];decide⟩
theorem Ki (i:Int):Iw (.int i)=True:=eq_true ⟨by simp [nF],by simp [gu,dep]⟩
theorem Kk (i:Str):Iw (.str i)=True:=eq_true ⟨by simp [nF],by simp [gu,dep]⟩
theorem MV (i:Bool):Iw (.bl i)=True:=eq_true ⟨by simp [nF],by simp [gu,dep]⟩
theorem Kj:Iw .non=True:=eq_true ⟨by simp [nF],by simp [gu,dep]⟩
theorem Ht (i:Int):nF (.int i)=true:=by simp [nF]
theorem Ag (i:Str):nF (.str i)=true:=by simp [nF]
theorem yY (i:Bool):nF (.bl i)=true:=by simp [nF]
theorem Hu:nF .non=true:=by simp [nF]
theorem Ez (xs:List PV):nF (.fl xs)=iZ xs:=by simp [nF]
theorem tW (x:PV) (xs:List PV):iZ (x :: xs)=(nF x && iZ xs):=by simp [iZ]
theorem EC:iZ []=true:=by simp [iZ]
theorem xj {α:Type} (g:α→PV) (h:∀a,nF (g a)=true):∀xs:List α,iZ (xs.map g)=true
 | []=>by simp [iZ]
 | x :: xs=>by simp [iZ,h,xj g h xs]
theorem eq_int (a b:Int):eqQ (.int a) (.int b)=decide (a=b):=by unfold eqQ gu kD;rw [UA]
theorem eq_str (a b:Str):eqQ (.str a) (.str b)=decide (a=b):=by
 unfold eqQ gu kD
 cases h:a == b with
 | true=>simp at h;simp [h]
 | false=>simp at h;simp [h]
theorem MY (a b:Bool):eqQ (.bl a) (.bl b)=decide (a=b):=by unfold eqQ gu kD;rw [UA]
def yh (xs ys:List PV):Bool:=jH (gw xs) (gw ys)
theorem yj (xs ys:List PV):eqQ (.tup xs) (.tup ys)=yh xs ys:=by unfold eqQ gu kD yh;rfl
theorem gd (x y:PV) (xs ys:List PV):yh (x :: xs) (y :: ys)=(eqQ x y && yh xs ys):=by unfold yh eqQ;simp [gw,jH]
theorem uC:yh [] []=true:=by unfold yh;simp [gw,jH]
theorem eq_self (x:PV):eqQ x x=true:=wA _
theorem Dh (a b:Rat):eqQ (fr a) (fr b)=decide (a=b):=by
 rw [Dl,Dl,yj,gd,gd,uC,eq_int,eq_int,TN,← Ud]
 exact decide_eq_decide.mpr (by rw [HE])
theorem Sd (a b c:PV):kQ [a,b,c] (some 1) none=[b,c]:=rfl
theorem L5:l9 "int" "int"=some true:=by simp [l9]
theorem Ij:l9 "int" "bool"=some false:=by simp [l9]
theorem OU:l9 "bool" "bool"=some true:=by simp [l9]
theorem L6:l9 "str" "str"=some true:=by simp [l9]
theorem L7:l9 "tuple" "tuple"=some true:=by simp [l9]
theorem Ik:l9 "list" "list"=some true:=by simp [l9]
theorem dD {n:Nat} (h:n≤1000):n≤sizeLine:=T_ (L2.aZ h)
theorem IP:(0≤sizeLine)=True:=eq_true (SX _)
theorem Nf:(1≤sizeLine)=True:=eq_true (dD (by decide))
theorem Ng:(2≤sizeLine)=True:=eq_true (dD (by decide))
theorem Nh:(3≤sizeLine)=True:=eq_true (dD (by decide))
theorem Ni:(4≤sizeLine)=True:=eq_true (dD (by decide))
section
variable (J:Hq) (xs:List PV) (a:Addr) (i:Int) (b:Bool) (z:Str) (T:String)
theorem PX:e9 J (.tup xs) (.int i)=di xs i:=rfl
theorem PU:e9 J (.fl xs) (.int i)=di xs i:=rfl
theorem Na:e9 J (.ref a) (.int i)=(match J a with | some (.lst xs)=>di xs i | _=>none):=rfl
theorem P7:rL J (.fl xs)=some xs:=rfl
theorem P8:rL J (.ref a)=(match J a with | some (.lst xs)=>some xs | _=>none):=rfl
theorem Nd:yu J (.tup xs)=some xs.length:=rfl
theorem Nc:yu J (.fl xs)=some xs.length:=rfl
theorem IL:yu J (.ref a)=(match J a with | some (.lst xs)=>some xs | _=>none).map TV:=rfl
theorem QQ:Cw J .non=some "NoneType":=rfl
theorem OS:Cw J (.bl b)=some "bool":=rfl
theorem QP:Cw J (.int i)=some "int":=rfl
theorem QU:Cw J (.str z)=some "str":=rfl
theorem QV:Cw J (.tup xs)=some "tuple":=rfl
theorem QN:Cw J (.fl xs)=some "list":=rfl
theorem QR:Cw J (.ref a)=(match J a with | some (.lst _)=>some "list" | some (.dct _ _)=>some "dict" | _=>none):=rfl
theorem ON:v9 J .non=some false:=rfl
theorem JC:v9 J (.bl b)=some b:=rfl
theorem OM:v9 J (.int i)=some (i != 0):=rfl
theorem OP:v9 J (.tup xs)=some (!xs.isEmpty):=rfl
theorem OL:v9 J (.fl xs)=some (!xs.isEmpty):=rfl
theorem OO:v9 J (.ref a)=(match J a with | some (.lst xs)=>some (!xs.isEmpty) | some (.dct kvs _)=>some (!kvs.isEmpty) | _=>none):=rfl
theorem PQ:O4 J (.fl xs)=some ⟨xs,λ_=>True⟩:=rfl
theorem PR:O4 J (.ref a)=(match J a with | some (.lst xs)=>some ⟨xs,λJ'=>J' a=some (.lst xs)⟩ | _=>none):=rfl
theorem M7:By .non=true:=rfl
theorem PH:By (.bl b)=false:=rfl
theorem PK:By (.int i)=false:=rfl
theorem PM:By (.str z)=false:=rfl
theorem PN:By (.tup xs)=false:=rfl
theorem PJ:By (.fl xs)=false:=rfl
theorem PL:By (.ref a)=false:=rfl
theorem QK:Mz T J (.fl xs)=(T="list"):=rfl
theorem QM:Mz T J (.str z)=(T="str"):=rfl
theorem QL:Mz T J (.ref a)=((T="list"∧∃xs,J a=some (.lst xs))∨(T="dict"∧∃kvs ep,J a=some (.dct kvs ep))):=rfl
end
def Fo (it:x6) (g:zt) (tb:iG) (D:En) (τ:Sr) (J1:Hq):Prop:=∃Pv:Nat→Sr→Hq→Prop,Pv 0 τ J1∧(∀i τ J,Pv i τ J→it.ok J) ∧
 (∀i x τ J,it.xs[i]?=some x→Pv i τ J→g x τ J λτ2 J2=>tb { D with nx:=Pv (i + 1),ct:=Pv (i + 1),bk:=D.nx } τ2 J2)∧∀τ J,Pv it.xs.length τ J→D.nx τ J
theorem Hz (wi:so) (g:zt) (tb:iG) (D:En) (τ:Sr) (J:Hq):N' wi g tb D τ J=wi τ J λit J1=>Fo it g tb D τ J1:=rfl
structure cb (mg:Str→Option Value):Prop extends Cs mg where
 str:mg "str"=none
 dict:mg "dict"=none
 max:mg "max"=none
 zip:mg "zip"=none
 enumerate:mg "enumerate"=none
def nH (J' J:Hq):Prop:=∀a,J' a=J a∨J' a=none
def Fg (Q:PV→Hq→Prop) (v:PV) (J:Hq):Prop:=∃x J',nH J' J∧(x=v∨∃a xs,v=.ref a∧x=.fl xs∧J a=some (.lst xs)∧J' a=none)∧Q x J'
theorem Fg.same {Q:PV→Hq→Prop} {v:PV} {J:Hq} (h:Q v J):Fg Q v J:=⟨v,J,λ_=>.inl rfl,.inl rfl,h⟩
theorem Fg.less {Q:PV→Hq→Prop} {v:PV} {J J':Hq} (l:nH J' J) (h:Q v J'):Fg Q v J:=⟨v,J',l,.inl rfl,h⟩
theorem Fg.pd {Q:PV→Hq→Prop} {a:Addr} {xs:List PV} {J J':Hq} (l:nH J' J) (ha:J a=some (.lst xs)) (hn:J' a=none) (h:Q (.fl xs) J'):Fg Q (.ref a) J:=⟨.fl xs,J',l,.inr ⟨a,xs,rfl,rfl,ha,hn⟩,h⟩
section
variable {P:Program} {w:World} {K:PySem.W.Frag} {mg:Str→Option Value} {base:Heap}
theorem Fg.kn {J:Hq} {H:Hp} {Q2:PV→Hq→Prop} {Q:VK} (k:Kn K J H Q2 Q):Kn K J H (Fg Q2) Q:=λz J1 u H1 rz r1 e1 ⟨x,J',l,hx,q⟩=>by
 have el:=Ext.less (K:=K) (H:=H1) l
 rcases hx with rfl | ⟨a,xs,rfl,rfl,ha,hn⟩
 ·exact k x J' u H1 (el.rep rz) (r1.less l) (e1.trans el) q
 ·cases rz
  obtain ⟨vs,h1,h2⟩:=r1 _ _ ha
  exact k (.fl xs) J' _ H1 ⟨a,vs,rfl,.inl ⟨hn,.inl h1⟩,el.jy h2⟩ (r1.less l) (e1.trans el) q
theorem R7 {x qual:Str} {st:Stmt} {f:Addr} {fd:FuncData} {N ps:List Str} {k:Nat} {sp:cS} (F:cE K x qual st f fd) (S:aw N ps (L2.ai st)) (len:∀xs J Q E,sp xs J Q E→xs.length=ps.length)
  (hbody:∀(cdv:Value) (A:Around) (outer:List Env) (s:Shared) (H:Hp) (E:XK) (G:G2) (xs:List PV) (J:Hq) (Q:PV→Hq→Prop) (E2:Addr→Hq→Prop),bS k (A.deeper (envOfC qual (L2.ai st) s.heap.objs.size f cdv))→sp xs J Q E2 →
   A_ (xU P w K mg base N qual (L2.ai st) f cdv A outer s H E) G E2 E →
   ∃t,RB (xU P w K mg base N qual (L2.ai st) f cdv A outer s H E) G (L2.bV st) t∧t { nx:=λ_ J'=>Fg Q .non J',rt:=Fg Q } (vZ N xs) J):aQ P w K mg base (dn P w) (k + 1) f fd ps (d4 K sp):=by
 have:=Qf (sp:=λxs J Q E=>∃Q0,Q=Fg Q0∧sp xs J Q0 E) F S (λxs J Q E ⟨Q0,_,h⟩=>len xs J Q0 E h) (λcdv A outer s H E G xs J Q E2 hr ⟨Q0,eq,h⟩ B=>by subst eq;exact hbody cdv A outer s H E G xs J Q0 E2 hr h B)
 exact this.imp λvs H Q E ⟨xs,J,Q2,E2,a,b,c,d,e⟩=>⟨xs,J,Fg Q2,E2,a,b,⟨Q2,rfl,c⟩,Fg.kn d,e⟩
end
section
variable {P:Program} {w:World} {K:PySem.W.Frag} {mg:Str→Option Value} {base:Heap}
theorem Qe {x qual:Str} {st:Stmt} {f:Addr} {fd:FuncData} {N ps:List Str} {k:Nat} {sp:cS} {t:(Addr→Hq→Prop)→iG} (F:cE K x qual st f fd) (S:aw N ps (L2.ai st)) (len:∀xs J Q E,sp xs J Q E→xs.length=ps.length)
  (rd:∀(cdv:Value) (A:Around) (outer:List Env) (s:Shared) (H:Hp) (E:XK) (G:G2) (E2:Addr→Hq→Prop),bS k (A.deeper (envOfC qual (L2.ai st) s.heap.objs.size f cdv)) →
   A_ (xU P w K mg base N qual (L2.ai st) f cdv A outer s H E) G E2 E→RB (xU P w K mg base N qual (L2.ai st) f cdv A outer s H E) G (L2.bV st) (t E2))
  (run:∀(xs:List PV) (J:Hq) (Q:PV→Hq→Prop) (E2:Addr→Hq→Prop),sp xs J Q E2→∀X:Prop,(t E2 { nx:=λ_ J'=>Fg Q .non J',rt:=Fg Q } (vZ N xs) J→X)→X):aQ P w K mg base (dn P w) (k + 1) f fd ps (d4 K sp) :=
 R7 F S len λcdv A outer s H E G xs J Q E2 hr h B=>⟨_,rd cdv A outer s H E G E2 hr B,run xs J Q E2 h _ id⟩
end
theorem Gp {X:Cx} {G:G2}:A_ X G (λ_ _=>False) L2.E0:=⟨λ_ _ _ _ _ _ _ ⟨_,_,_,_,_,z⟩=>z.elim,λ_ _ _ _ _ z=>z.elim⟩
theorem ou {K:PySem.W.Frag} {J:Hq} {H:Hp}:∀ns:List Int,aT K J H (ns.map PV.int) (ns.map V.int)
 | []=>rfl
 | n :: ns=>⟨_,_,rfl,rfl,ou ns⟩
end Ov
namespace Ov
open PySem PySem.Spec PyProof.Rows L2
theorem ML {α:Type} (a b c d e:α) (xs:List α):di (a :: b :: c :: d :: e :: xs) 4=some e:=bB (j:=4) rfl
theorem MN {α:Type} (a b c d e f:α) (xs:List α):di (a :: b :: c :: d :: e :: f :: xs) 5=some f:=bB (j:=5) rfl
theorem MO {α:Type} (a b c d e f g:α) (xs:List α):di (a :: b :: c :: d :: e :: f :: g :: xs) 6=some g:=bB (j:=6) rfl
theorem MP {α:Type} (a b c d e f g h:α) (xs:List α):di (a :: b :: c :: d :: e :: f :: g :: h :: xs) 7=some h:=bB (j:=7) rfl
theorem MQ {α:Type} (a b c d e f g h i:α) (xs:List α):di (a :: b :: c :: d :: e :: f :: g :: h :: i :: xs) 8=some i:=bB (j:=8) rfl
theorem MR {α:Type} (a b c d e f g h i j:α) (xs:List α):di (a :: b :: c :: d :: e :: f :: g :: h :: i :: j :: xs) 9=some j:=bB (j:=9) rfl
theorem Kd {α:Type} (a b c d e f g h i j k:α) (xs:List α):di (a :: b :: c :: d :: e :: f :: g :: h :: i :: j :: k :: xs) 10=some k:=bB (j:=10) rfl
theorem Ke {α:Type} (a b c d e f g h i j k l:α) (xs:List α):di (a :: b :: c :: d :: e :: f :: g :: h :: i :: j :: k :: l :: xs) 11=some l:=bB (j:=11) rfl
theorem Nj:(5≤sizeLine)=True:=eq_true (dD (by decide))
theorem Nk:(6≤sizeLine)=True:=eq_true (dD (by decide))
theorem Nl:(7≤sizeLine)=True:=eq_true (dD (by decide))
theorem Nn:(8≤sizeLine)=True:=eq_true (dD (by decide))
theorem Np:(9≤sizeLine)=True:=eq_true (dD (by decide))
theorem KO:(10≤sizeLine)=True:=eq_true (dD (by decide))
theorem KP:(11≤sizeLine)=True:=eq_true (dD (by decide))
theorem KQ:(12≤sizeLine)=True:=eq_true (dD (by decide))
theorem nk {ss:List Int} (h:ss.all (λs=>decide (0 < s) && decide (s < 2 ^ 63))=true):∀s∈ss,0 < s∧Bd 9000 s:=λs hs=>by
 have:=TH.mp h s hs
 rw [SR,decide_eq_true_eq,decide_eq_true_eq] at this
 exact ⟨this.1,(Bd.small (by omega) (by omega)).mono (by decide)⟩
theorem Sz.div {n:Nat} {t b:Int} (ht:Bd n t) (hb:Bd n b) (h:b≠0):Sz n (Rat.divInt t b):=⟨ht.le (zY t b),hb.le (uB h)⟩
end Ov
namespace Ov
open PySem PySem.Spec PyProof.Rows
open L2 (V HO Hp Inv Cx VK XK TE TT TA TS TG o9 TI TO jv Ends uv Loc Gl Rd RelV Vals fh wb b7 o5 rK o7 jt R2 upd aA aF dC gJ Sp p5 It bD cV bS Passes oP aI Meth Mk Binds aQ cE aw di fT eQ)
section
variable {X:Cx} {G:G2}
abbrev Bh:=PV→PV→PV→Hq→(Hq→Prop)→Prop
def Pn (X:Cx) (q:Bh):Prop:=∃r,jt X r∧∀J H o i y ov iv u R2 R,cy X.K J H o ov→cy X.K J H i iv→cy X.K J H y u→Rep X.K J H→q o i y J R2→(∀J' H',Rep X.K J' H'→Ext X.K J H J' H'→R2 J'→R H')→r ov iv u H R
def PC (to ti:dt) (t:Bh):zt:=λy τ J R=>to τ J λo J1=>ti τ J1 λi J2=>t o i y J2 λJ3=>R τ J3
theorem Lz {o i:Expr} {to ti:dt} {t:Bh} {pos:Pos} (hs:Pn X t) (ho:RE X G o to) (hi:RE X G i ti)
  (ha:∀v,assign (.Subscript o i pos) X.env v=(do
   let ov ← holding [v] (eval o X.env)
   let iv ← holding [v,ov] (eval i X.env)
   standAt pos
   holding [v,ov,iv] (setItem ov iv v)
   release [v,ov,iv] []):=by intro _;rfl):RG X G (.Subscript o i pos) (PC to ti t):=by
 obtain ⟨r,hr,lf⟩:=hs
 exact ⟨Qm (L2.ve ho.run hi.run hr ha) λv σ H Q ⟨y,τ,J,Q2,ry,a2,h,k⟩ =>
  ⟨τ,J,_,a2,h,λx J1 ov H1 rx r1 e1 h1=>⟨τ,J1,_,a2.go r1 e1,h1,λz J2 iv H2 rz r2 e2 h2 =>
   lf J2 H2 x z y ov iv v _ _ (e2.rep rx) rz (e2.rep (e1.rep ry)) r2 h2 λJ3 H3 r3 e3 q=>k τ J3 σ H3 ((((a2.sl.ext e1).ext e2).ext e3)) r3 ((e1.trans e2).trans e3) q⟩⟩⟩
def N3:Bh:=λo i y J R=>∃p xs k j,o=.ref p∧i=.int k∧J p=some (.lst xs)∧L2.Cu xs.length k=some j∧R (put J p (.lst (xs.set j y)))
theorem i6 {o i e:Expr} {to ti te:dt} {t:Bh} {pos pos':Pos} (hs:Pn X t) (ho:RE X G o to) (hi:RE X G i ti) (he:RE X G e te)
  (ha:∀v,assign (.Subscript o i pos') X.env v=(do
   let ov ← holding [v] (eval o X.env)
   let iv ← holding [v,ov] (eval i X.env)
   standAt pos'
   holding [v,ov,iv] (setItem ov iv v)
   release [v,ov,iv] []):=by intro _;rfl)
  (hq:swapsWithSole [.Subscript o i pos'] e pos.line X.env=pure false:=by rfl) (hw:swappedStores [.Subscript o i pos'] e X.env=pure none:=by rfl)
  (h1:(assignEach [.Subscript o i pos'] X.env).map (·.2)=[assign (.Subscript o i pos') X.env]:=by rfl):RS X G (.Assign [.Subscript o i pos'] e pos) (sU te (PC to ti t)):=vC he (Lz hs ho hi ha) hq hw h1
def Ra (X:Cx) (op:Operator) (q:mq):Prop:=∃r,L2.Pl X op r∧LR X.K r q
def N6 (i:Nat) (te:dt) (q:mq):iG:=λD τ J=>Mq τ[i]? λx=>te τ J λy J1=>q x y J1 λz J2=>D.nx (τ.set i (some z)) J2
theorem EV {i:Nat} {x:Str} {e:Expr} {te:dt} {op:Operator} {q:mq} {pos pos':Pos} (hN:X.N.Nodup) (he:RE X G e te) (ho:Ra X op q) (hi:X.N[i]?=some x:=by rfl) (hx:Loc X.env.scope x:=by first | exact .inl rfl | exact .inr rfl) (hf:X.fn x=true∨X.env.scope.names.lookup x=some .local:=by first | exact .inl rfl | exact .inr rfl | assumption) :
  RS X G (.AugAssign (.Name x pos') op e pos) (N6 i te q):=by
 obtain ⟨r,hr,lf⟩:=ho
 exact ⟨xh (L2.Lj hN hi hx he.run hr hf) λD σ H ⟨τ,J,D2,a2,hh,g⟩=>by
  obtain ⟨x,hx,h⟩:=D9 hh
  obtain ⟨v,h1,h2⟩:=a2.sl.get _ _ hx
  exact ⟨v,h1,τ,J,_,a2,h,λy J1 u H1 ry r1 e1 q1=>lf J1 H1 x y v u _ _ (e1.rep h2) ry r1 q1 λz J2 u2 H2 rz r2 e2 q2=>g.nx _ J2 _ H2 (((a2.sl.ext e1).ext e2).set i rz) r2 (e1.trans e2) q2⟩⟩
theorem DC:Ra X .Sub (EF λi j=>.int (i - j)):=⟨_,L2.Kx,λJ H x y v w Q2 Q rx ry r h k=>by
 obtain ⟨i,ex,h⟩:=gY h;obtain ⟨j,ey,q⟩:=gY h
 subst ex ey;cases rx;cases ry;exact ⟨i,j,rfl,rfl,k (.int _) J _ H rfl r .refl q⟩⟩
end
theorem d6 {xs:List PV} {ok:Hq→Prop} {g:zt} {tb:iG} {D:En} {τ:Sr} {J1:Hq} (Pv:Nat→Sr→Hq→Prop) (h0:Pv 0 τ J1) (hk:∀i τ J,Pv i τ J→ok J)
  (hs:∀(i:Nat) x τ J,xs[i]?=some x→Pv i τ J→g x τ J λτ2 J2=>tb { D with nx:=Pv (i + 1),ct:=Pv (i + 1),bk:=D.nx } τ2 J2) (hd:∀τ J,Pv xs.length τ J→D.nx τ J):Fo ⟨xs,ok⟩ g tb D τ J1:=⟨Pv,h0,hk,hs,hd⟩
theorem pD {α:Type} (xs:List α) (x:α):di (xs ++ [x]) (-1)=some x:=by
 unfold L2.di L2.Cu
 rw [if_neg (by decide),if_pos (by simp;omega)]
 have e:(-1 + ((xs ++ [x]).length:Int)).toNat=xs.length:=by simp only [SF,SJ,TL];omega
 rw [e]
 simp
theorem qw {J:Hq} {x:PV} {ys:List PV} (h:rL J x=some ys):x=.fl ys∨∃a,x=.ref a∧J a=some (.lst ys):=by
 cases x with
 | fl xs=>cases h;exact .inl rfl
 | ref a =>
  right
  refine ⟨a,rfl,?_⟩
  unfold rL at h
  simp only at h
  split at h
  ·rename_i e;cases h;exact e
  ·cases h
 | _=>cases h
theorem KU {J:Hq} {x:PV} {ys:List PV} (h:rL J x=some ys):yu J x=some ys.length:=by
 rcases qw h with rfl | ⟨a,rfl,ha⟩
 ·rfl
 ·rw [IL,ha];rfl
theorem Nw {J:Hq} {x:PV} {ys:List PV} (h:rL J x=some ys) (i:Int):e9 J x (.int i)=di ys i:=by
 rcases qw h with rfl | ⟨a,rfl,ha⟩
 ·rfl
 ·rw [Na,ha]
def lO (j:Nat):List PV:=.bl true :: (S8 10).map λk=>.bl (decide (j=k))
theorem Bq {K:PySem.W.Frag} {J:Hq} {H:Hp} (j:Nat):aT K J H (lO j) (uD j):=by
 unfold lO uD
 refine ⟨_,_,rfl,rfl,?_⟩
 generalize S8 10=l
 induction l with
 | nil=>rfl
 | cons k l ih=>exact ⟨_,_,rfl,rfl,ih⟩
def Ou (c:Nat→Addr) (N n:Nat) (t:(Addr→Hq→Prop)→iG):iG:=λD τ J =>
 t (λa J'=>∃j,j < 10∧a=c j∧D.nx ((To N none).set n (some (.fl (lO j)))) J') D τ J
section
variable {X:Cx} {G:G2}
theorem LF {body suite:List Stmt} {b₀:Stmt} {x m:Str} {i n:Nat} {W:Addr} {c:Nat→Addr} {t:(Addr→Hq→Prop)→iG} {ts:TS} {np hpos pos:Pos} (Er:Ba X.K X.mg W c) (hg:Gl X x) (hm:X.mg x=some (.ref W))
  (hN:X.N.Nodup) (hi:X.N[i]?=some m) (hin:i≠n) (hk:X.env.kindOf m=some .local) (hb:∀pn xe E G' E2,A_ (Km X pn xe) G' E2 E→RB (Km X pn xe) G' body (t E2)) (hs:∀pn ea,QB (Ml X pn ea) (b₀ :: suite) ts)
  (hq:∀(j:Nat),j < 10→∀(σ:L2.St) (H:Hp) (ea:Addr) (D:Ends),σ[i]?=some (some (.ref ea))→H ea=some (.ext (ExcAt ea (c j)))→(∀l,H l=none→D.nx (σ.set n (some (.ref l))) (upd H l (.lst (uD j))))→ts D σ H)
  (hst:X.stack=X.env :: X.outer:=by rfl) (hfr:X.env.frame=some X.env.locals:=by rfl) (hex:X.ex=[]:=by rfl) (hd:(x == ("__debug__":Str))=false:=by decide) :
  RS X G (.Try body [.ExceptHandler (some (.Name x np)) (some m) (b₀ :: suite) hpos] [] [] pos) (Ou c X.N.length n t):=by
 have hiN:i < X.N.length:=by
  rcases UB i X.N.length with e | e
  ·exact e
  ·rw [S5 e] at hi;cases hi
 refine ⟨xh (Hr (tb:=λE D σ H=>∃(G':G2) (E2:Addr→Hq→Prop),Iq X.K G'.1 G'.2 E2 E∧LS X.K G' (t E2) D σ H) hst hfr hex hg hm hN hi hk (λpn xe E hp pins s σ H D I ⟨G',E2,kn,h⟩=>(hb pn xe E G' E2 ⟨hp,kn⟩).run pins s σ H D I h) (λpn ea=>(hs pn ea).run) hd) ?_⟩
 intro D σ H ⟨τ,J,D2,a2,h,g⟩
 refine ⟨(J,H),_,?_,τ,J,D2,⟨a2.sl,a2.hp,.refl⟩,h,g⟩
 intro C J' H' r e ⟨j,hj,hC,q⟩
 subst hC
 refine ⟨c j,rfl,Er.wat j hj,λea he=>?_⟩
 refine hq j hj _ _ ea _ (by rw [SQ (by simpa using hiN)]) aA λl hl=>?_
 have s1:bD H' (upd H' ea (.ext (ExcAt ea (c j)))):=bD.new he _
 have r1:=r.same s1
 obtain ⟨x1,x2,x3⟩:=qy (xs:=lO j) r1 (Bq j) hl
 refine g.nx _ J' _ _ ?_ x2 ((e.trans (.same s1)).trans x3) q
 refine ⟨by simp,λk y hy=>?_⟩
 have hkn:k=n:=by
  rcases UB k X.N.length with hlt | hge
  ·by_cases e:n=k
   ·exact e.symm
   ·rw [S7 e,List.getElem?_replicate_of_lt hlt] at hy;cases hy
  ·rw [S5 (by simpa using hge)] at hy;cases hy
 subst hkn
 have hkN:k < X.N.length:=by
  rcases UB k X.N.length with e | e
  ·exact e
  ·rw [S5 (by simpa using e)] at hy;cases hy
 rw [SQ (by simpa using hkN)] at hy
 cases hy
 exact ⟨.ref l,by rw [S7 hin,SQ (by simpa using hkN)],x1⟩
end
theorem LL {a b:iG} {D:En} {τ:Sr} {J:Hq} (h:∀N:Sr→Hq→Prop,(∀τ' J',b D τ' J'→N τ' J')→a { D with nx:=N } τ J):bQ a b D τ J:=h _ λ_ _ z=>z
def My (J:Hq):PV→Option (List PV)
 | .tup xs=>some xs
 | .fl xs=>some xs
 | .ref a=>match J a with
  | some (.lst xs)=>some xs
  | _=>none
 | _=>none
theorem Fe {K:PySem.W.Frag} {J:Hq} {H:Hp} {y:PV} {u:V} {xs:List PV} (h:My J y=some xs) (r:cy K J H y u) (rr:Rep K J H):∃p vs,u=.ref p∧(dC K H p vs∨gJ K H p vs)∧aT K J H xs vs:=by
 cases y with
 | tup ys=>cases h;obtain ⟨a,vs,rfl,h1,h2⟩:=r;exact ⟨a,vs,rfl,.inr h1,h2⟩
 | fl ys=>cases h;obtain ⟨a,vs,rfl,h1,h2⟩:=r;exact ⟨a,vs,rfl,.inl h1.sq,h2⟩
 | ref a =>
  cases r
  unfold My at h
  simp only at h
  split at h
  ·rename_i e;cases h
   obtain ⟨vs,h1,h2⟩:=rr _ _ e
   exact ⟨a,vs,rfl,.inl (dC.of h1),h2⟩
  ·cases h
 | _=>cases h
theorem i4 {K:PySem.W.Frag} {J:Hq} {H:Hp}:∀{ns:List Str} {vs:List V},aT K J H (ns.map PV.str) vs→vs=ns.map V.str
 | [],_,h=>h
 | n :: ns,_,⟨v,us,e,h,k⟩=>by subst e;cases h;rw [i4 k];rfl
theorem m8 {K:PySem.W.Frag} {J:Hq} {H:Hp}:∀{ns:List Int} {vs:List V},aT K J H (ns.map PV.int) vs→vs=ns.map V.int
 | [],_,h=>h
 | n :: ns,_,⟨v,us,e,h,k⟩=>by subst e;cases h;rw [m8 k];rfl
theorem zu {α:Type} [BEq α] [LawfulBEq α] [DecidableEq α] (x y:α):(x == y)=decide (x=y):=by by_cases h:x=y <;> simp [h]
theorem GB (s:Str) (ss:List Str):L2.Mo (.str s) (ss.map V.str)=decide (s∈ss):=by
 unfold L2.Mo
 induction ss with
 | nil=>rfl
 | cons x ss ih =>
  rw [Sm,TZ,ih,show L2.FG (.str x) (.str s)=(x == s) from rfl,zu]
  by_cases h:x=s
  ·subst h;simp
  ·simp [h,show ¬ s=x from λe=>h e.symm]
theorem GA (s:Int) (ss:List Int):L2.Mo (.int s) (ss.map V.int)=decide (s∈ss):=by
 unfold L2.Mo
 induction ss with
 | nil=>rfl
 | cons x ss ih =>
  rw [Sm,TZ,ih,show L2.FG (.int x) (.int s)=(x == s) from rfl,zu]
  by_cases h:x=s
  ·subst h;simp
  ·simp [h,show ¬ s=x from λe=>h e.symm]
section
variable {X:Cx} {G:G2}
def NX (f:Bool→Bool):mq:=λx y J Q=>∃(s:Str) (ss:List Str),x=.str s∧My J y=some (ss.map .str)∧Q (.bl (f (decide (s∈ss)))) J
def Qp (f:Bool→Bool):mq:=λx y J Q=>∃(s:Int) (ss:List Int),x=.int s∧My J y=some (ss.map .int)∧Q (.bl (f (decide (s∈ss)))) J
theorem Bs (ss:List Str):(ss.map V.str).all L2.jj=true:=by simp [L2.jj]
theorem Br (ss:List Int):(ss.map V.int).all L2.jj=true:=by simp [L2.jj]
theorem Hb:md X (compareOp .NotIn) (NX not):=⟨_,L2.vb,λJ H x y v w Q2 Q rx ry r ⟨s,ss,ex,hy,q⟩ k=>by
 subst ex;cases rx
 obtain ⟨p,vs,rfl,hq,h2⟩:=Fe hy ry r
 cases i4 h2
 exact ⟨p,_,rfl,hq,rfl,Bs ss,k (.bl _) J _ H (by rw [if_pos rfl,GB];rfl) r .refl q⟩⟩
theorem Le:md X (compareOp .In) (Qp id):=⟨_,L2.B4,λJ H x y v w Q2 Q rx ry r ⟨s,ss,ex,hy,q⟩ k=>by
 subst ex;cases rx
 obtain ⟨p,vs,rfl,hq,h2⟩:=Fe hy ry r
 cases m8 h2
 exact ⟨p,_,rfl,hq,rfl,Br ss,k (.bl _) J _ H (by rw [if_neg (by decide),GA];rfl) r .refl q⟩⟩
end
end Ov
namespace L2
open PySem PySem.Spec PyProof.Rows
section
variable {X:Cx} {tg:Expr}
end
end L2
namespace Ov
open PySem PySem.Spec PyProof.Rows
open L2 (V HO Hp Inv Cx VK XK TE TT TA TS TG o9 TI TO jv Ends uv Loc Gl Rd RelV Vals fh wb b7 o5 rK o7 jt R2 upd aA aF dC gJ Sp p5 It bD cV bS Passes oP aI Meth Mk Binds aQ cE aw di fT eQ)
section
variable {X:Cx} {G:G2} {tg:Expr}
theorem DS {K:PySem.W.Frag} {J:Hq} {H:Hp} {y:PV} {u:V} {xs:List PV} (h:rL J y=some xs) (r:cy K J H y u) (rr:Rep K J H):∃p vs,u=.ref p∧dC K H p vs∧aT K J H xs vs:=by
 rcases qw h with rfl | ⟨a,rfl,ha⟩
 ·obtain ⟨a,vs,rfl,h1,h2⟩:=r;exact ⟨a,vs,rfl,h1.sq,h2⟩
 ·cases r
  obtain ⟨vs,h1,h2⟩:=rr _ _ ha
  exact ⟨a,vs,rfl,dC.of h1,h2⟩
end
end Ov
namespace L2
open PySem PySem.Spec PyProof.Rows
section
variable {X:Cx} {pins:List (Addr × Obj)} {σ:St} {H:Hp} {s:Shared} {h':Heap}
theorem Inv.AV {t':Nat} {ch:List Addr} (I:Inv X pins σ H s) (k:∀b o,b ∉ ch→s.heap.get? b=some o→h'.get? b=some o) (hf:∀b∈ch,lG X pins H b):Inv X pins σ H { s with heap:=h',toks:=t' }:=by
 have nit:∀b u,H b=some u→b ∉ ch:=λb u e z=>by rw [(hf b z).1] at e;cases e
 refine I.step (g':=s.gens) (d':=s.drawn) (ch:=ch) (λb hb=>?_) (λb o _ _ hc e _=>k b o hc e) (λb o _ _ hc e _=>⟨o.slots,k b o hc e⟩) (λ_ _ _ _ n=>n)
  (λb o hc e=>⟨o,k b o hc e⟩) (λ_ _ e=>e) (λ_ _ _ e=>e) (λb ps e=>⟨#[],by rw [e];simp⟩) (λm hm=>?_) (λb u e=>?_) I.bare
 ·obtain ⟨f0,f1,f2,f3,f4,f5⟩:=hf b hb
  exact ⟨f3,f1,f4,f5⟩
 ·obtain ⟨o,es,ep,ho,r⟩:=hm
  exact ⟨o,es,ep,k _ o (λz=>(hf _ z).2.1 rfl) ho,r⟩
 ·refine (I.hok b u e).oM (λc v hc q=>k c v ?_ q) (λ_ q=>q) λ_ _ q=>q
  rcases hc with z | z
  ·rw [z];exact nit b u e
  ·exact nit c _ z
end
section
variable {X:Cx}
end
end L2
namespace Ov
open PySem PySem.Spec PyProof.Rows
open L2 (V HO Hp Inv Cx VK XK TE TT TA TS TG o9 TI TO jv Ends uv Loc Gl Rd RelV Vals fh wb b7 o5 rK o7 jt R2 upd aA aF dC gJ Sp p5 It bD cV bS Passes oP aI Meth Mk Binds aQ cE aw di fT eQ)
section
variable {X:Cx} {G:G2}
end
end Ov
namespace L2
open PySem PySem.Spec PyProof.Rows
section
variable {α β:Type}
def jA (kvs:List (Str × α)) (k:Str):Option α:=(kvs.find? λkv=>decide (kv.1=k)).map (·.2)
def nE (kvs:List (Str × α)) (k:Str) (v:α):List (Str × α):=if kvs.any (λkv=>decide (kv.1=k)) then kvs.map (λkv=>if kv.1=k then (kv.1,v) else kv) else kvs ++ [(k,v)]
def Bo (kvs:List (Str × α)) (k:Str):List (Str × α):=kvs.filter λkv=>decide (kv.1≠k)
theorem km (p:Str × α) (r:List (Str × α)) (k:Str):jA (p :: r) k=if p.1=k then some p.2 else jA r k:=by
 unfold jA
 rw [List.find?_cons]
 by_cases h:p.1=k <;> simp [h]
theorem Af (kvs:List (Str × α)) (k:Str) (v:α):(nE kvs k v).length≤kvs.length + 1:=by
 unfold nE;split <;> simp
theorem Gm (kvs:List (Str × α)) (k:Str):(Bo kvs k).length≤kvs.length:=Tu _ _
abbrev oQ (R:α→β→Prop):List (Str × α)→List (Str × β)→Prop:=Paired λp q=>p.1=q.1∧R p.2 q.2
variable {R:α→β→Prop}
theorem oQ.va {kvs:List (Str × α)} {vs:List (Str × β)} (h:oQ R kvs vs) (k:Str):(∀x,jA kvs k=some x→∃y,jA vs k=some y∧R x y)∧(jA kvs k).isSome=(jA vs k).isSome:=by
 induction h with
 | nil=>exact ⟨λx e=>by simp [jA] at e,rfl⟩
 | @cons p q kvs vs r _ ih =>
  rw [km,km,← r.1]
  by_cases e:p.1=k
  ·rw [if_pos e,if_pos e];exact ⟨λx z=>by cases z;exact ⟨_,rfl,r.2⟩,rfl⟩
  ·rw [if_neg e,if_neg e];exact ih
theorem oQ.any {kvs:List (Str × α)} {vs:List (Str × β)} (h:oQ R kvs vs) (k:Str):(kvs.any λkv=>decide (kv.1=k))=vs.any λkv=>decide (kv.1=k):=by
 induction h with
 | nil=>rfl
 | cons r _ ih=>rw [TZ,TZ,ih,r.1]
theorem oQ.snoc {kvs:List (Str × α)} {vs:List (Str × β)} (h:oQ R kvs vs) {k:Str} {x:α} {y:β} (r:R x y):oQ R (kvs ++ [(k,x)]) (vs ++ [(k,y)]):=by
 induction h with
 | nil=>exact .cons ⟨rfl,r⟩ .nil
 | cons q _ ih=>exact .cons q ih
theorem oQ.pu {kvs:List (Str × α)} {vs:List (Str × β)} (h:oQ R kvs vs) {k:Str} {x:α} {y:β} (r:R x y):oQ R (nE kvs k x) (nE vs k y):=by
 unfold nE
 rw [h.any k]
 split
 ·rename_i hany;clear hany
  induction h with
  | nil=>exact .nil
  | @cons p q kvs vs z _ ih =>
   rw [Sm,Sm]
   refine .cons ?_ ih
   by_cases e:p.1=k
   ·rw [if_pos e,if_pos (z.1 ▸ e)];exact ⟨z.1,r⟩
   ·rw [if_neg e,if_neg (z.1 ▸ e)];exact z
 ·exact h.snoc r
theorem oQ.dr {kvs:List (Str × α)} {vs:List (Str × β)} (h:oQ R kvs vs) (k:Str):oQ R (Bo kvs k) (Bo vs k):=by
 unfold Bo
 induction h with
 | nil=>exact .nil
 | @cons p q kvs vs z _ ih =>
  rw [SU,SU,z.1]
  split
  ·exact .cons z ih
  ·exact ih
theorem oQ.len {kvs:List (Str × α)} {vs:List (Str × β)} (h:oQ R kvs vs):kvs.length=vs.length:=Paired.length h
theorem oQ.keys {kvs:List (Str × α)} {vs:List (Str × β)} (h:oQ R kvs vs):kvs.map (·.1)=vs.map (·.1):=by
 induction h with
 | nil=>rfl
 | cons r _ ih=>rw [Sm,Sm,ih,r.1]
end
theorem uc (vs:List (Str × Value)) (k:Str):valueAt vs k=jA vs k:=rfl
theorem str_is {P:Program} {w:World} {k:Str} {u:Value} (r:RelV (.str k) u):(PySem.strKind P w).is k u=true:=by
 obtain ⟨t,rfl⟩:=r
 simp [PySem.strKind,Value.isStrOf]
theorem DF {P:Program} {w:World} {k:Str} {u:Value} (h:(PySem.strKind P w).is k u=true):RelV (.str k) u:=Value.isStrOf_shape h
section
variable {X:Cx} {pins:List (Addr × Obj)} {σ:St} {H:Hp} {s:Shared} {a:Addr} {A:Around} {E:Value→Shared→Prop} {kvs:List (Str × V)} {ep:Nat}
theorem kW (I:Inv X pins σ H s) (e:H a=some (.dE kvs ep)):kvs.length≤sizeLine∧(a == sysModules)=false∧∃vs,oQ RelV kvs vs∧s.heap.DictAt (PySem.strKind X.prog X.w) a vs ep:=I.hok a _ e
theorem qh {h':Heap} {t':Nat} {kvs':List (Str × V)} {vs':List (Str × Value)} (I:Inv X pins σ H s) (e:H a=some (.dE kvs ep)) (hs:Heap.SameBut a s.heap h') (hz:kvs'.length≤sizeLine) (hd:(a == sysModules)=false) (rel:oQ RelV kvs' vs') (dd:h'.DictOf (PySem.strKind X.prog X.w) a vs') :
  ∃ep',Inv X pins σ (upd H a (.dE kvs' ep')) { s with heap:=h',toks:=t' }:=by
 obtain ⟨ep',da⟩:=dd.dictAt
 refine ⟨ep',I.write (x:=a) (e:=a) (by rw [e];exact True.intro) (.inl rfl) (λb q hb z=>(hs.2 b hb).trans z) (let ⟨q,_,_,hq,_⟩:=dd;⟨q,hq⟩) ⟨hz,hd,vs',rel,da⟩⟩
theorem Inv.MT (I:Inv X pins σ H s):sysModules < s.heap.objs.size:=by
 have h:mainGlobals < s.heap.objs.size:=(I.mod.glob.keeps I.bk).lt
 exact Nat.lt_trans (by decide) h
end
theorem BA {P:Program} {w:World} {kvs:List (Str × V)} {vs:List (Str × Value)} (rel:oQ RelV kvs vs):∀{us:List Value},us.length=kvs.length→(∀(j:Nat) (v:Value),us[j]?=some v→∃k x,vs[j]?=some (k,x)∧(PySem.strKind P w).is k v=true)→Vals (kvs.map λkv=>V.str kv.1) us:=by
 induction rel with
 | nil =>
  intro us hlen _
  cases us with
  | nil=>exact .nil
  | cons _ _=>cases hlen
 | @cons p q kvs vs z _ ih =>
  intro us hlen hget
  cases us with
  | nil=>cases hlen
  | cons u us =>
   rw [Sm]
   refine .cons ?_ (ih (by simpa using hlen) λj v e=>?_)
   ·obtain ⟨k,x,e1,e2⟩:=hget 0 u rfl
    rw [T1] at e1
    cases e1
    rw [z.1];exact DF e2
   ·obtain ⟨k,x,e1,e2⟩:=hget (j + 1) v (by rw [S6];exact e)
    rw [S6] at e1
    exact ⟨k,x,e1,e2⟩
def Qu:R2:=λx y H Q=>∃a kvs ep k v,x=.ref a∧y=.str k∧H a=some (.dE kvs ep)∧jA kvs k=some v∧Q v H
def Lu (f:Bool→Bool):R2:=λx y H Q=>∃a kvs ep k,x=.str k∧y=.ref a∧H a=some (.dE kvs ep)∧Q (.bl (f (jA kvs k).isSome)) H
def Lx:List V→Hp→VK→Prop:=λxs H Q=>∃a kvs ep,xs=[.ref a]∧H a=some (.dE kvs ep)∧∀p,H p=none→Q (.ref p) (upd H p (.lst (kvs.map λkv=>.str kv.1)))
def Ol:V→List V→Hp→VK→Prop:=λx xs H Q=>∃a kvs ep k v,x=.ref a∧xs=[.str k]∧H a=some (.dE kvs ep)∧jA kvs k=some v∧∀ep',Q v (upd H a (.dE (Bo kvs k) ep'))
def Oo:jv:=λo i v H Q=>∃a kvs ep k,o=.ref a∧i=.str k∧H a=some (.dE kvs ep)∧kvs.length < sizeLine∧∀ep',Q (upd H a (.dE (nE kvs k v) ep'))
def OH:TE:=λ_ H Q=>∀p,H p=none→∀ep,Q (.ref p) (upd H p (.dE [] ep))
section
variable {X:Cx}
theorem M8:o5 X Qu:=by
 intro value slice pins s σ H x y v u Q I rx ry q hs
 obtain ⟨a,kvs,ep,k,z,rfl,rfl,hp,hz,q⟩:=q
 cases rx
 obtain ⟨_,hd,vs,rel,da⟩:=kW I hp
 have hT:s.TypeIs (.ref a) "dict":=da.dictOf.typeIs
 obtain ⟨w',hw,rw'⟩:=(rel.va k).1 z hz
 unfold subscriptTail
 refine wpAny_bind ?_
 rw [getitemInPython_of_ne hT.not_modules]
 refine wpAny_bind (wpAny_specialOf hT PySem.F.slot_dict_getitem.lookup ?_)
 have fin:wpAny (model X.prog X.w) X.A (subscripted slice false (.ref a) u) (λr s₃=>wpAny (model X.prog X.w) X.A (letTemporaryGo value (.ref a) r >>= λ_=>pure r) (EP X pins σ Q) X.xe s₃) X.xe s:=by
  rw [hs]
  exact wpAny_operating (wpAny_getItem_of (str_is ry) da.dictOf.mapOf hw (wpAny_bind (wpAny_letTemporaryGo (wpAny_pure ⟨z,H,I.tok _,rw',q⟩))))
 first
  | exact wpAny_pure (wpAny_bind fin)
  | exact wpAny_bind (wpAny_pure (wpAny_bind fin))
  | exact wpAny_bind fin
theorem Lb:fh X (compareOp .In) (Lu id):=by
 intro pins s σ H x y v u Q I rx ry ⟨a,kvs,ep,k,ex,ey,hp,q⟩
 subst ex ey
 cases ry
 obtain ⟨_,hd,vs,rel,da⟩:=kW I hp
 refine wpAny_in_of (str_is rx) hd da.dictOf.mapOf ?_
 exact ⟨.bl _,H,I.tok _,by rw [uc,← (rel.va k).2];rfl,q⟩
theorem B6:fh X (compareOp .NotIn) (Lu not):=by
 intro pins s σ H x y v u Q I rx ry ⟨a,kvs,ep,k,ex,ey,hp,q⟩
 subst ex ey
 cases ry
 obtain ⟨_,hd,vs,rel,da⟩:=kW I hp
 refine wpAny_notIn_of (str_is rx) hd da.dictOf.mapOf ?_
 exact ⟨.bl _,H,I.tok _,by rw [uc,← (rel.va k).2];rfl,q⟩
theorem wo (hc:X.calm=true):b7 X (.type "list") Lx:=by
 intro pins s σ H xs us Q I r ⟨a,kvs,ep,ex,hp,q⟩
 subst ex
 obtain ⟨u,rfl,ru⟩:=vals1 r
 cases ru
 obtain ⟨hz,hd,vs,rel,da⟩:=kW I hp
 have hl:=rel.len
 refine PySem.W.kdl_call (PySem.W.kdl_dict (knd:=PySem.strKind X.prog X.w) (kvs:=vs) (ep:=ep) hd) (I.ok.hd hc) da (by rw [← hl];exact hz) λh' tk acc c hk hS hacc=>?_
 have hkeys:Vals (kvs.map λkv=>V.str kv.1) acc.toList:=by
  have hlen:acc.toList.length=kvs.length:=by rw [Array.length_toList,hacc.1,hl]
  have hget:∀j v,acc.toList[j]?=some v→∃k x,vs[j]?=some (k,x)∧(PySem.strKind X.prog X.w).is k v=true:=λj v e=>hacc.2 j v (by rw [← Array.getElem?_toList];exact e)
  exact BA rel hlen hget
 have I2:Inv X pins σ (upd H s.heap.objs.size (.lst (kvs.map λkv=>V.str kv.1))) { s with heap:=h',toks:=tk } :=
  I.laid (t':=tk) hk (So _) (show du X.prog X.w _ _ _ (.lst _) from ⟨by rw [Sg];exact hz,acc.toList,c,hkeys,by rw [Array.toArray_toList];exact hS⟩)
 exact ⟨.ref s.heap.objs.size,_,I2,rfl,q _ (I.hok.fresh (So _))⟩
theorem GU:o7 X "dict.pop" Ol:=by
 intro pins s σ H x xs v us Q I rx r ⟨a,kvs,ep,k,z,ex,exs,hp,hv,q⟩
 subst ex exs
 cases rx
 obtain ⟨u,rfl,ru⟩:=vals1 r
 obtain ⟨hz,hd,vs,rel,da⟩:=kW I hp
 obtain ⟨w',hw,rw'⟩:=(rel.va k).1 z hv
 have hpart:(keyPart u).isSome=true:=by obtain ⟨t,q⟩:=(show ∃t,u=Value.str k t from ru);subst q;rfl
 refine call_meetsIn PySem.F.slot_dict_pop da.dictOf.typeIs PySem.F.entry_dict_pop (PySem.F.args_dict_pop_2 _ _) (meets_dict_pop_there (PySem.strKind X.prog X.w) a (str_is ru) [] (.inl rfl) hpart)
  ⟨vs,w',da.dictOf,by rw [← rel.len];exact hz,hw,λh' dd' hs=>?_⟩
 obtain ⟨ep',I2⟩:=qh (t':=s.toks + 1) I hp hs (SH (Gm kvs k) hz) hd (rel.dr k) dd'
 exact ⟨z,_,I2,rw',q ep'⟩
theorem LN:jt X Oo:=by
 intro pins s σ H o i v ov iv u Q I ro ri rv ⟨a,kvs,ep,k,eo,ei,hp,hl,q⟩
 subst eo ei
 cases ro
 obtain ⟨hz,hd,vs,rel,da⟩:=kW I hp
 refine wpAny_setItem_pairs (hsz:=by rw [← rel.len];exact hz) (str_is ri) da.dictOf λh' dd' hs=>?_
 obtain ⟨ep',I2⟩:=qh (t':=s.toks + 1) I hp hs (show (nE kvs k v).length≤sizeLine from SH (Af kvs k v) hl) hd (rel.pu rv) dd'
 exact ⟨_,I2,q ep'⟩
theorem Hi {pos:Pos}:PE X (.Dict [] [] pos) OH:=λpins s σ H Q I h=>by
 have hd:(s.heap.push { cls:=.type "dict",data:=.dict #[] }).DictOf (PySem.strKind X.prog X.w) s.heap.objs.size []:=Heap.DictOf.new s.heap
 obtain ⟨ep,da⟩:=hd.dictAt
 exact wpAny_Dict_empty ⟨.ref s.heap.objs.size,_,I.laid (a:=s.heap.objs.size) (o:=.dE [] ep) (t':=s.toks) (λ_ _ q=>Heap.get?_push_of_some _ q) (So _)
  ⟨SX _,beq_eq_false_iff_ne.mpr (Ne.symm (SN I.MT)),[],.nil,da⟩,rfl,h _ (I.hok.fresh (So _)) ep⟩
end
def Rb (a:Addr) (ks:List Str) (ep:Nat):It :=
 ⟨λi H=>(∃kvs,H a=some (.dE kvs ep)∧kvs.map (·.1)=ks)∧i < ks.length,
  λi H z H'=>H'=H∧∃k,ks[i]?=some k∧z=.str k,
  λi H=>(∃kvs,H a=some (.dE kvs ep)∧kvs.map (·.1)=ks)∧ks.length≤i⟩
theorem Cn {P:Program} {w:World} {K:PySem.W.Frag} {tg:Expr} (a it:Addr) (ks:List Str) (ep:Nat):Turn P w K tg (Rb a ks ep) [it] it (λi h=>h.IsKeyIter it a i ks.length ep) where
 mem:=by simp
 obj:=λi h st b hb=>by
  have e:b=it:=by simpa using hb
  subst e
  obtain ⟨o,e,c,d⟩:=st
  exact ⟨o,e,λv z=>by rw [d] at z;cases z⟩
 keep:=λi h h' st k=>st.at λo e=>k it (by simp) o e
 item:=by
  intro X hP hw hK hc i pins s σ H E I hf st hg
  subst hP hw hK
  obtain ⟨⟨kvs,hp,hks⟩,hi⟩:=hg
  obtain ⟨hz,hd,vs,rel,da⟩:=kW I hp
  have hl:ks.length=vs.length:=by rw [← hks,Sg];exact rel.len
  obtain ⟨f0,f1,f2,f3,f4,f5⟩:=hf it (by simp)
  obtain ⟨⟨k,x⟩,hx⟩:∃p,vs[i]?=some p:=⟨vs[i]'(by omega),Si (by omega)⟩
  have hk:ks[i]?=some k:=by rw [← hks,rel.keys,Sl,hx];rfl
  refine wpAny_pyNext_dict_item (by rw [← hl];exact st) da hx λkey h' hkey st' sb=>?_
  rw [← hl] at st'
  have I1:Inv X pins σ H { s with heap:=h' }:=I.turned (t':=s.toks) (λb o hb e=>(sb.2 b hb).trans e) f0 f1 f3 f4 f5
  obtain ⟨o,e,c,d⟩:=id st'
  exact ⟨key,rfl,Dt (s:={ s with heap:=h' }) e c d (by decide) ⟨.str k,H,I1,DF hkey,⟨rfl,k,hk,rfl⟩,st',λb hb=>(hf b hb).1⟩⟩
 done:=by
  intro X hP hw hK hc i pins s σ H E I hf st hg
  subst hP hw hK
  obtain ⟨⟨kvs,hp,hks⟩,hi⟩:=hg
  obtain ⟨hz,hd,vs,rel,da⟩:=kW I hp
  have hl:ks.length=vs.length:=by rw [← hks,Sg];exact rel.len
  obtain ⟨f0,f1,f2,f3,f4,f5⟩:=hf it (by simp)
  refine wpAny_pyNext_dict_end (I.ok.hd hc) (by rw [← hl];exact st) da (by rw [Uk];omega) λh' hk=>⟨rfl,I.turned (t':=s.toks) (λb o hb e=>hk b o hb e) f0 f1 f3 f4 f5⟩
 self:=λ_ _ _ _ _ st h=>wpAny_pyIter_keyiter st h
def M4 (td:TE):TI:=λσ H R=>td σ H λx H1=>∃a kvs ep,x=.ref a∧H1 a=some (.dE kvs ep)∧R (Rb a (kvs.map (·.1)) ep) H1
theorem Hj {X:Cx} {tg l:Expr} {tl:TE} (hl:PE X l tl):PI X tg l (M4 tl):=by
 intro pins s σ H R I h
 refine cA (hl pins s σ H _ I h) λv s1 ⟨x,H1,I1,r1,q1⟩=>?_
 obtain ⟨a,kvs,ep,e,hp,q⟩:=q1
 subst e
 cases r1
 obtain ⟨hz,hd,vs,rel,da⟩:=kW I1 hp
 refine wpAny_pyIter_dict hd da ?_
 refine ⟨s1.heap.objs.size,[s1.heap.objs.size],_,_,H1,rfl,I1.kept (t':=s1.toks) λb o e=>Heap.get?_push_of_some _ e,Cn a _ (kvs.map (·.1)) ep,⟨_,Heap.get?_push_size _ rfl,rfl,by rw [Sg,rel.len];rfl⟩,λb hb=>?_,q⟩
 have e:b=s1.heap.objs.size:=by simpa using hb
 subst e
 exact I1.Gs (So _) (I1.hok.fresh (So _))
end L2
namespace Ov
open PySem PySem.Spec PyProof.Rows L2
section
variable {prog:Program} {w:World} {A:Around} {R:Result→Shared→Prop} {s:Shared}
theorem yy {kx vx iter:Expr} {ifs:List Expr} {x:Str} {px:Pos} {sc:Scope} {pos:Pos} {it:Value} {D:Addr} {env:Env} (I:Nat→Shared→Prop)
  (turn:∀n s,I n s→wpAny (model prog w) A (pyNext it) (λr s₁=>match r with
   | none=>R (.ok .next) s₁
   | some v=>wpAny (model prog w) A (letOwnedTupleGo (.Name x px) it v) (λ_ s₂=>wpAny (model prog w) A (assign (.Name x px) env v) (λ_ s₃=>wpAny (model prog w) A (forIn ifs true λc r=>if r=true then do let ok ← isTrue c env (eval c env);pure (ForInStep.yield ok) else pure (ForInStep.yield r)) (λok s₃=>if ok=true then wpAny (model prog w) A (eval kx env) (λkv s₄ =>
     wpAny (model prog w) A (eval vx env) (λvv s₅=>wpAny (model prog w) A (dictSet D kv vv) (λ_ s₅=>∃m,m < n∧I m s₅) (λ_ _=>False) s₅) (λ_ _=>False) s₄) (λ_ _=>False) s₃ else ∃m,m < n∧I m s₃) (λ_ _=>False) s₃) (λ_ _=>False) s₂) (λ_ _=>False) s₁) (λ_ _=>False) s)
  (n:Nat) (h:I n s):codeAny (model prog w) A (.compLoop (.DictComp kx vx [⟨.Name x px,iter,ifs,0⟩] sc pos) 0 it (.ref D) env) R s:=by
 refine codeAny_loop rfl I (λn s hI=>?_) n h
 show wpAny _ _ ((compTurn (.DictComp kx vx [⟨.Name x px,iter,ifs,0⟩] sc pos) 0 it (.ref D) env).onRaise (λx=>do noteFrame x env;theTreesLotGoes x)) _ _ s
 refine wpAny_noted ?_
 rw [compTurn_dict]
 have no:∀(e:Value) (s':Shared),False→notedBy (model prog w) A env (λe s'=>R (.error e) s') e s':=λ_ _ z=>z.elim
 refine wpAny_bind (wpAny_standAt (wpAny_bind (wpAny_mono (turn n s hI) (λr s₁ h₁=>?_) no)))
 cases r with
 | none=>exact wpAny_pure h₁
 | some v =>
  refine wpAny_bind (wpAny_mono h₁ (λ_ s₂ h₂=>?_) no)
  refine wpAny_bind (wpAny_mono h₂ (λ_ s₃ h₃=>wpAny_bind (wpAny_mono h₃ (λok s₃' h₃'=>?_) no)) no)
  cases ok with
  | false=>exact wpAny_pure ⟨rfl,h₃'⟩
  | true =>
   exact wpAny_bind (wpAny_bind (wpAny_mono h₃' (λkv s₄ h₄=>wpAny_bind (wpAny_holding (wpAny_mono h₄ (λvv s₅ h₅=>wpAny_bind (wpAny_standAt (wpAny_holding (wpAny_mono h₅ (λ_ s₆ h₆=>wpAny_pure ⟨rfl,h₆⟩) no)))) no))) no))
end
def QF (wi:TI) (ks:List (Str × Nat)) (tc:TT) (tk te:TE):TE:=λσ H Q=>wi σ H λJ H1=>∀D,H1 D=none→∀ep,∃W:Nat→Nat→Hp→Prop,(∃m,W 0 m (upd H1 D (.dE [] ep))) ∧
 ∀i m H2,W i m H2→(J.stop i H2∧Q (.ref D) H2)∨(J.go i H2∧∀v H3,J.yld i H2 v H3→tc (some v :: dW ks σ) H3 λb H4=>if b=true then tk (some v :: dW ks σ) H4 λy H5=>te (some v :: dW ks σ) H5 λz H6=>∃kvs ep k,y=.str k∧H6 D=some (.dE kvs ep)∧kvs.length < sizeLine∧∃m',m' < m∧∀ep',W (i + 1) m' (upd H6 D (.dE (L2.nE kvs k z) ep')) else ∃m',m' < m∧W (i + 1) m' H4)
section
variable {X:Cx}
theorem t4 {kx vx iter:Expr} {ifs:List Expr} {x:Str} {px:Pos} {sc:Scope} {pos:Pos} {tk te:TE} {tc:TT} {ks:List (Str × Nat)} {cl:List (Str × Addr)} {pins:List (Addr × Obj)} {σ:L2.St} {H:Hp} {s:Shared} {it:Addr} {fp:List Addr} {tn:Nat→Heap→Prop} {J:It} {Q:VK}
  {RR:Value→Addr→Result→Shared→Prop} {E:Value→Shared→Prop}
  (hc:X.calm=true) (ok:cD sc X.env.scope X.N x ks) (h1:∀y c,cl.lookup y=some c→X.env.cells.lookup y=some c) (h2:∀y∈sc.names,y.2=.free→∃c,cl.lookup y.1=some c)
  (hk:∀cl C s₀ H₀ fp pins,PE (fF X sc cl C x ks s₀ H₀ fp pins) kx tk) (he:∀cl C s₀ H₀ fp pins,PE (fF X sc cl C x ks s₀ H₀ fp pins) vx te) (hcn:∀cl C s₀ H₀ fp pins,FF (fF X sc cl C x ks s₀ H₀ fp pins) ifs tc)
  (I:Inv X pins σ H s) (T:Turn X.prog X.w X.K (.Name x px) J fp it tn) (st:tn 0 s.heap) (f:∀b∈fp,lG X pins H b)
  (hw:∀D,H D=none→∀ep,∃W:Nat→Nat→Hp→Prop,(∃m,W 0 m (upd H D (.dE [] ep)))∧∀i m H2,W i m H2→(J.stop i H2∧Q (.ref D) H2) ∨
   (J.go i H2∧∀v H3,J.yld i H2 v H3→tc (some v :: dW ks σ) H3 λb H4=>if b=true then tk (some v :: dW ks σ) H4 λy H5=>te (some v :: dW ks σ) H5 λz H6=>∃kvs ep k,y=.str k∧H6 D=some (.dE kvs ep)∧kvs.length < sizeLine∧∃m',m' < m∧∀ep',W (i + 1) m' (upd H6 D (.dE (L2.nE kvs k z) ep')) else ∃m',m' < m∧W (i + 1) m' H4))
  (hR:∀(D C:Addr) (s':Shared) (H':Hp) (m:Str→Option Value),Inv X pins σ H' s'→Q (.ref D) H'→s'.heap.Ns C m→H' C=none→C≠X.env.locals→X.s₀.heap.objs.size≤C→(∀y c,X.env.cells.lookup y=some c→c≠C)→(∀p∈X.pn ++ pins,p.1≠C)→RR (.ref D) C (.ok .next) s') :
  wpAny (model X.prog X.w) X.A newDict (λacc s₃=>wpAny (model X.prog X.w) X.A (newFunctionEnv sc X.env.globals cl [] X.env.qual none .none (some X.env)) (λcenv s₄ =>
   codeAny (model X.prog X.w) X.A (.compStart (.DictComp kx vx [⟨.Name x px,iter,ifs,0⟩] sc pos) 0 (.ref it) acc { cenv with scope:=relabel sc X.env }) (RR acc cenv.locals) s₄) E s₃) E s:=by
 have okk:=ok
 obtain ⟨kd,nc,lx,ll,fr,kk,nd⟩:=okk
 have hD0:H s.heap.objs.size=none:=I.hok.fresh (So _)
 have hdd:(s.heap.push { cls:=.type "dict",dict:=none,data:=.dict #[] }).DictOf (PySem.strKind X.prog X.w) s.heap.objs.size []:=Heap.DictOf.new s.heap
 obtain ⟨ep0,da⟩:=hdd.dictAt
 obtain ⟨W,⟨m0,w0⟩,turn⟩:=hw s.heap.objs.size hD0 ep0
 refine wpAny_newObj_type ?_
 have I3:Inv X pins σ (upd H s.heap.objs.size (.dE [] ep0)) { s with heap:=s.heap.push { cls:=.type "dict",dict:=none,data:=.dict #[] } } :=
  I.laid (t':=s.toks) (λb u e=>Heap.get?_push_of_some _ e) (So _) ⟨SX _,beq_eq_false_iff_ne.mpr (Ne.symm (SN I.MT)),[],.nil,da⟩
 have st3:tn 0 (s.heap.push { cls:=.type "dict",dict:=none,data:=.dict #[] }):=T.keep 0 _ _ st λb hb o e=>Heap.get?_push_of_some _ e
 clear da hdd
 generalize hD:s.heap.objs.size=D at *
 generalize hH:upd H D (.dE [] ep0)=H3 at *
 generalize hs3:({ s with heap:=s.heap.push { cls:=.type "dict",dict:=none,data:=.dict #[] } }:Shared)=s3 at *
 have e3:s.heap.push { cls:=.type "dict",dict:=none,data:=.dict #[] }=s3.heap:=by rw [← hs3]
 rw [e3] at st3
 have fD:∀b∈fp,b≠D:=λb hb z=>by
  obtain ⟨o,ho,_⟩:=T.obj 0 _ st b hb
  have:=Heap.lt_size ho
  rw [z,← hD] at this
  exact Tt _ this
 have f3:∀b∈fp,lG X pins H3 b:=λb hb=>⟨by rw [← hH,aF (fD b hb)];exact (f b hb).1,(f b hb).2⟩
 have g3:∀b∈fp,∃o,s3.heap.get? b=some o:=λb hb=>by
  obtain ⟨o,ho,_⟩:=T.obj 0 _ st3 b hb
  exact ⟨o,ho⟩
 refine wpAny_newFunctionEnv nc (by intro y hy;simp at hy) (λh₁ hns hsb=>?_) kd
 have kp:∀b o,s3.heap.get? b=some o→h₁.get? b=some o:=λb o e=>hsb.extBut b o (SN (Heap.lt_size e)) (Heap.get?_push_of_some _ e)
 have J0:=wH (fp:=fp) (cl:=cl) (t':=s3.toks + ([]:List (Str × Value)).length) I3 ok h1 h2 (λb hb=>⟨f3 b hb,g3 b hb⟩) hns kp
 have st4:tn 0 h₁:=T.keep 0 _ _ st3 λb hb o e=>kp b o e
 have ltC:∀b o,s3.heap.get? b=some o→b≠s3.heap.objs.size:=λb o e=>SN (Heap.lt_size e)
 have cC:∀y c,X.env.cells.lookup y=some c→c≠s3.heap.objs.size:=λy c e=>by
  obtain ⟨v,o,ho,_⟩:=I3.cell y c e
  exact ltC c o ho
 have pC:∀p∈X.pn ++ pins,p.1≠s3.heap.objs.size:=λp hp=>ltC _ _ (I3.pin p hp).1
 have lC:s3.heap.objs.size≠X.env.locals:=Uw I3.lt
 have fX:∀{H':Hp},(∀b∈fp,H' b=none)→∀b∈fp,lG (fF X sc cl s3.heap.objs.size x ks s3 H3 fp pins) [] H' b:=λhn b hb=>by
  obtain ⟨o,ho⟩:=g3 b hb
  obtain ⟨_,q1,q2,q3,q4,q5⟩:=f b hb
  refine ⟨hn b hb,ltC b o ho,λz=>?_,.inl hb,λy c e=>q4 y c (h1 y c e),λp hp=>q5 p (by simpa [fF] using hp)⟩
  rcases Sy.mp (I3.oN b z) with e | e
  ·exact q1 e
  ·exact q2 e
 have back:∀{o:Option V} {H':Hp} {s':Shared},Inv (fF X sc cl s3.heap.objs.size x ks s3 H3 fp pins) [] (o :: dW ks σ) H' s'→Inv X pins σ H' s':=λ{o H' s'} J=>by
  obtain ⟨hh,g,d,t,os'⟩:=s'
  obtain rfl:os'=s3.os:=J.os
  exact I3.call (h':=hh) (g':=g) (d':=d) (t':=t) (ch:=fp) J.base J.hok J.bare λb hb=>⟨(f b hb).2.2.2.1,(f b hb).2.1,(f b hb).2.2.2.2.1,(f b hb).2.2.2.2.2⟩
 have lookX:(relabel sc X.env).names.lookup x=some .local:=lookup_relabel_local lx
 have loop:∀s',(∃(i:Nat) (o:Option V) (H':Hp),Inv (fF X sc cl s3.heap.objs.size x ks s3 H3 fp pins) [] (o :: dW ks σ) H' s'∧tn i s'.heap∧(∀b∈fp,H' b=none)∧W i m0 H') →
   codeAny (model X.prog X.w) X.A (.compLoop (.DictComp kx vx [⟨.Name x px,iter,ifs,0⟩] sc pos) 0 (.ref it) (.ref D) (compEnvC sc cl s3.heap.objs.size X.env)) (RR (.ref D) s3.heap.objs.size) s':=by
  intro s' hs'
  refine yy (λn s'=>∃(i:Nat) (o:Option V) (H':Hp),Inv (fF X sc cl s3.heap.objs.size x ks s3 H3 fp pins) [] (o :: dW ks σ) H' s'∧tn i s'.heap∧(∀b∈fp,H' b=none)∧W i n H') ?_ m0 hs'
  rintro n s5 ⟨i,o,H5,J5,t5,n5,w5⟩
  rcases turn i n H5 w5 with ⟨stop,hq⟩ | ⟨go,step⟩
  ·refine cA (T.done (fF X sc cl s3.heap.objs.size x ks s3 H3 fp pins) rfl rfl rfl hc i [] s5 _ H5 _ J5 (fX n5) t5 stop) λr s6 ⟨hr,J6⟩=>?_
   subst hr
   obtain ⟨m,hm,_⟩:=J6.loc
   exact hR D _ s6 H5 m (back J6) hq hm J6.free lC I3.sz cC pC
  ·refine cA (T.item (fF X sc cl s3.heap.objs.size x ks s3 H3 fp pins) rfl rfl rfl hc i [] s5 _ H5 _ J5 (fX n5) t5 go) λr s6 ⟨u,hr,h6⟩=>?_
   subst hr
   refine cA h6 λ_ s7 ⟨v,H7,J7,r7,y7,t7,n7⟩=>?_
   have J7':=J7.pinned (fX n7) (T.obj _ _ t7)
   refine wpAny_assign_Name (fI (X:=fF X sc cl s3.heap.objs.size x ks s3 H3 fp pins) (i:=0) J7' nd rfl (.inl lookX) r7 (λs8 J8=>?_) (.inr lookX))
   refine cA (hcn cl s3.heap.objs.size s3 H3 fp pins _ s8 _ H7 _ J8 (step v H7 y7)) λok s8' ⟨H8,J8',q8⟩=>?_
   cases ok with
   | false =>
    simp only [SE,if_false] at q8 ⊢
    obtain ⟨m',hm,w'⟩:=q8
    refine ⟨m',hm,i + 1,_,_,J8'.gG,?_,?_,w'⟩
    ·exact T.keep _ _ _ t7 λb hb o e=>(J8'.pin (b,o) (Sw _ (Sw _ (cO hb e)))).1
    ·intro b hb
     obtain ⟨o,e,d⟩:=T.obj _ _ t7 b hb
     exact (J8'.pin (b,o) (Sw _ (Sw _ (cO hb e)))).2.1
   | true =>
    simp only [if_true] at q8 ⊢
    refine cA (hk cl s3.heap.objs.size s3 H3 fp pins _ s8' _ H8 _ J8' q8) λky s8'' ⟨vk,H8',J8'',rk,q8'⟩=>?_
    refine cA (he cl s3.heap.objs.size s3 H3 fp pins _ s8'' _ H8' _ J8'' q8') λy s9 ⟨vy,H9,J9,r9,kvs,ep,k,ek,hys,hz,m',hm,w'⟩=>?_
    subst ek
    obtain ⟨hz',hd',vs,rel,da⟩:=kW J9 hys
    refine wpAny_dictSet_pairs (hsz:=by rw [← rel.len];exact hz') (str_is rk) da.dictOf λh' dd' hsb=>?_
    obtain ⟨ep',J10⟩:=qh (t':=s9.toks + 1) J9 hys hsb (show (L2.nE kvs k vy).length≤sizeLine from SH (Af kvs k vy) hz) hd' (rel.pu r9) dd'
    refine ⟨m',hm,i + 1,_,_,J10.gG,?_,?_,w' ep'⟩
    ·exact T.keep _ _ _ t7 λb hb o e=>(J10.pin (b,o) (Sw _ (Sw _ (cO hb e)))).1
    ·intro b hb
     obtain ⟨o,e,d⟩:=T.obj _ _ t7 b hb
     exact (J10.pin (b,o) (Sw _ (Sw _ (cO hb e)))).2.1
 have l0:=loop _ ⟨0,none,H3,J0,st4,λb hb=>(f3 b hb).1,w0⟩
 exact codeAny_compStart_dict l0 (T.self _ 0 _ _ _ st4 l0)
theorem NS {kx vx iter:Expr} {ifs:List Expr} {x:Str} {px:Pos} {sc:Scope} {pos:Pos} {wi:TI} {tk te:TE} {tc:TT} (osc:Scope) (N:List Str) (ks:List (Str × Nat)) (hc:X.calm=true) (ho:X.env.scope=osc) (hN:X.N=N) (hi:PI X (.Name x px) iter wi)
  (hk:∀cl C s₀ H₀ fp pins,PE (fF X sc cl C x ks s₀ H₀ fp pins) kx tk) (he:∀cl C s₀ H₀ fp pins,PE (fF X sc cl C x ks s₀ H₀ fp pins) vx te) (hcn:∀cl C s₀ H₀ fp pins,FF (fF X sc cl C x ks s₀ H₀ fp pins) ifs tc) (ok:cD sc osc N x ks:=by decide +kernel) (hs:∀x,foldedSetIterable iter X.env x=pure x:=by intro _;rfl) :
  PE X (.DictComp kx vx [⟨.Name x px,iter,ifs,0⟩] sc pos) (QF wi ks tc tk te):=by
 intro pins s σ H Q I hw
 obtain ⟨cl,hcl,h1,h2⟩:=iJ (mO ok I ho)
 have ok':cD sc X.env.scope X.N x ks:=by rw [ho,hN];exact ok
 rw [arm_eval_DictComp]
 refine wpAny_comprehension_free (use:=none) rfl hs hcl ok.1 ok.2.2.2.1 (cA (hi pins s σ H _ I hw) λv s1 h3=>cA h3 λitv s2 h4=>?_)
 obtain ⟨it,fp,tn,J,H2,rfl,I2,T,st2,f2,hR⟩:=h4
 refine t4 (RR:=λacc C=>compPost (model X.prog X.w) X.A X.xe none (EP X pins σ Q) acc C) hc ok' h1 h2 hk he hcn I2 T st2 f2 hR ?_
 intro D C s' H' m J' q hn hC cl' cs cc cp
 refine ⟨m,hn,λh' hsb=>⟨.ref D,H',?_,rfl,q⟩⟩
 exact J'.turned (t':=s'.toks) (it:=C) (λb o ne e=>hsb.extBut b o ne e) hC cl' (.inr cs) cc cp
end
end Ov
namespace Ov
open PySem PySem.Spec PyProof.Rows
open L2 (V HO Hp Inv Cx VK XK TE TT TA TS TG o9 TI TO jv Ends uv Loc Gl Rd RelV Vals fh wb b7 o5 rK o7 jt R2 upd aA aF dC gJ Sp p5 It bD cV bS Passes oP aI Meth Mk Binds aQ cE aw di fT eQ jA nE Bo oQ)
section
variable {K:PySem.W.Frag} {J:Hq} {H:Hp}
theorem eS:∀{kvs:List (Str × PV)} {gs:List (Str × V)},lJ K J H kvs gs→oQ (cy K J H) kvs gs
 | [],[],_=>.nil
 | [],_ :: _,h=>by cases h.1
 | _ :: _,[],h=>by cases h.1
 | (k,y) :: fs,(k',w) :: gs,h=>by
  obtain ⟨h1,v',us,h2,h3,h4⟩:=h
  simp only [Sm,List.cons.injEq] at h1 h2
  obtain ⟨rfl,h1⟩:=h1
  obtain ⟨rfl,rfl⟩:=h2
  exact .cons ⟨rfl,h3⟩ (eS ⟨h1,h4⟩)
theorem xg:∀{kvs:List (Str × PV)} {gs:List (Str × V)},oQ (cy K J H) kvs gs→lJ K J H kvs gs
 | _,_,.nil=>⟨rfl,rfl⟩
 | _,_,.cons (a:=p) (b:=q) r t=>by
  obtain ⟨h1,h2⟩:=xg t
  exact ⟨by rw [Sm,Sm,h1,r.1],q.2,_,rfl,r.2,h2⟩
theorem Ext.kq {p:Addr} {kvs kvs':List (Str × PV)} {gs gs':List (Str × V)} {ep ep':Nat} (h:J p=some (.dct kvs ep)) (k:H p=some (.dE gs ep)):Ext K J H (put J p (.dct kvs' ep')) (upd H p (.dE gs' ep')):=by
 have sm:∀a u,a≠p→Rd H a u→Rd (upd H p (.dE gs' ep')) a u:=λa u ne z=>by
  rcases z with z | ⟨o,z⟩
  ·exact .inl (by rw [aF ne];exact z)
  ·exact .inr ⟨o,by rw [aF ne];exact z⟩
 refine ⟨λa vs' z=>?_,λa o z q _=>?_⟩
 ·rcases z with z | z
  ·have ne:a≠p:=by
    intro e;subst e
    rcases z with z | ⟨o,z⟩
    ·rw [k] at z;cases z
    ·rw [k] at z;cases z
   exact .inl (sm a _ ne z)
  ·exact .inr z
 ·have ne:a≠p:=by intro e;subst e;rw [h] at z;cases z
  exact ⟨by rw [ak ne];exact z,by rw [aF ne];exact q⟩
theorem Rep.kq {p:Addr} {kvs kvs':List (Str × PV)} {gs gs':List (Str × V)} {ep ep':Nat} (r:Rep K J H) (h:J p=some (.dct kvs ep)) (k:H p=some (.dE gs ep)) (q:oQ (cy K J H) kvs' gs'):Rep K (put J p (.dct kvs' ep')) (upd H p (.dE gs' ep')):=by
 have e:=Ext.kq (K:=K) (kvs':=kvs') (gs':=gs') (ep':=ep') h k
 refine r.Cq e p (λa ne=>ak ne) (λa o ne _ z=>by rw [aF ne];exact z) λu z=>?_
 rw [aq] at z;cases z
 exact ⟨gs',aA,e.xq (xg q)⟩
theorem Rep.IJ {p:Addr} {ep:Nat} (r:Rep K J H) (n:H p=none):Rep K (put J p (.dct [] ep)) (upd H p (.dE [] ep)):=by
 have e:=Ext.laid (K:=K) (J:=J) (o:=.dE [] ep) (u:=.dct [] ep) n
 refine r.Cq e p (λa ne=>ak ne) (λa o ne _ z=>by rw [aF ne];exact z) λu z=>?_
 rw [aq] at z;cases z
 exact ⟨[],aA,⟨rfl,rfl⟩⟩
end
def NZ:mq:=λx y J Q=>B3 x λa=>IY y λk=>FI (J a) λkvs _=>w8 (jA kvs k) λv=>Q v J
def Hw (f:Bool→Bool):mq:=λx y J Q=>IY x λk=>B3 y λa=>FI (J a) λkvs _=>Q (.bl (f (jA kvs k).isSome)) J
def N0:zr:=λxs J Q=>B2 xs λx=>B3 x λa=>FI (J a) λkvs _=>Q (.int kvs.length) J
def EH:zr:=λxs J Q=>B2 xs λx=>B3 x λa=>FI (J a) λkvs _=>Q (.fl (kvs.map λkv=>.str kv.1)) J
def Ji:Ct:=λx xs J Q=>B3 x λa=>B2 xs λy=>IY y λk=>FI (J a) λkvs _=>w8 (jA kvs k) λv=>∀ep',Q v (put J a (.dct (Bo kvs k) ep'))
def Jj:Bh:=λo i y J R=>B3 o λa=>IY i λk=>FI (J a) λkvs _=>kvs.length < sizeLine∧∀ep',R (put J a (.dct (nE kvs k y) ep'))
def Jo:dt:=λ_ J Q=>∀p,J p=none→∀ep,Q (.ref p) (put J p (.dct [] ep))
def Rp (te:dt):so:=λτ J R=>te τ J λx J1=>B3 x λa=>FI (J1 a) λkvs ep=>R ⟨kvs.map λkv=>.str kv.1,λJ'=>J' a=some (.dct kvs ep)⟩ J1
section
variable {X:Cx} {G:G2}
theorem cM:Pj X NZ:=⟨_,L2.M8,λJ H x y v w Q2 Q rx ry r h kn=>by
 obtain ⟨a,ex,h⟩:=gZ h;obtain ⟨k,ey,h⟩:=oa h;obtain ⟨kvs,ep,ja,h⟩:=n_ h;obtain ⟨z,hz,q⟩:=fL h
 subst ex ey
 cases rx;cases ry
 obtain ⟨gs,h1,h2⟩:=r _ _ ja
 obtain ⟨u,hu,ru⟩:=((eS h2).va k).1 z hz
 exact ⟨a,gs,ep,k,u,rfl,rfl,h1,hu,kn z J u H ru r .refl q⟩⟩
theorem DR (f:Bool→Bool):LR X.K (L2.Lu f) (Hw f):=λJ H x y v w Q2 Q rx ry r h kn=>by
 obtain ⟨k,ex,h⟩:=oa h;obtain ⟨a,ey,h⟩:=gZ h;obtain ⟨kvs,ep,ja,q⟩:=n_ h
 subst ex ey
 cases rx;cases ry
 obtain ⟨gs,h1,h2⟩:=r _ _ ja
 exact ⟨a,gs,ep,k,rfl,rfl,h1,by rw [← ((eS h2).va k).2];exact kn (.bl _) J _ H rfl r .refl q⟩
theorem Ee:md X (compareOp .In) (Hw id):=⟨_,L2.Lb,DR id⟩
theorem Ha:md X (compareOp .NotIn) (Hw not):=⟨_,L2.B6,DR not⟩
theorem oy {K:PySem.W.Frag} {J:Hq} {H:Hp}:∀{ks:List Str},aT K J H (ks.map PV.str) (ks.map V.str)
 | []=>rfl
 | k :: ks=>⟨_,_,rfl,rfl,oy (ks:=ks)⟩
theorem wu (hc:X.calm=true):JK X (.type "list") EH:=⟨_,L2.wo hc,λJ H xs vs Q2 Q rs r h k=>by
 obtain ⟨x,ex,h⟩:=jS h;obtain ⟨a,ea,h⟩:=gZ h;obtain ⟨kvs,ep,ja,q⟩:=n_ h;subst ea
 subst ex;obtain ⟨v,us,rfl,rv,e⟩:=rs;cases e;cases rv
 obtain ⟨gs,h1,h2⟩:=r _ _ ja
 refine ⟨a,gs,ep,rfl,h1,λp hp=>?_⟩
 have hk:aT X.K J H (kvs.map λkv=>PV.str kv.1) (gs.map λkv=>V.str kv.1):=by
  have:=(eS h2).keys
  rw [show (kvs.map λkv=>PV.str kv.1)=(kvs.map (·.1)).map PV.str by rw [Ss];rfl,show (gs.map λkv=>V.str kv.1)=(gs.map (·.1)).map V.str by rw [Ss];rfl,this]
  exact oy
 obtain ⟨x1,x2,x3⟩:=qy r hk hp
 exact k _ J _ _ x1 x2 x3 q⟩
theorem GR:J_ X "dict" "dict.pop" Ji:=⟨_,L2.GU,λJ H x xs v vs Q2 Q rx rs r h kn=>by
 obtain ⟨a,ex,h⟩:=gZ h;obtain ⟨y,exs,h⟩:=jS h;obtain ⟨k,ek,h⟩:=oa h;obtain ⟨kvs,ep,ja,h⟩:=n_ h;obtain ⟨z,hz,q⟩:=fL h;subst ek
 subst ex exs;cases rx
 obtain ⟨u,us,rfl,ru,e⟩:=rs;cases e;cases ru
 obtain ⟨gs,h1,h2⟩:=r _ _ ja
 have pk:=eS h2
 obtain ⟨y,hy,ry⟩:=(pk.va k).1 z hz
 refine ⟨a,gs,ep,k,y,rfl,rfl,h1,hy,λep'=>?_⟩
 have e2:=Ext.kq (K:=X.K) (kvs':=Bo kvs k) (gs':=Bo gs k) (ep':=ep') ja h1
 exact kn z _ y _ (e2.rep ry) (r.kq ja h1 (pk.dr k)) e2 (q ep')⟩
theorem fY:Pn X Jj:=⟨_,L2.LN,λJ H o i y ov iv u R2 R ro ri ry r h kk=>by
 obtain ⟨a,eo,h⟩:=gZ h;obtain ⟨k,ei,h⟩:=oa h;obtain ⟨kvs,ep,ja,hl,q⟩:=n_ h
 subst eo ei;cases ro;cases ri
 obtain ⟨gs,h1,h2⟩:=r _ _ ja
 have pk:=eS h2
 refine ⟨a,gs,ep,k,rfl,rfl,h1,by rw [← pk.len];exact hl,λep'=>?_⟩
 exact kk _ _ (r.kq ja h1 (pk.pu ry)) (Ext.kq (K:=X.K) ja h1) (q ep')⟩
theorem m7 {pos:Pos}:RE X G (.Dict [] [] pos) Jo:=⟨kY L2.Hi λσ H Q ⟨τ,J,Q2,a2,q,k⟩ p hp ep=>k (.ref p) _ _ _ rfl (a2.hp.IJ hp) (.laid hp) (q p (a2.hp.free hp) ep)⟩
theorem i5 {tg l:Expr} {tl:dt} (hl:RE X G l tl):RI X G tg l (Rp tl):=⟨O7 (L2.Hj hl.run) λσ H R ⟨τ,J,R2,a2,h,k⟩=>⟨τ,J,_,a2,h,λx J1 v H1 rx r1 e1 h=>by
 obtain ⟨a,ex,h⟩:=gZ h;obtain ⟨kvs,ep,ja,q⟩:=n_ h
 subst ex;cases rx
 obtain ⟨gs,h1,h2⟩:=r1 _ _ ja
 have pk:=eS h2
 have hl':=pk.len
 refine ⟨a,gs,ep,rfl,h1,k _ J1 _ H1 ?_ r1 e1 q⟩
 have hks:=pk.keys
 have key:∀J' H',Rep X.K J' H'→J' a=some (.dct kvs ep)→∃gs',H' a=some (.dE gs' ep)∧gs'.map (·.1)=gs.map (·.1):=λJ' H' r o=>by
  obtain ⟨gs',h1',h2'⟩:=r _ _ o
  exact ⟨gs',h1',by rw [← (eS h2').keys,hks]⟩
 exact {
  go:=λJ' H' e r o i hi=>⟨key J' H' r o,by rw [Sg] at hi ⊢;omega⟩
  yl:=λJ' H' e r o i hi v H2 y=>by
   obtain ⟨rfl,k,hk,rfl⟩:=y
   rw [← hks,Sl] at hk
   obtain ⟨kv,hkv,rfl⟩:=Uu.mp hk
   exact ⟨.str kv.1,by rw [Sl,hkv];rfl,rfl,r,.refl⟩
  stop:=λJ' H' e r o=>⟨key J' H' r o,by rw [Sg,Sg];omega⟩ }⟩⟩
def N9 (wi:so) (ks:List (Str × Nat)) (tc:kT) (tk te:dt):dt:=λτ J Q=>wi τ J λit J1=>∀D,J1 D=none→∀ep,∃W:Nat→Hq→Prop,W 0 (put J1 D (.dct [] ep))∧(∀i J2,W i J2→it.ok J2) ∧
 (∀i x J2,it.xs[i]?=some x→W i J2→tc (some x :: pA ks τ) J2 λb J3=>if b=true then tk (some x :: pA ks τ) J3 λy J4=>te (some x :: pA ks τ) J4 λz J5 =>
  ∃kvs ep k,y=.str k∧J5 D=some (.dct kvs ep)∧kvs.length < sizeLine∧∀ep',W (i + 1) (put J5 D (.dct (nE kvs k z) ep')) else W (i + 1) J3)∧∀J2,W it.xs.length J2→Q (.ref D) J2
theorem zE {wi:so} {ks:List (Str × Nat)} {tc:kT} {tk te:dt}:∀σ H Q,LE X.K G (N9 wi ks tc tk te) σ H Q→QF (LI X.K G wi) ks (LT X.K G tc) (LE X.K G tk) (LE X.K G te) σ H Q:=λσ H Q ⟨τ,J,Q2,a2,h,k⟩ =>
 ⟨τ,J,_,a2,h,λit J1 I H1 ir r1 e1 w D hD ep=>by
  obtain ⟨W,w0,wok,step,fin⟩:=w D (r1.free hD) ep
  refine ⟨λi m H2=>m=it.xs.length - i∧i≤it.xs.length∧∃J2,Rep X.K J2 H2∧Ext X.K J1 H1 J2 H2∧W i J2,⟨_,rfl,SX _,_,r1.IJ hD,.laid hD,w0⟩,?_⟩
  rintro i m H2 ⟨rfl,hi,J2,r2,e2,w2⟩
  by_cases hlt:i < it.xs.length
  ·refine .inr ⟨ir.go J2 H2 e2 r2 (wok i J2 w2) i hlt,λv H3 y=>?_⟩
   obtain ⟨x,ex,rx,r3,e3⟩:=ir.yl J2 H2 e2 r2 (wok i J2 w2) i hlt v H3 y
   have a3:wa X.K G (some x :: pA ks τ) J2 (some v :: dW ks σ) H3:=⟨Ap (a2.sl.ext ((e1.trans e2).trans e3)) rx ks,r3,((a2.ext.trans e1).trans e2).trans e3⟩
   refine ⟨_,_,_,a3,step i x J2 ex w2,λb J4 H4 r4 e4 q=>?_⟩
   cases b with
   | false =>
    simp only [SE,if_false] at q ⊢
    exact ⟨_,by omega,rfl,hlt,J4,r4,(e2.trans e3).trans e4,q⟩
   | true =>
    simp only [if_true] at q ⊢
    refine ⟨_,_,_,a3.go r4 e4,q,λyk J5 u H5 rk r5 e5 q5=>?_⟩
    refine ⟨_,_,_,(a3.go r4 e4).go r5 e5,q5,λz J6 vz H6 rz r6 e6 ⟨kvs,ep2,kk,ek,jD,hl,q6⟩=>?_⟩
    subst ek
    cases rk
    obtain ⟨gs,h1,h2⟩:=r6 _ _ jD
    have pk:=eS h2
    refine ⟨gs,ep2,kk,rfl,h1,by rw [← pk.len];exact hl,it.xs.length - (i + 1),by omega,λep'=>⟨rfl,hlt,_,r6.kq jD h1 (pk.pu rz),?_,q6 ep'⟩⟩
    exact ((((e2.trans e3).trans e4).trans e5).trans e6).trans (Ext.kq (K:=X.K) jD h1)
  ·have ei:i=it.xs.length:=by omega
   subst ei
   exact .inl ⟨ir.stop J2 H2 e2 r2 (wok _ J2 w2),k (.ref D) J2 _ H2 rfl r2 (e1.trans e2) (fin J2 w2)⟩⟩
theorem Qo {X:Cx} {ifs:List Expr} {t t':TT} (h:FF X ifs t) (k:∀σ H Q,t' σ H Q→t σ H Q):FF X ifs t':=λpins s σ H Q I q=>h pins s σ H Q I (k _ _ _ q)
variable {kx vx iter cnd:Expr} {x y:Str} {px py:Pos} {sc:Scope} {pos spos:Pos} {wi:so} {tk te:dt} {tc:kT} {i:Nat}
theorem Ox (osc:Scope) (N:List Str) (ks:List (Str × Nat)) (hc:X.calm=true) (ho:X.env.scope=osc) (hN:X.N=N) (hi:RI X G (.Name x px) iter wi) (hk:∀cl C s₀ H₀ fp pins,RE (fF X sc cl C x ks s₀ H₀ fp pins) G kx tk) (he:∀cl C s₀ H₀ fp pins,RE (fF X sc cl C x ks s₀ H₀ fp pins) G vx te)
  (ok:cD sc osc N x ks:=by decide +kernel) (hs:∀x,foldedSetIterable iter X.env x=pure x:=by intro _;rfl):RE X G (.DictComp kx vx [⟨.Name x px,iter,[],0⟩] sc pos) (N9 wi ks xo tk te) :=
 ⟨kY (NS osc N ks hc ho hN hi.run (λcl C s₀ H₀ fp pins=>(hk cl C s₀ H₀ fp pins).run) (λcl C s₀ H₀ fp pins=>(he cl C s₀ H₀ fp pins).run) (λcl C s₀ H₀ fp pins=>Qo vm λσ H Q ⟨τ,J,Q2,a2,q,k⟩=>k true J H a2.hp .refl q) ok hs) zE⟩
end
def zg (tabs:List Addr):cS:=λxs J Q _=>∃ns:List Int,xs=[.fl (ns.map .int)]∧ns.length≤63∧(∀T∈tabs,J T=some .tab)∧(∀a,a ∉ tabs→J a=none)∧∀J',(∀T∈tabs,J' T=some .tab)→Q (.bl true) J'
def E_ (tabs:List Addr) (K:PySem.W.Frag):Sp:=λvs H Q _=>∃(a:Addr) (ns:List Int),vs=[.ref a]∧dC K H a (ns.map V.int)∧ns.length≤63∧(∀T∈tabs,H T=some (.ext (eE T))) ∧
 (∀b,H b≠none→b=a∨b∈tabs)∧(∀u,H a=some u→∃o xs,u=.pd o (.lst xs))∧∀H',bD H H'→Q (.bl true) H'
theorem BD {P:Program} {w:World} {K:PySem.W.Frag} {mg:Str→Option Value} {base:Heap} {k:Nat} {f:Addr} {fd:FuncData} {ps:List Str} {tabs:List Addr} (F:aQ P w K mg base (dn P w) k f fd ps (d4 K (zg tabs))) :
  aQ P w K mg base L2.pZ k f fd ps (E_ tabs K) :=
 F.OV.imp λvs H Q E ⟨a,ns,e,hS,hl,hT,hA,hK,q⟩=>by
  subst e
  classical
  have na:∀u,H a=some u→a ∉ tabs:=λu hu hm=>by
   obtain ⟨o,xs,rfl⟩:=hK u hu
   rw [hT a hm] at hu;cases hu
  refine ⟨[.fl (ns.map .int)],λb=>if b∈tabs then some .tab else none,λx J'=>x=.bl true∧∀T∈tabs,J' T=some .tab,λ_ _=>False,⟨.ref a,[],rfl,⟨a,ns.map V.int,rfl,?_,ou ns⟩,rfl⟩,?_,⟨ns,rfl,hl,λT hT=>if_pos hT,λb hb=>if_neg hb,λJ' h=>⟨rfl,h⟩⟩,?_,?_⟩
  ·rcases hS with h | h
   ·refine .inl ⟨?_,h⟩
    have:a ∉ tabs:=by
     rcases h with h | ⟨o,h⟩
     ·exact na _ h
     ·exact na _ h
    exact if_neg this
   ·exact .inr h
  ·intro b o z
   by_cases hb:b∈tabs
   ·have z':=(if_pos hb).symm.trans z
    cases z'
    exact hT b hb
   ·have z':=(if_neg hb).symm.trans z
    cases z'
  ·rintro z J' u H' rz rr ee ⟨rfl,ht⟩
   cases rz
   refine q H' λb o hb=>?_
   rcases hA b (by rw [hb];simp) with rfl | hm
   ·obtain ⟨ob,xs,rfl⟩:=hK o hb
    exact (ee.ll b _ (if_neg (na _ hb)) hb (.inr ⟨_,_,rfl⟩)).2
   ·have:=hT b hm
    rw [hb] at this;cases this
    exact rr b _ (ht b hm)
  ·intro _ _ _ _ _ z;exact z.elim
end Ov
namespace L2
open PySem PySem.Spec PyProof.Rows
def PF (k:Str):Value→Bool
 | .str y _=>y.cps.toList == k.cps.toList
 | _=>false
theorem Cr {ss:List Str} {us:List Value} (r:Vals (ss.map V.str) us):us.length=ss.length∧∀(j:Nat) (u:Value),us[j]?=some u→∃y t,ss[j]?=some y∧u=.str y t:=by
 induction ss generalizing us with
 | nil=>cases r;exact ⟨rfl,λj u e=>by simp at e⟩
 | cons y ss ih =>
  rw [Sm] at r
  cases r with
  | cons ru rr =>
   obtain ⟨t,rfl⟩:=ru
   obtain ⟨h1,h2⟩:=ih rr
   refine ⟨by simp [h1],λj u e=>?_⟩
   cases j with
   | zero=>cases e;exact ⟨y,t,rfl,rfl⟩
   | succ j=>exact h2 j u (by simpa using e)
theorem tL {α β:Type} (f:α→β):∀(l:List α) (j:Nat),(l.eraseIdx j).map f=(l.map f).eraseIdx j
 | [],_=>rfl
 | _ :: _,0=>rfl
 | x :: l,j + 1=>by simp only [Uq,Sm,tL f l j]
section
variable {X:Cx}
def EK:V→List V→Hp→VK→Prop:=λx vs H Q=>∃(l:Addr) (ss:List Str) (k:Str) (j:Nat),x=.ref l∧vs=[.str k]∧H l=some (.lst (ss.map V.str))∧ss[j]?=some k∧(∀m:Nat,m < j→ss[m]?≠some k)∧Q .non (upd H l (.lst ((ss.eraseIdx j).map V.str)))
theorem yE:o7 X "list.remove" EK:=by
 intro pins s σ H x vs v us Q I rx rv h
 obtain ⟨l,ss,k,j,rfl,rfl,hH,hj,hno,q⟩:=h
 cases rx
 obtain ⟨u,rfl,ru⟩:=rv.one
 obtain ⟨t,rfl⟩:=ru
 obtain ⟨z,its,n,r,hl,e⟩:=I.GL hH
 obtain ⟨h1,h2⟩:=Cr r
 obtain ⟨hjl,hje⟩:=Sj.mp hj
 have hz:ss.length≤sizeLine:=by simpa using z
 have at_:∀(m:Nat) (hm:m < its.toArray.size),PF k its.toArray[m]=decide (ss[m]?=some k):=λm hm=>by
  obtain ⟨y,t',hy,hu⟩:=h2 m its[m] (Si (by simpa using hm))
  show PF k its[m]=_
  rw [hu,hy]
  show (y.cps.toList == k.cps.toList)=_
  by_cases hk:y=k
  ·subst hk;simp
  ·have:(y.cps.toList == k.cps.toList)=false:=by
    rw [beq_eq_false_iff_ne]
    intro z
    exact hk (by cases y;cases k;simp at z;rw [z])
   rw [this];symm;exact decide_eq_false λz=>hk (Option.some.inj z)
 refine call_meets PySem.F.slot_list_remove ⟨_,e,rfl⟩ PySem.F.entry_list_remove (PySem.F.args_list_remove_2 _ _)
  (MeetsSeq.list_remove l its.toArray n (.str k t) (PF k) (λy hy=>?_) j (by simpa using (show j < its.length by omega)) ?_ (λm hm hlt=>?_) (by rw [Sn];omega)) ⟨e,?_⟩
 ·obtain ⟨m,hm⟩:=SW.mp (show y∈its by simpa using hy)
  obtain ⟨y',t',_,rfl⟩:=h2 m y hm
  exact SeqRoads2.EqGives.str _ _ _ _
 ·rw [at_];exact decide_eq_true hj
 ·rw [at_];exact decide_eq_false (hno m hlt)
 ·refine ⟨.non,_,I.GK (its':=its.eraseIdx j) hH e (by rw [T6]) ?_ ?_,rfl,q⟩
  ·rw [tL];exact r.eraseIdx j
  ·rw [Sg];exact SH (List.length_eraseIdx_le _ _) hz
end
end L2
namespace Ov
open PySem PySem.Spec PyProof.Rows
open L2 (V HO Hp Inv Cx VK XK TE TT TA TS TG o9 TI TO jv Ends uv Loc Gl Rd RelV Vals fh wb b7 o5 rK o7 jt R2 upd aA aF dC gJ Sp p5 It bD cV bS Passes oP aI Meth Mk Binds aQ cE aw di fT eQ)
section
variable {X:Cx} {G:G2}
def Lq:Ct:=λx xs J Q=>∃(a:Addr) (ss:List Str) (k:Str) (j:Nat),x=.ref a∧xs=[.str k]∧J a=some (.lst (ss.map .str))∧ss[j]?=some k∧(∀m:Nat,m < j→ss[m]?≠some k)∧Q (.int (j:Nat)) J
def Ak:Ct:=λx xs J Q=>∃(a:Addr) (ss:List Str) (k:Str) (j:Nat),x=.ref a∧xs=[.str k]∧J a=some (.lst (ss.map .str))∧ss[j]?=some k∧(∀m:Nat,m < j→ss[m]?≠some k)∧Q .non (put J a (.lst ((ss.eraseIdx j).map .str)))
theorem BN:J_ X "list" "list.remove" Ak:=⟨_,L2.yE,λJ H x xs v vs Q2 Q rx rs r ⟨a,ss,k,j,ex,exs,ja,hj,hno,q⟩ kn=>by
 subst ex exs;cases rx
 obtain ⟨w,us,rfl,rw',e⟩:=rs;cases e;cases rw'
 obtain ⟨ws,h1,h2⟩:=r _ _ ja
 cases i4 h2
 exact ⟨a,ss,k,j,rfl,rfl,h1,hj,hno,kn .non _ _ _ rfl (r.wrote (ys:=(ss.eraseIdx j).map .str) ja h1 oy) (.wrote ja h1) q⟩⟩
variable {a b c:Expr} {ta tb tc:dt} {pos:Pos}
def vq (q q':mq) (ta tb tc:dt):dt:=λτ J Q=>ta τ J λx J1=>tb τ J1 λy J2=>q x y J2 λz J3=>IW z λk=>(if k=true then tc τ J3 λw J4=>q' y w J4 Q else Q (.bl false) J3)
theorem yd {r r':R2} {q q':mq} (lr:LR X.K r q) (lr':LR X.K r' q'):∀σ H Q,LE X.K G (vq q q' ta tb tc) σ H Q→L2.Fq r r' (LE X.K G ta) (LE X.K G tb) (LE X.K G tc) σ H Q:=λσ H Q ⟨τ,J,Q2,a2,hh,k⟩=>⟨τ,J,_,a2,hh,λx J1 v H1 rx r1 e1 q1=>⟨τ,J1,_,a2.go r1 e1,q1,λy J2 w H2 ry r2 e2 q2 =>
  lr J2 H2 x y v w _ _ (e2.rep rx) ry r2 q2 λz J3 u H3 rz r3 e3 hz=>by
   obtain ⟨kk,ez,q3⟩:=qC hz
   subst ez;cases rz
   refine ⟨kk,rfl,?_⟩
   cases kk with
   | false=>simp only [SE,if_false] at q3 ⊢;exact k (.bl false) J3 _ H3 rfl r3 ((e1.trans e2).trans e3) q3
   | true =>
    simp only [if_true] at q3 ⊢
    exact ⟨τ,J3,_,((a2.go r1 e1).go r2 e2).go r3 e3,q3,λw2 J4 u4 H4 r4 rr4 e4 q4=>lr' J4 H4 y w2 w u4 Q2 Q ((e3.trans e4).rep ry) r4 rr4 q4 λz' J' u' H' rz' rr' ee' qq=>k z' J' u' H' rz' rr' ((((e1.trans e2).trans e3).trans e4).trans ee') qq⟩⟩⟩
theorem ES {op op':CmpOp} {q q':mq} (ho:md X (compareOp op) q) (ho':md X (compareOp op') q') (ha:RE X G a ta) (hb:RE X G b tb) (hc:RE X G c tc) (hm:lastMarks [op,op'] [b,c]=false:=by with_unfolding_all rfl) :
  RE X G (.Compare a [op,op'] [b,c] pos) (vq q q' ta tb tc):=by
 obtain ⟨r,h,lr⟩:=ho
 obtain ⟨r',h',lr'⟩:=ho'
 exact ⟨kY (L2.Eo h h' ha.run hb.run hc.run hm) (yd lr lr')⟩
end
end Ov
namespace L2
open PySem PySem.Spec PyProof.Rows
def Rc (K:PySem.W.Frag) (a:Addr):It :=
 ⟨λi H=>∃xs x,dC K H a xs∧xs[i]?=some x,
  λi H z H'=>∃T x,H T=none∧z=.ref T∧H'=upd H T (.tup [.int (i:Nat),x])∧(∀xs,dC K H a xs→xs[i]?=some x),
  λi H=>∃xs,dC K H a xs∧xs.length≤i⟩
theorem Co {P:Program} {w:World} {K:PySem.W.Frag} {elts:List Expr} {x1} {pos:Pos} {e it l:Addr} (ne:e≠it) :
  Turn P w K (.Tuple elts x1 pos) (Rc K l) [e,it] e (λi h=>(∃old,IsEnum h e it (i:Int) old)∧h.IsListIter it l i) where
 mem:=by simp
 obj:=λi h ⟨⟨old,he⟩,h1⟩ c hc=>by
  simp only [Sy,S2,or_false] at hc
  rcases hc with rfl | rfl
  ·exact ⟨_,he,λv z=>by cases z⟩
  ·obtain ⟨o,e,c,d⟩:=h1;exact ⟨o,e,λv z=>by rw [d] at z;cases z⟩
 keep:=λi h h' ⟨⟨old,he⟩,h1⟩ k=>⟨⟨old,k e (by simp) _ he⟩,h1.at λo q=>k it (by simp) o q⟩
 item:=by
  intro X hP hw hK hc i pins s σ H E I hf st hg
  subst hP hw hK
  obtain ⟨⟨old,he⟩,h1⟩:=st
  obtain ⟨xs,x,hqx,hx⟩:=hg
  obtain ⟨its,rv,p,hzx⟩:=I.list hqx
  obtain ⟨u,hu,rx⟩:=rv.get hx
  refine wpAny_pyNext_enum_item he h1 p.isList (x:=u) (by simpa using hu) ne λh' a1 a3 a5 a6 hk=>?_
  refine ⟨_,rfl,wpAny_letOwnedTupleGo_enum a1 λh'' hz' hs'=>?_⟩
  have hT:H s.heap.objs.size=none:=I.hok.fresh (So _)
  have lt:∀{c o},s.heap.get? c=some o→c≠s.heap.objs.size:=λe=>SN (Heap.lt_size e)
  have I0:Inv X pins σ (upd H s.heap.objs.size (.tup [.int (i:Nat),x])) { s with heap:=s.heap.push { cls:=.type "tuple",data:=.seq #[.int i s.toks,u] },toks:=s.toks + 1 }:=I.laid (t':=s.toks + 1) (λb u e=>Heap.get?_push_of_some _ e) (So _) ⟨by simp [sizeLine],[.int i s.toks,u],.cons ⟨_,rfl⟩ (.cons rx .nil),⟨_,Heap.get?_push_size _ rfl,rfl,_,rfl⟩⟩
  have fpn:∀b∈[e,it],b≠s.heap.objs.size:=λb hb=>by
   simp only [Sy,S2,or_false] at hb
   rcases hb with rfl | rfl
   ·exact lt he
   ·obtain ⟨o,e,_⟩:=h1;exact lt e
  have fpu:∀b∈[e,it],lG X pins (upd H s.heap.objs.size (.tup [.int (i:Nat),x])) b:=λb hb=>⟨by rw [aF (fpn b hb)];exact (hf b hb).1,(hf b hb).2⟩
  have I1:Inv X pins σ (upd H s.heap.objs.size (.tup [.int (i:Nat),x])) { s with heap:=h'',toks:=s.toks + 1 }:=Inv.AV (s:={ s with heap:=s.heap.push { cls:=.type "tuple",data:=.seq #[.int i s.toks,u] },toks:=s.toks + 1 }) (t':=s.toks + 1) (ch:=[e,it]) I0 (λb o hb eb=>by
   simp only [Sy,S2,or_false,not_or] at hb
   rcases Heap.get?_push_cases eb with ⟨rfl,rfl⟩ | e'
   ·exact hs'.extBut _ _ hb.1 a5
   ·exact hs'.extBut _ _ hb.1 (hk b o hb.1 hb.2 e')) fpu
  refine ⟨.ref s.heap.objs.size,_,I1,rfl,⟨_,x,hT,rfl,rfl,λzs hq=>by rw [I.qv hq hqx];exact hx⟩,⟨⟨_,by rw [Int.natCast_add];exact hz'⟩,a3.extBut hs'.extBut (Ne.symm ne)⟩,λb hb=>(fpu b hb).1⟩
 done:=by
  intro X hP hw hK hc i pins s σ H E I hf st hg
  subst hP hw hK
  obtain ⟨⟨old,he⟩,h1⟩:=st
  obtain ⟨xs,hqx,hl⟩:=hg
  obtain ⟨its,rv,p,hzx⟩:=I.list hqx
  have e1:=rv.length
  refine wpAny_pyNext_enum_end (I.ok.hd hc) he h1 p.isList (by rw [List.getElem?_toArray,Uk];omega) λh' hk=>⟨rfl,I.AV (t':=s.toks) (ch:=[e,it]) (λb o hb e=>?_) hf⟩
  simp only [Sy,S2,or_false,not_or] at hb
  exact hk b o hb.2 e
 self:=λ_ _ _ _ _ st h=>let ⟨⟨_,he⟩,_⟩:=st;wpAny_pyIter_enum he h
def M5 (K:PySem.W.Frag) (ta:TA):TI:=λσ H R=>ta σ H λvs H1=>∃a xs,vs=[.ref a]∧dC K H1 a xs∧R (Rc K a) H1
section
variable {X:Cx}
theorem Hk {l:Expr} {elts:List Expr} {x1} {tp:Pos} {ta:TA} {p pos:Pos} (hg:Gl X "enumerate") (hm:X.mg "enumerate"=none) (ha:PA X [l] ta) (hs:starEach [l] X.env=(false,eval l X.env) :: starEach [] X.env:=by rfl) (hp:(backTo pos (starEach [] X.env)).any (·.1)=false:=by rfl):PI X (.Tuple elts x1 tp) (.Call (.Name "enumerate" p) [l] [] pos) (M5 X.K ta):=by
 intro pins s σ H R I h
 refine Call_ (nY I hg hm PyProof.Rows.Boot.«enumerate» (PyProof.Rows.callWith_type1 (cA (ha pos pins s σ H _ I h) λus s1 ⟨vs,H1,I1,r1,q1⟩=>?_) hs hp))
 obtain ⟨a,xs,e,hqa,q⟩:=q1
 subst e
 cases r1 with
 | cons r rr =>
  cases rr
  cases r
  obtain ⟨its,rv,pl,hz⟩:=I1.list hqa
  refine call_enumerate_list pl.isList ?_
  intro h' b1 b2 b6 hk
  refine wpAny_pyIter_enum b1 ?_
  have ne:s1.heap.objs.size + 1≠s1.heap.objs.size:=Nat.succ_ne_self _
  refine ⟨_,_,_,_,H1,rfl,I1.kept (t':=s1.toks) hk,Co ne,⟨⟨_,b1⟩,b2⟩,λc hc=>?_,q⟩
  have hc':s1.heap.objs.size≤c:=by
   simp only [Sy,S2,or_false] at hc
   show @LE.le Nat _ _ _
   rcases hc with rfl | rfl
   ·exact UT _ _
   ·exact So _
  exact I1.Gs hc' (I1.hok.fresh hc')
end
end L2
namespace Ov
open PySem PySem.Spec PyProof.Rows
open L2 (V HO Hp Inv Cx VK XK TE TT TA TS TG o9 TI TO jv Ends uv Loc Gl Rd RelV Vals fh wb b7 o5 rK o7 jt R2 upd aA aF dC gJ Sp p5 It bD cV bS Passes oP aI Meth Mk Binds aQ cE aw di fT eQ)
def wz (xs:List PV):List PV:=(S8 xs.length).zipWith (λi x=>PV.tup [.int ((i:Nat):Int),x]) xs
theorem kC (xs:List PV):(wz xs).length=xs.length:=by unfold wz;simp
theorem tK (xs:List PV) (i:Nat) (x:PV) (h:xs[i]?=some x):(wz xs)[i]?=some (.tup [.int (i:Int),x]):=by
 unfold wz
 obtain ⟨hi,e⟩:=Sj.mp h
 rw [List.getElem?_zipWith,UJ hi,h]
section
variable {X:Cx} {G:G2}
def Rq (ta:pB):so:=λτ J R=>ta τ J λvs J1=>B2 vs λx=>w8 (rL J1 x) λxs=>R ⟨wz xs,λJ'=>rL J' x=some xs⟩ J1
theorem HG {l:Expr} {elts:List Expr} {x1} {tp:Pos} {ta:pB} {p pos:Pos} (hg:Gl X "enumerate") (hm:X.mg "enumerate"=none) (ha:RA X G [l] ta) (hs:starEach [l] X.env=(false,eval l X.env) :: starEach [] X.env:=by rfl) (hp:(backTo pos (starEach [] X.env)).any (·.1)=false:=by rfl) :
  RI X G (.Tuple elts x1 tp) (.Call (.Name "enumerate" p) [l] [] pos) (Rq ta):=⟨O7 (L2.Hk hg hm ha.run hs hp) λσ H R ⟨τ,J,R2,a2,h,k⟩=>⟨τ,J,_,a2,h,λvs J1 us H1 rs r1 e1 hh=>by
 obtain ⟨x,ev,hh⟩:=jS hh;obtain ⟨xs,hx,q⟩:=fL hh
 subst ev
 obtain ⟨v,us',rfl,rv,e'⟩:=rs
 cases e'
 obtain ⟨a,ws,rfl,h1,h2⟩:=DS hx rv r1
 refine ⟨a,ws,rfl,h1,k _ J1 _ H1 ?_ r1 e1 q⟩
 have at_:∀J' H',Ext X.K J1 H1 J' H'→Rep X.K J' H'→rL J' x=some xs→∃vs,dC X.K H' a vs∧aT X.K J' H' xs vs:=λJ' H' e r o=>by
  obtain ⟨c,vs,eb,g1,g2⟩:=DS o (e.rep rv) r
  cases eb
  exact ⟨vs,g1,g2⟩
 exact {
  go:=λJ' H' e r o i hi=>by
   obtain ⟨vs,s,rs⟩:=at_ J' H' e r o
   rw [kC] at hi
   exact ⟨vs,vs[i]'(by rw [← rs.length];exact hi),s,by simp⟩
  yl:=λJ' H' e r o i hi v H2 y=>by
   obtain ⟨vs,s,rs⟩:=at_ J' H' e r o
   obtain ⟨T,z,hT,rfl,rfl,y1⟩:=y
   obtain ⟨c,ec,rc⟩:=rs.get' (y1 vs s)
   have sm:=bD.new hT (.tup [.int (i:Nat),z])
   have e2:=Ext.same (K:=X.K) (J:=J') sm
   refine ⟨.tup [.int (i:Int),c],tK _ _ _ ec,⟨T,[.int (i:Nat),z],rfl,.inl (.inl aA),e2.jy ⟨.int (i:Nat),_,rfl,rfl,z,_,rfl,rc,rfl⟩⟩,r.same sm,e2⟩
  stop:=λJ' H' e r o=>by
   obtain ⟨vs,s,rs⟩:=at_ J' H' e r o
   exact ⟨vs,s,by rw [kC,← rs.length];exact So _⟩ }⟩⟩
end
section
variable {X:Cx} {pins:List (Addr × Obj)} {σ:L2.St} {H:Hp} {s:Shared}
open Classical in
def eT (K:PySem.W.Frag) (H:Hp) (zs:List Py) (y:Py) (u:Value):Bool:=decide (∃z∈zs,∃v,RelV v u∧At K H z v∧kD z y=true)
end
section
variable {X:Cx} {G:G2}
end
end Ov
namespace Ov
open PySem
structure aS where
 m:Rat
 h:Str
 f:Str
 deriving DecidableEq
def slt (a b:Str):Prop:=a.cps.toList < b.cps.toList
instance (a b:Str):Decidable (slt a b):=inferInstanceAs (Decidable (a.cps.toList < b.cps.toList))
def aS.lt (a b:aS):Bool:=if a.m=b.m then (if a.h=b.h then decide (slt a.f b.f) else decide (slt a.h b.h)) else decide (a.m < b.m)
theorem nq (a:Str):¬ slt a a:=List.lt_irrefl _
theorem oH {a b c:Str} (h:slt a b) (k:slt b c):slt a c:=List.lt_trans h k
theorem DZ:∀(a b:List Nat),a≠b→a < b∨b < a
 | [],[],h=>absurd rfl h
 | [],_ :: _,_=>.inl (UU _ _)
 | _ :: _,[],_=>.inr (UU _ _)
 | x :: a,y :: b,h=>by
  rcases UO x y with z | z | z
  ·exact .inl (TM.mpr (.inl z))
  ·subst z
   rcases DZ a b (λe=>h (by rw [e])) with q | q
   ·exact .inl (TM.mpr (.inr ⟨rfl,q⟩))
   ·exact .inr (TM.mpr (.inr ⟨rfl,q⟩))
  ·exact .inr (TM.mpr (.inl z))
theorem vT {a b:Str} (h:a≠b):slt a b∨slt b a:=by
 have ne:a.cps.toList≠b.cps.toList:=λe=>h (by cases a;cases b;simp at e;rw [e])
 exact DZ _ _ ne
theorem LQ {a b:Str} (h:slt a b):a≠b:=λe=>by subst e;exact nq _ h
theorem aS.lt_iff (a b:aS):a.lt b=true↔a.m < b.m∨(a.m=b.m∧(slt a.h b.h∨(a.h=b.h∧slt a.f b.f))):=by
 unfold aS.lt
 by_cases e:a.m=b.m
 ·rw [if_pos e]
  have n:¬ a.m < b.m:=by rw [e];exact Rat.lt_irrefl
  by_cases k:a.h=b.h
  ·rw [if_pos k]
   have n2:¬ slt a.h b.h:=λz=>LQ z k
   simp [e,k,n,n2]
   try (intro z;first | exact absurd z Rat.lt_irrefl | exact absurd z (nq _))
  ·rw [if_neg k]
   simp [e,k]
   try (intro z;exact absurd z Rat.lt_irrefl)
 ·rw [if_neg e]
  simp [e]
theorem aS.KY (a:aS):a.lt a=false:=by
 cases h:a.lt a with
 | false=>rfl
 | true =>
  rcases (aS.lt_iff a a).mp h with h | ⟨_,h | ⟨_,h⟩⟩
  ·exact absurd h Rat.lt_irrefl
  ·exact absurd h (nq _)
  ·exact absurd h (nq _)
theorem tZ {a b c:Rat} (h:a < b) (k:b < c):a < c:=by grind
theorem aS.lt_trans {a b c:aS} (h:a.lt b=true) (k:b.lt c=true):a.lt c=true:=by
 rw [aS.lt_iff] at *
 rcases h with h | ⟨e,h⟩ <;> rcases k with k | ⟨e',k⟩
 ·exact .inl (tZ h k)
 ·exact .inl (e' ▸ h)
 ·exact .inl (e ▸ k)
 ·refine .inr ⟨e.trans e',?_⟩
  rcases h with h | ⟨z,h⟩ <;> rcases k with k | ⟨z',k⟩
  ·exact .inl (oH h k)
  ·exact .inl (z' ▸ h)
  ·exact .inl (z ▸ k)
  ·exact .inr ⟨z.trans z',oH h k⟩
theorem aS.DT {a b:aS} (h:a≠b):a.lt b=true∨b.lt a=true:=by
 rw [aS.lt_iff,aS.lt_iff]
 by_cases e:a.m=b.m
 ·by_cases z:a.h=b.h
  ·have:a.f≠b.f:=λq=>h (by cases a;cases b;simp_all)
   rcases vT this with q | q
   ·exact .inl (.inr ⟨e,.inr ⟨z,q⟩⟩)
   ·exact .inr (.inr ⟨e.symm,.inr ⟨z.symm,q⟩⟩)
  ·rcases vT z with q | q
   ·exact .inl (.inr ⟨e,.inl q⟩)
   ·exact .inr (.inr ⟨e.symm,.inl q⟩)
 ·rcases (by grind:a.m < b.m∨b.m < a.m) with q | q
  ·exact .inl (.inl q)
  ·exact .inr (.inl q)
def ju (l:List aS):Prop:=l.Pairwise λa b=>a.lt b=true
def lQ (b:aS) (l:List aS):List aS:=l.filter (λx=>x.lt b) ++ b :: l.filter (λx=>!x.lt b)
def xw (h f:Str) (x:aS):Bool:=decide (x.h=h∧x.f=f)
def ed (h f:Str) (l:List aS):List aS:=l.filter λx=>!xw h f x
theorem tJ {h f:Str} {l:List aS} (s:ju l):ju (ed h f l):=s.filter _
theorem wD {b:aS} {l:List aS} (s:ju l) (n:∀x∈l,x≠b):ju (lQ b l):=by
 unfold lQ ju
 rw [UG]
 refine ⟨s.filter _,?_,?_⟩
 ·rw [T3]
  refine ⟨λy hy=>?_,s.filter _⟩
  rw [Sx] at hy
  rcases aS.DT (n y hy.1) with q | q
  ·simp [q] at hy
  ·exact q
 ·intro x hx y hy
  rw [Sx] at hx
  rcases Sy.mp hy with rfl | hy
  ·exact hx.2
  ·rw [Sx] at hy
   rcases aS.DT (n y hy.1) with q | q
   ·simp [q] at hy
   ·exact aS.lt_trans hx.2 q
theorem Gn {h f:Str} {l:List aS} {m:Rat}:∀x∈ed h f l,x≠⟨m,h,f⟩:=λx hx e=>by
 subst e
 unfold ed at hx
 rw [Sx] at hx
 simp [xw] at hx
theorem tV (p:aS→Bool):∀{l:List aS} {i:Nat},i≤l.length→(∀(j:Nat) x,j < i→l[j]?=some x→p x=true)→(∀(j:Nat) x,i≤j→l[j]?=some x→p x=false)→l.take i ++ l.drop i=l∧l.filter p=l.take i∧l.filter (λx=>!p x)=l.drop i
 | l,0,_,_,h=>by
  refine ⟨by simp,?_,?_⟩
  ·rw [List.take_zero]
   apply Uv.mpr
   intro x hx
   obtain ⟨j,hj⟩:=SW.mp hx
   rw [h j x (SX _) hj];simp
  ·rw [T9]
   apply Tr.mpr
   intro x hx
   obtain ⟨j,hj⟩:=SW.mp hx
   rw [h j x (SX _) hj];rfl
 | [],i + 1,hi,_,_=>by simp at hi
 | x :: l,i + 1,hi,h1,h2=>by
  obtain ⟨a,b,c⟩:=tV p (l:=l) (i:=i) (by simpa using hi) (λj y hj e=>h1 (j + 1) y (by omega) (by simpa using e)) (λj y hj e=>h2 (j + 1) y (by omega) (by simpa using e))
  have hx:p x=true:=h1 0 x (by omega) rfl
  refine ⟨by simp,?_,?_⟩
  ·rw [SU,hx];simp [b]
  ·rw [SU,hx];simp [c]
theorem GC {b:aS} {l:List aS} {i:Nat} (hi:i≤l.length) (h1:∀(j:Nat) x,j < i→l[j]?=some x→x.lt b=true) (h2:∀(j:Nat) x,i≤j→l[j]?=some x→x.lt b=false):l.take i ++ b :: l.drop i=lQ b l:=by
 obtain ⟨_,e1,e2⟩:=tV (λx=>x.lt b) hi h1 h2
 unfold lQ
 rw [e1,e2]
theorem AL {l:List aS} {b x y:aS} {i j:Nat} (s:ju l) (hx:l[i]?=some x) (hy:l[j]?=some y) (h:j≤i) (k:x.lt b=true):y.lt b=true:=by
 rcases T4 h with h | h
 ·obtain ⟨hi,ei⟩:=Sj.mp hx
  obtain ⟨hj,ej⟩:=Sj.mp hy
  have:=Tf.mp s j i hj hi h
  rw [ei,ej] at this
  exact aS.lt_trans this k
 ·subst h;rw [hx] at hy;cases hy;exact k
theorem Ff {l:List aS} {b x y:aS} {i j:Nat} (s:ju l) (hx:l[i]?=some x) (hy:l[j]?=some y) (h:i≤j) (k:x.lt b=false):y.lt b=false:=by
 cases q:y.lt b with
 | false=>rfl
 | true=>rw [AL s hy hx h q] at k;cases k
theorem Dz {b x:aS} {l:List aS} (h:x∈lQ b l):x=b∨x∈l:=by
 unfold lQ at h
 rcases Sq.mp h with h | h
 ·exact .inr (Sx.mp h).1
 ·rcases Sy.mp h with h | h
  ·exact .inl h
  ·exact .inr (Sx.mp h).1
theorem mz (p:aS→Bool):∀l:List aS,(l.filter p).length + (l.filter λx=>!p x).length=l.length
 | []=>rfl
 | x :: l=>by
  have:=mz p l
  cases h:p x <;> simp [h] <;> omega
theorem Dy (b:aS) (l:List aS):(lQ b l).length=l.length + 1:=by
 unfold lQ
 rw [SF,SJ]
 have:=mz (λx=>x.lt b) l
 omega
theorem tH (h f:Str) (l:List aS):(ed h f l).length≤l.length:=Tu _ _
structure aK where
 m:Rat
 p:Rat
 v:Int
 deriving DecidableEq
def aK.at (l:aK) (t:Rat):Rat:=l.p + (t - l.m) * l.v
def turned (rows:List aK) (t:Rat) (v:Int):List aK :=
 match rows.getLast? with
 | none=>[]
 | some l =>
  let rest:=if l.m=t then rows.dropLast else rows
  if rest.getLast?.map aK.v=some v then rest else rest ++ [⟨t,l.at t,v⟩]
theorem gW (ls:List aK) (l:aK) (t:Rat) (v:Int):turned (ls ++ [l]) t v =
  if l.m=t then (if ls.getLast?.map aK.v=some v then ls else ls ++ [⟨t,l.at t,v⟩]) else (if l.v=v then ls ++ [l] else ls ++ [l] ++ [⟨t,l.at t,v⟩]):=by
 unfold turned
 simp only [SO,Tx]
 split
 ·rfl
 ·simp only [SO,Ub,Option.some.injEq]
theorem ub {rows:List aK} {t:Rat} {v:Int} (h:rows≠[]):turned rows t v≠[]:=by
 obtain ⟨ls,l,rfl⟩:∃ls l,rows=ls ++ [l]:=⟨rows.dropLast,rows.getLast h,(S3 h).symm⟩
 rw [gW]
 split
 ·split
  ·rename_i e
   intro z;subst z;cases e
  ·simp
 ·split <;> simp
theorem zl {rows:List aK} {t:Rat} {v:Int} {x:aK} (h:x∈turned rows t v):x∈rows∨∃l∈rows,x=⟨t,l.at t,v⟩:=by
 by_cases e:rows=[]
 ·subst e;cases h
 obtain ⟨ls,l,rfl⟩:∃ls l,rows=ls ++ [l]:=⟨rows.dropLast,rows.getLast e,(S3 e).symm⟩
 rw [gW] at h
 have key:∀{y:List aK},(∀z∈y,z∈ls ++ [l])→x∈y ++ [⟨t,l.at t,v⟩]→x∈ls ++ [l]∨∃l'∈ls ++ [l],x=⟨t,l'.at t,v⟩:=λhy hx=>by
  rcases Sq.mp hx with h | h
  ·exact .inl (hy _ h)
  ·exact .inr ⟨l,by simp,by simpa using h⟩
 split at h
 ·split at h
  ·exact .inl (Sq.mpr (.inl h))
  ·exact key (λz hz=>Sq.mpr (.inl hz)) h
 ·split at h
  ·exact .inl h
  ·exact key (λz hz=>hz) h
theorem l_ (rows:List aK) (t:Rat) (v:Int):(turned rows t v).length≤rows.length + 1:=by
 by_cases e:rows=[]
 ·subst e;simp [turned]
 obtain ⟨ls,l,rfl⟩:∃ls l,rows=ls ++ [l]:=⟨rows.dropLast,rows.getLast e,(S3 e).symm⟩
 rw [gW]
 split <;> split <;> simp <;> omega
def er (rows:List aK) (t:Rat):Option aK:=(rows.filter λl=>decide (l.m≤t)).getLast?
def lb (ms:List Rat) (t:Rat):Nat→Nat
 | 0=>0
 | k + 1=>if ms.getD k 0≤t then k + 1 else lb ms t k
theorem IK (ms:List Rat) (t:Rat):∀k,lb ms t k≤k
 | 0=>So _
 | k + 1=>by unfold lb;split;exact So _;exact Nat.le_succ_of_le (IK ms t k)
theorem DL {ms:List Rat} {t:Rat} {j:Nat} (h:ms.getD j 0≤t):∀{k},j < k→0 < lb ms t k
 | 0,hk=>absurd hk (Uc _)
 | k + 1,hk=>by
  unfold lb
  split
  ·exact Nat.succ_pos _
  ·rename_i c
   exact DL h (by rcases Nat.lt_succ_iff_lt_or_eq.mp hk with e | e;exact e;subst e;exact absurd h c)
theorem zX (t:Rat) (rows:List aK):∀k,k≤rows.length→((rows.take k).filter λl=>decide (l.m≤t)).getLast?=if lb (rows.map aK.m) t k=0 then none else rows[lb (rows.map aK.m) t k - 1]?
 | 0,_=>rfl
 | k + 1,hk=>by
  have hk':k < rows.length:=by omega
  have e:rows.take (k + 1)=rows.take k ++ [rows[k]]:=by rw [SS,Si hk'];rfl
  have em:(rows.map aK.m).getD k 0=rows[k].m:=by simp [Vk,hk']
  rw [e,TK]
  unfold lb
  rw [em]
  by_cases c:rows[k].m≤t
  ·rw [if_pos c,SU,if_pos (decide_eq_true c),T2,SO,if_neg (Nat.succ_ne_zero _),Nat.add_sub_cancel,Si hk']
  ·rw [if_neg c,SU,if_neg (by simp [c]),T2,S_]
   exact zX t rows k (by omega)
theorem DP (rows:List aK) (t:Rat):er rows t=if lb (rows.map aK.m) t rows.length=0 then none else rows[lb (rows.map aK.m) t rows.length - 1]?:=by
 have:=zX t rows rows.length (So _)
 rw [SV] at this
 exact this
def Iv (g:Option Rat) (t:Rat):Bool:=match g with | none=>true | some q=>decide (t < q)
def there (rows:List aK) (g:Option Rat) (t:Rat):Bool :=
 match rows.head? with
 | none=>false
 | some l=>!decide (t < l.m) && Iv g t
theorem rD {rows:List aK} {g:Option Rat} {t:Rat} (h:there rows g t=true):∃l,er rows t=some l∧l∈rows∧l.m≤t∧0 < lb (rows.map aK.m) t rows.length∧rows[lb (rows.map aK.m) t rows.length - 1]?=some l:=by
 cases rows with
 | nil=>cases h
 | cons l0 ls =>
  have h0:l0.m≤t:=by
   unfold there at h
   simp only [Ue,SR,UN,decide_eq_false_iff_not] at h
   exact Rat.not_lt.mp h.1
  have hp:0 < lb ((l0 :: ls).map aK.m) t (l0 :: ls).length:=DL (j:=0) (by simpa using h0) (by simp)
  have hle:=IK ((l0 :: ls).map aK.m) t (l0 :: ls).length
  have hx:=DP (l0 :: ls) t
  rw [if_neg (by omega)] at hx
  obtain ⟨l,hl⟩:∃l,(l0 :: ls)[lb ((l0 :: ls).map aK.m) t (l0 :: ls).length - 1]?=some l:=⟨_,Si (by omega)⟩
  rw [hl] at hx
  have hm:=List.mem_of_getLast? hx
  rw [Sx] at hm
  exact ⟨l,hx,hm.1,of_decide_eq_true hm.2,hp,hl⟩
def Sc (D A:Nat) (q:Rat):Prop:=∃a:Int,q * (D:Rat)=(a:Rat)∧a.natAbs≤A
theorem Sc.mono {D A B:Nat} {q:Rat} (h:Sc D A q) (k:A≤B):Sc D B q:=let ⟨a,e,l⟩:=h;⟨a,e,SH l k⟩
theorem Ny {D:Nat} (h:0 < D):(D:Rat)≠0:=by
 intro e
 have:D=0:=by exact_mod_cast e
 omega
theorem Sc.sz {D A n:Nat} {q:Rat} (h:Sc D A q) (hD:0 < D) (h1:D < 2 ^ n) (h2:A < 2 ^ n):Sz n q:=by
 obtain ⟨a,e,l⟩:=h
 have nz:=Ny hD
 have:q=Rat.divInt a (D:Int):=by
  rw [Rat.divInt_eq_div,← e]
  have:((D:Int):Rat)=(D:Rat):=rfl
  rw [this]
  generalize (D:Rat)=d at nz ⊢
  grind
 rw [this]
 exact Sz.div ⟨Th l h2⟩ ⟨by simpa using h1⟩ (by omega)
theorem Sc.scale {D A E:Nat} {p:Rat} (h:Sc D A p):Sc (E * D) (E * A) p:=by
 obtain ⟨a,e,l⟩:=h
 refine ⟨E * a,?_,?_⟩
 ·rw [Rat.intCast_mul,← e]
  have h1:((E * D:Nat):Rat)=(E:Rat) * (D:Rat):=Rat.natCast_mul ..
  have h2:((E:Int):Rat)=(E:Rat):=rfl
  rw [h1,h2]
  grind
 ·rw [Int.natAbs_mul];exact Nat.mul_le_mul (by simp) l
theorem Sc.K1 {D A:Nat} {t:Int} {b:Nat} (hb:0 < b) (hd:b ∣ D) (hA:t.natAbs * (D / b)≤A):Sc D A (Rat.divInt t b):=by
 obtain ⟨c,rfl⟩:=hd
 rw [Us _ hb] at hA
 refine ⟨t * c,?_,by rw [Int.natAbs_mul];simpa using hA⟩
 have nb:=Ny hb
 have e1:((b:Int):Rat)=(b:Rat):=rfl
 have e2:((c:Int):Rat)=(c:Rat):=rfl
 rw [Rat.divInt_eq_div,Rat.intCast_mul,e1,e2,Rat.natCast_mul]
 generalize (b:Rat)=b at nb ⊢
 grind
def gX:Nat:=9690712164777231700912800
theorem Ru:∀b:Nat,1≤b→b≤60→b ∣ gX:=by
 intro b h1 h2
 have:∀b:Fin 61,1≤b.val→b.val ∣ gX:=by decide
 exact this ⟨b,by omega⟩ h1
theorem uK:0 < gX:=by decide
def MM:Nat:=2097152 * gX
structure RU (D k:Nat) (l:aK):Prop where
 m:Sc gX MM l.m
 p:Sc (D * gX) (gX * 2 ^ 101 + k * (2000 * (D * MM))) l.p
 v:l.v.natAbs≤1000
theorem Nx:MM < 2 ^ 106:=by decide
theorem qx {q:Rat} (h:Sc gX MM q):Sz 106 q:=h.sz uK (by decide) Nx
structure Gd (D k:Nat) (rows:List aK):Prop where
 ne:rows≠[]
 ok:∀l∈rows,RU D k l
 len:rows.length≤k + 1
def Later (c q:Rat):Prop:=q=c∨∃u s:Nat,1≤u∧u≤60∧1≤s∧s≤500 * u∧q=Rat.divInt ((c.num * u).fdiv c.den + s) u
theorem Later.sc {c q:Rat} {A:Nat} (h:Later c q) (k:Sc gX A c):Sc gX (A + 501 * gX) q:=by
 rcases h with rfl | ⟨u,s,h1,h2,h3,h4,rfl⟩
 ·exact k.mono (UT _ _)
 obtain ⟨a,e,l⟩:=k
 obtain ⟨w,hw⟩:=Ru u h1 h2
 refine Sc.K1 (by omega) ⟨w,hw⟩ ?_
 have ew:gX / u=w:=by rw [hw,Us _ (by omega)]
 rw [ew]
 have hf:((c.num * u).fdiv c.den) * c.den≤c.num * u∧c.num * u < ((c.num * u).fdiv c.den + 1) * c.den:=by
  rw [Int.fdiv_eq_ediv_of_nonneg _ (by omega)]
  have:=lM c
  constructor
  ·exact Int.ediv_mul_le _ (by omega)
  ·have:=Int.lt_ediv_add_one_mul_self (c.num * u) this;exact this
 have ea:c.num * (gX:Int)=a * c.den:=by
  have h1:=cast_eq c
  have h2:=f' c
  have h3:((gX:Nat):Rat)=(((gX:Nat):Int):Rat):=rfl
  have:((c.num * (gX:Int):Int):Rat)=((a * c.den:Int):Rat):=by
   rw [Rat.intCast_mul,Rat.intCast_mul,h1,← e,h3]
   grind
  exact_mod_cast this
 have hL:(gX:Int)=u * w:=by rw [hw];simp
 have hw0:0 < w:=by
  rcases Nat.eq_zero_or_pos w with z | z
  ·rw [z,Nat.mul_zero] at hw;exact absurd hw (by decide)
  ·exact z
 rw [hL] at ea
 have hd:=lM c
 generalize hF:(c.num * u).fdiv c.den=F at hf ⊢
 generalize hN:c.num=N at *
 generalize hDD:(c.den:Int)=d at *
 have g1:F * w≤a:=by
  have:F * w * d≤a * d:=by
   rw [← ea]
   have:=Int.mul_le_mul_of_nonneg_right hf.1 (show (0:Int)≤w by omega)
   calc F * w * d=F * d * w:=by rw [Int.mul_right_comm]
    _≤N * u * w:=this
    _=N * (u * w):=Int.mul_assoc ..
  exact Int.le_of_mul_le_mul_right this hd
 have g2:a≤(F + 1) * w:=by
  have:a * d≤(F + 1) * w * d:=by
   rw [← ea]
   have:=Int.mul_le_mul_of_nonneg_right (Int.le_of_lt hf.2) (show (0:Int)≤w by omega)
   calc N * (u * w)=N * u * w:=(Int.mul_assoc ..).symm
    _≤(F + 1) * d * w:=this
    _=(F + 1) * w * d:=by rw [Int.mul_right_comm]
  exact Int.le_of_mul_le_mul_right this hd
 have hsw:s * w≤500 * (u * w):=by
  calc s * w≤500 * u * w:=Nat.mul_le_mul_right _ h4
   _=500 * (u * w):=Nat.mul_assoc ..
 have huw:w≤u * w:=Nat.le_mul_of_pos_left _ (by omega)
 rw [hw]
 have:(F + s).natAbs * w=((F + s) * w).natAbs:=by rw [Int.natAbs_mul];simp
 rw [this,Int.add_mul]
 rw [Int.add_mul,Int.one_mul] at g2
 have hsw':(s:Int) * w≤500 * ((u * w:Nat):Int):=by exact_mod_cast hsw
 generalize F * (w:Int)=x at *
 have hs0:(0:Int)≤(s:Int) * w:=Int.mul_nonneg (by omega) (by omega)
 generalize (s:Int) * w=y at *
 generalize u * w=z at *
 omega
theorem Later.le {c q:Rat} (h:Later c q):c≤q:=by
 rcases h with rfl | ⟨u,s,h1,h2,h3,h4,rfl⟩
 ·exact Rat.le_refl
 have hf:c.num * u < ((c.num * u).fdiv c.den + 1) * c.den:=by
  rw [Int.fdiv_eq_ediv_of_nonneg _ (by omega)]
  exact Int.lt_ediv_add_one_mul_self (c.num * u) (lM c)
 generalize (c.num * u).fdiv c.den=F at hf ⊢
 have h5:c.num * u≤(F + s) * c.den:=by
  have:(F + 1) * c.den≤(F + s) * c.den:=Int.mul_le_mul_of_nonneg_right (by omega) (by omega)
  omega
 have hu:(0:Rat) < (u:Rat):=by exact_mod_cast (show 0 < u by omega)
 have hd:(0:Rat) < ((c.den:Int):Rat):=by exact_mod_cast lM c
 refine Rat.not_lt.mp λhlt=>?_
 rw [Rat.divInt_eq_div] at hlt
 have e1:((u:Int):Rat)=(u:Rat):=rfl
 rw [e1,Rat.div_lt_iff hu] at hlt
 have h6:=Rat.mul_lt_mul_of_pos_right hlt hd
 have e2:c * (u:Rat) * ((c.den:Int):Rat)=((c.num * u:Int):Rat):=by
  rw [Rat.intCast_mul,cast_eq c,e1];grind
 rw [e2,← Rat.intCast_mul] at h6
 have h7:(F + s) * c.den < c.num * u:=by exact_mod_cast h6
 omega
section
variable {α:Type} {lt:α→α→Bool}
def pe (lt:α→α→Bool) (b:α) (l:List α):List α:=l.filter (λx=>lt x b) ++ b :: l.filter (λx=>!lt x b)
def o8 (lt:α→α→Bool) (l:List α):Prop:=l.Pairwise λa b=>lt a b=true
theorem El (p:α→Bool):∀{l:List α} {i:Nat},i≤l.length→(∀(j:Nat) x,j < i→l[j]?=some x→p x=true)→(∀(j:Nat) x,i≤j→l[j]?=some x→p x=false)→l.filter p=l.take i∧l.filter (λx=>!p x)=l.drop i
 | l,0,_,_,h=>by
  refine ⟨?_,?_⟩
  ·rw [List.take_zero]
   apply Uv.mpr
   intro x hx
   obtain ⟨j,hj⟩:=SW.mp hx
   rw [h j x (SX _) hj];simp
  ·rw [T9]
   apply Tr.mpr
   intro x hx
   obtain ⟨j,hj⟩:=SW.mp hx
   rw [h j x (SX _) hj];rfl
 | [],i + 1,hi,_,_=>by simp at hi
 | x :: l,i + 1,hi,h1,h2=>by
  obtain ⟨b,c⟩:=El p (l:=l) (i:=i) (by simpa using hi) (λj y hj e=>h1 (j + 1) y (by omega) (by simpa using e)) (λj y hj e=>h2 (j + 1) y (by omega) (by simpa using e))
  have hx:p x=true:=h1 0 x (by omega) rfl
  refine ⟨?_,?_⟩
  ·rw [SU,hx];simp [b]
  ·rw [SU,hx];simp [c]
theorem zS {b:α} {l:List α} {i:Nat} (hi:i≤l.length) (h1:∀(j:Nat) x,j < i→l[j]?=some x→lt x b=true) (h2:∀(j:Nat) x,i≤j→l[j]?=some x→lt x b=false):l.take i ++ b :: l.drop i=pe lt b l:=by
 obtain ⟨e1,e2⟩:=El (λx=>lt x b) hi h1 h2
 unfold pe
 rw [e1,e2]
theorem wF {b x:α} {l:List α}:x∈pe lt b l↔x=b∨x∈l:=by
 unfold pe
 rw [Sq,Sy,Sx,Sx]
 constructor
 ·rintro (h | h | h)
  ·exact .inr h.1
  ·exact .inl h
  ·exact .inr h.1
 ·rintro (h | h)
  ·exact .inr (.inl h)
  ·cases e:lt x b
   ·exact .inr (.inr ⟨h,by simp⟩)
   ·exact .inl ⟨h,rfl⟩
theorem DA (b:α) (l:List α):(pe lt b l).length=l.length + 1:=by
 unfold pe
 rw [SF,SJ]
 have:∀l:List α,(l.filter λx=>lt x b).length + (l.filter λx=>!lt x b).length=l.length:=by
  intro l
  induction l with
  | nil=>rfl
  | cons x l ih=>cases h:lt x b <;> simp [h] <;> omega
 have:=this l
 omega
theorem DB (tr:∀{a b c},lt a b=true→lt b c=true→lt a c=true) {b:α} {l:List α} (s:o8 lt l) (OK:∀x∈l,lt x b=true∨lt b x=true):o8 lt (pe lt b l):=by
 unfold pe o8
 rw [UG]
 refine ⟨s.filter _,?_,?_⟩
 ·rw [T3]
  refine ⟨λy hy=>?_,s.filter _⟩
  rw [Sx] at hy
  rcases OK y hy.1 with q | q
  ·simp [q] at hy
  ·exact q
 ·intro x hx y hy
  rw [Sx] at hx
  rcases Sy.mp hy with rfl | hy
  ·exact hx.2
  ·rw [Sx] at hy
   rcases OK y hy.1 with q | q
   ·simp [q] at hy
   ·exact tr hx.2 q
theorem xP (tr:∀{a b c},lt a b=true→lt b c=true→lt a c=true) {l:List α} {b x y:α} {i j:Nat} (s:o8 lt l) (hx:l[i]?=some x) (hy:l[j]?=some y) (h:j≤i) (k:lt x b=true):lt y b=true:=by
 rcases T4 h with h | h
 ·obtain ⟨hi,ei⟩:=Sj.mp hx
  obtain ⟨hj,ej⟩:=Sj.mp hy
  have:=Tf.mp s j i hj hi h
  rw [ei,ej] at this
  exact tr this k
 ·subst h;rw [hx] at hy;cases hy;exact k
theorem Cj (tr:∀{a b c},lt a b=true→lt b c=true→lt a c=true) {l:List α} {b x y:α} {i j:Nat} (s:o8 lt l) (hx:l[i]?=some x) (hy:l[j]?=some y) (h:i≤j) (k:lt x b=false):lt y b=false:=by
 cases q:lt y b with
 | false=>rfl
 | true=>have:=xP (lt:=lt) (b:=b) tr s hy hx h q;rw [this] at k;cases k
theorem nu (FH:∀a,lt a a=false) (tr:∀{a b c},lt a b=true→lt b c=true→lt a c=true):∀{l k:List α},o8 lt l→o8 lt k→(∀x,x∈l↔x∈k)→l=k
 | [],[],_,_,_=>rfl
 | [],y :: k,_,_,h=>by have:=(h y).mpr SY;cases this
 | x :: l,[],_,_,h=>by have:=(h x).mp SY;cases this
 | x :: l,y :: k,hl,hk,h=>by
  obtain ⟨a1,a2⟩:=T3.mp hl
  obtain ⟨b1,b2⟩:=T3.mp hk
  have exy:x=y:=by
   rcases Sy.mp ((h x).mp SY) with e | e
   ·exact e
   ·rcases Sy.mp ((h y).mpr SY) with e' | e'
    ·exact e'.symm
    ·have:=tr (a1 y e') (b1 x e)
     rw [FH] at this;cases this
  subst exy
  rw [nu FH tr a2 b2 λz=>?_]
  constructor
  ·intro hz
   rcases Sy.mp ((h z).mp (SI _ hz)) with e | e
   ·have:=a1 z hz;rw [e,FH] at this;cases this
   ·exact e
  ·intro hz
   rcases Sy.mp ((h z).mpr (SI _ hz)) with e | e
   ·have:=b1 z hz;rw [e,FH] at this;cases this
   ·exact e
end
structure Ky where
 p:Rat
 v:Int
 n:Str
 deriving DecidableEq
def Ky.lt (a b:Ky):Bool:=if a.p=b.p then (if a.v=b.v then decide (slt a.n b.n) else decide (a.v < b.v)) else decide (a.p < b.p)
theorem Ky.lt_iff (a b:Ky):a.lt b=true↔a.p < b.p∨(a.p=b.p∧(a.v < b.v∨(a.v=b.v∧slt a.n b.n))):=by
 unfold Ky.lt
 by_cases e:a.p=b.p
 ·rw [if_pos e]
  have n:¬ a.p < b.p:=by rw [e];exact Rat.lt_irrefl
  by_cases k:a.v=b.v
  ·rw [if_pos k,decide_eq_true_eq]
   have n2:¬ a.v < b.v:=by omega
   exact ⟨λh=>.inr ⟨e,.inr ⟨k,h⟩⟩,λh=>by
    rcases h with h | ⟨_,h | h⟩
    ·exact absurd h n
    ·exact absurd h n2
    ·exact h.2⟩
  ·rw [if_neg k,decide_eq_true_eq]
   exact ⟨λh=>.inr ⟨e,.inl h⟩,λh=>by
    rcases h with h | ⟨_,h | h⟩
    ·exact absurd h n
    ·exact h
    ·exact absurd h.1 k⟩
 ·rw [if_neg e,decide_eq_true_eq]
  exact ⟨.inl,λh=>by
   rcases h with h | h
   ·exact h
   ·exact absurd h.1 e⟩
theorem Ky.FH (a:Ky):a.lt a=false:=by
 cases h:a.lt a with
 | false=>rfl
 | true =>
  rcases (Ky.lt_iff a a).mp h with h | ⟨_,h | ⟨_,h⟩⟩
  ·exact absurd h Rat.lt_irrefl
  ·omega
  ·exact absurd h (nq _)
theorem Ky.tr {a b c:Ky} (h:a.lt b=true) (k:b.lt c=true):a.lt c=true:=by
 rw [Ky.lt_iff] at *
 rcases h with h | ⟨e,h⟩ <;> rcases k with k | ⟨e',k⟩
 ·exact .inl (tZ h k)
 ·exact .inl (e' ▸ h)
 ·exact .inl (e ▸ k)
 ·refine .inr ⟨e.trans e',?_⟩
  rcases h with h | ⟨z,h⟩ <;> rcases k with k | ⟨z',k⟩
  ·exact .inl (by omega)
  ·exact .inl (by omega)
  ·exact .inl (by omega)
  ·exact .inr ⟨z.trans z',oH h k⟩
theorem Ky.OK {a b:Ky} (h:a.n≠b.n):a.lt b=true∨b.lt a=true:=by
 rw [Ky.lt_iff,Ky.lt_iff]
 by_cases e:a.p=b.p
 ·by_cases z:a.v=b.v
  ·rcases vT h with q | q
   ·exact .inl (.inr ⟨e,.inr ⟨z,q⟩⟩)
   ·exact .inr (.inr ⟨e.symm,.inr ⟨z.symm,q⟩⟩)
  ·rcases (by omega:a.v < b.v∨b.v < a.v) with q | q
   ·exact .inl (.inr ⟨e,.inl q⟩)
   ·exact .inr (.inr ⟨e.symm,.inl q⟩)
 ·rcases (by grind:a.p < b.p∨b.p < a.p) with q | q
  ·exact .inl (.inl q)
  ·exact .inr (.inl q)
theorem Ky.MK {a b:Ky} (h:a.lt b=true):b.lt a=false:=by
 cases k:b.lt a with
 | false=>rfl
 | true=>have:=Ky.tr h k;rw [Ky.FH] at this;cases this
def dR (ks:List Ky):List Ky:=ks.foldl (λacc x=>pe Ky.lt x acc) []
theorem iu (ks:List Ky) (x:Ky):dR (ks ++ [x])=pe Ky.lt x (dR ks):=by unfold dR;rw [Um];rfl
theorem snoc_ind {α:Type} {p:List α→Prop} (h0:p []) (h1:∀l x,p l→p (l ++ [x])) (l:List α):p l:=by
 have:∀l:List α,p l.reverse:=by
  intro l
  induction l with
  | nil=>exact h0
  | cons x l ih=>rw [List.reverse_cons];exact h1 _ _ ih
 have:=this l.reverse
 rwa [List.reverse_reverse] at this
theorem d7 {α:Type} {l:List α} {x:α} (h:(l ++ [x]).Nodup):l.Nodup∧x ∉ l:=by
 rw [Tq] at h
 exact ⟨h.1,λhm=>h.2.2 x hm x (by simp) rfl⟩
theorem bT:∀(ks:List Ky) (x:Ky),x∈dR ks↔x∈ks:=by
 intro ks
 refine snoc_ind (p:=λks=>∀x:Ky,x∈dR ks↔x∈ks) (λx=>by simp [dR]) (λks y ih x=>?_) ks
 rw [iu,wF,ih,Sq,Su]
 exact Or.comm
theorem eL {ks:List Ky} (h:(ks.map Ky.n).Nodup):o8 Ky.lt (dR ks):=by
 revert h
 refine snoc_ind (p:=λks=>(ks.map Ky.n).Nodup→o8 Ky.lt (dR ks)) (λ_=>List.Pairwise.nil) (λks y ih h=>?_) ks
 ·rw [Sk,Sm,Ta] at h
  obtain ⟨h1,h2⟩:=d7 h
  rw [iu]
  refine DB (lt:=Ky.lt) Ky.tr (ih h1) λx hx=>Ky.OK λe=>h2 ?_
  rw [← e]
  exact Ug ((bT ks x).mp hx)
theorem mM (ks:List Ky):(dR ks).length=ks.length:=by
 refine snoc_ind (p:=λks=>(dR ks).length=ks.length) rfl (λks y ih=>?_) ks
 rw [iu,DA,ih,SF];rfl
theorem Eh {ks js:List Ky} (h:(ks.map Ky.n).Nodup) (k:(js.map Ky.n).Nodup) (e:∀x,x∈ks↔x∈js):dR ks=dR js :=
 nu (lt:=Ky.lt) Ky.FH Ky.tr (eL h) (eL k) λx=>by rw [bT,bT];exact e x
def key (t:Rat) (x:Str × aK):Ky:=⟨x.2.at t,x.2.v,x.1⟩
def cT (t:Rat) (fs:List (Str × aK)):List Str:=(dR (fs.map (key t))).map Ky.n
theorem eh (t:Rat) (fs:List (Str × aK)):(fs.map (key t)).map Ky.n=fs.map (·.1):=by rw [Ss];rfl
theorem xa {t:Rat} {fs:List (Str × aK)} {n:Str}:n∈cT t fs↔n∈fs.map (·.1):=by
 rw [← eh t fs]
 unfold cT
 rw [Sh,Sh]
 exact ⟨λ⟨x,h,e⟩=>⟨x,(bT _ _).mp h,e⟩,λ⟨x,h,e⟩=>⟨x,(bT _ _).mpr h,e⟩⟩
theorem qD (t:Rat) (fs:List (Str × aK)):(cT t fs).length=fs.length:=by unfold cT;rw [Sg,mM,Sg]
theorem t_ {l:List Ky} (s:o8 Ky.lt l) (h:∀x∈l,∀y∈l,x.n=y.n→x=y):(l.map Ky.n).Nodup:=by
 refine List.pairwise_map.mpr (s.imp_of_mem λ{a b} ha hb hab e=>?_)
 have:=h a ha b hb e
 subst this
 rw [Ky.FH] at hab;cases hab
theorem mJ {ks:List Ky} (h:(ks.map Ky.n).Nodup):∀x∈ks,∀y∈ks,x.n=y.n→x=y:=by
 intro x hx y hy e
 obtain ⟨i,hi,rfl⟩:=S4 hx
 obtain ⟨j,hj,rfl⟩:=S4 hy
 have:=(TC (xs:=ks.map Ky.n) (i:=i) (j:=j) (h₀:=by simpa using hi) (h₁:=by simpa using hj) h).mp (by rw [Ti,Ti];exact e)
 subst this;rfl
theorem qE {t:Rat} {fs:List (Str × aK)} (h:(fs.map (·.1)).Nodup):(cT t fs).Nodup:=by
 rw [← eh t fs] at h
 exact t_ (eL h) λx hx y hy e=>mJ h x ((bT _ _).mp hx) y ((bT _ _).mp hy) e
theorem Ei {t:Rat} {fs gs:List (Str × aK)} (h:(fs.map (·.1)).Nodup) (k:(gs.map (·.1)).Nodup) (e:∀x,x∈fs.map (key t)↔x∈gs.map (key t)):cT t fs=cT t gs:=by
 unfold cT
 rw [Eh (by rw [eh];exact h) (by rw [eh];exact k) e]
theorem gH {α β:Type} {fs:List (Str × α)} {f:α→β} (h:(fs.map (·.1)).Nodup) {n:Str} {l:α} (hm:(n,l)∈fs):L2.jA (fs.map λx=>(x.1,f x.2)) n=some (f l):=by
 induction fs with
 | nil=>cases hm
 | cons x fs ih =>
  rw [Sm,TB] at h
  rw [Sm,L2.km]
  rcases Sy.mp hm with e | e
  ·subst e;rw [if_pos rfl]
  ·have ne:x.1≠n:=λz=>h.1 (by rw [z];exact Ug (f:=λx:Str × α=>x.1) e)
   rw [if_neg ne];exact ih h.2 e
theorem v_ {α β:Type} {fs:List (Str × α)} {f:α→β} (h:(fs.map (·.1)).Nodup) {n:Str} (hm:n∈fs.map (·.1)):∃l,(n,l)∈fs∧L2.jA (fs.map λx=>(x.1,f x.2)) n=some (f l):=by
 obtain ⟨⟨m,l⟩,hx,rfl⟩:=Sh.mp hm
 exact ⟨l,hx,gH h hx⟩
theorem Im {α β:Type} {fs:List (Str × α)} {f:α→β} {n:Str} (hm:n ∉ fs.map (·.1)):L2.jA (fs.map λx=>(x.1,f x.2)) n=none:=by
 induction fs with
 | nil=>rfl
 | cons x fs ih =>
  rw [Sm,L2.km]
  rw [Sm,Sy,not_or] at hm
  rw [if_neg (λe=>hm.1 e.symm)];exact ih hm.2
theorem ud {α β:Type} {fs:List (Str × α)} {f:α→β} {n:Str} (h:(fs.map (·.1)).Nodup):(L2.jA (fs.map λx=>(x.1,f x.2)) n).isSome=decide (n∈fs.map (·.1)):=by
 by_cases hm:n∈fs.map (·.1)
 ·obtain ⟨l,_,e⟩:=v_ (f:=f) h hm
  rw [e,decide_eq_true hm];rfl
 ·rw [Im hm,decide_eq_false hm];rfl
theorem lV {α β:Type} {fs:List (Str × α)} {f:α→β} {n:Str} {l:α} (hm:n ∉ fs.map (·.1)):L2.nE (fs.map λx=>(x.1,f x.2)) n (f l)=(fs ++ [(n,l)]).map λx=>(x.1,f x.2):=by
 unfold L2.nE
 rw [if_neg,Sk]
 ·rfl
 ·intro h
  rw [Ut] at h
  obtain ⟨y,hy,e⟩:=h
  obtain ⟨x,hx,rfl⟩:=Sh.mp hy
  exact hm (by rw [← of_decide_eq_true e];exact Ug (f:=λx:Str × α=>x.1) hx)
def PP:Nat:=1000000 * gX + 1000 * MM
structure rO (l:aK):Prop where
 m0:0≤l.m
 m:Sc gX MM l.m
 p:∃a:Int,l.p * (gX:Rat)=(a:Rat)
 b0:-(1000000 + 1000 * l.m)≤l.p
 b1:l.p≤1000000 + 1000 * l.m
 v:l.v.natAbs≤1000
theorem Nb:(0:Rat) < (gX:Rat):=by
 have:((0:Nat):Rat) < ((gX:Nat):Rat):=Rat.natCast_lt_natCast.mpr uK
 simpa using this
theorem rO.sc {l:aK} (h:rO l):Sc gX PP l.p:=by
 obtain ⟨a,ha⟩:=h.p
 obtain ⟨k,hk,hk1⟩:=h.m
 have hL:=Nb
 have b0:=h.b0
 have b1:=h.b1
 have e1:(a:Rat)≤(((1000000 * gX + 1000 * k:Int)):Rat):=by
  rw [← ha,Rat.intCast_add,Rat.intCast_mul,Rat.intCast_mul,← hk]
  have:l.p * (gX:Rat)≤(1000000 + 1000 * l.m) * (gX:Rat):=Rat.mul_le_mul_of_nonneg_right b1 (Rat.le_of_lt hL)
  have e:(((gX:Nat):Int):Rat)=(gX:Rat):=rfl
  rw [e]
  grind
 have e2:(((-(1000000 * gX + 1000 * k):Int)):Rat)≤(a:Rat):=by
  rw [← ha,Rat.intCast_neg,Rat.intCast_add,Rat.intCast_mul,Rat.intCast_mul,← hk]
  have:-(1000000 + 1000 * l.m) * (gX:Rat)≤l.p * (gX:Rat):=Rat.mul_le_mul_of_nonneg_right b0 (Rat.le_of_lt hL)
  have e:(((gX:Nat):Int):Rat)=(gX:Rat):=rfl
  rw [e]
  grind
 have e1:=Rat.intCast_le_intCast.mp e1
 have e2:=Rat.intCast_le_intCast.mp e2
 refine ⟨a,ha,?_⟩
 unfold PP
 have:(k:Int)≤MM:=by omega
 have:-(MM:Int)≤k:=by omega
 omega
theorem NU:PP < 2 ^ 120:=by decide
theorem rO.Qn {l:aK} (h:rO l):Sz 120 l.p:=h.sc.sz uK (by decide) NU
theorem rO.P_ {l:aK} (h:rO l):Sz 120 l.m:=(qx h.m).mono (by decide)
theorem rO.at {l:aK} {t:Rat} {v:Int} (h:rO l) (h0:l.m≤t) (ht:Sc gX MM t) (hv:v.natAbs≤1000):rO ⟨t,l.at t,v⟩:=by
 have hm:=h.m0
 have t0:0≤t:=Rat.le_trans hm h0
 have d0:0≤t - l.m:=by grind
 have v1:(l.v:Rat)≤1000:=by
  have:((l.v:Int):Rat)≤((1000:Int):Rat):=Rat.intCast_le_intCast.mpr (by have:=h.v;omega)
  exact this
 have v2:-1000≤(l.v:Rat):=by
  have:((-1000:Int):Rat)≤((l.v:Int):Rat):=Rat.intCast_le_intCast.mpr (by have:=h.v;omega)
  exact this
 have m1:(t - l.m) * (l.v:Rat)≤(t - l.m) * 1000:=Rat.mul_le_mul_of_nonneg_left v1 d0
 have m2:(t - l.m) * (-1000)≤(t - l.m) * (l.v:Rat):=Rat.mul_le_mul_of_nonneg_left v2 d0
 have b0:=h.b0
 have b1:=h.b1
 refine ⟨t0,ht,?_,?_,?_,hv⟩
 ·obtain ⟨a,ha⟩:=h.p
  obtain ⟨k,hk,_⟩:=h.m
  obtain ⟨j,hj,_⟩:=ht
  refine ⟨a + (j - k) * l.v,?_⟩
  unfold aK.at
  dsimp only
  rw [Rat.intCast_add,Rat.intCast_mul,Rat.intCast_sub,← ha,← hk,← hj]
  grind
 ·show -(1000000 + 1000 * t)≤l.p + (t - l.m) * (l.v:Rat)
  grind
 ·show l.p + (t - l.m) * (l.v:Rat)≤1000000 + 1000 * t
  grind
theorem rO.new {t:Rat} {p v:Int} (t0:0≤t) (ht:Sc gX MM t) (hp:p.natAbs≤1000000) (hv:v.natAbs≤1000):rO ⟨t,(p:Rat),v⟩:=by
 have p1:(p:Rat)≤1000000:=by
  have:((p:Int):Rat)≤((1000000:Int):Rat):=Rat.intCast_le_intCast.mpr (by omega)
  exact this
 have p2:-1000000≤(p:Rat):=by
  have:((-1000000:Int):Rat)≤((p:Int):Rat):=Rat.intCast_le_intCast.mpr (by omega)
  exact this
 refine ⟨t0,ht,⟨p * gX,by rw [Rat.intCast_mul];rfl⟩,?_,?_,hv⟩
 ·show -(1000000 + 1000 * t)≤(p:Rat)
  grind
 ·show (p:Rat)≤1000000 + 1000 * t
  grind
def Bi (b:aS) (l:List aS):List aS:=if b∈l then l else lQ b l
theorem tP {b x:aS} {l:List aS}:x∈lQ b l↔x=b∨x∈l:=wF (lt:=aS.lt)
theorem CV {b x:aS} {l:List aS}:x∈Bi b l↔x=b∨x∈l:=by
 unfold Bi
 split
 ·rename_i h
  exact ⟨.inr,λz=>by rcases z with rfl | z;exact h;exact z⟩
 ·exact tP
theorem CY {b:aS} {l:List aS} (s:ju l):ju (Bi b l):=by
 unfold Bi
 split
 ·exact s
 ·rename_i h
  exact wD s λx hx e=>h (e ▸ hx)
def vc (bs:List aS):List aS:=bs.foldl (λacc b=>Bi b acc) []
theorem tU (bs:List aS) (b:aS):vc (bs ++ [b])=Bi b (vc bs):=by unfold vc;rw [Um];rfl
theorem Ef (bs:List aS) (x:aS):x∈vc bs↔x∈bs:=by
 refine snoc_ind (p:=λbs=>∀x:aS,x∈vc bs↔x∈bs) (λx=>by simp [vc]) (λbs y ih x=>?_) bs x
 rw [tU,CV,ih,Sq,Su]
 exact Or.comm
theorem Eg (bs:List aS):ju (vc bs):=by
 refine snoc_ind (p:=λbs=>ju (vc bs)) List.Pairwise.nil (λbs y ih=>?_) bs
 rw [tU];exact CY ih
theorem Fh {l k:List aS} (h:ju l) (h':ju k) (e:∀x,x∈l↔x∈k):l=k:=nu (lt:=aS.lt) aS.KY aS.lt_trans h h' e
def ip (t:Rat) (a b:Ky):Rat:=t + (b.p - a.p) / ((a.v - b.v:Int):Rat)
def kU (t:Rat) (a b:Ky):aS:=⟨ip t a b,a.n,b.n⟩
def oW (t:Rat) (ks:List Ky) (m:Rat):List aS:=vc (((ks.flatMap λa=>ks.map λb=>(a,b)).filter λp=>decide (p.2.v < p.1.v∧p.1.p < p.2.p∧ip t p.1 p.2≤m)).map λp=>kU t p.1 p.2)
theorem B7 {t m:Rat} {ks:List Ky} {x:aS}:x∈oW t ks m↔∃a∈ks,∃b∈ks,b.v < a.v∧a.p < b.p∧ip t a b≤m∧x=kU t a b:=by
 unfold oW
 rw [Ef,Sh]
 constructor
 ·rintro ⟨⟨a,b⟩,h,rfl⟩
  rw [Sx,UW] at h
  obtain ⟨⟨c,hc,h1⟩,h2⟩:=h
  obtain ⟨d,hd,e⟩:=Sh.mp h1
  cases e
  have h2:=of_decide_eq_true h2
  exact ⟨_,hc,_,hd,h2.1,h2.2.1,h2.2.2,rfl⟩
 ·rintro ⟨a,ha,b,hb,h1,h2,h3,rfl⟩
  exact ⟨(a,b),Sx.mpr ⟨UW.mpr ⟨a,ha,Sh.mpr ⟨b,hb,rfl⟩⟩,decide_eq_true ⟨h1,h2,h3⟩⟩,rfl⟩
theorem B8 (t m:Rat) (ks:List Ky):ju (oW t ks m):=Eg _
def mI (l l':aK):Rat:=(l'.at 0 - l.at 0) / ((l.v - l'.v:Int):Rat)
theorem Fj {a b:Int} (h:a≠b):((a - b:Int):Rat)≠0:=by
 intro e
 have:(a - b:Int)=0:=by exact_mod_cast (show ((a - b:Int):Rat)=((0:Int):Rat) from e)
 omega
theorem pG {t:Rat} {n n':Str} {l l':aK} (h:l.v≠l'.v):mI l l'=ip t (key t (n,l)) (key t (n',l')):=by
 have k:=Fj h
 unfold mI ip key aK.at
 dsimp only
 rw [Rat.intCast_sub] at *
 grind
theorem EO {a b:Rat} (ha:0 < a) (hb:0 < b):0 < a / b:=by
 have e:a / b * b=a:=by grind
 rcases Rat.le_total (a:=a / b) (b:=0) with h | h
 ·have:=Rat.mul_le_mul_of_nonneg_right h (Rat.le_of_lt hb)
  rw [e,Rat.zero_mul] at this
  exact absurd ha (Rat.not_lt.mpr this)
 ·rcases (by grind:a / b=0∨0 < a / b) with h | h
  ·rw [h,Rat.zero_mul] at e;rw [← e] at ha;exact absurd ha Rat.lt_irrefl
  ·exact h
def GO (t:Rat) (l l':aK):Option Rat:=if l.v≠l'.v∧t < mI l l' then some (mI l l') else none
theorem GP {t:Rat} {n n':Str} {l l':aK} (h:(key t (n,l)).lt (key t (n',l'))=true):(l.v≠l'.v∧t < mI l l')↔(l'.v < l.v∧l.at t < l'.at t):=by
 rw [Ky.lt_iff] at h
 unfold key at h
 dsimp only at h
 constructor
 ·rintro ⟨h1,h2⟩
  rw [pG (t:=t) (n:=n) (n':=n') h1] at h2
  unfold ip key at h2
  dsimp only at h2
  have k:=Fj h1
  have h3:0 < (l'.at t - l.at t) / ((l.v - l'.v:Int):Rat):=by grind
  have hp:l.at t≠l'.at t:=by
   intro e
   rw [e] at h3
   have:(l'.at t - l'.at t) / ((l.v - l'.v:Int):Rat)=0:=by grind
   rw [this] at h3
   exact absurd h3 Rat.lt_irrefl
  have hlt:l.at t < l'.at t:=by
   rcases h with h | ⟨h,_⟩
   ·exact h
   ·exact absurd h hp
  refine ⟨?_,hlt⟩
  rcases (by omega:l'.v < l.v∨l.v < l'.v) with q | q
  ·exact q
  ·exfalso
   have hn:((l.v - l'.v:Int):Rat) < 0:=by
    have:((l.v - l'.v:Int):Rat) < ((0:Int):Rat):=Rat.intCast_lt_intCast.mpr (by omega)
    exact this
   have hd:0 < l'.at t - l.at t:=by grind
   have e:(l'.at t - l.at t) / ((l.v - l'.v:Int):Rat) * ((l.v - l'.v:Int):Rat)=l'.at t - l.at t:=by grind
   generalize (l'.at t - l.at t) / ((l.v - l'.v:Int):Rat)=z at h3 e
   have:z * ((l.v - l'.v:Int):Rat) < 0:=by
    have:=Rat.mul_lt_mul_of_pos_left hn h3
    rwa [Rat.mul_zero] at this
   grind
 ·rintro ⟨h1,h2⟩
  have hne:l.v≠l'.v:=by omega
  refine ⟨hne,?_⟩
  rw [pG (t:=t) (n:=n) (n':=n') hne]
  unfold ip key
  dsimp only
  have hpos:0 < ((l.v - l'.v:Int):Rat):=by
   have:((0:Int):Rat) < ((l.v - l'.v:Int):Rat):=Rat.intCast_lt_intCast.mpr (by omega)
   exact this
  have hd:0 < l'.at t - l.at t:=by grind
  have:0 < (l'.at t - l.at t) / ((l.v - l'.v:Int):Rat):=EO hd hpos
  grind
end Ov
namespace Ov
def sT (t:Rat) (c:Ky × Ky→Bool) (rows:List aS) (p:Ky × Ky):List aS:=if c p=true then lQ (kU t p.1 p.2) (ed p.1.n p.2.n rows) else rows
def eI (t:Rat) (c:Ky × Ky→Bool) (ps:List (Ky × Ky)):List aS:=ps.foldl (sT t c) []
theorem iL (t:Rat) (c:Ky × Ky→Bool) (ps:List (Ky × Ky)) (p:Ky × Ky):eI t c (ps ++ [p])=sT t c (eI t c ps) p:=by unfold eI;rw [Um];rfl
theorem tM (t:Rat) (c:Ky × Ky→Bool) (ps:List (Ky × Ky)):ju (eI t c ps):=by
 refine snoc_ind (p:=λps=>ju (eI t c ps)) List.Pairwise.nil (λl x ih=>?_) ps
 rw [iL]
 unfold sT
 split
 ·exact wD (tJ ih) Gn
 ·exact ih
theorem tN {t:Rat} {c:Ky × Ky→Bool} {x:aS} (ps:List (Ky × Ky)):x∈eI t c ps→∃p∈ps,c p=true∧x=kU t p.1 p.2:=by
 refine snoc_ind (p:=λps=>x∈eI t c ps→∃p∈ps,c p=true∧x=kU t p.1 p.2) (λh=>by cases h) (λl y ih h=>?_) ps
 rw [iL] at h
 unfold sT at h
 split at h
 ·rename_i hc
  rcases Dz h with e | h
  ·exact ⟨y,by simp,hc,e⟩
  ·obtain ⟨p,hp,k⟩:=ih (Sx.mp h).1
   exact ⟨p,Sq.mpr (.inl hp),k⟩
 ·obtain ⟨p,hp,k⟩:=ih h
  exact ⟨p,Sq.mpr (.inl hp),k⟩
def CT (ps:List (Ky × Ky)):Prop:=∀p∈ps,∀q∈ps,p.1.n=q.1.n→p.2.n=q.2.n→p=q
theorem Bt {t:Rat} {c:Ky × Ky→Bool} {x:aS} (ps:List (Ky × Ky)):CT ps→(x∈eI t c ps↔∃p∈ps,c p=true∧x=kU t p.1 p.2):=by
 refine snoc_ind (p:=λps=>CT ps→(x∈eI t c ps↔∃p∈ps,c p=true∧x=kU t p.1 p.2)) (λ_=>Iff.intro (λh=>nomatch h) (λh=>by obtain ⟨_,h,_⟩:=h;cases h)) (λl y ih inj=>?_) ps
 have ih:=ih λp hp q hq=>inj p (Sq.mpr (.inl hp)) q (Sq.mpr (.inl hq))
 refine ⟨tN _,?_⟩
 rintro ⟨p,hp,hc,rfl⟩
 rw [iL]
 unfold sT
 have hold:p∈l→kU t p.1 p.2∈eI t c l:=λh=>ih.mpr ⟨p,h,hc,rfl⟩
 split
 ·rename_i hy
  rw [tP]
  by_cases e:p=y
  ·left;rw [e]
  ·right
   have hl:p∈l:=by
    rcases Sq.mp hp with h | h
    ·exact h
    ·exact absurd (by simpa using h) e
   refine Sx.mpr ⟨hold hl,?_⟩
   unfold xw
   have:¬ ((kU t p.1 p.2).h=y.1.n∧(kU t p.1 p.2).f=y.2.n):=λz=>e (inj p hp y (by simp) z.1 z.2)
   rw [decide_eq_false this];rfl
 ·rename_i hy
  rcases Sq.mp hp with h | h
  ·exact hold h
  ·have:p=y:=by simpa using h
   subst this;exact absurd hc hy
theorem CT.of {ks:List Ky} (h:(ks.map Ky.n).Nodup) {ps:List (Ky × Ky)} (hp:∀p∈ps,p.1∈ks∧p.2∈ks):CT ps:=λp h1 q h2 e1 e2=>by
 have a:=mJ h p.1 (hp p h1).1 q.1 (hp q h2).1 e1
 have b:=mJ h p.2 (hp p h1).2 q.2 (hp q h2).2 e2
 cases p;cases q;simp only at a b;rw [a,b]
def xV (ks:List Ky):Nat→List (Ky × Ky)
 | 0=>[]
 | i + 1=>xV ks i ++ (match ks[i]? with | some a=>(ks.drop (i + 1)).map λb=>(a,b) | none=>[])
theorem nC {ks:List Ky} {p:Ky × Ky}:∀{i:Nat},p∈xV ks i↔∃i' j,i' < i∧i' < j∧ks[i']?=some p.1∧ks[j]?=some p.2
 | 0=>⟨λh=>(by cases h),λ⟨_,_,h,_⟩=>by omega⟩
 | i + 1=>by
  unfold xV
  rw [Sq,nC (i:=i)]
  constructor
  ·rintro (⟨i',j,h1,h⟩ | h)
   ·exact ⟨i',j,by omega,h⟩
   ·cases e:ks[i]? with
    | none=>rw [e] at h;cases h
    | some a =>
     rw [e] at h
     obtain ⟨b,hb,rfl⟩:=Sh.mp h
     obtain ⟨j,hj⟩:=SW.mp hb
     rw [Ui] at hj
     exact ⟨i,_,by omega,by omega,e,hj⟩
  ·rintro ⟨i',j,h1,h2,h3,h4⟩
   by_cases e:i' < i
   ·exact .inl ⟨i',j,e,h2,h3,h4⟩
   ·have:i'=i:=by omega
    subst this
    right
    rw [h3]
    refine Sh.mpr ⟨p.2,SW.mpr ⟨j - (i' + 1),?_⟩,rfl⟩
    rw [Ui,show i' + 1 + (j - (i' + 1))=j by omega];exact h4
def f_ (t m:Rat) (p:Ky × Ky):Bool:=decide (p.2.v < p.1.v∧p.1.p < p.2.p∧ip t p.1 p.2≤m)
theorem Il {t m:Rat} {ks:List Ky} (h:(ks.map Ky.n).Nodup):eI t (f_ t m) (xV (dR ks) (dR ks).length)=oW t ks m:=by
 have hs:=eL h
 have hn:((dR ks).map Ky.n).Nodup:=t_ hs (λx hx y hy e=>mJ h x ((bT _ _).mp hx) y ((bT _ _).mp hy) e)
 refine Fh (tM _ _ _) (B8 _ _ _) λx=>?_
 rw [Bt _ (CT.of hn λp hp=>by
  obtain ⟨i,j,_,_,h3,h4⟩:=nC.mp hp
  exact ⟨Sv h3,Sv h4⟩),B7]
 constructor
 ·rintro ⟨p,hp,hc,rfl⟩
  obtain ⟨i,j,_,_,h3,h4⟩:=nC.mp hp
  have hc:=of_decide_eq_true hc
  exact ⟨p.1,(bT _ _).mp (Sv h3),p.2,(bT _ _).mp (Sv h4),hc.1,hc.2.1,hc.2.2,rfl⟩
 ·rintro ⟨a,ha,b,hb,h1,h2,h3,rfl⟩
  obtain ⟨i,hi⟩:=SW.mp ((bT _ _).mpr ha)
  obtain ⟨j,hj⟩:=SW.mp ((bT _ _).mpr hb)
  have hab:a.lt b=true:=(Ky.lt_iff a b).mpr (.inl h2)
  have hij:i < j:=by
   obtain ⟨hil,ei⟩:=Sj.mp hi
   obtain ⟨hjl,ej⟩:=Sj.mp hj
   rcases UO i j with z | z | z
   ·exact z
   ·subst z;rw [ei] at ej;subst ej;rw [Ky.FH] at hab;cases hab
   ·have:=Tf.mp hs j i hjl hil z
    rw [ei,ej] at this
    rw [Ky.MK this] at hab;cases hab
  exact ⟨(a,b),nC.mpr ⟨i,j,(Sj.mp hi).1,hij,hi,hj⟩,decide_eq_true ⟨h1,h2,h3⟩,rfl⟩
end Ov
namespace L2
open PySem PySem.Spec PyProof.Rows
end L2
namespace Ov
open PySem PySem.Spec PyProof.Rows
open L2 (V HO Hp Inv Cx VK XK TE TT TA TS TG o9 TI TO jv Ends uv Loc Gl Rd RelV Vals fh wb b7 o5 rK o7 jt R2 upd aA aF dC gJ Sp p5 It bD cV bS Passes oP aI Meth Mk Binds aQ cE aw di fT eQ jA nE Bo oQ)
end Ov
namespace Ov
open PySem PySem.Spec PyProof.Rows L2
section
variable {X:Cx}
theorem NV {kx vx iter:Expr} {ifs:List Expr} {x y:Str} {px py:Pos} {sc:Scope} {pos spos:Pos} {wi:TI} {tk te:TE} {tc:TT} {i:Nat} (osc:Scope) (N:List Str) (ks:List (Str × Nat)) (hc:X.calm=true) (ho:X.env.scope=osc) (hN:X.N=N) (hnd:X.N.Nodup) (hy:X.N[i]?=some y) (hl:Loc X.env.scope y) (hi:PI X (.Name x px) iter wi)
  (hk:∀cl C s₀ H₀ fp pins,PE (fF X sc cl C x ks s₀ H₀ fp pins) kx tk) (he:∀cl C s₀ H₀ fp pins,PE (fF X sc cl C x ks s₀ H₀ fp pins) vx te) (hcn:∀cl C s₀ H₀ fp pins,FF (fF X sc cl C x ks s₀ H₀ fp pins) ifs tc) (ok:cD sc osc N x ks:=by decide +kernel) (hs:∀x,foldedSetIterable iter X.env x=pure x:=by intro _;rfl)
  (hsw:swapsWith (.DictComp kx vx [⟨.Name x px,iter,ifs,0⟩] sc pos) (some (.Name y py)) spos.line X.env=pure true:=by rfl) (hf:X.fn y=true∨X.env.scope.names.lookup y=some .local:=by first | exact .inl rfl | exact .inr rfl | assumption) :
  PS X (.Assign [.Name y py] (.DictComp kx vx [⟨.Name x px,iter,ifs,0⟩] sc pos) spos) (λD σ H=>QF wi ks tc tk te σ H λv H1=>D.nx (σ.set i (some v)) H1):=by
 intro pins s σ H Dn I hw
 obtain ⟨cl,hcl,h1,h2⟩:=iJ (mO ok I ho)
 have ok':cD sc X.env.scope X.N x ks:=by rw [ho,hN];exact ok
 rw [exec_Assign_Name_used _ _ _ _ hsw]
 refine wpAny_bind (wpAny_standAt (wpAny_bind ?_))
 show wpAny _ X.A (do let _ ← comprehension (.DictComp kx vx [⟨.Name x px,iter,ifs,0⟩] sc pos) sc X.env _ newDict false (eval iter X.env) (some (assign (.Name y py) X.env))) _ _ s
 refine wpAny_bind (wpAny_mono (wpAny_comprehension_free (use:=some (assign (.Name y py) X.env)) (Q:=λ_ s'=>SP X pins Dn .next s') rfl hs hcl ok.1 ok.2.2.2.1
  (cA (hi pins s σ H _ I hw) λv s1 h3=>cA h3 λitv s2 h4=>?_)) (λ_ s' hq=>wpAny_pure (wpAny_pure hq)) λ_ _ e=>e)
 obtain ⟨it,fp,tn,J,H2,rfl,I2,T,st2,f2,hR⟩:=h4
 refine t4 (Q:=λv H1=>Dn.nx (σ.set i (some v)) H1) (RR:=λacc C=>compPost (model X.prog X.w) X.A X.xe (some (assign (.Name y py) X.env)) (λ_ s'=>SP X pins Dn .next s') acc C) hc ok' h1 h2 hk he hcn I2 T st2 f2 hR ?_
 intro D C s' H' m J' q hn hC cl' cs cc cp
 show wpAny _ X.A (assign (.Name y py) X.env (.ref D)) _ _ _
 refine wpAny_assign_Name (oO J' hnd hy hl (v:=.ref D) rfl (λs'' J'' ⟨a,hsb,ha⟩=>?_) hf)
 refine ⟨m,hn.sameBut hsb (λz=>?_),λh' hsb'=>⟨_,H',?_,q⟩⟩
 ·rcases ha with e | e
  ·exact cl' (z.trans e)
  ·exact cc _ _ e z.symm
 ·exact J''.turned (t':=s''.toks) (it:=C) (λb o ne e=>hsb'.extBut b o ne e) hC cl' (.inr cs) cc cp
end
end Ov
namespace Ov
open PySem PySem.Spec PyProof.Rows
open L2 (V HO Hp Inv Cx VK XK TE TT TA TS TG o9 TI TO jv Ends uv Loc Gl Rd RelV Vals fh wb b7 o5 rK o7 jt R2 upd aA aF dC gJ Sp p5 It bD cV bS Passes oP aI Meth Mk Binds aQ cE aw di fT eQ jA nE Bo oQ)
section
variable {X:Cx} {G:G2} {kx vx iter cnd:Expr} {x y:Str} {px py:Pos} {sc:Scope} {pos spos:Pos} {wi:so} {tk te:dt} {tc:kT} {i:Nat}
theorem LB (osc:Scope) (N:List Str) (ks:List (Str × Nat)) (hc:X.calm=true) (ho:X.env.scope=osc) (hN:X.N=N) (hnd:X.N.Nodup) (hy:X.N[i]?=some y) (hl:Loc X.env.scope y) (hi:RI X G (.Name x px) iter wi) (hk:∀cl C s₀ H₀ fp pins,RE (fF X sc cl C x ks s₀ H₀ fp pins) G kx tk) (he:∀cl C s₀ H₀ fp pins,RE (fF X sc cl C x ks s₀ H₀ fp pins) G vx te)
  (hcn:∀cl C s₀ H₀ fp pins,RT (fF X sc cl C x ks s₀ H₀ fp pins) G cnd tc) (ok:cD sc osc N x ks:=by decide +kernel) (hs:∀x,foldedSetIterable iter X.env x=pure x:=by intro _;rfl) (hsw:swapsWith (.DictComp kx vx [⟨.Name x px,iter,[cnd],0⟩] sc pos) (some (.Name y py)) spos.line X.env=pure true:=by rfl)
  (hf:X.fn y=true∨X.env.scope.names.lookup y=some .local:=by first | exact .inl rfl | exact .inr rfl | assumption):RS X G (.Assign [.Name y py] (.DictComp kx vx [⟨.Name x px,iter,[cnd],0⟩] sc pos) spos) (sU (N9 wi ks tc tk te) (Gv i)) :=
 ⟨xh (NV osc N ks hc ho hN hnd hy hl hi.run (λcl C s₀ H₀ fp pins=>(hk cl C s₀ H₀ fp pins).run) (λcl C s₀ H₀ fp pins=>(he cl C s₀ H₀ fp pins).run) (λcl C s₀ H₀ fp pins=>vn (hcn cl C s₀ H₀ fp pins).run) ok hs hsw hf) (mF zE)⟩
end
end Ov
set_option maxHeartbeats 4000000
namespace Ov
open PySem PySem.Spec PyProof.Rows L2
def top (i:Nat):Stmt:=PySem.Challenge.pw_overhaul_k29_orders_that_were.main.body.getD i (.Pass ⟨0,0,0,0⟩)
set_option compiler.extract_closed false
set_option hygiene false
local macro_rules | `(tactic| dsimp! [$ls,*])=>`(tactic| simp only [Ic,AQ,xQ,oS,Ib,AS,HY,AU,Fu,Pc,zj,tC,rI,FJ,rU,RF,RL,HR,HP,HS,Int.reduceLT,Ia,fc,v3,HX,rA,Ie,Ck,H0,JB,AN,H_,Fp,OI,tB,O_,AO,O9,Al,Gx,zM,Gu,zP,zQ,IB,Ob,Od,Jn,Oe,Sa,dj,eZ,ji,C3,HO.lst.injEq,HO.tup.injEq,List.set_cons_zero,List.set_cons_succ,List.getElem?_cons_zero,List.getElem?_cons_succ,Option.some.injEq,exists_eq_left',exists_eq_left,exists_and_left,exists_eq,exists_eq',V.int.injEq,V.bl.injEq,V.ref.injEq,V.str.injEq,V.ty.injEq,decide_eq_true_eq,true_and,and_true,List.cons.injEq,List.append_nil,List.cons_append,List.nil_append,reduceCtorEq,Bool.not_eq_true',decide_eq_false_iff_not,and_assoc,ite_not,if_true,if_false,Bool.false_eq_true,decide_true,decide_false,L2.start,List.map_cons,List.map_nil,List.length_cons,List.length_nil,Nat.reduceAdd,Nat.reduceSub,List.replicate,uA,Cx.K0,Cx.rG,false_and,and_false,exists_false,false_or,or_false,id,dW,Option.getD_some,Oc,Pb,AR,pX,Oq,LX,Gw,Jr,$ls,*])
local macro_rules | `(tactic| simp_arith [$t:term])=>`(tactic| refine Qf F $t (fun xs J Q E h=>?_) (fun cdv A outer s H E G xs J Q E2 hr h B=>?_))
local macro_rules | `(tactic| simp_arith [$t:term,$r:term])=>`(tactic| refine R9 F $t (fun xs J Q E h=>?_) (fun cdv A outer s H E G E2 hr B=>$r) (fun xs J Q E2 h X hX=>?_))
local macro_rules | `(tactic| simp_arith [$t:term,$r:term,$u:term])=>`(tactic| refine Qe F $t (fun xs J Q E h=>?_) (fun cdv A outer s H E G E2 hr B=>$r) (fun xs J Q E2 h X hX=>?_))
local macro_rules | `(tactic| simp_arith! [$ls,*])=>`(tactic| simp only [Hz,Ou,PC,N3,N6,qN,rC,y2,RN,rB,Ot,Hx,Qv,Og,Jk,Oi,Oh,RJ,y0,xm,Ow,Of,RH,Am,Jp,RM,N8,RD,N7,EJ,N_,HC,HB,tX,Jl,Om,Jq,Cc,Gv,Rn,Rm,Ro,sU,Oj,Jm,oq,xo,Rr,R3,Rt,R1,Qs,Qt,EF,qI,qU,N1,RC,EG,Mu,N5,N4,Qr,NW,Lr,NY,Lo,EE,Qq,Ai,N2,Lm,Aj,Jg,PX,PU,Na,P7,P8,Nd,Nc,IL,QQ,OS,QP,QU,QV,QN,QR,ON,JC,OM,OP,OL,OO,PQ,PR,M7,PH,PK,PM,PN,PJ,PL,QK,QM,QL,Lp,Ki,Kk,MV,Kj,MW,Ht,Ag,yY,Hu,EA,eq_int,eq_str,MY,Dh,Kz,KA,OT,KN,qp,Kt,vZ,Mf,Mg,Md,Me,Nat.reduceAdd,Nat.reduceSub,Nat.reduceLeDiff,Q6,Q7,Mb,Mc,List.append_nil,QY,QZ,Q8,Q9,Option.some.injEq,exists_eq_left',exists_eq_left,exists_and_left,exists_eq,exists_eq',PV.int.injEq,PV.bl.injEq,PV.ref.injEq,PV.str.injEq,PV.ty.injEq,PV.tup.injEq,PV.fl.injEq,HQ.lst.injEq,HQ.ins.injEq,HQ.dct.injEq,decide_eq_true_eq,true_and,and_true,List.cons.injEq,reduceCtorEq,Bool.not_eq_true',decide_eq_false_iff_not,and_assoc,ite_not,if_true,if_false,Bool.false_eq_true,decide_true,decide_false,false_and,and_false,exists_false,false_or,or_false,id,dj,eZ,ji,C3,ML,MN,MO,MP,MQ,MR,Kd,Ke,Sd,Q3,Q1,Q5,aq,Bool.and_true,Q_,Bool.and_false,QX,IP,Nf,Ng,Nh,Ni,Nj,Nk,Nl,Nn,Np,KO,KP,KQ,OU,L5,Ij,L6,L7,Ik,String.reduceEq,OW,OX,pA,Q4,List.not_mem_nil,exists_const,NL,NC,NG,ND,NM,NK,NN,NB,NH,NF,IX,NI,K7,NJ,NO,NZ,Hw,N0,EH,Ji,Jj,Jo,Rp,Lq,Ak,vq,Rq,$ls,*])
local macro_rules | `(tactic| simp_all! [$ls,*])=>`(tactic| repeat (first | (with_reducible refine hNq _ _ ?_;clear hNq Nq) | with_reducible refine LL fun Nq hNq=>?_ | simp_arith! [$ls,*]))
section
variable {P:Program} {w:World} {K:PySem.W.Frag} {mg:Str→Option Value} {base:Heap}
abbrev qW:Stmt:=(top 14)
abbrev iz:List Str:=["one","two"]
theorem oF:L2.aw ["one","two"] ["one","two"] (L2.ai qW):=eJ
def rj:Sp:=λvs H Q _=>∃a b:Int,vs=[.int a,.int b]∧Q (.int (Int.gcd a b:Nat)) H
theorem BU {f:Addr} {fd:FuncData} (F:cE K "shared" "shared" qW f fd) (Z:Cs mg):aQ P w K mg base pZ 1 f fd iz rj:=by
 refine F.ok oF (λvs H Q E h=>?_) (λcdv A outer s H vs Q E hr h=>?_)
 ·obtain ⟨a,b,rfl,_⟩:=h
  rfl
 obtain ⟨a,b,rfl,q⟩:=h
 refine ⟨_,(QB.run (aX (oj (i:=0) (j:=1) rfl oF.nd rfl rfl (by decide) rfl rfl (ay (bH mw rfl Z.abs boot_abs (ay (pv 0) bp)) (ay (bH mw rfl Z.abs boot_abs (ay (pv 1) bp)) bp)) rfl)
   (aX (j4 PassesOwn.never (dH Jc (pv 1) aP (fo _)) (bM (oj (i:=0) (j:=1) rfl oF.nd rfl rfl (by decide) rfl rfl (ay (pv 1) (ay (bA gq (pv 0) (pv 1)) bp)) rfl)))
   (bM (dO (pv 0)))))),?_⟩
 refine ⟨_,rfl,a,rfl,_,rfl,b,rfl,_,_,rfl,?_⟩
 refine xT (λσ H'=>∃x y:Int,σ=[some (.int x),some (.int y)]∧H=H'∧0≤x∧0≤y∧Int.gcd x y=Int.gcd a b) (λσ _=>match σ with | [_,some (.int y)]=>y.toNat | _=>0)
  ⟨_,_,rfl,rfl,by split <;> omega,by split <;> omega,Gy a b⟩ ?_ (λσ H Q Q' m h=>?_)
 ·rintro σ H' ⟨x,y,rfl,rfl,hx,hy,hg⟩
  dsimp! [rJoin]
  split
  ·rename_i hy0
   subst hy0
   rw [← hg,zN hx] at q
   exact q
  ·rename_i hy0
   have h1:=Int.emod_lt_of_pos x (show 0 < y by omega)
   have h2:=Int.emod_nonneg x hy0
   exact ⟨by omega,hy,h2,(wB hy0).trans hg,by omega⟩
 ·obtain ⟨v,e,hs,k,ek,hq⟩:=h
  exact ⟨v,e,hs,k,ek,m _ _ hq⟩
def Dig:List Int→List Int→Prop
 | [],[]=>True
 | d :: ds,s :: ss=>(0≤d∧d < s)∧Dig ds ss
 | _,_=>False
theorem Dig.snoc:∀{ds ss:List Int} {d s:Int},Dig ds ss→0≤d→d < s→Dig (ds ++ [d]) (ss ++ [s])
 | [],[],_,_,_,h0,h1=>⟨⟨h0,h1⟩,trivial⟩
 | _ :: _,_ :: _,_,_,h,h0,h1=>⟨h.1,Dig.snoc h.2 h0 h1⟩
 | [],_ :: _,_,_,h,_,_=>h.elim
 | _ :: _,[],_,_,h,_,_=>h.elim
theorem Dig.cons:∀{ds ss:List Int} {s:Int},Dig ds (s :: ss)→∃d r,ds=d :: r∧0≤d∧d < s∧Dig r ss
 | [],_,_,h=>h.elim
 | d :: r,_,_,h=>⟨d,r,rfl,h.1.1,h.1.2,h.2⟩
theorem Dig.nil:∀{ds:List Int},Dig ds []→ds=[]
 | [],_=>rfl
 | _ :: _,h=>h.elim
theorem Dig.len:∀{ds ss:List Int},Dig ds ss→ds.length=ss.length
 | [],[],_=>rfl
 | _ :: _,_ :: _,h=>congrArg Nat.succ (Dig.len h.2)
 | [],_ :: _,h=>h.elim
 | _ :: _,[],h=>h.elim
theorem take_snoc {xs:List Int} {i:Nat} {x:Int} (h:xs[i]?=some x):xs.take (i + 1)=xs.take i ++ [x]:=by
 rw [SS,h]
 rfl
theorem qm {ns:List Int} {i:Nat} {y:V} (h:(ns.map V.int)[i]?=some y):∃z,y=V.int z∧ns[i]?=some z:=by
 rw [Sl] at h
 cases e:ns[i]? with
 | none=>rw [e] at h;cases h
 | some z=>rw [e] at h;exact ⟨z,(Option.some.inj h).symm,rfl⟩
abbrev y4:Stmt:=(top 46)
abbrev mU:List Str:=["_law_script","_law_k"]
theorem HK:L2.aw ["_law_script","_law_k"] ["_law_script","_law_k"] (L2.ai y4):=eJ
abbrev qT:Stmt:=(top 47)
abbrev cn:List Str:=["_law_cell_here","_law_sizes"]
theorem dM:L2.aw ["_law_cell_here","_law_sizes","_law_out","_law_rest","_law_size","_law_one","_law_k","_law_two"] ["_law_cell_here","_law_sizes"] (L2.ai qT):=eJ
def ra (K:PySem.W.Frag):Sp:=λvs H Q _=>∃(c:Int) (a:Addr) (ss:List Int),vs=[.int c,.ref a]∧dC K H a (ss.map V.int)∧(∀s∈ss,0 < s∧Bd 9000 s)∧ss.length≤1000 ∧
 ∀(r:Addr) (H':Hp) (ds:List Int),H r=none→bD H H'→H' r=some (.lst (ds.map V.int))→Dig ds ss→Q (.ref r) H'
theorem BS {f:Addr} {fd:FuncData} (F:cE K "_law_digits" "_law_digits" qT f fd) (Z:Cs mg):aQ P w K mg base pZ 1 f fd cn (ra K):=by
 refine F.ok dM (λvs H Q E h=>?_) (λcdv A outer s H vs Q E hr h=>?_)
 ·obtain ⟨c,a,ss,rfl,_⟩:=h
  rfl
 obtain ⟨c,a,ss,rfl,hS,hs,hl,q⟩:=h
 refine ⟨_,(QB.run (aX (cR (i:=2) dM.nd rfl (Or.inl rfl) (iW bp))
   (aX (m5 (dH IZ (pv 0) (bA Ec aP aP) (fo _)) (aX (cR (i:=3) dM.nd rfl (Or.inl rfl) (bA yN (pv 0) (bA Ec aP aP)))
   (aX (oi PassesOwn.never rfl (mP (pv 1)) (kG (i:=4) dM.nd rfl (Or.inl rfl)) (aX (kI (qG PySem.F.plainAttrs_list PySem.F.slot_list_append PySem.F.type_list_append iq (pv 2) (ay (bA gq (pv 3) (pv 4)) bp)))
   (bM (cR (i:=3) dM.nd rfl (Or.inl rfl) (bA gm (pv 3) (pv 4))))))
   (bM (dO (pv 2))))) fV)
   (aX (cR (i:=5) dM.nd rfl (Or.inl rfl) (bA gq (pv 0) aP))
   (aX (oi PassesOwn.never rfl (f6 rfl Z.range (ay (bH iI rfl Z.len boot_len (ay (pv 1) bp)) bp)) (kG (i:=6) dM.nd rfl (Or.inl rfl)) (aX (cR (i:=5) dM.nd rfl (Or.inl rfl) (bA gq (bA iV (bA cP (pv 5) aP) (bA cP aP (bA iV (pv 6) aP))) aP))
   (aX (cR (i:=7) dM.nd rfl (Or.inl rfl) (bA gq (bA iV (bA iV (bA cP (pv 5) (pv 5)) (bA cP aP (pv 5))) (pv 6)) aP))
   (bM (kI (qG PySem.F.plainAttrs_list PySem.F.slot_list_append PySem.F.type_list_append iq (pv 2) (ay (bA gq (bA gm (pv 7) aP) (cm uH (pv 1) (pv 6) (λ_ _=>rfl))) bp)))))))
   (bM (dO (pv 2)))))))),?_⟩
 refine ⟨SX _,λr hr'=>?_⟩
 have g0:=bD.new hr' (.lst [])
 refine ⟨_,rfl,_,_,rfl,rfl,⟨by decide,by decide,by decide⟩,_,_,rfl,rfl,_,rfl,?_⟩
 refine DG (λ_=>?_) (λ_=>?_)
 ·refine ⟨_,rfl,_,_,rfl,rfl,⟨by decide,by decide,by decide⟩,_,_,rfl,rfl,?_⟩
  refine ⟨_,rfl,a,rfl,⟨_,g0.seq hS⟩,Dk (K:=K) (a:=a) (xs:=ss.map V.int) (λi σ H2=>∃(ds:List Int) (rest:Int) (u:Option V),σ=[some (.int c),some (.ref a),some (.ref r),some (.int rest),u,none,none,none] ∧
   bD H H2∧H2 r=some (.lst (ds.map V.int))∧Dig ds (ss.take i)) ⟨[],_,none,rfl,g0,aA,trivial⟩ (λi σ H2 _ ⟨_,_,_,_,s2,_⟩=>s2.seq hS) ?_ ?_⟩
  ·rintro i y σ H2 hi ⟨ds,rest,u,rfl,s2,hd,hD⟩
   obtain ⟨z,rfl,hz⟩:=qm hi
   obtain ⟨z0,zb⟩:=hs z (Sv hz)
   have hil:i < ss.length:=(Sj.mp hz).1
   have dl:=hD.len
   rw [SK] at dl
   refine ⟨_,rfl,.inl ⟨rfl,_,dC.of hd⟩,_,rfl,_,rfl,_,_,rfl,rfl,z0,r,_,_,rfl,rfl,hd,?_,?_⟩
   ·rw [Sg]
    exact aZ (by omega)
   refine ⟨_,rfl,_,rfl,_,_,rfl,rfl,⟨by omega,zb⟩,?_⟩
   refine ⟨ds ++ [rest % z],_,_,rfl,s2.Mw hr' _,?_,?_⟩
   ·rw [aA,Sk]
    rfl
   ·rw [take_snoc hz]
    exact hD.snoc (Int.emod_nonneg _ (by omega)) (Int.emod_lt_of_pos _ z0)
  ·rintro σ H2 ⟨ds,rest,u,rfl,s2,hd,hD⟩
   rw [Sg,SV] at hD
   exact ⟨_,rfl,q r H2 ds hr' s2 hd hD⟩
 ·refine ⟨_,rfl,_,_,rfl,rfl,(show (0:Int) < 2147483647 by decide),?_⟩
  refine ⟨_,rfl,a,_,rfl,.inl (g0.seq hS),_,rfl,?_,?_,tO (lo:=0) (n:=(ss.map V.int).length) (λi σ H2=>∃(ds:List Int) (one:Int) (u v:Option V),σ=[some (.int c),some (.ref a),some (.ref r),none,none,some (.int one),u,v] ∧
   0≤one∧one < 2147483647∧bD H H2∧H2 r=some (.lst (ds.map V.int))∧Dig ds (ss.take i)) ⟨[],_,none,none,rfl,Int.emod_nonneg _ (by decide),Int.emod_lt_of_pos _ (by decide),g0,aA,trivial⟩ ?_ ?_⟩
  ·omega
  ·rw [Sg];omega
  ·rintro i σ H2 hi ⟨ds,one,u,v,rfl,o0,o1,s2,hd,hD⟩
   rw [Sg] at hi
   have hz:ss[i]?=some ss[i]:=Si hi
   obtain ⟨z0,zb⟩:=hs ss[i] (SM hi)
   have dl:=hD.len
   rw [SK] at dl
   have e1:di (ss.map V.int) (0 + (i:Int))=some (.int ss[i]):=by
    rw [Int.zero_add]
    exact bB (by rw [Sl,hz];rfl)
   dsimp! [rJoin]
   have A0:0≤(one * 48271 + 10007 * (0 + (i:Int) + 1)) % 2147483629:=Int.emod_nonneg _ (by decide)
   have A1:(one * 48271 + 10007 * (0 + (i:Int) + 1)) % 2147483629 < 2147483629:=Int.emod_lt_of_pos _ (by decide)
   generalize (one * 48271 + 10007 * (0 + (i:Int) + 1)) % 2147483629=A at A0 A1 ⊢
   generalize ((A * A + 69621 * A + (0 + (i:Int))) % 2147483563).fdiv 11=B
   have small:∀x:Int,0≤x→x < 2147483648→Bd 64 x:=λx h1 h2=>Bd.small (by omega) (by omega)
   refine ⟨.of (small _ o0 (by omega)) (small _ (by decide) (by decide)),.of (small _ (by decide) (by decide)) (small _ (by omega) (by omega)),.of (small _ A0 (by omega)) (small _ A0 (by omega)),
    .of (small _ (by decide) (by decide)) (small _ A0 (by omega)),.inl ⟨rfl,_,dC.of hd⟩,⟨by decide,(small _ (by decide) (by decide)).mono (by decide)⟩,_,s2.seq hS,_,e1,_,rfl,z0,_,hd,?_,A0,by omega,s2.Mw hr' _,ds ++ [B % ss[i]],?_,?_⟩
   ·rw [Sg]
    exact aZ (by omega)
   ·rw [aA,Sk]
    rfl
   ·rw [take_snoc hz]
    exact hD.snoc (Int.emod_nonneg _ (by omega)) (Int.emod_lt_of_pos _ z0)
  ·rintro σ H2 ⟨ds,one,u,v,rfl,o0,o1,s2,hd,hD⟩
   rw [Sg,SV] at hD
   exact ⟨_,rfl,q r H2 ds hr' s2 hd hD⟩
def MG (H:Hp) (q:Rat) (Q:VK):Prop:=∀(r:Addr) (H':Hp),bD H H'→H' r=some (.tup [.int q.num,.int q.den])→Q (.ref r) H'
abbrev lY:Stmt:=(top 15)
abbrev dz:List Str:=["top","bottom"]
theorem kb:L2.aw ["top","bottom","divisor"] ["top","bottom"] (L2.ai lY):=eJ
def gE:Sp:=λvs H Q _=>∃t b:Int,vs=[.int t,.int b]∧b≠0∧Bd 9000 b∧MG H (Rat.divInt t b) Q
theorem Dq {n:Nat} {t b:Int} (h:b≠0) (hb:Bd n b):Bd n ((Int.gcd t b:Nat):Int):=hb.le (by have:=Kv (t:=t) h;omega)
theorem wX {f:Addr} {fd:FuncData} (F:cE K "fraction" "fraction" lY f fd) (Z:Cs mg) (ia:rH P w K mg base 1 "shared" iz rj):aQ P w K mg base pZ 2 f fd dz gE:=by
 refine F.ok kb (λvs H Q E h=>?_) (λcdv A outer s H vs Q E hr h=>?_)
 ·obtain ⟨t,b,rfl,_⟩:=h
  rfl
 obtain ⟨t,b,rfl,hb,bb,q⟩:=h
 have hg:=zO (t:=t) hb
 have gb:=Dq (t:=t) hb bb
 refine ⟨_,(QB.run (aX (m5 (dH Eb (pv 1) aP (fo _)) om fV)
   (aX (cR (i:=2) kb.nd rfl (Or.inl rfl) (xf ia hr (by decide) rfl (ay (pv 0) (ay (pv 1) bp))))
   (xi (m5 (dH z_ (pv 1) aP (fo _)) (bM (cR (i:=2) kb.nd rfl (Or.inl rfl) (Ad Fx (pv 2)))) fV)
   (bM (dO (qJ (ay (bA gm (pv 0) (pv 2)) (ay (bA gm (pv 1) (pv 2)) bp))))))))),?_⟩
 refine ⟨_,rfl,rfl,_,rfl,?_⟩
 refine DG (λc=>absurd (V.int.inj (of_decide_eq_true c)) hb) (λ_=>?_)
 refine ⟨_,rfl,_,rfl,t,b,rfl,?_⟩
 refine ⟨λσ' H'=>∃d:Int,σ'=[some (.int t),some (.int b),some (.int d)]∧H=H'∧d≠0∧Bd 9000 d∧t.fdiv d=(Rat.divInt t b).num∧b.fdiv d=(Rat.divInt t b).den,?_,?_⟩
 ·refine ⟨_,rfl,_,_,rfl,rfl,_,rfl,DG (λc=>?_) (λc=>?_)⟩
  ·have c':b < 0:=of_decide_eq_true c
   exact ⟨_,rfl,_,rfl,_,rfl,rfl,by omega,gb.neg,zZ c',Gk c'⟩
  ·have c':0 < b:=by
    have:=of_decide_eq_false (T7.mpr c)
    omega
   exact ⟨_,rfl,rfl,by omega,gb,uR c',den_pos c'⟩
 rintro _ _ ⟨d,rfl,rfl,hd,bd,e1,e2⟩
 refine ⟨_,rfl,_,rfl,_,_,rfl,rfl,⟨hd,bd⟩,_,rfl,_,rfl,_,_,rfl,rfl,⟨hd,bd⟩,(by show 2≤sizeLine;decide),λp hp=>?_⟩
 exact q p _ (bD.new hp _) (by rw [aA];show some (HO.tup [V.int (t.fdiv d),V.int (b.fdiv d)])=_;rw [e1,e2])
abbrev EW:Stmt:=(top 48)
abbrev eA:List Str:=["_law_top","_law_bottom"]
theorem vQ:L2.aw ["_law_top","_law_bottom","_law_one","_law_two"] ["_law_top","_law_bottom"] (L2.ai EW):=eJ
def Ju:Sp:=λvs H Q _=>∃t b:Int,vs=[.int t,.int b]∧0 < b∧Bd 9000 b∧MG H (Rat.divInt t b) Q
theorem K2 {f:Addr} {fd:FuncData} (F:cE K "_law_low" "_law_low" EW f fd) (Z:Cs mg):aQ P w K mg base pZ 1 f fd eA Ju:=by
 refine F.ok vQ (λvs H Q E h=>?_) (λcdv A outer s H vs Q E hr h=>?_)
 ·obtain ⟨t,b,rfl,_⟩:=h
  rfl
 obtain ⟨t,b,rfl,hb,bb,q⟩:=h
 have hg:=zO (t:=t) (show b≠0 by omega)
 have gb:=Dq (t:=t) (show b≠0 by omega) bb
 refine ⟨_,(QB.run (aX (cR (i:=2) vQ.nd rfl (Or.inl rfl) (bH mw rfl Z.abs boot_abs (ay (pv 0) bp)))
   (aX (cR (i:=3) vQ.nd rfl (Or.inl rfl) (pv 1))
   (aX (j4 PassesOwn.never (dH Jc (pv 3) aP (fo _)) (bM (oj (i:=2) (j:=3) rfl vQ.nd rfl rfl (by decide) rfl rfl (ay (pv 3) (ay (bA gq (pv 2) (pv 3)) bp)) rfl)))
   (bM (dO (qJ (ay (bA gm (pv 0) (pv 2)) (ay (bA gm (pv 1) (pv 2)) bp))))))))),?_⟩
 refine ⟨_,rfl,t,rfl,_,rfl,?_⟩
 refine xT (λσ H'=>∃x y:Int,σ=[some (.int t),some (.int b),some (.int x),some (.int y)]∧H=H'∧0≤x∧0≤y∧Int.gcd x y=Int.gcd t b) (λσ _=>match σ with | [_,_,_,some (.int y)]=>y.toNat | _=>0)
  ⟨_,_,rfl,rfl,by split <;> omega,by omega,Dp t b⟩ ?_ (λσ H Q Q' m h=>?_)
 ·rintro σ H' ⟨x,y,rfl,rfl,hx,hy,hg'⟩
  dsimp! [rJoin]
  split
  ·rename_i hy0
   subst hy0
   have ex:x=((Int.gcd t b:Nat):Int):=by rw [← hg',zN hx]
   subst ex
   refine ⟨⟨by omega,gb⟩,⟨by omega,gb⟩,(by show 2≤sizeLine;decide),λp hp=>?_⟩
   exact q p _ (bD.new hp _) (by rw [aA,uR hb,den_pos hb])
  ·rename_i hy0
   have h1:=Int.emod_lt_of_pos x (show 0 < y by omega)
   have h2:=Int.emod_nonneg x hy0
   exact ⟨by omega,hy,h2,(wB hy0).trans hg',by omega⟩
 ·obtain ⟨v,e,hs,k,ek,hq⟩:=h
  exact ⟨v,e,hs,k,ek,m _ _ hq⟩
theorem Fm {m n:Nat} {t b:Int} (hb:b≠0) (h1:Bd m t) (h2:Bd n b) (k:Nat) (hm:m≤k) (hn:n≤k):Sz k (Rat.divInt t b) :=
 ⟨(h1.le (zY t b)).mono hm,(h2.le (uB hb)).mono hn⟩
theorem uQ (p q:Rat):(p.den:Int) * (q.den:Int)≠0:=Int.mul_ne_zero (fj p) (fj q)
theorem Sz.add {m n k:Nat} {p q:Rat} (h:Sz m p) (g:Sz n q) (hk:m + n + 1≤k:=by decide):Sz k (p + q):=by
 rw [← add_eq]
 exact Fm (uQ p q) (.add (.mul h.num g.den (So _)) (.mul g.num h.den (So _)) (So _)) (.mul h.den g.den (So _)) k (by omega) (by omega)
theorem Sz.sub {m n k:Nat} {p q:Rat} (h:Sz m p) (g:Sz n q) (hk:m + n + 1≤k:=by decide):Sz k (p - q):=by
 rw [← sub_eq]
 exact Fm (uQ p q) (.sub (.mul h.num g.den (So _)) (.mul g.num h.den (So _)) (So _)) (.mul h.den g.den (So _)) k (by omega) (by omega)
theorem Sz.mul {m n k:Nat} {p:Rat} {i:Int} (h:Sz m p) (g:Bd n i) (hk:m + n≤k:=by decide):Sz k (p * i):=by
 rw [← mul_eq]
 exact Fm (fj p) (.mul h.num g (So _)) h.den k hk (by omega)
def OD (K:PySem.W.Frag) (g:Rat→Rat→Rat):Sp:=λvs H Q _=>∃(a b:Addr) (p q:Rat),vs=[.ref a,.ref b]∧Mh K H a p∧Mh K H b q∧Sz 4000 p∧Sz 4000 q∧MG H (g p q) Q
abbrev y_:Stmt:=(top 16)
abbrev pL:List Str:=["one","two"]
theorem HN:L2.aw ["one","two"] ["one","two"] (L2.ai y_):=eJ
theorem G1 {f:Addr} {fd:FuncData} (F:cE K "plus" "plus" y_ f fd) (Z:Cs mg) (bX:rH P w K mg base 2 "fraction" dz gE):aQ P w K mg base pZ 3 f fd pL (OD K λp q=>p + q):=by
 refine F.ok HN (λvs H Q E h=>?_) (λcdv A outer s H vs Q E hr h=>?_)
 ·obtain ⟨a,b,p,q,rfl,_⟩:=h
  rfl
 obtain ⟨a,b,p,q,rfl,ha,hb,sp,sq,k⟩:=h
 refine ⟨_,(QB.run (bM (dO (xf bX hr (by decide) rfl (ay (bA iV (bA cP (cm cX (pv 0) aP (λ_ _=>rfl)) (cm cX (pv 1) aP (λ_ _=>rfl))) (bA cP (cm cX (pv 1) aP (λ_ _=>rfl)) (cm cX (pv 0) aP (λ_ _=>rfl)))) (ay (bA cP (cm cX (pv 0) aP (λ_ _=>rfl)) (cm cX (pv 1) aP (λ_ _=>rfl))) bp)))))),?_⟩
 refine ⟨_,rfl,_,_,_,_,rfl,rfl,ha,rfl,_,rfl,_,_,_,_,rfl,rfl,hb,rfl,_,_,rfl,rfl,.of sp.num sq.den,_,rfl,_,_,_,_,rfl,rfl,hb,rfl,_,rfl,_,_,_,_,rfl,rfl,ha,rfl,_,_,rfl,rfl,.of sq.num sp.den,_,_,rfl,rfl,_,rfl,_,_,_,_,rfl,rfl,ha,rfl,_,rfl,_,_,_,_,rfl,rfl,hb,rfl,_,_,rfl,rfl,.of sp.den sq.den,_,_,rfl,uQ p q,.mul sp.den sq.den,?_⟩
 rw [add_eq]
 exact k
abbrev vH:Stmt:=(top 17)
abbrev j2:List Str:=["one","two"]
theorem EY:L2.aw ["one","two"] ["one","two"] (L2.ai vH):=eJ
theorem D0 {f:Addr} {fd:FuncData} (F:cE K "minus" "minus" vH f fd) (Z:Cs mg) (bX:rH P w K mg base 2 "fraction" dz gE):aQ P w K mg base pZ 3 f fd j2 (OD K λp q=>p - q):=by
 refine F.ok EY (λvs H Q E h=>?_) (λcdv A outer s H vs Q E hr h=>?_)
 ·obtain ⟨a,b,p,q,rfl,_⟩:=h
  rfl
 obtain ⟨a,b,p,q,rfl,ha,hb,sp,sq,k⟩:=h
 refine ⟨_,(QB.run (bM (dO (xf bX hr (by decide) rfl (ay (bA yN (bA cP (cm cX (pv 0) aP (λ_ _=>rfl)) (cm cX (pv 1) aP (λ_ _=>rfl))) (bA cP (cm cX (pv 1) aP (λ_ _=>rfl)) (cm cX (pv 0) aP (λ_ _=>rfl)))) (ay (bA cP (cm cX (pv 0) aP (λ_ _=>rfl)) (cm cX (pv 1) aP (λ_ _=>rfl))) bp)))))),?_⟩
 refine ⟨_,rfl,_,_,_,_,rfl,rfl,ha,rfl,_,rfl,_,_,_,_,rfl,rfl,hb,rfl,_,_,rfl,rfl,.of sp.num sq.den,_,rfl,_,_,_,_,rfl,rfl,hb,rfl,_,rfl,_,_,_,_,rfl,rfl,ha,rfl,_,_,rfl,rfl,.of sq.num sp.den,_,_,rfl,rfl,_,rfl,_,_,_,_,rfl,rfl,ha,rfl,_,rfl,_,_,_,_,rfl,rfl,hb,rfl,_,_,rfl,rfl,.of sp.den sq.den,_,_,rfl,uQ p q,.mul sp.den sq.den,?_⟩
 rw [sub_eq]
 exact k
abbrev vJ:Stmt:=(top 18)
abbrev m6:List Str:=["one","many"]
theorem E1:L2.aw ["one","many"] ["one","many"] (L2.ai vJ):=eJ
def AJ (K:PySem.W.Frag):Sp:=λvs H Q _=>∃(a:Addr) (p:Rat) (m:Int),vs=[.ref a,.int m]∧Mh K H a p∧Sz 9000 p∧Bd 9000 m∧MG H (p * m) Q
theorem D3 {f:Addr} {fd:FuncData} (F:cE K "times" "times" vJ f fd) (Z:Cs mg) (bX:rH P w K mg base 2 "fraction" dz gE):aQ P w K mg base pZ 3 f fd m6 (AJ K):=by
 refine F.ok E1 (λvs H Q E h=>?_) (λcdv A outer s H vs Q E hr h=>?_)
 ·obtain ⟨a,p,m,rfl,_⟩:=h
  rfl
 obtain ⟨a,p,m,rfl,ha,sp,bm,k⟩:=h
 refine ⟨_,(QB.run (bM (dO (xf bX hr (by decide) rfl (ay (bA cP (cm cX (pv 0) aP (λ_ _=>rfl)) (pv 1)) (ay (cm cX (pv 0) aP (λ_ _=>rfl)) bp)))))),?_⟩
 refine ⟨_,rfl,_,_,_,_,rfl,rfl,ha,rfl,_,rfl,_,_,rfl,rfl,.of sp.num bm,_,rfl,_,_,_,_,rfl,rfl,ha,rfl,_,_,rfl,fj p,sp.den,?_⟩
 rw [mul_eq]
 exact k
abbrev y9:Stmt:=(top 19)
abbrev fA:List Str:=["one","two"]
theorem HM:L2.aw ["one","two"] ["one","two"] (L2.ai y9):=eJ
def Fb (K:PySem.W.Frag):Sp:=λvs H Q _=>∃(a b:Addr) (p q:Rat),vs=[.ref a,.ref b]∧Mh K H a p∧Mh K H b q∧Sz 9000 p∧Sz 9000 q∧Q (.bl (decide (p < q))) H
theorem GI (p q:Rat):decide (p.num * q.den < q.num * p.den)=decide (p < q):=decide_eq_decide.mpr (Rat.lt_iff p q).symm
theorem G0 {f:Addr} {fd:FuncData} (F:cE K "less" "less" y9 f fd) (Z:Cs mg):aQ P w K mg base pZ 1 f fd fA (Fb K):=by
 refine F.ok HM (λvs H Q E h=>?_) (λcdv A outer s H vs Q E hr h=>?_)
 ·obtain ⟨a,b,p,q,rfl,_⟩:=h
  rfl
 obtain ⟨a,b,p,q,rfl,ha,hb,sp,sq,k⟩:=h
 refine ⟨_,(QB.run (bM (dO (pJ z_ (bA cP (cm cX (pv 0) aP (λ_ _=>rfl)) (cm cX (pv 1) aP (λ_ _=>rfl))) (bA cP (cm cX (pv 1) aP (λ_ _=>rfl)) (cm cX (pv 0) aP (λ_ _=>rfl))) (fo _))))),?_⟩
 refine ⟨_,rfl,_,_,_,_,rfl,rfl,ha,rfl,_,rfl,_,_,_,_,rfl,rfl,hb,rfl,_,_,rfl,rfl,.of sp.num sq.den,_,rfl,_,_,_,_,rfl,rfl,hb,rfl,_,rfl,_,_,_,_,rfl,rfl,ha,rfl,_,_,rfl,rfl,.of sq.num sp.den,_,_,rfl,rfl,?_⟩
 show Q (.bl (decide (p.num * q.den < q.num * p.den))) H
 rw [GI]
 exact k
theorem zT {K:PySem.W.Frag} {J:Hq} {H:Hp}:∀{ns:List Int} {vs:List V},aT K J H (ns.map PV.int) vs→vs=ns.map V.int
 | [],_,h=>h
 | n :: ns,_,⟨v,us,e,h,k⟩=>by subst e;cases h;rw [zT k];rfl
theorem K' {K:PySem.W.Frag} {J:Hq} {H:Hp} {x:PV} {vs:List V} (h:aT K J H [x] vs):∃v,vs=[v]∧cy K J H x v:=by
 obtain ⟨v,us,rfl,h1,h2⟩:=h;cases h2;exact ⟨v,rfl,h1⟩
theorem jh {K:PySem.W.Frag} {J:Hq} {H:Hp} {x y:PV} {vs:List V} (h:aT K J H [x,y] vs):∃v u,vs=[v,u]∧cy K J H x v∧cy K J H y u:=by
 obtain ⟨v,us,rfl,h1,u,us',rfl,h2,h3⟩:=h;cases h3;exact ⟨v,u,rfl,h1,h2⟩
theorem qj {K:PySem.W.Frag} {J:Hq} {H:Hp} {q:Rat} {v:V} (h:cy K J H (fr q) v):∃a,v=.ref a∧Mh K H a q:=by
 obtain ⟨a,vs,rfl,h1,h2⟩:=h
 obtain ⟨x,y,rfl,r1,r2⟩:=jh h2
 cases r1;cases r2
 exact ⟨a,rfl,h1⟩
theorem vA {K:PySem.W.Frag} {J:Hq} {H:Hp} {q:Rat} {Q2:PV→Hq→Prop} {Q:VK} (r:Rep K J H) (k:Kn K J H Q2 Q) (h:Q2 (fr q) J):MG H q Q:=λa H' s e =>
 k (fr q) J (.ref a) H' ⟨a,_,rfl,gJ.of e,⟨_,_,rfl,rfl,_,_,rfl,rfl,rfl⟩⟩ (r.same s) (.same s) h
def vV:cS:=λxs J Q _=>∃(c:Int) (ss:List Int),xs=[.int c,.fl (ss.map .int)]∧(∀s∈ss,0 < s∧Bd 9000 s)∧ss.length≤1000∧∀ds,Dig ds ss→Q (.fl (ds.map .int)) J
theorem wL (C:rH P w K mg base 1 "_law_digits" cn (ra K)):bC P w K mg base 1 "_law_digits" cn vV:=C.lift λxs J vs H Q2 E2 Q E rs r ⟨c,ss,ex,h0,h1,q⟩ kn=>by
 subst ex
 obtain ⟨v,u,rfl,r1,⟨a,ws,rfl,h2,h3⟩⟩:=jh rs
 cases r1;cases zT h3
 refine ⟨c,a,ss,rfl,h2.sq,h0,h1,λp H' ds hp s e D=>kn (.fl (ds.map .int)) J (.ref p) H' ⟨p,_,rfl,.inl ⟨r.free hp,.inl e⟩,ou ds⟩ (r.same s) (.same s) (q ds D)⟩
def oJ:cS:=λxs J Q _=>∃t b:Int,xs=[.int t,.int b]∧0 < b∧Bd 9000 b∧Q (fr (Rat.divInt t b)) J
theorem DQ (C:rH P w K mg base 1 "_law_low" eA Ju):bC P w K mg base 1 "_law_low" eA oJ:=C.lift λxs J vs H Q2 E2 Q E rs r ⟨t,b,ex,h0,h1,q⟩ kn=>by
 subst ex
 obtain ⟨v,u,rfl,r1,r2⟩:=jh rs
 cases r1;cases r2
 exact ⟨t,b,rfl,h0,h1,vA r kn q⟩
def cY:cS:=λxs J Q _=>∃p q:Rat,xs=[fr p,fr q]∧Sz 9000 p∧Sz 9000 q∧Q (.bl (decide (p < q))) J
theorem BH (C:rH P w K mg base 1 "less" fA (Fb K)):bC P w K mg base 1 "less" fA cY:=C.lift λxs J vs H Q2 E2 Q E rs r ⟨p,q,ex,h0,h1,z⟩ kn=>by
 subst ex
 obtain ⟨v,u,rfl,r1,r2⟩:=jh rs
 obtain ⟨a,rfl,f1⟩:=qj r1
 obtain ⟨b,rfl,f2⟩:=qj r2
 exact ⟨a,b,p,q,rfl,f1,f2,h0,h1,kn (.bl _) J _ H rfl r .refl z⟩
def ze (g:Rat→Rat→Rat):cS:=λxs J Q _=>∃p q:Rat,xs=[fr p,fr q]∧Sz 4000 p∧Sz 4000 q∧Q (fr (g p q)) J
theorem IM {x:Str} {ps:List Str} {k:Nat} {g:Rat→Rat→Rat} (C:rH P w K mg base k x ps (OD K g)):bC P w K mg base k x ps (ze g):=C.lift λxs J vs H Q2 E2 Q E rs r ⟨p,q,ex,h0,h1,z⟩ kn=>by
 subst ex
 obtain ⟨v,u,rfl,r1,r2⟩:=jh rs
 obtain ⟨a,rfl,f1⟩:=qj r1
 obtain ⟨b,rfl,f2⟩:=qj r2
 exact ⟨a,b,p,q,rfl,f1,f2,h0,h1,vA r kn z⟩
theorem BI (C:rH P w K mg base 3 "plus" pL (OD K λp q=>p + q)):bC P w K mg base 3 "plus" pL (ze λp q=>p + q):=IM C
theorem yv (C:rH P w K mg base 3 "minus" j2 (OD K λp q=>p - q)):bC P w K mg base 3 "minus" j2 (ze λp q=>p - q):=IM C
def rp:cS:=λxs J Q _=>∃(p:Rat) (m:Int),xs=[fr p,.int m]∧Sz 9000 p∧Bd 9000 m∧Q (fr (p * m)) J
theorem yx (C:rH P w K mg base 3 "times" m6 (AJ K)):bC P w K mg base 3 "times" m6 rp:=C.lift λxs J vs H Q2 E2 Q E rs r ⟨p,m,ex,h0,h1,z⟩ kn=>by
 subst ex
 obtain ⟨v,u,rfl,r1,r2⟩:=jh rs
 obtain ⟨a,rfl,f1⟩:=qj r1
 cases r2
 exact ⟨a,p,m,rfl,f1,h0,h1,vA r kn z⟩
def aK.V (l:aK):PV:=.tup [fr l.m,fr l.p,.int l.v]
theorem rE (m p:Rat) (v:Int):PV.tup [fr m,fr p,.int v]=(aK.mk m p v).V:=rfl
theorem mE (J:Hq) (l:aK):e9 J l.V (.int 0)=some (fr l.m):=dj _ _
theorem M' (J:Hq) (l:aK):e9 J l.V (.int 1)=some (fr l.p):=eZ _ _ _
theorem kX (J:Hq) (l:aK):e9 J l.V (.int 2)=some (.int l.v):=ji _ _ _ _
theorem Pz (a b:aK):eqQ a.V b.V=decide (a=b):=by
 unfold aK.V
 rw [yj,gd,gd,gd,uC,Dh,Dh,eq_int,TN,← Ud,← Ud]
 apply decide_eq_decide.mpr
 cases a;cases b
 simp [aK.mk.injEq]
theorem MJ (a b:aK):(a.V=b.V)=(a=b):=by
 apply propext
 constructor
 ·intro e
  have:=Pz a b
  rw [e,eq_self] at this
  exact of_decide_eq_true this.symm
 ·intro e;rw [e]
def oZ:cS:=λxs J Q _=>∃(l:aK) (t:Rat),xs=[l.V,fr t]∧Sz 900 l.m∧Sz 900 l.p∧Sz 900 t∧Bd 64 l.v∧Q (fr (l.at t)) J
abbrev l4:Stmt:=(top 27)
abbrev gS:List Str:=["leg","moment"]
theorem gU:L2.aw ["leg","moment","begun","place","pace"] ["leg","moment"] (L2.ai l4):=eJ
theorem u_ {f:Addr} {fd:FuncData} (F:cE K "place_on" "place_on" l4 f fd) (Z:cb mg) (xW:bC P w K mg base 3 "plus" pL (ze λp q=>p + q)) (mh:bC P w K mg base 3 "minus" j2 (ze λp q=>p - q)) (ui:bC P w K mg base 3 "times" m6 rp) :
  aQ P w K mg base (dn P w) 4 f fd gS (d4 K oZ):=by
 simp_arith [gU,(aj (vC (rv 0) (vB (n:=3) rfl (dA (bJ (i:=2) gU.nd) (dA (bJ (i:=3) gU.nd) (dA (bJ (i:=4) gU.nd) pN)))))
   (au (aE (aU xW B hr (af (rv 3) (af (aU ui B hr (af (aU mh B hr (af (rv 1) (af (rv 2) ah))) (af (rv 4) ah))) ah))))))]
 ·obtain ⟨l,t,rfl,_⟩:=h;rfl
 obtain ⟨l,t,rfl,sb,sp,sm,bv,q⟩:=h
 have s1:Sz 1801 (t - l.m):=sm.sub sb
 have s2:Sz 1900 ((t - l.m) * (l.v:Rat)):=s1.mul bv
 refine hX ?_
 simp_arith! [bQ,aK.V,ze,rp]
 exact ⟨sm.mono (by decide),sb.mono (by decide),s1.mono (by decide),bv.mono (by decide),sp.mono (by decide),s2.mono (by decide),q⟩
theorem Ku (n:Int):PV.tup [.int n,.int 1]=fr (n:Rat):=rfl
theorem kB (p q:Rat):p.num * (q.den:Int)=q.num * (p.den:Int)↔p=q:=by
 have a:=cast_eq p
 have b:=cast_eq q
 have c:=f' p
 have d:=f' q
 constructor
 ·intro h
  have h':((p.num * (q.den:Int):Int):Rat)=((q.num * (p.den:Int):Int):Rat):=by rw [h]
  rw [Rat.intCast_mul,Rat.intCast_mul,a,b] at h'
  grind
 ·intro h;rw [h]
def gv:Option Rat→PV
 | none=>.non
 | some q=>fr q
structure F3 (cL:Addr) (J:Hq) (p r:Addr) (rows:List aK) (g:Option Rat):Prop where
 o:J p=some (.ins cL [("rows",.ref r),("gone",gv g)])
 l:J r=some (.lst (rows.map aK.V))
theorem F3.ne {cL:Addr} {J:Hq} {p r:Addr} {rows:List aK} {g:Option Rat} (h:F3 cL J p r rows g):r≠p:=by
 intro e;subst e;have:=h.o;rw [h.l] at this;cases this
structure kP (n:Nat) (l:aK):Prop where
 m:Sz n l.m
 p:Sz n l.p
 v:Bd 64 l.v
theorem kP.mono {n k:Nat} {l:aK} (h:kP n l) (e:n≤k):kP k l:=⟨h.m.mono e,h.p.mono e,h.v⟩
theorem IQ (a b:PV):([("rows",a),("gone",b)]:List (Str × PV)).lookup ("rows":Str)=some a:=rfl
theorem R5 (a b:PV):([("rows",a),("gone",b)]:List (Str × PV)).lookup ("gone":Str)=some b:=rfl
theorem GJ {m:Str} (a b:PV) (h:(m == ("rows":Str))=false) (k:(m == ("gone":Str))=false):([("rows",a),("gone",b)]:List (Str × PV)).lookup m=none:=by rw [S1,h];simp only;rw [S1,k];rfl
theorem Nt (a b:PV):([("rows",a),("gone",b)]:List (Str × PV)).lookup ("turn":Str)=none:=GJ a b (by decide +kernel) (by decide +kernel)
theorem P5 (a b:PV):([("rows",a),("gone",b)]:List (Str × PV)).lookup ("leave":Str)=none:=GJ a b (by decide +kernel) (by decide +kernel)
theorem Nu (a b:PV):([("rows",a),("gone",b)]:List (Str × PV)).lookup ("there":Str)=none:=GJ a b (by decide +kernel) (by decide +kernel)
theorem Nv (a b:PV):([("rows",a),("gone",b)]:List (Str × PV)).lookup ("leg_at":Str)=none:=GJ a b (by decide +kernel) (by decide +kernel)
theorem IV:(("rows":Str)=("gone":Str))=False:=eq_false (by decide +kernel)
theorem gi {J:Hq} {l:Addr} {o:HQ} (h:J l=none):nH J (put J l o):=λa=>by
 by_cases e:a=l
 ·subst e;exact .inr h
 ·rw [ak e];exact .inl rfl
theorem Hn (x z:PV):oq ("gone":Str) z (oq ("rows":Str) x [])=([("rows",x),("gone",z)]:List (Str × PV)):=by simp only [oq,IV,if_false]
abbrev gA:Stmt:=(L2.inClass (top 31) 0)
abbrev jk:List Str:=["self","moment","place","pace"]
theorem pz:L2.aw ["self","moment","place","pace"] ["self","moment","place","pace"] (L2.ai gA):=eJ
def Az (cL:Addr):cS:=λxs J Q _=>∃(p:Addr) (l:aK),xs=[.ref p,fr l.m,fr l.p,.int l.v]∧J p=some (.ins cL [])∧∀r,J r=none→Q .non (put (put J r (.lst [l.V])) p (.ins cL [("rows",.ref r),("gone",.non)]))
theorem wV {cL f:Addr} {fd:FuncData} (F:cE K "__init__" "Log.__init__" gA f fd) (bP:fe K mg "Log" cL) (bj:aI K cL "rows") (b_:aI K cL "gone"):aQ P w K mg base (dn P w) 1 f fd jk (d4 K (Az cL)):=by
 simp_arith [pz,(aj (g7 bP.cl bj (rv 0) (ot (af (cq (af (rv 1) (af (rv 2) (af (rv 3) ah)))) ah)))
   (au (g7 bP.cl b_ (rv 0) gy)))]
 ·obtain ⟨p,l,rfl,_⟩:=h;rfl
 obtain ⟨p,l,rfl,hp,q⟩:=h
 refine hX ?_
 simp_arith! [bQ,rE]
 intro r hr'
 have ne:p≠r:=by intro e;subst e;rw [hp] at hr';cases hr'
 refine lU (by rw [ak ne];exact hp) ⟨by decide,lU aq ⟨by show (1:Nat) < 1000;decide,?_⟩⟩
 rw [bW,Hn]
 exact q r hr'
abbrev lX:Stmt:=(L2.inClass (top 31) 1)
abbrev jV:List Str:=["self","moment","pace"]
theorem oY:L2.aw ["self","moment","pace","place"] ["self","moment","pace"] (L2.ai lX):=eJ
def vW (cL:Addr):cS:=λxs J Q _=>∃p r rows g t v,xs=[.ref p,fr t,.int v]∧F3 cL J p r rows g∧rows≠[]∧rows.length≤900∧Sz 900 t∧(∀l∈rows,kP 900 l)∧Q .non (put J r (.lst ((turned rows t v).map aK.V)))
theorem wW {cL f:Addr} {fd:FuncData} (F:cE K "turn" "Log.turn" lX f fd) (Z:cb mg) (bP:fe K mg "Log" cL) (bj:aI K cL "rows") (dZ:bC P w K mg base 4 "place_on" gS oZ):aQ P w K mg base (dn P w) 5 f fd jV (d4 K (vW cL)):=by
 simp_arith [oY,(aj (aM (i:=3) oY.nd (aU dZ B hr (af (ar av (ba bP.cl bj (rv 0)) (lB h_ ag)) (af (rv 1) ah))))
   (cH (aY (aB (cG hr.aV) (ar av (ar av (ba bP.cl bj (rv 0)) (lB h_ ag)) ag) (rv 1)) (au (bq (ER PySem.F.plainAttrs_list PySem.F.slot_list_pop PySem.F.type_list_pop DX (ba bP.cl bj (rv 0))))) aL)
   (aj (aY (fb (fP (LH (ba bP.cl bj (rv 0))) (eV (aB (cG hr.aV) (ar av (ar av (ba bP.cl bj (rv 0)) (lB h_ ag)) ag) (rv 2))))) (au HJ) aL)
   (au (bq (jm PySem.F.plainAttrs_list PySem.F.slot_list_append PySem.F.type_list_append fm (ba bP.cl bj (rv 0)) (af (cq (af (rv 1) (af (rv 3) (af (rv 2) ah)))) ah)))))))]
 ·obtain ⟨p,r,rows,g,t,v,rfl,_⟩:=h;rfl
 obtain ⟨p,r,rows,g,t,v,rfl,b,hne,hl,st,sl,q⟩:=h
 obtain ⟨ls,l,rfl⟩:∃ls l,rows=ls ++ [l]:=⟨rows.dropLast,rows.getLast hne,(S3 hne).symm⟩
 have bo:=b.o
 have bl:=b.l
 have npr:=b.ne
 have sl':=sl l (by simp)
 have hla:di ((ls ++ [l]).map aK.V) (-1)=some l.V:=by rw [Sk];exact pD _ _
 refine hX ?_
 simp_arith! [bQ,bo,bl,IQ]
 refine jT hla ⟨l,t,rfl,sl'.m,sl'.p,st,sl'.v,?_⟩
 obtain ⟨M,hM⟩:∃M:Sr→Hq→Prop,∀τ' J',M τ' J'↔τ'=[some (.ref p),some (fr t),some (.int v),some (fr (l.at t))]∧J'=put J r (.lst ((if l.m=t then ls else ls ++ [l]).map aK.V)):=⟨_,λ_ _=>Iff.rfl⟩
 refine ⟨M,?_,?_⟩
 ·simp_arith! [bQ,bo,bl,IQ,hla,mE]
  split
  ·rename_i e
   refine ⟨l.V,by simp,(hM _ _).mpr ⟨rfl,?_⟩⟩
   rw [if_pos e,Sk,Sm,Ta,Tx]
  ·rename_i e
   exact (hM _ _).mpr ⟨rfl,by rw [if_neg e,yZ bl]⟩
 ·intro τ' J' hm
  obtain ⟨rfl,rfl⟩:=(hM _ _).mp hm
  clear hm hM M
  have et:turned (ls ++ [l]) t v=if (if l.m=t then ls else ls ++ [l]).getLast?.map aK.v=some v then (if l.m=t then ls else ls ++ [l]) else (if l.m=t then ls else ls ++ [l]) ++ [⟨t,l.at t,v⟩]:=by
   unfold turned
   simp only [SO,Tx]
  have hrl:(if l.m=t then ls else ls ++ [l]).length≤900:=by
   split
   ·rw [SF] at hl;omega
   ·exact hl
  rw [et] at q
  generalize (if l.m=t then ls else ls ++ [l])=rest at q hrl ⊢
  simp_arith! [bQ,ak (Ne.symm npr),bo,IQ,bW,rE]
  rcases UC rest with rfl | ⟨ks,k,rfl⟩
  ·simp only [List.getLast?_nil,Option.map_none,reduceCtorEq,if_false,List.nil_append] at q
   simpa [IP,sizeLine] using q
  ·rw [UD] at *
   rw [SO,Ub] at q
   have hk:di ((ks ++ [k]).map aK.V) (-1)=some k.V:=by rw [Sk];exact pD _ _
   rw [if_pos (by simp)]
   simp_arith! [bQ,ak (Ne.symm npr),bo,IQ,hk,kX,Sg]
   by_cases e:k.v=v
   ·rw [if_pos e];rw [if_pos (congrArg some e)] at q;exact q
   ·rw [if_neg e];rw [if_neg (λz=>e (Option.some.inj z))] at q
    simp_arith! [bQ,ak (Ne.symm npr),bo,IQ,bW,rE,Sg]
    refine ⟨aZ (by omega),?_⟩
    rw [Sk] at q
    exact q
theorem RZ {rows:List aK} {i:Nat} {b:aK} (h:rows[i]?=some b):di (rows.map aK.V) (i:Int)=some b.V:=bB (by rw [Sl,h];rfl)
abbrev oz:Stmt:=(top 21)
abbrev qL:List Str:=["rows","moment"]
theorem l6:L2.aw ["rows","moment","at"] ["rows","moment"] (L2.ai oz):=eJ
def xF:cS:=λxs J Q _=>∃(x:PV) (t:Rat) (ys:List PV) (ms:List Rat),xs=[x,fr t]∧rL J x=some ys∧ys.length=ms.length∧ms.length≤900∧(∀(i:Nat) y m,ys[i]?=some y→ms[i]?=some m→e9 J y (.int 0)=some (fr m))∧Sz 9000 t∧(∀m∈ms,Sz 9000 m)∧Q (.int ((lb ms t ms.length:Int) - 1)) J
theorem wY {f:Addr} {fd:FuncData} (F:cE K "last_by" "last_by" oz f fd) (Z:cb mg) (de:bC P w K mg base 1 "less" fA cY):aQ P w K mg base (dn P w) 2 f fd qL (d4 K xF):=by
 simp_arith [l6,(aj (aM (i:=2) l6.nd (aO fM (bx cW rfl Z.len boot_len (af (rv 0) ah)) ag))
   (aj (m9 bZ (fb (fP (aB Ed (rv 2) ag) (eV (dh (aU de B hr (af (rv 1) (af (ar av (ar av (rv 0) (rv 2)) ag) ah))))))) (au (EV (i:=2) l6.nd ag DC)))
   (au (aE (rv 2)))))]
 ·obtain ⟨x,t,ys,ms,rfl,_⟩:=h;rfl
 obtain ⟨x,t,ys,ms,rfl,hx,hlen,hl,h0,st,sm,q⟩:=h
 refine hX ?_
 simp_arith! [bQ,KU hx,hlen]
 refine ⟨λk τ J'=>∃j:Nat,τ=[some x,some (fr t),some (.int ((j:Int) - 1))]∧J'=J∧j≤ms.length∧k=j∧lb ms t ms.length=lb ms t j,⟨_,ms.length,rfl,rfl,So _,rfl,rfl⟩,?_⟩
 rintro k τ J' ⟨j,rfl,rfl,hj,rfl,hb⟩
 simp_arith! [bQ,Nw hx,cY]
 cases k with
 | zero =>
  rw [if_neg (by omega)]
  rw [hb] at q
  exact q
 | succ k =>
  rw [if_pos (by omega)]
  obtain ⟨y,hy⟩:∃y,ys[k]?=some y:=⟨_,Si (by omega)⟩
  obtain ⟨m,hm⟩:∃m,ms[k]?=some m:=⟨_,Si (by omega)⟩
  have ha:di ys (((k + 1:Nat):Int) - 1)=some y:=by
   have:((k + 1:Nat):Int) - 1=(k:Int):=by omega
   rw [this];exact bB hy
  have em:ms.getD k 0=m:=by simp [Vk,hm]
  have hu:lb ms t (k + 1)=if m≤t then k + 1 else lb ms t k:=by
   show (if ms.getD k 0≤t then k + 1 else lb ms t k)=_
   rw [em]
  refine jT ha (jT (h0 k y m hy hm) ?_)
  simp_arith! [bQ]
  refine ⟨st,sm m (Sv hm),?_⟩
  by_cases c:t < m
  ·rw [if_pos c]
   have hn:¬ m≤t:=Rat.not_le.mpr c
   rw [if_neg hn] at hu
   refine ⟨λτ J''=>τ=[some x,some (fr t),some (.int ((k:Int) - 1))]∧J''=J',λτ' J'' ⟨e1,e2⟩=>⟨k,TU _,k,e1,e2,by omega,rfl,by rw [hb,hu]⟩,?_⟩
   simp_arith! [bQ]
   have:((k + 1:Nat):Int) - 1 - 1=(k:Int) - 1:=by omega
   exact this
  ·rw [if_neg c]
   rw [if_pos (Rat.not_lt.mp c)] at hu
   rw [hb,hu] at q
   exact q
abbrev ka:Stmt:=(L2.inClass (top 31) 5)
abbrev iX:List Str:=["self","moment"]
theorem ni:L2.aw ["self","moment","joined"] ["self","moment"] (L2.ai ka):=eJ
def rh (cL:Addr):cS:=λxs J Q _=>∃p r rows g t,xs=[.ref p,fr t]∧F3 cL J p r rows g∧rows≠[]∧Sz 900 t∧(∀l∈rows,kP 900 l)∧(∀q,g=some q→Sz 900 q)∧Q (.bl (there rows g t)) J
theorem uX {cL f:Addr} {fd:FuncData} (F:cE K "there" "Log.there" ka f fd) (Z:cb mg) (bP:fe K mg "Log" cL) (bj:aI K cL "rows") (b_:aI K cL "gone") (de:bC P w K mg base 1 "less" fA cY):aQ P w K mg base (dn P w) 2 f fd iX (d4 K (rh cL)):=by
 simp_arith [ni,(aj (aM (i:=2) ni.nd (ar av (ar av (ba bP.cl bj (rv 0)) ag) ag))
   (aj (aY (dh (aU de B hr (af (rv 1) (af (rv 2) ah)))) (au (aE qO)) aL)
   (au (aE (Oz (fN NQ (ba bP.cl b_ (rv 0)) gy) (ET (aU de B hr (af (rv 1) (af (ba bP.cl b_ (rv 0)) ah)))))))))]
 ·obtain ⟨p,r,rows,g,t,rfl,_⟩:=h;rfl
 obtain ⟨p,r,rows,g,t,rfl,b,hne,st,sl,sg,q⟩:=h
 have bo:=b.o
 have bl:=b.l
 obtain ⟨l,ls,rfl⟩:∃l ls,rows=l :: ls:=Tb hne
 have sl':=(sl l (by simp)).m
 refine hX ?_
 simp_arith! [bQ,bo,bl,IQ,R5,mE,cY]
 refine ⟨st.mono (by decide),sl'.mono (by decide),?_⟩
 unfold there at q
 simp only [Ue] at q
 by_cases c:t < l.m
 ·rw [if_pos c]
  rw [decide_eq_true c] at q
  exact q
 ·rw [if_neg c]
  rw [decide_eq_false c] at q
  cases g with
  | none=>simpa [gv,M7,JC,Iv] using q
  | some u =>
   simp only [gv,qp,SE,if_false]
   simp only [Iv] at q
   refine ⟨u,rfl,st.mono (by decide),(sg u rfl).mono (by decide),?_⟩
   simpa using q
abbrev je:Stmt:=(L2.inClass (top 31) 6)
abbrev g6:List Str:=["self","moment"]
theorem sY:L2.aw ["self","moment"] ["self","moment"] (L2.ai je):=eJ
def rb (cL eN:Addr):cS:=λxs J Q E=>∃p r rows g t,xs=[.ref p,fr t]∧F3 cL J p r rows g∧rows≠[]∧rows.length≤900∧Sz 900 t∧(∀l∈rows,kP 900 l)∧(∀q,g=some q→Sz 900 q)∧(there rows g t=true→∀l,er rows t=some l→Q l.V J)∧(there rows g t=false→E eN J)
theorem sS {cL eN f:Addr} {fd:FuncData} (F:cE K "leg_at" "Log.leg_at" je f fd) (Z:cb mg) (bP:fe K mg "Log" cL) (bj:aI K cL "rows") (fg:Own K mg "NotThere" eN) (eu:dq P w K mg base cL 2 "there" iX (rh cL))
  (A4:bC P w K mg base 2 "last_by" qL xF):aQ P w K mg base (dn P w) 3 f fd g6 (d4 K (rb cL eN)):=by
 simp_arith [sY,(aj (aY (j6 (dh (bI (pl:=_) eu B hr (rv 0) (af (rv 1) ah)))) (au (dS fg rfl cK B.kn rfl (af bK ah))) aL)
   (au (aE (ar av (ba bP.cl bj (rv 0)) (aU A4 B hr (af (ba bP.cl bj (rv 0)) (af (rv 1) ah)))))))]
 ·obtain ⟨p,r,rows,g,t,rfl,_⟩:=h;rfl
 obtain ⟨p,r,rows,g,t,rfl,b,hne,hl,st,sl,sg,q,qe⟩:=h
 have bo:=b.o
 have bl:=b.l
 refine hX ?_
 simp_arith! [bQ,bo,bl,IQ]
 refine ⟨Nu _ _,p,r,rows,g,t,rfl,b,hne,st,sl,sg,?_⟩
 simp_arith! [bQ,ft,bo,bl,IQ]
 cases hc:there rows g t with
 | false=>rw [if_pos rfl];exact qe hc
 | true =>
  rw [if_neg (by decide)]
  obtain ⟨l,h1,h2,h3,h4,h5⟩:=rD hc
  refine ⟨_,t,rows.map aK.V,rows.map aK.m,rfl,by simp_arith! [bQ,bl],by simp,by simpa using hl,?_,st.mono (by decide),?_,?_⟩
  ·intro i y m hy hm
   rw [Sl] at hy hm
   cases e:rows[i]? with
   | none=>rw [e] at hy;cases hy
   | some z=>rw [e] at hy hm;cases hy;cases hm;exact mE _ _
  ·intro m hm
   obtain ⟨z,hz,rfl⟩:=Sh.mp hm
   exact (sl z hz).m.mono (by decide)
  ·rw [Sg]
   simp_arith! [bQ,bl]
   refine jT (x:=l.V) ?_ (q hc l h1)
   have:((lb (rows.map aK.m) t rows.length:Nat):Int) - 1=((lb (rows.map aK.m) t rows.length - 1:Nat):Int):=by omega
   rw [this]
   exact RZ h5
abbrev j_:Stmt:=(L2.inClass (top 31) 2)
abbrev mT:List Str:=["self","moment"]
theorem vN:L2.aw ["self","moment"] ["self","moment"] (L2.ai j_):=eJ
def xE (cL:Addr):cS:=λxs J Q _=>∃p r rows g t,xs=[.ref p,fr t]∧F3 cL J p r rows g∧Q .non (put J p (.ins cL [("rows",.ref r),("gone",fr t)]))
theorem uW {cL f:Addr} {fd:FuncData} (F:cE K "leave" "Log.leave" j_ f fd) (Z:cb mg) (bP:fe K mg "Log" cL) (b_:aI K cL "gone"):aQ P w K mg base (dn P w) 1 f fd mT (d4 K (xE cL)):=by
 simp_arith [vN,(au (g7 bP.cl b_ (rv 0) (rv 1)))]
 ·obtain ⟨p,r,rows,g,t,rfl,_⟩:=h;rfl
 obtain ⟨p,r,rows,g,t,rfl,b,q⟩:=h
 have bo:=b.o
 refine hX ?_
 simp_arith! [bQ,bo,IV]
 exact ⟨by decide,q⟩
theorem jG {l:aK} {t:Rat} (h:kP 900 l) (sm:Sz 900 t):Sz 3000 (l.at t):=by
 have s1:Sz 1801 (t - l.m):=sm.sub h.m
 have s2:Sz 1900 ((t - l.m) * (l.v:Rat)):=s1.mul h.v
 exact h.p.add s2
abbrev g_:Stmt:=(top 29)
abbrev j1:List Str:=["name","leg","other_name","other_leg","moment"]
theorem gC:L2.aw ["name","leg","other_name","other_leg","moment","place","other_place"] ["name","leg","other_name","other_leg","moment"] (L2.ai g_):=eJ
def Fc:cS:=λxs J Q _=>∃(n n':Str) (l l':aK) (t:Rat),xs=[.str n,l.V,.str n',l'.V,fr t]∧kP 900 l∧kP 900 l'∧Sz 900 t∧Q (.bl ((key t (n,l)).lt (key t (n',l')))) J
theorem pq {f:Addr} {fd:FuncData} (F:cE K "lies_behind" "lies_behind" g_ f fd) (Z:cb mg) (dZ:bC P w K mg base 4 "place_on" gS oZ) (de:bC P w K mg base 1 "less" fA cY):aQ P w K mg base (dn P w) 5 f fd j1 (d4 K Fc):=by
 simp_arith [gC,(aj (aM (i:=5) gC.nd (aU dZ B hr (af (rv 1) (af (rv 4) ah))))
   (aj (aM (i:=6) gC.nd (aU dZ B hr (af (rv 3) (af (rv 4) ah))))
   (aj (aY (aB (mL hr.aV) (rv 5) (rv 6)) (au (aE (aU de B hr (af (rv 5) (af (rv 6) ah))))) aL)
   (aj (aY (aB (mL hr.aV) (ar av (rv 1) ag) (ar av (rv 3) ag)) (au (aE (fN fS (ar av (rv 1) ag) (ar av (rv 3) ag)))) aL)
   (au (aE (fN yO (rv 0) (rv 2))))))))]
 ·obtain ⟨n,n',l,l',t,rfl,_⟩:=h;rfl
 obtain ⟨n,n',l,l',t,rfl,sl,sl',st,q⟩:=h
 refine hX ?_
 simp_all! []
 refine ⟨l,t,rfl,sl.m,sl.p,st,sl.v,?_⟩
 simp_all! []
 refine ⟨l',t,rfl,sl'.m,sl'.p,st,sl'.v,?_⟩
 have a1:=jG sl st
 have a2:=jG sl' st
 simp_all! []
 unfold Ky.lt key at q
 dsimp only at q
 by_cases e:l.at t=l'.at t
 ·rw [if_pos e] at q
  rw [if_pos e]
  simp_all! [kX]
  by_cases e2:l.v=l'.v
  ·rw [if_pos e2] at q
   rw [if_pos e2]
   simp_all! []
   exact q
  ·rw [if_neg e2] at q
   rw [if_neg e2]
   simp_all! [kX]
   exact q
 ·rw [if_neg e] at q
  rw [if_neg e]
  simp_all! [cY]
  exact ⟨a1.mono (by decide),a2.mono (by decide),q⟩
abbrev lZ:Stmt:=(top 43)
abbrev j0:List Str:=["legs","moment"]
theorem fH:L2.aw ["legs","moment","names","name","at"] ["legs","moment"] (L2.ai lZ):=eJ
def bN (fs:List (Str × aK)):List (Str × PV):=fs.map λx=>(x.1,x.2.V)
def oI:cS:=λxs J Q _=>∃(D:Addr) (fs:List (Str × aK)) (ep:Nat) (t:Rat),xs=[.ref D,fr t]∧J D=some (.dct (bN fs) ep)∧(fs.map (·.1)).Nodup∧fs.length≤100∧Sz 900 t∧(∀x∈fs,kP 900 x.2)∧∀p,J p=none→Q (.ref p) (put J p (.lst ((cT t fs).map .str)))
theorem uZ {f:Addr} {fd:FuncData} (F:cE K "in_order" "in_order" lZ f fd) (Z:cb mg) (rR:bC P w K mg base 5 "lies_behind" j1 Fc):aQ P w K mg base (dn P w) 6 f fd j0 (d4 K oI):=by
 simp_arith [fH,(aj (aM (i:=2) fH.nd (ot ah))
   (aj (d8 bZ rfl (i5 (rv 0)) (bJ (i:=3) fH.nd) (aj (aM (i:=4) fH.nd (bx cW rfl Z.len boot_len (af (rv 2) ah)))
   (aj (m9 bZ (fb (fP (aB oV (rv 4) ag) (eV (dh (aU rR B hr (af (rv 3) (af (ar cM (rv 0) (rv 3)) (af (ar av (rv 2) (aO fM (rv 4) ag)) (af (ar cM (rv 0) (ar av (rv 2) (aO fM (rv 4) ag))) (af (rv 1) ah)))))))))) (au (EV (i:=4) fH.nd ag DC)))
   (au (bq (jm PySem.F.plainAttrs_list PySem.F.slot_list_insert PySem.F.type_list_insert n6 (rv 2) (af (rv 4) (af (rv 3) ah))))))))
   (au (aE (rv 2)))))]
 ·obtain ⟨D,fs,ep,t,rfl,_⟩:=h;rfl
 obtain ⟨D,fs,ep,t,rfl,hD,hnd,hlen,st,sl,q⟩:=h
 refine hX ?_
 simp_all! []
 intro r hr'
 have nDr:D≠r:=by intro e;subst e;rw [hD] at hr';cases hr'
 simp_all! [ak nDr,hD]
 have hkv:(bN fs).map (λkv=>PV.str kv.1)=fs.map λx=>PV.str x.1:=by unfold bN;rw [Ss];rfl
 rw [hkv]
 obtain ⟨Inv,hInv⟩:∃Inv:Nat→Sr→Hq→Prop,∀i τ J',Inv i τ J'↔∃(u3 u4:Option PV),τ=[some (.ref D),some (fr t),some (.ref r),u3,u4]∧J'=put J r (.lst ((cT t (fs.take i)).map .str)):=⟨_,λ_ _ _=>Iff.rfl⟩
 refine d6 Inv ((hInv _ _ _).mpr ⟨_,_,rfl,rfl⟩) (λi τ J' h=>?_) ?_ ?_
 ·obtain ⟨_,_,_,rfl⟩:=(hInv _ _ _).mp h
  rw [ak nDr];exact hD
 ·intro i x τ J' hx hv
  obtain ⟨u3,u4,rfl,rfl⟩:=(hInv _ _ _).mp hv
  clear hv
  have hi:i < fs.length:=by have:=(Sj.mp hx).1;simpa using this
  rw [Sl,Si hi] at hx
  cases hx
  rcases hfi:fs[i] with ⟨n,l⟩
  have hmem:(n,l)∈fs:=by rw [← hfi];exact SM hi
  have et:fs.take (i + 1)=fs.take i ++ [(n,l)]:=by rw [SS,Si hi,hfi];rfl
  have hndt:((fs.take (i + 1)).map (·.1)).Nodup:=by rw [Tv];exact hnd.sublist (Td _ _)
  rw [et,Sk,Sm,Ta] at hndt
  obtain ⟨hnd1,hnew⟩:=d7 hndt
  obtain ⟨ys,hys⟩:∃ys,dR ((fs.take i).map (key t))=ys:=⟨_,rfl⟩
  have srt:o8 Ky.lt ys:=by rw [← hys];exact eL (by rw [eh];exact hnd1)
  have hyl:ys.length=i:=by rw [← hys,mM,Sg,SK];omega
  have hym:∀y∈ys,∃l',(y.n,l')∈fs∧y=key t (y.n,l')∧y.n≠n:=λy hy=>by
   rw [← hys,bT,Sh] at hy
   obtain ⟨x',hx',rfl⟩:=hy
   exact ⟨x'.2,Tn hx',rfl,λe=>hnew (Sh.mpr ⟨x',hx',e⟩)⟩
  have eo:(cT t (fs.take i)).map PV.str=ys.map λy=>PV.str y.n:=by unfold cT;rw [hys,Ss];rfl
  have en:(cT t (fs.take (i + 1))).map PV.str=(pe Ky.lt (key t (n,l)) ys).map λy=>PV.str y.n:=by
   unfold cT;rw [et,Sk,Sm,Ta,iu,hys,Ss];rfl
  rw [eo]
  have hvn:jA (bN fs) n=some l.V:=gH (f:=aK.V) hnd hmem
  have sll:=sl _ hmem
  simp_all! [aq,Sg]
  refine ⟨λm τ' J'=>m≤ys.length∧τ'=[some (.ref D),some (fr t),some (.ref r),some (.str n),some (.int (m:Nat))]∧J'=put J r (.lst (ys.map λy=>PV.str y.n))∧∀(j:Nat) y,m≤j→ys[j]?=some y→(key t (n,l)).lt y=true,⟨ys.length,So _,rfl,rfl,λj y hj e=>by rw [S5 hj] at e;cases e⟩,?_⟩
  rintro m τ' J' ⟨hm,rfl,rfl,hall⟩
  have fin:(∀(j:Nat) y,j < m→ys[j]?=some y→y.lt (key t (n,l))=true)→Inv (i + 1) [some (.ref D),some (fr t),some (.ref r),some (.str n),some (.int (m:Nat))] (put J r (.lst ((ys.map λy=>PV.str y.n).take m ++ .str n :: (ys.map λy=>PV.str y.n).drop m))):=λhlow=>by
   refine (hInv _ _ _).mpr ⟨_,_,rfl,?_⟩
   rw [en,← zS hm hlow λj y hj e=>Ky.MK (hall j y hj e),Sk,Sm,Tv,Ua]
   rfl
  simp_all! [aq,ak nDr,hD,hvn]
  by_cases c0:0 < m
  ·rw [if_pos (by omega)]
   obtain ⟨m',rfl⟩:∃m',m=m' + 1:=⟨m - 1,by omega⟩
   obtain ⟨y,hy⟩:∃y,ys[m']?=some y:=⟨_,Si (by omega)⟩
   obtain ⟨l',hl',ey,ny⟩:=hym y (Sv hy)
   have ha:di (ys.map λy=>PV.str y.n) (((m' + 1:Nat):Int) - 1)=some (.str y.n):=by
    rw [show ((m' + 1:Nat):Int) - 1=((m':Nat):Int) by omega]
    exact bB (by rw [Sl,hy];rfl)
   have hvy:jA (bN fs) y.n=some l'.V:=gH (f:=aK.V) hnd hl'
   simp_all! [ha,aq,ak nDr,hD,hvn,hvy]
   refine ⟨n,y.n,l,l',t,rfl,sll,sl _ hl',st,?_⟩
   rw [← ey]
   cases hc:(key t (n,l)).lt y with
   | true =>
    simp_all! []
    refine ⟨_,λτ'' J'' h=>⟨m',TU _,h⟩,⟨by omega,?_,rfl,λj z hj e=>?_⟩⟩
    ·rw [show ((m' + 1:Nat):Int) - 1=((m':Nat):Int) by omega]
    ·rcases T4 hj with h | h
     ·exact hall j z (by omega) e
     ·subst h;rw [hy] at e;cases e;exact hc
   | false =>
    simp_all! [aq]
    refine ⟨_,m' + 1,rfl,rfl,by rw [Sg];omega,aZ (by rw [Sg];omega),by omega,?_⟩
    rw [bW]
    refine fin λj z hj e=>?_
    have hyx:y.lt (key t (n,l))=true:=by
     rcases Ky.OK (a:=y) (b:=key t (n,l)) ny with h | h
     ·exact h
     ·rw [hc] at h;cases h
    exact xP (lt:=Ky.lt) Ky.tr srt hy e (by omega) hyx
  ·rw [if_neg (by omega)]
   simp_all! [aq]
   refine ⟨_,m,rfl,rfl,by rw [Sg];omega,aZ (by rw [Sg];omega),by omega,?_⟩
   rw [bW]
   exact fin λj z hj e=>by omega
 ·intro τ J' hv
  obtain ⟨u3,u4,rfl,rfl⟩:=(hInv _ _ _).mp hv
  rw [Sg,SV]
  simp_all! []
  exact q r hr'
def nL (K:PySem.W.Frag) (mg:Str→Option Value):Prop:=∃a:Addr,mg "NOUGHT"=some (.ref a)∧∀H:Hp,gJ K H a [.int 0,.int 1]
theorem BQ {K:PySem.W.Frag} {h:Heap} {mg:Str→Option Value} (X:K.In h) (G:h.Ns mainGlobals mg) {a:Addr} {od:Option Addr} {n:Nat} {sl:Array (Option Value)} {t u:Tok}
  (e:PySem.W.nsIn K mainGlobals "NOUGHT"=some (some (.ref a))) (l:K.lookup a=some ⟨.type "tuple",od,.seq #[.int 0 t,.int 1 u] n,sl⟩):nL K mg :=
 ⟨a,PySem.W.mg_of X G e,λ_=>.inr ⟨_,_,_,l,rfl,rfl,(by show 2≤sizeLine;decide),.cons ⟨t,rfl⟩ (.cons ⟨u,rfl⟩ .nil)⟩⟩
structure Cf where
 n:Str
 a:Addr
 r:Addr
 w:List aK
 g:Option Rat
structure Ln where
 t:Rat
 d:Addr
 e:Nat
 o:Addr
 cs:List Cf
 row:List Str
def Cf.cur (c:Cf):aK:=c.w.getLast?.getD ⟨0,0,0⟩
def Ln.Ca (L:Ln):List Cf:=L.cs.filter λc=>c.g.isNone
def Ln.fs (L:Ln):List (Str × aK):=L.Ca.map λc=>(c.n,c.cur)
structure bt (cN cL:Addr) (J:Hq) (p:Addr) (L:Ln):Prop where
 ob:J p=some (.ins cN [("now",fr L.t),("logs",.ref L.d),("row",.ref L.o)])
 dc:J L.d=some (.dct (L.cs.map λc=>(c.n,PV.ref c.a)) L.e)
 rw:J L.o=some (.lst (L.row.map .str))
 lg:∀c∈L.cs,F3 cL J c.a c.r c.w c.g
 ap:(L.cs.map Cf.r).Nodup
 ao:∀c∈L.cs,c.r≠L.o
structure bc (L:Ln):Prop where
 nd:(L.cs.map Cf.n).Nodup
 ne:∀c∈L.cs,c.w≠[]
 le:∀c∈L.cs,∀l∈c.w,l.m≤L.t
 ck:∀c∈L.cs,∀l∈c.w,rO l
 len:∀c∈L.cs,c.w.length≤200
 gz:∀c∈L.cs,∀q,c.g=some q→Sc gX MM q∧q≤L.t
 t0:0≤L.t
 ts:Sc gX MM L.t
 many:L.cs.length≤100
 rm:∀n,n∈L.row↔n∈L.fs.map (·.1)
 rn:L.row.Nodup
 rl:L.row.length≤12
structure cI (L:Ln):Prop extends bc L where
 row:L.row=cT L.t L.fs
def Ln.own (L:Ln) (p a:Addr):Prop:=a=p∨a=L.d∨a=L.o∨∃c∈L.cs,a=c.a∨a=c.r
structure Mv (J J':Hq) (S S':Addr→Prop):Prop where
 keep:∀a o,J a=some o→¬ S a→J' a=some o
 own:∀a,S' a→S a∨J a=none
 mono:∀a,J' a=none→J a=none
theorem Mv.refl (J:Hq) (S:Addr→Prop):Mv J J S S:=⟨λ_ _ h _=>h,λ_ h=>.inl h,λ_ h=>h⟩
theorem Mv.trans {J J' J'':Hq} {S S' S'':Addr→Prop} (h:Mv J J' S S') (k:Mv J' J'' S' S''):Mv J J'' S S'':=by
 refine ⟨λa o e n=>k.keep a o (h.keep a o e n) λz=>?_,λa z=>?_,λa z=>h.mono a (k.mono a z)⟩
 ·rcases h.own a z with q | q
  ·exact n q
  ·rw [q] at e;cases e
 ·rcases k.own a z with q | q
  ·exact h.own a q
  ·exact .inr (h.mono a q)
theorem Mv.new {J:Hq} {S:Addr→Prop} {x:Addr} {o:HQ} (h:J x=none):Mv J (put J x o) S S:=by
 refine ⟨λa u e _=>?_,λ_ z=>.inl z,λa z=>?_⟩
 ·rw [ak (λq=>by subst q;rw [h] at e;cases e)];exact e
 ·by_cases q:a=x
  ·subst q;rw [aq] at z;cases z
  ·rw [ak q] at z;exact z
theorem Mv.yG {J:Hq} {S:Addr→Prop} {x:Addr} {o:HQ} (h:J x=none):Mv J (put J x o) S (λa=>S a∨a=x) :=
 ⟨(Mv.new (S:=S) h).keep,λa z=>z.elim .inl λe=>.inr (by rw [e];exact h),(Mv.new (S:=S) h).mono⟩
theorem bt.keep {cN cL:Addr} {J J':Hq} {p:Addr} {L:Ln} (h:bt cN cL J p L) (k:∀a o,L.own p a→J a=some o→J' a=some o):bt cN cL J' p L :=
 ⟨k _ _ (.inl rfl) h.ob,k _ _ (.inr (.inl rfl)) h.dc,k _ _ (.inr (.inr (.inl rfl))) h.rw,λc hc=>⟨k _ _ (.inr (.inr (.inr ⟨c,hc,.inl rfl⟩))) (h.lg c hc).o,k _ _ (.inr (.inr (.inr ⟨c,hc,.inr rfl⟩))) (h.lg c hc).l⟩,h.ap,h.ao⟩
theorem bt.some {cN cL:Addr} {J:Hq} {p:Addr} {L:Ln} (h:bt cN cL J p L) {a:Addr} (o:L.own p a):J a≠none:=by
 rcases o with rfl | rfl | rfl | ⟨c,hc,rfl | rfl⟩
 ·rw [h.ob];exact λz=>nomatch z
 ·rw [h.dc];exact λz=>nomatch z
 ·rw [h.rw];exact λz=>nomatch z
 ·rw [(h.lg c hc).o];exact λz=>nomatch z
 ·rw [(h.lg c hc).l];exact λz=>nomatch z
theorem bt.fresh {cN cL:Addr} {J:Hq} {p x:Addr} {L:Ln} {o:HQ} (h:bt cN cL J p L) (hx:J x=none):bt cN cL (put J x o) p L :=
 h.keep λa u ow e=>by rw [ak (λq=>by subst q;rw [hx] at e;cases e)];exact e
theorem Kw {J:Hq} {a b C C':Addr} {fs gs:List (Str × PV)} (h:J a=Te (.ins C fs)) (k:J b=Te (.ins C' gs)) (n:fs.map (·.1)≠gs.map (·.1)):a≠b:=by
 intro e;subst e;rw [h] at k
 have:=HQ.ins.inj (Option.some.inj k)
 exact n (by rw [this.2])
theorem bt.GV {cN cL:Addr} {J:Hq} {p:Addr} {L:Ln} (h:bt cN cL J p L):L.d≠p:=by intro e;have:=h.ob;rw [← e,h.dc] at this;cases this
theorem bt.GX {cN cL:Addr} {J:Hq} {p:Addr} {L:Ln} (h:bt cN cL J p L):L.o≠p:=by intro e;have:=h.ob;rw [← e,h.rw] at this;cases this
theorem bt.Qb {cN cL:Addr} {J:Hq} {p:Addr} {L:Ln} (h:bt cN cL J p L):L.d≠L.o:=by intro e;have:=h.rw;rw [← e,h.dc] at this;cases this
theorem DY:([("rows":Str),("gone":Str)]:List Str)≠[("now":Str),("logs":Str),("row":Str)]:=by decide +kernel
theorem bt.O5 {cN cL:Addr} {J:Hq} {p:Addr} {L:Ln} (h:bt cN cL J p L) {c:Cf} (hc:c∈L.cs):c.a≠p:=Kw (h.lg c hc).o h.ob DY
theorem bt.Mp {cN cL:Addr} {J:Hq} {p:Addr} {L:Ln} (h:bt cN cL J p L) {c:Cf} (hc:c∈L.cs):c.r≠p:=by intro e;have:=h.ob;rw [← e,(h.lg c hc).l] at this;cases this
theorem bt.Rw {cN cL:Addr} {J:Hq} {p:Addr} {L:Ln} (h:bt cN cL J p L) {c:Cf} (hc:c∈L.cs):c.a≠L.d:=by intro e;have:=h.dc;rw [← e,(h.lg c hc).o] at this;cases this
theorem bt.Rx {cN cL:Addr} {J:Hq} {p:Addr} {L:Ln} (h:bt cN cL J p L) {c:Cf} (hc:c∈L.cs):c.r≠L.d:=by intro e;have:=h.dc;rw [← e,(h.lg c hc).l] at this;cases this
theorem bt.Qa {cN cL:Addr} {J:Hq} {p:Addr} {L:Ln} (h:bt cN cL J p L) {c:Cf} (hc:c∈L.cs):c.a≠L.o:=by intro e;have:=h.rw;rw [← e,(h.lg c hc).o] at this;cases this
theorem bt.R6 {cN cL:Addr} {J:Hq} {p:Addr} {L:Ln} (h:bt cN cL J p L) {c c':Cf} (hc:c∈L.cs) (hc':c'∈L.cs):c.a≠c'.r:=by intro e;have:=(h.lg c' hc').l;rw [← e,(h.lg c hc).o] at this;cases this
theorem bt.LM {cN cL:Addr} {J:Hq} {p o':Addr} {L:Ln} {row:List Str} (h:bt cN cL J p L) (ho:J o'=Te (.lst (row.map .str))) (nc:∀c∈L.cs,c.r≠o'):bt cN cL (put J p (.ins cN [("now",fr L.t),("logs",.ref L.d),("row",.ref o')])) p { L with o:=o',row:=row } :=
 ⟨aq,by show put J p _ L.d=_;rw [ak h.GV];exact h.dc,by show put J p _ o'=_;rw [ak (λe=>by rw [e,h.ob] at ho;cases ho)];exact ho,
  λc hc=>⟨by rw [ak (h.O5 hc)];exact (h.lg c hc).o,by rw [ak (h.Mp hc)];exact (h.lg c hc).l⟩,h.ap,nc⟩
theorem gj {J:Hq} {S S':Addr→Prop} {x:Addr} {o:HQ} (hx:S x) (hS:∀a,S' a→S a∨J a=none):Mv J (put J x o) S S':=by
 refine ⟨λa u e n=>?_,hS,λa z=>?_⟩
 ·rw [ak (λq=>by subst q;exact n hx)];exact e
 ·by_cases q:a=x
  ·subst q;rw [aq] at z;cases z
  ·rw [ak q] at z;exact z
theorem bc.Ih {L:Ln} (h:bc L):Sz 900 L.t:=(qx h.ts).mono (by decide)
theorem rO.yz {l:aK} (h:rO l):kP 900 l:=⟨h.P_.mono (by decide),h.Qn.mono (by decide),.small (by have:=h.v;omega) (by have:=h.v;omega)⟩
theorem Cf.iK {c:Cf} (h:c.w≠[]):c.w.getLast?=Te c.cur∧c.cur∈c.w:=by
 unfold Cf.cur
 rw [List.getLast?_eq_some_getLast h]
 exact ⟨rfl,List.getLast_mem h⟩
theorem bc.Rv {L:Ln} (h:bc L) {c:Cf} (hc:c∈L.cs):er c.w L.t=Te c.cur:=by
 unfold er
 rw [Tr.mpr λl hl=>decide_eq_true (h.le c hc l hl)]
 exact (Cf.iK (h.ne c hc)).1
theorem bc.there {L:Ln} (h:bc L) {c:Cf} (hc:c∈L.cs) (hg:c.g=none):there c.w c.g L.t=true:=by
 obtain ⟨l,ls,e⟩:=Tb (h.ne c hc)
 have:=h.le c hc l (by rw [e];simp)
 rw [hg,e]
 unfold Ov.there
 simp only [Ue,Iv,TN]
 rw [decide_eq_false (Rat.not_lt.mpr this)];rfl
theorem Ln.dG {L:Ln} {c:Cf}:c∈L.Ca↔c∈L.cs∧c.g=none:=by
 unfold Ln.Ca
 rw [Sx]
 cases c.g <;> simp
theorem fG (L:Ln):L.fs.map (·.1)=L.Ca.map Cf.n:=by unfold Ln.fs;rw [Ss];rfl
theorem bc.Mm {L:Ln} (h:bc L):(L.fs.map (·.1)).Nodup:=by
 rw [fG]
 unfold Ln.Ca
 exact h.nd.sublist (List.Sublist.map _ Uh)
theorem bc.found {L:Ln} (h:bc L) {n:Str} (hn:n∈L.row):∃c∈L.cs,c.n=n∧c.g=none:=by
 have:=(h.rm n).mp hn
 rw [fG,Sh] at this
 obtain ⟨c,hc,e⟩:=this
 exact ⟨c,(Ln.dG.mp hc).1,e,(Ln.dG.mp hc).2⟩
theorem bc.va {L:Ln} (h:bc L) {c:Cf} (hc:c∈L.cs):jA (L.cs.map λc=>(c.n,PV.ref c.a)) c.n=Te (.ref c.a):=by
 have e:(L.cs.map λc=>(c.n,PV.ref c.a))=((L.cs.map λc=>(c.n,c.a)).map λx=>(x.1,PV.ref x.2)):=by rw [Ss];rfl
 rw [e]
 exact gH (f:=PV.ref) (by rw [Ss];exact h.nd) (Sh.mpr ⟨c,hc,rfl⟩)
theorem bc.Sf {L:Ln} (h:bc L) {n:Str}:(jA (L.cs.map λc=>(c.n,PV.ref c.a)) n).isSome=decide (n∈L.cs.map Cf.n):=by
 have e:(L.cs.map λc=>(c.n,PV.ref c.a))=((L.cs.map λc=>(c.n,c.a)).map λx=>(x.1,PV.ref x.2)):=by rw [Ss];rfl
 rw [e,ud (f:=PV.ref) (by rw [Ss];exact h.nd)]
 rw [Ss];rfl
theorem bc.uniq {L:Ln} (h:bc L) {c c':Cf} (hc:c∈L.cs) (hc':c'∈L.cs) (e:c.n=c'.n):c=c':=by
 obtain ⟨i,hi,rfl⟩:=S4 hc
 obtain ⟨j,hj,rfl⟩:=S4 hc'
 have:=(TC (xs:=L.cs.map Cf.n) (i:=i) (j:=j) (h₀:=by simpa using hi) (h₁:=by simpa using hj) h.nd).mp (by rw [Ti,Ti];exact e)
 subst this;rfl
theorem sF (a b c:PV):([("now",a),("logs",b),("row",c)]:List (Str × PV)).lookup ("now":Str)=Te a:=rfl
theorem uN (a b c:PV):([("now",a),("logs",b),("row",c)]:List (Str × PV)).lookup ("logs":Str)=Te b:=rfl
theorem uO (a b c:PV):([("now",a),("logs",b),("row",c)]:List (Str × PV)).lookup ("row":Str)=Te c:=rfl
theorem gK (m:Str) (a b c:PV) (h:(m == ("now":Str))=false:=by decide +kernel) (k:(m == ("logs":Str))=false:=by decide +kernel) (l:(m == ("row":Str))=false:=by decide +kernel):([("now",a),("logs",b),("row",c)]:List (Str × PV)).lookup m=none:=by
 rw [S1,h];simp only;rw [S1,k];simp only;rw [S1,l];rfl
theorem Nz:(("now":Str)=("logs":Str))=False:=eq_false (by decide +kernel)
theorem IU:(("now":Str)=("row":Str))=False:=eq_false (by decide +kernel)
theorem IT:(("logs":Str)=("row":Str))=False:=eq_false (by decide +kernel)
theorem Hm (a b c z:PV):oq ("row":Str) z ([("now",a),("logs",b),("row",c)]:List (Str × PV))=([("now",a),("logs",b),("row",z)]:List (Str × PV)):=by simp only [oq,IU,IT,if_false,if_true]
theorem LU {J:Hq} {a:Addr} {xs:List PV} (h:J a=Te (.lst xs)):My J (.ref a)=Te xs:=by unfold My;simp only [h]
abbrev fQ:Stmt:=(L2.inClass (top 44) 0)
abbrev iw:List Str:=["self"]
theorem oC:L2.aw ["self"] ["self"] (L2.ai fQ):=eJ
def AF (cN cL:Addr):cS:=λxs J Q _=>∃p,xs=[.ref p]∧J p=some (.ins cN [])∧∀J' d e o,bt cN cL J' p ⟨0,d,e,o,[],[]⟩→Mv J J' (λa=>a=p) (Ln.own ⟨0,d,e,o,[],[]⟩ p)→Q .non J'
theorem uT {cN cL f:Addr} {fd:FuncData} (F:cE K "__init__" "Lane.__init__" fQ f fd) (N:nL K mg) (ax:fe K mg "Lane" cN) (az:aI K cN "now") (aJ:aI K cN "logs") (aH:aI K cN "row"):aQ P w K mg base (dn P w) 1 f fd iw (d4 K (AF cN cL)):=by
 simp_arith [oC]
 ·obtain ⟨p,rfl,_⟩:=h;rfl
 obtain ⟨p,rfl,hp,q⟩:=h
 obtain ⟨aN,gN,sN⟩:=N
 have rN:∀(J:Hq) (H:Hp),cy K J H (fr 0) (.ref aN):=λJ H=>⟨aN,_,rfl,sN H,⟨_,_,rfl,rfl,_,_,rfl,rfl,rfl⟩⟩
 refine ⟨_,(aj (g7 ax.cl az (rv 0) (fB (v:=.ref aN) (fr 0) rfl gN rfl rN))
   (aj (g7 ax.cl aJ (rv 0) m7)
   (au (g7 ax.cl aH (rv 0) (ot ah))))),?_⟩
 simp_all! [hp]
 refine ⟨by decide,?_⟩
 simp_all! []
 intro d hd ep
 have GV:d≠p:=by intro e;subst e;rw [aq] at hd;cases hd
 simp_all! [ak (Ne.symm GV),aq]
 simp only [Nz,if_false]
 refine ⟨by decide,?_⟩
 simp_all! []
 intro o ho
 have jd:J d=none:=by rw [ak GV] at hd;exact hd
 have GX:o≠p:=by intro e;subst e;rw [aq] at ho;cases ho
 have nod:o≠d:=by intro e;subst e;rw [ak GX,aq] at ho;cases ho
 have jo:J o=none:=by rw [ak GX,ak nod,ak GX] at ho;exact ho
 refine lU (by rw [ak (Ne.symm GX)];exact aq) ⟨by show (2:Nat) < 1000;decide,?_⟩
 have pr:oq ("row":Str) (PV.ref o) ([("now",fr 0),("logs",.ref d)]:List (Str × PV))=([("now",fr 0),("logs",.ref d),("row",.ref o)]:List (Str × PV)):=by simp only [oq,IU,IT,if_false]
 rw [pr]
 refine q _ d ep o ⟨aq,by rw [ak GV,ak (Ne.symm nod),ak GV];exact aq,by rw [ak GX];exact aq,(by simp),(by simp),(by simp)⟩ ⟨λa u e na=>?_,λa ow=>?_,λa z=>?_⟩
 ·have na1:a≠d:=λz=>by subst z;rw [jd] at e;cases e
  have na2:a≠o:=λz=>by subst z;rw [jo] at e;cases e
  rw [ak na,ak na2,ak na,ak na1,ak na];exact e
 ·rcases ow with rfl | rfl | rfl | ⟨c,hc,_⟩
  ·exact .inl rfl
  ·exact .inr jd
  ·exact .inr jo
  ·cases hc
 ·by_cases z1:a=p
  ·subst z1;rw [aq] at z;cases z
  by_cases z2:a=o
  ·subst z2;exact jo
  by_cases z3:a=d
  ·subst z3;exact jd
  rw [ak z1,ak z2,ak z1,ak z3,ak z1] at z;exact z
abbrev dB:Stmt:=(L2.inClass (top 44) 22)
abbrev cx:List Str:=["self","name"]
theorem jz:L2.aw ["self","name"] ["self","name"] (L2.ai dB):=eJ
def pW (cN cL eC:Addr):cS:=λxs J Q E=>∃p L n,xs=[.ref p,.str n]∧bt cN cL J p L∧(n∈L.row→Q .non J)∧(n ∉ L.row→E eC J)
theorem jx {cN cL eC f:Addr} {fd:FuncData} (F:cE K "must_be_there" "Lane.must_be_there" dB f fd) (Z:cb mg) (ax:fe K mg "Lane" cN) (aH:aI K cN "row") (nN:Own K mg "NoCraft" eC):aQ P w K mg base (dn P w) 1 f fd cx (d4 K (pW cN cL eC)):=by
 simp_arith [jz,(au (aY (aB Hb (rv 1) (ba ax.cl aH (rv 0))) (au (dS nN rfl cK B.kn rfl (af bK ah))) aL))]
 ·obtain ⟨p,L,n,rfl,_⟩:=h;rfl
 obtain ⟨p,L,n,rfl,b,q,qe⟩:=h
 have bo:=b.ob
 refine hX ?_
 simp_all! [bo,uO,NX,LU b.rw]
 refine ⟨L.row,rfl,?_⟩
 by_cases c:n∈L.row
 ·rw [if_pos (by simp [c])]
  exact q c
 ·rw [if_neg (by simp [c])]
  simp_all! [ft]
  exact qe c
abbrev g8:Stmt:=(L2.inClass (top 44) 23)
abbrev eO:List Str:=["self","name"]
theorem qY:L2.aw ["self","name"] ["self","name"] (L2.ai g8):=eJ
def nt (cN cL eC:Addr):cS:=λxs J Q E=>∃p L n,xs=[.ref p,.str n]∧bt cN cL J p L∧bc L∧(∀c∈L.cs,c.n=n→c.g=none→Q c.cur.V J)∧(n ∉ L.row→E eC J)
theorem qA {cN cL eC eN f:Addr} {fd:FuncData} (F:cE K "leg_of" "Lane.leg_of" g8 f fd) (Z:cb mg) (ax:fe K mg "Lane" cN) (aJ:aI K cN "logs") (az:aI K cN "now") (a_:dq P w K mg base cN 1 "must_be_there" cx (pW cN cL eC)) (dF:dq P w K mg base cL 3 "leg_at" g6 (rb cL eN)) :
  aQ P w K mg base (dn P w) 4 f fd eO (d4 K (nt cN cL eC)):=by
 simp_arith [qY,(aj (bq (bI (pl:=_) a_ B hr (rv 0) (af (rv 1) ah)))
   (au (aE (bI (pl:=_) dF B hr (ar cM (ba ax.cl aJ (rv 0)) (rv 1)) (af (ba ax.cl az (rv 0)) ah)))))]
 ·obtain ⟨p,L,n,rfl,_⟩:=h;rfl
 obtain ⟨p,L,n,rfl,b,ok,q,qe⟩:=h
 have bo:=b.ob
 have bd:=b.dc
 refine hX ?_
 simp_all! [bo]
 refine ⟨gK _ _ _ _,p,L,n,rfl,b,λhn=>?_,qe⟩
 obtain ⟨c,hc,rfl,hg⟩:=ok.found hn
 have lo:=(b.lg c hc).o
 simp_all! [bo,uN,bd,ok.va hc,lo]
 refine ⟨Nv _ _,?_⟩
 simp_all! [bo,sF]
 refine ⟨c.a,c.r,c.w,c.g,L.t,rfl,b.lg c hc,ok.ne c hc,SH (ok.len c hc) (by decide),ok.Ih,λl hl=>(ok.ck c hc l hl).yz,λq' hq=>(qx (ok.gz c hc q' hq).1).mono (by decide),λ_ l hl=>?_,λz=>?_⟩
 ·rw [ok.Rv hc] at hl;cases hl
  exact q c hc rfl hg
 ·rw [ok.there hc hg] at z;cases z
abbrev fC:Stmt:=(L2.inClass (top 44) 24)
abbrev dy:List Str:=["self"]
theorem qZ:L2.aw ["self"] ["self"] (L2.ai fC):=eJ
theorem Ej {L:Ln} (ok:bc L) {f:Str→aK} (hf:∀c∈L.cs,c.g=none→f c.n=c.cur):cT L.t (L.row.map λn=>(n,f n))=cT L.t L.fs:=by
 refine Ei (by rw [Ss];show (L.row.map λn=>n).Nodup;rw [Uj];exact ok.rn) ok.Mm λx=>?_
 rw [Sh,Sh]
 constructor
 ·rintro ⟨y,hy,rfl⟩
  obtain ⟨n,hn,rfl⟩:=Sh.mp hy
  obtain ⟨c,hc,rfl,hg⟩:=ok.found hn
  exact ⟨(c.n,c.cur),Sh.mpr ⟨c,Ln.dG.mpr ⟨hc,hg⟩,rfl⟩,by rw [hf c hc hg]⟩
 ·rintro ⟨y,hy,rfl⟩
  obtain ⟨c,hc,rfl⟩:=Sh.mp hy
  obtain ⟨hc,hg⟩:=Ln.dG.mp hc
  refine ⟨(c.n,f c.n),Sh.mpr ⟨c.n,(ok.rm c.n).mpr ?_,rfl⟩,by rw [hf c hc hg]⟩
  rw [fG];exact Sh.mpr ⟨c,Ln.dG.mpr ⟨hc,hg⟩,rfl⟩
def Ln.uM (L:Ln) (n:Str):aK:=((L.cs.find? λc=>decide (c.n=n)).map Cf.cur).getD ⟨0,0,0⟩
theorem bc.uM {L:Ln} (ok:bc L) {c:Cf} (hc:c∈L.cs):L.uM c.n=c.cur:=by
 unfold Ln.uM
 cases h:L.cs.find? λd=>decide (d.n=c.n) with
 | none=>have:=List.find?_eq_none.mp h c hc;simp at this
 | some d =>
  have h1:=List.mem_of_find?_eq_some h
  have h2:d.n=c.n:=by simpa using List.find?_some h
  rw [ok.uniq h1 hc h2];rfl
def iF (cN cL:Addr):cS:=λxs J Q E=>∃p L,xs=[.ref p]∧bt cN cL J p L∧bc L∧∀J' o',bt cN cL J' p { L with o:=o',row:=cT L.t L.fs }→Mv J J' (L.own p) (Ln.own { L with o:=o',row:=cT L.t L.fs } p)→Q .non J'
theorem qB {cN cL eC f:Addr} {fd:FuncData} (F:cE K "settle" "Lane.settle" fC f fd) (Z:cb mg) (ax:fe K mg "Lane" cN) (aH:aI K cN "row") (az:aI K cN "now") (bO:dq P w K mg base cN 4 "leg_of" eO (nt cN cL eC)) (lF:bC P w K mg base 6 "in_order" j0 oI) :
  aQ P w K mg base (dn P w) 7 f fd dy (d4 K (iF cN cL)):=by
 simp_arith [qZ,(au (g7 ax.cl aH (rv 0) (aU lF B hr (af (Ox (L2.ai fC) ["self"] [("self",0)] rfl rfl rfl (dI (ba ax.cl aH (rv 0))) (λ_ _ _ _ _ _=>(rv 0)) (λ_ _ _ _ _ _=>(bI (pl:=_) bO Gp hr (rv 1) (af (rv 0) ah)))) (af (ba ax.cl az (rv 0)) ah)))))]
 ·obtain ⟨p,L,rfl,_⟩:=h;rfl
 obtain ⟨p,L,rfl,b,ok,q⟩:=h
 have bo:=b.ob
 have br:=b.rw
 refine hX ?_
 simp_all! [N9,bo,uO,br]
 intro D hD ep
 have bf:∀e2 kvs,bt cN cL (put J D (.dct kvs e2)) p L:=λe2 kvs=>b.fresh hD
 have hrl:=ok.rl
 refine ⟨λi J2=>∃e2,J2=put J D (.dct (bN ((L.row.take i).map λn=>(n,L.uM n))) e2),⟨ep,rfl⟩,?_,?_,?_⟩
 ·rintro i J2 ⟨e2,rfl⟩;exact (bf e2 _).rw
 ·rintro i x J2 hx ⟨e2,rfl⟩
  have hi:i < L.row.length:=by have:=(Sj.mp hx).1;simpa using this
  rw [Sl,Si hi] at hx
  cases hx
  have hn:L.row[i]∈L.row:=SM hi
  refine lU (bf e2 _).ob ⟨gK _ _ _ _,p,L,L.row[i],rfl,bf e2 _,ok,λc hc e hg=>?_,λz=>absurd hn z⟩
  refine ⟨_,e2,L.row[i],rfl,aq,aZ (by simp only [bN,Sg,SK];omega),λep'=>⟨ep',?_⟩⟩
  rw [bW]
  congr 2
  have et:L.row.take (i + 1)=L.row.take i ++ [L.row[i]]:=by rw [SS,Si hi];rfl
  rw [et,Sk,Sm,Ta,← e,ok.uM hc]
  refine lV (f:=aK.V) (l:=c.cur) λz=>?_
  rw [Ss] at z
  obtain ⟨m,hm,e3⟩:=Sh.mp z
  have hnd:(L.row.take (i + 1)).Nodup:=ok.rn.sublist (Td _ _)
  rw [et] at hnd
  exact (d7 hnd).2 (by rw [← e,← e3];exact hm)
 ·rintro J2 ⟨e2,rfl⟩
  rw [Sg,SV]
  refine lU (bf e2 _).ob (jT (sF _ _ _) ⟨D,_,e2,L.t,rfl,aq,?_,by rw [Sg];omega,ok.Ih,?_,λo' ho'=>?_⟩)
  ·rw [Ss];show (L.row.map λn=>n).Nodup;rw [Uj];exact ok.rn
  ·intro x hx
   obtain ⟨n,hn,rfl⟩:=Sh.mp hx
   obtain ⟨c,hc,rfl,hg⟩:=ok.found hn
   show kP 900 (L.uM c.n)
   rw [ok.uM hc]
   exact (ok.ck c hc _ (Cf.iK (ok.ne c hc)).2).yz
  ·rw [Ej ok λc hc _=>ok.uM hc]
   have b2:bt cN cL (put (put J D (.dct (bN (L.row.map λn=>(n,L.uM n))) e2)) o' (.lst ((cT L.t L.fs).map .str))) p L:=(bf e2 _).fresh ho'
   have jo:J o'=none:=by
    by_cases z:o'=D
    ·subst z;exact hD
    ·rw [ak z] at ho';exact ho'
   refine lU b2.ob ⟨by show (3:Nat) < 1000;decide,?_⟩
   rw [Hm]
   refine q _ o' (b2.LM aq λc hc e=>?_) ?_
   ·have:=(b.lg c hc).l;rw [e,jo] at this;cases this
   ·refine ((Mv.new hD).trans (Mv.yG ho')).trans (gj (.inl (.inl rfl)) λa ow=>.inl ?_)
    rcases ow with h | h | h | h
    ·exact .inl (.inl h)
    ·exact .inl (.inr (.inl h))
    ·exact .inr h
    ·exact .inl (.inr (.inr (.inr h)))
abbrev gT:Stmt:=(top 35)
abbrev fU:List Str:=["text"]
theorem vO:L2.aw ["text"] ["text"] (L2.ai gT):=eJ
def cJ:Str:="abcdefghijklmnopqrstuvwxyz0123456789"
def good (y:Str):Bool:=decide (1≤y.cps.size) && decide (y.cps.size≤8) && y.cps.toList.all (d_ cJ)
def E9 (T:Addr):Sp:=λvs H Q _=>∃y:Str,vs=[.str y]∧y.length≤sizeLine∧H T=some (.ext (eE T))∧Q (.bl (good y)) H
theorem uY {T f c:Addr} {fd:FuncData} (F:F1 K mg "good_name" gT T f fd c) (Z:Cs mg) (Bm:BMain mg base) {kO pY:Tok} (ik:mg "LONGEST"=some (.int 8 kO)) (mB:mg "SIGNS"=some (.str "abcdefghijklmnopqrstuvwxyz0123456789" pY)) :
  aQ P w K mg base pZ 1 f fd fU (E9 T):=by
 refine R8 F vO (λvs H Q E h=>?_) (λA outer s H vs Q E hr h=>?_)
 ·obtain ⟨y,rfl,_⟩:=h
  rfl
 obtain ⟨y,rfl,hz,hT,q⟩:=h
 refine ⟨_,(aX (m5 (Jf (Ah (dH z_ (bH mx rfl Z.len boot_len (ay (pv 0) bp)) aP (fo _)) (vp (dH I_ (bH mx rfl Z.len boot_len (ay (pv 0) bp)) (dm (v:=.int 8) rfl ik ⟨_,rfl⟩) (fo _))))) (bM (dO xb)) fV)
   (bM (dO (Em rfl Bm rfl F.tab hr rfl Z.all mB (pv 0))))),?_⟩
 have el:y.cps.size=y.length:=rfl
 refine ⟨_,rfl,y,rfl,hz,_,_,rfl,rfl,_,rfl,DG (λe=>?_) (λe=>⟨_,rfl,y,rfl,hz,_,_,rfl,rfl,_,rfl,DG (λe2=>?_) (λe2=>?_)⟩)⟩
 ·have e:(y.length:Int) < 1:=of_decide_eq_true e
  have z:good y=false:=by
   unfold good
   rw [decide_eq_false (show ¬ 1≤y.cps.size by omega)]
   rfl
  show Q (.bl false) H
  rw [← z]
  exact q
 ·have e2:(8:Int) < (y.length:Int):=of_decide_eq_true e2
  have z:good y=false:=by
   unfold good
   rw [decide_eq_false (show ¬ y.cps.size≤8 by omega),TQ]
   rfl
  show Q (.bl false) H
  rw [← z]
  exact q
 ·have e:¬ (y.length:Int) < 1:=of_decide_eq_false (T7.mpr e)
  have e2:¬ (8:Int) < (y.length:Int):=of_decide_eq_false (T7.mpr e2)
  have z:good y=y.cps.toList.all (d_ cJ):=by
   unfold good
   rw [decide_eq_true (show 1≤y.cps.size by omega),decide_eq_true (show y.cps.size≤8 by omega)]
   rfl
  refine ⟨_,rfl,y,rfl,hT,?_⟩
  show Q (.bl (y.cps.toList.all (d_ cJ))) H
  rw [← z]
  exact q
def Ay (T:Addr):cS:=λxs J Q _=>∃y:Str,xs=[.str y]∧y.length≤sizeLine∧J T=some .tab∧Q (.bl (good y)) J
theorem qs {T:Addr} (C:rH P w K mg base 1 "good_name" fU (E9 T)):bC P w K mg base 1 "good_name" fU (Ay T):=C.lift λxs J vs H Q2 E2 Q E rs r ⟨y,ex,hl,hT,q⟩ kn=>by
 subst ex
 obtain ⟨v,rfl,r1⟩:=K' rs
 cases r1
 exact ⟨y,rfl,hl,r _ _ hT,kn (.bl _) J _ H rfl r .refl q⟩
theorem zL (L:Ln) {L':Ln} {c:Cf} (h:L'.cs=L.cs ++ [c]) (hg:c.g=none):L'.fs=L.fs ++ [(c.n,c.cur)]:=by
 unfold Ln.fs Ln.Ca
 rw [h,TK,Sk]
 simp [hg]
def Ln.joined (L:Ln) (n:Str) (x v:Int) (L':Ln):Prop:=∃a r,L'.cs=L.cs ++ [⟨n,a,r,[⟨L.t,(x:Rat),v⟩],none⟩]∧L'.t=L.t
def Mn (x v:Int):Prop:=x.natAbs≤1000000∧v.natAbs≤1000
def AG (cN cL T eB eF eT eU:Addr):cS:=λxs J Q E=>∃p L n x v,xs=[.ref p,.str n,.int x,.int v]∧bt cN cL J p L∧cI L∧J T=some .tab∧n.length≤sizeLine∧L.cs.length < 100∧(good n=false→E eB J)∧(good n=true→¬ Mn x v→E eF J) ∧
 (good n=true→Mn x v→n∈L.cs.map Cf.n→E eT J)∧(good n=true→Mn x v→n ∉ L.cs.map Cf.n→12≤L.row.length→E eU J) ∧
 (good n=true→Mn x v→n ∉ L.cs.map Cf.n→L.row.length < 12→∀J' L',bt cN cL J' p L'→cI L'→L.joined n x v L'→Mv J J' (L.own p) (L'.own p)→Q .non J')
abbrev j8:Stmt:=(L2.inClass (top 44) 1)
abbrev mR:List Str:=["self","name","place","pace"]
theorem vL:L2.aw ["self","name","place","pace"] ["self","name","place","pace"] (L2.ai j8):=eJ
theorem bt.add {cN cL:Addr} {J:Hq} {p:Addr} {L:Ln} {c:Cf} {ep:Nat} (h:bt cN cL J p L) (hc:F3 cL J c.a c.r c.w c.g) (h1:c.r ∉ L.cs.map Cf.r) (h2:c.r≠L.o) :
  bt cN cL (put (put J L.d (.dct ((L.cs ++ [c]).map λc=>(c.n,PV.ref c.a)) ep)) L.o (.lst ((L.row ++ [c.n]).map .str))) p ⟨L.t,L.d,ep,L.o,L.cs ++ [c],L.row ++ [c.n]⟩:=by
 have n1:c.a≠L.d:=by intro e;have:=h.dc;rw [← e,hc.o] at this;cases this
 have n2:c.a≠L.o:=by intro e;have:=h.rw;rw [← e,hc.o] at this;cases this
 have n3:c.r≠L.d:=by intro e;have:=h.dc;rw [← e,hc.l] at this;cases this
 refine ⟨?_,?_,aq,λx hx=>?_,?_,λx hx=>?_⟩
 ·rw [ak (Ne.symm h.GX),ak (Ne.symm h.GV)];exact h.ob
 ·show put (put J L.d _) L.o _ L.d=_
  rw [ak h.Qb];exact aq
 ·rcases Sq.mp hx with hx | hx
  ·exact ⟨by rw [ak (h.Qa hx),ak (h.Rw hx)];exact (h.lg x hx).o,by rw [ak (h.ao x hx),ak (h.Rx hx)];exact (h.lg x hx).l⟩
  ·rw [Su] at hx;subst hx
   exact ⟨by rw [ak n2,ak n1];exact hc.o,by rw [ak h2,ak n3];exact hc.l⟩
 ·show ((L.cs ++ [c]).map Cf.r).Nodup
  rw [Sk,Sm,Ta,Tq]
  exact ⟨h.ap,by simp,λx hx y hy e=>by rw [Su] at hy;subst hy;subst e;exact h1 hx⟩
 ·show x.r≠L.o
  rcases Sq.mp hx with hx | hx
  ·exact h.ao x hx
  ·rw [Su] at hx;subst hx;exact h2
theorem bc.add {L:Ln} (h:bc L) {c:Cf} {l:aK} {ep:Nat} (hw:c.w=[l]) (hg:c.g=none) (hl:rO l) (hm:l.m=L.t) (hn:c.n ∉ L.cs.map Cf.n) (hr:L.row.length < 12) (hs:L.cs.length < 100):bc ⟨L.t,L.d,ep,L.o,L.cs ++ [c],L.row ++ [c.n]⟩:=by
 have hf:Ln.fs ⟨L.t,L.d,ep,L.o,L.cs ++ [c],L.row ++ [c.n]⟩=L.fs ++ [(c.n,c.cur)]:=zL L rfl hg
 have all:∀{P:Cf→Prop},(∀x∈L.cs,P x)→P c→∀x∈L.cs ++ [c],P x:=λh1 h2 x hx=>by
  rcases Sq.mp hx with hx | hx
  ·exact h1 x hx
  ·rw [Su] at hx;subst hx;exact h2
 refine ⟨?_,all h.ne (by rw [hw];simp),all h.le (by rw [hw];simp [hm]),all h.ck (by rw [hw];simpa using hl),all h.len (by rw [hw];show (1:Nat)≤200;decide),all h.gz (by rw [hg];intro q e;cases e),h.t0,h.ts,by show (L.cs ++ [c]).length≤100;rw [SF];simp;omega,λn=>?_,?_,by show (L.row ++ [c.n]).length≤12;rw [SF];simp;omega⟩
 ·show ((L.cs ++ [c]).map Cf.n).Nodup
  rw [Sk,Sm,Ta,Tq]
  exact ⟨h.nd,by simp,λx hx y hy e=>by rw [Su] at hy;subst hy;subst e;exact hn hx⟩
 ·rw [hf,Sk,Sq,Sq,h.rm n];simp
 ·show (L.row ++ [c.n]).Nodup
  rw [Tq]
  refine ⟨h.rn,by simp,λx hx y hy e=>?_⟩
  rw [Su] at hy
  rw [e,hy] at hx
  have:=(h.rm _).mp hx
  rw [fG,Sh] at this
  obtain ⟨d,hd,e⟩:=this
  exact hn (Sh.mpr ⟨d,(Ln.dG.mp hd).1,e⟩)
theorem cI.settled {L:Ln} (h:bc L) (o':Addr):cI { L with o:=o',row:=cT L.t L.fs }:=by
 have hl:(cT L.t L.fs).length≤12:=by
  have h1:(cT L.t L.fs).Perm L.row:=(List.perm_ext_iff_of_nodup (qE h.Mm) h.rn).mpr λn=>by rw [xa];exact (h.rm n).symm
  rw [h1.length_eq];exact h.rl
 exact ⟨⟨h.nd,h.ne,h.le,h.ck,h.len,h.gz,h.t0,h.ts,h.many,λn=>xa,qE h.Mm,hl⟩,rfl⟩
theorem uU {cN cL T eB eF eT eU f:Addr} {fd:FuncData} (F:cE K "join" "Lane.join" j8 f fd) (Z:cb mg) (ax:fe K mg "Lane" cN) (aH:aI K cN "row") (az:aI K cN "now") (aJ:aI K cN "logs") {jg f7 v8:Tok} (gf:mg "FARTHEST"=some (.int 1000000 jg)) (eg:mg "FASTEST"=some (.int 1000 f7)) (qk:mg "MOST"=some (.int 12 v8))
  (nM:Own K mg "BadName" eB) (ib:Own K mg "TooFar" eF) (uu:Own K mg "Taken" eT) (x_:Own K mg "Full" eU) (jB:bC P w K mg base 1 "good_name" fU (Ay T)) (CS:Bf P w K mg base cL 1 "Log" jk (Az cL)) (bz:dq P w K mg base cN 7 "settle" dy (iF cN cL)) :
  aQ P w K mg base (dn P w) 8 f fd mR (d4 K (AG cN cL T eB eF eT eU)):=by
 simp_arith [vL,(aj (aY (j6 (dh (aU jB B hr (af (rv 1) ah)))) (au (dS nM rfl cK B.kn rfl (af bK ah))) aL)
   (aj (aY (fb (qQ (aB oV (bx yf rfl Z.abs boot_abs (af (rv 2) ah)) (fB (v:=.int 1000000) (.int 1000000) rfl gf ⟨_,rfl⟩ (λ_ _=>rfl))) (lW (aB oV (bx yf rfl Z.abs boot_abs (af (rv 3) ah)) (fB (v:=.int 1000) (.int 1000) rfl eg ⟨_,rfl⟩ (λ_ _=>rfl)))))) (au (dS ib rfl cK B.kn rfl (af bK ah))) aL)
   (aj (aY (aB Ee (rv 1) (ba ax.cl aJ (rv 0))) (au (dS uu rfl cK B.kn rfl (af bK ah))) aL)
   (aj (aY (aB Ed (bx cW rfl Z.len boot_len (af (ba ax.cl aH (rv 0)) ah)) (fB (v:=.int 12) (.int 12) rfl qk ⟨_,rfl⟩ (λ_ _=>rfl))) (au (dS x_ rfl cK B.kn rfl (af bK ah))) aL)
   (aj (i6 fY (ba ax.cl aJ (rv 0)) (rv 1) (HF CS B hr (af (ba ax.cl az (rv 0)) (af (cq (af (rv 2) (af ag ah))) (af (rv 3) ah)))))
   (aj (bq (jm PySem.F.plainAttrs_list PySem.F.slot_list_append PySem.F.type_list_append fm (ba ax.cl aH (rv 0)) (af (rv 1) ah)))
   (au (bq (gx (pl:=_) bz B hr (rv 0))))))))))]
 ·obtain ⟨p,L,n,x,v,rfl,_⟩:=h;rfl
 obtain ⟨p,L,n,x,v,rfl,b,ok,hT,hnl,hcs,qb,qf,qt,qu,q⟩:=h
 have bo:=b.ob
 have bd:=b.dc
 have br:=b.rw
 refine hX ?_
 simp_all! []
 refine ⟨n,rfl,hnl,hT,?_⟩
 cases hg:good n with
 | false =>
  simp_all! [ft]
  exact qb hg
 | true =>
 simp_all! []
 by_cases hB:Mn x v
 ·obtain ⟨hx,hv⟩:=id hB
  rw [if_neg (by split <;> omega),if_neg (by split <;> omega)]
  simp_all! [bo,uN,bd,ok.Sf]
  by_cases hm:n∈L.cs.map Cf.n
  ·rw [if_pos hm]
   simp_all! [ft]
   exact qt hg hB hm
  rw [if_neg hm]
  simp_all! [bo,uO,br,Sg]
  by_cases hr12:12≤L.row.length
  ·rw [if_pos (by omega)]
   simp_all! [ft]
   exact qu hg hB hm hr12
  rw [if_neg (by omega)]
  simp_all! [bo,sF]
  intro a ha
  refine ⟨a,⟨L.t,(x:Rat),v⟩,rfl,aq,λr hr'=>?_⟩
  have nra:r≠a:=by intro e;subst e;rw [aq] at hr';cases hr'
  have jr:J r=none:=by rw [ak nra] at hr';exact hr'
  have b1:bt cN cL (put (put (put J a (.ins cL [])) r (.lst [(aK.mk L.t (x:Rat) v).V])) a (.ins cL [("rows",.ref r),("gone",.non)])) p L:=b.keep λc u ow e=>by
   have n1:c≠a:=λz=>by subst z;rw [ha] at e;cases e
   have n2:c≠r:=λz=>by subst z;rw [jr] at e;cases e
   rw [ak n1,ak n2,ak n1];exact e
  have l1:F3 cL (put (put (put J a (.ins cL [])) r (.lst [(aK.mk L.t (x:Rat) v).V])) a (.ins cL [("rows",.ref r),("gone",.non)])) a r [⟨L.t,(x:Rat),v⟩] none:=⟨aq,by rw [ak nra];exact aq⟩
  have mv1:Mv J (put (put (put J a (.ins cL [])) r (.lst [(aK.mk L.t (x:Rat) v).V])) a (.ins cL [("rows",.ref r),("gone",.non)])) (L.own p) (λc=>(L.own p c∨c=a)∨c=r) :=
   ((Mv.yG ha).trans (Mv.yG hr')).trans (gj (.inl (.inr rfl)) λc h=>.inl h)
  generalize (put (put (put J a (.ins cL [])) r (.lst [(aK.mk L.t (x:Rat) v).V])) a (.ins cL [("rows",.ref r),("gone",.non)]))=J1 at b1 l1 mv1 ⊢
  have bo1:=b1.ob
  have bd1:=b1.dc
  simp_all! [bo1,uN,bd1]
  refine ⟨aZ (by rw [Sg];omega),λep'=>?_⟩
  have epu:nE (L.cs.map λc=>(c.n,PV.ref c.a)) n (PV.ref a)=(L.cs ++ [Cf.mk n a r [⟨L.t,(x:Rat),v⟩] none]).map λc=>(c.n,PV.ref c.a):=by
   have e:(L.cs.map λc=>(c.n,PV.ref c.a))=((L.cs.map λc=>(c.n,c.a)).map λx=>(x.1,PV.ref x.2)):=by rw [Ss];rfl
   rw [e,lV (f:=PV.ref) (l:=a) (by rw [Ss];exact hm),Sk,Sk,Ss];rfl
  rw [epu]
  have hrs:r ∉ L.cs.map Cf.r:=λh=>by
   obtain ⟨c,hc,e⟩:=Sh.mp h
   have:=(b.lg c hc).l;rw [e,jr] at this;cases this
  have hro:r≠L.o:=λe=>by have:=b.rw;rw [← e,jr] at this;cases this
  have b2:=b1.add (c:=Cf.mk n a r [⟨L.t,(x:Rat),v⟩] none) (ep:=ep') l1 hrs hro
  have ok2:bc ⟨L.t,L.d,ep',L.o,L.cs ++ [Cf.mk n a r [⟨L.t,(x:Rat),v⟩] none],L.row ++ [n]⟩:=ok.tobc.add (c:=Cf.mk n a r [⟨L.t,(x:Rat),v⟩] none) rfl rfl (rO.new ok.t0 ok.ts hx hv) rfl hm (by omega) hcs
  have bo2:(put J1 L.d (HQ.dct ((L.cs ++ [Cf.mk n a r [⟨L.t,(x:Rat),v⟩] none]).map λc=>(c.n,PV.ref c.a)) ep')) p=some (.ins cN [("now",fr L.t),("logs",.ref L.d),("row",.ref L.o)]):=by rw [ak (Ne.symm b1.GV)];exact b1.ob
  have br2:(put J1 L.d (HQ.dct ((L.cs ++ [Cf.mk n a r [⟨L.t,(x:Rat),v⟩] none]).map λc=>(c.n,PV.ref c.a)) ep')) L.o=some (.lst (L.row.map .str)):=by rw [ak (Ne.symm b1.Qb)];exact b1.rw
  have mv2:Mv J1 (put (put J1 L.d (HQ.dct ((L.cs ++ [Cf.mk n a r [⟨L.t,(x:Rat),v⟩] none]).map λc=>(c.n,PV.ref c.a)) ep')) L.o (.lst ((L.row ++ [n]).map .str))) (λc=>(L.own p c∨c=a)∨c=r) (Ln.own ⟨L.t,L.d,ep',L.o,L.cs ++ [Cf.mk n a r [⟨L.t,(x:Rat),v⟩] none],L.row ++ [n]⟩ p):=by
   refine (gj (S':=λc=>(L.own p c∨c=a)∨c=r) (.inl (.inl (.inr (.inl rfl)))) λc h=>.inl h).trans (gj (.inl (.inl (.inr (.inr (.inl rfl))))) λc h=>.inl ?_)
   rcases h with h | h | h | ⟨d,hd,h⟩
   ·exact .inl (.inl (.inl h))
   ·exact .inl (.inl (.inr (.inl h)))
   ·exact .inl (.inl (.inr (.inr (.inl h))))
   ·rcases Sq.mp hd with hd | hd
    ·exact .inl (.inl (.inr (.inr (.inr ⟨d,hd,h⟩))))
    ·rw [Su] at hd;subst hd
     rcases h with h | h
     ·exact .inl (.inr h)
     ·exact .inr h
  have mv3:=mv1.trans mv2
  simp_all! [bo2,uO,br2]
  refine ⟨aZ (by rw [Sg];omega),?_⟩
  rw [show L.row.map PV.str ++ [PV.str n]=(L.row ++ [n]).map .str by rw [Sk];rfl]
  have bo3:=b2.ob
  generalize (put (put J1 L.d (HQ.dct ((L.cs ++ [Cf.mk n a r [⟨L.t,(x:Rat),v⟩] none]).map λc=>(c.n,PV.ref c.a)) ep')) L.o (.lst ((L.row ++ [n]).map .str)))=J2 at b2 mv3 bo3 ⊢
  simp_all! [bo3]
  refine ⟨gK _ _ _ _,p,_,rfl,b2,ok2,λJ' o' b' mv'=>?_⟩
  exact q hg hB hm (by omega) J' _ b' (cI.settled ok2 o') ⟨a,r,rfl,rfl⟩ (mv3.trans mv')
 ·have hf:=qf hg hB
  by_cases h1:x.natAbs≤1000000
  ·have h2:¬ v.natAbs≤1000:=λh=>hB ⟨h1,h⟩
   rw [if_neg (by split <;> omega),if_pos (by split <;> omega)]
   simp_all! [ft]
   exact hf
  ·rw [if_pos (by split <;> omega)]
   simp_all! [ft]
   exact hf
abbrev jc:Stmt:=(L2.inClass (top 44) 8)
abbrev k_:List Str:=["self"]
theorem sX:L2.aw ["self"] ["self"] (L2.ai jc):=eJ
def xK (cN cL:Addr):cS:=λxs J Q _=>∃p L,xs=[.ref p]∧bt cN cL J p L∧(Q (.fl (L.row.map .str)) J∨∀l,J l=none→Q (.ref l) (put J l (.lst (L.row.map .str))))
theorem sQ {cN cL f:Addr} {fd:FuncData} (F:cE K "order" "Lane.order" jc f fd) (Z:cb mg) (ax:fe K mg "Lane" cN) (aH:aI K cN "row"):aQ P w K mg base (dn P w) 1 f fd k_ (d4 K (xK cN cL)):=by
 simp_arith [sX,(au (aE (iB qd rfl Z.list boot_list (af (ba ax.cl aH (rv 0)) ah)))),F]
 ·obtain ⟨p,L,rfl,_⟩:=h;rfl
 obtain ⟨p,L,rfl,b,q⟩:=h
 have bo:=b.ob
 have br:=b.rw
 refine hX ?_
 simp_all! [bo,br,uO]
 intro l hl
 rcases q with q | q
 ·exact Fg.pd (gi hl) aq hl q
 ·exact Fg.same (q l hl)
def aS.v (b:aS):PV:=.tup [fr b.m,.str b.h,.str b.f]
theorem ID (J:Hq) (b:aS):e9 J b.v (.int 0)=some (fr b.m):=dj _ _
theorem IE (J:Hq) (b:aS):e9 J b.v (.int 1)=some (.str b.h):=eZ _ _ _
theorem IF (J:Hq) (b:aS):e9 J b.v (.int 2)=some (.str b.f):=ji _ _ _ _
theorem OQ (a:Rat) (h f:Str):PV.tup [fr a,.str h,.str f]=(aS.mk a h f).v:=rfl
theorem C9 (J:Hq) (b:aS):∃xs,b.v=.tup xs∧¬ (HT.dT xs.length 0 (some 1)=0∧HT.dT xs.length xs.length none=xs.length)∧kQ xs (some 1) none=[b.h,b.f].map .str:=⟨_,rfl,λh=>absurd h.1 (show HT.dT 3 0 (some 1)≠0 by decide),rfl⟩
abbrev hE:Stmt:=(top 23)
abbrev j3:List Str:=["one","other"]
theorem q9:L2.aw ["one","other"] ["one","other"] (L2.ai hE):=eJ
def vU:cS:=λxs J Q _=>∃a b:aS,xs=[a.v,b.v]∧Sz 9000 a.m∧Sz 9000 b.m∧Q (.bl (a.lt b)) J
theorem P0 (a b c d:Str):lS [a,b] [c,d]=if a=c then decide (slt b d) else decide (slt a c):=by
 rw [n4]
 by_cases h:a=c
 ·rw [if_pos h,if_pos h,n4]
  by_cases k:b=d
  ·rw [if_pos k,mG];subst k;exact (decide_eq_false (by unfold slt;exact List.lt_irrefl _)).symm
  ·rw [if_neg k];rfl
 ·rw [if_neg h,if_neg h];rfl
theorem pw {f:Addr} {fd:FuncData} (F:cE K "rings_ahead" "rings_ahead" hE f fd) (Z:cb mg) (de:bC P w K mg base 1 "less" fA cY):aQ P w K mg base (dn P w) 2 f fd j3 (d4 K vU):=by
 simp_arith [q9,(aj (aY (aB (mL hr.aV) (ar av (rv 0) ag) (ar av (rv 1) ag)) (au (aE (aU de B hr (af (ar av (rv 0) ag) (af (ar av (rv 1) ag) ah))))) aL)
   (au (aE (fN (G_ hr.L8) (iC zh (rv 0) (kK ag) kJ) (iC zh (rv 1) (kK ag) kJ)))))]
 ·obtain ⟨a,b,rfl,_⟩:=h;rfl
 obtain ⟨a,b,rfl,sa,sb,q⟩:=h
 refine hX ?_
 simp_arith! [bQ,ID,IE,IF,cY,Jh]
 unfold aS.lt at q
 by_cases e:a.m=b.m
 ·rw [if_pos e] at q ⊢
  obtain ⟨xs,h1,h2,h3⟩:=C9 J a
  obtain ⟨ys,h4,h5,h6⟩:=C9 J b
  refine yM h1 ⟨h2,?_⟩
  refine yM h4 ⟨h5,?_⟩
  exact ⟨[a.h,a.f],[b.h,b.f],congrArg PV.tup h3,congrArg PV.tup h6,by rw [P0];exact q⟩
 ·rw [if_neg e] at q ⊢
  exact ⟨sa,sb,q⟩
theorem Nr (v:PV):([("rows",v)]:List (Str × PV)).lookup ("rows":Str)=some v:=rfl
theorem KR {m:Str} (v:PV) (h:(m == ("rows":Str))=false):([("rows",v)]:List (Str × PV)).lookup m=none:=by rw [S1,h];rfl
theorem P1 (v:PV):([("rows",v)]:List (Str × PV)).lookup ("drop":Str)=none:=KR v (by decide +kernel)
theorem P2 (v:PV):([("rows",v)]:List (Str × PV)).lookup ("put":Str)=none:=KR v (by decide +kernel)
theorem P4 (v:PV):([("rows",v)]:List (Str × PV)).lookup ("told":Str)=none:=KR v (by decide +kernel)
theorem Hv {J:Hq} {r p:Addr} {a b c:HQ} (h:r≠p):put (put (put J r a) p b) r c=put (put J r c) p b:=by
 rw [ED (Ne.symm h),bW]
structure JE (cB:Addr) (J:Hq) (p r:Addr) (rows:List aS):Prop where
 o:J p=some (.ins cB [("rows",.ref r)])
 l:J r=some (.lst (rows.map aS.v))
abbrev fu:Stmt:=(L2.inClass (top 24) 0)
abbrev gR:List Str:=["self"]
theorem nh:L2.aw ["self"] ["self"] (L2.ai fu):=eJ
def As (cB:Addr):cS:=λxs J Q _=>∃p,xs=[.ref p]∧J p=some (.ins cB [])∧∀r,J r=none→Q .non (put (put J r (.lst [])) p (.ins cB [("rows",.ref r)]))
theorem sH {cB f:Addr} {fd:FuncData} (F:cE K "__init__" "Bells.__init__" fu f fd) (bL:fe K mg "Bells" cB) (aW:aI K cB "rows"):aQ P w K mg base (dn P w) 1 f fd gR (d4 K (As cB)):=by
 simp_arith [nh,(au (g7 bL.cl aW (rv 0) (ot ah)))]
 ·obtain ⟨p,rfl,_⟩:=h;rfl
 obtain ⟨p,rfl,hp,q⟩:=h
 refine hX ?_
 simp_arith! [bQ]
 intro r hr'
 have ne:p≠r:=by intro e;subst e;rw [hp] at hr';cases hr'
 exact lU (x:=[]) (by rw [ak ne];exact hp) ⟨by decide,q r hr'⟩
abbrev fW:Stmt:=(L2.inClass (top 24) 2)
abbrev kZ:List Str:=["self","hind","fore"]
theorem hV:L2.aw ["self","hind","fore","kept","found"] ["self","hind","fore"] (L2.ai fW):=eJ
def Ar (cB:Addr):cS:=λxs J Q _=>∃p r rows h f,xs=[.ref p,.str h,.str f]∧JE cB J p r rows∧rows.length≤900∧∀r',J r'=none→Q (.bl (decide ((ed h f rows).length < rows.length))) (put (put J r' (.lst ((ed h f rows).map aS.v))) p (.ins cB [("rows",.ref r')]))
def tail3:PV→PV
 | .tup xs=>.tup (kQ xs (some 1) none)
 | _=>.non
def zW (h f:Str) (x:PV):Bool:=!eqQ (tail3 x) (.tup [.str h,.str f])
theorem KC (h f:Str) (b:aS):zW h f b.v=!xw h f b:=by
 show (!eqQ (.tup [.str b.h,.str b.f]) (.tup [.str h,.str f]))=_
 rw [yj,gd,gd,uC,eq_str,eq_str,TN,← Ud]
 rfl
theorem Di (h f:Str):∀rows:List aS,((rows.map aS.v).filter (zW h f)).map (λx=>x)=(ed h f rows).map aS.v
 | []=>rfl
 | b :: rows=>by
  have ih:=Di h f rows
  unfold ed at ih ⊢
  rw [Sm,SU,SU,KC]
  cases xw h f b <;> simp at ih ⊢ <;> exact ih
theorem sG {cB f:Addr} {fd:FuncData} (F:cE K "drop" "Bells.drop" fW f fd) (Z:cb mg) (bL:fe K mg "Bells" cB) (aW:aI K cB "rows"):aQ P w K mg base (dn P w) 1 f fd kZ (d4 K (Ar cB)):=by
 simp_arith [hV,(aj (HI (i:=3) (L2.ai fW) ["self","hind","fore","kept","found"] [("hind",1),("fore",2)] rfl rfl rfl hV.nd rfl (Or.inl rfl) (dI (ba bL.cl aW (rv 0))) (λ_ _ _ _ _ _=>(rv 0)) (λ_ _ _ _ _ _=>(aB (mL hr.aV) (iC zh (rv 0) (kK ag) kJ) (cq (af (rv 1) (af (rv 2) ah))))))
   (aj (aM (i:=4) hV.nd (fN fS (bx cW rfl Z.len boot_len (af (rv 3) ah)) (bx cW rfl Z.len boot_len (af (ba bL.cl aW (rv 0)) ah))))
   (aj (g7 bL.cl aW (rv 0) (rv 3))
   (au (aE (rv 4))))))]
 ·obtain ⟨p,r,rows,h,f,rfl,_⟩:=h;rfl
 obtain ⟨p,r,rows,h,f,rfl,b,hl,q⟩:=h
 have bo:=b.o
 have bl:=b.l
 refine hX ?_
 simp_arith! [bQ,Lw,bo,bl,Nr]
 refine ⟨zW h f,λx=>x,⟨by rw [Sg];exact aZ (by omega),λJ' sub=>⟨sub _ _ bl,λx hx=>?_⟩⟩,λr' hr'=>?_⟩
 ·obtain ⟨b,_,rfl⟩:=Sh.mp hx
  obtain ⟨xs,h1,h2,h3⟩:=C9 J' b
  have hk:zW h f b.v=!eqQ (.tup (kQ xs (some 1) none)) (.tup [.str h,.str f]):=by rw [h1];rfl
  simp_arith! [bQ]
  refine ⟨yM h1 ⟨h2,?_⟩,λ_=>trivial⟩
  simp_arith! [bQ]
  rw [hk,h3]
  refine ⟨⟨by simp [nF,iZ],by simp [gu,gw,dep,dQ]⟩,by simp [nF,iZ],rfl⟩
 ·have ne:p≠r':=by intro e;subst e;rw [bo] at hr';cases hr'
  have nr:r≠r':=by intro e;subst e;rw [bl] at hr';cases hr'
  simp_arith! [bQ,ak ne,ak nr,bo,bl,Nr,Di,Sg,Int.ofNat_lt]
  exact ⟨by decide,q r' hr'⟩
abbrev j7:Stmt:=(L2.inClass (top 24) 1)
abbrev mQ:List Str:=["self","moment","hind","fore"]
theorem dJ:L2.aw ["self","moment","hind","fore","bell","low","high","middle"] ["self","moment","hind","fore"] (L2.ai j7):=eJ
def E6 (cB:Addr):cS:=λxs J Q _=>∃p r rows m h f,xs=[.ref p,fr m,.str h,.str f]∧JE cB J p r rows∧ju rows∧rows.length≤800∧Sz 9000 m∧(∀x∈rows,Sz 9000 x.m) ∧
 ∀r',J r'=none→Q .non (put (put J r' (.lst ((lQ ⟨m,h,f⟩ (ed h f rows)).map aS.v))) p (.ins cB [("rows",.ref r')]))
theorem Iz (a b:Nat):((a:Int) + (b:Int)).fdiv 2=(((a + b) / 2:Nat):Int):=by rw [Int.fdiv_eq_ediv_of_nonneg _ (by decide)];omega
theorem Rk (a:Int):CQ a 2=True:=eq_true ⟨by decide,Bd.mono (Bd.small (by decide) (by decide)) (by decide)⟩
theorem Kg {rows:List aS} {i:Nat} {b:aS} (h:rows[i]?=some b):di (rows.map aS.v) (i:Int)=some b.v:=bB (by rw [Sl,h];rfl)
theorem uS {cB f:Addr} {fd:FuncData} (F:cE K "put" "Bells.put" j7 f fd) (Z:cb mg) (bL:fe K mg "Bells" cB) (aW:aI K cB "rows") (iM:dq P w K mg base cB 1 "drop" kZ (Ar cB))
  (rS:bC P w K mg base 2 "rings_ahead" j3 vU):aQ P w K mg base (dn P w) 3 f fd mQ (d4 K (E6 cB)):=by
 simp_arith [dJ,(aj (bq (bI (pl:=_) iM B hr (rv 0) (af (rv 2) (af (rv 3) ah))))
   (aj (aM (i:=4) dJ.nd (cq (af (rv 1) (af (rv 2) (af (rv 3) ah)))))
   (aj (LD (i:=5) (j:=6) rfl dJ.nd rfl rfl (by decide) rfl rfl (af ag (af (bx cW rfl Z.len boot_len (af (ba bL.cl aW (rv 0)) ah)) ah)) rfl)
   (aj (m9 bZ (aB fS (rv 5) (rv 6)) (aj (aM (i:=7) dJ.nd (aO kF (aO dN (rv 5) (rv 6)) ag))
   (au (aY (dh (aU rS B hr (af (ar av (ba bL.cl aW (rv 0)) (rv 7)) (af (rv 4) ah)))) (au (aM (i:=5) dJ.nd (aO dN (rv 7) ag))) (au (aM (i:=6) dJ.nd (rv 7)))))))
   (au (bq (jm PySem.F.plainAttrs_list PySem.F.slot_list_insert PySem.F.type_list_insert n6 (ba bL.cl aW (rv 0)) (af (rv 5) (af (rv 4) ah)))))))))]
 ·obtain ⟨p,r,rows,m,h,f,rfl,_⟩:=h;rfl
 obtain ⟨p,r,rows,m,h,f,rfl,b,srt,hl,sm,sr,q⟩:=h
 have bo:=b.o
 refine hX ?_
 simp_arith! [bQ,bo,P1]
 refine ⟨p,r,rows,h,f,rfl,b,by omega,λr' hr'=>?_⟩
 have Mp:r'≠p:=by intro e;subst e;rw [bo] at hr';cases hr'
 have b1:JE cB (put (put J r' (.lst ((ed h f rows).map aS.v))) p (.ins cB [("rows",.ref r')])) p r' (ed h f rows):=⟨aq,by rw [ak Mp];exact aq⟩
 have kl:(ed h f rows).length≤800:=SH (tH _ _ _) hl
 have ks:ju (ed h f rows):=tJ srt
 have kz:∀x∈ed h f rows,Sz 9000 x.m:=λx hx=>sr x (Sx.mp hx).1
 have q:=q r' hr'
 generalize hJ:put (put J r' (.lst ((ed h f rows).map aS.v))) p (.ins cB [("rows",.ref r')])=J1 at b1 ⊢
 have hq:put J1 r' (.lst ((lQ ⟨m,h,f⟩ (ed h f rows)).map aS.v))=put (put J r' (.lst ((lQ ⟨m,h,f⟩ (ed h f rows)).map aS.v))) p (.ins cB [("rows",.ref r')]):=by rw [← hJ,Hv Mp]
 rw [← hq] at q
 clear hq hJ hr'
 have bo:=b1.o
 have bl:=b1.l
 generalize ed h f rows=ks' at *
 simp_arith! [bQ,bo,bl,Nr,OQ,Sg]
 refine ⟨λk τ J'=>∃(lo hi:Nat) (u:Option PV),τ=[some (.ref p),some (fr m),some (.str h),some (.str f),some (aS.mk m h f).v,some (.int lo),some (.int hi),u]∧J'=J1∧k=hi - lo∧lo≤hi∧hi≤ks'.length ∧
  (∀(j:Nat) x,j < lo→ks'[j]?=some x→x.lt ⟨m,h,f⟩=true)∧(∀(j:Nat) x,hi≤j→ks'[j]?=some x→x.lt ⟨m,h,f⟩=false),⟨_,0,ks'.length,none,rfl,rfl,rfl,SX _,So _,λj x hj=>absurd hj (Uc _),λj x hj e=>by rw [S5 hj] at e;cases e⟩,?_⟩
 rintro k τ J' ⟨lo,hi,u,rfl,rfl,rfl,h1,h2,hlo,hhi⟩
 simp_arith! [bQ,bo,bl,Nr,Rk,Iz,Int.ofNat_lt,vU]
 by_cases hlt:lo < hi
 ·rw [if_pos hlt]
  have hm:(lo + hi) / 2 < ks'.length:=by omega
  obtain ⟨x,hx⟩:∃x,ks'[(lo + hi) / 2]?=some x:=⟨_,Si hm⟩
  obtain ⟨N,hN⟩:∃N:Sr→Hq→Prop,∀τ' J'',N τ' J''↔∃(lo' hi':Nat) (u:Option PV),τ'=[some (.ref p),some (fr m),some (.str h),some (.str f),some (aS.mk m h f).v,some (.int lo'),some (.int hi'),u]∧J''=J'∧lo'≤hi'∧hi'≤ks'.length∧hi' - lo' < hi - lo ∧
   (∀(j:Nat) x,j < lo'→ks'[j]?=some x→x.lt ⟨m,h,f⟩=true)∧(∀(j:Nat) x,hi'≤j→ks'[j]?=some x→x.lt ⟨m,h,f⟩=false):=⟨_,λ_ _=>Iff.rfl⟩
  refine ⟨N,λτ' J'' hn=>by obtain ⟨lo',hi',u,e1,e2,e3,e4,e5,e6,e7⟩:=(hN _ _).mp hn;exact ⟨_,e5,lo',hi',u,e1,e2,rfl,e3,e4,e6,e7⟩,jT (Kg hx) ⟨x,⟨m,h,f⟩,rfl,kz x (Sv hx),sm,?_⟩⟩
  simp_arith! [bQ,Rk,Iz,Int.ofNat_lt]
  cases hc:x.lt ⟨m,h,f⟩ with
  | true =>
   rw [if_pos rfl]
   exact (hN _ _).mpr ⟨(lo + hi) / 2 + 1,hi,_,rfl,rfl,by omega,h2,by omega,λj y hj e=>AL ks hx e (by omega) hc,hhi⟩
  | false =>
   rw [if_neg SD]
   exact (hN _ _).mpr ⟨lo,(lo + hi) / 2,_,rfl,rfl,by omega,by omega,by omega,hlo,λj y hj e=>Ff ks hx e hj hc⟩
 ·rw [if_neg hlt]
  have e:lo=hi:=by omega
  subst e
  refine ⟨_,lo,rfl,rfl,by rw [Sg];exact h2,by rw [Sg];exact aZ (by omega),Th h2 (Th kl (by decide)),?_⟩
  rw [← GC h2 hlo hhi,Sk,Sm,Tv,Ua] at q
  exact q
abbrev i7:Stmt:=(L2.inClass (top 24) 5)
abbrev k4:List Str:=["self"]
theorem sV:L2.aw ["self"] ["self"] (L2.ai i7):=eJ
def Au (cB:Addr):cS:=λxs J Q _=>∃p r rows,xs=[.ref p]∧JE cB J p r rows∧(Q (.fl (rows.map aS.v)) J∨∀l,J l=none→Q (.ref l) (put J l (.lst (rows.map aS.v))))
theorem sI {cB f:Addr} {fd:FuncData} (F:cE K "told" "Bells.told" i7 f fd) (Z:cb mg) (bL:fe K mg "Bells" cB) (aW:aI K cB "rows"):aQ P w K mg base (dn P w) 1 f fd k4 (d4 K (Au cB)):=by
 simp_arith [sV,(au (aE (iB qd rfl Z.list boot_list (af (ba bL.cl aW (rv 0)) ah)))),F]
 ·obtain ⟨p,r,rows,rfl,_⟩:=h;rfl
 obtain ⟨p,r,rows,rfl,b,q⟩:=h
 have bo:=b.o
 have bl:=b.l
 refine hX ?_
 simp_arith! [bQ,bo,bl,Nr]
 intro l hl
 rcases q with q | q
 ·exact Fg.pd (gi hl) aq hl q
 ·exact Fg.same (q l hl)
def Aw:cS:=λxs J Q _=>∃t b:Int,xs=[.int t,.int b]∧b≠0∧Bd 9000 b∧Q (fr (Rat.divInt t b)) J
theorem sE (C:rH P w K mg base 2 "fraction" dz gE):bC P w K mg base 2 "fraction" dz Aw:=C.lift λxs J vs H Q2 E2 Q E rs r ⟨t,b,ex,h0,h1,q⟩ kn=>by
 subst ex
 obtain ⟨v,u,rfl,r1,r2⟩:=jh rs
 cases r1;cases r2
 exact ⟨t,b,rfl,h0,h1,vA r kn q⟩
theorem wQ (l l':aK) (h:l.v≠l'.v):Rat.divInt ((l'.at 0 - l.at 0).num) (((l'.at 0 - l.at 0).den:Int) * (l.v - l'.v))=mI l l':=by
 rw [Ls _ _ (by omega)];rfl
abbrev oA:Stmt:=(top 28)
abbrev qM:List Str:=["one","other"]
theorem l7:L2.aw ["one","other","gain","gap"] ["one","other"] (L2.ai oA):=eJ
def AD:cS:=λxs J Q _=>∃l l':aK,xs=[l.V,l'.V]∧kP 900 l∧kP 900 l'∧(l.v=l'.v→Q .non J)∧(l.v≠l'.v→Q (fr (mI l l')) J)
theorem wZ {f:Addr} {fd:FuncData} (F:cE K "meeting" "meeting" oA f fd) (Z:cb mg) (N:nL K mg) (dZ:bC P w K mg base 4 "place_on" gS oZ) (mh:bC P w K mg base 3 "minus" j2 (ze λp q=>p - q)) (bX:bC P w K mg base 2 "fraction" dz Aw) :
  aQ P w K mg base (dn P w) 5 f fd qM (d4 K AD):=by
 obtain ⟨aN,gN,sN⟩:=N
 have rN:∀(J:Hq) (H:Hp),cy K J H (fr 0) (.ref aN):=λJ H=>⟨aN,_,rfl,sN H,⟨_,_,rfl,rfl,_,_,rfl,rfl,rfl⟩⟩
 simp_arith [l7,(aj (aM (i:=2) l7.nd (aO fM (ar av (rv 0) ag) (ar av (rv 1) ag)))
   (aj (aY (aB (cG hr.aV) (rv 2) ag) (au (aE gy)) aL)
   (aj (aM (i:=3) l7.nd (aU mh B hr (af (aU dZ B hr (af (rv 1) (af (fB (v:=.ref aN) (fr 0) rfl gN rfl rN) ah))) (af (aU dZ B hr (af (rv 0) (af (fB (v:=.ref aN) (fr 0) rfl gN rfl rN) ah))) ah))))
   (au (aE (aU bX B hr (af (ar av (rv 3) ag) (af (aO bU (ar av (rv 3) ag) (rv 2)) ah))))))))]
 ·obtain ⟨l,l',rfl,_⟩:=h;rfl
 obtain ⟨l,l',rfl,sl,sl',q0,q1⟩:=h
 refine hX ?_
 have z1:Sz 900 (0:Rat):=⟨⟨by decide⟩,⟨by decide⟩⟩
 have s3:=jG sl z1
 have s3':=jG sl' z1
 have s4:Sz 6001 (l'.at 0 - l.at 0):=s3'.sub s3
 have bg:Bd 65 (l.v - l'.v):=sl.v.sub sl'.v
 simp_all! [kX]
 split
 ·rename_i e;simp_all! [];exact q0 (by omega)
 rename_i e
 have hv:l.v≠l'.v:=by omega
 simp_all! []
 refine ⟨l',0,rfl,sl'.m,sl'.p,z1,sl'.v,l,0,rfl,sl.m,sl.p,z1,sl.v,l'.at 0,l.at 0,rfl,s3'.mono (by decide),s3.mono (by decide),?_⟩
 simp_all! []
 refine ⟨.of s4.den bg,_,_,rfl,Int.mul_ne_zero (fj _) e,(Bd.mul s4.den bg (k:=6100)).mono (by decide),?_⟩
 rw [wQ l l' hv]
 exact q1 hv
theorem wR {l l':aK} (sl:kP 900 l) (sl':kP 900 l') (h:l.v≠l'.v):Sz 8000 (mI l l'):=by
 rw [← wQ l l' h]
 have z1:Sz 900 (0:Rat):=⟨⟨by decide⟩,⟨by decide⟩⟩
 have s4:Sz 6001 (l'.at 0 - l.at 0):=(jG sl' z1).sub (jG sl z1)
 have bg:Bd 65 (l.v - l'.v):=sl.v.sub sl'.v
 exact Sz.div (s4.num.mono (by decide)) ((Bd.mul s4.den bg (k:=6100)).mono (by decide)) (Int.mul_ne_zero (fj _) (by omega))
theorem bc.O3 {L:Ln} (h:bc L) {c:Cf} (hc:c∈L.cs):kP 900 c.cur:=(h.ck c hc _ (Cf.iK (h.ne c hc)).2).yz
abbrev jb:Stmt:=(L2.inClass (top 44) 13)
abbrev k9:List Str:=["self","name","other"]
theorem lE:L2.aw ["self","name","other","met"] ["self","name","other"] (L2.ai jb):=eJ
def xJ (cN cL eC:Addr):cS:=λxs J Q E=>∃p L n n',xs=[.ref p,.str n,.str n']∧bt cN cL J p L∧bc L∧(∀c∈L.cs,∀c'∈L.cs,c.n=n→c'.n=n'→c.g=none→c'.g=none→Q (gv (GO L.t c.cur c'.cur)) J)∧(n ∉ L.row∨n' ∉ L.row→E eC J)
theorem sP {cN cL eC f:Addr} {fd:FuncData} (F:cE K "meets" "Lane.meets" jb f fd) (Z:cb mg) (ax:fe K mg "Lane" cN) (az:aI K cN "now") (bO:dq P w K mg base cN 4 "leg_of" eO (nt cN cL eC)) (A5:bC P w K mg base 5 "meeting" qM AD) (de:bC P w K mg base 1 "less" fA cY):aQ P w K mg base (dn P w) 6 f fd k9 (d4 K (xJ cN cL eC)):=by
 simp_arith [lE,(aj (aM (i:=3) lE.nd (aU A5 B hr (af (bI (pl:=_) bO B hr (rv 0) (af (rv 1) ah)) (af (bI (pl:=_) bO B hr (rv 0) (af (rv 2) ah)) ah))))
   (au (aE (Oy (fb (fP (aB mK (rv 3) gy) (eV (dh (aU de B hr (af (ba ax.cl az (rv 0)) (af (rv 3) ah))))))) (rv 3) gy))))]
 ·obtain ⟨p,L,n,n',rfl,_⟩:=h;rfl
 obtain ⟨p,L,n,n',rfl,b,ok,q,qe⟩:=h
 have bo:=b.ob
 refine hX ?_
 simp_all! [bo]
 refine ⟨gK _ _ _ _,p,L,n,rfl,b,ok,λc hc e hg=>?_,λz=>qe (.inl z)⟩
 simp_all! [bo]
 refine ⟨gK _ _ _ _,p,L,n',rfl,b,ok,λc' hc' e' hg'=>?_,λz=>qe (.inr z)⟩
 have q:=q c hc c' hc' e e' hg hg'
 have sl:=ok.O3 hc
 have sl':=ok.O3 hc'
 unfold GO at q
 refine ⟨c.cur,c'.cur,rfl,sl,sl',λhv=>?_,λhv=>?_⟩
 ·rw [if_neg (λz=>z.1 hv)] at q
  simp_all! []
  exact q
 ·simp_all! [qp,bo,sF,cY]
  refine ⟨ok.Ih.mono (by decide),(wR sl sl' hv).mono (by decide),?_⟩
  split
  ·rename_i c1
   rw [if_pos ⟨hv,c1⟩] at q
   simp_all! []
   exact q
  ·rename_i c1
   rw [if_neg (λz=>c1 z.2)] at q
   exact q
theorem Sb (A:Nat):Sc gX A 0:=⟨0,by rw [Rat.zero_mul];rfl,SX _⟩
theorem bt.NA {cN cL:Addr} {J:Hq} {p T:Addr} {L:Ln} (h:bt cN cL J p L) (hT:J T=Te .tab):¬ L.own p T:=by
 rintro (rfl | rfl | rfl | ⟨c,hc,rfl | rfl⟩)
 ·rw [h.ob] at hT;cases hT
 ·rw [h.dc] at hT;cases hT
 ·rw [h.rw] at hT;cases hT
 ·rw [(h.lg c hc).o] at hT;cases hT
 ·rw [(h.lg c hc).l] at hT;cases hT
theorem M1 {L:Ln} {n:Str} {l:aK} (h:(n,l)∈L.fs):∃c∈L.cs,c.n=n∧c.g=none∧c.cur=l:=by
 obtain ⟨c,hc,e⟩:=Sh.mp h
 have:=Ln.dG.mp hc
 cases e
 exact ⟨c,this.1,rfl,this.2,rfl⟩
def oK:cS:=λxs J Q _=>∃a b:Int,xs=[.int a,.int b]∧Q (.int (Int.gcd a b:Nat)) J
theorem wM (C:rH P w K mg base 1 "shared" iz rj):bC P w K mg base 1 "shared" iz oK:=C.lift λxs J vs H Q2 E2 Q E rs r ⟨a,b,ex,q⟩ kn=>by
 subst ex
 obtain ⟨v,u,rfl,r1,r2⟩:=jh rs
 cases r1;cases r2
 exact ⟨a,b,rfl,kn (.int _) J _ H rfl r .refl q⟩
abbrev eW:Stmt:=(top 20)
abbrev gr:List Str:=["pair"]
theorem l5:L2.aw ["pair"] ["pair"] (L2.ai eW):=eJ
def xG:cS:=λxs J Q _=>∃a b:Int,xs=[.tup [.int a,.int b]]∧Q (.bl (decide (1≤b∧Int.gcd a b=1))) J
theorem kR {f:Addr} {fd:FuncData} (F:cE K "in_lowest_terms" "in_lowest_terms" eW f fd) (Z:cb mg) (ia:bC P w K mg base 1 "shared" iz oK):aQ P w K mg base (dn P w) 2 f fd gr (d4 K xG):=by
 simp_arith [l5,(au (aE (Ly (fN Ed (ar av (rv 0) ag) ag) (ET (fN (cG hr.aV) (aU ia B hr (af (ar av (rv 0) ag) (af (ar av (rv 0) ag) ah))) ag)))))]
 ·obtain ⟨a,b,rfl,_⟩:=h;rfl
 obtain ⟨a,b,rfl,q⟩:=h
 refine hX ?_
 simp_all! []
 by_cases c:1≤b
 ·simp only [c,decide_true,true_and,if_true] at q ⊢
  simp_all! [oK]
  have:decide (((Int.gcd a b:Nat):Int)=1)=decide (Int.gcd a b=1):=decide_eq_decide.mpr (by omega)
  rw [this];exact q
 ·simp only [c,decide_false,false_and] at q ⊢
  rw [if_neg (λz=>z)]
  exact q
abbrev g9:Stmt:=(top 42)
abbrev jZ:List Str:=["moment"]
theorem gB:L2.aw ["moment","top","bottom"] ["moment"] (L2.ai g9):=eJ
def il (a b:Int):Bool:=decide (b≤60∧1≤b∧Int.gcd a b=1∧0≤a∧a≤1000000 * b)
def Ax:cS:=λxs J Q _=>∃a b:Int,xs=[.tup [.int a,.int b]]∧Q (.bl (il a b)) J
theorem pj {f:Addr} {fd:FuncData} (F:cE K "good_moment" "good_moment" g9 f fd) (Z:cb mg) {nv nA:Tok} (jJ:mg "FINEST"=some (.int 60 nv)) (jK:mg "LATEST"=some (.int 1000000 nA)) (me:bC P w K mg base 2 "in_lowest_terms" gr xG):aQ P w K mg base (dn P w) 3 f fd jZ (d4 K Ax):=by
 simp_arith [gB,(aj (vC (rv 0) (vB (n:=2) rfl (dA (bJ (i:=1) gB.nd) (dA (bJ (i:=2) gB.nd) pN))))
   (aj (aY (fb (qQ (aB oV (rv 2) (fB (v:=.int 60) (.int 60) rfl jJ ⟨_,rfl⟩ (λ_ _=>rfl))) (lW (j6 (dh (aU me B hr (af (rv 0) ah))))))) (au (aE qO)) aL)
   (au (aE (ES Ab Ab ag (rv 1) (aO bU (fB (v:=.int 1000000) (.int 1000000) rfl jK ⟨_,rfl⟩ (λ_ _=>rfl)) (rv 2)))))))]
 ·obtain ⟨a,b,rfl,_⟩:=h;rfl
 obtain ⟨a,b,rfl,q⟩:=h
 refine hX ?_
 unfold il at q
 simp_all! []
 simp_all! []
 by_cases c1:60 < b
 ·rw [if_pos c1]
  rw [decide_eq_false (λz=>by omega)] at q
  exact q
 rw [if_neg c1]
 simp_all! []
 refine ⟨a,b,rfl,?_⟩
 by_cases c2:1≤b∧Int.gcd a b=1
 ·rw [decide_eq_true c2]
  simp_all! [vq]
  by_cases c3:0≤a
  ·simp only [c3,decide_true,if_true]
   refine ⟨.of (.small (x:=1000000) (by decide) (by decide)) (.small (x:=b) (by omega) (by omega)),?_⟩
   have:decide (a≤1000000 * b)=decide (b≤60∧1≤b∧Int.gcd a b=1∧0≤a∧a≤1000000 * b):=decide_eq_decide.mpr ⟨λz=>⟨by omega,c2.1,c2.2,c3,z⟩,λz=>z.2.2.2.2⟩
   rw [this];exact q
  ·rw [decide_eq_false (λz=>c3 z.2.2.2.1)] at q
   simp only [c3,decide_false]
   rw [if_neg (λz=>z)]
   exact q
 ·rw [decide_eq_false c2]
  rw [decide_eq_false (λz=>c2 ⟨z.2.1,z.2.2.1⟩)] at q
  simp_all! []
  exact q
theorem bt.less {cN cL:Addr} {J J':Hq} {p:Addr} {L:Ln} (h:bt cN cL J p L) (l:nH J J'):bt cN cL J' p L:=h.keep λa o _ e=>by
 rcases l a with z | z
 ·rw [← z];exact e
 ·rw [z] at e;cases e
theorem tR {J J':Hq} {p r:Addr} {x y:HQ} (l:nH J J') (hp:J p=none) (hr:J' r=none):nH J (put (put J' r x) p y):=λa=>by
 by_cases e:a=p
 ·exact .inr (by rw [e];exact hp)
 by_cases e2:a=r
 ·rcases l a with z | z
  ·right;rw [z,e2];exact hr
  ·exact .inr z
 ·rw [ak e,ak e2];exact l a
theorem BF {J:Hq} {p r:Addr} {x y z:HQ} (hp:J p=none) (hr:put J p x r=none):nH J (put (put (put J p x) r y) p z):=tR (gi hp) hp hr
theorem C_ (xs:List PV) (k:Nat) (h:k≤xs.length):kQ xs (some (k:Int)) none=xs.drop k:=by
 unfold kQ HT.dT
 simp only [Int.toNat_natCast]
 rw [if_neg (by omega),UE h]
 rw [S9 (by rw [TF];exact So _)]
theorem cI.keys {L:Ln} (ok:cI L):L.row.map PV.str=(dR (L.fs.map (key L.t))).map λk=>PV.str k.n:=by rw [ok.row];unfold cT;rw [Ss];rfl
theorem uJ {L:Ln} (ok:bc L) {a:Ky} (ha:a∈dR (L.fs.map (key L.t))) {c:Cf} (hc:c∈L.cs) (hg:c.g=none) (e:c.n=a.n):a=key L.t (c.n,c.cur):=by
 obtain ⟨x,hx,rfl⟩:=Sh.mp ((bT _ _).mp ha)
 obtain ⟨c0,hc0,h1,h2,h3⟩:=M1 (n:=x.1) (l:=x.2) hx
 have:c0=c:=ok.uniq hc0 hc (h1.trans e.symm)
 subst this
 show key L.t (x.1,x.2)=_
 rw [← h3,← h1]
theorem pO {L:Ln} (ok:cI L) {a:Ky} (ha:a∈dR (L.fs.map (key L.t))):a.n∈L.row:=by
 rw [ok.row];unfold cT;exact Sh.mpr ⟨a,ha,rfl⟩
theorem wO {L:Ln} (ok:cI L) {a b:Ky} (ha:a∈dR (L.fs.map (key L.t))) (hb:b∈dR (L.fs.map (key L.t))) (h:b.v < a.v):Sz 9000 (ip L.t a b):=by
 obtain ⟨c,hc,hcn,hcg⟩:=ok.found (pO ok ha)
 obtain ⟨c',hc',hcn',hcg'⟩:=ok.found (pO ok hb)
 have ea:=uJ ok.tobc ha hc hcg hcn
 have eb:=uJ ok.tobc hb hc' hcg' hcn'
 have hv:c.cur.v≠c'.cur.v:=by rw [ea,eb] at h;exact λz=>by have:c'.cur.v < c.cur.v:=h;omega
 rw [ea,eb,← pG hv]
 exact (wR (ok.O3 hc) (ok.O3 hc') hv).mono (by decide)
theorem cI.knd {L:Ln} (ok:cI L):((L.fs.map (key L.t)).map Ky.n).Nodup:=by rw [eh];exact ok.Mm
theorem cI.PZ {L:Ln} (ok:cI L):(dR (L.fs.map (key L.t))).length≤12:=by
 have h1:=ok.rl
 have h2:=congrArg TV ok.keys
 rw [Sg,Sg] at h2
 omega
theorem DW {L:Ln} (ok:cI L) {i j:Nat} {a b:Ky} (ha:(dR (L.fs.map (key L.t)))[i]?=some a) (hb:(dR (L.fs.map (key L.t)))[j]?=some b) (hij:i < j) {c c':Cf} (hc:c∈L.cs) (hc':c'∈L.cs) (hg:c.g=none) (hg':c'.g=none) (e:c.n=a.n) (e':c'.n=b.n) :
  GO L.t c.cur c'.cur=if b.v < a.v∧a.p < b.p then some (ip L.t a b) else none:=by
 have ea:=uJ ok.tobc (Sv ha) hc hg e
 have eb:=uJ ok.tobc (Sv hb) hc' hg' e'
 have hlt:a.lt b=true:=by
  obtain ⟨hil,ei⟩:=Sj.mp ha
  obtain ⟨hjl,ej⟩:=Sj.mp hb
  have:=Tf.mp (eL ok.knd) i j hil hjl hij
  rw [ei,ej] at this;exact this
 rw [ea,eb] at hlt ⊢
 have key:=GP hlt
 unfold GO
 by_cases z:c.cur.v≠c'.cur.v∧L.t < mI c.cur c'.cur
 ·rw [if_pos z,if_pos (show (Ov.key L.t (c'.n,c'.cur)).v < (Ov.key L.t (c.n,c.cur)).v∧(Ov.key L.t (c.n,c.cur)).p < (Ov.key L.t (c'.n,c'.cur)).p from key.mp z),pG z.1]
 ·rw [if_neg z,if_neg (show ¬ ((Ov.key L.t (c'.n,c'.cur)).v < (Ov.key L.t (c.n,c.cur)).v∧(Ov.key L.t (c.n,c.cur)).p < (Ov.key L.t (c'.n,c'.cur)).p) from λy=>z (key.mpr y))]
abbrev fR:Stmt:=(L2.inClass (top 44) 6)
abbrev iy:List Str:=["self","moment"]
theorem cj:L2.aw ["self","moment","passings","at","hind","fore","met"] ["self","moment"] (L2.ai fR):=eJ
theorem tS {J J':Hq} {l:Addr} {o:HQ} (h:nH J J'):nH (put J l o) (put J' l o):=λa=>by
 by_cases e:a=l
 ·subst e;rw [aq,aq];exact .inl rfl
 ·rw [ak e,ak e];exact h a
def AE (cN cL eM eP:Addr):cS:=λxs J Q E=>∃p L a b,xs=[.ref p,.tup [.int a,.int b]]∧bt cN cL J p L∧cI L∧(il a b=false→E eM J)∧(∀m:Rat,m.num=a→(m.den:Int)=b→il a b=true→(m < L.t→E eP J)∧(L.t≤m→Q (.fl ((oW L.t (L.fs.map (key L.t)) m).map aS.v)) J∨∀l,J l=none→Q (.ref l) (put J l (.lst ((oW L.t (L.fs.map (key L.t)) m).map aS.v)))))
theorem n8 {cN cL cB eM eP eC f:Addr} {fd:FuncData} (F:cE K "foretold" "Lane.foretold" fR f fd) (Z:cb mg) (ax:fe K mg "Lane" cN) (az:aI K cN "now") (aH:aI K cN "row") (jC:Own K mg "BadMoment" eM) (ya:Own K mg "Past" eP) (rQ:bC P w K mg base 3 "good_moment" jZ Ax) (de:bC P w K mg base 1 "less" fA cY) (ur:Bf P w K mg base cB 1 "Bells" gR (As cB)) (iT:dq P w K mg base cN 6 "meets" k9 (xJ cN cL eC)) (jN:dq P w K mg base cB 3 "put" mQ (E6 cB)) (iN:dq P w K mg base cB 1 "told" k4 (Au cB)):aQ P w K mg base (dn P w) 7 f fd iy (d4 K (AE cN cL eM eP)):=by
 simp_arith [cj,(aj (aY (j6 (dh (aU rQ B hr (af (rv 1) ah)))) (au (dS jC rfl cK B.kn rfl (af bK ah))) aL)
   (aj (aY (dh (aU de B hr (af (rv 1) (af (ba ax.cl az (rv 0)) ah)))) (au (dS ya rfl cK B.kn rfl (af bK ah))) aL)
   (aj (aM (i:=2) cj.nd (xp ur B hr))
   (aj (d8 bZ rfl (HG rfl Z.enumerate (af (ba ax.cl aH (rv 0)) ah)) (vB (n:=2) rfl (dA (bJ (i:=3) cj.nd) (dA (bJ (i:=4) cj.nd) pN))) (au (d8 bZ rfl (dI (iC Fd (ba ax.cl aH (rv 0)) (kK (aO dN (rv 3) ag)) kJ)) (bJ (i:=5) cj.nd) (aj (aM (i:=6) cj.nd (bI (pl:=_) iT B hr (rv 0) (af (rv 4) (af (rv 5) ah))))
   (au (aY (fb (fP (aB mK (rv 6) gy) (eV (j6 (dh (aU de B hr (af (rv 1) (af (rv 6) ah)))))))) (au (bq (bI (pl:=_) jN B hr (rv 2) (af (rv 6) (af (rv 4) (af (rv 5) ah)))))) aL))))))
   (au (aE (gx (pl:=_) iN B hr (rv 2)))))))),F]
 ·obtain ⟨p,L,a,b,rfl,_⟩:=h;rfl
 obtain ⟨p,L,a,bb,rfl,b,ok,qe,q⟩:=h
 have bo:=b.ob
 refine hX ?_
 simp_all! []
 refine ⟨a,bb,rfl,?_⟩
 cases hg:il a bb with
 | false =>
  simp_all! [ft]
  exact qe hg
 | true =>
  have hgm:=of_decide_eq_true hg
  obtain ⟨m,hm1,hm2⟩:∃m:Rat,m.num=a∧(m.den:Int)=bb:=⟨⟨a,bb.toNat,by omega,by
   have:=hgm.2.2.1
   unfold Int.gcd at this
   show Nat.gcd a.natAbs bb.toNat=1
   rw [show bb.toNat=bb.natAbs by omega];exact this⟩,rfl,by show ((bb.toNat:Nat):Int)=bb;omega⟩
  obtain ⟨q1,q2⟩:=q m hm1 hm2 hg
  have ef:PV.tup [.int a,.int bb]=fr m:=by rw [← hm1,← hm2];rfl
  have sm:Sz 900 m:=⟨(Bd.small (x:=m.num) (by omega) (by omega)).mono (by decide),(Bd.small (x:=(m.den:Int)) (by omega) (by omega)).mono (by decide)⟩
  simp_all! [bo,sF,ef]
  refine ⟨_,_,rfl,sm.mono (by decide),ok.Ih.mono (by decide),?_⟩
  by_cases c1:m < L.t
  ·rw [decide_eq_true c1]
   simp_all! [ft]
   exact q1 c1
  rw [decide_eq_false c1]
  have q:=q2 (by grind)
  simp_all! []
  intro pb hpb
  refine ⟨pb,rfl,aq,λr0 hr0=>⟨rfl,?_⟩⟩
  have l0:=BF (y:=.lst []) (z:=.ins cB [("rows",.ref r0)]) hpb hr0
  have nr0:r0≠pb:=by intro e;subst e;rw [aq] at hr0;cases hr0
  have b0:JE cB (put (put (put J pb (.ins cB [])) r0 (.lst [])) pb (.ins cB [("rows",.ref r0)])) pb r0 []:=⟨aq,by rw [ak nr0];exact aq⟩
  generalize put (put (put J pb (.ins cB [])) r0 (.lst [])) pb (.ins cB [("rows",.ref r0)])=J0 at l0 b0 ⊢
  simp_all! [(b.less l0).ob,(b.less l0).rw,uO]
  obtain ⟨ks,hks⟩:∃ks,dR (L.fs.map (key L.t))=ks:=⟨_,rfl⟩
  have hrow:L.row.map PV.str=ks.map λk=>PV.str k.n:=by rw [← hks];exact ok.keys
  have hkl:ks.length≤12:=by rw [← hks];exact ok.PZ
  have hup:∀{ps:List (Ky × Ky)},(∀p∈ps,p.1∈ks∧p.2∈ks)→∀x∈eI L.t (f_ L.t m) ps,Sz 9000 x.m:=λhp x hx=>by
   obtain ⟨p,hp',hc,rfl⟩:=tN _ hx
   have:=of_decide_eq_true hc
   exact wO ok (by rw [hks];exact (hp p hp').1) (by rw [hks];exact (hp p hp').2) this.1
  rw [hrow]
  obtain ⟨Inv,hInv⟩:∃Inv:Nat→Sr→Hq→Prop,∀i τ J',Inv i τ J'↔∃(r:Addr) (u3 u4 u5 u6:Option PV),τ=[some (.ref p),some (fr m),some (.ref pb),u3,u4,u5,u6]∧nH J J'∧JE cB J' pb r (eI L.t (f_ L.t m) (xV ks i))∧(eI L.t (f_ L.t m) (xV ks i)).length≤12 * i:=⟨_,λ_ _ _=>Iff.rfl⟩
  refine d6 Inv ((hInv _ _ _).mpr ⟨r0,_,_,_,_,rfl,l0,b0,So _⟩) (λi τ J' h=>?_) ?_ ?_
  ·obtain ⟨r,_,_,_,_,_,l',_⟩:=(hInv _ _ _).mp h
   rw [(b.less l').rw,hrow]
  ·intro i x τ J' hx hv
   obtain ⟨r,u3,u4,u5,u6,rfl,l',bb,hle⟩:=(hInv _ _ _).mp hv
   clear hv
   have hi:i < ks.length:=by have:=(Sj.mp hx).1;rw [kC,Sg] at this;exact this
   have ha:ks[i]?=some ks[i]:=Si hi
   rw [tK _ i (.str (ks[i]).n) (by rw [Sl,ha];rfl)] at hx
   cases hx
   generalize ks[i]=a at ha ⊢
   simp_all! [(b.less l').ob,(b.less l').rw,uO]
   rw [hrow,show (i:Int) + 1=((i + 1:Nat):Int) by omega,C_ _ _ (by rw [Sg];omega),← Ua]
   have eup:xV ks (i + 1)=xV ks i ++ (ks.drop (i + 1)).map λb=>(a,b):=by show xV ks i ++ _=_;rw [ha]
   have mup:∀j,∀p∈xV ks i ++ ((ks.drop (i + 1)).take j).map (λb=>(a,b)),p.1∈ks∧p.2∈ks:=λj p hp=>by
    rcases Sq.mp hp with hp | hp
    ·obtain ⟨_,_,_,_,h3,h4⟩:=nC.mp hp
     exact ⟨Sv h3,Sv h4⟩
    ·obtain ⟨y,hy,rfl⟩:=Sh.mp hp
     exact ⟨Sv ha,UH (Tn hy)⟩
   obtain ⟨In2,hIn2⟩:∃In2:Nat→Sr→Hq→Prop,∀j τ J',In2 j τ J'↔∃(r:Addr) (u5 u6:Option PV),τ=[some (.ref p),some (fr m),some (.ref pb),some (.int (i:Int)),some (.str a.n),u5,u6]∧nH J J'∧JE cB J' pb r (eI L.t (f_ L.t m) (xV ks i ++ ((ks.drop (i + 1)).take j).map λb=>(a,b)))∧(eI L.t (f_ L.t m) (xV ks i ++ ((ks.drop (i + 1)).take j).map λb=>(a,b))).length≤12 * i + j:=⟨_,λ_ _ _=>Iff.rfl⟩
   refine d6 In2 ((hIn2 _ _ _).mpr ⟨r,_,_,rfl,l',by simpa using bb,by simpa using hle⟩) (λ_ _ _ _=>trivial) ?_ ?_
   ·intro j x τ J2 hx hv
    obtain ⟨r2,u5,u6,rfl,l2,bb2,hle2⟩:=(hIn2 _ _ _).mp hv
    clear hv
    have hj:j < (ks.drop (i + 1)).length:=by have:=(Sj.mp hx).1;rw [Sg] at this;exact this
    have hb:(ks.drop (i + 1))[j]?=some (ks.drop (i + 1))[j]:=Si hj
    rw [Sl,hb] at hx
    cases hx
    generalize (ks.drop (i + 1))[j]=y at hb ⊢
    have hb':ks[i + 1 + j]?=some y:=by rw [Ui] at hb;exact hb
    have hjl:j < 12:=by rw [TF] at hj;omega
    have ej:(ks.drop (i + 1)).take (j + 1)=(ks.drop (i + 1)).take j ++ [y]:=by rw [SS,hb];rfl
    have ef2:eI L.t (f_ L.t m) (xV ks i ++ ((ks.drop (i + 1)).take (j + 1)).map λb=>(a,b))=sT L.t (f_ L.t m) (eI L.t (f_ L.t m) (xV ks i ++ ((ks.drop (i + 1)).take j).map λb=>(a,b))) (a,y):=by
     rw [ej,Sk,← Uo];exact iL _ _ _ _
    have srt:=tM L.t (f_ L.t m) (xV ks i ++ ((ks.drop (i + 1)).take j).map λb=>(a,b))
    have szs:=hup (mup j)
    generalize eI L.t (f_ L.t m) (xV ks i ++ ((ks.drop (i + 1)).take j).map λb=>(a,b))=rows at bb2 hle2 ef2 srt szs
    have oM:f_ L.t m (a,y)=false→∀{v5 v6},In2 (j + 1) [some (.ref p),some (fr m),some (.ref pb),some (.int (i:Int)),some (.str a.n),v5,v6] J2:=λhc v5 v6=>by
     have e:sT L.t (f_ L.t m) rows (a,y)=rows:=by unfold sT;rw [if_neg (by rw [hc];decide)]
     exact (hIn2 _ _ _).mpr ⟨r2,_,_,rfl,l2,by rw [ef2,e];exact bb2,by rw [ef2,e];omega⟩
    have b2:=b.less l2
    simp_all! [b2.ob]
    refine ⟨gK _ _ _ _,p,L,a.n,y.n,rfl,b2,ok.tobc,λc hc c' hc' e e' hg hg'=>?_,λz=>?_⟩
    ·have hmet:=DW ok (by rw [hks];exact ha) (by rw [hks];exact hb') (by omega) hc hc' hg hg' e e'
     rw [hmet]
     by_cases c2:y.v < a.v∧a.p < y.p
     ·rw [if_pos c2]
      have smk:=wO ok (by rw [hks];exact Sv ha) (by rw [hks];exact Sv hb') c2.1
      simp_all! [gv,qp,cY]
      refine ⟨sm.mono (by decide),smk,?_⟩
      by_cases c3:m < ip L.t a y
      ·rw [if_pos c3]
       exact oM (decide_eq_false (λz=>by have:=z.2.2;grind))
      ·rw [if_neg c3]
       have hcp:f_ L.t m (a,y)=true:=decide_eq_true ⟨c2.1,c2.2,by grind⟩
       have e:sT L.t (f_ L.t m) rows (a,y)=lQ ⟨ip L.t a y,a.n,y.n⟩ (ed a.n y.n rows):=by unfold sT;rw [if_pos hcp];rfl
       simp_all! [bb2.o]
       refine ⟨P2 _,pb,r2,rows,ip L.t a y,a.n,y.n,rfl,bb2,srt,by omega,smk,szs,λr' hr'=>?_⟩
       have nr:r'≠pb:=by intro z;subst z;rw [bb2.o] at hr';cases hr'
       refine (hIn2 _ _ _).mpr ⟨r',_,_,rfl,tR l2 hpb hr',⟨aq,by rw [ak nr,aq,ef2,e]⟩,?_⟩
       rw [ef2,e,Dy]
       have:=tH a.n y.n rows
       omega
     ·rw [if_neg c2]
      simp_all! [gv]
      exact oM (decide_eq_false (λz=>c2 ⟨z.1,z.2.1⟩))
    ·rcases z with z | z
     ·exact absurd (pO ok (by rw [hks];exact Sv ha)) z
     ·exact absurd (pO ok (by rw [hks];exact Sv hb')) z
   ·intro τ J2 hv
    obtain ⟨r2,u5,u6,rfl,l2,bb2,hle2⟩:=(hIn2 _ _ _).mp hv
    rw [Sg,SV,← eup] at bb2 hle2
    rw [TF] at hle2
    exact (hInv _ _ _).mpr ⟨r2,_,_,_,_,rfl,l2,bb2,by omega⟩
  ·intro τ J' hv
   obtain ⟨r,u3,u4,u5,u6,rfl,l',bb,hle⟩:=(hInv _ _ _).mp hv
   rw [kC,Sg,← hks,Il ok.knd] at bb
   simp_all! [bb.o]
   exact ⟨P4 _,pb,r,_,rfl,bb,q.imp (λq=>Fg.less l' q) λq l hl=>Fg.less (tS l') (q l ((l' l).elim (λe=>e.trans hl) id))⟩
theorem wC {m:Rat} (h:il m.num m.den=true):Sc gX MM m∧0≤m:=by
 have h:=of_decide_eq_true h
 have hd:m.den≤60:=by omega
 constructor
 ·have h1:Sc m.den m.num.natAbs m:=⟨m.num,by have:=cast_eq m;rw [this];rfl,So _⟩
  obtain ⟨k,hk⟩:=Ru m.den m.den_pos hd
  have h2:=h1.scale (E:=k)
  rw [show k * m.den=gX by rw [hk,Nat.mul_comm]] at h2
  refine h2.mono ?_
  have h3:m.num.natAbs≤1000000 * m.den:=by omega
  have h4:k * m.num.natAbs≤k * (1000000 * m.den):=Nat.mul_le_mul_left _ h3
  have h5:k * (1000000 * m.den)=1000000 * gX:=by rw [hk];rw [Nat.mul_left_comm,Nat.mul_comm k]
  unfold MM
  omega
 ·exact Rat.num_nonneg.mp h.2.2.2.1
theorem bc.M3 {L:Ln} (h:bc L) {m:Rat} (hm:L.t≤m) (hg:il m.num m.den=true):bc { L with t:=m } :=
 ⟨h.nd,h.ne,λc hc l hl=>Rat.le_trans (h.le c hc l hl) hm,h.ck,h.len,λc hc q e=>⟨(h.gz c hc q e).1,Rat.le_trans (h.gz c hc q e).2 hm⟩,(wC hg).2,(wC hg).1,h.many,h.rm,h.rn,h.rl⟩
abbrev i9:Stmt:=(L2.inClass (top 44) 5)
abbrev k7:List Str:=["self","moment"]
theorem lD:L2.aw ["self","moment","passings"] ["self","moment"] (L2.ai i9):=eJ
def Jv (cN cL eM eP:Addr):cS:=λxs J Q E=>∃p L a b,xs=[.ref p,.tup [.int a,.int b]]∧bt cN cL J p L∧cI L∧(il a b=false→E eM J)∧(∀m:Rat,m.num=a→(m.den:Int)=b→il a b=true→(m < L.t→E eP J)∧(L.t≤m→∀J' o',bt cN cL J' p { L with t:=m,o:=o',row:=cT m L.fs }→cI { L with t:=m,o:=o',row:=cT m L.fs }→Mv J J' (L.own p) (Ln.own { L with t:=m,o:=o',row:=cT m L.fs } p)→Q (.fl ((oW L.t (L.fs.map (key L.t)) m).map aS.v)) J'))
theorem sL {cN cL eM eP f:Addr} {fd:FuncData} (F:cE K "go_to" "Lane.go_to" i9 f fd) (Z:cb mg) (ax:fe K mg "Lane" cN) (az:aI K cN "now") (fK:dq P w K mg base cN 7 "foretold" iy (AE cN cL eM eP)) (bz:dq P w K mg base cN 7 "settle" dy (iF cN cL)):aQ P w K mg base (dn P w) 8 f fd k7 (d4 K (Jv cN cL eM eP)):=by
 simp_arith [lD,(aj (aM (i:=2) lD.nd (bI (pl:=_) fK B hr (rv 0) (af (rv 1) ah)))
   (aj (g7 ax.cl az (rv 0) (rv 1))
   (aj (bq (gx (pl:=_) bz B hr (rv 0)))
   (au (aE (rv 2))))))]
 ·obtain ⟨p,L,a,b,rfl,_⟩:=h;rfl
 obtain ⟨p,L,a,bb,rfl,b,ok,qe,q⟩:=h
 have bo:=b.ob
 refine hX ?_
 simp_all! [bo]
 refine ⟨gK _ _ _ _,p,L,a,bb,rfl,b,ok,qe,λm h1 h2 hg=>⟨(q m h1 h2 hg).1,λhm=>.inl ?_⟩⟩
 have q:=(q m h1 h2 hg).2 hm
 have ef:PV.tup [.int a,.int bb]=fr m:=by rw [← h1,← h2];rfl
 have hgm:il m.num m.den=true:=by rw [h1,h2];exact hg
 have ok1:=ok.tobc.M3 hm hgm
 simp_all! [bo,ef]
 refine ⟨by show (3:Nat) < 1000;decide,?_⟩
 have b1:bt cN cL (put J p (.ins cN [("now",fr m),("logs",.ref L.d),("row",.ref L.o)])) p { L with t:=m } :=
  ⟨aq,by show put J p _ L.d=_;rw [ak b.GV];exact b.dc,by show put J p _ L.o=_;rw [ak b.GX];exact b.rw,λc hc=>⟨by rw [ak (b.O5 hc)];exact (b.lg c hc).o,by rw [ak (b.Mp hc)];exact (b.lg c hc).l⟩,b.ap,b.ao⟩
 have mv1:Mv J (put J p (.ins cN [("now",fr m),("logs",.ref L.d),("row",.ref L.o)])) (L.own p) (L.own p):=gj (.inl rfl) λa h=>.inl h
 generalize put J p (.ins cN [("now",fr m),("logs",.ref L.d),("row",.ref L.o)])=J1 at b1 mv1 ⊢
 simp_all! [b1.ob]
 refine ⟨gK _ _ _ _,p,{ L with t:=m },rfl,b1,ok1,λJ2 o' b2 mv2=>?_⟩
 simp_all! []
 exact q J2 o' b2 (cI.settled ok1 o') (mv1.trans mv2)
def Cf.turn (c:Cf) (t:Rat) (v:Int):Cf:={ c with w:=turned c.w t v }
def cU (n:Str) (t:Rat) (v:Int) (c:Cf):Cf:=if c.n=n then c.turn t v else c
theorem fZ (n:Str) (t:Rat) (v:Int) (c:Cf):(cU n t v c).n=c.n∧(cU n t v c).a=c.a∧(cU n t v c).r=c.r∧(cU n t v c).g=c.g:=by unfold cU;split <;> exact ⟨rfl,rfl,rfl,rfl⟩
theorem c_ {α β:Type} {f:α→β} {g:α→α} (h:∀x,f (g x)=f x) (l:List α):(l.map g).map f=l.map f:=by rw [Ss];exact SG λx _=>h x
theorem bc.map {L:Ln} (h:bc L) {f:Cf→Cf} (hn:∀c,(f c).n=c.n∧(f c).a=c.a∧(f c).r=c.r∧(f c).g=c.g) (hw:∀c∈L.cs,(f c).w≠[]∧(∀l∈(f c).w,l.m≤L.t∧rO l)∧(f c).w.length≤200):bc { L with cs:=L.cs.map f }:=by
 have mem:∀c∈L.cs.map f,∃c0∈L.cs,f c0=c:=λc hc=>by obtain ⟨c0,h0,e⟩:=Sh.mp hc;exact ⟨c0,h0,e⟩
 have hfs:(Ln.fs { L with cs:=L.cs.map f }).map (·.1)=L.fs.map (·.1):=by
  rw [fG,fG]
  unfold Ln.Ca
  show ((L.cs.map f).filter _).map Cf.n=_
  rw [Tg,Ss]
  have e1:(λc:Cf=>c.g.isNone) ∘ f=λc=>c.g.isNone:=by funext c;show (f c).g.isNone=_;rw [(hn c).2.2.2]
  rw [e1]
  exact SG λc _=>(hn c).1
 refine ⟨?_,?_,?_,?_,?_,?_,h.t0,h.ts,by show (L.cs.map f).length≤100;rw [Sg];exact h.many,λn=>by rw [hfs];exact h.rm n,h.rn,h.rl⟩
 ·show ((L.cs.map f).map Cf.n).Nodup
  rw [c_ (λc=>(hn c).1)];exact h.nd
 ·intro c hc;obtain ⟨c0,h0,rfl⟩:=mem c hc;exact (hw c0 h0).1
 ·intro c hc l hl;obtain ⟨c0,h0,rfl⟩:=mem c hc;exact ((hw c0 h0).2.1 l hl).1
 ·intro c hc l hl;obtain ⟨c0,h0,rfl⟩:=mem c hc;exact ((hw c0 h0).2.1 l hl).2
 ·intro c hc;obtain ⟨c0,h0,rfl⟩:=mem c hc;exact (hw c0 h0).2.2
 ·intro c hc q e;obtain ⟨c0,h0,rfl⟩:=mem c hc;exact h.gz c0 h0 q (by rw [← (hn c0).2.2.2];exact e)
theorem bc.IH {L:Ln} (h:bc L) {c:Cf} (hc:c∈L.cs):c.w≠[]∧(∀l∈c.w,l.m≤L.t∧rO l)∧c.w.length≤200:=⟨h.ne c hc,λl hl=>⟨h.le c hc l hl,h.ck c hc l hl⟩,h.len c hc⟩
theorem bc.JD {L:Ln} (h:bc L) {c:Cf} (hc:c∈L.cs) (hl:c.w.length < 200) {v:Int} (hv:v.natAbs≤1000):(c.turn L.t v).w≠[]∧(∀l∈(c.turn L.t v).w,l.m≤L.t∧rO l)∧(c.turn L.t v).w.length≤200:=by
 refine ⟨ub (h.ne c hc),λl hl'=>?_,?_⟩
 ·rcases zl hl' with k | ⟨l0,k,rfl⟩
  ·exact ⟨h.le c hc l k,h.ck c hc l k⟩
  ·exact ⟨Rat.le_refl,(h.ck c hc l0 k).at (h.le c hc l0 k) h.ts hv⟩
 ·have:=l_ c.w L.t v
  show (turned c.w L.t v).length≤200
  omega
theorem bt.turn {cN cL:Addr} {J:Hq} {p:Addr} {L:Ln} (h:bt cN cL J p L) (ok:bc L) {c:Cf} (hc:c∈L.cs) {t:Rat} {v:Int}:bt cN cL (put J c.r (.lst ((turned c.w t v).map aK.V))) p { L with cs:=L.cs.map (cU c.n t v) }:=by
 have hcs:=fZ c.n t v
 refine ⟨by rw [ak (Ne.symm (h.Mp hc))];exact h.ob,?_,?_,λx hx=>?_,?_,λx hx=>?_⟩
 ·show put J c.r _ L.d=_
  rw [ak (Ne.symm (h.Rx hc)),h.dc]
  show _=Te (HQ.dct ((L.cs.map (cU c.n t v)).map λc=>(c.n,PV.ref c.a)) L.e)
  rw [c_ (f:=λc:Cf=>(c.n,PV.ref c.a)) (λx=>by rw [(hcs x).1,(hcs x).2.1])]
 ·show put J c.r _ L.o=_
  rw [ak (Ne.symm (h.ao c hc))];exact h.rw
 ·obtain ⟨x0,h0,rfl⟩:=Sh.mp hx
  have hl:=h.lg x0 h0
  refine ⟨?_,?_⟩
  ·rw [(hcs x0).2.1,(hcs x0).2.2.1,(hcs x0).2.2.2,ak (h.R6 h0 hc)];exact hl.o
  ·rw [(hcs x0).2.2.1]
   by_cases e:x0.n=c.n
   ·have:x0=c:=ok.uniq h0 hc e
    subst this
    rw [aq]
    unfold cU;rw [if_pos rfl];rfl
   ·have hr:x0.r≠c.r:=λz=>e (by
     obtain ⟨i,hi,rfl⟩:=S4 h0
     obtain ⟨j,hj,rfl⟩:=S4 hc
     have:=(TC (xs:=L.cs.map Cf.r) (i:=i) (j:=j) (h₀:=by simpa using hi) (h₁:=by simpa using hj) h.ap).mp (by rw [Ti,Ti];exact z)
     subst this;rfl)
    rw [ak hr]
    unfold cU;rw [if_neg e];exact hl.l
 ·show ((L.cs.map (cU c.n t v)).map Cf.r).Nodup
  rw [c_ (λx=>(hcs x).2.2.1)];exact h.ap
 ·obtain ⟨x0,h0,rfl⟩:=Sh.mp hx
  rw [(hcs x0).2.2.1];exact h.ao x0 h0
theorem vd {L:Ln} {p:Addr} {f:Cf→Cf} (hn:∀c,(f c).n=c.n∧(f c).a=c.a∧(f c).r=c.r∧(f c).g=c.g) (a:Addr):Ln.own { L with cs:=L.cs.map f } p a↔L.own p a:=by
 unfold Ln.own
 constructor
 ·rintro (h | h | h | ⟨c,hc,h⟩)
  ·exact .inl h
  ·exact .inr (.inl h)
  ·exact .inr (.inr (.inl h))
  ·obtain ⟨c0,h0,rfl⟩:=Sh.mp hc
   rw [(hn c0).2.1,(hn c0).2.2.1] at h
   exact .inr (.inr (.inr ⟨c0,h0,h⟩))
 ·rintro (h | h | h | ⟨c,hc,h⟩)
  ·exact .inl h
  ·exact .inr (.inl h)
  ·exact .inr (.inr (.inl h))
  ·exact .inr (.inr (.inr ⟨f c,Sh.mpr ⟨c,hc,rfl⟩,by rw [(hn c).2.1,(hn c).2.2.1];exact h⟩))
abbrev j9:Stmt:=(L2.inClass (top 44) 3)
abbrev mS:List Str:=["self","name","pace"]
theorem vM:L2.aw ["self","name","pace"] ["self","name","pace"] (L2.ai j9):=eJ
def AH (cN cL eC eF:Addr):cS:=λxs J Q E=>∃p L n v,xs=[.ref p,.str n,.int v]∧bt cN cL J p L∧cI L∧(∀c∈L.cs,c.w.length < 200)∧(n ∉ L.row→E eC J)∧(n∈L.row→¬ v.natAbs≤1000→E eF J)∧(n∈L.row→v.natAbs≤1000→∀J' L',bt cN cL J' p L'→cI L'→L'.cs=L.cs.map (cU n L.t v)→L'.t=L.t→Mv J J' (L.own p) (L'.own p)→Q .non J')
theorem uV {cN cL eC eF f:Addr} {fd:FuncData} (F:cE K "turn" "Lane.turn" j9 f fd) (Z:cb mg) (ax:fe K mg "Lane" cN) (aJ:aI K cN "logs") (az:aI K cN "now") {f7:Tok} (eg:mg "FASTEST"=some (.int 1000 f7)) (ib:Own K mg "TooFar" eF) (a_:dq P w K mg base cN 1 "must_be_there" cx (pW cN cL eC)) (fk:dq P w K mg base cL 5 "turn" jV (vW cL)) (bz:dq P w K mg base cN 7 "settle" dy (iF cN cL)):aQ P w K mg base (dn P w) 8 f fd mS (d4 K (AH cN cL eC eF)):=by
 simp_arith [vM,(aj (bq (bI (pl:=_) a_ B hr (rv 0) (af (rv 1) ah)))
   (aj (aY (aB oV (bx yf rfl Z.abs boot_abs (af (rv 2) ah)) (fB (v:=.int 1000) (.int 1000) rfl eg ⟨_,rfl⟩ (λ_ _=>rfl))) (au (dS ib rfl cK B.kn rfl (af bK ah))) aL)
   (aj (bq (bI (pl:=_) fk B hr (ar cM (ba ax.cl aJ (rv 0)) (rv 1)) (af (ba ax.cl az (rv 0)) (af (rv 2) ah))))
   (au (bq (gx (pl:=_) bz B hr (rv 0)))))))]
 ·obtain ⟨p,L,n,v,rfl,_⟩:=h;rfl
 obtain ⟨p,L,n,v,rfl,b,ok,hlen,qc,qf,q⟩:=h
 have bo:=b.ob
 have bd:=b.dc
 refine hX ?_
 simp_all! [bo]
 refine ⟨gK _ _ _ _,p,L,n,rfl,b,λhn=>?_,qc⟩
 simp_all! []
 have habs:(1000 < if v < 0 then -v else v)↔¬ v.natAbs≤1000:=by split <;> omega
 by_cases hv:v.natAbs≤1000
 ·rw [if_neg (λz=>habs.mp z hv)]
  obtain ⟨c,hc,rfl,hg⟩:=ok.found hn
  have lo:=(b.lg c hc).o
  have ok1:bc { L with cs:=L.cs.map (cU c.n L.t v) }:=ok.tobc.map (fZ c.n L.t v) λx hx=>by
   unfold cU
   split
   ·exact ok.tobc.JD hx (hlen x hx) hv
   ·exact ok.tobc.IH hx
  have b1:=b.turn ok.tobc hc (t:=L.t) (v:=v)
  have mv1:Mv J (put J c.r (.lst ((turned c.w L.t v).map aK.V))) (L.own p) (Ln.own { L with cs:=L.cs.map (cU c.n L.t v) } p):=gj (.inr (.inr (.inr ⟨c,hc,.inr rfl⟩))) λa h=>.inl ((vd (fZ c.n L.t v) a).mp h)
  simp_all! [bo,sF,uN,bd,ok.va hc,lo]
  refine ⟨Nt _ _,c.a,c.r,c.w,c.g,L.t,v,rfl,b.lg c hc,ok.ne c hc,SH (ok.len c hc) (by decide),ok.Ih,λl hl=>(ok.ck c hc l hl).yz,?_⟩
  generalize put J c.r (.lst ((turned c.w L.t v).map aK.V))=J1 at b1 mv1 ⊢
  simp_all! [b1.ob]
  refine ⟨gK _ _ _ _,p,_,rfl,b1,ok1,λJ2 o' b2 mv2=>?_⟩
  exact q hn hv J2 _ b2 (cI.settled ok1 o') rfl rfl (mv1.trans mv2)
 ·rw [if_pos (habs.mpr hv)]
  simp_all! [ft]
  exact qf hn hv
def d5 (t:Rat) (c:Cf):Cf:=if c.g.isNone=true then c.turn t (-c.cur.v) else c
def bh (t:Rat) (row:List Str) (c:Cf):Cf:=if c.n∈row then c.turn t (-c.cur.v) else c
theorem ig (t:Rat) (row:List Str) (c:Cf):(bh t row c).n=c.n∧(bh t row c).a=c.a∧(bh t row c).r=c.r∧(bh t row c).g=c.g:=by unfold bh;split <;> exact ⟨rfl,rfl,rfl,rfl⟩
theorem ij {L:Ln} (ok:bc L):L.cs.map (bh L.t L.row)=L.cs.map (d5 L.t):=by
 refine SG λc hc=>?_
 have h:c.n∈L.row↔c.g.isNone=true:=by
  rw [ok.rm,fG,Sh]
  constructor
  ·rintro ⟨c',hc',e⟩
   have h':=Ln.dG.mp hc'
   rw [ok.uniq h'.1 hc e] at h'
   rw [h'.2];rfl
  ·intro e
   exact ⟨c,Ln.dG.mpr ⟨hc,by cases hg:c.g with | none=>rfl | some q=>rw [hg] at e;cases e⟩,rfl⟩
 unfold bh d5
 by_cases e:c.n∈L.row
 ·rw [if_pos e,if_pos (h.mp e)]
 ·rw [if_neg e,if_neg (λz=>e (h.mpr z))]
theorem bc.bh {L:Ln} (ok:bc L) (hlen:∀c∈L.cs,c.w.length < 200) (row:List Str):bc { L with cs:=L.cs.map (bh L.t row) }:=ok.map (ig L.t row) λx hx=>by
 unfold Ov.bh
 split
 ·exact ok.JD hx (hlen x hx) (by have:=(ok.ck x hx _ (Cf.iK (ok.ne x hx)).2).v;omega)
 ·exact ok.IH hx
abbrev i8:Stmt:=(L2.inClass (top 44) 4)
abbrev k6:List Str:=["self"]
theorem hZ:L2.aw ["self","name","pace"] ["self"] (L2.ai i8):=eJ
def xH (cN cL:Addr):cS:=λxs J Q E=>∃p L,xs=[.ref p]∧bt cN cL J p L∧cI L∧(∀c∈L.cs,c.w.length < 200)∧(∀J' L',bt cN cL J' p L'→cI L'→L'.cs=L.cs.map (d5 L.t)→L'.t=L.t→Mv J J' (L.own p) (L'.own p)→Q .non J')
theorem sJ {cN cL eC f:Addr} {fd:FuncData} (F:cE K "about" "Lane.about" i8 f fd) (Z:cb mg) (ax:fe K mg "Lane" cN) (aH:aI K cN "row") (aJ:aI K cN "logs") (az:aI K cN "now") (bO:dq P w K mg base cN 4 "leg_of" eO (nt cN cL eC)) (fk:dq P w K mg base cL 5 "turn" jV (vW cL)) (bz:dq P w K mg base cN 7 "settle" dy (iF cN cL)):aQ P w K mg base (dn P w) 8 f fd k6 (d4 K (xH cN cL)):=by
 simp_arith [hZ,(aj (d8 bZ rfl (dI (ba ax.cl aH (rv 0))) (bJ (i:=1) hZ.nd) (aj (aM (i:=2) hZ.nd (ar av (bI (pl:=_) bO B hr (rv 0) (af (rv 1) ah)) ag))
   (au (bq (bI (pl:=_) fk B hr (ar cM (ba ax.cl aJ (rv 0)) (rv 1)) (af (ba ax.cl az (rv 0)) (af (lB h_ (rv 2)) ah)))))))
   (au (bq (gx (pl:=_) bz B hr (rv 0)))))]
 ·obtain ⟨p,L,rfl,_⟩:=h;rfl
 obtain ⟨p,L,rfl,b,ok,hlen,q⟩:=h
 refine hX ?_
 simp_all! [b.ob,b.rw,uO]
 have hid:L.cs.map (bh L.t (L.row.take 0))=L.cs:=by
  have:∀c∈L.cs,bh L.t (L.row.take 0) c=c:=λc _=>by unfold bh;rw [if_neg (by simp)]
  rw [SG this,Uj]
 obtain ⟨Inv,hInv⟩:∃Inv:Nat→Sr→Hq→Prop,∀i τ J',Inv i τ J'↔∃(u1 u2:Option PV),τ=[some (.ref p),u1,u2]∧bt cN cL J' p { L with cs:=L.cs.map (bh L.t (L.row.take i)) }∧Mv J J' (L.own p) (L.own p):=⟨_,λ_ _ _=>Iff.rfl⟩
 refine d6 Inv ((hInv _ _ _).mpr ⟨_,_,rfl,by rw [hid];exact b,Mv.refl _ _⟩) (λi τ J' h=>?_) ?_ ?_
 ·obtain ⟨_,_,_,b',_⟩:=(hInv _ _ _).mp h
  have:=b'.rw
  simp only at this
  rw [this]
 ·intro i x τ J' hx hv
  obtain ⟨u1,u2,rfl,b',mv'⟩:=(hInv _ _ _).mp hv
  clear hv
  have hi:i < L.row.length:=by have:=(Sj.mp hx).1;simpa using this
  have hget:L.row[i]?=some L.row[i]:=Si hi
  rw [Sl,hget] at hx
  cases hx
  have hn:L.row[i]∈L.row:=SM hi
  have et:L.row.take (i + 1)=L.row.take i ++ [L.row[i]]:=by rw [SS,hget];rfl
  have hnd:(L.row.take (i + 1)).Nodup:=ok.rn.sublist (Td _ _)
  rw [et] at hnd
  have hnew:=(d7 hnd).2
  generalize L.row[i]=n at hn et hnew ⊢
  obtain ⟨c,hc,rfl,hg⟩:=ok.found hn
  have oki:=ok.tobc.bh hlen (L.row.take i)
  have ecc:bh L.t (L.row.take i) c=c:=by unfold bh;rw [if_neg hnew]
  have hci:c∈L.cs.map (bh L.t (L.row.take i)):=Sh.mpr ⟨c,hc,ecc⟩
  simp_all! [b'.ob]
  refine ⟨gK _ _ _ _,p,_,c.n,rfl,b',oki,λc' hc' e' hg'=>?_,λz=>absurd hn z⟩
  have ec':c'=c:=oki.uniq hc' hci e'
  subst ec'
  have hcv:=(ok.ck c' hc _ (Cf.iK (ok.ne c' hc)).2).v
  have lo:=(b'.lg c' hci).o
  have bo':=b'.ob
  have bd':=b'.dc
  simp only at bo' bd'
  simp_all! [kX,bo',sF,uN,bd',lo]
  have hva:=oki.va hci
  simp only at hva
  simp_all! [hva,lo,bo',sF]
  refine ⟨Nt _ _,c'.a,c'.r,c'.w,c'.g,L.t,-c'.cur.v,rfl,b'.lg c' hci,ok.ne c' hc,SH (ok.len c' hc) (by decide),ok.Ih,λl hl=>(ok.ck c' hc l hl).yz,?_⟩
  have b1:=b'.turn oki hci (t:=L.t) (v:=-c'.cur.v)
  have em:(L.cs.map (bh L.t (L.row.take i))).map (cU c'.n L.t (-c'.cur.v))=L.cs.map (bh L.t (L.row.take (i + 1))):=by
   rw [Ss]
   refine SG λx hx=>?_
   show cU c'.n L.t (-c'.cur.v) (bh L.t (L.row.take i) x)=_
   by_cases e:x.n=c'.n
   ·have:x=c':=ok.uniq hx hc e
    subst this
    rw [ecc]
    unfold cU Ov.bh
    rw [if_pos rfl,if_pos (by rw [et];simp)]
   ·unfold cU
    rw [if_neg (by rw [(ig L.t (L.row.take i) x).1];exact e)]
    unfold Ov.bh
    rw [et]
    by_cases e2:x.n∈L.row.take i
    ·rw [if_pos e2,if_pos (Sq.mpr (.inl e2))]
    ·rw [if_neg e2,if_neg (λz=>by
      rcases Sq.mp z with z | z
      ·exact e2 z
      ·exact e (by simpa using z))]
  simp only [em] at b1
  refine (hInv _ _ _).mpr ⟨_,_,rfl,b1,mv'.trans (gj (.inr (.inr (.inr ⟨c',hc,.inr rfl⟩))) λa h=>.inl h)⟩
 ·intro τ J' hv
  obtain ⟨u1,u2,rfl,b',mv'⟩:=(hInv _ _ _).mp hv
  rw [Sg,SV,ij ok.tobc] at b'
  have oki:bc { L with cs:=L.cs.map (d5 L.t) }:=by rw [← ij ok.tobc];exact ok.tobc.bh hlen L.row
  simp_all! [b'.ob]
  refine ⟨gK _ _ _ _,p,_,rfl,b',oki,λJ2 o' b2 mv2=>?_⟩
  refine q J2 _ b2 (cI.settled oki o') rfl rfl (mv'.trans ⟨λa o e n=>mv2.keep a o e λz=>n ?_,λa h=>?_,mv2.mono⟩)
  ·rw [← ij ok.tobc] at z;exact (vd (ig L.t L.row) a).mp z
  ·rcases mv2.own a h with h' | h'
   ·rw [← ij ok.tobc] at h';exact .inl ((vd (ig L.t L.row) a).mp h')
   ·exact .inr h'
def bG (n:Str) (t:Rat) (c:Cf):Cf:=if c.n=n then { c with g:=some t } else c
theorem dw (n:Str) (t:Rat) (c:Cf):(bG n t c).n=c.n∧(bG n t c).a=c.a∧(bG n t c).r=c.r∧(bG n t c).w=c.w:=by unfold bG;split <;> exact ⟨rfl,rfl,rfl,rfl⟩
theorem wK {L L':Ln} {n:Str} {t:Rat} (e:L'.cs=L.cs.map (bG n t)):L'.fs=L.fs.filter λx=>decide (x.1≠n):=by
 unfold Ln.fs Ln.Ca
 rw [e,Tg,Ss,Tg,List.filter_filter]
 have e1:(λc:Cf=>c.g.isNone) ∘ bG n t=λc=>((λx:Str × aK=>decide (x.1≠n)) ∘ λc:Cf=>(c.n,c.cur)) c && c.g.isNone:=by
  funext c
  show (bG n t c).g.isNone=(decide (c.n≠n) && c.g.isNone)
  unfold bG
  by_cases z:c.n=n
  ·rw [if_pos z];simp [z]
  ·rw [if_neg z];simp [z]
 rw [e1]
 refine SG λc hc=>?_
 show ((bG n t c).n,(bG n t c).cur)=_
 unfold Cf.cur
 rw [(dw n t c).1,(dw n t c).2.2.2]
theorem w9 {ks:List Ky} (h:(ks.map Ky.n).Nodup) (f:Ky→Bool):dR (ks.filter f)=(dR ks).filter f:=by
 have hs:((ks.filter f).map Ky.n).Nodup:=h.sublist (List.Sublist.map _ Uh)
 refine nu (lt:=Ky.lt) Ky.FH Ky.tr (eL hs) ((eL h).filter _) λx=>?_
 rw [bT,Sx,Sx,bT]
theorem w_ {t:Rat} {fs:List (Str × aK)} (h:(fs.map (·.1)).Nodup) (n:Str):cT t (fs.filter λx=>decide (x.1≠n))=(cT t fs).filter λx=>decide (x≠n):=by
 unfold cT
 have e:(fs.filter λx=>decide (x.1≠n)).map (key t)=(fs.map (key t)).filter λk=>decide (k.n≠n):=by rw [Tg];rfl
 rw [e,w9 (by rw [eh];exact h),Tg]
 rfl
theorem erase_filter {l:List Str} (h:l.Nodup) {j:Nat} {n:Str} (hj:l[j]?=some n):l.eraseIdx j=l.filter λx=>decide (x≠n):=by
 obtain ⟨hl,e⟩:=Sj.mp hj
 rw [List.eraseIdx_eq_take_drop_succ]
 have hd:l=l.take j ++ n :: l.drop (j + 1):=by rw [← e,← TR hl,T']
 have hn:=h
 rw [hd,Tq] at hn
 have k1:∀x∈l.take j,x≠n:=λx hx=>hn.2.2 x hx n (by simp)
 have k2:∀x∈l.drop (j + 1),x≠n:=λx hx z=>(TB.mp hn.2.1).1 (by rw [← z];exact hx)
 conv=>rhs;rw [hd]
 rw [TK,SU,if_neg (by simp),Tr.mpr λx hx=>decide_eq_true (k1 x hx),Tr.mpr λx hx=>decide_eq_true (k2 x hx)]
theorem cI.leave {L:Ln} (ok:cI L) (n:Str):cI { L with cs:=L.cs.map (bG n L.t),row:=L.row.filter λx=>decide (x≠n) }:=by
 have hfs:Ln.fs { L with cs:=L.cs.map (bG n L.t),row:=L.row.filter λx=>decide (x≠n) }=L.fs.filter λx=>decide (x.1≠n):=wK (L:=L) (t:=L.t) rfl
 have mem:∀c∈L.cs.map (bG n L.t),∃c0∈L.cs,bG n L.t c0=c:=λc hc=>by obtain ⟨c0,h0,e⟩:=Sh.mp hc;exact ⟨c0,h0,e⟩
 have hw:∀c,(bG n L.t c).w=c.w:=λc=>(dw n L.t c).2.2.2
 refine ⟨⟨?_,?_,?_,?_,?_,?_,ok.t0,ok.ts,?_,?_,?_,?_⟩,?_⟩
 ·show ((L.cs.map (bG n L.t)).map Cf.n).Nodup
  rw [c_ (λc=>(dw n L.t c).1)];exact ok.nd
 ·intro c hc;obtain ⟨c0,h0,rfl⟩:=mem c hc;rw [hw];exact ok.ne c0 h0
 ·intro c hc l hl;obtain ⟨c0,h0,rfl⟩:=mem c hc;rw [hw] at hl;exact ok.le c0 h0 l hl
 ·intro c hc l hl;obtain ⟨c0,h0,rfl⟩:=mem c hc;rw [hw] at hl;exact ok.ck c0 h0 l hl
 ·intro c hc;obtain ⟨c0,h0,rfl⟩:=mem c hc;rw [hw];exact ok.len c0 h0
 ·intro c hc q e
  obtain ⟨c0,h0,rfl⟩:=mem c hc
  unfold bG at e
  split at e
  ·cases e;exact ⟨ok.ts,Rat.le_refl⟩
  ·exact ok.gz c0 h0 q e
 ·show (L.cs.map (bG n L.t)).length≤100
  rw [Sg];exact ok.many
 ·intro m
  rw [hfs]
  show m∈L.row.filter _↔_
  rw [Sx,ok.rm,Sh,Sh]
  constructor
  ·rintro ⟨⟨x,hx,rfl⟩,k⟩;exact ⟨x,Sx.mpr ⟨hx,k⟩,rfl⟩
  ·rintro ⟨x,hx,rfl⟩;exact ⟨⟨x,(Sx.mp hx).1,rfl⟩,(Sx.mp hx).2⟩
 ·exact ok.rn.sublist Uh
 ·exact SH (Tu _ _) ok.rl
 ·rw [hfs]
  show L.row.filter _=_
  rw [w_ ok.Mm,← ok.row]
theorem zJ {α:Type} [DecidableEq α]:∀{l:List α} {x:α},x∈l→∃j:Nat,l[j]?=some x∧∀m:Nat,m < j→l[m]?≠some x
 | y :: l,x,h=>by
  by_cases e:y=x
  ·exact ⟨0,by rw [e];rfl,λm hm=>by omega⟩
  ·rcases Sy.mp h with h | h
   ·exact absurd h.symm e
   ·obtain ⟨j,h1,h2⟩:=zJ h
    refine ⟨j + 1,h1,λm hm=>?_⟩
    cases m with
    | zero=>intro z;exact e (Option.some.inj z)
    | succ m=>exact h2 m (by omega)
abbrev i_:Stmt:=(L2.inClass (top 44) 2)
abbrev k8:List Str:=["self","name"]
theorem sW:L2.aw ["self","name"] ["self","name"] (L2.ai i_):=eJ
def xI (cN cL eC:Addr):cS:=λxs J Q E=>∃p L n,xs=[.ref p,.str n]∧bt cN cL J p L∧cI L∧(n ∉ L.row→E eC J)∧(n∈L.row→∀J' L',bt cN cL J' p L'→cI L'→L'.cs=L.cs.map (bG n L.t)→L'.t=L.t→Mv J J' (L.own p) (L'.own p)→Q .non J')
theorem sM {cN cL eC f:Addr} {fd:FuncData} (F:cE K "leave" "Lane.leave" i_ f fd) (Z:cb mg) (ax:fe K mg "Lane" cN) (aJ:aI K cN "logs") (az:aI K cN "now") (aH:aI K cN "row") (a_:dq P w K mg base cN 1 "must_be_there" cx (pW cN cL eC)) (jQ:dq P w K mg base cL 1 "leave" mT (xE cL)):aQ P w K mg base (dn P w) 2 f fd k8 (d4 K (xI cN cL eC)):=by
 simp_arith [sW,(aj (bq (bI (pl:=_) a_ B hr (rv 0) (af (rv 1) ah)))
   (aj (bq (bI (pl:=_) jQ B hr (ar cM (ba ax.cl aJ (rv 0)) (rv 1)) (af (ba ax.cl az (rv 0)) ah)))
   (au (bq (jm PySem.F.plainAttrs_list PySem.F.slot_list_remove PySem.F.type_list_remove BN (ba ax.cl aH (rv 0)) (af (rv 1) ah))))))]
 ·obtain ⟨p,L,n,rfl,_⟩:=h;rfl
 obtain ⟨p,L,n,rfl,b,ok,qc,q⟩:=h
 have bo:=b.ob
 have bd:=b.dc
 refine hX ?_
 simp_all! [bo]
 refine ⟨gK _ _ _ _,p,L,n,rfl,b,λhn=>?_,qc⟩
 obtain ⟨c,hc,rfl,hg⟩:=ok.found hn
 have lo:=(b.lg c hc).o
 simp_all! [bo,sF,uN,bd,ok.va hc,lo]
 refine ⟨P5 _ _,c.a,c.r,c.w,c.g,L.t,rfl,b.lg c hc,?_⟩
 simp_all! [ak (Ne.symm (b.O5 hc)),bo,uO,ak (Ne.symm (b.Qa hc)),b.rw]
 obtain ⟨j,h1,h2⟩:=zJ hn
 refine ⟨L.row,rfl,j,h1,h2,?_⟩
 rw [erase_filter ok.rn h1]
 have hn':=dw c.n L.t
 have ok1:=ok.leave c.n
 refine q hn _ { L with cs:=L.cs.map (bG c.n L.t),row:=L.row.filter λx=>decide (x≠c.n) } ⟨?_,?_,aq,λx hx=>?_,?_,λx hx=>?_⟩ ok1 rfl rfl ?_
 ·rw [ak (Ne.symm b.GX),ak (Ne.symm (b.O5 hc))];exact bo
 ·show put (put J c.a _) L.o _ L.d=_
  rw [ak b.Qb,ak (Ne.symm (b.Rw hc)),bd]
  show _=some (HQ.dct ((L.cs.map (bG c.n L.t)).map λc=>(c.n,PV.ref c.a)) L.e)
  rw [c_ (f:=λc:Cf=>(c.n,PV.ref c.a)) (λx=>by rw [(hn' x).1,(hn' x).2.1])]
 ·obtain ⟨x0,h0,rfl⟩:=Sh.mp hx
  have hl:=b.lg x0 h0
  refine ⟨?_,?_⟩
  ·rw [(hn' x0).2.1,(hn' x0).2.2.1,ak (b.Qa h0)]
   by_cases e:x0.n=c.n
   ·have:x0=c:=ok.uniq h0 hc e
    subst this
    rw [aq]
    unfold bG;rw [if_pos rfl];rfl
   ·have ha:x0.a≠c.a:=λz=>by
     have hh:=hl.o
     have hh2:=(b.lg c hc).o
     rw [z,hh2] at hh
     have hrr:c.r=x0.r:=by
      have h3:=(HQ.ins.inj (Option.some.inj hh)).2
      have h4:=(List.cons.inj h3).1
      have h5:=(Prod.mk.inj h4).2
      exact PV.ref.inj h5
     obtain ⟨i,hi,rfl⟩:=S4 h0
     obtain ⟨j',hj',rfl⟩:=S4 hc
     have:=(TC (xs:=L.cs.map Cf.r) (i:=i) (j:=j') (h₀:=by simpa using hi) (h₁:=by simpa using hj') b.ap).mp (by rw [Ti,Ti];exact hrr.symm)
     subst this;exact e rfl
    rw [ak ha]
    unfold bG;rw [if_neg e];exact hl.o
  ·rw [(hn' x0).2.2.1,(hn' x0).2.2.2,ak (b.ao x0 h0),ak (λz=>by have h3:=hl.l;rw [z,lo] at h3;cases h3)];exact hl.l
 ·show ((L.cs.map (bG c.n L.t)).map Cf.r).Nodup
  rw [c_ (λx=>(hn' x).2.2.1)];exact b.ap
 ·obtain ⟨x0,h0,rfl⟩:=Sh.mp hx
  rw [(hn' x0).2.2.1];exact b.ao x0 h0
 ·have own':∀a,Ln.own { L with cs:=L.cs.map (bG c.n L.t),row:=L.row.filter λx=>decide (x≠c.n) } p a→L.own p a:=λa h=>by
   rcases h with h | h | h | ⟨x,hx,h⟩
   ·exact .inl h
   ·exact .inr (.inl h)
   ·exact .inr (.inr (.inl h))
   ·obtain ⟨c0,h0,rfl⟩:=Sh.mp hx
    rw [(hn' c0).2.1,(hn' c0).2.2.1] at h
    exact .inr (.inr (.inr ⟨c0,h0,h⟩))
  refine (gj (S':=L.own p) (.inr (.inr (.inr ⟨c,hc,.inl rfl⟩))) λa h=>.inl h).trans (gj (.inr (.inr (.inl rfl))) λa h=>.inl (own' a h))
abbrev m_:Stmt:=(top 50)
abbrev fz:List Str:=["_law_cell_here","_law_many"]
theorem eY:L2.aw ["_law_cell_here","_law_many","_law_signs","_law_row","_law_some","_law_body","_law_at_here","_law_out","_law_k"] ["_law_cell_here","_law_many"] (L2.ai m_):=eJ
def AI:Sp:=λvs H Q _=>∃c m:Int,vs=[.int c,.int m]∧0≤m∧m≤36∧∀(r:Addr) (H':Hp) (xs:List Str),H r=none→bD H H'→H' r=some (.lst (xs.map V.str))→(xs.length:Int)=m→xs.Nodup→(∀x∈xs,good x=true)→Q (.ref r) H'
def menu:List Str:=["m","ab","a","zebra9","b0","0","abc","9zz","q7q7q7q7","aa","z","a1b2c3d4"]
def cZ:Str:="abcdefghijklmnopqrstuvwxyz0123456789"
theorem GN:menu.Nodup:=by decide +kernel
theorem C0:cZ.cps.toList.Nodup:=by decide +kernel
theorem kr:cZ.cps.toList.length=36:=by decide +kernel
theorem Kf {α:Type} {xs:List α} {j:Int} (h0:0≤j) (h1:j < xs.length):di xs j=some (xs[j.toNat]'(by omega)):=by
 have h:=bB (xs:=xs) (j:=j.toNat) (Si (by omega))
 rw [show ((j.toNat:Nat):Int)=j by omega] at h
 exact h
def Iy {α:Type} (xs:List α) (z:α) (d:Int) (k:Nat):α:=xs.getD ((d + 5 * (k:Int)) % (xs.length:Int)).toNat z
section
variable {α:Type} {xs:List α} {z:α} (d:Int)
theorem qg (h:0 < xs.length) (k:Nat):0≤(d + 5 * (k:Int)) % (xs.length:Int)∧(d + 5 * (k:Int)) % (xs.length:Int) < (xs.length:Int):=⟨Int.emod_nonneg _ (by omega),Int.emod_lt_of_pos _ (by omega)⟩
theorem my (h:0 < xs.length) (k:Nat):xs[((d + 5 * (k:Int)) % (xs.length:Int)).toNat]?=some (Iy xs z d k):=by
 have:=qg d h k
 unfold Iy
 rw [List.getD_eq_getElem?_getD,Si (by omega)]
 rfl
theorem Ko (h:0 < xs.length) (k:Nat):di xs ((d + 5 * (k:Int)) % (xs.length:Int))=some (Iy xs z d k):=by
 have:=bB (my (z:=z) d h k)
 rwa [Int.toNat_of_nonneg (qg d h k).1] at this
theorem zC (h:0 < xs.length) (k:Nat):Iy xs z d k∈xs:=Sv (my d h k)
theorem PB {M a b d u v:Int} (g:5 * u=1 + M * v) (a0:0≤a) (a1:a < M) (b0:0≤b) (b1:b < M) (e:(d + 5 * a) % M=(d + 5 * b) % M):a=b:=by
 have h:M ∣ 5 * (a - b):=by
  have:=Int.dvd_of_emod_eq_zero (Int.emod_eq_emod_iff_emod_sub_eq_zero.mp e)
  rwa [show d + 5 * a - (d + 5 * b)=5 * (a - b) by omega] at this
 obtain ⟨c,hc⟩:M ∣ a - b:=by
  obtain ⟨c,hc⟩:=h
  refine ⟨u * c - v * (a - b),?_⟩
  have h1:5 * u * (a - b)=u * (M * c):=by rw [← hc];grind
  rw [g] at h1
  grind
 rcases Int.lt_trichotomy c 0 with k | k | k
 ·have:M * c≤M * (-1):=Int.mul_le_mul_of_nonneg_left (by omega) (by omega)
  omega
 ·subst k;omega
 ·have:M * 1≤M * c:=Int.mul_le_mul_of_nonneg_left (by omega) (by omega)
  omega
theorem zB (u v:Int) (hn:xs.Nodup) (g:5 * u=1 + (xs.length:Int) * v) {i j:Nat} (hi:i < xs.length) (hj:j < xs.length) (e:Iy xs z d i=Iy xs z d j):i=j:=by
 have h:0 < xs.length:=by omega
 have a:=my (z:=z) d h i
 have b:=my (z:=z) d h j
 rw [e] at a
 obtain ⟨a1,a2⟩:=Sj.mp a
 obtain ⟨b1,b2⟩:=Sj.mp b
 have e1:=(TC hn).mp (a2.trans b2.symm)
 have:=qg d h i
 have:=qg d h j
 exact Int.ofNat.inj (PB g (Int.natCast_nonneg i) (Int.ofNat_lt.mpr hi) (Int.natCast_nonneg j) (Int.ofNat_lt.mpr hj) (show (d + 5 * (i:Int)) % _=(d + 5 * (j:Int)) % _ by omega))
end
theorem DV:menu.length=12:=by decide +kernel
abbrev pick:Int→Nat→Str:=Iy menu ""
theorem Hl (d:Int) (k:Nat):di (menu.map V.str) ((d + 5 * (k:Int)) % 12)=some (.str (pick d k)):=by
 have h:=qg (xs:=menu) d (by decide +kernel) k
 have g:=bB (xs:=menu.map V.str) (j:=((d + 5 * (k:Int)) % (menu.length:Int)).toNat) (by rw [Sl,my (xs:=menu) (z:="") d (by decide +kernel) k];rfl)
 rw [Int.toNat_of_nonneg h.1,DV] at g
 exact g
theorem Ew (d:Int) {m:Nat} (hm:m≤12):((S8 m).map (pick d)).Nodup:=by
 refine List.Pairwise.map (R:=λi j=>i < 12∧j < 12∧i≠j) _ (λi j ⟨a,b,c⟩ e=>c (zB d 5 2 GN (by decide +kernel) a b e)) ?_
 refine List.Pairwise.imp_of_mem (R:=λi j=>i≠j) (λ{i j} hi hj ne=>?_) (List.nodup_range)
 rw [TJ] at hi hj
 exact ⟨by omega,by omega,ne⟩
theorem BM:∀x∈menu,good x=true:=by decide +kernel
theorem p_:∀c∈cZ.cps.toList,d_ cJ c=true:=by decide +kernel
theorem B_ (d:Int) (k:Nat):good (pick d k)=true:=BM _ (zC d (by decide +kernel) k)
theorem Gz {cs:List Nat} (h0:0 < cs.length) (h1:cs.length≤8) (h:∀c∈cs,d_ cJ c=true):good ⟨cs.toArray⟩=true:=by
 unfold good
 rw [SR,SR]
 refine ⟨⟨decide_eq_true ?_,decide_eq_true ?_⟩,TH.mpr λc hc=>h c (by simpa using hc)⟩
 ·show 1≤cs.toArray.size;rw [Sn];omega
 ·show cs.toArray.size≤8;rw [Sn];omega
abbrev sign:Int→Nat→Nat:=Iy cZ.cps.toList 0
theorem HV (d:Int) (k:Nat):di cZ.cps.toList ((d + 5 * (k:Int)) % 36)=some (sign d k):=by
 have h:=Ko (xs:=cZ.cps.toList) (z:=0) d (by decide +kernel) k
 rw [kr] at h
 exact h
theorem Ci (d:Int) (k:Nat):d_ cJ (sign d k)=true:=p_ _ (zC d (by decide +kernel) k)
theorem E5 (d:Int) {i j:Nat} (hi:i < 36) (hj:j < 36) (e:sign d i=sign d j):i=j:=zB d (-7) (-1) C0 (by decide +kernel) (by rw [kr];exact hi) (by rw [kr];exact hj) e
theorem Fv {d:Int} {n:Nat} {xs:List Str} (hl:xs.length≤36) (h:∀k x,xs[k]?=some x→x.cps.toList[n]?=some (sign d k)):xs.Nodup:=by
 refine Tf.mpr λi j hi hj hij e=>?_
 have a:=h i _ (Si hi)
 have b:=h j _ (Si hj)
 rw [e] at a
 rw [a] at b
 have:=E5 d (by omega) (by omega) (Option.some.inj b)
 omega
theorem Dc {xs:List V} {k:Int} (h:0≤k):nQ xs none (some k)=xs.take k.toNat:=by
 obtain ⟨j,rfl⟩:∃j:Nat,k=(j:Int):=⟨k.toNat,by omega⟩
 unfold nQ
 rw [HT.qR,HT.pQ,T9,Int.toNat_natCast]
 rcases Nat.le_total j xs.length with e | e
 ·rw [UE e]
  rfl
 ·rw [UY e,Nat.sub_zero,S9 (So _),S9 e]
theorem Ea (cs:List Nat):((cs.map one).map (·.length)).sum=cs.length:=by
 induction cs with
 | nil=>rfl
 | cons c cs ih =>
  rw [Sm,Sm,List.sum_cons,ih,SJ]
  show 1 + cs.length=cs.length + 1
  omega
theorem OB {ds:List Int} (hD:Dig ds [3,36,8,36,36,36,36,36,36,36,36,840]):∃(d0 d1 d2 d11:Int) (es:List Int),di (ds.map V.int) 0=some (.int d0)∧di (ds.map V.int) 1=some (.int d1)∧di (ds.map V.int) 2=some (.int d2)∧di (ds.map V.int) 11=some (.int d11) ∧
  nQ (ds.map V.int) (some 3) (some 11)=es.map V.int∧es.length=8∧(∀e∈es,0≤e∧e < 36)∧0≤d2∧d2 < 8:=by
 obtain ⟨d0,ds,rfl,_,_,hD⟩:=hD.cons
 obtain ⟨d1,ds,rfl,_,_,hD⟩:=hD.cons
 obtain ⟨d2,ds,rfl,d20,d21,hD⟩:=hD.cons
 have key:∀(n:Nat) {ds:List Int},Dig ds (To n 36 ++ [840])→∃es d,ds=es ++ [d]∧es.length=n∧∀e∈es,0≤e∧e < 36:=by
  intro n
  induction n with
  | zero=>intro ds h;obtain ⟨d,ds,rfl,_,_,h⟩:=h.cons;cases h.nil;exact ⟨[],d,rfl,rfl,λe he=>by cases he⟩
  | succ n ih =>
   intro ds h
   obtain ⟨d,ds,rfl,h0,h1,h⟩:=h.cons
   obtain ⟨es,x,rfl,hl,he⟩:=ih h
   exact ⟨d :: es,x,rfl,congrArg Nat.succ hl,List.forall_mem_cons.mpr ⟨⟨h0,h1⟩,he⟩⟩
 obtain ⟨es,d11,rfl,hl,he⟩:=key 8 hD
 refine ⟨d0,d1,d2,d11,es,bB (j:=0) rfl,bB (j:=1) rfl,bB (j:=2) rfl,bB (j:=11) ?_,?_,hl,he,d20,d21⟩
 ·rw [Sl,S6,S6,S6,Ts (by omega),hl];rfl
 ·have h11:((d0 :: d1 :: d2 :: (es ++ [d11])).map V.int).length=12:=by simp [hl]
  unfold nQ
  rw [show (some (3:Int))=some ((3:Nat):Int) from rfl,show (some (11:Int))=some ((11:Nat):Int) from rfl,HT.pQ,HT.pQ,h11]
  show List.take 8 ((es ++ [d11]).map V.int)=_
  rw [Sk,List.take_append_of_le_length (by simp [hl]),S9 (by simp [hl])]
theorem GF {p q a b:Prop} [Decidable p] [Decidable q]:(if p then if q then a else b else b)=if p∧q then a else b:=by by_cases hp:p <;> by_cases hq:q <;> simp [hp,hq]
theorem D1 {f:Addr} {fd:FuncData} (F:cE K "_law_names" "_law_names" m_ f fd) (Z:Cs mg) (dP:rH P w K mg base 1 "_law_digits" cn (ra K)):aQ P w K mg base pZ 2 f fd fz AI:=by
 refine F.ok eY (λvs H Q E h=>?_) (λcdv A outer s H vs Q E hr h=>?_)
 ·obtain ⟨c,m,rfl,_⟩:=h
  rfl
 obtain ⟨c,m,rfl,m0,m1,q⟩:=h
 refine ⟨_,(QB.run (aX (cR (i:=2) eY.nd rfl (Or.inr rfl) oh)
   (aX (cR (i:=3) eY.nd rfl (Or.inr rfl) (xf dP hr (by decide) rfl (ay (pv 0) (ay (iW (Ek [.int 3,.int 36,.int 8,.int 36,.int 36,.int 36,.int 36,.int 36,.int 36,.int 36,.int 36,.int 840] rfl)) bp))))
   (aX (m5 (Jf (vo (dH Eb (cm gh (pv 3) aP (λ_ _=>rfl)) aP (fo _)) (pM (dH Jb (pv 1) aP (fo _))))) (aX (cR (i:=4) eY.nd rfl (Or.inr rfl) (iW (Ek [.str "m",.str "ab",.str "a",.str "zebra9",.str "b0",.str "0",.str "abc",.str "9zz",.str "q7q7q7q7",.str "aa",.str "z",.str "a1b2c3d4"] rfl)))
   (bM (dO (Hf (ai m_) ["_law_cell_here","_law_many","_law_signs","_law_row","_law_some","_law_body","_law_at_here","_law_out","_law_k"] [("_law_row",3),("_law_some",4)] rfl rfl rfl (f6 rfl Z.range (ay (pv 1) bp)) (λ_ _ _ _ _ _=>(cm gh (pv 2) (bA gq (bA iV (cm gh (pv 1) aP (λ_ _=>rfl)) (bA cP aP (pv 0))) aP) (λ_ _=>rfl))))))) fV)
   (aX (Ho (i:=5) (ai m_) ["_law_cell_here","_law_many","_law_signs","_law_row","_law_some","_law_body","_law_at_here","_law_out","_law_k"] [("_law_signs",2)] rfl rfl rfl eY.nd rfl (Or.inl rfl) (mP (jU vR (pv 3) (kH aP) (kH aP))) (λ_ _ _ _ _ _=>(cm DH (pv 1) (pv 0) (λ_ _=>rfl))))
   (xi (m5 (dH Eb (cm gh (pv 3) aP (λ_ _=>rfl)) aP (fo _)) (bM (cR (i:=5) eY.nd rfl (Or.inl rfl) (jU vR (pv 5) pK (kH (bA iV (cm gh (pv 3) aP (λ_ _=>rfl)) aP))))) fV)
   (aX (cR (i:=6) eY.nd rfl (Or.inl rfl) (bA gq (cm gh (pv 3) aP (λ_ _=>rfl)) (bH iI rfl Z.len boot_len (ay (pv 5) bp))))
   (aX (cR (i:=7) eY.nd rfl (Or.inl rfl) (iW bp))
   (aX (oi PassesOwn.never rfl (f6 rfl Z.range (ay (pv 1) bp)) (kG (i:=8) eY.nd rfl (Or.inl rfl)) (aX (vi (cm DH (pv 2) (bA gq (bA iV (cm gh (pv 3) aP (λ_ _=>rfl)) (bA cP aP (pv 8))) aP) (λ_ _=>rfl)) (ve (pv 5) (pv 6) set_list))
   (bM (kI (qG PySem.F.plainAttrs_list PySem.F.slot_list_append PySem.F.type_list_append iq (pv 7) (ay (qG PySem.F.plainAttrs_str PySem.F.slot_str_join PySem.F.type_str_join GS oh (ay (pv 5) bp)) bp))))))
   (bM (dO (pv 7)))))))))))),?_⟩
 refine ⟨_,rfl,(by show 12≤sizeLine;decide),λp hp=>?_⟩
 have ss:=nk (ss:=[3,36,8,36,36,36,36,36,36,36,36,840]) (by decide)
 refine ⟨c,p,[3,36,8,36,36,36,36,36,36,36,36,840],rfl,dC.of aA,ss,by decide,λr H1 ds _ g1 hr1 hD=>?_⟩
 obtain ⟨d0,d1,d2,d11,es,at0,at1,at2,at11,hcut,el,be,d20,d21⟩:=OB hD
 clear hD
 generalize ds.map V.int=row at hr1 at0 at1 at2 at11 hcut
 have g1:=(bD.new hp _).trans g1
 dsimp! [rJoin,hr1,at0,at1]
 rw [GF]
 split
 ·refine ⟨(by show 12≤sizeLine;decide),λp2 hp2=>?_⟩
  have g2:=bD.new hp2 (.lst (menu.map V.str))
  have h2:(upd H1 p2 (.lst (menu.map V.str))) p2=some (.lst (menu.map V.str)):=aA
  have hr2:=g2 _ _ hr1
  refine ⟨_,rfl,m,rfl,by omega,by omega,λD hD=>?_⟩
  refine DO (lo:=0) (n:=m.toNat) (λi H'=>bD (upd H1 p2 (.lst (menu.map V.str))) H'∧H' D=some (.lst (((S8 i).map (pick d1)).map V.str))) ⟨bD.new hD _,aA⟩ ?_ ?_
  ·rintro i H' R hi ⟨g,hd⟩ k
   have hr3:=g _ _ hr2
   have h3:=g _ _ h2
   dsimp! [rJoin,hr3,h3,at1,Int.zero_add]
   refine ⟨.of (Bd.small (by decide) (by decide)) (Bd.small (x:=(i:Int)) (by omega) (by omega)),_,Hl d1 i,?_⟩
   refine k _ _ _ hd (by rw [Sg,Sg,T8];exact aZ (by omega)) ⟨g.Mw hD _,?_⟩
   rw [aA]
   simp [List.range_succ]
  ·rintro H' ⟨g,hd⟩
   exact q D H' _ (g1.free (g2.free hD)) (g1.trans (g2.trans g)) hd (by rw [Sg,T8];omega) (Ew d1 (by omega)) (λx hx=>by obtain ⟨k,_,rfl⟩:=Sh.mp hx;exact B_ d1 k)
 refine ⟨_,rfl,3,rfl,11,rfl,r,_,rfl,dC.of hr1,λp2 hp2=>⟨p2,rfl,⟨_,dC.of aA⟩,λD hD=>?_⟩⟩
 rw [hcut] at hD ⊢
 have g2:=bD.new hp2 (.lst (es.map V.int))
 have hr2:=g2 _ _ hr1
 have h2:(upd H1 p2 (.lst (es.map V.int))) p2=some (.lst (es.map V.int)):=aA
 have al:=kr
 have al2:cZ.length≤sizeLine:=by decide +kernel
 refine GH (K:=K) (a:=p2) (xs:=es.map V.int) (λi H'=>bD (upd H1 p2 (.lst (es.map V.int))) H'∧∃cs:List Nat,cs.length=i∧(∀c∈cs,d_ cJ c=true)∧H' D=some (.lst ((cs.map one).map V.str)))
  ⟨bD.new hD _,[],rfl,(λc hc=>by cases hc),aA⟩ (λi H' _ ⟨g,_⟩=>dC.of (g _ _ h2)) ?_ ?_
 ·rintro i y H' R hi ⟨g,cs,hcs,hca,hd⟩ k
  have hil:=(Sj.mp hi).1
  obtain ⟨z,rfl,hz⟩:=qm hi
  obtain ⟨z0,z1⟩:=be z (Sv hz)
  have at1:=Kf (xs:=cZ.cps.toList) z0 (by rw [al];exact z1)
  dsimp! [rJoin]
  refine ⟨al2,_,at1,?_⟩
  refine k _ _ _ hd (by rw [Sg,Sg,hcs];rw [Sg] at hil;exact aZ (by omega)) ⟨g.Mw hD _,cs ++ [cZ.cps.toList[z.toNat]'(by rw [al];omega)],by rw [SF,hcs];rfl,?_,?_⟩
  ·intro c hc
   rcases Sq.mp hc with hc | hc
   ·exact hca c hc
   ·rw [Su] at hc;subst hc;exact p_ _ (SM _)
  rw [aA,Sk,Sk]
  rfl
 rintro H2 ⟨g,cs,hcs,hca,hd⟩
 have hr3:=g _ _ hr2
 have g:=g1.trans (g2.trans g)
 have hcs:cs.length=8:=hcs.trans ((Sg _).trans el)
 obtain ⟨M,hM⟩:∃M:L2.St→Hp→Prop,∀σ' H',M σ' H'↔∃(D:Addr) (cs:List Nat),σ'=[some (.int c),some (.int m),some (.str cZ),some (.ref r),none,some (.ref D),none,none,none]∧bD H H'∧H D=none∧H' r=some (.lst row)∧D≠r∧0 < cs.length∧cs.length≤8∧(∀c∈cs,d_ cJ c=true)∧H' D=some (.lst ((cs.map one).map V.str)):=⟨_,λ_ _=>Iff.rfl⟩
 have fD:H D=none:=g1.free (g2.free hD)
 have nDr:D≠r:=(bF hr2 hD).symm
 refine ⟨M,?_,?_⟩
 ·dsimp! [rJoin,hr3,at0,at2]
  split
  ·refine ⟨_,dC.of hd,λp4 hp4=>(hM _ _).mpr ⟨p4,cs.take (d2 + 1).toNat,rfl,g.trans (bD.new hp4 _),g.free hp4,?_,?_,?_,?_,(λc hc=>hca c (Tn hc)),?_⟩⟩
   ·exact (bD.new hp4 _) _ _ hr3
   ·exact (bF hr3 hp4).symm
   ·rw [SK];omega
   ·rw [SK];omega
   ·rw [aA,Dc (by omega),Tv,Tv]
  ·exact (hM _ _).mpr ⟨D,cs,rfl,g,fD,hr3,nDr,by omega,by omega,hca,hd⟩
 clear hca hd hr3 g fD nDr hcs
 intro σ5 H5 hm
 obtain ⟨D,cs,rfl,g,fD,hr3,nDr,l0,l1,hca,hd⟩:=(hM _ _).mp hm
 clear hm hM M
 have e0s:(Str.ofString "").length=0:=by decide +kernel
 have hl:((cs.map one).map V.str).length=cs.length:=by rw [Sg,Sg]
 have hlp:(0:Int) < (((cs.map one).map V.str).length:Nat):=by rw [hl];omega
 have a0:=Int.emod_nonneg d11 (show (((cs.map one).map V.str).length:Int)≠0 by omega)
 have a1:=Int.emod_lt_of_pos d11 hlp
 refine ⟨_,rfl,r,_,11,_,rfl,rfl,hr3,at11,_,rfl,D,rfl,_,.inl (dC.of hd),_,_,rfl,rfl,hlp,?_⟩
 generalize hat:d11 % (((cs.map one).map V.str).length:Int)=at' at a0 a1
 rw [hl] at a1
 refine ⟨SX _,λO hO=>?_⟩
 have gO:=bD.new hO (.lst [])
 have nOD:O≠D:=(bF hd hO).symm
 have nOr:O≠r:=(bF hr3 hO).symm
 have fO:H O=none:=g.free hO
 refine ⟨_,rfl,m,rfl,by omega,by omega,tO (lo:=0) (n:=m.toNat) (λi σ H'=>∃(v:Option V) (cs':List Nat) (xs:List Str),σ=[some (.int c),some (.int m),some (.str cZ),some (.ref r),none,some (.ref D),some (.int at'),some (.ref O),v] ∧
  bD H H'∧H' r=some (.lst row)∧cs'.length=cs.length∧(∀c∈cs',d_ cJ c=true)∧H' D=some (.lst ((cs'.map one).map V.str))∧H' O=some (.lst (xs.map V.str))∧xs.length=i∧(∀x∈xs,good x=true)∧∀k x,xs[k]?=some x→x.cps.toList[at'.toNat]?=some (sign d1 k)) ?_ ?_ ?_⟩
 ·exact ⟨none,cs,[],by rw [← hat];rfl,g.trans gO,gO _ _ hr3,rfl,hca,gO _ _ hd,aA,rfl,(λx hx=>by cases hx),λk x e=>by cases e⟩
 ·rintro i σ H' hi ⟨v,cs',xs,rfl,g',hr',hl',hca',hd',ho',hx,hxl,hs⟩
  have al2:cZ.length≤sizeLine:=by decide +kernel
  have sg:=HV d1 i
  refine ⟨_,rfl,_,rfl,r,_,1,_,rfl,rfl,hr',at1,_,rfl,_,_,rfl,rfl,.of (Bd.small (by decide) (by decide)) (Bd.small (x:=0 + (i:Int)) (by omega) (by omega)),_,_,rfl,rfl,_,_,rfl,rfl,(show (0:Int) < 36 by decide),_,_,_,rfl,rfl,al2,(by rw [Int.zero_add];exact sg),?_⟩
  have ix:Cu ((cs'.map one).map V.str).length at'=some at'.toNat:=by
   unfold Cu
   rw [if_pos a0,if_pos (by rw [Sg,Sg,hl'];exact a1)]
  refine ⟨_,rfl,_,rfl,D,_,at',_,rfl,rfl,hd',ix,?_⟩
  have es:((cs'.map one).map V.str).set at'.toNat (.str ⟨#[sign d1 i]⟩)=((cs'.set at'.toNat (sign d1 i)).map one).map V.str:=by
   rw [List.map_set,List.map_set]
   rfl
  have gD:=bD.Mw fD g' (.lst (((cs'.map one).map V.str).set at'.toNat (.str ⟨#[sign d1 i]⟩)))
  have hD2:(upd H' D (.lst (((cs'.map one).map V.str).set at'.toNat (.str ⟨#[sign d1 i]⟩)))) D=some (.lst (((cs'.set at'.toNat (sign d1 i)).map one).map V.str)):=by rw [aA,es]
  have hr2:(upd H' D (.lst (((cs'.map one).map V.str).set at'.toNat (.str ⟨#[sign d1 i]⟩)))) r=_:=(aF nDr.symm).trans hr'
  have ho2:(upd H' D (.lst (((cs'.map one).map V.str).set at'.toNat (.str ⟨#[sign d1 i]⟩)))) O=_:=(aF nOD).trans ho'
  have lc:(cs'.set at'.toNat (sign d1 i)).length=cs.length:=by rw [TY,hl']
  have hcn:∀c∈cs'.set at'.toNat (sign d1 i),d_ cJ c=true:=λc hc=>by
   rcases List.mem_or_eq_of_mem_set hc with h | h
   ·exact hca' c h
   ·rw [h];exact Ci d1 i
  refine ⟨_,rfl,.inl ⟨rfl,_,dC.of ho2⟩,rfl,_,rfl,_,D,(cs'.set at'.toNat (sign d1 i)).map one,rfl,rfl,dC.of hD2,?_,O,_,_,rfl,rfl,ho2,?_,?_⟩
  ·rw [Ea,Sg,lc,e0s]
   omega
  ·rw [Sg,hx]
   exact aZ (by omega)
  ·rw [join_ones]
   refine ⟨_,cs'.set at'.toNat (sign d1 i),xs ++ [⟨(cs'.set at'.toNat (sign d1 i)).toArray⟩],rfl,gD.Mw fO _,(aF nOr.symm).trans hr2,lc,hcn,(aF nOD.symm).trans hD2,?_,by rw [SF,hx];rfl,?_,?_⟩
   ·rw [aA,Sk]
    rfl
   ·intro x hx2
    rcases Sq.mp hx2 with h | h
    ·exact hxl x h
    ·simp only [Sy,S2,or_false] at h
     subst h
     exact Gz (by rw [lc];exact l0) (by rw [lc];exact l1) hcn
   ·intro k x e
    rcases UB k xs.length with hk | hk
    ·rw [Tw hk] at e
     exact hs k x e
    ·rw [Ts hk] at e
     have ek:k=i:=by
      cases hz:k - xs.length with
      | zero=>omega
      | succ z=>rw [hz] at e;cases e
     rw [show k - xs.length=0 by omega] at e
     have ex:=Option.some.inj e
     subst ex
     rw [ek]
     show (cs'.set at'.toNat (sign d1 i))[at'.toNat]?=some (sign d1 i)
     rw [SQ (by omega)]
 ·rintro σ H' ⟨v,cs',xs,rfl,g',hr',hl',hca',hd',ho',hx,hxl,hs⟩
  exact ⟨_,rfl,q O H' xs fO g' ho' (by omega) (Fv (by omega) hs) hxl⟩
def xM:cS:=λxs J Q _=>∃c m:Int,xs=[.int c,.int m]∧0≤m∧m≤36∧∀ns:List Str,(ns.length:Int)=m→ns.Nodup→(∀x∈ns,good x=true)→Q (.fl (ns.map .str)) J
theorem tY {K:PySem.W.Frag} {J:Hq} {H:Hp}:∀ns:List Str,aT K J H (ns.map PV.str) (ns.map V.str)
 | []=>rfl
 | n :: ns=>⟨_,_,rfl,rfl,tY ns⟩
theorem yw (C:rH P w K mg base 2 "_law_names" fz AI):bC P w K mg base 2 "_law_names" fz xM:=C.lift λxs J vs H Q2 E2 Q E rs r ⟨c,m,ex,h0,h1,q⟩ kn=>by
 subst ex
 obtain ⟨v,u,rfl,r1,r2⟩:=jh rs
 cases r1;cases r2
 exact ⟨c,m,rfl,h0,h1,λp H' ns hp s e hl nd lx=>kn (.fl (ns.map .str)) J (.ref p) H' ⟨p,_,rfl,.inl ⟨r.free hp,.inl e⟩,tY ns⟩ (r.same s) (.same s) (q ns hl nd lx)⟩
abbrev qV:Stmt:=(top 51)
abbrev jX:List Str:=["_law_number","_law_mode"]
theorem Ce:L2.aw ["_law_number","_law_mode"] ["_law_number","_law_mode"] (L2.ai qV):=eJ
def t8:cS:=λxs J Q _=>∃n m:Int,xs=[.int n,.int m]∧0≤n∧∀v:Int,v.natAbs≤1000000→Q (.int v) J
theorem yI {f:Addr} {fd:FuncData} (F:cE K "_law_placed" "_law_placed" qV f fd) (Z:cb mg):aQ P w K mg base (dn P w) 1 f fd jX (d4 K t8):=by
 simp_arith [Ce,(aj (aY (aB fS (rv 1) ag) (au (aE (aO fM (aO eK (rv 0) ag) ag))) aL)
   (aj (aY (aB (cG hr.aV) (rv 1) ag) (au (aE (aO fM (aO eK (rv 0) ag) ag))) aL)
   (au (aE (aO fM (aO eK (rv 0) ag) ag)))))]
 ·obtain ⟨n,m,rfl,_⟩:=h;rfl
 obtain ⟨n,m,rfl,n0,q⟩:=h
 refine hX ?_
 simp_all! []
 split
 ·simp_all! [];exact ⟨by decide,q _ (by omega)⟩
 simp_all! []
 split
 ·simp_all! [];exact ⟨by decide,q _ (by omega)⟩
 ·simp_all! [];exact ⟨by decide,q _ (by omega)⟩
abbrev vI:Stmt:=(top 52)
abbrev ly:List Str:=["_law_number","_law_mode"]
theorem EZ:L2.aw ["_law_number","_law_mode"] ["_law_number","_law_mode"] (L2.ai vI):=eJ
def xO:cS:=λxs J Q _=>∃n m:Int,xs=[.int n,.int m]∧0≤n∧n < 2001∧∀v:Int,v.natAbs≤1000→Q (.int v) J
theorem B0 {f:Addr} {fd:FuncData} (F:cE K "_law_paced" "_law_paced" vI f fd) (Z:cb mg):aQ P w K mg base (dn P w) 1 f fd ly (d4 K xO):=by
 simp_arith [EZ,(aj (aY (aB fS (rv 1) ag) (au (aE (aO fM (aO eK (rv 0) ag) ag))) aL)
   (aj (aY (aB (cG hr.aV) (rv 1) ag) (au (aE (aO fM (aO eK (rv 0) ag) ag))) aL)
   (au (aE (aO fM (aO eK (rv 0) ag) ag)))))]
 ·obtain ⟨n,m,rfl,_⟩:=h;rfl
 obtain ⟨n,m,rfl,n0,n1,q⟩:=h
 refine hX ?_
 simp_all! []
 split
 ·simp_all! [];exact ⟨by decide,q _ (by omega)⟩
 simp_all! []
 split
 ·simp_all! [];exact ⟨by decide,q _ (by omega)⟩
 ·simp_all! [];exact ⟨by decide,q _ (by omega)⟩
abbrev LK:Stmt:=(top 55)
abbrev iY:List Str:=["_law_leg","_law_moment"]
theorem xy:L2.aw ["_law_leg","_law_moment","_law_begun","_law_place","_law_way","_law_under"] ["_law_leg","_law_moment"] (L2.ai LK):=eJ
theorem K3 {f:Addr} {fd:FuncData} (F:cE K "_law_at" "_law_at" LK f fd) (Z:cb mg) (mf:bC P w K mg base 1 "_law_low" eA oJ):aQ P w K mg base (dn P w) 2 f fd iY (d4 K oZ):=by
 simp_arith [xy,(aj (aM (i:=2) xy.nd (ar av (rv 0) ag))
   (aj (aM (i:=3) xy.nd (ar av (rv 0) ag))
   (aj (aM (i:=4) xy.nd (aO bU (ar av (rv 0) ag) (aO fM (aO bU (ar av (rv 1) ag) (ar av (rv 2) ag)) (aO bU (ar av (rv 2) ag) (ar av (rv 1) ag)))))
   (aj (aM (i:=5) xy.nd (aO bU (ar av (rv 1) ag) (ar av (rv 2) ag)))
   (au (aE (aU mf B hr (af (aO dN (aO bU (ar av (rv 3) ag) (rv 5)) (aO bU (rv 4) (ar av (rv 3) ag))) (af (aO bU (ar av (rv 3) ag) (rv 5)) ah)))))))))]
 ·obtain ⟨l,t,rfl,_⟩:=h;rfl
 obtain ⟨l,m,rfl,sb,sp,sm,bv,q⟩:=h
 refine hX ?_
 simp_all! [mE,M',kX]
 have bn:Bd 1801 (m.num * l.m.den - l.m.num * m.den):=.sub (.mul sm.num sb.den (So _)) (.mul sb.num sm.den (So _))
 have bu:Bd 1800 ((m.den:Int) * l.m.den):=.mul sm.den sb.den
 have bw:Bd 1900 (l.v * (m.num * l.m.den - l.m.num * m.den)):=.mul bv bn
 refine ⟨.of sm.num sb.den,.of sb.num sm.den,.of bv bn,?_⟩
 simp_all! []
 refine ⟨.of sm.den sb.den,?_⟩
 simp_all! [oJ]
 refine ⟨.of sp.num bu,.of bw sp.den,.of sp.den bu,Int.mul_pos (lM _) (Int.mul_pos (lM _) (lM _)),.mul sp.den bu,?_⟩
 rw [MS]
 exact q
abbrev vF:Stmt:=(top 53)
abbrev lj:List Str:=["_law_clock","_law_number","_law_bottom","_law_mode"]
theorem nj:L2.aw ["_law_clock","_law_number","_law_bottom","_law_mode","_law_under","_law_steps"] ["_law_clock","_law_number","_law_bottom","_law_mode"] (L2.ai vF):=eJ
def AA:cS:=λxs J Q _=>∃(c:Rat) (n b m:Int),xs=[fr c,.int n,.int b,.int m]∧0≤n∧0≤b∧0≤m∧m < 4∧n < 2 ^ 60∧Sz 900 c∧∀q,Later c q→Q (fr q) J
theorem BX {f:Addr} {fd:FuncData} (F:cE K "_law_later" "_law_later" vF f fd) (Z:cb mg) (mf:bC P w K mg base 1 "_law_low" eA oJ):aQ P w K mg base (dn P w) 2 f fd lj (d4 K AA):=by
 simp_arith [nj,(aj (aY (aB (cG hr.aV) (aO eK (rv 1) ag) ag) (au (aE (rv 0))) aL)
   (aj (aM (i:=4) nj.nd (aO dN ag (aO eK (rv 2) (ar av (lA (vw [.int 4,.int 6,.int 60,.int 60] rfl [.int 4,.int 6,.int 60,.int 60] rfl)) (rv 3)))))
   (aj (aM (i:=5) nj.nd (aO dN ag (aO eK (aO kF (rv 1) ag) (aO bU ag (rv 4)))))
   (cH (aY (aB (cG hr.aV) (rv 3) ag) (au (aM (i:=5) nj.nd (aO dN ag (aO eK (aO kF (rv 1) ag) (aO bU ag (rv 4)))))) aL)
   (au (aE (aU mf B hr (af (aO dN (aO kF (aO bU (ar av (rv 0) ag) (rv 4)) (ar av (rv 0) ag)) (rv 5)) (af (rv 4) ah)))))))))]
 ·obtain ⟨c,n,b,m,rfl,_⟩:=h;rfl
 obtain ⟨c,n,b,m,rfl,n0,b0,m0,m1,n2,sc,q⟩:=h
 refine hX ?_
 simp_all! []
 refine ⟨by decide,?_⟩
 split
 ·simp_all! []
  exact q c (.inl rfl)
 obtain ⟨x,hx,x0,x1⟩:∃x:Int,di [PV.int 4,PV.int 6,PV.int 60,PV.int 60] m=some (.int x)∧1≤x∧x≤60:=by
  rcases (by omega:m=0∨m=1∨m=2∨m=3) with e | e | e | e <;> subst e
  ·exact ⟨4,dj _ _,by decide,by decide⟩
  ·exact ⟨6,eZ _ _ _,by decide,by decide⟩
  ·exact ⟨60,ji _ _ _ _,by decide,by decide⟩
  ·exact ⟨60,C3 _ _ _ _ _,by decide,by decide⟩
 have u0:0≤b % x:=Int.emod_nonneg _ (by omega)
 have u1:b % x < x:=Int.emod_lt_of_pos _ (by omega)
 have bu:Bd 64 (1 + b % x):=.small (by omega) (by omega)
 have b8:Bd 9000 8:=(Bd.small (x:=8) (by decide) (by decide)).mono (by decide)
 simp_all! [hx]
 refine ⟨by omega,?_⟩
 simp_all! []
 refine ⟨⟨by decide,b8⟩,.of (.small (x:=2) (by decide) (by decide)) bu,by omega,?_⟩
 generalize hu:1 + b % x=u at *
 have k0:0≤n.fdiv 8:=by rw [Int.fdiv_eq_ediv_of_nonneg _ (by decide)];exact Int.ediv_nonneg n0 (by decide)
 obtain ⟨M,hM⟩:∃M:Sr→Hq→Prop,∀τ' J',M τ' J'↔∃s:Int,τ'=[some (fr c),some (.int n),some (.int b),some (.int m),some (.int u),some (.int s)]∧J'=J∧1≤s∧s≤500 * u:=⟨_,λ_ _=>Iff.rfl⟩
 simp_all! []
 refine ⟨M,?_,?_⟩
 ·simp_arith! [bQ]
  have h2:0≤n.fdiv 8 % (2 * u):=Int.emod_nonneg _ (by omega)
  have h3:n.fdiv 8 % (2 * u) < 2 * u:=Int.emod_lt_of_pos _ (by omega)
  have h4:0≤n.fdiv 8 % (500 * u):=Int.emod_nonneg _ (by omega)
  have h5:n.fdiv 8 % (500 * u) < 500 * u:=Int.emod_lt_of_pos _ (by omega)
  split
  ·refine ⟨⟨by decide,b8⟩,.of (.small (x:=500) (by decide) (by decide)) bu,by omega,(hM _ _).mpr ⟨_,rfl,rfl,by omega,by omega⟩⟩
  ·exact (hM _ _).mpr ⟨_,rfl,rfl,by omega,by omega⟩
 ·intro τ' J' hm
  obtain ⟨s,rfl,rfl,s0,s1⟩:=(hM _ _).mp hm
  clear hm hM M
  simp_arith! [bQ,oJ]
  refine ⟨.of sc.num bu,⟨fj c,sc.den.mono (by decide)⟩,by omega,bu.mono (by decide),?_⟩
  obtain ⟨u',rfl⟩:=Int.eq_ofNat_of_zero_le (show 0≤u by omega)
  obtain ⟨s',rfl⟩:=Int.eq_ofNat_of_zero_le (show 0≤s by omega)
  exact q _ (.inr ⟨u',s',by omega,by omega,by omega,by omega,rfl⟩)
theorem Bw {α:Type} {V:α→PV} {lt:α→α→Bool} {ys:List α} {b:α} {r:Addr} {sp:cS} {E2:Addr→Hq→Prop} {D:En} {τ:Sr} {J:Hq} {iO iA iR:Nat}
  (hO:τ[iO]?=some (some (.ref r))) (hR:τ[iR]?=some (some (V b))) (hA:τ[iA]?=some (some (.int 0))) (nO:iA≠iO) (nR:iA≠iR) (hJ:J r=some (.lst (ys.map V)))
  (hb:∀y∈ys,∀R:PV→Hq→Prop,R (.bl (lt y b)) J→sp [V y,V b] J R E2)
  (high:∀{i j:Nat} {x y:α},ys[i]?=some x→ys[j]?=some y→i≤j→lt x b=false→lt y b=false)
  (fin:∀j:Nat,j≤ys.length→(∀(k:Nat) y,k < j→ys[k]?=some y→lt y b=true)→(∀(k:Nat) y,j≤k→ys[k]?=some y→lt y b=false)→D.nx (τ.set iA (some (.int j))) J) :
  EL (Hx (rB (y2 (EF λi j=>.bl (decide (i < j))) (qN iA) (N8 Lr (xm (qN iO) y0)))) (rB (EJ sp E2 (xm (y2 Mu (qN iO) (qN iA)) (xm (qN iR) y0))))) (sU (y2 (EF λi j=>.int (i + j)) (qN iA) (rC (.int 1))) (Gv iA)) D τ J:=by
 have hl:iA < τ.length:=(Sj.mp hA).1
 have sO:∀x,(τ.set iA x)[iO]?=some (some (.ref r)):=λx=>by rw [S7 nO];exact hO
 have sR:∀x,(τ.set iA x)[iR]?=some (some (V b)):=λx=>by rw [S7 nR];exact hR
 have sA:∀x,(τ.set iA x)[iA]?=some x:=λx=>SQ hl
 refine ⟨λm τ' J'=>∃j:Nat,j≤ys.length∧m=ys.length - j∧τ'=τ.set iA (some (.int j))∧J'=J∧∀(k:Nat) y,k < j→ys[k]?=some y→lt y b=true,⟨ys.length,0,SX _,rfl,?_,rfl,λk y hk=>by omega⟩,?_⟩
 ·have h2:=List.set_getElem_self hl
  rw [(Sj.mp hA).2] at h2
  exact h2.symm
 rintro m τ' J' ⟨j,hj,rfl,rfl,rfl,hlow⟩
 simp_all! [sO,sA,hJ,Sg]
 by_cases c0:j < ys.length
 ·rw [if_pos (by omega)]
  obtain ⟨y,hy⟩:∃y,ys[j]?=some y:=⟨_,Si c0⟩
  have ha:di (ys.map V) (j:Int)=some (V y):=bB (by rw [Sl,hy];rfl)
  simp_all! [sO,sA,sR,hJ,ha]
  refine hb y (Sv hy) _ ?_
  refine yK rfl ?_
  cases hc:lt y b with
  | true =>
   rw [if_pos rfl]
   obtain ⟨N,hN⟩:∃N:Sr→Hq→Prop,∀τ' J'',N τ' J''↔∃i:Nat,i≤ys.length∧ys.length - (j + 1)=ys.length - i∧τ'=τ.set iA (some (.int i))∧J''=J'∧∀(k:Nat) y,k < i→ys[k]?=some y→lt y b=true:=⟨_,λ_ _=>Iff.rfl⟩
   refine ⟨N,λτ'' J'' h=>⟨ys.length - (j + 1),by omega,(hN _ _).mp h⟩,?_⟩
   simp_arith! [bQ,sA]
   refine (hN _ _).mpr ⟨j + 1,by omega,rfl,by rw [List.set_set,Int.natCast_succ],rfl,λk z hk e=>?_⟩
   rcases T4 (Nat.lt_succ_iff.mp hk) with h | h
   ·exact hlow k z h e
   ·subst h;rw [hy] at e;cases e;exact hc
  | false =>
   rw [if_neg (by decide)]
   exact fin j hj hlow λk z hk e=>high hy e hk hc
 ·rw [if_neg (by omega)]
  exact fin j hj hlow λk z hk e=>by rw [S5 (by omega)] at e;cases e
section
variable {X:Cx}
theorem md.or {f:Value→Value→Sem Value} {q q':mq} (h:md X f q) (h':md X f q'):md X f (λx y J Q=>q x y J Q∨q' x y J Q):=by
 obtain ⟨r,a,lr⟩:=h
 obtain ⟨r',a',lr'⟩:=h'
 refine ⟨λx y H Q=>r x y H Q∨r' x y H Q,λpins s σ H x y v u Q I rx ry h=>?_,λJ H x y v w Q2 Q rx ry rr h k=>?_⟩
 ·rcases h with h | h
  ·exact a pins s σ H x y v u Q I rx ry h
  ·exact a' pins s σ H x y v u Q I rx ry h
 ·rcases h with h | h
  ·exact .inl (lr J H x y v w Q2 Q rx ry rr h k)
  ·exact .inr (lr' J H x y v w Q2 Q rx ry rr h k)
end
def Ky.V (k:Ky):PV:=.tup [fr k.p,.int k.v,.str k.n]
theorem M9 (J:Hq) (k:Ky):e9 J k.V (.int 0)=some (fr k.p):=dj _ _
theorem M_ (J:Hq) (k:Ky):e9 J k.V (.int 1)=some (.int k.v):=eZ _ _ _
theorem IG (J:Hq) (k:Ky):e9 J k.V (.int 2)=some (.str k.n):=ji _ _ _ _
theorem OR (p:Rat) (v:Int) (n:Str):PV.tup [fr p,.int v,.str n]=(Ky.mk p v n).V:=rfl
theorem tG (p q:Rat):(p.num * (q.den:Int) < q.num * (p.den:Int))=(p < q):=propext (Rat.lt_iff p q).symm
abbrev qS:Stmt:=(top 58)
abbrev jW:List Str:=["_law_one","_law_two"]
theorem oE:L2.aw ["_law_one","_law_two","_law_here","_law_there"] ["_law_one","_law_two"] (L2.ai qS):=eJ
def xC:cS:=λxs J Q _=>(∃a b:Ky,xs=[a.V,b.V]∧Sz 9000 a.p∧Sz 9000 b.p∧Q (.bl (a.lt b)) J)∨(∃a b:aS,xs=[a.v,b.v]∧Sz 9000 a.m∧Sz 9000 b.m∧Q (.bl (a.lt b)) J)
theorem yH {f:Addr} {fd:FuncData} (F:cE K "_law_before" "_law_before" qS f fd) (Z:cb mg):aQ P w K mg base (dn P w) 1 f fd jW (d4 K xC):=by
 simp_arith [oE,(aj (aM (i:=2) oE.nd (aO bU (ar av (ar av (rv 0) ag) ag) (ar av (ar av (rv 1) ag) ag)))
   (aj (aM (i:=3) oE.nd (aO bU (ar av (ar av (rv 1) ag) ag) (ar av (ar av (rv 0) ag) ag)))
   (aj (aY (aB (mL hr.aV) (rv 2) (rv 3)) (au (aE (fN fS (rv 2) (rv 3)))) aL)
   (aj (aY (aB (mL hr.aV) (ar av (rv 0) ag) (ar av (rv 1) ag)) (au (aE (fN (md.or fS yO) (ar av (rv 0) ag) (ar av (rv 1) ag)))) aL)
   (au (aE (fN yO (ar av (rv 0) ag) (ar av (rv 1) ag))))))))]
 ·rcases h with ⟨a,b,rfl,_⟩ | ⟨a,b,rfl,_⟩ <;> rfl
 refine hX ?_
 rcases h with ⟨a,b,rfl,sa,sb,q⟩ | ⟨a,b,rfl,sa,sb,q⟩
 ·simp_arith! [bQ,M9,M_,IG]
  refine ⟨.of sa.num sb.den,.of sb.num sa.den,?_⟩
  unfold Ky.lt at q
  by_cases e:a.p=b.p
  ·rw [if_pos e] at q
   rw [if_pos ((kB _ _).mpr e)]
   by_cases k:a.v=b.v
   ·rw [if_pos k] at q ⊢;exact q
   ·rw [if_neg k] at q ⊢;exact .inl q
  ·rw [if_neg e] at q
   rw [if_neg (λz=>e ((kB _ _).mp z))]
   simp only [tG]
   exact q
 ·simp_arith! [bQ,ID,IE,IF]
  refine ⟨.of sa.num sb.den,.of sb.num sa.den,?_⟩
  unfold aS.lt at q
  by_cases e:a.m=b.m
  ·rw [if_pos e] at q
   rw [if_pos ((kB _ _).mpr e)]
   by_cases k:a.h=b.h
   ·rw [if_pos k] at q ⊢;exact q
   ·rw [if_neg k] at q ⊢;exact .inr q
  ·rw [if_neg e] at q
   rw [if_neg (λz=>e ((kB _ _).mp z))]
   simp only [tG]
   exact q
abbrev pS:Stmt:=(top 59)
abbrev lq:List Str:=["_law_legs","_law_moment"]
theorem iE:L2.aw ["_law_legs","_law_moment","_law_out","_law_name","_law_row","_law_at_here"] ["_law_legs","_law_moment"] (L2.ai pS):=eJ
def xN:cS:=λxs J Q _=>∃(D:Addr) (fs:List (Str × aK)) (ep:Nat) (t:Rat),xs=[.ref D,fr t]∧J D=some (.dct (bN fs) ep)∧(fs.map (·.1)).Nodup∧fs.length≤100∧Sz 900 t∧(∀x∈fs,kP 900 x.2)∧Q (.fl ((cT t fs).map .str)) J
theorem BZ {f:Addr} {fd:FuncData} (F:cE K "_law_order" "_law_order" pS f fd) (Z:cb mg) (A3:bC P w K mg base 2 "_law_at" iY oZ) (Cy:bC P w K mg base 1 "_law_before" jW xC):aQ P w K mg base (dn P w) 3 f fd lq (d4 K xN):=by
 simp_arith [iE,(aj (aM (i:=2) iE.nd (ot ah))
   (aj (d8 bZ rfl (i5 (rv 0)) (bJ (i:=3) iE.nd) (aj (aM (i:=4) iE.nd (cq (af (aU A3 B hr (af (ar cM (rv 0) (rv 3)) (af (rv 1) ah))) (af (ar av (ar cM (rv 0) (rv 3)) ag) (af (rv 3) ah)))))
   (aj (aM (i:=5) iE.nd ag)
   (aj (m9 bZ (fb (fP (aB fS (rv 5) (bx cW rfl Z.len boot_len (af (rv 2) ah))) (eV (dh (aU Cy B hr (af (ar av (rv 2) (rv 5)) (af (rv 4) ah))))))) (au (aM (i:=5) iE.nd (aO dN (rv 5) ag))))
   (au (bq (jm PySem.F.plainAttrs_list PySem.F.slot_list_insert PySem.F.type_list_insert n6 (rv 2) (af (rv 5) (af (rv 4) ah)))))))))
   (au (aE (Js (L2.ai pS) ["_law_legs","_law_moment","_law_out","_law_name","_law_row","_law_at_here"] [] rfl rfl rfl (dI (rv 2)) (λ_ _ _ _ _ _=>(ar av (rv 0) ag))))))),F]
 ·obtain ⟨D,fs,ep,t,rfl,_⟩:=h;rfl
 obtain ⟨D,fs,ep,t,rfl,hD,hnd,hlen,st,sl,q⟩:=h
 refine hX ?_
 simp_all! []
 intro r hr'
 have nDr:D≠r:=by intro e;subst e;rw [hD] at hr';cases hr'
 simp_all! [ak nDr,hD]
 have hkv:(bN fs).map (λkv=>PV.str kv.1)=fs.map λx=>PV.str x.1:=by unfold bN;rw [Ss];rfl
 rw [hkv]
 obtain ⟨Inv,hInv⟩:∃Inv:Nat→Sr→Hq→Prop,∀i τ J',Inv i τ J'↔∃(u3 u4 u5:Option PV),τ=[some (.ref D),some (fr t),some (.ref r),u3,u4,u5]∧J'=put J r (.lst ((dR ((fs.take i).map (key t))).map Ky.V)):=⟨_,λ_ _ _=>Iff.rfl⟩
 refine d6 Inv ((hInv _ _ _).mpr ⟨_,_,_,rfl,rfl⟩) (λi τ J' h=>?_) ?_ ?_
 ·obtain ⟨_,_,_,_,rfl⟩:=(hInv _ _ _).mp h
  rw [ak nDr];exact hD
 ·intro i x τ J' hx hv
  obtain ⟨u3,u4,u5,rfl,rfl⟩:=(hInv _ _ _).mp hv
  clear hv
  have hi:i < fs.length:=by have:=(Sj.mp hx).1;simpa using this
  rw [Sl,Si hi] at hx
  cases hx
  rcases hfi:fs[i] with ⟨n,l⟩
  have hmem:(n,l)∈fs:=by rw [← hfi];exact SM hi
  have et:fs.take (i + 1)=fs.take i ++ [(n,l)]:=by rw [SS,Si hi,hfi];rfl
  have hndt:((fs.take i).map (·.1)).Nodup:=by rw [Tv];exact hnd.sublist (Td _ _)
  obtain ⟨ys,hys⟩:∃ys,dR ((fs.take i).map (key t))=ys:=⟨_,rfl⟩
  have srt:o8 Ky.lt ys:=by rw [← hys];exact eL (by rw [eh];exact hndt)
  have hyl:ys.length=i:=by rw [← hys,mM,Sg,SK];omega
  have hym:∀y∈ys,Sz 9000 y.p:=λy hy=>by
   rw [← hys,bT,Sh] at hy
   obtain ⟨x',hx',rfl⟩:=hy
   exact (jG (sl x' (Tn hx')) st).mono (by decide)
  have en:dR ((fs.take (i + 1)).map (key t))=pe Ky.lt (key t (n,l)) ys:=by rw [et,Sk,Sm,Ta,iu,hys]
  rw [hys]
  have hvn:jA (bN fs) n=some l.V:=gH (f:=aK.V) hnd hmem
  have sll:=sl _ hmem
  simp_all! [ak nDr,hD,hvn]
  refine ⟨l,t,rfl,sll.m,sll.p,st,sll.v,?_⟩
  simp_all! [ak nDr,hD,hvn,kX,OR]
  have ek:(Ky.mk (l.at t) l.v n)=key t (n,l):=rfl
  rw [ek]
  have skn:Sz 9000 (key t (n,l)).p:=(jG sll st).mono (by decide)
  generalize key t (n,l)=kn at en skn ⊢
  refine Bw (V:=Ky.V) (lt:=Ky.lt) (ys:=ys) (b:=kn) (iO:=2) (iA:=5) (iR:=4) rfl rfl rfl (by decide) (by decide) aq (λy hy R hR=>.inl ⟨y,kn,rfl,hym y hy,skn,hR⟩) (λhx hy h k=>Cj (lt:=Ky.lt) Ky.tr srt hx hy h k) λj hj hlow hhigh=>?_
  simp_all! [aq]
  refine ⟨_,j,rfl,rfl,by rw [Sg];exact hj,aZ (by rw [Sg];omega),by omega,?_⟩
  rw [bW]
  refine (hInv _ _ _).mpr ⟨_,_,_,rfl,?_⟩
  rw [en,← zS hj hlow hhigh,Sk,Sm,Tv,Ua]
 ·intro τ J' hv
  obtain ⟨u3,u4,u5,rfl,rfl⟩:=(hInv _ _ _).mp hv
  rw [Sg,SV]
  simp_all! [vt,aq]
  refine ⟨λ_=>true,(λx=>match x with | .tup [_,_,n]=>n | _=>.non),⟨aZ (by rw [Sg,mM,Sg];omega),λJ2 hs=>⟨hs _ _ aq,λx hx=>⟨⟨rfl,rfl⟩,λ_=>?_⟩⟩⟩,?_⟩
  ·obtain ⟨y,hy,rfl⟩:=Sh.mp hx
   simp_arith! [bQ,IG]
   rfl
  ·rw [Tr.mpr λ_ _=>rfl,Ss]
   have e:(cT t fs).map PV.str=(dR (fs.map (key t))).map ((λx=>match x with | .tup [_,_,n]=>n | _=>.non) ∘ Ky.V):=by unfold cT;rw [Ss];rfl
   rw [e] at q
   exact Fg.less (gi hr') q
abbrev vK:Stmt:=(top 49)
abbrev lz:List Str:=["_law_found","_law_due"]
theorem xB:L2.aw ["_law_found","_law_due","_law_one"] ["_law_found","_law_due"] (L2.ai vK):=eJ
def AK:cS:=λxs J Q _=>∃ss:List Str,xs=[.fl (ss.map .str),.fl (ss.map .str)]∧ss.length≤900∧Q (.bl true) J
theorem EB (ss:List Str):iZ (ss.map PV.str)=true:=by
 induction ss with
 | nil=>rfl
 | cons x ss ih=>rw [Sm,tW,Ag,ih];rfl
theorem De (ss:List Str):dQ (gw (ss.map PV.str))≤1:=by
 induction ss with
 | nil=>simp [gw,dQ]
 | cons x ss ih=>simp only [Sm,gw,gu,dQ,dep];omega
theorem zy (ss:List Str):Iw (.fl (ss.map .str)):=⟨by unfold nF;exact EB ss,by
 have:=De ss
 simp only [gu,dep];omega⟩
theorem B1 {f:Addr} {fd:FuncData} (F:cE K "_law_words" "_law_words" vK f fd) (Z:cb mg):aQ P w K mg base (dn P w) 1 f fd lz (d4 K AK):=by
 simp_arith [xB,(aj (aY (fb (qQ (j6 (dh (bx C8 rfl Z.isinstance boot_isinstance (af (rv 0) (af (Jt rfl Z.list boot_list) ah))))) (lW (aB (mL hr.aV) (bx cW rfl Z.len boot_len (af (rv 0) ah)) (bx cW rfl Z.len boot_len (af (rv 1) ah)))))) (au (aE qO)) aL)
   (aj (d8 bZ rfl (dI (rv 0)) (bJ (i:=2) xB.nd) (au (aY (j6 (dh (bx C8 rfl Z.isinstance boot_isinstance (af (rv 2) (af (Jt rfl Z.str boot_str) ah))))) (au (aE qO)) aL)))
   (au (aE (fN (cG hr.aV) (rv 0) (rv 1))))))]
 ·obtain ⟨ss,rfl,_⟩:=h;rfl
 obtain ⟨ss,rfl,hl,q⟩:=h
 refine hX ?_
 simp_all! [Sg]
 obtain ⟨Inv,hInv⟩:∃Inv:Nat→Sr→Hq→Prop,∀i τ J',Inv i τ J'↔∃u:Option PV,τ=[some (.fl (ss.map .str)),some (.fl (ss.map .str)),u]∧J'=J:=⟨_,λ_ _ _=>Iff.rfl⟩
 refine d6 Inv ((hInv _ _ _).mpr ⟨_,rfl,rfl⟩) (λ_ _ _ _=>trivial) ?_ ?_
 ·intro i x τ J' hx hv
  obtain ⟨u,rfl,rfl⟩:=(hInv _ _ _).mp hv
  obtain ⟨y,_,rfl⟩:=Sh.mp (Sv hx)
  simp_all! []
  exact (hInv _ _ _).mpr ⟨_,rfl,rfl⟩
 ·intro τ J' hv
  obtain ⟨u,rfl,rfl⟩:=(hInv _ _ _).mp hv
  simp_all! []
  refine ⟨zy ss,(zy ss).1,?_⟩
  rw [eq_self];exact q
theorem cI.M0 {L:Ln} (ok:cI L):L.fs.length≤12:=by
 have:=ok.rl
 rw [ok.row,qD] at this;exact this
def MH (t:Rat) (fs gs:List (Str × aK)):Prop:=∀x,x∈fs.map (key t)↔x∈gs.map (key t)
def wd:List aK→Prop
 | a :: b :: r=>b.p=a.at b.m∧wd (b :: r)
 | _=>True
theorem kA:∀(ls:List aK) (l:aK),wd (ls ++ [l])↔wd ls∧∀k,ls.getLast?=some k→l.p=k.at l.m
 | [],l=>⟨λ_=>⟨trivial,λk h=>nomatch h⟩,λ_=>trivial⟩
 | [a],l=>⟨λh=>⟨trivial,λk e=>by cases e;exact h.1⟩,λh=>⟨h.2 a rfl,trivial⟩⟩
 | a :: b :: r,l=>by
  have ih:=kA (b :: r) l
  show (b.p=a.at b.m∧wd ((b :: r) ++ [l]))↔_
  rw [ih,List.getLast?_cons_cons]
  constructor
  ·rintro ⟨h1,h2,h3⟩;exact ⟨⟨h1,h2⟩,h3⟩
  ·rintro ⟨⟨h1,h2⟩,h3⟩;exact ⟨h1,h2,h3⟩
def ie (l l':aK):Prop:=l.v=l'.v∧∀t,l.at t=l'.at t
theorem ie.key {l l':aK} (h:ie l l') (n:Str) (t:Rat):key t (n,l)=key t (n,l'):=by unfold Ov.key;simp only;rw [h.1,h.2 t]
theorem Gg (l:aK):l.at l.m=l.p:=by unfold aK.at;grind
theorem Ao {l l':aK} {t:Rat} (hv:l.v=l'.v) (h:l.at t=l'.at t):ie l l':=⟨hv,λs=>by
 unfold aK.at at h ⊢
 rw [hv] at h ⊢
 generalize (l'.v:Rat)=x at h ⊢
 grind⟩
theorem ki {rows:List aK} {t:Rat} {v:Int} (h:wd rows) (ne:rows≠[]):wd (turned rows t v)∧∀l,rows.getLast?=some l→∀l',(turned rows t v).getLast?=some l'→ie ⟨t,l.at t,v⟩ l':=by
 obtain ⟨ls,l,rfl⟩:∃ls l,rows=ls ++ [l]:=⟨rows.dropLast,rows.getLast ne,(S3 ne).symm⟩
 obtain ⟨h1,h2⟩:=(kA ls l).mp h
 have new:∀{q:List aK},(q ++ [aK.mk t (l.at t) v]).getLast?=some (aK.mk t (l.at t) v):=λ{q}=>SO ..
 rw [gW]
 simp only [SO,Option.some.injEq]
 split
 ·rename_i e
  have el:l.at t=l.p:=by rw [← e];exact Gg l
  split
  ·rename_i ev
   refine ⟨h1,λl0 h0 l' h'=>?_⟩
   subst h0
   rw [h'] at ev
   have hv:l'.v=v:=Option.some.inj ev
   have hp:=h2 l' h'
   rw [e] at hp
   refine Ao (t:=t) hv.symm ?_
   show l.at t + (t - t) * (v:Rat)=_
   rw [← hp,el];grind
  ·refine ⟨(kA _ _).mpr ⟨h1,λk hk=>?_⟩,λl0 h0 l' h'=>?_⟩
   ·show l.at t=k.at t
    rw [el,h2 k hk,e]
   ·subst h0
    rw [new] at h';cases h';exact ⟨rfl,λ_=>rfl⟩
 ·split
  ·rename_i ev
   refine ⟨h,λl0 h0 l' h'=>?_⟩
   subst h0
   rw [SO] at h';cases h'
   refine Ao (t:=t) ev.symm ?_
   show l.at t + (t - t) * (v:Rat)=_
   grind
  ·refine ⟨(kA _ _).mpr ⟨h,λk hk=>?_⟩,λl0 h0 l' h'=>?_⟩
   ·rw [SO] at hk;cases hk;rfl
   ·subst h0
    rw [new] at h';cases h';exact ⟨rfl,λ_=>rfl⟩
structure Rl (L:Ln) (gs:List (Str × aK)):Prop where
 nm:gs.map (·.1)=L.fs.map (·.1)
 ln:∀n l l',(n,l)∈gs→(n,l')∈L.fs→ie l l'
 ck:∀x∈gs,rO x.2
 le:∀x∈gs,x.2.m≤L.t
 ct:∀c∈L.cs,wd c.w
theorem Rl.same {L:Ln} {gs:List (Str × aK)} (h:Rl L gs) (t:Rat):MH t L.fs gs:=λx=>by
 have other:∀{as bs:List (Str × aK)},as.map (·.1)=bs.map (·.1)→∀{n l},(n,l)∈as→∃l',(n,l')∈bs:=λ{as bs} e {n l} hm=>by
  have:n∈bs.map (·.1):=by rw [← e];exact Sh.mpr ⟨_,hm,rfl⟩
  obtain ⟨y,hy,e'⟩:=Sh.mp this
  exact ⟨y.2,by rw [← e'];exact hy⟩
 rw [Sh,Sh]
 constructor
 ·rintro ⟨⟨n,l⟩,hm,rfl⟩
  obtain ⟨l',hl'⟩:=other h.nm.symm hm
  exact ⟨(n,l'),hl',(h.ln n l' l hl' hm).key n t⟩
 ·rintro ⟨⟨n,l⟩,hm,rfl⟩
  obtain ⟨l',hl'⟩:=other h.nm hm
  exact ⟨(n,l'),hl',((h.ln n l l' hm hl').key n t).symm⟩
theorem Rl.sz {L:Ln} {gs:List (Str × aK)} (h:Rl L gs):∀x∈gs,kP 240 x.2:=λx hx=>by
 have hk:=h.ck x hx
 exact ⟨hk.P_.mono (by decide),hk.Qn.mono (by decide),.small (by have:=hk.v;omega) (by have:=hk.v;omega)⟩
theorem Rl.nd {L:Ln} {gs:List (Str × aK)} (h:Rl L gs) (ok:bc L):(gs.map (·.1)).Nodup:=by rw [h.nm];exact ok.Mm
theorem Rl.len {L:Ln} {gs:List (Str × aK)} (h:Rl L gs):gs.length=L.fs.length:=by have:=congrArg TV h.nm;rw [Sg,Sg] at this;exact this
theorem Ey {fs:List (Str × aK)} {n:Str} {l:aK} (hm:n∈fs.map (·.1)):nE (bN fs) n l.V=bN (fs.map λx=>if x.1=n then (x.1,l) else x):=by
 unfold nE bN
 rw [if_pos,Ss,Ss]
 ·refine SG λx _=>?_
  show (if x.1=n then (x.1,l.V) else (x.1,x.2.V))=_
  show _=((if x.1=n then (x.1,l) else x).1,(if x.1=n then (x.1,l) else x).2.V)
  split <;> rfl
 ·obtain ⟨x,hx,e⟩:=Sh.mp hm
  rw [Ut]
  exact ⟨(x.1,x.2.V),Sh.mpr ⟨x,hx,rfl⟩,decide_eq_true e⟩
def ua (n:Str) (t:Rat) (v:Int) (gs:List (Str × aK)):List (Str × aK):=gs.map λx=>if x.1=n then (x.1,⟨t,x.2.at t,v⟩) else x
def jF (t:Rat) (gs:List (Str × aK)):List (Str × aK):=gs.map λx=>(x.1,⟨t,x.2.at t,-x.2.v⟩)
theorem Dm {L:Ln} {f:Cf→Cf} (hn:∀c,(f c).n=c.n∧(f c).a=c.a∧(f c).r=c.r∧(f c).g=c.g) {L':Ln} (e:L'.cs=L.cs.map f):L'.fs=L.Ca.map λc=>(c.n,(f c).cur):=by
 unfold Ln.fs Ln.Ca
 rw [e,Tg,Ss]
 have e1:(λc:Cf=>c.g.isNone) ∘ f=λc=>c.g.isNone:=by funext c;show (f c).g.isNone=_;rw [(hn c).2.2.2]
 rw [e1]
 exact SG λc _=>by show ((f c).n,(f c).cur)=_;rw [(hn c).1]
theorem wy {c:Cf} {t:Rat} {v:Int} (h:wd c.w) (ne:c.w≠[]):ie ⟨t,c.cur.at t,v⟩ (c.turn t v).cur:=by
 have h1:=(Cf.iK ne).1
 have h2:=(Cf.iK (c:=c.turn t v) (ub ne)).1
 exact (ki h ne).2 _ h1 _ h2
theorem ie.turn {l l':aK} (h:ie l l') (t:Rat) (v:Int):ie ⟨t,l.at t,v⟩ ⟨t,l'.at t,v⟩:=by rw [h.2 t];exact ⟨rfl,λ_=>rfl⟩
theorem ie.trans {l l' l'':aK} (h:ie l l') (k:ie l' l''):ie l l'':=⟨h.1.trans k.1,λt=>(h.2 t).trans (k.2 t)⟩
theorem Rl.turn {L L':Ln} {gs:List (Str × aK)} (h:Rl L gs) (ok:bc L) {n:Str} {v:Int} (hv:v.natAbs≤1000) (e:L'.cs=L.cs.map (cU n L.t v)) (et:L'.t=L.t):Rl L' (ua n L.t v gs):=by
 have hn:=fZ n L.t v
 have hfs:=Dm hn e
 have nm:(ua n L.t v gs).map (·.1)=gs.map (·.1):=by
  unfold ua;rw [Ss];exact SG λx _=>by show (if x.1=n then (x.1,_) else x).1=x.1;split <;> rfl
 refine ⟨?_,?_,?_,?_,?_⟩
 ·rw [nm,h.nm,hfs];unfold Ln.fs;rw [Ss,Ss];rfl
 ·intro m l l' hl hl'
  obtain ⟨x,hx,ex⟩:=Sh.mp hl
  rw [hfs] at hl'
  obtain ⟨c,hc,ec⟩:=Sh.mp hl'
  have hcs:=(Ln.dG.mp hc).1
  have hold:(c.n,c.cur)∈L.fs:=Sh.mpr ⟨c,hc,rfl⟩
  cases ec
  by_cases z:x.1=n
  ·rw [if_pos z] at ex
   have ex1:x.1=c.n:=(Prod.mk.inj ex).1
   have ex2:aK.mk L.t (x.2.at L.t) v=l:=(Prod.mk.inj ex).2
   subst ex2
   have hs:=h.ln x.1 x.2 c.cur hx (by rw [ex1];exact hold)
   have zc:c.n=n:=by rw [← z];exact ex1.symm
   unfold cU
   rw [if_pos zc]
   exact (hs.turn L.t v).trans (wy (h.ct c hcs) (ok.ne c hcs))
  ·rw [if_neg z] at ex
   subst ex
   have zc:¬ c.n=n:=z
   unfold cU
   rw [if_neg zc]
   exact h.ln c.n l c.cur hx hold
 ·intro x hx
  obtain ⟨y,hy,rfl⟩:=Sh.mp hx
  split
  ·exact (h.ck y hy).at (h.le y hy) ok.ts hv
  ·exact h.ck y hy
 ·intro x hx
  rw [et]
  obtain ⟨y,hy,rfl⟩:=Sh.mp hx
  split
  ·exact Rat.le_refl
  ·exact h.le y hy
 ·intro c hc
  rw [e] at hc
  obtain ⟨c0,h0,rfl⟩:=Sh.mp hc
  unfold cU
  split
  ·exact (ki (h.ct c0 h0) (ok.ne c0 h0)).1
  ·exact h.ct c0 h0
theorem jE (t:Rat) (c:Cf):(d5 t c).n=c.n∧(d5 t c).a=c.a∧(d5 t c).r=c.r∧(d5 t c).g=c.g:=by unfold d5;split <;> exact ⟨rfl,rfl,rfl,rfl⟩
theorem Rl.about {L L':Ln} {gs:List (Str × aK)} (h:Rl L gs) (ok:bc L) (e:L'.cs=L.cs.map (d5 L.t)) (et:L'.t=L.t):Rl L' (jF L.t gs):=by
 have hn:=jE L.t
 have hfs:=Dm hn e
 have nm:(jF L.t gs).map (·.1)=gs.map (·.1):=by
  unfold jF;rw [Ss];rfl
 refine ⟨?_,?_,?_,?_,?_⟩
 ·rw [nm,h.nm,hfs];unfold Ln.fs;rw [Ss,Ss];rfl
 ·intro m l l' hl hl'
  obtain ⟨x,hx,ex⟩:=Sh.mp hl
  rw [hfs] at hl'
  obtain ⟨c,hc,ec⟩:=Sh.mp hl'
  have hcs:=Ln.dG.mp hc
  have hold:(c.n,c.cur)∈L.fs:=Sh.mpr ⟨c,hc,rfl⟩
  cases ec
  obtain ⟨xn,xl⟩:=x
  cases ex
  have hs:=h.ln c.n xl c.cur hx hold
  have ea:d5 L.t c=c.turn L.t (-c.cur.v):=by unfold d5;rw [if_pos (by rw [hcs.2];rfl)]
  rw [ea,hs.1]
  exact (hs.turn L.t _).trans (wy (h.ct c hcs.1) (ok.ne c hcs.1))
 ·intro x hx
  obtain ⟨y,hy,rfl⟩:=Sh.mp hx
  exact (h.ck y hy).at (h.le y hy) ok.ts (by have:=(h.ck y hy).v;omega)
 ·intro x hx
  rw [et]
  obtain ⟨y,hy,rfl⟩:=Sh.mp hx
  exact Rat.le_refl
 ·intro c hc
  rw [e] at hc
  obtain ⟨c0,h0,rfl⟩:=Sh.mp hc
  unfold d5
  split
  ·exact (ki (h.ct c0 h0) (ok.ne c0 h0)).1
  ·exact h.ct c0 h0
theorem Rl.join {L L':Ln} {gs:List (Str × aK)} (h:Rl L gs) (ok':bc L') {n:Str} {x v:Int} (hv:v.natAbs≤1000) (hx:x.natAbs≤1000000) (j:L.joined n x v L') (t0:0≤L.t) (ts:Sc gX MM L.t) (hnew:n ∉ L.fs.map (·.1)):Rl L' (gs ++ [(n,⟨L.t,(x:Rat),v⟩)]):=by
 obtain ⟨a,r,ecs,et⟩:=j
 have efs:L'.fs=L.fs ++ [(n,⟨L.t,(x:Rat),v⟩)]:=zL L ecs rfl
 refine ⟨?_,?_,?_,?_,?_⟩
 ·rw [efs,Sk,Sk,h.nm]
 ·intro m l l' hl hl'
  rw [efs] at hl'
  have h1:∀{k},(n,k)∈gs→False:=λhk=>hnew (by rw [← h.nm];exact Sh.mpr ⟨_,hk,rfl⟩)
  have h2:∀{k},(n,k)∈L.fs→False:=λhk=>hnew (Sh.mpr ⟨_,hk,rfl⟩)
  rcases Sq.mp hl with hl | hl <;> rcases Sq.mp hl' with hl' | hl'
  ·exact h.ln m l l' hl hl'
  ·rw [Su] at hl';cases hl';exact (h1 hl).elim
  ·rw [Su] at hl;cases hl;exact (h2 hl').elim
  ·rw [Su] at hl hl';cases hl;cases hl';exact ⟨rfl,λ_=>rfl⟩
 ·intro y hy
  rcases Sq.mp hy with hy | hy
  ·exact h.ck y hy
  ·rw [Su] at hy;subst hy;exact rO.new t0 ts hx hv
 ·intro y hy
  rw [et]
  rcases Sq.mp hy with hy | hy
  ·exact h.le y hy
  ·rw [Su] at hy;subst hy;exact Rat.le_refl
 ·intro c hc
  rw [ecs] at hc
  rcases Sq.mp hc with hc | hc
  ·exact h.ct c hc
  ·rw [Su] at hc;subst hc;exact trivial
def nZ (n:Str) (gs:List (Str × aK)):List (Str × aK):=gs.filter λx=>decide (x.1≠n)
theorem Rl.leave {L L':Ln} {gs:List (Str × aK)} (h:Rl L gs) {n:Str} (e:L'.cs=L.cs.map (bG n L.t)) (et:L'.t=L.t):Rl L' (nZ n gs):=by
 have hfs:L'.fs=L.fs.filter λx=>decide (x.1≠n):=wK e
 have hf:∀l:List (Str × aK),(l.filter λx=>decide (x.1≠n)).map (·.1)=(l.map (·.1)).filter λy=>decide (y≠n):=λl=>by rw [Tg];rfl
 refine ⟨?_,?_,?_,?_,?_⟩
 ·unfold nZ;rw [hf,hfs,hf,h.nm]
 ·intro m l l' hl hl'
  rw [hfs] at hl'
  exact h.ln m l l' (Sx.mp hl).1 (Sx.mp hl').1
 ·intro x hx;exact h.ck x (Sx.mp hx).1
 ·intro x hx;rw [et];exact h.le x (Sx.mp hx).1
 ·intro c hc
  rw [e] at hc
  obtain ⟨c0,h0,rfl⟩:=Sh.mp hc
  rw [(dw n L.t c0).2.2.2];exact h.ct c0 h0
abbrev vD:Stmt:=(top 56)
abbrev la:List Str:=["_law_legs","_law_clock","_law_deed_here"]
theorem xx:L2.aw ["_law_legs","_law_clock","_law_deed_here","_law_name"] ["_law_legs","_law_clock","_law_deed_here"] (L2.ai vD):=eJ
def e_ (n:Str) (x v:Int):PV:=.tup [.str "join",.str n,.int x,.int v]
def gF (n:Str) (v:Int):PV:=.tup [.str "turn",.str n,.int v]
def f9:PV:=.tup [.str "about"]
def fJ (n:Str):PV:=.tup [.str "leave",.str n]
def IA (m:Rat):PV:=.tup [.str "go",fr m]
def Aq:cS:=λxs J Q _=>∃(D:Addr) (gs:List (Str × aK)) (ep:Nat) (t:Rat) (dv:PV),xs=[.ref D,fr t,dv]∧J D=some (.dct (bN gs) ep)∧(gs.map (·.1)).Nodup∧gs.length≤100∧Sz 900 t∧(∀x∈gs,kP 900 x.2) ∧
 ((∃n x v,dv=e_ n x v∧n ∉ gs.map (·.1)∧∀ep',Q (fr t) (put J D (.dct (bN (gs ++ [(n,⟨t,(x:Rat),v⟩)])) ep'))) ∨
  (∃n v,dv=gF n v∧n∈gs.map (·.1)∧∀ep',Q (fr t) (put J D (.dct (bN (ua n t v gs)) ep'))) ∨
  (dv=f9∧∀ep',Q (fr t) (put J D (.dct (bN (jF t gs)) ep'))) ∨
  (∃n,dv=fJ n∧n∈gs.map (·.1)∧∀ep',Q (fr t) (put J D (.dct (bN (nZ n gs)) ep'))) ∨
  (∃m,dv=IA m∧Q (fr m) J))
theorem Jy:(("join":Str)="go")=False:=eq_false (by decide +kernel)
theorem JA:(("turn":Str)="go")=False:=eq_false (by decide +kernel)
theorem Jx:(("about":Str)="go")=False:=eq_false (by decide +kernel)
theorem Kl {c:kT} {a u:iG} {D:En} {τ:Sr} {J:Hq} (hc:∀R:Bool→Hq→Prop,R false J→c τ J R) (hu:u D τ J):Hy (Cc c a tX) u D τ J :=
 ⟨λτ' J'=>τ'=τ∧J'=J,hc _ (by rw [if_neg (by decide)];exact ⟨rfl,rfl⟩),λτ' J' h=>by obtain ⟨rfl,rfl⟩:=h;exact hu⟩
theorem dX {c:kT} {a u:iG} {D:En} {τ:Sr} {J:Hq} (M:Sr→Hq→Prop) (hc:∀R:Bool→Hq→Prop,R true J→c τ J R) (ha:a { D with nx:=M } τ J) (hu:∀τ' J',M τ' J'→u D τ' J'):Hy (Cc c a tX) u D τ J :=
 ⟨M,hc _ (by rw [if_pos rfl];exact ha),hu⟩
theorem A2 {x y:Str} {i:Nat} {dv:PV} {τ:Sr} {J:Hq} (h:τ[i]?=some (some dv)) (h0:e9 J dv (.int 0)=some (.str x)) (R:Bool→Hq→Prop) (hr:R (decide (x=y)) J):rB (y2 (Lp id) (y2 Mu (qN i) (rC (.int 0))) (rC (.str y))) τ J R :=
 K4 h (jT h0 ⟨⟨rfl,by simp [gu,dep]⟩,rfl,yK rfl (by rw [eq_str];exact hr)⟩)
theorem cg {x y:Str} {i:Nat} {dv:PV} {τ:Sr} {J:Hq} {a u:iG} {D:En} (h:τ[i]?=some (some dv)) (h0:e9 J dv (.int 0)=some (.str x)) (n:decide (x=y)=false) (hu:u D τ J):Hy (Cc (rB (y2 (Lp id) (y2 Mu (qN i) (rC (.int 0))) (rC (.str y)))) a tX) u D τ J:=Kl (λR hr'=>A2 h h0 R (by rw [n];exact hr')) hu
theorem ph {x:Str} {i:Nat} {dv:PV} {τ:Sr} {J:Hq} (h:τ[i]?=some (some dv)) (h0:e9 J dv (.int 0)=some (.str x)) (R:Bool→Hq→Prop) (hr:R true J):rB (y2 (Lp id) (y2 Mu (qN i) (rC (.int 0))) (rC (.str x))) τ J R:=A2 h h0 R (by rw [decide_eq_true rfl];exact hr)
def fi (t:Rat) (gs:List (Str × aK)) (i:Nat):List (Str × aK):=jF t (gs.take i) ++ gs.drop i
theorem tq (t:Rat) (gs:List (Str × aK)) (i:Nat):(fi t gs i).map (·.1)=gs.map (·.1):=by
 unfold fi jF
 rw [Sk,Ss]
 have:((gs.take i).map ((λx:Str × aK=>x.1) ∘ λx=>(x.1,(⟨t,x.2.at t,-x.2.v⟩:aK))))=(gs.take i).map (·.1):=SG λ_ _=>rfl
 rw [this,← Sk,T']
theorem wk (t:Rat) (gs:List (Str × aK)) (hnd:(gs.map (·.1)).Nodup) (i:Nat) (h:i < gs.length):(fi t gs i).map (λx=>if x.1=gs[i].1 then (x.1,(⟨t,gs[i].2.at t,-gs[i].2.v⟩:aK)) else x)=fi t gs (i + 1):=by
 have hd:gs.drop i=gs[i] :: gs.drop (i + 1):=TR h
 have ht:gs.take (i + 1)=gs.take i ++ [gs[i]]:=by rw [SS,Si h];rfl
 have hn2:(gs.map (·.1))=(gs.take i).map (·.1) ++ (gs[i].1 :: (gs.drop (i + 1)).map (·.1)):=by
  rw [← Sm (f:=λx:Str × aK=>x.1),← hd,← Sk,T']
 rw [hn2,Tq] at hnd
 unfold fi jF
 rw [hd,ht,Sk,Sk,Sm,if_pos rfl,Uo]
 congr 1
 ·rw [Ss]
  refine SG λx hx=>?_
  show (if x.1=gs[i].1 then _ else _)=_
  rw [if_neg (hnd.2.2 x.1 (Sh.mpr ⟨x,hx,rfl⟩) gs[i].1 (by simp))]
 ·show _ :: _=_ :: _
  congr 1
  have hno:=(TB.mp hnd.2.1).1
  have:∀x∈gs.drop (i + 1),(if x.1=gs[i].1 then (x.1,(⟨t,gs[i].2.at t,-gs[i].2.v⟩:aK)) else x)=x:=λx hx=>if_neg λz=>hno (by rw [← z];exact Sh.mpr ⟨x,hx,rfl⟩)
  rw [SG this,Uj]
  rfl
theorem Jz:(("leave":Str)="go")=False:=eq_false (by decide +kernel)
theorem BV {f:Addr} {fd:FuncData} (F:cE K "_law_acted" "_law_acted" vD f fd) (Z:cb mg) (A3:bC P w K mg base 2 "_law_at" iY oZ):aQ P w K mg base (dn P w) 3 f fd la (d4 K Aq):=by
 simp_arith [xx,(cH (aY (aB (cG hr.aV) (ar av (rv 2) ag) bK) (au (i6 fY (rv 0) (ar av (rv 2) ag) (cq (af (rv 1) (af (cq (af (ar av (rv 2) ag) (af ag ah))) (af (ar av (rv 2) ag) ah)))))) aL)
   (cH (aY (aB (cG hr.aV) (ar av (rv 2) ag) bK) (au (bq (jm PySem.F.plainAttrs_dict PySem.F.slot_dict_pop PySem.F.type_dict_pop GR (rv 0) (af (ar av (rv 2) ag) ah)))) aL)
   (cH (aY (aB (cG hr.aV) (ar av (rv 2) ag) bK) (au (i6 fY (rv 0) (ar av (rv 2) ag) (cq (af (rv 1) (af (aU A3 B hr (af (ar cM (rv 0) (ar av (rv 2) ag)) (af (rv 1) ah))) (af (ar av (rv 2) ag) ah)))))) aL)
   (cH (aY (aB (cG hr.aV) (ar av (rv 2) ag) bK) (au (d8 bZ rfl (dI (iB (wu rfl) rfl Z.list boot_list (af (rv 0) ah))) (bJ (i:=3) xx.nd) (au (i6 fY (rv 0) (rv 3) (cq (af (rv 1) (af (aU A3 B hr (af (ar cM (rv 0) (rv 3)) (af (rv 1) ah))) (af (lB h_ (ar av (ar cM (rv 0) (rv 3)) ag)) ah)))))))) aL)
   (aj (aY (aB (cG hr.aV) (ar av (rv 2) ag) bK) (au (aE (ar av (rv 2) ag))) aL)
   (au (aE (rv 1))))))))]
 ·obtain ⟨D,gs,ep,t,dv,rfl,_⟩:=h;rfl
 obtain ⟨D,gs,ep,t,dv,rfl,hD,hnd,hlen,st,sl,h⟩:=h
 refine hX ?_
 rcases h with ⟨n,x,v,rfl,hn,q⟩ | ⟨n,v,rfl,hn,q⟩ | ⟨rfl,q⟩ | ⟨n,rfl,hn,q⟩ | ⟨m,rfl,q⟩
 ·have i0:∀J,e9 J (e_ n x v) (.int 0)=some (.str "join"):=λJ=>dj _ _
  have i1:∀J,e9 J (e_ n x v) (.int 1)=some (.str n):=λJ=>eZ _ _ _
  have i2:∀J,e9 J (e_ n x v) (.int 2)=some (.int x):=λJ=>ji _ _ _ _
  have i3:∀J,e9 J (e_ n x v) (.int 3)=some (.int v):=λJ=>rfl
  refine dX (λτ' J'=>∃ep',τ'=[some (.ref D),some (fr t),some (e_ n x v),none]∧J'=put J D (.dct (bN (gs ++ [(n,⟨t,(x:Rat),v⟩)])) ep')) (ph rfl (i0 _)) ?_ ?_
  ·simp_all! [i1,i2,i3,hD,Ku,rE]
   refine ⟨aZ (by unfold bN;rw [Sg];omega),λep'=>⟨ep',?_⟩⟩
   have epu:nE (bN gs) n (aK.mk t (x:Rat) v).V=bN (gs ++ [(n,⟨t,(x:Rat),v⟩)]):=lV (f:=aK.V) (l:=⟨t,(x:Rat),v⟩) hn
   rw [epu]
  rintro τ' J' ⟨ep',rfl,rfl⟩
  refine cg rfl (i0 _) (by decide +kernel) ?_
  refine cg rfl (i0 _) (by decide +kernel) ?_
  refine cg rfl (i0 _) (by decide +kernel) ?_
  simp_all! [i0,Jy,if_false]
  exact q ep'
 ·have i0:∀J,e9 J (gF n v) (.int 0)=some (.str "turn"):=λJ=>dj _ _
  have i1:∀J,e9 J (gF n v) (.int 1)=some (.str n):=λJ=>eZ _ _ _
  have i2:∀J,e9 J (gF n v) (.int 2)=some (.int v):=λJ=>ji _ _ _ _
  refine cg rfl (i0 _) (by decide +kernel) ?_
  refine cg rfl (i0 _) (by decide +kernel) ?_
  refine dX (λτ' J'=>∃ep',τ'=[some (.ref D),some (fr t),some (gF n v),none]∧J'=put J D (.dct (bN (ua n t v gs)) ep')) (ph rfl (i0 _)) ?_ ?_
  ·obtain ⟨l,hl,hvl⟩:=v_ (f:=aK.V) hnd hn
   have hvl:jA (bN gs) n=some l.V:=hvl
   have sll:=sl _ hl
   simp_all! [i1,i2,hD,hvl]
   refine ⟨l,t,rfl,sll.m,sll.p,st,sll.v,?_⟩
   simp_all! [i1,i2,hD,rE]
   refine ⟨aZ (by unfold bN;rw [Sg];omega),λep'=>⟨ep',?_⟩⟩
   rw [Ey hn]
   have:(gs.map λx=>if x.1=n then (x.1,(⟨t,l.at t,v⟩:aK)) else x)=ua n t v gs:=SG λx hx=>by
    by_cases z:x.1=n
    ·have hx':jA (bN gs) n=some x.2.V:=gH (f:=aK.V) hnd (by rw [← z];exact hx)
     rw [hvl] at hx'
     have ex:l=x.2:=by have:=Option.some.inj hx';rw [MJ] at this;exact this
     rw [if_pos z,if_pos z,ex]
    ·rw [if_neg z,if_neg z]
   rw [this]
  rintro τ' J' ⟨ep',rfl,rfl⟩
  refine cg rfl (i0 _) (by decide +kernel) ?_
  simp_all! [i0,JA,if_false]
  exact q ep'
 ·have i0:∀J,e9 J f9 (.int 0)=some (.str "about"):=λJ=>dj _ _
  refine cg rfl (i0 _) (by decide +kernel) ?_
  refine cg rfl (i0 _) (by decide +kernel) ?_
  refine cg rfl (i0 _) (by decide +kernel) ?_
  refine dX (λτ' J'=>∃u ep',τ'=[some (.ref D),some (fr t),some f9,u]∧J'=put J D (.dct (bN (jF t gs)) ep')) (ph rfl (i0 _)) ?_ ?_
  ·simp_all! [hD]
   have hkv:(bN gs).map (λkv=>PV.str kv.1)=gs.map λx=>PV.str x.1:=by unfold bN;rw [Ss];rfl
   rw [hkv]
   obtain ⟨Inv,hInv⟩:∃Inv:Nat→Sr→Hq→Prop,∀i τ J',Inv i τ J'↔∃(u:Option PV) (ep':Nat),τ=[some (.ref D),some (fr t),some f9,u]∧J'=put J D (.dct (bN (fi t gs i)) ep'):=⟨_,λ_ _ _=>Iff.rfl⟩
   refine d6 Inv ((hInv _ _ _).mpr ⟨_,ep,rfl,by show J=put J D (.dct (bN gs) ep);rw [yZ hD]⟩) (λ_ _ _ _=>trivial) ?_ ?_
   ·intro i x τ J' hx hv
    obtain ⟨u,ep',rfl,rfl⟩:=(hInv _ _ _).mp hv
    clear hv
    have hi:i < gs.length:=by have:=(Sj.mp hx).1;simpa using this
    rw [Sl,Si hi] at hx
    cases hx
    have hnd':((fi t gs i).map (·.1)).Nodup:=by rw [tq];exact hnd
    have hmem:gs[i]∈fi t gs i:=by unfold fi;rw [TR hi];exact Sq.mpr (.inr SY)
    have hva:jA (bN (fi t gs i)) gs[i].1=some gs[i].2.V:=gH (f:=aK.V) hnd' hmem
    have hstep:=wk t gs hnd i hi
    have hin:gs[i].1∈(fi t gs i).map (·.1):=Sh.mpr ⟨_,hmem,rfl⟩
    have hlen':(fi t gs i).length=gs.length:=by have:=congrArg TV (tq t gs i);rw [Sg,Sg] at this;exact this
    have sll:=sl _ (SM hi)
    generalize gs[i]=y at hva hstep hin sll ⊢
    simp_all! [aq,hva]
    refine ⟨y.2,t,rfl,sll.m,sll.p,st,sll.v,?_⟩
    simp_all! [aq,hva,kX,rE]
    refine ⟨aZ (by unfold bN;rw [Sg];omega),λep2=>(hInv _ _ _).mpr ⟨_,ep2,rfl,?_⟩⟩
    rw [bW,Ey hin,hstep]
   ·intro τ J' hv
    obtain ⟨u,ep',rfl,rfl⟩:=(hInv _ _ _).mp hv
    refine ⟨u,rfl,ep',?_⟩
    rw [Sg]
    unfold fi
    rw [SV,List.drop_length,S_]
  rintro τ' J' ⟨u,ep',rfl,rfl⟩
  simp_all! [i0,Jx,if_false]
  exact q ep'
 ·have i0:∀J,e9 J (fJ n) (.int 0)=some (.str "leave"):=λJ=>dj _ _
  have i1:∀J,e9 J (fJ n) (.int 1)=some (.str n):=λJ=>eZ _ _ _
  refine cg rfl (i0 _) (by decide +kernel) ?_
  refine dX (λτ' J'=>∃ep',τ'=[some (.ref D),some (fr t),some (fJ n),none]∧J'=put J D (.dct (bN (nZ n gs)) ep')) (ph rfl (i0 _)) ?_ ?_
  ·obtain ⟨l,hl,hvl⟩:=v_ (f:=aK.V) hnd hn
   have hvl:jA (bN gs) n=some l.V:=hvl
   simp_all! [i1,hD,hvl]
   have edr:Bo (bN gs) n=bN (nZ n gs):=by unfold Bo bN nZ;rw [Tg];rfl
   intro ep'
   exact ⟨ep',by rw [edr]⟩
  rintro τ' J' ⟨ep',rfl,rfl⟩
  refine cg rfl (i0 _) (by decide +kernel) ?_
  refine cg rfl (i0 _) (by decide +kernel) ?_
  simp_all! [i0,Jz,if_false]
  exact q ep'
 ·have i0:∀J,e9 J (IA m) (.int 0)=some (.str "go"):=λJ=>dj _ _
  have i1:∀J,e9 J (IA m) (.int 1)=some (fr m):=λJ=>eZ _ _ _
  refine cg rfl (i0 _) (by decide +kernel) ?_
  refine cg rfl (i0 _) (by decide +kernel) ?_
  refine cg rfl (i0 _) (by decide +kernel) ?_
  refine cg rfl (i0 _) (by decide +kernel) ?_
  simp_all! [i0,i1,if_true]
  exact q
abbrev y6:Stmt:=(top 57)
abbrev mY:List Str:=["_law_lane","_law_deed_here"]
theorem HL:L2.aw ["_law_lane","_law_deed_here"] ["_law_lane","_law_deed_here"] (L2.ai y6):=eJ
def E8 (cN cL T:Addr):cS:=λxs J Q _=>∃p L dv,xs=[.ref p,dv]∧bt cN cL J p L∧cI L ∧
 ((∃n x v,dv=e_ n x v∧J T=some .tab∧good n=true∧Mn x v∧n ∉ L.cs.map Cf.n∧L.row.length < 12∧L.cs.length < 100∧n.length≤sizeLine∧∀J' L',bt cN cL J' p L'→cI L'→L.joined n x v L'→Mv J J' (L.own p) (L'.own p)→Q (.fl []) J') ∨
  (∃n v,dv=gF n v∧n∈L.row∧v.natAbs≤1000∧(∀c∈L.cs,c.w.length < 200)∧∀J' L',bt cN cL J' p L'→cI L'→L'.cs=L.cs.map (cU n L.t v)→L'.t=L.t→Mv J J' (L.own p) (L'.own p)→Q (.fl []) J') ∨
  (dv=f9∧(∀c∈L.cs,c.w.length < 200)∧∀J' L',bt cN cL J' p L'→cI L'→L'.cs=L.cs.map (d5 L.t)→L'.t=L.t→Mv J J' (L.own p) (L'.own p)→Q (.fl []) J') ∨
  (∃n,dv=fJ n∧n∈L.row∧∀J' L',bt cN cL J' p L'→cI L'→L'.cs=L.cs.map (bG n L.t)→L'.t=L.t→Mv J J' (L.own p) (L'.own p)→Q (.fl []) J') ∨
  (∃m:Rat,dv=IA m∧il m.num m.den=true∧L.t≤m∧∀J' o',bt cN cL J' p { L with t:=m,o:=o',row:=cT m L.fs }→cI { L with t:=m,o:=o',row:=cT m L.fs }→Mv J J' (L.own p) (Ln.own { L with t:=m,o:=o',row:=cT m L.fs } p)→Q (.fl ((oW L.t (L.fs.map (key L.t)) m).map aS.v)) J'))
theorem D6 {cN cL T eB eF eT eU eC eM eP f:Addr} {fd:FuncData} (F:cE K "_law_done" "_law_done" y6 f fd) (Z:cb mg) (jO:dq P w K mg base cN 8 "join" mR (AG cN cL T eB eF eT eU)) (iS:dq P w K mg base cN 2 "leave" k8 (xI cN cL eC)) (jP:dq P w K mg base cN 8 "turn" mS (AH cN cL eC eF)) (iP:dq P w K mg base cN 8 "about" k6 (xH cN cL)) (iQ:dq P w K mg base cN 8 "go_to" k7 (Jv cN cL eM eP)):aQ P w K mg base (dn P w) 9 f fd mY (d4 K (E8 cN cL T)):=by
 simp_arith [HL,(cH (aY (aB (cG hr.aV) (ar av (rv 1) ag) bK) (au (bq (bI (pl:=_) jO B hr (rv 0) (af (ar av (rv 1) ag) (af (ar av (rv 1) ag) (af (ar av (rv 1) ag) ah)))))) aL)
   (cH (aY (aB (cG hr.aV) (ar av (rv 1) ag) bK) (au (bq (bI (pl:=_) iS B hr (rv 0) (af (ar av (rv 1) ag) ah)))) aL)
   (cH (aY (aB (cG hr.aV) (ar av (rv 1) ag) bK) (au (bq (bI (pl:=_) jP B hr (rv 0) (af (ar av (rv 1) ag) (af (ar av (rv 1) ag) ah))))) aL)
   (cH (aY (aB (cG hr.aV) (ar av (rv 1) ag) bK) (au (bq (gx (pl:=_) iP B hr (rv 0)))) aL)
   (aj (aY (aB (cG hr.aV) (ar av (rv 1) ag) bK) (au (aE (bI (pl:=_) iQ B hr (rv 0) (af (ar av (rv 1) ag) ah)))) aL)
   (au (aE (lA ah))))))))]
 ·obtain ⟨p,L,dv,rfl,_⟩:=h;rfl
 obtain ⟨p,L,dv,rfl,b,ok,h⟩:=h
 have bo:=b.ob
 refine hX ?_
 rcases h with ⟨n,x,v,rfl,hT,hg,hb,hn,hr12,hc,hl,q⟩ | ⟨n,v,rfl,hn,hv,hw,q⟩ | ⟨rfl,hw,q⟩ | ⟨n,rfl,hn,q⟩ | ⟨m,rfl,hg,hm,q⟩
 ·have i0:∀J,e9 J (e_ n x v) (.int 0)=some (.str "join"):=λJ=>dj _ _
  have i1:∀J,e9 J (e_ n x v) (.int 1)=some (.str n):=λJ=>eZ _ _ _
  have i2:∀J,e9 J (e_ n x v) (.int 2)=some (.int x):=λJ=>ji _ _ _ _
  have i3:∀J,e9 J (e_ n x v) (.int 3)=some (.int v):=λJ=>rfl
  refine dX (λτ' J'=>τ'=[some (.ref p),some (e_ n x v)]∧Q (.fl []) J') (ph rfl (i0 _)) ?_ ?_
  ·simp_all! [bo,i1,i2,i3]
   exact ⟨gK _ _ _ _,p,L,n,x,v,rfl,b,ok,hT,hl,hc,(λz=>by rw [hg] at z;cases z),(λ_ z=>absurd hb z),(λ_ _ z=>absurd z hn),(λ_ _ _ z=>by omega),λ_ _ _ _ J1 L1 b1 ok1 jn mv=>q J1 L1 b1 ok1 jn mv⟩
  rintro τ' J' ⟨rfl,hq⟩
  refine cg rfl (i0 _) (by decide +kernel) ?_
  refine cg rfl (i0 _) (by decide +kernel) ?_
  refine cg rfl (i0 _) (by decide +kernel) ?_
  simp_all! [i0,Jy,if_false]
  exact hq
 ·have i0:∀J,e9 J (gF n v) (.int 0)=some (.str "turn"):=λJ=>dj _ _
  have i1:∀J,e9 J (gF n v) (.int 1)=some (.str n):=λJ=>eZ _ _ _
  have i2:∀J,e9 J (gF n v) (.int 2)=some (.int v):=λJ=>ji _ _ _ _
  refine cg rfl (i0 _) (by decide +kernel) ?_
  refine cg rfl (i0 _) (by decide +kernel) ?_
  refine dX (λτ' J'=>τ'=[some (.ref p),some (gF n v)]∧Q (.fl []) J') (ph rfl (i0 _)) ?_ ?_
  ·simp_all! [bo,i1,i2]
   exact ⟨gK _ _ _ _,p,L,n,v,rfl,b,ok,hw,λz=>absurd hn z,λ_ z=>absurd hv z,λ_ _ J1 L1 b1 ok1 e t1 mv=>q J1 L1 b1 ok1 e t1 mv⟩
  rintro τ' J' ⟨rfl,hq⟩
  refine cg rfl (i0 _) (by decide +kernel) ?_
  simp_all! [i0,JA,if_false]
  exact hq
 ·have i0:∀J,e9 J f9 (.int 0)=some (.str "about"):=λJ=>dj _ _
  refine cg rfl (i0 _) (by decide +kernel) ?_
  refine cg rfl (i0 _) (by decide +kernel) ?_
  refine cg rfl (i0 _) (by decide +kernel) ?_
  refine dX (λτ' J'=>τ'=[some (.ref p),some (f9)]∧Q (.fl []) J') (ph rfl (i0 _)) ?_ ?_
  ·simp_all! [bo]
   exact ⟨gK _ _ _ _,p,L,rfl,b,ok,hw,λJ1 L1 b1 ok1 e t1 mv=>q J1 L1 b1 ok1 e t1 mv⟩
  rintro τ' J' ⟨rfl,hq⟩
  simp_all! [i0,Jx,if_false]
  exact hq
 ·have i0:∀J,e9 J (fJ n) (.int 0)=some (.str "leave"):=λJ=>dj _ _
  have i1:∀J,e9 J (fJ n) (.int 1)=some (.str n):=λJ=>eZ _ _ _
  refine cg rfl (i0 _) (by decide +kernel) ?_
  refine dX (λτ' J'=>τ'=[some (.ref p),some (fJ n)]∧Q (.fl []) J') (ph rfl (i0 _)) ?_ ?_
  ·simp_all! [bo,i1]
   exact ⟨gK _ _ _ _,p,L,n,rfl,b,ok,λz=>absurd hn z,λ_ J1 L1 b1 ok1 e t1 mv=>q J1 L1 b1 ok1 e t1 mv⟩
  rintro τ' J' ⟨rfl,hq⟩
  refine cg rfl (i0 _) (by decide +kernel) ?_
  refine cg rfl (i0 _) (by decide +kernel) ?_
  simp_all! [i0,Jz,if_false]
  exact hq
 ·have i0:∀J,e9 J (IA m) (.int 0)=some (.str "go"):=λJ=>dj _ _
  have i1:∀J,e9 J (IA m) (.int 1)=some (fr m):=λJ=>eZ _ _ _
  refine cg rfl (i0 _) (by decide +kernel) ?_
  refine cg rfl (i0 _) (by decide +kernel) ?_
  refine cg rfl (i0 _) (by decide +kernel) ?_
  refine cg rfl (i0 _) (by decide +kernel) ?_
  simp_all! [i0,i1,if_true,bo]
  refine ⟨gK _ _ _ _,p,L,m.num,m.den,rfl,b,ok,(λz=>by rw [hg] at z;cases z),λm' e1 e2 _=>?_⟩
  obtain rfl:m'=m:=Rat.ext e1 (by omega)
  exact ⟨λz=>absurd z (Rat.not_lt.mpr hm),λ_ J1 o1 b1 ok1 mv1=>q J1 o1 b1 ok1 mv1⟩
abbrev vE:Stmt:=(top 54)
abbrev mV:List Str:=["_law_row","_law_mode","_law_names_here","_law_used","_law_legs","_law_clock"]
theorem pT:L2.aw ["_law_row","_law_mode","_law_names_here","_law_used","_law_legs","_law_clock","_law_there","_law_fresh","_law_name"] ["_law_row","_law_mode","_law_names_here","_law_used","_law_legs","_law_clock"] (L2.ai vE):=eJ
def JS (names used:List Str) (gs:List (Str × aK)) (t:Rat) (dv:PV):Prop :=
 (∃n x v,dv=e_ n x v∧n∈names∧n ∉ used∧gs.length < 12∧x.natAbs≤1000000∧v.natAbs≤1000) ∨
 (∃n v,dv=gF n v∧n∈gs.map (·.1)∧v.natAbs≤1000)∨dv=f9∨(∃n,dv=fJ n∧n∈gs.map (·.1))∨∃m,dv=IA m∧Later t m
def E7:cS:=λxs J Q _=>∃(r0 r1 r2 r3 r4 r5 m:Int) (names used:List Str) (U D:Addr) (gs:List (Str × aK)) (ep:Nat) (t:Rat) (kvU:List (Str × PV)) (epU:Nat),xs=[.fl [.int r0,.int r1,.int r2,.int r3,.int r4,.int r5],.int m,.fl (names.map .str),.ref U,.ref D,fr t]∧J U=some (.dct kvU epU)∧kvU.map (·.1)=used∧J D=some (.dct (bN gs) ep)∧names.length≤40∧gs.length≤100 ∧
 0≤r1∧0≤r2∧0≤r3∧r3 < 2001∧0≤r4∧r4 < 2 ^ 60∧0≤r5∧0≤m∧m < 4∧Sz 900 t∧∀dv,JS names used gs t dv→Q dv J
theorem zm {kv:List (Str × PV)} {k:Str}:(jA kv k).isSome=decide (k∈kv.map (·.1)):=by
 induction kv with
 | nil=>rfl
 | cons p r ih =>
  rw [L2.km,Sm]
  by_cases h:p.1=k
  ·rw [if_pos h,decide_eq_true (by rw [h];exact SY)];rfl
  ·rw [if_neg h,ih];exact decide_eq_decide.mpr ⟨λz=>SI _ z,λz=>by rcases Sy.mp z with e | z;exact absurd e.symm h;exact z⟩
theorem uG {c:kT} {a u:iG} {D:En} {τ:Sr} {J:Hq} (b:Prop) [Decidable b] (hc:∀R:Bool→Hq→Prop,R (decide b) J→c τ J R) (h1:b→∀N,a { D with nx:=N } τ J) (h2:¬ b→u D τ J):bQ (Cc c a tX) u D τ J:=by
 refine hc _ ?_
 by_cases h:b
 ·rw [decide_eq_true h,if_pos rfl];exact h1 h _
 ·rw [decide_eq_false h,if_neg (by decide)];exact h2 h
theorem HD {R:Bool→Hq→Prop} {b c:Bool} {J:Hq} (h:R b J) (e:b=true↔c=true):R c J:=by rw [← Tz.mpr e];exact h
theorem vg {xs:List Str} {r:Int} (h0:0≤r) (hl:0 < xs.length):∃n∈xs,di (xs.map PV.str) (r % (xs.length:Int))=some (.str n):=by
 obtain ⟨j,hj⟩:∃j:Nat,r % (xs.length:Int)=j:=⟨(r % (xs.length:Int)).toNat,by have:=Int.emod_nonneg r (b:=(xs.length:Int)) (by omega);omega⟩
 have hjl:j < xs.length:=by have:=Int.emod_lt_of_pos r (b:=(xs.length:Int)) (by omega);omega
 exact ⟨xs[j],SM hjl,by rw [hj];exact bB (by rw [Sl,Si hjl];rfl)⟩
theorem D5 {f:Addr} {fd:FuncData} (F:cE K "_law_deed" "_law_deed" vE f fd) (Z:cb mg) (Cz:bC P w K mg base 1 "_law_placed" jX t8) (zo:bC P w K mg base 1 "_law_paced" ly xO) (FN:bC P w K mg base 2 "_law_later" lj AA):aQ P w K mg base (dn P w) 3 f fd mV (d4 K E7):=by
 simp_arith [pT,(aj (aM (i:=6) pT.nd (iB (wu rfl) rfl Z.list boot_list (af (rv 4) ah)))
   (aj (LC (i:=7) (L2.ai vE) ["_law_row","_law_mode","_law_names_here","_law_used","_law_legs","_law_clock","_law_there","_law_fresh","_law_name"] [("_law_used",3)] rfl rfl rfl pT.nd rfl (Or.inl rfl) (dI (rv 2)) (λ_ _ _ _ _ _=>(rv 0)) (λ_ _ _ _ _ _=>(aB Ha (rv 0) (rv 1))))
   (aj (aY (fb (fP (aB oV (bx cW rfl Z.len boot_len (af (rv 7) ah)) ag) (fP (aB fS (bx cW rfl Z.len boot_len (af (rv 6) ah)) ag) (eV (fb (qQ (aB fS (ar av (rv 0) ag) ag) (lW (fb (fP (aB fS (bx cW rfl Z.len boot_len (af (rv 6) ah)) ag) (eV (aB fS (ar av (rv 0) ag) ag))))))))))) (aj (aM (i:=8) pT.nd (ar av (rv 7) (aO eK (ar av (rv 0) ag) (bx cW rfl Z.len boot_len (af (rv 7) ah)))))
   (au (aE (cq (af bK (af (rv 8) (af (aU Cz B hr (af (ar av (rv 0) ag) (af (rv 1) ah))) (af (aU zo B hr (af (ar av (rv 0) ag) (af (rv 1) ah))) ah)))))))) aL)
   (aj (aY (fb (fP (aB Le (ar av (rv 0) ag) (cq (af ag (af ag ah)))) (eV (aB oV (bx cW rfl Z.len boot_len (af (rv 6) ah)) ag)))) (au (aE (cq (af bK (af (ar av (rv 6) (aO eK (ar av (rv 0) ag) (bx cW rfl Z.len boot_len (af (rv 6) ah)))) (af (aU zo B hr (af (ar av (rv 0) ag) (af (rv 1) ah))) ah)))))) aL)
   (aj (aY (fb (fP (aB (cG hr.aV) (ar av (rv 0) ag) ag) (eV (aB oV (bx cW rfl Z.len boot_len (af (rv 6) ah)) ag)))) (au (aE (cq (af bK (af (ar av (rv 6) (aO eK (ar av (rv 0) ag) (bx cW rfl Z.len boot_len (af (rv 6) ah)))) ah))))) aL)
   (aj (aY (aB (cG hr.aV) (ar av (rv 0) ag) ag) (au (aE (cq (af bK ah)))) aL)
   (au (aE (cq (af bK (af (aU FN B hr (af (rv 5) (af (ar av (rv 0) ag) (af (ar av (rv 0) ag) (af (rv 1) ah))))) ah)))))))))))]
 ·obtain ⟨r0,r1,r2,r3,r4,r5,m,names,used,U,D,gs,ep,t,kvU,epU,rfl,_⟩:=h;rfl
 obtain ⟨r0,r1,r2,r3,r4,r5,m,names,used,U,D,gs,ep,t,kvU,epU,rfl,hU,hkU,hD,hnl,hgl,r10,r20,r30,r31,r40,r41,r50,m0,m1,st,q⟩:=h
 have hkv:(bN gs).map (λkv=>PV.str kv.1)=(gs.map (·.1)).map PV.str:=by unfold bN;rw [Ss,Ss];rfl
 refine hX ?_
 simp_all! [hD,hkv,vt]
 obtain ⟨pn,hpn⟩:∃pn:Str→Bool,∀x,pn x=!decide (x∈used):=⟨_,λ_=>rfl⟩
 refine ⟨λx=>match x with | .str s=>pn s | _=>false,id,⟨by rw [Sg];exact Th hnl (by decide),λJ' sub=>⟨trivial,λx hx=>?_⟩⟩,?_⟩
 ·obtain ⟨s,hs,rfl⟩:=Sh.mp hx
  have hU':=sub _ _ hU
  simp_all! [pA,hU',zm,hkU]
  exact ⟨(hpn s).symm,λ_=>trivial⟩
 have ef:((names.map PV.str).filter λx=>match x with | .str s=>pn s | _=>false).map id=(names.filter pn).map PV.str:=by rw [List.map_id,Tg];rfl
 rw [ef]
 have hfr:∀n∈names.filter pn,n∈names∧n ∉ used:=λn hn=>by
  obtain ⟨h1,h2⟩:=Sx.mp hn
  rw [hpn] at h2
  exact ⟨h1,by simpa using h2⟩
 generalize names.filter pn=fresh at hfr ⊢
 have gl:(gs.map (·.1)).length=gs.length:=Sg _
 generalize hgn:gs.map (·.1)=gn at gl q ⊢
 refine hNq _ _ ?_
 clear hNq Nq
 refine uG (0 < fresh.length∧gs.length < 12∧(r0 < 3∨gs.length < 2∧r0 < 8)) (λR hR=>?_) (λhb N=>?_) (λhb=>?_)
 ·simp_arith! [bQ,Sg]
  (repeat' (first | split | simp_arith! [bQ,Sg])) <;> exact HD hR (by simp only [decide_eq_true_eq,SE,eq_self,iff_true,iff_false];omega)
 ·obtain ⟨n,hn,ha⟩:=vg r10 hb.1
  simp_all! [Sg,ha]
  refine ⟨by omega,?_⟩
  simp_all! []
  refine ⟨r2,m,rfl,r20,λx hx=>⟨r3,m,rfl,r30,r31,λv hv=>?_⟩⟩
  exact q _ (.inl ⟨n,x,v,rfl,(hfr n hn).1,(hfr n hn).2,hb.2.1,hx,hv⟩)
 refine uG ((r0=3∨r0=4)∧0 < gs.length) (λR hR=>?_) (λhb N=>?_) (λhb=>?_)
 ·simp_all! [Sg]
  refine ⟨r0,[3,4],rfl,rfl,yK rfl ?_⟩
  (repeat' (first | split | simp_arith! [bQ,Sg])) <;> exact HD hR (by simp only [decide_eq_true_eq,SE,id_eq,Sy,S2,or_false,eq_self,iff_true,iff_false] at *;omega)
 ·obtain ⟨n,hn,ha⟩:=vg (xs:=gn) r10 (by omega)
  simp_all! [Sg,ha]
  refine ⟨by omega,?_⟩
  simp_all! []
  refine ⟨r3,m,rfl,r30,r31,λv hv=>?_⟩
  exact q _ (.inr (.inl ⟨n,v,rfl,by rw [hgn];exact hn,hv⟩))
 refine uG (r0=5∧2 < gs.length) (λR hR=>?_) (λhb N=>?_) (λhb=>?_)
 ·simp_arith! [bQ,Sg]
  (repeat' (first | split | simp_arith! [bQ,Sg])) <;> exact HD hR (by simp only [decide_eq_true_eq,SE,eq_self,iff_true,iff_false];omega)
 ·obtain ⟨n,hn,ha⟩:=vg (xs:=gn) r10 (by omega)
  simp_all! [Sg,ha]
  exact ⟨by omega,q _ (.inr (.inr (.inr (.inl ⟨n,rfl,by rw [hgn];exact hn⟩))))⟩
 refine uG (r0=6) (λR hR=>?_) (λhb N=>?_) (λhb=>?_)
 ·simp_arith! [bQ]
  exact HD hR (by simp only [decide_eq_true_eq,SE])
 ·simp_all! []
  exact q _ (.inr (.inr (.inl rfl)))
 simp_all! []
 exact ⟨t,r4,r5,m,rfl,r40,r50,m0,m1,r41,st,λm' hm'=>q _ (.inr (.inr (.inr (.inr ⟨m',rfl,hm'⟩))))⟩
theorem Dv {m:Rat} (h0:0≤m) (hd:m.den≤60) (h1:m.num≤1000000 * (m.den:Int)):il m.num m.den=true:=by
 refine decide_eq_true ⟨by omega,by have:=m.den_pos;omega,?_,Rat.num_nonneg.mpr h0,h1⟩
 have:=m.reduced
 unfold Int.gcd
 exact this
theorem BB {c q:Rat} (h:Later c q) (hc:c.den≤60):q.den≤60:=by
 rcases h with rfl | ⟨u,s,u0,u1,s0,s1,rfl⟩
 ·exact hc
 ·have:=uB (t:=(c.num * (u:Int)).fdiv (c.den:Int) + (s:Int)) (b:=(u:Int)) (by omega)
  omega
theorem KL {q:Rat}:q.num≤1000000 * (q.den:Int)↔q≤1000000:=by
 rw [Rat.le_iff]
 have h3:(1000000:Rat).num=1000000:=rfl
 have h4:((1000000:Rat).den:Int)=1:=rfl
 rw [h3,h4]
 omega
structure Wk (cN cL:Addr) (J0:Hq) (S0:Addr→Prop) (J:Hq) (p:Addr) (L:Ln) (D U:Addr) (gs:List (Str × aK)) (ep:Nat) (used:List Str) (k:Nat):Prop where
 b:bt cN cL J p L
 ok:cI L
 rl:Rl L gs
 hD:J D=some (.dct (bN gs) ep)
 hU:J U=some (.lst (used.map .str))
 nD:¬ L.own p D
 nU:¬ L.own p U
 mv:Mv J0 J S0 (λa=>L.own p a∨a=D∨a=U)
 td:L.t.den≤60
 tl:L.t≤((500 * k:Nat):Rat)
 wl:∀c∈L.cs,c.w.length≤1 + k
theorem Rl.go {L:Ln} {gs:List (Str × aK)} (h:Rl L gs) {m:Rat} (hm:L.t≤m) {o:Addr} {row:List Str}:Rl { L with t:=m,o:=o,row:=row } gs:=⟨h.nm,h.ln,h.ck,λx hx=>Rat.le_trans (h.le x hx) hm,h.ct⟩
theorem DK {c q:Rat} (h:Later c q) (c0:0≤c):q≤c + 500:=by
 rcases h with rfl | ⟨u,s,u0,u1,s0,s1,rfl⟩
 ·grind
 rw [Rat.divInt_eq_div]
 have hu:(0:Rat) < ((u:Int):Rat):=by exact_mod_cast (show (0:Int) < u by omega)
 have h1:((s:Int):Rat)≤500 * ((u:Int):Rat):=by exact_mod_cast (show (s:Int)≤500 * u by omega)
 have hd:(0:Rat) < ((c.den:Int):Rat):=by exact_mod_cast (show (0:Int) < c.den by have:=c.den_pos;omega)
 have h2:((((c.num * (u:Int)).fdiv (c.den:Int)):Int):Rat)≤c * ((u:Int):Rat):=by
  have e1:(c.num * (u:Int)).fdiv (c.den:Int) * (c.den:Int)≤c.num * u:=by
   rw [Int.fdiv_eq_ediv_of_nonneg _ (by omega)]
   exact Int.ediv_mul_le _ (by have:=c.den_pos;omega)
  have e2:((((c.num * (u:Int)).fdiv (c.den:Int)):Int):Rat) * ((c.den:Int):Rat)≤(c.num:Rat) * ((u:Int):Rat):=by
   rw [← Rat.intCast_mul,← Rat.intCast_mul];exact Rat.intCast_le_intCast.mpr e1
  have e3:(c.num:Rat)=c * ((c.den:Int):Rat):=cast_eq c
  rw [e3] at e2
  generalize ((((c.num * (u:Int)).fdiv (c.den:Int)):Int):Rat)=x at e2 ⊢
  generalize ((c.den:Int):Rat)=y at e2 hd
  generalize ((u:Int):Rat)=z at e2 ⊢
  by_cases k:c * z < x
  ·have:0 < (x - c * z) * y:=Rat.mul_pos (by grind) hd
   grind
  ·grind
 rw [Rat.intCast_add]
 generalize ((((c.num * (u:Int)).fdiv (c.den:Int)):Int):Rat)=a at h2 ⊢
 generalize ((s:Int):Rat)=x at h1 ⊢
 generalize ((u:Int):Rat)=y at h1 h2 hu ⊢
 have e:(a + x) / y * y=a + x:=by grind
 generalize (a + x) / y=z at e ⊢
 by_cases k:c + 500 < z
 ·have:0 < (z - (c + 500)) * y:=Rat.mul_pos (by grind) hu
  grind
 ·grind
section
variable {cN cL:Addr} {J0 J:Hq} {S0:Addr→Prop} {p:Addr} {L:Ln} {D U:Addr} {gs:List (Str × aK)} {ep:Nat} {used:List Str} {k:Nat}
theorem Wk.ne (h:Wk cN cL J0 S0 J p L D U gs ep used k):U≠D:=λe=>by have:=h.hU;rw [e,h.hD] at this;cases this
theorem Wk.kept (h:Wk cN cL J0 S0 J p L D U gs ep used k) {T:Addr} {o:HQ} (hT:J0 T=some o) (nT:¬ S0 T):J T=some o:=h.mv.keep _ _ hT nT
theorem Wk.next (h:Wk cN cL J0 S0 J p L D U gs ep used k) {J1:Hq} {L1:Ln} {gs1:List (Str × aK)} {k1:Nat} (b1:bt cN cL J1 p L1) (ok1:cI L1) (mv:Mv J J1 (L.own p) (L1.own p)) (rl1:Rl L1 gs1) (td:L1.t.den≤60) (tl:L1.t≤((500 * k1:Nat):Rat)) (wl:∀c∈L1.cs,c.w.length≤1 + k1) (ep':Nat):Wk cN cL J0 S0 (put J1 D (.dct (bN gs1) ep')) p L1 D U gs1 ep' used k1:=by
 have new:∀{x o},J x=some o→¬ L.own p x→¬ L1.own p x:=λhx nx z=>by
  rcases mv.own _ z with q | q
  ·exact nx q
  ·rw [hx] at q;cases q
 have nD1:=new h.hD h.nD
 have hD1:=mv.keep _ _ h.hD h.nD
 have hU1:=mv.keep _ _ h.hU h.nU
 have mv1:Mv J J1 (λa=>L.own p a∨a=D∨a=U) (λa=>L1.own p a∨a=D∨a=U) :=
  ⟨λa o e n=>mv.keep a o e λz=>n (.inl z),λa z=>z.elim (λz=>(mv.own a z).imp .inl id) (λz=>.inl (.inr z)),mv.mono⟩
 refine ⟨b1.keep λa u ow e=>?_,ok1,rl1,aq,?_,nD1,new h.hU h.nU,(h.mv.trans mv1).trans (gj (.inr (.inl rfl)) λa z=>.inl z),td,tl,wl⟩
 ·rw [ak (λz=>by subst z;exact nD1 ow)];exact e
 ·rw [ak h.ne];exact hU1
theorem Wk.push (h:Wk cN cL J0 S0 J p L D U gs ep used k) (n:Str):Wk cN cL J0 S0 (put J U (.lst ((used ++ [n]).map .str))) p L D U gs ep (used ++ [n]) k:=by
 refine ⟨h.b.keep λa u ow e=>?_,h.ok,h.rl,?_,aq,h.nD,h.nU,h.mv.trans (gj (.inr (.inr rfl)) λa z=>.inl z),h.td,h.tl,h.wl⟩
 ·rw [ak (λz=>by subst z;exact h.nU ow)];exact e
 ·rw [ak (λe=>h.ne e.symm)];exact h.hD
theorem Wk.up (h:Wk cN cL J0 S0 J p L D U gs ep used k):Sz 900 L.t∧(gs.map (·.1)).Nodup∧gs.length≤12∧∀x∈gs,kP 900 x.2 :=
 ⟨h.ok.Ih,h.rl.nd h.ok.tobc,by rw [h.rl.len];exact h.ok.M0,λx hx=>(h.rl.sz x hx).mono (by decide)⟩
end
theorem yF {q:Rat} {k:Nat} (hk:k≤2000) (h:q≤((500 * k:Nat):Rat)):q≤1000000:=by
 refine Rat.le_trans h ?_
 have:((500 * k:Nat):Rat)≤((1000000:Nat):Rat):=by exact_mod_cast (show 500 * k≤1000000 by omega)
 exact this
theorem AM {a b:Rat} {k:Nat} (h:b≤a + 500) (ha:a≤((500 * k:Nat):Rat)):b≤((500 * (k + 1):Nat):Rat):=by
 have e:((500 * (k + 1):Nat):Rat)=((500 * k:Nat):Rat) + 500:=by
  rw [show 500 * (k + 1)=500 * k + 500 by omega];exact Rat.natCast_add _ _
 rw [e];grind
theorem HW {a:Rat} {k:Nat} (ha:a≤((500 * k:Nat):Rat)):a≤((500 * (k + 1):Nat):Rat):=AM (a:=a) (by grind) ha
abbrev qX:Stmt:=(top 61)
abbrev jY:List Str:=["_law_rows","_law_moment","_law_pace"]
theorem kL:L2.aw ["_law_rows","_law_moment","_law_pace","_law_out","_law_last","_law_here"] ["_law_rows","_law_moment","_law_pace"] (L2.ai qX):=eJ
def t9:cS:=λxs J Q _=>∃(rows:List aK) (t:Rat) (v:Int),xs=[.fl (rows.map aK.V),fr t,.int v]∧rows≠[]∧rows.length≤900∧Sz 900 t∧(∀l∈rows,kP 900 l)∧Q (.fl ((turned rows t v).map aK.V)) J
theorem yJ {f:Addr} {fd:FuncData} (F:cE K "_law_turned" "_law_turned" qX f fd) (Z:cb mg) (A3:bC P w K mg base 2 "_law_at" iY oZ):aQ P w K mg base (dn P w) 3 f fd jY (d4 K t9):=by
 simp_arith [kL,(aj (aM (i:=3) kL.nd (iB qd rfl Z.list boot_list (af (rv 0) ah)))
   (aj (aM (i:=4) kL.nd (ar av (rv 3) (lB h_ ag)))
   (aj (aM (i:=5) kL.nd (aU A3 B hr (af (rv 4) (af (rv 1) ah))))
   (cH (aY (aB (cG hr.aV) (ar av (rv 4) ag) (rv 1)) (au (bq (ER PySem.F.plainAttrs_list PySem.F.slot_list_pop PySem.F.type_list_pop DX (rv 3)))) aL)
   (cH (aY (fb (qQ (aB (cG hr.aV) (bx cW rfl Z.len boot_len (af (rv 3) ah)) ag) (lW (aB (mL hr.aV) (ar av (ar av (rv 3) (lB h_ ag)) ag) (rv 2))))) (au (bq (jm PySem.F.plainAttrs_list PySem.F.slot_list_append PySem.F.type_list_append fm (rv 3) (af (cq (af (rv 1) (af (rv 5) (af (rv 2) ah)))) ah)))) aL)
   (au (aE (rv 3)))))))),F]
 ·obtain ⟨rows,t,v,rfl,_⟩:=h;rfl
 obtain ⟨rows,t,v,rfl,hne,hl,st,sl,q⟩:=h
 obtain ⟨ls,l,rfl⟩:∃ls l,rows=ls ++ [l]:=⟨rows.dropLast,rows.getLast hne,(S3 hne).symm⟩
 have sl':=sl l (by simp)
 have hla:di ((ls ++ [l]).map aK.V) (-1)=some l.V:=by rw [Sk];exact pD _ _
 refine hX ?_
 simp_arith! [bQ]
 intro o ho
 simp_arith! [bQ,hla]
 refine ⟨l,t,rfl,sl'.m,sl'.p,st,sl'.v,?_⟩
 obtain ⟨M,hM⟩:∃M:Sr→Hq→Prop,∀τ' J',M τ' J'↔τ'=[some (.fl ((ls ++ [l]).map aK.V)),some (fr t),some (.int v),some (.ref o),some l.V,some (fr (l.at t))]∧J'=put J o (.lst ((if l.m=t then ls else ls ++ [l]).map aK.V)):=⟨_,λ_ _=>Iff.rfl⟩
 refine ⟨M,?_,?_⟩
 ·simp_arith! [bQ,mE]
  split
  ·rename_i e
   refine ⟨l.V,by simp,(hM _ _).mpr ⟨rfl,?_⟩⟩
   rw [if_pos e,Sk,Sm,Ta,Tx,bW]
  ·rename_i e
   exact (hM _ _).mpr ⟨rfl,by rw [if_neg e]⟩
 intro τ' J' hm
 obtain ⟨rfl,rfl⟩:=(hM _ _).mp hm
 clear hm hM M
 have et:turned (ls ++ [l]) t v=if (if l.m=t then ls else ls ++ [l]).getLast?.map aK.v=some v then (if l.m=t then ls else ls ++ [l]) else (if l.m=t then ls else ls ++ [l]) ++ [⟨t,l.at t,v⟩]:=by
  unfold turned
  simp only [SO,Tx]
 have hrl:(if l.m=t then ls else ls ++ [l]).length≤900:=by
  split
  ·rw [SF] at hl;omega
  ·exact hl
 rw [et] at q
 generalize (if l.m=t then ls else ls ++ [l])=rest at q hrl ⊢
 obtain ⟨M,hM⟩:∃M:Sr→Hq→Prop,∀τ' J',M τ' J'↔τ'=[some (.fl ((ls ++ [l]).map aK.V)),some (fr t),some (.int v),some (.ref o),some l.V,some (fr (l.at t))]∧J'=put J o (.lst ((if rest.getLast?.map aK.v=some v then rest else rest ++ [⟨t,l.at t,v⟩]).map aK.V)):=⟨_,λ_ _=>Iff.rfl⟩
 refine ⟨M,?_,?_⟩
 ·simp_arith! [bQ,bW,rE,Sg]
  rcases UC rest with rfl | ⟨ks,k,rfl⟩
  ·rw [if_pos (by rfl)]
   exact ⟨aZ (by decide),(hM _ _).mpr ⟨rfl,rfl⟩⟩
  ·rw [UD] at *
   have hk:di ((ks ++ [k]).map aK.V) (-1)=some k.V:=by rw [Sk];exact pD _ _
   rw [if_neg (by simp;omega)]
   simp_arith! [bQ,hk,kX]
   rw [SO,Ub] at hM
   by_cases e:k.v=v
   ·rw [if_pos e];exact (hM _ _).mpr ⟨rfl,by rw [if_pos (congrArg some e)]⟩
   ·rw [if_neg e];exact ⟨aZ (by rw [Sg];omega),(hM _ _).mpr ⟨rfl,by rw [if_neg (λz=>e (Option.some.inj z))];simp only [Sk,Sm,Ta,bW]⟩⟩
 intro τ' J' hm
 obtain ⟨rfl,rfl⟩:=(hM _ _).mp hm
 clear hm hM M
 simp_arith! [bQ]
 exact Fg.pd (gi ho) aq ho q
abbrev vG:Stmt:=(top 63)
abbrev lp:List Str:=["_law_lane","_law_names_here","_law_cells","_law_mode"]
theorem dU:L2.aw ["_law_lane","_law_names_here","_law_cells","_law_mode","_law_legs","_law_rows","_law_gone","_law_clock","_law_cell_here","_law_row","_law_deed_here","_law_name"] ["_law_lane","_law_names_here","_law_cells","_law_mode"] (L2.ai vG):=eJ
def df (c:Cf):Str × PV:=(c.n,.fl (c.w.map aK.V))
def e8 (gone:List (Str × Rat)):List (Str × PV):=gone.map λx=>(x.1,fr x.2)
theorem pP {cs:List Cf} (nd:(cs.map Cf.n).Nodup) {c:Cf} (hc:c∈cs):jA (cs.map df) c.n=some (.fl (c.w.map aK.V)):=by
 have e:cs.map df=((cs.map λc=>(c.n,c.w)).map λx=>(x.1,PV.fl (x.2.map aK.V))):=by rw [Ss];rfl
 rw [e]
 exact gH (f:=λw:List aK=>PV.fl (w.map aK.V)) (by rw [Ss];exact nd) (Sh.mpr ⟨c,hc,rfl⟩)
theorem HH (cs:List Cf):(cs.map df).map (·.1)=cs.map Cf.n:=by rw [Ss];rfl
theorem EU {cs:List Cf} {c:Cf} (hn:c.n ∉ cs.map Cf.n):nE (cs.map df) c.n (.fl (c.w.map aK.V))=(cs ++ [c]).map df:=by
 have e:cs.map df=((cs.map λc=>(c.n,c.w)).map λx=>(x.1,PV.fl (x.2.map aK.V))):=by rw [Ss];rfl
 rw [e,lV (f:=λw:List aK=>PV.fl (w.map aK.V)) (l:=c.w) (by rw [Ss];exact hn),Sk,Sk,Ss];rfl
theorem An {cs:List Cf} {n:Str} {w:List aK} {f:Cf→Cf} (hm:n∈cs.map Cf.n) (h1:∀c∈cs,(f c).n=c.n) (h2:∀c∈cs,c.n=n→(f c).w=w) (h3:∀c∈cs,c.n≠n→(f c).w=c.w):nE (cs.map df) n (.fl (w.map aK.V))=(cs.map f).map df:=by
 unfold L2.nE
 rw [if_pos,Ss,Ss]
 ·refine SG λc hc=>?_
  show (if c.n=n then (c.n,PV.fl (w.map aK.V)) else (c.n,.fl (c.w.map aK.V)))=((f c).n,PV.fl ((f c).w.map aK.V))
  by_cases e:c.n=n
  ·rw [if_pos e,h1 c hc,h2 c hc e]
  ·rw [if_neg e,h1 c hc,h3 c hc e]
 ·obtain ⟨c,hc,e⟩:=Sh.mp hm
  rw [Ut]
  exact ⟨df c,Sh.mpr ⟨c,hc,rfl⟩,decide_eq_true e⟩
theorem Dw {n:Str} (hg:good n=true):n.length≤sizeLine:=by
 have h8:n.cps.size≤8:=by
  unfold good at hg
  rw [SR,SR] at hg
  exact of_decide_eq_true hg.1.2
 exact SH h8 (by decide)
theorem BP {l:List Str} {n:Str} (h:l.Nodup) (hn:n ∉ l):(l ++ [n]).Nodup:=by
 rw [Tq]
 refine ⟨h,by simp,λa ha b hb e=>hn ?_⟩
 rw [Su] at hb
 rw [← hb,← e];exact ha
theorem BL {α:Type} {f:α→α} {xs:List α} (h:∀x∈xs,f x=x):xs.map f=xs:=by
 rw [SG h,Uj]
structure Lv (cN cL:Addr) (J0:Hq) (S0:Addr→Prop) (J:Hq) (p:Addr) (L:Ln) (D R G:Addr) (gs:List (Str × aK)) (gone:List (Str × Rat)) (k:Nat):Prop where
 b:bt cN cL J p L
 ok:cI L
 rl:Rl L gs
 hD:∃e,J D=some (.dct (bN gs) e)
 hR:∃e,J R=some (.dct (L.cs.map df) e)
 hG:∃e,J G=some (.dct (e8 gone) e)
 nD:¬ L.own p D
 nR:¬ L.own p R
 nG:¬ L.own p G
 dr:D≠R
 dg:D≠G
 rg:R≠G
 mv:Mv J0 J S0 (λa=>L.own p a∨a=D∨a=R∨a=G)
 td:L.t.den≤60
 tl:L.t≤((500 * k:Nat):Rat)
 wl:∀c∈L.cs,c.w.length≤1 + k
 g1:∀c∈L.cs,∀q,c.g=some q↔(c.n,q)∈gone
 g2:(gone.map (·.1)).Nodup
 g3:∀x∈gone,x.1∈L.cs.map Cf.n
section
variable {cN cL:Addr} {J0 J:Hq} {S0:Addr→Prop} {p:Addr} {L:Ln} {D R G:Addr} {gs:List (Str × aK)} {gone:List (Str × Rat)} {k:Nat}
theorem Lv.next (h:Lv cN cL J0 S0 J p L D R G gs gone k) {J1 JF:Hq} {L1:Ln} {gs1:List (Str × aK)} {gone1:List (Str × Rat)} (b1:bt cN cL J1 p L1) (ok1:cI L1) (mv:Mv J J1 (L.own p) (L1.own p)) (rl1:Rl L1 gs1) (td:L1.t.den≤60) (tl:L1.t≤((500 * (k + 1):Nat):Rat)) (wl:∀c∈L1.cs,c.w.length≤1 + (k + 1))
  (g1:∀c∈L1.cs,∀q,c.g=some q↔(c.n,q)∈gone1) (g2:(gone1.map (·.1)).Nodup) (g3:∀x∈gone1,x.1∈L1.cs.map Cf.n) (hD:∃e,JF D=some (.dct (bN gs1) e)) (hR:∃e,JF R=some (.dct (L1.cs.map df) e)) (hG:∃e,JF G=some (.dct (e8 gone1) e))
  (off:∀a,a≠D→a≠R→a≠G→JF a=J1 a):Lv cN cL J0 S0 JF p L1 D R G gs1 gone1 (k + 1):=by
 have new:∀{x},(∃kv e,J x=some (.dct kv e))→¬ L.own p x→¬ L1.own p x:=λ⟨kv,e,hx⟩ nx z=>by
  rcases mv.own _ z with q | q
  ·exact nx q
  ·rw [hx] at q;cases q
 have aD:∃kv e,J D=some (.dct kv e):=⟨_,h.hD⟩
 have aR:∃kv e,J R=some (.dct kv e):=⟨_,h.hR⟩
 have aG:∃kv e,J G=some (.dct kv e):=⟨_,h.hG⟩
 have nD1:=new aD h.nD
 have nR1:=new aR h.nR
 have nG1:=new aG h.nG
 have k1:∀{x},(∃kv e,J x=some (.dct kv e))→J x≠none:=λ⟨kv,e,hx⟩ z=>by rw [z] at hx;cases hx
 refine ⟨b1.keep λa o ow e=>by rw [off a (λz=>by subst z;exact nD1 ow) (λz=>by subst z;exact nR1 ow) (λz=>by subst z;exact nG1 ow)];exact e,ok1,rl1,hD,hR,hG,nD1,nR1,nG1,h.dr,h.dg,h.rg,h.mv.trans ⟨λa o e n=>?_,λa z=>?_,λa z=>?_⟩,td,tl,wl,g1,g2,g3⟩
 ·rw [off a (λz=>n (.inr (.inl z))) (λz=>n (.inr (.inr (.inl z)))) (λz=>n (.inr (.inr (.inr z))))]
  exact mv.keep a o e λz=>n (.inl z)
 ·rcases z with z | z
  ·exact (mv.own a z).imp .inl id
  ·exact .inl (.inr z)
 ·by_cases zD:a=D
  ·subst zD;obtain ⟨e,he⟩:=hD;rw [he] at z;cases z
  by_cases zR:a=R
  ·subst zR;obtain ⟨e,he⟩:=hR;rw [he] at z;cases z
  by_cases zG:a=G
  ·subst zG;obtain ⟨e,he⟩:=hG;rw [he] at z;cases z
  rw [off a zD zR zG] at z
  exact mv.mono a z
end
def AB (cN cL T:Addr):cS:=λxs J Q _=>∃(p:Addr) (L0:Ln) (names:List Str) (cells:List Int) (m:Int),xs=[.ref p,.fl (names.map .str),.fl (cells.map .int),.int m]∧bt cN cL J p L0∧cI L0∧L0.cs=[]∧L0.t=0∧J T=some .tab∧names.length≤40∧(∀n∈names,good n=true)∧cells.length≤60∧0≤m∧m < 4 ∧
 ∀J' L D R G gs gone,Lv cN cL J (L0.own p) J' p L D R G gs gone cells.length→(∀n∈L.cs.map Cf.n,n∈names)→Q (.tup [.ref D,.ref R,.ref G,fr L.t]) J'
theorem BY {cN cL T f:Addr} {fd:FuncData} (F:cE K "_law_lived" "_law_lived" vG f fd) (Z:cb mg) (dP:bC P w K mg base 1 "_law_digits" cn vV) (JG:bC P w K mg base 3 "_law_deed" mV E7) (JH:bC P w K mg base 9 "_law_done" mY (E8 cN cL T)) (wc:bC P w K mg base 3 "_law_turned" jY t9) (FK:bC P w K mg base 3 "_law_acted" la Aq):aQ P w K mg base (dn P w) 10 f fd lp (d4 K (AB cN cL T)):=by
 simp_arith [dU,(aj (aM (i:=4) dU.nd m7)
   (aj (aM (i:=5) dU.nd m7)
   (aj (aM (i:=6) dU.nd m7)
   (aj (aM (i:=7) dU.nd (cq (af ag (af ag ah))))
   (aj (d8 bZ rfl (dI (rv 2)) (bJ (i:=8) dU.nd) (aj (aM (i:=9) dU.nd (aU dP B hr (af (rv 8) (af (lA (vw [.int 10,.int 97,.int 2000001,.int 2001,.int 400000,.int 60] rfl [.int 10,.int 97,.int 2000001,.int 2001,.int 400000,.int 60] rfl)) ah))))
   (aj (aM (i:=10) dU.nd (aU JG B hr (af (rv 9) (af (rv 3) (af (rv 1) (af (rv 5) (af (rv 4) (af (rv 7) ah))))))))
   (aj (bq (aU JH B hr (af (rv 0) (af (rv 10) ah))))
   (cH (aY (aB (cG hr.aV) (ar av (rv 10) ag) bK) (au (i6 fY (rv 5) (ar av (rv 10) ag) (lA (af (cq (af (rv 7) (af (cq (af (ar av (rv 10) ag) (af ag ah))) (af (ar av (rv 10) ag) ah)))) ah)))) aL)
   (cH (aY (aB (cG hr.aV) (ar av (rv 10) ag) bK) (au (i6 fY (rv 5) (ar av (rv 10) ag) (aU wc B hr (af (ar cM (rv 5) (ar av (rv 10) ag)) (af (rv 7) (af (ar av (rv 10) ag) ah)))))) aL)
   (cH (aY (aB (cG hr.aV) (ar av (rv 10) ag) bK) (au (i6 fY (rv 6) (ar av (rv 10) ag) (rv 7))) aL)
   (cH (aY (aB (cG hr.aV) (ar av (rv 10) ag) bK) (au (d8 bZ rfl (i5 (rv 4)) (bJ (i:=11) dU.nd) (au (i6 fY (rv 5) (rv 11) (aU wc B hr (af (ar cM (rv 5) (rv 11)) (af (rv 7) (af (lB h_ (ar av (ar cM (rv 4) (rv 11)) ag)) ah)))))))) aL)
   (au (aM (i:=7) dU.nd (aU FK B hr (af (rv 4) (af (rv 7) (af (rv 10) ah))))))))))))))
   (au (aE (cq (af (rv 4) (af (rv 5) (af (rv 6) (af (rv 7) ah))))))))))))]
 ·obtain ⟨p,L0,names,cells,m,rfl,_⟩:=h;rfl
 obtain ⟨p,L0,names,cells,m,rfl,b,ok,cs0,t0,hT,hnl,hng,hcl,m0,m1,q⟩:=h
 refine hX ?_
 simp_all! []
 intro D hD eD
 refine hNq _ _ ?_
 clear hNq Nq
 simp_all! []
 intro R hR eR
 refine hNq _ _ ?_
 clear hNq Nq
 simp_all! []
 intro Gd hG eG
 have nDR:D≠R:=λe=>by subst e;rw [aq] at hR;cases hR
 have nRG:R≠Gd:=λe=>by subst e;rw [aq] at hG;cases hG
 have nDG:D≠Gd:=λe=>by subst e;rw [ak nDR,aq] at hG;cases hG
 have hRn:J R=none:=by rw [ak (Ne.symm nDR)] at hR;exact hR
 have hGn:J Gd=none:=by rw [ak (Ne.symm nRG),ak (Ne.symm nDG)] at hG;exact hG
 have w0:Lv cN cL J (L0.own p) (put (put (put J D (.dct [] eD)) R (.dct [] eR)) Gd (.dct [] eG)) p L0 D R Gd [] [] 0:=by
  refine ⟨((b.fresh hD).fresh hR).fresh hG,ok,⟨by unfold Ln.fs Ln.Ca;rw [cs0];rfl,(by simp),(by simp),(by simp),(by rw [cs0];simp)⟩,⟨eD,by rw [ak nDG,ak nDR];exact aq⟩,⟨eR,by rw [ak nRG,cs0];exact aq⟩,⟨eG,aq⟩,λz=>b.some z hD,λz=>b.some z hRn,λz=>b.some z hGn,nDR,nDG,nRG,?_,by rw [t0];decide,by rw [t0];decide,by rw [cs0];simp,by rw [cs0];simp,UI,(by simp)⟩
  have hh:=((Mv.yG (S:=L0.own p) (o:=.dct [] eD) hD).trans (Mv.yG (o:=.dct [] eR) hR)).trans (Mv.yG (o:=.dct [] eG) hG)
  exact ⟨hh.keep,λa z=>hh.own a (z.elim (λz=>.inl (.inl (.inl z))) λz=>z.elim (λz=>.inl (.inl (.inr z))) λz=>z.elim (λz=>.inl (.inr z)) .inr),hh.mono⟩
 generalize put (put (put J D (.dct [] eD)) R (.dct [] eR)) Gd (.dct [] eG)=J1 at w0 ⊢
 clear hG hR hRn hGn
 refine hNq _ _ ?_
 clear hNq Nq
 simp_all! []
 obtain ⟨Inv,hInv⟩:∃Inv:Nat→Sr→Hq→Prop,∀i τ J',Inv i τ J'↔∃(L:Ln) (gs:List (Str × aK)) (gone:List (Str × Rat)) (u8 u9 u10 u11:Option PV),τ=[some (.ref p),some (.fl (names.map .str)),some (.fl (cells.map .int)),some (.int m),some (.ref D),some (.ref R),some (.ref Gd),some (fr L.t),u8,u9,u10,u11]∧Lv cN cL J (L0.own p) J' p L D R Gd gs gone i∧(∀n∈L.cs.map Cf.n,n∈names)∧L.cs.length≤i:=⟨_,λ_ _ _=>Iff.rfl⟩
 refine d6 Inv ((hInv _ _ _).mpr ⟨L0,[],[],_,_,_,_,by rw [t0];rfl,w0,(by rw [cs0];simp),by rw [cs0];exact So _⟩) (λ_ _ _ _=>trivial) ?_ ?_
 ·intro i x τ J' hx hv
  obtain ⟨L,gs,gone,u8,u9,u10,u11,rfl,lv,hus,hul⟩:=(hInv _ _ _).mp hv
  clear hv
  have hi:i < cells.length:=by have:=(Sj.mp hx).1;simpa using this
  rw [Sl,Si hi] at hx
  cases hx
  generalize cells[i]=c
  simp_all! []
  refine ⟨c,[10,97,2000001,2001,400000,60],rfl,nk (by decide),by decide,λds hG=>?_⟩
  obtain ⟨r0,ds,rfl,_,_,hG⟩:=hG.cons
  obtain ⟨r1,ds,rfl,r10,_,hG⟩:=hG.cons
  obtain ⟨r2,ds,rfl,r20,_,hG⟩:=hG.cons
  obtain ⟨r3,ds,rfl,r30,r31,hG⟩:=hG.cons
  obtain ⟨r4,ds,rfl,r40,r41,hG⟩:=hG.cons
  obtain ⟨r5,ds,rfl,r50,_,hG⟩:=hG.cons
  cases hG.nil
  have st:Sz 900 L.t:=lv.ok.Ih
  have gnd:=lv.rl.nd lv.ok.tobc
  have gl:gs.length≤12:=by rw [lv.rl.len];exact lv.ok.M0
  have gsz:∀x∈gs,kP 900 x.2:=λx hx=>(lv.rl.sz x hx).mono (by decide)
  obtain ⟨eD',hD⟩:=lv.hD
  obtain ⟨eR',hR⟩:=lv.hR
  obtain ⟨eG',hG⟩:=lv.hG
  simp_all! []
  refine ⟨r0,r1,r2,r3,r4,r5,m,names,L.cs.map Cf.n,R,D,gs,eD',L.t,L.cs.map df,eR',rfl,hR,HH _,hD,hnl,by omega,r10,r20,r30,r31,r40,by omega,r50,m0,m1,st,λdv hdv=>?_⟩
  refine hNq _ _ ?_
  clear hNq Nq
  have hT':J' T=some .tab:=lv.mv.keep _ _ hT (b.NA hT)
  have hw200:∀c∈L.cs,c.w.length < 200:=λc hc=>by have:=lv.wl c hc;omega
  have tl1:L.t≤((500 * (i + 1):Nat):Rat):=HW lv.tl
  have hrow:∀n,n∈gs.map (·.1)→n∈L.row:=λn hn=>(lv.ok.rm n).mpr (by rw [← lv.rl.nm];exact hn)
  have cnd:=lv.ok.tobc.nd
  have szc:∀c∈L.cs,c.w≠[]∧c.w.length≤900∧∀l∈c.w,kP 900 l:=λc hc=>⟨lv.ok.ne c hc,by have:=lv.wl c hc;omega,λl hl=>(lv.ok.ck c hc l hl).yz⟩
  have nRD:=Ne.symm lv.dr
  have nGD:=Ne.symm lv.dg
  have nGR:=Ne.symm lv.rg
  have hRl:(L.cs.map df).length < 200:=by rw [Sg];omega
  have keepD:∀{J3:Hq} {L3:Ln},Mv J' J3 (L.own p) (L3.own p)→J3 D=some (.dct (bN gs) eD')∧J3 R=some (.dct (L.cs.map df) eR')∧J3 Gd=some (.dct (e8 gone) eG'):=λmv=>⟨mv.keep _ _ hD lv.nD,mv.keep _ _ hR lv.nR,mv.keep _ _ hG lv.nG⟩
  rcases hdv with ⟨n,x,v,rfl,hn,hnu,hgl,hx,hv⟩ | ⟨n,v,rfl,hn,hv⟩ | rfl | ⟨n,rfl,hn⟩ | ⟨m',rfl,hm'⟩
  ·have i0:∀J,e9 J (e_ n x v) (.int 0)=some (.str "join"):=λJ=>dj _ _
   have i1:∀J,e9 J (e_ n x v) (.int 1)=some (.str n):=λJ=>eZ _ _ _
   have i2:∀J,e9 J (e_ n x v) (.int 2)=some (.int x):=λJ=>ji _ _ _ _
   have i3:∀J,e9 J (e_ n x v) (.int 3)=some (.int v):=λJ=>rfl
   have hnf:n ∉ L.fs.map (·.1):=λz=>hnu (by
    rw [fG,Sh] at z
    obtain ⟨c',hc',e'⟩:=z
    exact Sh.mpr ⟨c',(Ln.dG.mp hc').1,e'⟩)
   simp_all! []
   refine ⟨p,L,_,rfl,lv.b,lv.ok,.inl ⟨n,x,v,rfl,hT',hng n hn,⟨hx,hv⟩,hnu,by rw [lv.ok.row,qD];have:=lv.rl.len;omega,by omega,Dw (hng n hn),λJ3 L3 b3 ok3 jn mv3=>?_⟩⟩
   have rl3:=lv.rl.join ok3.tobc hv hx jn lv.ok.t0 lv.ok.ts hnf
   obtain ⟨a,r,ecs,et⟩:=jn
   obtain ⟨hD3,hR3,hG3⟩:=keepD mv3
   have epu:nE (L.cs.map df) n (.fl ([aK.mk L.t (x:Rat) v].map aK.V))=L3.cs.map df:=by rw [ecs];exact EU (c:=⟨n,a,r,[⟨L.t,(x:Rat),v⟩],none⟩) hnu
   refine hNq _ _ ?_
   clear hNq Nq
   refine dX (λτ' J2=>τ'=[some (.ref p),some (.fl (names.map .str)),some (.fl (cells.map .int)),some (.int m),some (.ref D),some (.ref R),some (.ref Gd),some (fr L.t),some (.int c),some (.fl [.int r0,.int r1,.int r2,.int r3,.int r4,.int r5]),some (e_ n x v),u11]∧∃e,J2=put J3 R (.dct (L3.cs.map df) e)) (ph rfl (i0 _)) ?_ ?_
   ·simp_all! [i1,i2,i3,hR3]
    refine ⟨SA hRl (by decide),λep'=>⟨ep',?_⟩⟩
    rw [← epu];rfl
   rintro τ' J2 ⟨rfl,e2,rfl⟩
   refine cg rfl (i0 _) (by decide +kernel) ?_
   refine cg rfl (i0 _) (by decide +kernel) ?_
   refine cg rfl (i0 _) (by decide +kernel) ?_
   simp_all! []
   refine ⟨D,gs,eD',L.t,_,rfl,by rw [ak lv.dr];exact hD3,gnd,by omega,st,gsz,.inl ⟨n,x,v,rfl,by rw [lv.rl.nm];exact hnf,λep'=>?_⟩⟩
   refine (hInv _ _ _).mpr ⟨L3,_,gone,_,_,_,_,by rw [et],lv.next b3 ok3 mv3 rl3 (by rw [et];exact lv.td) (by rw [et];exact tl1) (λc hc=>?_) (λc hc q=>?_) lv.g2 (λy hy=>by rw [ecs,Sk];exact Tj _ (lv.g3 y hy)) ⟨ep',aq⟩ ⟨e2,by rw [ak nRD];exact aq⟩ ⟨eG',by rw [ak nGD,ak nGR];exact hG3⟩ (λa h1 h2 _=>by rw [ak h1,ak h2]),λy hy=>?_,?_⟩
   ·rw [ecs] at hc
    rcases Sq.mp hc with hc | hc
    ·have:=lv.wl c hc;omega
    ·rw [Su] at hc;subst hc;show 1≤_;omega
   ·rw [ecs] at hc
    rcases Sq.mp hc with hc | hc
    ·exact lv.g1 c hc q
    ·rw [Su] at hc;subst hc
     exact ⟨λz=>(nomatch z),λz=>absurd (lv.g3 _ z) hnu⟩
   ·rw [ecs,Sk] at hy
    rcases Sq.mp hy with hy | hy
    ·exact hus y hy
    ·simp only [Sm,Ta,Su] at hy;subst hy;exact hn
   ·rw [ecs,SF];show L.cs.length + 1≤_;omega
  ·have i0:∀J,e9 J (gF n v) (.int 0)=some (.str "turn"):=λJ=>dj _ _
   have i1:∀J,e9 J (gF n v) (.int 1)=some (.str n):=λJ=>eZ _ _ _
   have i2:∀J,e9 J (gF n v) (.int 2)=some (.int v):=λJ=>ji _ _ _ _
   obtain ⟨c0,h0,hcn,hcg⟩:=lv.ok.found (hrow n hn)
   have hva:=pP cnd h0
   rw [hcn] at hva
   simp_all! []
   refine ⟨p,L,_,rfl,lv.b,lv.ok,.inr (.inl ⟨n,v,rfl,hrow n hn,hv,hw200,λJ3 L3 b3 ok3 e t1 mv3=>?_⟩)⟩
   obtain ⟨hD3,hR3,hG3⟩:=keepD mv3
   have epu:nE (L.cs.map df) n (.fl ((turned c0.w L.t v).map aK.V))=L3.cs.map df:=by
    rw [e]
    refine An (Sh.mpr ⟨c0,h0,hcn⟩) (λc1 _=>(fZ n L.t v c1).1) (λc1 h1 e1=>?_) (λc1 _ e1=>?_)
    ·have:c1=c0:=lv.ok.uniq h1 h0 (e1.trans hcn.symm)
     subst this
     unfold cU;rw [if_pos e1];rfl
    ·unfold cU;rw [if_neg e1]
   refine hNq _ _ ?_
   clear hNq Nq
   refine cg rfl (i0 _) (by decide +kernel) ?_
   refine dX (λτ' J2=>τ'=[some (.ref p),some (.fl (names.map .str)),some (.fl (cells.map .int)),some (.int m),some (.ref D),some (.ref R),some (.ref Gd),some (fr L.t),some (.int c),some (.fl [.int r0,.int r1,.int r2,.int r3,.int r4,.int r5]),some (gF n v),u11]∧∃e,J2=put J3 R (.dct (L3.cs.map df) e)) (ph rfl (i0 _)) ?_ ?_
   ·simp_all! [i1,i2,hR3,hva]
    refine ⟨c0.w,L.t,v,rfl,(szc c0 h0).1,(szc c0 h0).2.1,st,(szc c0 h0).2.2,?_⟩
    simp_all! [i1,hR3]
    exact ⟨SA hRl (by decide),λep'=>⟨ep',by rw [← epu]⟩⟩
   rintro τ' J2 ⟨rfl,e2,rfl⟩
   refine cg rfl (i0 _) (by decide +kernel) ?_
   refine cg rfl (i0 _) (by decide +kernel) ?_
   simp_all! []
   refine ⟨D,gs,eD',L.t,_,rfl,by rw [ak lv.dr];exact hD3,gnd,by omega,st,gsz,.inr (.inl ⟨n,v,rfl,hn,λep'=>?_⟩)⟩
   refine (hInv _ _ _).mpr ⟨L3,_,gone,_,_,_,_,by rw [t1],lv.next b3 ok3 mv3 (lv.rl.turn lv.ok.tobc hv e t1) (by rw [t1];exact lv.td) (by rw [t1];exact tl1) (λc1 hc=>?_) (λc1 hc q=>?_) lv.g2 (λy hy=>by rw [e,c_ (λc=>(fZ n L.t v c).1)];exact lv.g3 y hy) ⟨ep',aq⟩ ⟨e2,by rw [ak nRD];exact aq⟩ ⟨eG',by rw [ak nGD,ak nGR];exact hG3⟩ (λa h1 h2 _=>by rw [ak h1,ak h2]),by rw [e,c_ (λc=>(fZ n L.t v c).1)];exact hus,by rw [e,Sg];omega⟩
   ·rw [e] at hc
    obtain ⟨c2,h2,rfl⟩:=Sh.mp hc
    have:=lv.wl c2 h2
    unfold cU
    split
    ·have:=l_ c2.w L.t v
     show (turned c2.w L.t v).length≤_
     omega
    ·omega
   ·rw [e] at hc
    obtain ⟨c2,h2,rfl⟩:=Sh.mp hc
    rw [(fZ n L.t v c2).2.2.2,(fZ n L.t v c2).1]
    exact lv.g1 c2 h2 q
  ·have i0:∀J,e9 J f9 (.int 0)=some (.str "about"):=λJ=>dj _ _
   simp_all! []
   refine ⟨p,L,_,rfl,lv.b,lv.ok,.inr (.inr (.inl ⟨rfl,hw200,λJ3 L3 b3 ok3 e t1 mv3=>?_⟩))⟩
   obtain ⟨hD3,hR3,hG3⟩:=keepD mv3
   refine hNq _ _ ?_
   clear hNq Nq
   refine cg rfl (i0 _) (by decide +kernel) ?_
   refine cg rfl (i0 _) (by decide +kernel) ?_
   refine cg rfl (i0 _) (by decide +kernel) ?_
   refine dX (λτ' J2=>∃u,τ'=[some (.ref p),some (.fl (names.map .str)),some (.fl (cells.map .int)),some (.int m),some (.ref D),some (.ref R),some (.ref Gd),some (fr L.t),some (.int c),some (.fl [.int r0,.int r1,.int r2,.int r3,.int r4,.int r5]),some (f9),u]∧∃e,J2=put J3 R (.dct (L3.cs.map df) e)) (ph rfl (i0 _)) ?_ ?_
   ·simp_all! [hD3]
    obtain ⟨W,hW⟩:∃W:Nat→Sr→Hq→Prop,∀i τ J',W i τ J'↔∃u e,τ=[some (.ref p),some (.fl (names.map .str)),some (.fl (cells.map .int)),some (.int m),some (.ref D),some (.ref R),some (.ref Gd),some (fr L.t),some (.int c),some (.fl [.int r0,.int r1,.int r2,.int r3,.int r4,.int r5]),some (f9),u]∧J'=put J3 R (.dct ((L.cs.map (bh L.t ((gs.map (·.1)).take i))).map df) e):=⟨_,λ_ _ _=>Iff.rfl⟩
    have e0:∀e',put J3 R (.dct ((L.cs.map (bh L.t ((gs.map (·.1)).take 0))).map df) e')=put J3 R (.dct (L.cs.map df) e'):=λe'=>by
     rw [BL λc1 _=>show bh L.t ((gs.map (·.1)).take 0) c1=c1 by unfold bh;simp]
    refine d6 W ((hW _ _ _).mpr ⟨_,eR',rfl,by rw [e0,yZ hR3]⟩) (λj τ J4 hv=>?_) ?_ ?_
    ·obtain ⟨u,e',rfl,rfl⟩:=(hW _ _ _).mp hv
     rw [ak lv.dr];exact hD3
    ·intro j y τ J4 hy hv
     obtain ⟨u,e',rfl,rfl⟩:=(hW _ _ _).mp hv
     have hj:j < gs.length:=by have:=(Sj.mp hy).1;simpa [bN] using this
     have hgj:=SM hj
     have et:(gs.map (·.1)).take (j + 1)=(gs.map (·.1)).take j ++ [gs[j].1]:=by rw [SS,Sl,Si hj];rfl
     have hy':y=.str gs[j].1:=by
      unfold bN at hy
      rw [Sl,Sl,Si hj] at hy
      exact (Option.some.inj hy).symm
     subst hy'
     have hnd:((gs.map (·.1)).take (j + 1)).Nodup:=gnd.sublist (Td _ _)
     rw [et] at hnd
     have hnot:=(d7 hnd).2
     generalize gs[j]=g0 at hgj et hnot
     obtain ⟨n,l⟩:=g0
     simp only at et hnot
     obtain ⟨c0,h0,hcn,hcg⟩:=lv.ok.found (hrow n (Sh.mpr ⟨_,hgj,rfl⟩))
     have hc0:bh L.t ((gs.map (·.1)).take j) c0=c0:=by unfold bh;rw [if_neg (by rw [hcn];exact hnot)]
     have mem':c0∈L.cs.map (bh L.t ((gs.map (·.1)).take j)):=Sh.mpr ⟨c0,h0,hc0⟩
     have nm':(L.cs.map (bh L.t ((gs.map (·.1)).take j))).map Cf.n=L.cs.map Cf.n:=c_ (λc=>(ig L.t ((gs.map (·.1)).take j) c).1) L.cs
     have hva:=pP (by rw [nm'];exact cnd) mem'
     rw [hcn] at hva
     have hvl:jA (bN gs) n=some l.V:=gH (f:=aK.V) gnd hgj
     have sl:l.v=c0.cur.v:=(lv.rl.ln n l c0.cur hgj (Sh.mpr ⟨c0,Ln.dG.mpr ⟨h0,hcg⟩,by rw [hcn]⟩)).1
     have epu:nE ((L.cs.map (bh L.t ((gs.map (·.1)).take j))).map df) n (.fl ((turned c0.w L.t (-l.v)).map aK.V))=(L.cs.map (bh L.t ((gs.map (·.1)).take (j + 1)))).map df:=by
      rw [An (f:=λc1=>if c1.n=n then { c1 with w:=turned c0.w L.t (-l.v) } else c1) (by rw [nm'];exact Sh.mpr ⟨c0,h0,hcn⟩) (λc1 _=>by show (if c1.n=n then _ else c1).n=_;split <;> rfl) (λc1 _ e1=>by show (if c1.n=n then _ else c1).w=_;rw [if_pos e1]) (λc1 _ e1=>by show (if c1.n=n then _ else c1).w=_;rw [if_neg e1])]
      refine congrArg (UL df) ?_
      rw [Ss]
      refine SG λc1 h1=>?_
      show (if (bh L.t ((gs.map (·.1)).take j) c1).n=n then _ else bh L.t ((gs.map (·.1)).take j) c1)=_
      rw [(ig L.t _ c1).1,et]
      by_cases e1:c1.n=n
      ·have:c1=c0:=lv.ok.uniq h1 h0 (e1.trans hcn.symm)
       subst this
       rw [if_pos e1,hc0]
       unfold bh
       rw [if_pos (Sw _ (by rw [e1];exact List.mem_singleton_self n)),sl];rfl
      ·rw [if_neg e1]
       unfold bh
       by_cases z:c1.n∈(gs.map (·.1)).take j
       ·rw [if_pos z,if_pos (Tj _ z)]
       ·rw [if_neg z,if_neg (λy=>(Sq.mp y).elim z λy=>e1 (Su.mp y))]
     have hD4:put J3 R (.dct ((L.cs.map (bh L.t ((gs.map (·.1)).take j))).map df) e') D=some (.dct (bN gs) eD'):=by rw [ak lv.dr];exact hD3
     have hR4:put J3 R (.dct ((L.cs.map (bh L.t ((gs.map (·.1)).take j))).map df) e') R=some (.dct ((L.cs.map (bh L.t ((gs.map (·.1)).take j))).map df) e'):=aq
     simp_all! [hR4,hD4,hva,hvl,kX]
     refine ⟨c0.w,L.t,-l.v,rfl,(szc c0 h0).1,(szc c0 h0).2.1,st,(szc c0 h0).2.2,?_⟩
     simp_all! [hR4]
     refine ⟨SA (show _ < 200 by rw [Sg,Sg];omega) (by decide),λep'=>(hW _ _ _).mpr ⟨_,ep',rfl,?_⟩⟩
     rw [epu,bW]
    ·intro τ J4 hv
     obtain ⟨u,e',rfl,rfl⟩:=(hW _ _ _).mp hv
     refine ⟨u,rfl,e',?_⟩
     rw [e,← ij lv.ok.tobc]
     congr 3
     refine SG λc1 _=>?_
     have hm:c1.n∈(gs.map (·.1)).take ((bN gs).map λkv=>PV.str kv.1).length↔c1.n∈L.row:=by
      rw [S9 (by simp [bN]),lv.rl.nm];exact (lv.ok.rm c1.n).symm
     unfold bh
     by_cases z:c1.n∈L.row
     ·rw [if_pos z,if_pos (hm.mpr z)]
     ·rw [if_neg z,if_neg (λy=>z (hm.mp y))]
   rintro τ' J2 ⟨u,rfl,e2,rfl⟩
   simp_all! []
   refine ⟨D,gs,eD',L.t,_,rfl,by rw [ak lv.dr];exact hD3,gnd,by omega,st,gsz,.inr (.inr (.inl ⟨rfl,λep'=>?_⟩))⟩
   refine (hInv _ _ _).mpr ⟨L3,_,gone,_,_,_,_,by rw [t1],lv.next b3 ok3 mv3 (lv.rl.about lv.ok.tobc e t1) (by rw [t1];exact lv.td) (by rw [t1];exact tl1) (λc1 hc=>?_) (λc1 hc q=>?_) lv.g2 (λy hy=>by rw [e,c_ (λc=>(jE L.t c).1)];exact lv.g3 y hy) ⟨ep',aq⟩ ⟨e2,by rw [ak nRD];exact aq⟩ ⟨eG',by rw [ak nGD,ak nGR];exact hG3⟩ (λa h1 h2 _=>by rw [ak h1,ak h2]),by rw [e,c_ (λc=>(jE L.t c).1)];exact hus,by rw [e,Sg];omega⟩
   ·rw [e] at hc
    obtain ⟨c2,h2,rfl⟩:=Sh.mp hc
    have:=lv.wl c2 h2
    unfold d5
    split
    ·have:=l_ c2.w L.t (-c2.cur.v)
     show (turned c2.w L.t (-c2.cur.v)).length≤_
     omega
    ·omega
   ·rw [e] at hc
    obtain ⟨c2,h2,rfl⟩:=Sh.mp hc
    rw [(jE L.t c2).2.2.2,(jE L.t c2).1]
    exact lv.g1 c2 h2 q
  ·have i0:∀J,e9 J (fJ n) (.int 0)=some (.str "leave"):=λJ=>dj _ _
   have i1:∀J,e9 J (fJ n) (.int 1)=some (.str n):=λJ=>eZ _ _ _
   obtain ⟨c0,h0,hcn,hcg⟩:=lv.ok.found (hrow n hn)
   have hng':n ∉ gone.map (·.1):=λz=>by
    obtain ⟨y,hy,e⟩:=Sh.mp z
    have:=(lv.g1 c0 h0 y.2).mpr (by rw [hcn,← e];exact hy)
    rw [hcg] at this;cases this
   have gle:gone.length≤L.cs.length:=by
    have h1:=List.Nodup.length_le_of_subset lv.g2 (λy hy=>by
     obtain ⟨z,hz,e⟩:=Sh.mp hy
     rw [← e];exact lv.g3 z hz)
    simpa using h1
   have epu:nE (e8 gone) n (fr L.t)=e8 (gone ++ [(n,L.t)]):=lV (f:=fr) (l:=L.t) hng'
   simp_all! []
   refine ⟨p,L,_,rfl,lv.b,lv.ok,.inr (.inr (.inr (.inl ⟨n,rfl,hrow n hn,λJ3 L3 b3 ok3 e t1 mv3=>?_⟩)))⟩
   obtain ⟨hD3,hR3,hG3⟩:=keepD mv3
   refine hNq _ _ ?_
   clear hNq Nq
   refine cg rfl (i0 _) (by decide +kernel) ?_
   refine cg rfl (i0 _) (by decide +kernel) ?_
   refine dX (λτ' J2=>τ'=[some (.ref p),some (.fl (names.map .str)),some (.fl (cells.map .int)),some (.int m),some (.ref D),some (.ref R),some (.ref Gd),some (fr L.t),some (.int c),some (.fl [.int r0,.int r1,.int r2,.int r3,.int r4,.int r5]),some (fJ n),u11]∧∃e,J2=put J3 Gd (.dct (e8 (gone ++ [(n,L.t)])) e)) (ph rfl (i0 _)) ?_ ?_
   ·simp_all! [i1,hG3]
    exact ⟨SA (show (e8 gone).length < 200 by unfold e8;rw [Sg];omega) (by decide),λep'=>⟨ep',by rw [← epu]⟩⟩
   rintro τ' J2 ⟨rfl,e2,rfl⟩
   refine cg rfl (i0 _) (by decide +kernel) ?_
   simp_all! []
   refine ⟨D,gs,eD',L.t,_,rfl,by rw [ak lv.dg];exact hD3,gnd,by omega,st,gsz,.inr (.inr (.inr (.inl ⟨n,rfl,hn,λep'=>?_⟩)))⟩
   have erow:L3.cs.map df=L.cs.map df:=by
    rw [e,Ss]
    refine SG λc1 _=>?_
    show ((bG n L.t c1).n,PV.fl ((bG n L.t c1).w.map aK.V))=_
    rw [(dw n L.t c1).1,(dw n L.t c1).2.2.2];rfl
   have hnm:L3.cs.map Cf.n=L.cs.map Cf.n:=by rw [e,c_ (λc=>(dw n L.t c).1)]
   refine (hInv _ _ _).mpr ⟨L3,_,gone ++ [(n,L.t)],_,_,_,_,by rw [t1],lv.next b3 ok3 mv3 (lv.rl.leave e t1) (by rw [t1];exact lv.td) (by rw [t1];exact tl1) (λc1 hc=>?_) (λc1 hc q=>?_) (by rw [Sk];exact BP lv.g2 hng') (λy hy=>?_) ⟨ep',aq⟩ ⟨eR',by rw [ak nRD,ak lv.rg,erow];exact hR3⟩ ⟨e2,by rw [ak nGD];exact aq⟩ (λa h1 _ h2=>by rw [ak h1,ak h2]),by rw [hnm];exact hus,by rw [e,Sg];omega⟩
   ·rw [e] at hc
    obtain ⟨c2,h2,rfl⟩:=Sh.mp hc
    have:=lv.wl c2 h2
    rw [(dw n L.t c2).2.2.2];omega
   ·rw [e] at hc
    obtain ⟨c2,h2,rfl⟩:=Sh.mp hc
    rw [(dw n L.t c2).1]
    by_cases e1:c2.n=n
    ·have:c2=c0:=lv.ok.uniq h2 h0 (e1.trans hcn.symm)
     subst this
     unfold bG
     rw [if_pos e1]
     show some L.t=some q↔_
     rw [Sq,Su]
     constructor
     ·intro z;cases z;exact .inr (by rw [e1])
     ·rintro (z | z)
      ·exact absurd (Sh.mpr ⟨_,z,e1⟩) hng'
      ·have:=congrArg Prod.snd z;exact congrArg some this.symm
    ·unfold bG
     rw [if_neg e1,lv.g1 c2 h2 q,Sq,Su]
     exact ⟨.inl,λz=>z.elim id λz=>absurd (congrArg Prod.fst z) e1⟩
   ·rw [hnm]
    rcases Sq.mp hy with hy | hy
    ·exact lv.g3 y hy
    ·rw [Su] at hy;subst hy;exact Sh.mpr ⟨c0,h0,hcn⟩
  ·have i0:∀J,e9 J (IA m') (.int 0)=some (.str "go"):=λJ=>dj _ _
   have tl3:=AM (DK hm' lv.ok.t0) lv.tl
   have td3:=BB hm' lv.td
   have hg:il m'.num m'.den=true:=Dv (Rat.le_trans lv.ok.t0 (hm'.le)) td3 (KL.mpr (yF (by omega) tl3))
   simp_all! []
   refine ⟨p,L,_,rfl,lv.b,lv.ok,.inr (.inr (.inr (.inr ⟨m',rfl,hg,hm'.le,λJ3 o3 b3 ok3 mv3=>?_⟩)))⟩
   obtain ⟨hD3,hR3,hG3⟩:=keepD mv3
   refine hNq _ _ ?_
   clear hNq Nq
   refine cg rfl (i0 _) (by decide +kernel) ?_
   refine cg rfl (i0 _) (by decide +kernel) ?_
   refine cg rfl (i0 _) (by decide +kernel) ?_
   refine cg rfl (i0 _) (by decide +kernel) ?_
   simp_all! []
   refine ⟨D,gs,eD',L.t,_,rfl,hD3,gnd,by omega,st,gsz,.inr (.inr (.inr (.inr ⟨m',rfl,?_⟩)))⟩
   exact (hInv _ _ _).mpr ⟨_,gs,gone,_,_,_,_,rfl,lv.next b3 ok3 mv3 (lv.rl.go hm'.le) td3 tl3 (λc hc=>by have:=lv.wl c hc;omega) lv.g1 lv.g2 lv.g3 ⟨eD',hD3⟩ ⟨eR',hR3⟩ ⟨eG',hG3⟩ (λa _ _ _=>rfl),hus,(by show L.cs.length≤i + 1;omega)⟩
 ·intro τ J' hv
  obtain ⟨L,gs,gone,u8,u9,u10,u11,rfl,lv,hus,hul⟩:=(hInv _ _ _).mp hv
  refine hNq _ _ ?_
  simp_all! []
  rw [Sg] at lv
  exact q J' L D R Gd gs gone lv hus
abbrev oB:Stmt:=(top 65)
abbrev jl:List Str:=["_law_rows","_law_gone","_law_clock","_law_cell_here"]
theorem fv:L2.aw ["_law_rows","_law_gone","_law_clock","_law_cell_here","_law_out","_law_name","_law_leg","_law_row"] ["_law_rows","_law_gone","_law_clock","_law_cell_here"] (L2.ai oB):=eJ
theorem Bn (w:List aK):∃ls:List aK,kQ (w.map aK.V) none (some 3)=ls.map aK.V∧ls.length≤3∧∀l∈ls,l∈w:=by
 refine ⟨w.take 3,?_,by rw [SK];omega,λl h=>Tn h⟩
 unfold kQ
 rw [HT.qR,T9,Nat.sub_zero,Tv]
 have e:HT.dT (w.map aK.V).length (w.map aK.V).length (some 3)=min 3 (w.map aK.V).length:=HT.pQ _ _ 3
 rw [e]
 by_cases h:3≤(w.map aK.V).length
 ·rw [UE h]
 ·rw [UY (by omega),SV,S9 (by omega)]
theorem Bl (w:List aK):∃ls:List aK,kQ (w.map aK.V) (some (-2)) none=ls.map aK.V∧ls.length≤2∧∀l∈ls,l∈w:=by
 refine ⟨(w.drop (w.length - 2)).take (w.length - (w.length - 2)),?_,by rw [SK];omega,λl h=>UH (Tn h)⟩
 unfold kQ
 have e:HT.dT (w.map aK.V).length 0 (some (-2))=w.length - 2:=by
  show (if (-2:Int) < 0 then (-2 + ((w.map aK.V).length:Int)).toNat else min (-2:Int).toNat (w.map aK.V).length)=_
  rw [if_pos (by decide),Sg];omega
 have e2:HT.dT (w.map aK.V).length (w.map aK.V).length none=w.length:=by rw [HT.qR,Sg]
 rw [e,e2,Tv,Ua]
def t6:cS:=λxs J Q _=>∃(R G:Addr) (cs:List Cf) (gone:List (Str × Rat)) (t:Rat) (c:Int),xs=[.ref R,.ref G,fr t,.int c]∧(∃e,J R=some (.dct (cs.map df) e))∧(∃e,J G=some (.dct (e8 gone) e))∧(cs.map Cf.n).Nodup∧cs.length≤60∧(∀c∈cs,∀l∈c.w,kP 240 l)∧(gone.map (·.1)).Nodup∧gone.length≤60∧(∀x∈gone,Sz 240 x.2)∧0≤t∧Sz 240 t∧∀ms:List Rat,ms.length≤900→(∀q∈ms,Sz 900 q)→Q (.fl (ms.map fr)) J
theorem w6 {f:Addr} {fd:FuncData} (F:cE K "_law_moments" "_law_moments" oB f fd) (Z:cb mg) (dP:bC P w K mg base 1 "_law_digits" cn vV) (mf:bC P w K mg base 1 "_law_low" eA oJ):aQ P w K mg base (dn P w) 2 f fd jl (d4 K t6):=by
 simp_arith [fv,(aj (aM (i:=4) fv.nd (ot (af (rv 2) (af (cq (af ag (af ag ah))) (af (aU mf B hr (af (aO dN (ar av (rv 2) ag) (ar av (rv 2) ag)) (af (ar av (rv 2) ag) ah))) (af (cq (af (lB h_ ag) (af ag ah))) ah))))))
   (aj (d8 bZ rfl (i5 (rv 0)) (bJ (i:=5) fv.nd) (au (d8 bZ rfl (dI (aO Aa (iC Fd (ar cM (rv 0) (rv 5)) kJ (kK ag)) (iC Fd (ar cM (rv 0) (rv 5)) (kK (lB h_ ag)) kJ))) (bJ (i:=6) fv.nd) (aj (bq (jm PySem.F.plainAttrs_list PySem.F.slot_list_append PySem.F.type_list_append fm (rv 4) (af (ar av (rv 6) ag) ah)))
   (au (bq (jm PySem.F.plainAttrs_list PySem.F.slot_list_append PySem.F.type_list_append fm (rv 4) (af (aU mf B hr (af (aO fM (aO bU ag (ar av (ar av (rv 6) ag) ag)) (ar av (ar av (rv 6) ag) ag)) (af (aO bU ag (ar av (ar av (rv 6) ag) ag)) ah))) ah))))))))
   (aj (d8 bZ rfl (i5 (rv 1)) (bJ (i:=5) fv.nd) (au (bq (jm PySem.F.plainAttrs_list PySem.F.slot_list_append PySem.F.type_list_append fm (rv 4) (af (ar cM (rv 1) (rv 5)) ah)))))
   (aj (aM (i:=7) fv.nd (aU dP B hr (af (rv 3) (af (lA (af ag (af ag ah))) ah))))
   (aj (bq (jm PySem.F.plainAttrs_list PySem.F.slot_list_append PySem.F.type_list_append fm (rv 4) (af (aU mf B hr (af (aO dN (aO bU (aO eK (ar av (rv 7) ag) (aO dN ag (aO kF (ar av (rv 2) ag) (ar av (rv 2) ag)))) ag) (ar av (rv 7) ag)) (af ag ah))) ah)))
   (au (aE (rv 4)))))))),F]
 ·obtain ⟨R,Gd,cs,gone,t,c,rfl,_⟩:=h;rfl
 obtain ⟨R,Gd,cs,gone,t,c,rfl,⟨eR,hR⟩,⟨eG,hG⟩,cnd,cl,szl,gnd,gl,szg,t0,st,q⟩:=h
 refine hX ?_
 have tn:=Rat.num_nonneg.mpr t0
 have td:(0:Int) < t.den:=by have:=t.den_pos;omega
 simp_all! []
 refine ⟨_,_,rfl,td,st.den.mono (by decide),λO hO=>?_⟩
 have e0:PV.tup [.int 0,.int 1]=fr 0:=rfl
 have e3:PV.tup [.int (-1),.int 3]=fr (Rat.divInt (-1) 3):=by rw [Dl,show (Rat.divInt (-1) 3).num=-1 by decide +kernel,show ((Rat.divInt (-1) 3).den:Int)=3 by decide +kernel]
 have b64:∀n:Int,-(2 ^ 60)≤n→n≤2 ^ 60→Bd 64 n:=λn h1 h2=>.small (by omega) (by omega)
 have s1:Sz 900 (Rat.divInt (t.num + t.den) t.den):=(Sz.div (.add st.num st.den (k:=241)) (st.den.mono (by decide)) (by omega)).mono (by decide)
 have s3:Sz 900 (Rat.divInt (-1) 3):=(Sz.div (b64 _ (by decide) (by decide)) (b64 _ (by decide) (by decide)) (by decide)).mono (by decide)
 have s0:Sz 900 (0:Rat):=⟨(b64 0 (by decide) (by decide)).mono (by decide),(b64 1 (by decide) (by decide)).mono (by decide)⟩
 have nO:∀{a u},J a=some u→a≠O:=λe z=>by subst z;rw [hO] at e;cases e
 have nRO:=nO hR
 have nGO:=nO hG
 obtain ⟨Inv,hInv⟩:∃Inv:Nat→Sr→Hq→Prop,∀i τ J',Inv i τ J'↔∃(ms:List Rat) (u5 u6 u7:Option PV),τ=[some (.ref R),some (.ref Gd),some (fr t),some (.int c),some (.ref O),u5,u6,u7]∧J'=put J O (.lst (ms.map fr))∧ms.length≤4 + 10 * i∧∀q∈ms,Sz 900 q:=⟨_,λ_ _ _=>Iff.rfl⟩
 refine hNq _ _ ?_
 clear hNq Nq
 rw [e0,e3]
 have hR1:∀ys,put J O (.lst ys) R=some (.dct (cs.map df) eR):=λys=>by rw [ak nRO];exact hR
 have hG1:∀ys,put J O (.lst ys) Gd=some (.dct (e8 gone) eG):=λys=>by rw [ak nGO];exact hG
 have sml:∀{n:Nat},n≤900→n < sizeLine:=λh=>aZ (by omega)
 simp_all! [hR1]
 refine d6 Inv ((hInv _ _ _).mpr ⟨[t,0,Rat.divInt (t.num + t.den) t.den,Rat.divInt (-1) 3],_,_,_,rfl,rfl,(by simp),λq hq=>?_⟩) (λi τ J' hv=>?_) ?_ ?_
 ·simp only [Sy,S2,or_false] at hq
  rcases hq with rfl | rfl | rfl | rfl
  ·exact st.mono (by decide)
  ·exact s0
  ·exact s1
  ·exact s3
 ·obtain ⟨ms,u5,u6,u7,rfl,rfl,_⟩:=(hInv _ _ _).mp hv;exact hR1 _
 ·intro i y τ J' hy hv
  obtain ⟨ms,u5,u6,u7,rfl,rfl,lm,sm⟩:=(hInv _ _ _).mp hv
  clear hv
  have hi:i < cs.length:=by have:=(Sj.mp hy).1;simpa using this
  rw [Sl,Sl,Si hi] at hy
  cases hy
  have hc:=SM hi
  generalize cs[i]=c0 at hc
  have hva:=pP cnd hc
  obtain ⟨l3,h3,n3,m3⟩:=Bn c0.w
  obtain ⟨l2,h2,n2,m2⟩:=Bl c0.w
  have hk:(df c0).1=c0.n:=rfl
  simp_all! [hk,hR1,hva,h3,h2,Sg]
  refine ⟨T_ (sml (by omega)),?_⟩
  have hml:∀l∈l3 ++ l2,kP 240 l:=λl hl=>szl c0 hc l ((Sq.mp hl).elim (m3 l) (m2 l))
  have hll:(l3 ++ l2).length≤5:=by rw [SF];omega
  rw [← Sk]
  generalize l3 ++ l2=ls at hml hll
  obtain ⟨W,hW⟩:∃W:Nat→Sr→Hq→Prop,∀j τ J',W j τ J'↔∃(ms:List Rat) (u6:Option PV),τ=[some (.ref R),some (.ref Gd),some (fr t),some (.int c),some (.ref O),some (.str c0.n),u6,u7]∧J'=put J O (.lst (ms.map fr))∧ms.length≤4 + 10 * i + 2 * j∧∀q∈ms,Sz 900 q:=⟨_,λ_ _ _=>Iff.rfl⟩
  refine d6 W ((hW _ _ _).mpr ⟨ms,_,rfl,rfl,by omega,sm⟩) (λ_ _ _ _=>trivial) ?_ ?_
  ·intro j y τ J' hy hv
   obtain ⟨ms,u6,rfl,rfl,lm,sm⟩:=(hW _ _ _).mp hv
   clear hv
   have hj:j < ls.length:=by have:=(Sj.mp hy).1;simpa using this
   rw [Sl,Si hj] at hy
   cases hy
   have sl:=(hml _ (SM hj)).m
   generalize ls[j]=l at sl
   have ld:(0:Int) < l.m.den:=by have:=l.m.den_pos;omega
   simp_all! [mE,aq,Sg]
   refine ⟨sml (by omega),?_⟩
   refine hNq _ _ ?_
   clear hNq Nq
   simp_all! [mE,aq,bW,SF,Sg,SJ,TL]
   have b2:Bd 64 (2:Int):=b64 2 (by decide) (by decide)
   have bn:Bd 304 (2 * l.m.num):=.mul b2 sl.num
   have bd:Bd 304 (2 * (l.m.den:Int)):=.mul b2 sl.den
   refine ⟨.of b2 sl.num,.of b2 sl.den,_,_,rfl,by omega,bd.mono (by decide),?_⟩
   simp only [aq,Mr,bW,SF,Sg,SJ,TL]
   refine ⟨sml (by omega),(hW _ _ _).mpr ⟨ms ++ [l.m,Rat.divInt (2 * l.m.num - l.m.den) (2 * l.m.den)],_,rfl,?_,?_,λq hq=>?_⟩⟩
   ·rw [Sk,Uo];rfl
   ·rw [SF];show ms.length + 2≤_;omega
   ·rcases Sq.mp hq with hq | hq
    ·exact sm q hq
    ·simp only [Sy,S2,or_false] at hq
     rcases hq with rfl | rfl
     ·exact sl.mono (by decide)
     ·exact (Sz.div (.sub bn sl.den (k:=305)) (bd.mono (by decide)) (by omega)).mono (by decide)
  ·intro τ J' hv
   obtain ⟨ms,u6,rfl,rfl,lm,sm⟩:=(hW _ _ _).mp hv
   rw [Sg] at lm
   exact (hInv _ _ _).mpr ⟨ms,_,_,_,rfl,rfl,by omega,sm⟩
 intro τ J' hv
 obtain ⟨ms,u5,u6,u7,rfl,rfl,lm,sm⟩:=(hInv _ _ _).mp hv
 clear hv hInv Inv
 refine hNq _ _ ?_
 clear hNq Nq
 simp_all! [hG1]
 obtain ⟨Inv,hInv⟩:∃Inv:Nat→Sr→Hq→Prop,∀i τ J',Inv i τ J'↔∃(ms:List Rat) (u5:Option PV),τ=[some (.ref R),some (.ref Gd),some (fr t),some (.int c),some (.ref O),u5,u6,u7]∧J'=put J O (.lst (ms.map fr))∧ms.length≤604 + i∧∀q∈ms,Sz 900 q:=⟨_,λ_ _ _=>Iff.rfl⟩
 rw [Sg,Sg] at lm
 refine d6 Inv ((hInv _ _ _).mpr ⟨ms,_,rfl,rfl,by omega,sm⟩) (λi τ J' hv=>?_) ?_ ?_
 ·obtain ⟨ms,u5,rfl,rfl,_⟩:=(hInv _ _ _).mp hv;exact hG1 _
 ·intro i y τ J' hy hv
  obtain ⟨ms,u5,rfl,rfl,lm,sm⟩:=(hInv _ _ _).mp hv
  clear hv
  have hi:i < gone.length:=by have:=(Sj.mp hy).1;simpa [e8] using this
  unfold e8 at hy
  rw [Sl,Sl,Si hi] at hy
  cases hy
  have hg:=SM hi
  generalize gone[i]=g0 at hg
  have hva:jA (e8 gone) g0.1=some (fr g0.2):=gH (f:=fr) gnd hg
  simp_all! [hG1,hva,aq,bW,Sg]
  refine ⟨sml (by omega),(hInv _ _ _).mpr ⟨ms ++ [g0.2],_,rfl,?_,?_,λq hq=>?_⟩⟩
  ·rw [Sk];rfl
  ·rw [SF];show ms.length + 1≤_;omega
  ·rcases Sq.mp hq with hq | hq
   ·exact sm q hq
   ·rw [Su] at hq;subst hq;exact (szg _ hg).mono (by decide)
 intro τ J' hv
 obtain ⟨ms,u5,rfl,rfl,lm,sm⟩:=(hInv _ _ _).mp hv
 clear hv hInv Inv
 have lg:(UL (λkv=>PV.str kv.1) (e8 gone)).length≤60:=by rw [Sg];unfold e8;rw [Sg];exact gl
 refine hNq _ _ ?_
 clear hNq Nq
 simp_all! []
 refine ⟨c,[100003,997],rfl,nk (by decide),by decide,λds hD=>?_⟩
 obtain ⟨d0,ds,rfl,d00,d01,hD⟩:=hD.cons
 obtain ⟨d1,ds,rfl,d10,d11,hD⟩:=hD.cons
 cases hD.nil
 have f0:0≤t.num.fdiv t.den:=by rw [Int.fdiv_eq_ediv_of_nonneg _ (by omega)];exact Int.ediv_nonneg tn (by omega)
 have x0:=Int.emod_nonneg d0 (show 1 + t.num.fdiv t.den≠0 by omega)
 have x1:d0 % (1 + t.num.fdiv t.den)≤d0:=by
  rcases Int.lt_or_le d0 (1 + t.num.fdiv t.den) with h | h
  ·rw [Int.emod_eq_of_lt d00 h];exact Int.le_refl _
  ·exact Int.le_trans (Int.le_of_lt (Int.emod_lt_of_pos _ (by omega))) h
 simp_all! [aq,bW,Sg]
 generalize d0 % (1 + t.num.fdiv t.den)=x at x0 x1
 refine ⟨⟨by omega,st.den.mono (by decide)⟩,by omega,.of (b64 x (by omega) (by omega)) (b64 997 (by decide) (by decide)),_,_,rfl,by decide,(b64 997 (by decide) (by decide)).mono (by decide),?_⟩
 simp only [aq,Mr,bW,Sg]
 refine ⟨sml (by omega),hNq _ _ ?_⟩
 clear hNq Nq
 refine Fg.pd (gi hO) aq hO ?_
 have e1:ms.map fr ++ [fr (Rat.divInt (x * 997 + d1) 997)]=(ms ++ [Rat.divInt (x * 997 + d1) 997]).map fr:=by rw [Sk];rfl
 rw [e1]
 refine q _ (by rw [SF];show ms.length + 1≤_;omega) λq hq=>?_
 rcases Sq.mp hq with hq | hq
 ·exact sm q hq
 ·rw [Su] at hq;subst hq
  have b9:Bd 64 (997:Int):=b64 997 (by decide) (by decide)
  exact (Sz.div (b64 (x * 997 + d1) (by omega) (by omega)) b9 (by decide)).mono (by decide)
def wq (ns:List Int) (k:Int):Int:=if k < (ns.length:Int) then ns.getD k.toNat 0 else 5 + 17 * k
def Av:cS:=λxs J Q _=>∃(ns:List Int) (k:Int),xs=[.fl (ns.map .int),.int k]∧0≤k∧k < 1000∧Q (.int (wq ns k)) J
theorem D4 {f:Addr} {fd:FuncData} (F:cE K "_law_cell" "_law_cell" y4 f fd) (Z:cb mg):aQ P w K mg base (dn P w) 1 f fd mU (d4 K Av):=by
 simp_arith [HK,(aj (aY (aB fS (rv 1) (bx cW rfl Z.len boot_len (af (rv 0) ah))) (au (aE (ar av (rv 0) (rv 1)))) aL)
   (au (aE (aO dN ag (aO bU ag (rv 1))))))]
 ·obtain ⟨ns,k,rfl,_⟩:=h;rfl
 obtain ⟨ns,k,rfl,h0,h1,q⟩:=h
 unfold wq at q
 refine hX ?_
 simp_arith! [bQ,Sg]
 split
 ·rename_i c
  rw [if_pos c] at q
  obtain ⟨j,rfl⟩:=Int.eq_ofNat_of_zero_le h0
  have hj:j < ns.length:=by omega
  refine jT (x:=.int ns[j]) (bB (by rw [Sl,Si hj];rfl)) ?_
  simpa [Vk,hj] using q
 ·rename_i c
  rw [if_neg c] at q
  exact ⟨.of (.small (x:=17) (by decide) (by decide)) (.small (x:=k) (by omega) (by omega)),q⟩
def Pq:PV→Int
 | .int i=>i
 | _=>0
def yn:List Str:=["BadName","Taken","Full","NoCraft","TooFar","BadMoment","Past","NotThere","NoWatch","NoTale"]
theorem Ks:∀i,i < 10→gP i≠"":=by decide +kernel
theorem Gq (i:Nat) (hi:i < 10):yn.map (λx=>decide (x=gP i))=(S8 10).map λj=>decide (i=j):=by
 have:∀i,i < 10→yn.map (λx=>decide (x=gP i))=(S8 10).map λj=>decide (i=j):=by decide +kernel
 exact this i hi
def AZ (i:Nat):Str:=if i < 10 then gP i else ""
def lN (i:Nat):List PV:=if i < 10 then lO i else []
theorem C7 (j:Nat):Iw (.fl (lN j)):=by
 unfold lN
 split
 ·exact ⟨by simp [lO,Ez,tW,yY,xj (λk=>PV.bl (decide (j=k))) (λk=>yY _)],by simp [lO,gu,gw,dep,dQ,S8,List.range.loop]⟩
 ·exact ⟨by simp [Ez,EC],by simp [gu,gw,dep,dQ]⟩
abbrev pR:Stmt:=(top 60)
abbrev lh:List Str:=["_law_due"]
theorem xA:L2.aw ["_law_due","_law_some"] ["_law_due"] (L2.ai pR):=eJ
def Pr:PV→Str
 | .str x=>x
 | _=>""
def xD:cS:=λxs J Q _=>∃i,xs=[.str (AZ i)]∧Q (.fl (lN i)) J
theorem BW {f:Addr} {fd:FuncData} (F:cE K "_law_flags" "_law_flags" pR f fd) (Z:cb mg):aQ P w K mg base (dn P w) 1 f fd lh (d4 K xD):=by
 simp_arith [xA,(aj (aM (i:=1) xA.nd (lA (vw [.str "BadName",.str "Taken",.str "Full",.str "NoCraft",.str "TooFar",.str "BadMoment",.str "Past",.str "NotThere",.str "NoWatch",.str "NoTale"] rfl [.str "BadName",.str "Taken",.str "Full",.str "NoCraft",.str "TooFar",.str "BadMoment",.str "Past",.str "NotThere",.str "NoWatch",.str "NoTale"] rfl)))
   (aj (aY (aB (cG hr.aV) (rv 0) bK) (au (aE (lA ah))) aL)
   (au (aE (aO Aa (lA (af qO ah)) (Js (L2.ai pR) ["_law_due","_law_some"] [("_law_due",0)] rfl rfl rfl (dI (rv 1)) (λ_ _ _ _ _ _=>(fN (cG hr.aV) (rv 0) (rv 1)))))))))]
 ·obtain ⟨i,rfl,_⟩:=h;rfl
 obtain ⟨i,rfl,q⟩:=h
 refine hX ?_
 simp_all! []
 by_cases hi:i < 10
 ·unfold AZ lN at *
  rw [if_pos hi] at q ⊢
  rw [if_neg (Ks i hi)]
  simp_all! [vt]
  refine ⟨λ_=>true,λx=>.bl (decide (Pr x=gP i)),⟨by decide +kernel,λJ' _=>⟨trivial,λx hx=>⟨⟨rfl,rfl⟩,λ_=>?_⟩⟩⟩,?_⟩
  ·obtain ⟨y,hy,rfl⟩:∃y∈yn,x=.str y:=by
    simp only [Sy,S2,or_false] at hx
    rcases hx with h | h | h | h | h | h | h | h | h | h <;> subst h <;> exact ⟨_,by decide +kernel,rfl⟩
   simp_arith! [bQ,Pr]
   exact rfl
  ·have e:(([.str "BadName",.str "Taken",.str "Full",.str "NoCraft",.str "TooFar",.str "BadMoment",.str "Past",.str "NotThere",.str "NoWatch",.str "NoTale"]:List PV).filter λ_=>true).map (λx=>PV.bl (decide (Pr x=gP i)))=(S8 10).map λj=>PV.bl (decide (i=j)):=by
    have:=congrArg (UL PV.bl) (Gq i hi)
    rw [Ss,Ss] at this
    exact this
   simp_arith! [bQ,e]
   refine ⟨by rw [Sg,T8];exact dD (by decide),q⟩
 ·unfold AZ lN at *
  rw [if_neg hi] at q ⊢
  rw [if_pos rfl]
  simp_all! []
  exact q
theorem Cf.Du {L:Ln} (ok:bc L) {c:Cf} (hc:c∈L.cs) (hg:c.g≠none):there c.w c.g L.t=false:=by
 obtain ⟨q,e⟩:=Option.ne_none_iff_exists'.mp hg
 obtain ⟨l,ls,ew⟩:=Tb (ok.ne c hc)
 rw [e,ew]
 unfold there
 have h:=(ok.gz c hc q e).2
 simp only [Ue,Iv]
 rw [decide_eq_false (Rat.not_lt.mpr h),TQ]
def fw (cs:List Cf) (t:Rat):List (Str × aK):=cs.filterMap λc=>if Ov.there c.w c.g t=true then (er c.w t).map λl=>(c.n,l) else none
theorem uf (cs:List Cf) (c:Cf) (t:Rat):fw (cs ++ [c]) t=fw cs t ++ (if Ov.there c.w c.g t=true then (er c.w t).map λl=>(c.n,l) else none).toList:=by
 unfold fw
 rw [List.filterMap_append]
 refine congrArg (_ ++ ·) ?_
 rw [Tc]
 cases (if Ov.there c.w c.g t=true then (er c.w t).map λl=>(c.n,l) else none) <;> rfl
theorem xS {cs:List Cf} {c:Cf} {t:Rat} {l:aK} (h:there c.w c.g t=true) (hl:er c.w t=some l):fw (cs ++ [c]) t=fw cs t ++ [(c.n,l)]:=by rw [uf,if_pos h,hl];rfl
theorem AY {cs:List Cf} {c:Cf} {t:Rat} (h:there c.w c.g t=false):fw (cs ++ [c]) t=fw cs t:=by rw [uf,if_neg (by rw [h];decide)];exact S_ _
theorem Fz {cs:List Cf} {t:Rat} {x:Str × aK} (h:x∈fw cs t):∃c∈cs,there c.w c.g t=true∧x.1=c.n∧er c.w t=some x.2:=by
 obtain ⟨c,hc,e⟩:=TX.mp h
 by_cases q:there c.w c.g t=true
 ·rw [if_pos q] at e
  obtain ⟨l,hl,e2⟩:=Uu.mp e
  subst e2
  exact ⟨c,hc,q,rfl,hl⟩
 ·rw [if_neg q] at e;cases e
theorem rF (cs:List Cf) (t:Rat):((fw cs t).map (·.1)).Sublist (cs.map Cf.n):=by
 induction cs with
 | nil=>exact List.Sublist.refl _
 | cons c cs ih =>
  have e:fw (c :: cs) t=(if Ov.there c.w c.g t=true then (er c.w t).map λl=>(c.n,l) else none).toList ++ fw cs t:=by
   unfold fw
   rw [Tc]
   cases (if Ov.there c.w c.g t=true then (er c.w t).map λl=>(c.n,l) else none) <;> rfl
  rw [e,Sk,Sm]
  by_cases q:there c.w c.g t=true
  ·rw [if_pos q]
   cases hl:er c.w t with
   | none=>exact (ih.cons _)
   | some l=>exact ih.cons₂ _
  ·rw [if_neg q];exact ih.cons _
theorem AX {cs:List Cf} {t:Rat} (h:(cs.map Cf.n).Nodup):((fw cs t).map (·.1)).Nodup:=h.sublist (rF cs t)
theorem ko (cs:List Cf) (t:Rat):(fw cs t).length≤cs.length:=List.length_filterMap_le _ _
theorem xR {cs:List Cf} {t:Rat} {n:Nat} (h:∀c∈cs,∀l∈c.w,kP n l):∀x∈fw cs t,kP n x.2:=λx hx=>by
 obtain ⟨c,hc,hb,_,hl⟩:=Fz hx
 obtain ⟨l,h1,h2,_⟩:=rD hb
 rw [hl] at h1;cases h1
 exact h c hc _ h2
theorem bc.L9 {L:Ln} (ok:bc L):fw L.cs L.t=L.fs:=by
 unfold Ln.fs Ln.Ca fw
 have h:∀cs:List Cf,(∀c∈cs,c∈L.cs)→(cs.filterMap λc=>if Ov.there c.w c.g L.t=true then (er c.w L.t).map λl=>(c.n,l) else none)=(cs.filter λc=>c.g.isNone).map λc=>(c.n,c.cur):=λcs=>by
  induction cs with
  | nil=>intro _;rfl
  | cons c cs ih =>
   intro hs
   have hc:=hs c (SY ..)
   have ih:=ih λc hc=>hs c (SI _ hc)
   rw [Tc,SU]
   by_cases hg:c.g=none
   ·rw [if_pos (ok.there hc hg),ok.Rv hc,if_pos (by rw [hg];rfl),Sm,← ih];rfl
   ·rw [if_neg (by rw [Cf.Du ok hc hg];decide),if_neg (by rw [Option.isNone_iff_eq_none];exact hg),← ih]
 exact h _ λ_ h=>h
theorem BG {J:Hq} {p o:Addr} {a b:HQ} (hp:J p=none) (ho:J o=none):nH J (put (put J p a) o b):=λx=>by
 by_cases e:x=o
 ·subst e;exact .inr ho
 ·by_cases e2:x=p
  ·subst e2;exact .inr hp
  ·rw [ak e,ak e2];exact .inl rfl
abbrev dY:Stmt:=(L2.inClass (top 44) 19)
abbrev fq:List Str:=["self","moment"]
theorem iD:L2.aw ["self","moment","legs"] ["self","moment"] (L2.ai dY):=eJ
def l8 (cN cL eN:Addr):cS:=λxs J Q E=>∃(p:Addr) (L:Ln) (t:Rat),xs=[.ref p,fr t]∧bt cN cL J p L∧bc L∧Sz 900 t∧(t < 0∨L.t < t→E eN J)∧(0≤t→t≤L.t→Q (.fl ((cT t (fw L.cs t)).map .str)) J∨∀l,J l=none→Q (.ref l) (put J l (.lst ((cT t (fw L.cs t)).map .str))))
theorem n9 {cN cL eN f:Addr} {fd:FuncData} (F:cE K "order_at" "Lane.order_at" dY f fd) (Z:cb mg) (N:nL K mg) (ax:fe K mg "Lane" cN) (az:aI K cN "now") (aJ:aI K cN "logs") (fg:Own K mg "NotThere" eN) (eu:dq P w K mg base cL 2 "there" iX (rh cL)) (dF:dq P w K mg base cL 3 "leg_at" g6 (rb cL eN)) (de:bC P w K mg base 1 "less" fA cY) (lF:bC P w K mg base 6 "in_order" j0 oI):aQ P w K mg base (dn P w) 7 f fd fq (d4 K (l8 cN cL eN)):=by
 obtain ⟨aN,gN,sN⟩:=N
 have rN:∀(J:Hq) (H:Hp),cy K J H (fr 0) (.ref aN):=λJ H=>⟨aN,_,rfl,sN H,⟨_,_,rfl,rfl,_,_,rfl,rfl,rfl⟩⟩
 simp_arith [iD,(aj (aY (fb (qQ (dh (aU de B hr (af (rv 1) (af (fB (v:=.ref aN) (fr 0) rfl gN rfl rN) ah)))) (lW (dh (aU de B hr (af (ba ax.cl az (rv 0)) (af (rv 1) ah))))))) (au (dS fg rfl cK B.kn rfl (af bK ah))) aL)
   (aj (LB (i:=2) (L2.ai dY) ["self","moment","legs"] [("self",0),("moment",1)] rfl rfl rfl iD.nd rfl (Or.inl rfl) (i5 (ba ax.cl aJ (rv 0))) (λ_ _ _ _ _ _=>(rv 0)) (λ_ _ _ _ _ _=>(bI (pl:=_) dF Gp hr (ar cM (ba ax.cl aJ (rv 1)) (rv 0)) (af (rv 2) ah))) (λ_ _ _ _ _ _=>(dh (bI (pl:=_) eu Gp hr (ar cM (ba ax.cl aJ (rv 1)) (rv 0)) (af (rv 2) ah)))))
   (au (aE (aU lF B hr (af (rv 2) (af (rv 1) ah))))))),F]
 ·obtain ⟨p,L,t,rfl,_⟩:=h;rfl
 obtain ⟨p,L,t,rfl,b,ok,st,qe,q⟩:=h
 have bo:=b.ob
 have bd:=b.dc
 have s0:Sz 9000 (0:Rat):=⟨⟨by decide⟩,⟨by decide⟩⟩
 refine hX ?_
 simp_all! [cY,bo,sF]
 refine ⟨st.mono (by decide),s0,?_⟩
 by_cases c1:t < 0
 ·rw [if_pos c1]
  simp_all! [ft]
  exact qe (.inl c1)
 rw [if_neg c1]
 refine ⟨ok.Ih.mono (by decide),st.mono (by decide),?_⟩
 by_cases c2:L.t < t
 ·rw [if_pos c2]
  simp_all! [ft]
  exact qe (.inr c2)
 rw [if_neg c2]
 have q:=q (Rat.not_lt.mp c1) (Rat.not_lt.mp c2)
 refine hNq _ _ ?_
 clear hNq Nq
 simp_all! [N9,bo,uN,bd]
 intro D hD ep
 have bf:∀e2 kvs,bt cN cL (put J D (.dct kvs e2)) p L:=λe2 kvs=>b.fresh hD
 have yz:∀c∈L.cs,∀l∈c.w,kP 900 l:=λc hc l hl=>(ok.ck c hc l hl).yz
 refine ⟨λi J2=>∃e2,J2=put J D (.dct (bN (fw (L.cs.take i) t)) e2),⟨ep,rfl⟩,?_,?_,?_⟩
 ·rintro i J2 ⟨e2,rfl⟩;exact (bf e2 _).dc
 ·rintro i x J2 hx ⟨e2,rfl⟩
  have hi:i < L.cs.length:=by have:=(Sj.mp hx).1;simpa using this
  rw [Sl,Sl,Si hi] at hx
  cases hx
  have hc:=SM hi
  have et:L.cs.take (i + 1)=L.cs.take i ++ [L.cs[i]]:=by rw [SS,Si hi];rfl
  generalize L.cs[i]=c at hc et
  have hnot:c.n ∉ (fw (L.cs.take i) t).map (·.1):=λz=>by
   have hnd:((L.cs.take (i + 1)).map Cf.n).Nodup:=ok.nd.sublist ((Td _ _).map _)
   rw [et,Sk] at hnd
   exact (d7 hnd).2 ((rF _ t).subset z)
  have b2:=bf e2 (bN (fw (L.cs.take i) t))
  have bo2:=b2.ob
  have bd2:=b2.dc
  have hva:=ok.va hc
  have lo:=(b2.lg c hc).o
  have gsz:∀u,c.g=some u→Sz 900 u:=λu hu=>(qx (ok.gz c hc u hu).1).mono (by decide)
  simp_all! [bo2,uN,bd2,hva,lo]
  refine ⟨Nu _ _,c.a,c.r,c.w,c.g,t,rfl,b2.lg c hc,ok.ne c hc,st,yz c hc,gsz,?_⟩
  rcases hb:there c.w c.g t with _ | _
  ·refine ⟨e2,?_⟩
   rw [et,AY hb]
  ·simp_all! [bo2,uN,bd2,hva,lo]
   refine ⟨Nv _ _,c.a,c.r,c.w,c.g,t,rfl,b2.lg c hc,ok.ne c hc,SH (ok.len c hc) (by decide),st,yz c hc,gsz,λ_ l hl=>?_,λz=>absurd (z.symm.trans hb) (by decide)⟩
   refine ⟨_,e2,aq,aZ (by have:=ko (L.cs.take i) t;rw [SK] at this;have:=ok.many;simp only [bN,Sg];omega),λep'=>⟨ep',?_⟩⟩
   rw [bW,et,xS hb hl]
   congr 2
   exact lV (f:=aK.V) (l:=l) hnot
 ·rintro J2 ⟨e2,rfl⟩
  rw [Sg,Sg,SV]
  refine hNq _ _ ?_
  clear hNq Nq
  simp_all! []
  refine ⟨D,_,e2,t,rfl,aq,AX ok.nd,SH (ko _ _) ok.many,st,xR yz,λo ho=>?_⟩
  have hoJ:J o=none:=by rw [ak (λz=>by subst z;rw [aq] at ho;cases ho)] at ho;exact ho
  rcases q with q | q
  ·exact Fg.pd (BG hD hoJ) aq hoJ q
  ·exact Fg.less (tS (gi hD)) (q o hoJ)
theorem wx {p q:Rat}:(p.num * (q.den:Int)≤q.num * (p.den:Int))=(p≤q):=propext (Rat.le_iff p q).symm
theorem tF {p q:Rat}:(p.num * (q.den:Int) < q.num * (p.den:Int))=(p < q):=propext (Rat.lt_iff p q).symm
def held (rows:List aK) (t:Rat):Option aK:=(er rows t).or rows.head?
abbrev y8:Stmt:=(top 62)
abbrev mZ:List Str:=["_law_rows","_law_moment"]
theorem pU:L2.aw ["_law_rows","_law_moment","_law_best","_law_leg"] ["_law_rows","_law_moment"] (L2.ai y8):=eJ
def zf:cS:=λxs J Q _=>∃(rows:List aK) (t:Rat),xs=[.fl (rows.map aK.V),fr t]∧rows≠[]∧Sz 9000 t∧(∀l∈rows,kP 900 l)∧∀l,held rows t=some l→Q l.V J
theorem qr (ls:List aK) (l:aK) (t:Rat):er (ls ++ [l]) t=if l.m≤t then some l else er ls t:=by
 unfold er
 rw [TK,SU]
 by_cases c:l.m≤t
 ·rw [if_pos c,if_pos (decide_eq_true c),T2,SO]
 ·rw [if_neg c,if_neg (by simp [c]),T2,S_]
theorem D7 {f:Addr} {fd:FuncData} (F:cE K "_law_held" "_law_held" y8 f fd) (Z:cb mg):aQ P w K mg base (dn P w) 1 f fd mZ (d4 K zf):=by
 simp_arith [pU,(aj (aM (i:=2) pU.nd (ar av (rv 0) ag))
   (aj (d8 bZ rfl (dI (rv 0)) (bJ (i:=3) pU.nd) (au (aY (aB Ab (aO bU (ar av (ar av (rv 3) ag) ag) (ar av (rv 1) ag)) (aO bU (ar av (rv 1) ag) (ar av (ar av (rv 3) ag) ag))) (au (aM (i:=2) pU.nd (rv 3))) aL)))
   (au (aE (rv 2)))))]
 ·obtain ⟨rows,t,rfl,_⟩:=h;rfl
 obtain ⟨rows,t,rfl,hne,st,sl,q⟩:=h
 obtain ⟨l0,ls,e0⟩:∃l ls,rows=l :: ls:=Tb hne
 have h0:di (rows.map aK.V) 0=some l0.V:=by rw [e0];exact dj _ _
 refine hX ?_
 simp_arith! [bQ,h0]
 obtain ⟨Inv,hInv⟩:∃Inv:Nat→Sr→Hq→Prop,∀i τ J',Inv i τ J'↔∃(l:aK) (u:Option PV),τ=[some (.fl (rows.map aK.V)),some (fr t),some l.V,u]∧J'=J∧(er (rows.take i) t).or (some l0)=some l:=⟨_,λ_ _ _=>Iff.rfl⟩
 refine d6 Inv ((hInv _ _ _).mpr ⟨l0,_,rfl,rfl,rfl⟩) (λ_ _ _ _=>trivial) ?_ ?_
 ·intro i x τ J' hx hv
  obtain ⟨l,u,rfl,rfl,hl⟩:=(hInv _ _ _).mp hv
  rw [Sl] at hx
  cases e:rows[i]? with
  | none=>rw [e] at hx;cases hx
  | some y =>
   rw [e] at hx;cases hx
   have sy:=(sl y (Sv e)).m
   have et:rows.take (i + 1)=rows.take i ++ [y]:=by rw [SS,e];rfl
   simp_arith! [bQ,mE,wx]
   refine ⟨.of sy.num st.den,.of st.num sy.den,?_⟩
   split
   ·rename_i c
    exact (hInv _ _ _).mpr ⟨y,_,rfl,rfl,by rw [et,qr,if_pos c];rfl⟩
   ·rename_i c
    exact (hInv _ _ _).mpr ⟨l,_,rfl,rfl,by rw [et,qr,if_neg c];exact hl⟩
 ·intro τ J' hv
  obtain ⟨l,u,rfl,rfl,hl⟩:=(hInv _ _ _).mp hv
  simp_arith! [bQ]
  rw [Sg,SV] at hl
  exact q l (by unfold held;rw [e0];rw [e0] at hl;exact hl)
abbrev EX:Stmt:=(top 64)
abbrev oX:List Str:=["_law_rows","_law_gone","_law_moment"]
theorem E3:L2.aw ["_law_rows","_law_gone","_law_moment","_law_first"] ["_law_rows","_law_gone","_law_moment"] (L2.ai EX):=eJ
def Jw:cS:=λxs J Q _=>∃(rows:List aK) (g:Option Rat) (t:Rat),xs=[.fl (rows.map aK.V),gv g,fr t]∧rows≠[]∧Sz 9000 t∧(∀l∈rows,kP 900 l)∧(∀q,g=some q→Sz 900 q)∧(there rows g t=true→∀l,er rows t=some l→Q l.V J)∧(there rows g t=false→Q .non J)
theorem G4 {f:Addr} {fd:FuncData} (F:cE K "_law_was" "_law_was" EX f fd) (Z:cb mg) (JI:bC P w K mg base 1 "_law_held" mZ zf):aQ P w K mg base (dn P w) 2 f fd oX (d4 K Jw):=by
 simp_arith [E3,(aj (aM (i:=3) E3.nd (ar av (ar av (rv 0) ag) ag))
   (aj (aY (aB fS (aO bU (ar av (rv 2) ag) (ar av (rv 3) ag)) (aO bU (ar av (rv 3) ag) (ar av (rv 2) ag))) (au (aE gy)) aL)
   (aj (aY (fb (fP (aB mK (rv 1) gy) (eV (aB Ab (aO bU (ar av (rv 1) ag) (ar av (rv 2) ag)) (aO bU (ar av (rv 2) ag) (ar av (rv 1) ag)))))) (au (aE gy)) aL)
   (au (aE (aU JI B hr (af (rv 0) (af (rv 2) ah))))))))]
 ·obtain ⟨rows,g,t,rfl,_⟩:=h;rfl
 obtain ⟨rows,g,t,rfl,hne,st,sl,sg,q,qn⟩:=h
 obtain ⟨l0,ls,e0⟩:∃l ls,rows=l :: ls:=Tb hne
 have h0:di (rows.map aK.V) 0=some l0.V:=by rw [e0];exact dj _ _
 have s0:=(sl l0 (by rw [e0];simp)).m
 have et:there rows g t=(!decide (t < l0.m) && Iv g t):=by rw [e0];rfl
 refine hX ?_
 simp_arith! [bQ,h0,mE,tF]
 refine ⟨.of st.num s0.den,.of s0.num st.den,?_⟩
 by_cases c:t < l0.m
 ·rw [if_pos c];exact qn (by rw [et,decide_eq_true c];rfl)
 rw [if_neg c]
 have fin:there rows g t=true→zf [.fl (rows.map aK.V),fr t] J Q E2:=λhc=>by
  refine ⟨rows,t,rfl,hne,st,sl,λl hl=>?_⟩
  obtain ⟨l',h1,h2,_⟩:=rD hc
  refine q hc l ?_
  unfold held at hl
  rw [h1] at hl ⊢
  exact hl
 cases g with
 | none =>
  simp_arith! [bQ,gv]
  exact fin (by rw [et,decide_eq_false c];rfl)
 | some u =>
  have su:=sg u rfl
  simp_arith! [bQ,gv,qp,wx]
  refine ⟨.of su.num st.den,.of st.num su.den,?_⟩
  split
  ·rename_i cu
   exact qn (by rw [et];simp [Iv,Rat.not_lt.mpr cu])
  ·rename_i cu
   exact fin (by rw [et];simp [Iv,c,Rat.not_le.mp cu])
abbrev za:Stmt:=(top 66)
abbrev m4:List Str:=["_law_lane","_law_moment"]
theorem pV:L2.aw ["_law_lane","_law_moment","_law_said_here","e"] ["_law_lane","_law_moment"] (L2.ai za):=eJ
def vX (cN cL:Addr):cS:=λxs J Q _=>∃(p:Addr) (L:Ln) (t:Rat),xs=[.ref p,fr t]∧bt cN cL J p L∧bc L∧Sz 900 t∧(t < 0∨L.t < t)∧Q (.fl (lN 7)) J
theorem D8 {cN cL f W:Addr} {c:Nat→Addr} {fd:FuncData} (F:cE K "_law_said" "_law_said" za f fd) (Z:cb mg) (Er:Ba K mg W c) (bY:dq P w K mg base cN 7 "order_at" fq (l8 cN cL (c 7))):aQ P w K mg base (dn P w) 8 f fd m4 (d4 K (vX cN cL)):=by
 simp_arith [pV]
 ·obtain ⟨p,L,t,rfl,_⟩:=h;rfl
 obtain ⟨p,L,t,rfl,b,ok,st,hf,q⟩:=h
 refine ⟨_,(aj (aM (i:=2) pV.nd (lA ah))
   (aj (LF (i:=3) (n:=2) Er rfl Er.mW pV.nd rfl (by decide) rfl (λ_ _ _ _ _ hx=>(au (bq (bI (pl:=_) bY hx hr (rv 0) (af (rv 1) ah)))))
   (λ_ _=>(bM (cR (i:=2) pV.nd rfl (Or.inl rfl) (iW (ay (bH (cQ (K:=K) rfl) rfl Z.isinstance boot_isinstance (ay (pv 3) (ay (pI (v:=.ty "ValueError") rfl Er.nV PyProof.Rows.Boot.«ValueError» rfl) bp))) (ay (bH (cQ (K:=K) rfl) rfl Z.isinstance boot_isinstance (ay (pv 3) (ay (dm (v:=.ref (c 0)) rfl (Er.own 0 (by decide)).mg rfl) bp))) (ay (bH (cQ (K:=K) rfl) rfl Z.isinstance boot_isinstance (ay (pv 3) (ay (dm (v:=.ref (c 1)) rfl (Er.own 1 (by decide)).mg rfl) bp))) (ay (bH (cQ (K:=K) rfl) rfl Z.isinstance boot_isinstance (ay (pv 3) (ay (dm (v:=.ref (c 2)) rfl (Er.own 2 (by decide)).mg rfl) bp))) (ay (bH (cQ (K:=K) rfl) rfl Z.isinstance boot_isinstance (ay (pv 3) (ay (dm (v:=.ref (c 3)) rfl (Er.own 3 (by decide)).mg rfl) bp))) (ay (bH (cQ (K:=K) rfl) rfl Z.isinstance boot_isinstance (ay (pv 3) (ay (dm (v:=.ref (c 4)) rfl (Er.own 4 (by decide)).mg rfl) bp))) (ay (bH (cQ (K:=K) rfl) rfl Z.isinstance boot_isinstance (ay (pv 3) (ay (dm (v:=.ref (c 5)) rfl (Er.own 5 (by decide)).mg rfl) bp))) (ay (bH (cQ (K:=K) rfl) rfl Z.isinstance boot_isinstance (ay (pv 3) (ay (dm (v:=.ref (c 6)) rfl (Er.own 6 (by decide)).mg rfl) bp))) (ay (bH (cQ (K:=K) rfl) rfl Z.isinstance boot_isinstance (ay (pv 3) (ay (dm (v:=.ref (c 7)) rfl (Er.own 7 (by decide)).mg rfl) bp))) (ay (bH (cQ (K:=K) rfl) rfl Z.isinstance boot_isinstance (ay (pv 3) (ay (dm (v:=.ref (c 8)) rfl (Er.own 8 (by decide)).mg rfl) bp))) (ay (bH (cQ (K:=K) rfl) rfl Z.isinstance boot_isinstance (ay (pv 3) (ay (dm (v:=.ref (c 9)) rfl (Er.own 9 (by decide)).mg rfl) bp))) bp))))))))))))))) (λj hj σ H ea D h1 h2 q=>Fl Er hj h1 h2 q))
   (au (aE (rv 2))))),?_⟩
 have bo:=b.ob
 simp_all! [bo]
 exact ⟨gK _ _ _ _,p,L,t,rfl,b,ok,st,λ_=>⟨7,by decide,rfl,hNq _ _ q⟩,λh1 h2=>hf.elim (λz=>absurd z (Rat.not_lt.mpr h1)) λz=>absurd z (Rat.not_lt.mpr h2)⟩
abbrev xu:Stmt:=(top 67)
abbrev Ll:List Str:=["_law_script"]
theorem d9:L2.aw ["_law_script","_law_head","_law_names_here","_law_lane","_law_cells","_law_legs","_law_rows","_law_gone","_law_clock","_law_moment","_law_there","_law_name","_law_ended","_law_leg"] ["_law_script"] (L2.ai xu):=eJ
theorem G3 {cN cL T eN f:Addr} {fd:FuncData} (F:cE K "law" "law" xu f fd) (Z:cb mg) (ug:bC P w K mg base 1 "_law_cell" mU Av) (dP:bC P w K mg base 1 "_law_digits" cn vV) (uh:bC P w K mg base 2 "_law_names" fz xM) (FO:bC P w K mg base 10 "_law_lived" lp (AB cN cL T)) (x9:Bf P w K mg base cN 1 "Lane" iw (AF cN cL)) (A6:bC P w K mg base 2 "_law_moments" jl t6) (zp:bC P w K mg base 1 "_law_words" lz AK) (FP:bC P w K mg base 3 "_law_order" lq xN) (MA:bC P w K mg base 2 "_law_was" oX Jw) (JJ:bC P w K mg base 8 "_law_said" m4 (vX cN cL)) (FL:bC P w K mg base 1 "_law_flags" lh xD) (bY:dq P w K mg base cN 7 "order_at" fq (l8 cN cL eN)) (iU:dq P w K mg base cN 1 "order" k_ (xK cN cL)) :
  aQ P w K mg base (dn P w) 11 f fd Ll (d4 K (zg [T])):=by
 simp_arith [d9,(aj (aM (i:=1) d9.nd (aU dP B hr (af (aU ug B hr (af (rv 0) (af ag ah))) (af (lA (vw [.int 21,.int 7,.int 4,.int 8] rfl [.int 21,.int 7,.int 4,.int 8] rfl)) ah))))
   (aj (aM (i:=2) d9.nd (aU uh B hr (af (aU ug B hr (af (rv 0) (af ag ah))) (af (aO dN ag (ar av (rv 1) ag)) ah))))
   (aj (aM (i:=3) d9.nd (xp x9 B hr))
   (aj (OC (i:=4) (L2.ai xu) ["_law_script","_law_head","_law_names_here","_law_lane","_law_cells","_law_legs","_law_rows","_law_gone","_law_clock","_law_moment","_law_there","_law_name","_law_ended","_law_leg"] [("_law_script",0)] rfl rfl rfl d9.nd rfl (Or.inl rfl) (Cd rfl Z.range (af (aO dN (ar av (rv 1) ag) (aO bU ag (aO kF (ar av (rv 1) ag) ag))) ah)) (λ_ _ _ _ _ _=>(aU ug Gp hr (af (rv 1) (af (aO dN ag (rv 0)) ah)))))
   (aj (vC (aU FO B hr (af (rv 3) (af (rv 2) (af (rv 4) (af (ar av (rv 1) ag) ah))))) (vB (n:=4) rfl (dA (bJ (i:=5) d9.nd) (dA (bJ (i:=6) d9.nd) (dA (bJ (i:=7) d9.nd) (dA (bJ (i:=8) d9.nd) pN))))))
   (aj (d8 bZ rfl (dI (aU A6 B hr (af (rv 6) (af (rv 7) (af (rv 8) (af (aU ug B hr (af (rv 0) (af ag ah))) ah)))))) (bJ (i:=9) d9.nd) (au (aY (fb (qQ (aB fS (ar av (rv 9) ag) ag) (lW (aB fS (aO bU (ar av (rv 8) ag) (ar av (rv 9) ag)) (aO bU (ar av (rv 9) ag) (ar av (rv 8) ag)))))) (au (aY (aB (mL hr.aV) (aU JJ B hr (af (rv 3) (af (rv 9) ah))) (aU FL B hr (af bK ah))) (au (aE qO)) aL)) (aj (aM (i:=10) d9.nd m7)
   (aj (d8 bZ rfl (i5 (rv 6)) (bJ (i:=11) d9.nd) (aj (aM (i:=12) d9.nd gy)
   (cH (aY (aB Ee (rv 11) (rv 7)) (au (aM (i:=12) d9.nd (ar cM (rv 7) (rv 11)))) aL)
   (aj (aM (i:=13) d9.nd (aU MA B hr (af (ar cM (rv 6) (rv 11)) (af (rv 12) (af (rv 9) ah)))))
   (au (aY (aB mK (rv 13) gy) (au (i6 fY (rv 10) (rv 11) (rv 13))) aL))))))
   (au (aY (j6 (dh (aU zp B hr (af (bI (pl:=_) bY B hr (rv 3) (af (rv 9) ah)) (af (aU FP B hr (af (rv 10) (af (rv 9) ah))) ah))))) (au (aE qO)) aL)))))))
   (au (aE (aU zp B hr (af (bI (pl:=_) bY B hr (rv 3) (af (rv 8) ah)) (af (gx (pl:=_) iU B hr (rv 3)) ah)))))))))))]
 ·obtain ⟨ns,rfl,_⟩:=h;rfl
 obtain ⟨ns,rfl,hl,hT,hJ,q⟩:=h
 have hT:J T=some .tab:=hT T (by simp)
 refine hX ?_
 simp_all! []
 refine ⟨ns,0,rfl,by decide,by decide,_,[21,7,4,8],rfl,nk (by decide),by decide,λds hD=>?_⟩
 obtain ⟨d0,ds,rfl,d00,d01,hD⟩:=hD.cons
 obtain ⟨d1,ds,rfl,d10,d11,hD⟩:=hD.cons
 obtain ⟨d2,ds,rfl,d20,d21,hD⟩:=hD.cons
 obtain ⟨d3,ds,rfl,d30,d31,hD⟩:=hD.cons
 cases hD.nil
 simp_all! []
 refine ⟨ns,1,rfl,by decide,by decide,_,2 + d1,rfl,by omega,by omega,λnames nl nd ng=>?_⟩
 simp_all! []
 intro p hp
 refine ⟨p,rfl,aq,λJ1 d e o b mv=>?_⟩
 have mvJ:Mv J J1 (λ_=>False) (Ln.own ⟨0,d,e,o,[],[]⟩ p):=by
  refine (Mv.yG (S:=λ_=>False) hp).trans ⟨λa u h n=>mv.keep a u h λz=>n (.inr z),λa z=>(mv.own a z).imp .inr id,mv.mono⟩
 have ok0:cI ⟨0,d,e,o,[],[]⟩:=⟨⟨UI,(by simp),(by simp),(by simp),(by simp),(by simp),Rat.le_refl,Sb _,(by show 0≤100;decide),(by intro n;simp [Ln.fs,Ln.Ca]),UI,(by show 0≤12;decide)⟩,rfl⟩
 have hT1:J1 T=some .tab:=mvJ.keep _ _ hT λz=>z
 have q3:d3.fdiv 7≤1∧0≤d3.fdiv 7:=by rw [Int.fdiv_eq_ediv_of_nonneg _ (by decide)];omega
 simp_all! [vt]
 have c64:∀n:Int,-(2 ^ 60)≤n→n≤2 ^ 60→Bd 64 n:=λn h1 h2=>.small (by omega) (by omega)
 refine ⟨⟨by decide,(c64 7 (by decide) (by decide)).mono (by decide)⟩,.of (c64 30 (by decide) (by decide)) (c64 _ (by omega) (by omega)),by omega,by omega,λ_=>true,λx=>.int (wq ns (8 + Pq x)),⟨by rw [jL];exact aZ (by omega),λJ' _=>⟨trivial,λx hx=>⟨⟨rfl,rfl⟩,λ_=>?_⟩⟩⟩,?_⟩
 ·obtain ⟨i,hi⟩:=SW.mp hx
  obtain ⟨i1,rfl⟩:=(wI _ _ _ _).mp hi
  simp_all! []
  exact ⟨ns,_,rfl,by omega,by omega,rfl,rfl⟩
 obtain ⟨cs,hcs,hcl⟩:∃cs:List Int,((sx 0 (d0 + 30 * d3.fdiv 7).toNat).filter λ_=>true).map (λx=>PV.int (wq ns (8 + Pq x)))=cs.map .int∧cs.length≤51:=⟨((sx 0 (d0 + 30 * d3.fdiv 7).toNat).filter λ_=>true).map (λx=>wq ns (8 + Pq x)),by rw [Ss];rfl,by
  rw [Sg]
  exact SH (Tu _ _) (by rw [jL];omega)⟩
 rw [hcs]
 refine hNq _ _ ?_
 clear hNq Nq hcs
 simp_all! []
 refine ⟨p,_,names,cs,d2,rfl,b,ok0,rfl,rfl,hT1,by omega,ng,by omega,d20,d21,λJ2 L D R Gd gs gone lv hus=>?_⟩
 have hT2:J2 T=some .tab:=lv.mv.keep _ _ hT1 (b.NA hT1)
 have st2:Sz 240 L.t:=(qx lv.ok.ts).mono (by decide)
 have cnd:=lv.ok.tobc.nd
 have cl:L.cs.length≤60:=by
  have:=List.Nodup.length_le_of_subset cnd (λy hy=>hus y hy)
  rw [Sg] at this
  omega
 have gle:gone.length≤60:=by
  have h1:=List.Nodup.length_le_of_subset lv.g2 (λy hy=>by
   obtain ⟨z,hz,e⟩:=Sh.mp hy
   rw [← e];exact lv.g3 z hz)
  simp only [Sg] at h1
  omega
 have gsz:∀x∈gone,Sz 240 x.2:=λx hx=>by
  obtain ⟨c,hc,e⟩:=Sh.mp (lv.g3 x hx)
  exact (qx (lv.ok.gz c hc x.2 ((lv.g1 c hc x.2).mpr (by rw [e];exact hx))).1).mono (by decide)
 have yz:∀c∈L.cs,∀l∈c.w,kP 240 l:=λc hc l hl=>by
  have h:=lv.ok.ck c hc l hl
  exact ⟨h.P_.mono (by decide),h.Qn.mono (by decide),.small (by have:=h.v;omega) (by have:=h.v;omega)⟩
 obtain ⟨eR,hR⟩:=lv.hR
 obtain ⟨eG,hG⟩:=lv.hG
 simp_all! []
 refine ⟨ns,2,rfl,by decide,by decide,R,Gd,L.cs,gone,L.t,_,rfl,⟨eR,hR⟩,⟨eG,hG⟩,cnd,cl,yz,lv.g2,gle,gsz,lv.ok.t0,st2,λms ml sm=>?_⟩
 simp_all! []
 obtain ⟨Inv,hInv⟩:∃Inv:Nat→Sr→Hq→Prop,∀i τ J',Inv i τ J'↔∃u9 u10 u11 u12 u13:Option PV,τ=[some (.fl (ns.map .int)),some (.fl [.int d0,.int d1,.int d2,.int d3]),some (.fl (names.map .str)),some (.ref p),some (.fl (cs.map .int)),some (.ref D),some (.ref R),some (.ref Gd),some (fr L.t),u9,u10,u11,u12,u13]∧Sub J2 J':=⟨_,λ_ _ _=>Iff.rfl⟩
 refine d6 Inv ((hInv _ _ _).mpr ⟨_,_,_,_,_,rfl,Sub.refl _⟩) (λ_ _ _ _=>trivial) ?_ ?_
 ·intro i x τ J' hx hv
  obtain ⟨u9,u10,u11,u12,u13,rfl,sb⟩:=(hInv _ _ _).mp hv
  clear hv
  have hj:i < ms.length:=by have:=(Sj.mp hx).1;simpa using this
  rw [Sl,Si hj] at hx
  cases hx
  have st:=sm _ (SM hj)
  generalize ms[i]=t at st
  have w7:AZ 7=("NotThere":Str):=by decide +kernel
  have cf:=C7 7
  have b3:=lv.b.keep λa o _ e=>sb a o e
  have s1:Sz 900 L.t:=st2.mono (by decide)
  have bo:=b3.ob
  have fin:(t < 0∨L.t < t)→∀R':PV→Hq→Prop,R' (.fl (lN 7)) J'→vX cN cL [.ref p,fr t] J' R' E2:=λhf R' hR'=>⟨p,L,t,rfl,b3,lv.ok.tobc,st,hf,hR'⟩
  have en:(t.num < 0)=(t < 0):=propext ⟨λh=>Rat.not_le.mp λz=>absurd (Rat.num_nonneg.mpr z) (by omega),λh=>Int.not_le.mp λz=>absurd (Rat.num_nonneg.mp z) (Rat.not_le.mpr h)⟩
  simp_all! [tF,bo,en]
  by_cases c1:t < 0
  ·rw [if_pos c1]
   refine fin (.inl c1) _ ⟨7,by rw [w7],?_⟩
   simp_all! [cf,cf.1,eq_self]
   exact (hInv _ _ _).mpr ⟨_,_,_,_,_,rfl,sb⟩
  rw [if_neg c1]
  refine ⟨.of s1.num st.den,.of st.num s1.den,?_⟩
  by_cases c2:L.t < t
  ·rw [if_pos c2]
   refine fin (.inr c2) _ ⟨7,by rw [w7],?_⟩
   simp_all! [cf,cf.1,eq_self]
   exact (hInv _ _ _).mpr ⟨_,_,_,_,_,rfl,sb⟩
  rw [if_neg c2]
  simp_all! []
  intro X hX eX
  refine hNq _ _ ?_
  clear hNq Nq fin
  have nX:∀{a u},J' a=some u→a≠X:=λe z=>by subst z;rw [hX] at e;cases e
  have nRX:=nX (sb _ _ hR)
  have nGX:=nX (sb _ _ hG)
  have hR2:∀v,put J' X v R=some (.dct (L.cs.map df) eR):=λv=>by rw [ak nRX];exact sb _ _ hR
  have hG2:∀v,put J' X v Gd=some (.dct (e8 gone) eG):=λv=>by rw [ak nGX];exact sb _ _ hG
  simp_all! [hR2]
  obtain ⟨W,hW⟩:∃W:Nat→Sr→Hq→Prop,∀j τ Ja,W j τ Ja↔∃(u11 u12 u13:Option PV) (e:Nat),τ=[some (.fl (ns.map .int)),some (.fl [.int d0,.int d1,.int d2,.int d3]),some (.fl (names.map .str)),some (.ref p),some (.fl (cs.map .int)),some (.ref D),some (.ref R),some (.ref Gd),some (fr L.t),some (fr t),some (.ref X),u11,u12,u13]∧Ja=put J' X (.dct (bN (fw (L.cs.take j) t)) e):=⟨_,λ_ _ _=>Iff.rfl⟩
  refine d6 W ((hW _ _ _).mpr ⟨_,_,_,_,rfl,rfl⟩) (λi τ J' hv=>?_) ?_ ?_
  ·obtain ⟨u11,u12,u13,e,rfl,rfl⟩:=(hW _ _ _).mp hv;exact hR2 _
  ·intro j y τ Ja hy hv
   obtain ⟨u11,u12,u13,e,rfl,rfl⟩:=(hW _ _ _).mp hv
   clear hv
   have hi:j < L.cs.length:=by have:=(Sj.mp hy).1;simpa using this
   rw [Sl,Sl,Si hi] at hy
   cases hy
   have hc:=SM hi
   have et:L.cs.take (j + 1)=L.cs.take j ++ [L.cs[j]]:=by rw [SS,Si hi];rfl
   generalize L.cs[j]=c0 at hc et
   have hnot:c0.n ∉ (fw (L.cs.take j) t).map (·.1):=λz=>by
    have hnd:((L.cs.take (j + 1)).map Cf.n).Nodup:=cnd.sublist ((Td _ _).map _)
    rw [et,Sk] at hnd
    exact (d7 hnd).2 ((rF _ t).subset z)
   have hva:=pP cnd hc
   have hk:(df c0).1=c0.n:=rfl
   simp_all! [hk]
   refine ⟨λτ' J3=>τ'=[some (.fl (ns.map .int)),some (.fl [.int d0,.int d1,.int d2,.int d3]),some (.fl (names.map .str)),some (.ref p),some (.fl (cs.map .int)),some (.ref D),some (.ref R),some (.ref Gd),some (fr L.t),some (fr t),some (.ref X),some (.str c0.n),some (gv c0.g),u13]∧J3=put J' X (.dct (bN (fw (L.cs.take j) t)) e),?_,?_⟩
   ·have e1:(jA (e8 gone) c0.n).isSome=decide (c0.n∈gone.map (·.1)):=ud (f:=fr) lv.g2
    simp_all! [hG2,e1]
    cases hg:c0.g with
    | none =>
     have h1:c0.n ∉ gone.map (·.1):=λz=>by
      obtain ⟨y,hy,e⟩:=Sh.mp z
      have:=(lv.g1 c0 hc y.2).mpr (by rw [← e];exact hy)
      rw [hg] at this;cases this
     rw [if_neg h1]
     rfl
    | some u =>
     have h1:=(lv.g1 c0 hc u).mp hg
     have h2:jA (e8 gone) c0.n=some (fr u):=gH (f:=fr) lv.g2 h1
     rw [if_pos (Sh.mpr ⟨(c0.n,u),h1,rfl⟩),h2]
     exact ⟨rfl,rfl⟩
   rintro τ' J3 ⟨rfl,rfl⟩
   simp_all! [hR2,hva]
   refine ⟨c0.w,c0.g,t,rfl,lv.ok.ne c0 hc,st.mono (by decide),λl hl=>(lv.ok.ck c0 hc l hl).yz,λu hu=>(qx (lv.ok.gz c0 hc u hu).1).mono (by decide),λht l hl=>?_,λht=>?_⟩
   ·refine hNq _ _ ?_
    clear hNq Nq
    have nn:By l.V=false:=rfl
    simp_all! [nn,aq]
    refine ⟨aZ (by have:=ko (L.cs.take j) t;rw [SK] at this;simp only [bN,Sg];omega),λep'=>(hW _ _ _).mpr ⟨_,_,_,ep',rfl,?_⟩⟩
    rw [bW,et,xS ht hl]
    exact congrArg (λz=>put J' X (.dct z ep')) (lV (f:=aK.V) (l:=l) hnot)
   ·refine hNq _ _ ?_
    clear hNq Nq
    have nn:By PV.non=true:=rfl
    simp_all! [nn]
    exact (hW _ _ _).mpr ⟨_,_,_,e,rfl,by rw [et,AY ht]⟩
  intro τ Ja hv
  obtain ⟨u11,u12,u13,e,rfl,rfl⟩:=(hW _ _ _).mp hv
  clear hv
  rw [Sg,Sg,SV]
  have sb4:Sub J' (put J' X (.dct (bN (fw L.cs t)) e)):=Sub.put hX
  have b4:=b3.keep λa o _ e=>sb4 a o e
  have bo4:=b4.ob
  refine hNq _ _ ?_
  clear hNq Nq
  simp_all! [bo4]
  refine ⟨gK _ _ _ _,p,L,t,rfl,b4,lv.ok.tobc,st,λz=>z.elim (λz=>absurd z c1) λz=>absurd z c2,λ_ _=>.inl ?_⟩
  have lsz9:∀c∈L.cs,∀l∈c.w,kP 900 l:=λc hc l hl=>(lv.ok.ck c hc l hl).yz
  have wl:(cT t (fw L.cs t)).length≤900:=by rw [qD];have:=ko L.cs t;omega
  refine ⟨X,_,e,t,rfl,aq,AX cnd,SH (ko _ _) (by omega),st,xR lsz9,_,rfl,wl,?_⟩
  exact (hInv _ _ _).mpr ⟨_,_,_,_,_,rfl,λa o h=>sb4 a o (sb a o h)⟩
 ·intro τ J' hv
  obtain ⟨u9,u10,u11,u12,u13,rfl,sb⟩:=(hInv _ _ _).mp hv
  have b3:=lv.b.keep λa o _ e=>sb a o e
  refine hNq _ _ ?_
  clear hNq Nq
  have bo:=b3.ob
  simp_all! [bo]
  refine ⟨gK _ _ _ _,p,L,L.t,rfl,b3,lv.ok.tobc,st2.mono (by decide),λz=>z.elim (λz=>absurd z (Rat.not_lt.mpr lv.ok.t0)) λz=>absurd z (Rat.not_lt.mpr Rat.le_refl),λ_ _=>.inl ?_⟩
  rw [lv.ok.tobc.L9,← lv.ok.row]
  simp_all! [bo]
  refine ⟨gK _ _ _ _,p,L,rfl,b3,.inl ⟨_,rfl,SH lv.ok.rl (by decide),q _ (by simpa using sb _ _ hT2)⟩⟩
end
theorem Kb {P:Program} {w:World} {K:PySem.W.Frag} {mg:Str→Option Value} (Z:cb mg) {W:Addr} {c:Nat→Addr} (Er:Ba K mg W c) (N:nL K mg) {jg:Tok} (gf:mg "FARTHEST"=some (.int 1000000 jg)) {f7:Tok} (eg:mg "FASTEST"=some (.int 1000 f7)) {nv:Tok} (jJ:mg "FINEST"=some (.int 60 nv)) {nA:Tok} (jK:mg "LATEST"=some (.int 1000000 nA)) {kO:Tok} (ik:mg "LONGEST"=some (.int 8 kO)) {v8:Tok} (qk:mg "MOST"=some (.int 12 v8)) {pY:Tok} (mB:mg "SIGNS"=some (.str "abcdefghijklmnopqrstuvwxyz0123456789" pY)) (X_Log:∃C,fe K mg "Log" C∧aI K C "rows"∧aI K C "gone"∧ff K C "__init__" "Log.__init__" gA∧ff K C "turn" "Log.turn" lX∧ff K C "leave" "Log.leave" j_∧ff K C "there" "Log.there" ka∧ff K C "leg_at" "Log.leg_at" je) (X_Lane:∃C,fe K mg "Lane" C∧aI K C "now"∧aI K C "logs"∧aI K C "row"∧ff K C "__init__" "Lane.__init__" fQ∧ff K C "must_be_there" "Lane.must_be_there" dB∧ff K C "leg_of" "Lane.leg_of" g8∧ff K C "settle" "Lane.settle" fC∧ff K C "join" "Lane.join" j8∧ff K C "order" "Lane.order" jc∧ff K C "order_at" "Lane.order_at" dY∧ff K C "meets" "Lane.meets" jb∧ff K C "foretold" "Lane.foretold" fR∧ff K C "go_to" "Lane.go_to" i9∧ff K C "turn" "Lane.turn" j9∧ff K C "about" "Lane.about" i8∧ff K C "leave" "Lane.leave" i_) (X_Bells:∃C,fe K mg "Bells" C∧aI K C "rows"∧ff K C "__init__" "Bells.__init__" fu∧ff K C "drop" "Bells.drop" fW∧ff K C "put" "Bells.put" j7∧ff K C "told" "Bells.told" i7) (JL:Def K mg "_law_cell" y4) (CC:Def K mg "_law_digits" qT) (CF:Def K mg "shared" qW) (xX:Def K mg "fraction" lY) (MC:Def K mg "_law_low" EW) (JP:Def K mg "less" y9) (JQ:Def K mg "plus" y_) (FV:Def K mg "minus" vH) (FZ:Def K mg "times" vJ) {gM:Addr} (gL:x4 K mg "good_name" gT gM) (FW:Def K mg "_law_names" m_) (xZ:Def K mg "place_on" l4) (A7:Def K mg "last_by" oz) (rV:Def K mg "lies_behind" g_) (xY:Def K mg "in_order" lZ) (rW:Def K mg "rings_ahead" hE) (A8:Def K mg "meeting" oA) (mi:Def K mg "in_lowest_terms" eW) (rT:Def K mg "good_moment" g9) (F0:Def K mg "_law_words" vK) (CD:Def K mg "_law_placed" qV) (FY:Def K mg "_law_paced" vI) (Pg:Def K mg "_law_at" LK) (CB:Def K mg "_law_before" qS) (FX:Def K mg "_law_order" pS) (FT:Def K mg "_law_later" vF) (FR:Def K mg "_law_flags" pR) (CG:Def K mg "_law_turned" qX) (JO:Def K mg "_law_held" y8) (MD:Def K mg "_law_was" EX) (A9:Def K mg "_law_moments" oB) (JR:Def K mg "_law_said" za) (FQ:Def K mg "_law_acted" vD) (JN:Def K mg "_law_done" y6) (JM:Def K mg "_law_deed" vE) (FU:Def K mg "_law_lived" vG) {f:Addr} {fd:FuncData} (F:cE K "law" "law" xu f fd) (base:Heap) (Bm:BMain mg base) :
  aQ P w K mg base (dn P w) 11 f fd ["_law_script"] (d4 K (zg [gM])):=by
 obtain ⟨C4,bP,bj,b_,o6,wg,uo,uq,sj⟩:=X_Log
 obtain ⟨Pu,ax,az,aJ,aH,nI,jq,p8,p9,uk,si,nK,sh,nJ,se,um,sd,sf⟩:=X_Lane
 obtain ⟨O2,bL,aW,mn,r8,uj,r_⟩:=X_Bells
 have jC:=Er.own 5 (by decide)
 have nM:=Er.own 0 (by decide)
 have x_:=Er.own 2 (by decide)
 have nN:=Er.own 3 (by decide)
 have fg:=Er.own 7 (by decide)
 have ya:=Er.own 6 (by decide)
 have uu:=Er.own 1 (by decide)
 have ib:=Er.own 4 (by decide)
 have JU:=JL.fE (P:=P) (w:=w) (base:=base) (λ_ _ F=>D4 F Z) λ_ _ _ _ _ _=>ku λ_ _=>rfl
 have dP:=CC.C6 (P:=P) (w:=w) (base:=base) (λ_ _ F=>BS F Z.toCs) λ_ _ _ _ _ _=>ku λ_ _=>rfl
 have p6:=wL dP
 have ia:=CF.C6 (P:=P) (w:=w) (base:=base) (λ_ _ F=>BU F Z.toCs) λ_ _ _ _ _ _=>ku λ_ _=>rfl
 have CO:=wM ia
 have bX:=xX.C6 (λ_ _ F=>wX F Z.toCs ia) λ_ _ _ _ _ _=>ku λ_ _=>rfl
 have x8:=sE bX
 have mf:=MC.C6 (P:=P) (w:=w) (base:=base) (λ_ _ F=>K2 F Z.toCs) λ_ _ _ _ _ _=>ku λ_ _=>rfl
 have CL:=DQ mf
 have de:=JP.C6 (P:=P) (w:=w) (base:=base) (λ_ _ F=>G0 F Z.toCs) λ_ _ _ _ _ _=>ku λ_ _=>rfl
 have lH:=BH de
 have xW:=JQ.C6 (λ_ _ F=>G1 F Z.toCs bX) λ_ _ _ _ _ _=>ku λ_ _=>rfl
 have mh:=FV.C6 (λ_ _ F=>D0 F Z.toCs bX) λ_ _ _ _ _ _=>ku λ_ _=>rfl
 have ui:=FZ.C6 (λ_ _ F=>D3 F Z.toCs bX) λ_ _ _ _ _ _=>ku λ_ _=>rfl
 have JY:=BI xW
 have zq:=yv mh
 have Gb:=yx ui
 have jB:=gL.C6 (P:=P) (w:=w) (base:=base) (λ_ _ _ F=>uY F Z.toCs Bm ik mB) λ_ _ _ _ _ _=>C2 λ_=>rfl
 have we:=qs jB
 have uh:=FW.C6 (λ_ _ F=>D1 F Z.toCs dP) λ_ _ _ _ _ _=>ku λ_ _=>rfl
 have F_:=yw uh
 have lI:=xZ.fE (λ_ _ F=>u_ F Z JY zq Gb) λ_ _ _ _ _ _=>ku λ_ _=>rfl
 have Bb:=A7.fE (λ_ _ F=>wY F Z lH) λ_ _ _ _ _ _=>ku λ_ _=>rfl
 have rY:=rV.fE (λ_ _ F=>pq F Z lI lH) λ_ _ _ _ _ _=>Rj λ_ _ _ _ _=>rfl
 have p7:=xY.fE (λ_ _ F=>uZ F Z rY) λ_ _ _ _ _ _=>ku λ_ _=>rfl
 have CS:=o6.P9 (P:=P) (w:=w) (base:=base) bP (λ_ _ F=>wV F bP bj b_) λ_ _ _ _ _ _=>Kc λ_ _ _ _=>rfl
 have fk:=wg.uP (mg:=mg) bP.cl (λ_ _ F=>wW F Z bP bj lI) λ_ _ _ _ _ _=>Iu λ_ _ _=>rfl
 have jQ:=uo.uP (P:=P) (w:=w) (base:=base) (mg:=mg) bP.cl (λ_ _ F=>uW F Z bP b_) λ_ _ _ _ _ _=>ku λ_ _=>rfl
 have eu:=uq.uP (mg:=mg) bP.cl (λ_ _ F=>uX F Z bP bj b_ lH) λ_ _ _ _ _ _=>ku λ_ _=>rfl
 have dF:=sj.uP (mg:=mg) bP.cl (λ_ _ F=>sS F Z bP bj fg eu Bb) λ_ _ _ _ _ _=>ku λ_ _=>rfl
 have x9:=nI.P9 (P:=P) (w:=w) (base:=base) ax (λ_ _ F=>uT F (cL:=C4) N ax az aJ aH) λ_ _ _ _ _ _=>C2 λ_=>rfl
 have a_:=jq.uP (P:=P) (w:=w) (base:=base) (mg:=mg) ax.cl (λ_ _ F=>jx F Z (cL:=C4) ax aH nN) λ_ _ _ _ _ _=>ku λ_ _=>rfl
 have bO:=p8.uP (mg:=mg) ax.cl (λ_ _ F=>qA F Z ax aJ az a_ dF) λ_ _ _ _ _ _=>ku λ_ _=>rfl
 have bz:=p9.uP (mg:=mg) ax.cl (λ_ _ F=>qB F Z ax aH az bO p7) λ_ _ _ _ _ _=>C2 λ_=>rfl
 have jO:=uk.uP (mg:=mg) ax.cl (λ_ _ F=>uU F Z ax aH az aJ gf eg qk nM ib uu x_ we CS bz) λ_ _ _ _ _ _=>Kc λ_ _ _ _=>rfl
 have iU:=si.uP (P:=P) (w:=w) (base:=base) (mg:=mg) ax.cl (λ_ _ F=>sQ F Z (cL:=C4) ax aH) λ_ _ _ _ _ _=>C2 λ_=>rfl
 have bY:=nK.uP (mg:=mg) ax.cl (λ_ _ F=>n9 F Z N ax az aJ fg eu dF lH p7) λ_ _ _ _ _ _=>ku λ_ _=>rfl
 have rZ:=rW.fE (λ_ _ F=>pw F Z lH) λ_ _ _ _ _ _=>ku λ_ _=>rfl
 have ur:=mn.P9 (P:=P) (w:=w) (base:=base) bL (λ_ _ F=>sH F bL aW) λ_ _ _ _ _ _=>C2 λ_=>rfl
 have iM:=r8.uP (P:=P) (w:=w) (base:=base) (mg:=mg) bL.cl (λ_ _ F=>sG F Z bL aW) λ_ _ _ _ _ _=>Iu λ_ _ _=>rfl
 have jN:=uj.uP (mg:=mg) bL.cl (λ_ _ F=>uS F Z bL aW iM rZ) λ_ _ _ _ _ _=>Kc λ_ _ _ _=>rfl
 have iN:=r_.uP (P:=P) (w:=w) (base:=base) (mg:=mg) bL.cl (λ_ _ F=>sI F Z bL aW) λ_ _ _ _ _ _=>C2 λ_=>rfl
 have Bc:=A8.fE (λ_ _ F=>wZ F Z N lI zq x8) λ_ _ _ _ _ _=>ku λ_ _=>rfl
 have iT:=sh.uP (mg:=mg) ax.cl (λ_ _ F=>sP F Z ax az bO Bc lH) λ_ _ _ _ _ _=>Iu λ_ _ _=>rfl
 have mj:=mi.fE (λ_ _ F=>kR F Z CO) λ_ _ _ _ _ _=>C2 λ_=>rfl
 have rX:=rT.fE (λ_ _ F=>pj F Z jJ jK mj) λ_ _ _ _ _ _=>C2 λ_=>rfl
 have fK:=nJ.uP (mg:=mg) ax.cl (λ_ _ F=>n8 F Z ax az aH jC ya rX lH ur iT jN iN) λ_ _ _ _ _ _=>ku λ_ _=>rfl
 have iQ:=se.uP (mg:=mg) ax.cl (λ_ _ F=>sL F Z ax az fK bz) λ_ _ _ _ _ _=>ku λ_ _=>rfl
 have jP:=um.uP (mg:=mg) ax.cl (λ_ _ F=>uV F Z ax aJ az eg ib a_ fk bz) λ_ _ _ _ _ _=>Iu λ_ _ _=>rfl
 have iP:=sd.uP (mg:=mg) ax.cl (λ_ _ F=>sJ F Z ax aH aJ az bO fk bz) λ_ _ _ _ _ _=>C2 λ_=>rfl
 have iS:=sf.uP (mg:=mg) ax.cl (λ_ _ F=>sM F Z ax aJ az aH a_ jQ) λ_ _ _ _ _ _=>ku λ_ _=>rfl
 have Ge:=F0.fE (P:=P) (w:=w) (base:=base) (λ_ _ F=>B1 F Z) λ_ _ _ _ _ _=>ku λ_ _=>rfl
 have CN:=CD.fE (P:=P) (w:=w) (base:=base) (λ_ _ F=>yI F Z) λ_ _ _ _ _ _=>ku λ_ _=>rfl
 have Ga:=FY.fE (P:=P) (w:=w) (base:=base) (λ_ _ F=>B0 F Z) λ_ _ _ _ _ _=>ku λ_ _=>rfl
 have JT:=Pg.fE (λ_ _ F=>K3 F Z CL) λ_ _ _ _ _ _=>ku λ_ _=>rfl
 have CK:=CB.fE (P:=P) (w:=w) (base:=base) (λ_ _ F=>yH F Z) λ_ _ _ _ _ _=>ku λ_ _=>rfl
 have F':=FX.fE (λ_ _ F=>BZ F Z JT CK) λ_ _ _ _ _ _=>ku λ_ _=>rfl
 have F8:=FT.fE (λ_ _ F=>BX F Z CL) λ_ _ _ _ _ _=>Kc λ_ _ _ _=>rfl
 have F7:=FR.fE (P:=P) (w:=w) (base:=base) (λ_ _ F=>BW F Z) λ_ _ _ _ _ _=>C2 λ_=>rfl
 have CP:=CG.fE (λ_ _ F=>yJ F Z JT) λ_ _ _ _ _ _=>Iu λ_ _ _=>rfl
 have JX:=JO.fE (P:=P) (w:=w) (base:=base) (λ_ _ F=>D7 F Z) λ_ _ _ _ _ _=>ku λ_ _=>rfl
 have ME:=MD.fE (λ_ _ F=>G4 F Z JX) λ_ _ _ _ _ _=>Iu λ_ _ _=>rfl
 have Be:=A9.fE (λ_ _ F=>w6 F Z p6 CL) λ_ _ _ _ _ _=>Kc λ_ _ _ _=>rfl
 have JZ:=JR.fE (λ_ _ F=>D8 F Z Er bY) λ_ _ _ _ _ _=>ku λ_ _=>rfl
 have F4:=FQ.fE (λ_ _ F=>BV F Z JT) λ_ _ _ _ _ _=>Iu λ_ _ _=>rfl
 have JW:=JN.fE (λ_ _ F=>D6 F Z jO iS jP iP iQ) λ_ _ _ _ _ _=>ku λ_ _=>rfl
 have JV:=JM.fE (λ_ _ F=>D5 F Z CN Ga F8) λ_ _ _ _ _ _=>RY λ_ _ _ _ _ _=>rfl
 have F9:=FU.fE (λ_ _ F=>BY F Z p6 JV JW CP F4) λ_ _ _ _ _ _=>Kc λ_ _ _ _=>rfl
 exact G3 F Z JU p6 F_ F9 x9 Be Ge F' ME JZ F7 bY iU
end Ov
namespace PySem.W.Fast
def tw11231887460503678294:=0
def tw2967268033142933465:=0
def tw4699715075254842324:=0
def tw4876903527291333243:=0
def tw1144825649184949120:=0
def tw4824999017375580104:=0
def tw13982963966459895124:=0
def tw16483069693770075965:=0
def tw14266903543934414731:=0
def tw11804297884318258026:=0
def tw9321069406508860182:=0
def tw1746951009749421045:=0
def tw17546167535545026426:=0
def tw13232208979092134607:=0
def tw10438689649185166565:=0
def tw3532123323884967713:=0
def tw17911112046669429134:=0
def tw3760796481954248565:=0
def tw14367268006162866141:=0
def tw5662437982965167067:=0
def tw4195241641209457783:=0
def tw15305043219749670091:=0
def tw15797555254186956448:=0
def tw13082575221359681492:=0
def tw13267525534544130495:=0
def tw13554247443053352324:=0
def tw11081077804621542190:=0
def tw12127890079551809691:=0
def tw11538206118378392551:=0
def tw4691072755597305567:=0
def tw5564639406461924041:=0
def tw17637180039570385237:=0
def tw509472953563309487:=0
def tw4169060401811631786:=0
def tw6581354218042945180:=0
def tw4493334964479631894:=0
def tw7591712488022291927:=0
def tw15969167789849247792:=0
def tw8130818510130177818:=0
def tw7597270025971688166:=0
def tw9463632425984608605:=0
def tw8935742937815572630:=0
def tw1550066209571616008:=0
def tw18401306594858720596:=0
def tw5776219682174498814:=0
def tw18403934546671196829:=0
def tw16684917411178140432:=0
def tw14540241360566298390:=0
def tw9381799928287156213:=0
def tw15890700616856612603:=0
def tw4847713820241501418:=0
def tw12576160355117744155:=0
def tw7100665434122037371:=0
def tw16205909158205835505:=0
def tw2759609468898022487:=0
def tw8590624848720437450:=0
def tw7073484280142179569:=0
def tw11879720953046441988:=0
def tw845681719978408983:=0
def tw17697000441505307891:=0
def tw5428233882407383108:=0
def tw5848334762110738238:=0
def tw13787018976598482733:=0
def tw4462586058417612917:=0
def tw12768458870842566828:=0
def tw5664818237075650348:=0
def tw17986861634779825037:=0
def tw2633200798357332293:=0
def tw10244016645109880241:=0
def tw5580109022091669152:=0
def tw8583059136331346766:=0
def tw2657921393170457929:=0
def tw16965370116622043823:=0
def tw12671859296097710291:=0
def tw14898997608547566319:=0
def tw8143999605456044450:=0
def tw3411637138224888544:=0
def tw6409005200638305120:=0
def tw7265559892674456306:=0
def tw297389316231318438:=0
def tw10192749308560570820:=0
def tw2741846469434577323:=0
def tw1642514283616458477:=0
def tw10134463480177174635:=0
def tw6659574195402887216:=0
def tw772845322944140863:=0
def tw3720063939917596945:=0
def tw16154432799092117543:=0
def tw9813395695067703322:=0
def tw12458499301973365154:=0
def tw7302014888287127009:=0
def tw12738556190649249886:=0
def tw6114627876149620295:=0
def tw5842706941439584004:=0
def tw3817482406811002686:=0
def tw16537342366902690170:=0
def tw17090982518804376013:=0
def tw12340277602303905673:=0
def tw774865654318815158:=0
def tw8166462939984337689:=0
def tw17898530053994002368:=0
def tw9457649649212535717:=0
def tw2719462418463256634:=0
def tw4947873859744617508:=0
def tw647296168986772710:=0
def tw9765296013797229682:=0
def tw121181685805351237:=0
def tw12486978513819491952:=0
def tw11240496514350108707:=0
def tw15481172645113071975:=0
def tw11002000430361357727:=0
def tw2716231313588273303:=0
def tw15331151705416342356:=0
def tw7128077405874376900:=0
def tw14783295905393874826:=0
def tw12061430071291900888:=0
def tw2113983203105226565:=0
def tw13111238160256826855:=0
def tw1046795509867462391:=0
def tw2077450599850412947:=0
def tw6125460065345976754:=0
def tw1890984508038479525:=0
def tw4536551601343387880:=0
def tw3761389659063397452:=0
def tw10080170816141620891:=0
def tw2118338745776025188:=0
def tw11394681772113613572:=0
def tw12891882539584242286:=0
def tw10458505062506234450:=0
def tw18006196507058627219:=0
def tw6524476951993179972:=0
def tw6658854587114572920:=0
def tw15164742268923509613:=0
def tw11741811946920339216:=0
def tw1624225219177521141:=0
def tw917095751944489397:=0
def tw1997432849904222450:=0
def tw5239284290471710283:=0
def tw10593670571172879295:=0
def tw12472693319590052789:=0
def tw9745786865474886340:=0
def tw16737455306846202228:=0
def tw13809739525886007566:=0
def tw16518139552781949614:=0
def tw13697367461126573366:=0
def tw7584991735928458396:=0
def tw535165936599112831:=0
def tw14150383629727346652:=0
def tw4708767297642325563:=0
def tw3944535898072641023:=0
def tw7907598146838258100:=0
def tw6999113656191745478:=0
def tw3588882909247977445:=0
def tw11665266801749186409:=0
def tw840270779888098981:=0
def tw13620040619534702143:=0
def tw10490533871702586717:=0
def tw7432856190782516958:=0
def tw3683609088518009270:=0
def tw17014944159751934414:=0
def tw1759675750892185833:=0
def tw10443278290316847258:=0
def tw9939057413810257514:=0
def tw10364125548535969508:=0
def tw16495418347290494491:=0
def tw8195512433806288061:=0
def tw17949721859377577188:=0
def tw14120253923528279876:=0
def tw17324494705880630118:=0
def tw9544931292969283049:=0
def tw5034003832309601157:=0
def tw15973506545930012587:=0
def tw6267201390713695667:=0
def tw16223353503417065817:=0
def tw10274626356816697503:=0
def tw6014587513202128611:=0
def tw9654991397478407357:=0
def tw7503102360318660246:=0
def tw46636659964084426:=0
def tw3608544608639400164:=0
def tw2707357650751829412:=0
def tw7461326027234290951:=0
def tw12865500853129876642:=0
def tw9346045740936115277:=0
def tw7770470334834513849:=0
def tw5340221938741743457:=0
def tw18019280921989192947:=0
def tw9543863413811451078:=0
def tw9942083627723555875:=0
def tw14042242901795037749:=0
def tw9653828736623371028:=0
def tw6055118626760974511:=0
def tw5273134281842602247:=0
def tw6261251683238525582:=0
def tw5942066377595744826:=0
def tw3366774629561741489:=0
def tw5205343457699886888:=0
def tw7528465949926544391:=0
def tw11101517126299938048:=0
def tw3986225956278298288:=0
def tw3995983103100315019:=0
def tw13608260878311429768:=0
def tw18037515384371119205:=0
def tw12694463049407004981:=0
def tw14407982793750727279:=0
def tw4767389865241337070:=0
def tw11243422671795447127:=0
def tw1898710985248776891:=0
def tw11351779494598056349:=0
def tw8959465878645534398:=0
def tw15093172849704226464:=0
def tw18016662385787638000:=0
def tw7914176920060060918:=0
def tw14951020238400855812:=0
def tw14421911260583621876:=0
def tw7125197503871048538:=0
def tw11044131531484488020:=0
def tw6834485168759915415:=0
def tw7419801691523062176:=0
def tw5030345244207404666:=0
def tw9889682710446282148:=0
def tw5672125823645276132:=0
def tw5480014974031278393:=0
def tw7254785158942906602:=0
def tw4286380015812915164:=0
def tw1425189862168207341:=0
def tw13830376137092465718:=0
def tw4595588827500354057:=0
def tw1676627428650002964:=0
def tw14178647635849379127:=0
def tw15391352074860290694:=0
def tw1056304101781373379:=0
def tw4544772252766281331:=0
def tw16640266135831561939:=0
def tw3804163241320524566:=0
def tw15719958466409072409:=0
def tw15243281102357652573:=0
def tw2572734140509071667:=0
def tw5460102374095973382:=0
def tw17706414751849971045:=0
def tw13790056720693128580:=0
def tw11924245210433719719:=0
def tw8734246449896919311:=0
def tw10984211062828225506:=0
def tw10409983072373764866:=0
def tw9692563654449426652:=0
def tw9092523822030602106:=0
def tw6996142794896743184:=0
def tw664680552797262721:=0
def tw4671134203613953312:=0
def tw1867047302128923696:=0
def tw16708650541117663682:=0
def tw12040476579431906946:=0
def tw11528859373547960620:=0
def tw18303203924870783384:=0
def tw13519058343920958039:=0
def tw4996101910879651743:=0
def tw15748029515446813869:=0
def tw9785947208277959762:=0
def tw1114285842159787953:=0
def tw10372562591329137139:=0
def tw6670894893465444895:=0
def tw5546985161207029469:=0
def tw12945404755264631895:=0
def tw11332518806757560482:=0
def tw1853349970205853889:=0
def tw16400595070741928050:=0
def tw16759377710548231391:=0
def tw5178339498865554052:=0
def tw17911324424997001707:=0
def tw13617417902847494541:=0
def tw6735986085791034638:=0
def tw12786706291215366987:=0
def tw13763935418597763605:=0
def tw12394119205452121983:=0
def tw15569340265677357989:=0
def tw6280823773331155732:=0
def tw17235054873521999166:=0
def tw7326911592248028965:=0
def tw8286050918482462310:=0
def tw4720269163974065610:=0
def tw8421530437478138482:=0
def tw3990862719580950405:=0
def tw17868345637178213814:=0
def tw10958052847401459354:=0
def tw6602924307653269113:=0
def tw5644904447764884558:=0
def tw14369112386222572583:=0
end PySem.W.Fast
open PySem PySem.W PyProof.Rows
set_option hygiene false
local macro_rules | `(tactic| simp_arith)=>`(tactic| (dsimp only [L2.CJ];refine' Ov.Kp KX G ?a ?l ?c ?k;(case a=>k_is);(case l=>k_is);(case c=>k_is);(case k=>k_is)))
set_option maxRecDepth 100000 in
set_option maxHeartbeats 0 in
theorem PySem.Challenge.cw_overhaul_k29_orders_that_were_holds : PySem.Challenge.rw_overhaul_k29_orders_that_were.Holds := by
 w_on;o_law;k_head;(case hw=>w_witness2)
 k_fill
 refine Ov.Fy (l:=PySem.Challenge.rw_overhaul_k29_orders_that_were) (n:=63) (k:=11) (x:="_law_script") (sp:=Ov.E_) ["good_name"] rfl (by decide) rfl ⟨rfl,by decide,by decide⟩ (λw h Y=>PySem.W.kIn_of Y) ?Nm ?F (λtabs K H a ns hl hT hS hA hK=>⟨a,ns,rfl,hS,hl,hT,hA,hK,λ_ e=>⟨rfl,e⟩⟩)
 case Nm=>decide +kernel
 case F =>
  intro w mg fa h KX G hmg
  obtain ⟨gM,gL⟩:∃T,Ov.x4 (L2.CJ KX) mg "good_name" Ov.gT T:=by
   dsimp only [L2.CJ]
   refine' ⟨_,Ov.Gj KX G ?ga ?gl ?gc ?gk ?gt ?gp ?gb ?ge ?go⟩
   (case ga=>k_is);(case gl=>k_is);(case gc=>k_is);(case gk=>k_is);(case gt=>k_is);(case gp=>rfl);(case gb=>kernel_rfl);(case ge=>decide);(case go=>kernel_rfl)
  have MB:Ov.Def (L2.CJ KX) mg "law" Ov.xu:=by simp_arith
  have Z:Ov.cb mg:=by
   refine' ⟨Ov.Cs.mk (PySem.W.mg_none_of KX G ?z0) (PySem.W.mg_none_of KX G ?z1) (PySem.W.mg_none_of KX G ?z2) (PySem.W.mg_none_of KX G ?z3) (PySem.W.mg_none_of KX G ?z4) (PySem.W.mg_none_of KX G ?z5) (PySem.W.mg_none_of KX G ?z6) (PySem.W.mg_none_of KX G ?z7) (PySem.W.mg_none_of KX G ?z8) (PySem.W.mg_none_of KX G ?z9),PySem.W.mg_none_of KX G ?w0,PySem.W.mg_none_of KX G ?w1,PySem.W.mg_none_of KX G ?w2,PySem.W.mg_none_of KX G ?w3,PySem.W.mg_none_of KX G ?w4⟩
   (case z0=>k_is);(case z1=>k_is);(case z2=>k_is);(case z3=>k_is);(case z4=>k_is);(case z5=>k_is);(case z6=>k_is);(case z7=>k_is);(case z8=>k_is);(case z9=>k_is);(case w0=>k_is);(case w1=>k_is);(case w2=>k_is);(case w3=>k_is);(case w4=>k_is)
  obtain ⟨W,c,Er⟩:∃W c,Ov.Ba (L2.CJ KX) mg W c:=by
   dsimp only [L2.CJ]
   refine' Ov.Gr KX G ?v ?w ?a0 ?a1 ?a2 ?a3 ?a4 ?a5 ?a6 ?a7 ?a8 ?a9 ?b
   (case v=>k_is);(case w=>k_is);(case a0=>k_is);(case a1=>k_is);(case a2=>k_is);(case a3=>k_is);(case a4=>k_is);(case a5=>k_is);(case a6=>k_is);(case a7=>k_is);(case a8=>k_is);(case a9=>k_is)
   (case b=>kernel_rfl)
  have N:Ov.nL (L2.CJ KX) mg:=by
   dsimp only [L2.CJ]
   refine' Ov.BQ KX G ?a ?l
   (case a=>k_is);(case l=>k_is)
  obtain ⟨jg,gf⟩:∃t,mg "FARTHEST"=some (.int 1000000 t):=by
   refine' Ov.const_int KX G ?cz ?cw
   (case cz=>k_is);(case cw=>kernel_rfl)
  obtain ⟨f7,eg⟩:∃t,mg "FASTEST"=some (.int 1000 t):=by
   refine' Ov.const_int KX G ?cz ?cw
   (case cz=>k_is);(case cw=>kernel_rfl)
  obtain ⟨nv,jJ⟩:∃t,mg "FINEST"=some (.int 60 t):=by
   refine' Ov.const_int KX G ?cz ?cw
   (case cz=>k_is);(case cw=>kernel_rfl)
  obtain ⟨nA,jK⟩:∃t,mg "LATEST"=some (.int 1000000 t):=by
   refine' Ov.const_int KX G ?cz ?cw
   (case cz=>k_is);(case cw=>kernel_rfl)
  obtain ⟨kO,ik⟩:∃t,mg "LONGEST"=some (.int 8 t):=by
   refine' Ov.const_int KX G ?cz ?cw
   (case cz=>k_is);(case cw=>kernel_rfl)
  obtain ⟨v8,qk⟩:∃t,mg "MOST"=some (.int 12 t):=by
   refine' Ov.const_int KX G ?cz ?cw
   (case cz=>k_is);(case cw=>kernel_rfl)
  obtain ⟨pY,mB⟩:∃t,mg "SIGNS"=some (.str "abcdefghijklmnopqrstuvwxyz0123456789" t):=by
   refine' Ov.Bk KX G ?cz ?cw
   (case cz=>k_is);(case cw=>kernel_rfl)
  obtain ⟨fd,F,hb⟩:=Ov.KJ MB hmg (λ_ _ _ _ _ _ _=>rfl)
  exact ⟨fd,[gM],hb,(λT hT=>by simp only [Sy,S2,or_false] at hT;rcases hT with rfl <;> first | exact ⟨_,by simp,_,gL⟩),λbase _ _ Bm=>Ov.BD (Ov.Kb Z Er N gf eg jJ jK ik qk mB (by dsimp only [L2.CJ];refine' ⟨_,Ov.uI KX G ?a ?pg ?hd ?po ?sa ?mk ?kc,?n0,?n1,Ov.bR ?m0a ?m0i ?m0l ?m0c ?m0k,Ov.bR ?m1a ?m1i ?m1l ?m1c ?m1k,Ov.bR ?m2a ?m2i ?m2l ?m2c ?m2k,Ov.bR ?m3a ?m3i ?m3l ?m3c ?m3k,Ov.bR ?m4a ?m4i ?m4l ?m4c ?m4k⟩;(case a=>k_is);(case pg=>k_is);(case hd=>k_is);(case po=>k_is);(case sa=>k_is);(case mk=>k_is);(case kc=>k_is);(case n0=>(show PySem.W.findIn _ _ _=_;k_is));(case n1=>(show PySem.W.findIn _ _ _=_;k_is));(case m0a=>k_is);(case m0i=>k_is);(case m0l=>k_is);(case m0c=>k_is);(case m0k=>k_is);(case m1a=>k_is);(case m1i=>k_is);(case m1l=>k_is);(case m1c=>k_is);(case m1k=>k_is);(case m2a=>k_is);(case m2i=>k_is);(case m2l=>k_is);(case m2c=>k_is);(case m2k=>k_is);(case m3a=>k_is);(case m3i=>k_is);(case m3l=>k_is);(case m3c=>k_is);(case m3k=>k_is);(case m4a=>k_is);(case m4i=>k_is);(case m4l=>k_is);(case m4c=>k_is);(case m4k=>k_is)) (by dsimp only [L2.CJ];refine' ⟨_,Ov.uI KX G ?a ?pg ?hd ?po ?sa ?mk ?kc,?n0,?n1,?n2,Ov.bR ?m0a ?m0i ?m0l ?m0c ?m0k,Ov.bR ?m1a ?m1i ?m1l ?m1c ?m1k,Ov.bR ?m2a ?m2i ?m2l ?m2c ?m2k,Ov.bR ?m3a ?m3i ?m3l ?m3c ?m3k,Ov.bR ?m4a ?m4i ?m4l ?m4c ?m4k,Ov.bR ?m5a ?m5i ?m5l ?m5c ?m5k,Ov.bR ?m6a ?m6i ?m6l ?m6c ?m6k,Ov.bR ?m7a ?m7i ?m7l ?m7c ?m7k,Ov.bR ?m8a ?m8i ?m8l ?m8c ?m8k,Ov.bR ?m9a ?m9i ?m9l ?m9c ?m9k,Ov.bR ?m10a ?m10i ?m10l ?m10c ?m10k,Ov.bR ?m11a ?m11i ?m11l ?m11c ?m11k,Ov.bR ?m12a ?m12i ?m12l ?m12c ?m12k⟩;(case a=>k_is);(case pg=>k_is);(case hd=>k_is);(case po=>k_is);(case sa=>k_is);(case mk=>k_is);(case kc=>k_is);(case n0=>(show PySem.W.findIn _ _ _=_;k_is));(case n1=>(show PySem.W.findIn _ _ _=_;k_is));(case n2=>(show PySem.W.findIn _ _ _=_;k_is));(case m0a=>k_is);(case m0i=>k_is);(case m0l=>k_is);(case m0c=>k_is);(case m0k=>k_is);(case m1a=>k_is);(case m1i=>k_is);(case m1l=>k_is);(case m1c=>k_is);(case m1k=>k_is);(case m2a=>k_is);(case m2i=>k_is);(case m2l=>k_is);(case m2c=>k_is);(case m2k=>k_is);(case m3a=>k_is);(case m3i=>k_is);(case m3l=>k_is);(case m3c=>k_is);(case m3k=>k_is);(case m4a=>k_is);(case m4i=>k_is);(case m4l=>k_is);(case m4c=>k_is);(case m4k=>k_is);(case m5a=>k_is);(case m5i=>k_is);(case m5l=>k_is);(case m5c=>k_is);(case m5k=>k_is);(case m6a=>k_is);(case m6i=>k_is);(case m6l=>k_is);(case m6c=>k_is);(case m6k=>k_is);(case m7a=>k_is);(case m7i=>k_is);(case m7l=>k_is);(case m7c=>k_is);(case m7k=>k_is);(case m8a=>k_is);(case m8i=>k_is);(case m8l=>k_is);(case m8c=>k_is);(case m8k=>k_is);(case m9a=>k_is);(case m9i=>k_is);(case m9l=>k_is);(case m9c=>k_is);(case m9k=>k_is);(case m10a=>k_is);(case m10i=>k_is);(case m10l=>k_is);(case m10c=>k_is);(case m10k=>k_is);(case m11a=>k_is);(case m11i=>k_is);(case m11l=>k_is);(case m11c=>k_is);(case m11k=>k_is);(case m12a=>k_is);(case m12i=>k_is);(case m12l=>k_is);(case m12c=>k_is);(case m12k=>k_is)) (by dsimp only [L2.CJ];refine' ⟨_,Ov.uI KX G ?a ?pg ?hd ?po ?sa ?mk ?kc,?n0,Ov.bR ?m0a ?m0i ?m0l ?m0c ?m0k,Ov.bR ?m1a ?m1i ?m1l ?m1c ?m1k,Ov.bR ?m2a ?m2i ?m2l ?m2c ?m2k,Ov.bR ?m3a ?m3i ?m3l ?m3c ?m3k⟩;(case a=>k_is);(case pg=>k_is);(case hd=>k_is);(case po=>k_is);(case sa=>k_is);(case mk=>k_is);(case kc=>k_is);(case n0=>(show PySem.W.findIn _ _ _=_;k_is));(case m0a=>k_is);(case m0i=>k_is);(case m0l=>k_is);(case m0c=>k_is);(case m0k=>k_is);(case m1a=>k_is);(case m1i=>k_is);(case m1l=>k_is);(case m1c=>k_is);(case m1k=>k_is);(case m2a=>k_is);(case m2i=>k_is);(case m2l=>k_is);(case m2c=>k_is);(case m2k=>k_is);(case m3a=>k_is);(case m3i=>k_is);(case m3l=>k_is);(case m3c=>k_is);(case m3k=>k_is)) (by simp_arith) (by simp_arith) (by simp_arith) (by simp_arith) (by simp_arith) (by simp_arith) (by simp_arith) (by simp_arith) (by simp_arith) gL (by simp_arith) (by simp_arith) (by simp_arith) (by simp_arith) (by simp_arith) (by simp_arith) (by simp_arith) (by simp_arith) (by simp_arith) (by simp_arith) (by simp_arith) (by simp_arith) (by simp_arith) (by simp_arith) (by simp_arith) (by simp_arith) (by simp_arith) (by simp_arith) (by simp_arith) (by simp_arith) (by simp_arith) (by simp_arith) (by simp_arith) (by simp_arith) (by simp_arith) (by simp_arith) F base Bm)⟩
