import PyProof.Rows.All
import Wide.All
import OpenK.AllK
import Wide.FinOn
import Lean
import PyProof.EqAt
import PyProof.EqKinds
import PyProof.TupleCall
import PyProof.NeKinds
import PyProof.CompFree
import PyProof.CompMap
import PyProof.ListRange
import PyProof.Rows.SortWalk
import PyProof.ExcArgsOwn
import PyProof.ExcAttrAll.ValueError
import KE.KTryMore
import PyProof.GenCompD
import PyProof.StrWalks
import PyProof.ConsumeS
import PyProof.StrOps2
import KE.KRevIter
import PyProof.ZipIter
import PyProof.DictWalks
import PyProof.DictCompW
import PyProof.DictRoads
import PyProof.MeetsDictList
import KE.KDictList
import PyProof.EnumFor
import PyProof.EnumMake
import PyProof.WalksEnum
import KE.KDictOf
import PySem.Challenge.RW_overhaul_k35_whole_one_going_or_many
noncomputable section
set_option compiler.extract_closed false
set_option Elab.async false
set_option linter.all false
set_option maxRecDepth 100000
open List renaming length_map→Sm,mem_map→Sn,getElem?_eq_getElem→So,getElem?_eq_some_iff→Sq,mem_of_getElem?→Su,size_toArray→Sv,map_append→Sw,map_cons→Sx,map_map→Sy,getElem?_map→SA,mem_append→SD,mem_filter→SE,mem_append_right→SF,mem_singleton→SG,mem_cons→SH,mem_iff_getElem?→SN,length_append→SQ,map_congr_left→SR,length_cons→SS,mem_cons_of_mem→SU,not_mem_nil→SV,length_take→SW,lookup_cons→S1,filter_cons→S2,take_length→S3,take_add_one→S4,getLast?_concat→S5,getElem_of_mem→S6,getElem?_cons_succ→S7,mem_cons_self→S8,replicate→S9,pairwise_iff_getElem→S_,dropLast_concat_getLast→Ta,append_nil→Tb,filter_map→Tc,getElem_mem→Td,drop_eq_getElem_cons→Tf,length_filter_le→Tg,getElem_map→Ti,nodup_append→Tj,getElem?_set_self→Tn,take_of_length_le→To,getElem?_append_right→Tq,map_nil→Ts,length→Tt,getElem?_append_left→Tu,getElem?_zip_eq_some→Tv,nodup_cons→Tx,filter_eq_self→TB,getElem_inj→TC,length_drop→TF,range→TJ,getElem?_eq_none→TK,cons_lt_cons_iff→TM,take_sublist→TN,exists_cons_of_ne_nil→TQ,mem_of_mem_take→TR,filterMap_cons→TV,replicate_succ→TX,length_set→TY,any_cons→TZ,getElem?_cons_zero→T1,filter_append→T2,length_nil→T3,pairwise_cons→T4,lookup→T5,flatten_cons→T6,eraseIdxIfInBounds_toArray→T7,append_assoc→T8,mem_range→T9,drop_zero→T_,dropLast_eq_take→T',take_append_drop→Ua,all_eq_true→Ub,getElem?_set_ne→Uc,pairwise_append→Ud,dropLast_concat→Ue,map_take→Ug,length_zip→Ui,mem_map_of_mem→Uj,filter_sublist→Uk,mem_filterMap→Um,getElem?_tail→Up,getElem?_drop→Uq,getElem?_eq_none_iff→Us,reverse_cons→Uu,length_range→Uv,foldl_append→Uw,eraseIdx_cons_succ→Uy,lookup_eq_some_iff→Uz,any_eq_true→UB,mem_flatMap→UC,drop_length→UD,filter_eq_nil_iff→UE,of_mem_zip→UH,filter_nil→UJ,head?_cons→UL,map_id'→UM,map→UN,mem_append_left→UO,length_dropLast→UP,dropLast_subset→UR,nodup_nil→US,getElem?_range→UT,all_cons→UU,zip_cons_cons→UW,map_drop→UX,nil_lt_cons→U4,forIn_cons→U9,getD→Vw
open Nat renaming le_refl→Ss,lt_of_lt_of_le→SK,le_trans→SM,ne_of_lt→SO,zero_le→SY,lt_of_le_of_lt→Th,lt_irrefl→Tr,le_add_right→TH,lt_succ_self→TU,not_lt_zero→Uh,le_of_lt→Ul,lt_or_eq_of_le→Uo,mul_div_cancel_left→UA,ne_of_gt→UG,lt_trichotomy→UZ,min_self→U1,min_eq_left→U_
open Bool renaming false_ne_true→SI,false_eq_true→SJ,and_eq_true→SX,eq_iff_iff→Tw,and_true→Tz,decide_and→TL,and_false→Ur,eq_false_iff→Ux,beq_eq_decide_eq→UK,and_eq_true_iff→UQ,not_eq_true'→UY
open Option renaming some→Te,isSome_iff_exists→Ut,map_some→UI,getD_none→U3
namespace L2
open PySem PySem.Spec PyProof.Rows
abbrev Key:=Sum Int Str
def IY:Key→Value→Bool
 | .inl k,v=>Value.isInt k v
 | .inr x,v=>Value.isStrOf x v
def P6 (w:World):Key→Int
 | .inl k=>hashInt k
 | .inr x=>hashStr w x
theorem cm:∀{k:Key} {v:Value},IY k v=true→(∃i t,k=Sum.inl i∧v=Value.int i t)∨(∃x t,k=Sum.inr x∧v=Value.str x t)
 | .inl i,v,h=>by
  obtain ⟨t,e⟩:=Value.isInt_shape (k:=i) (v:=v) h
  exact .inl ⟨i,t,rfl,e⟩
 | .inr x,v,h=>by
  obtain ⟨t,e⟩:=Value.isStrOf_shape (x:=x) (v:=v) h
  exact .inr ⟨x,t,rfl,e⟩
theorem KI (a b:Int):decide ((Sum.inl a:Key)=Sum.inl b)=(a == b):=by
 by_cases e:a=b
 ·subst e;simp
 ·have h:¬ (Sum.inl a:Key)=Sum.inl b:=λq=>e (Sum.inl.inj q)
  rw [decide_eq_false h]
  exact (beq_eq_false_iff_ne.mpr e).symm
theorem KN (a b:Str):decide ((Sum.inr a:Key)=Sum.inr b)=decide (a=b):=by
 by_cases e:a=b
 ·subst e;simp
 ·have h:¬ (Sum.inr a:Key)=Sum.inr b:=λq=>e (Sum.inr.inj q)
  rw [decide_eq_false h,decide_eq_false e]
theorem KJ (a:Int) (b:Str):decide ((Sum.inl a:Key)=Sum.inr b)=false:=decide_eq_false (λq=>nomatch q)
theorem KL (a:Str) (b:Int):decide ((Sum.inr a:Key)=Sum.inl b)=false:=decide_eq_false (λq=>nomatch q)
def Hc (prog:Program) (w:World):PySem.KeyKind prog w Key where
 is:=IY
 hash:=P6 w
 inj:=λv a b ha hb=>by
  rcases cm ha with ⟨i,t,rfl,rfl⟩ | ⟨x,t,rfl,rfl⟩
  ·rcases cm hb with ⟨j,u,rfl,e⟩ | ⟨y,u,rfl,e⟩
   ·injection e with e1 _;rw [e1]
   ·exact nomatch e
  ·rcases cm hb with ⟨j,u,rfl,e⟩ | ⟨y,u,rfl,e⟩
   ·exact nomatch e
   ·injection e with e1 _;rw [e1]
 byValue:=λk v h=>by
  rcases cm h with ⟨i,t,rfl,rfl⟩ | ⟨x,t,rfl,rfl⟩ <;> rfl
 pyHash:=λhv h=>by
  rcases cm hv with ⟨i,t,rfl,rfl⟩ | ⟨x,t,rfl,rfl⟩
  ·exact wpAny_pyHash_int h
  ·exact wpAny_pyHash_str h
 eqBool:=λhu hv h=>by
  rcases cm hu with ⟨i,t,rfl,rfl⟩ | ⟨x,t,rfl,rfl⟩
  ·rcases cm hv with ⟨j,u,rfl,rfl⟩ | ⟨y,u,rfl,rfl⟩
   ·rw [KI] at h;exact wpAny_eqBool_int h
   ·rw [KJ] at h;exact SeqAt.EqAt.int_str i t y u _ _ _ _ h
  ·rcases cm hv with ⟨j,u,rfl,rfl⟩ | ⟨y,u,rfl,rfl⟩
   ·rw [KL] at h;exact SeqAt.EqAt.str_int x t j u _ _ _ _ h
   ·rw [KN] at h;exact wpAny_eqBool_str h
 «strs»:=λk x t v h=>by
  rcases cm h with ⟨i,u,rfl,e⟩ | ⟨y,u,rfl,e⟩
  ·exact nomatch e
  ·injection e with e1 _
   subst e1
   cases v <;> rfl
end L2
namespace L2
open PySem PySem.Spec PyProof.Rows
inductive V where
 | non | bl (b:Bool) | int (i:Int) | str (x:Str) | byt (b:Array UInt8) | flt (b:UInt64) | ref (a:Addr) | ty (n:String)
 deriving DecidableEq
def RelV:V→Value→Prop
 | .non,u=>u=Value.none
 | .bl b,u=>u=Value.bool b
 | .int i,u=>∃t,u=Value.int i t
 | .str x,u=>∃t,u=Value.str x t
 | .byt b,u=>∃t,u=Value.bytes b t
 | .flt b,u=>∃t,u=Value.float b t
 | .ref a,u=>u=Value.ref a
 | .ty n,u=>u=Value.type n
abbrev Vals:List V→List Value→Prop:=Paired RelV
theorem Vals.length {xs:List V} {us:List Value} (r:Vals xs us):xs.length=us.length:=Paired.length r
theorem Vals.get:∀{xs:List V} {us:List Value} {i:Nat} {x:V},Vals xs us→xs[i]?=some x→∃u,us[i]?=some u∧RelV x u
 | _,_,_,_,.nil,e=>by simp at e
 | _,_,0,_,.cons r _,e=>by simp at e;subst e;exact ⟨_,rfl,r⟩
 | _,_,i + 1,x,.cons _ t,e=>by
  obtain ⟨u,h1,h2⟩:=Vals.get (i:=i) (x:=x) t (by simpa using e)
  exact ⟨u,by simpa using h1,h2⟩
theorem Vals.set {x:V} {u:Value} (r:RelV x u):∀{xs:List V} {us:List Value} (i:Nat),Vals xs us→Vals (xs.set i x) (us.set i u)
 | _,_,_,.nil=>.nil
 | _,_,0,.cons _ t=>.cons r t
 | _,_,i + 1,.cons q t=>.cons q (Vals.set r i t)
theorem Vals.append:∀{xs ys:List V} {us ws:List Value},Vals xs us→Vals ys ws→Vals (xs ++ ys) (us ++ ws)
 | _,_,_,_,.nil,s=>s
 | _,_,_,_,.cons r t,s=>.cons r (Vals.append t s)
theorem Vals.take:∀{xs:List V} {us:List Value} (n:Nat),Vals xs us→Vals (xs.take n) (us.take n)
 | _,_,0,_=>.nil
 | _,_,_ + 1,.nil=>.nil
 | _,_,n + 1,.cons r t=>.cons r (Vals.take n t)
theorem Vals.drop:∀{xs:List V} {us:List Value} (n:Nat),Vals xs us→Vals (xs.drop n) (us.drop n)
 | _,_,0,r=>r
 | _,_,_ + 1,.nil=>.nil
 | _,_,n + 1,.cons _ t=>Vals.drop n t
def sG:Option V→Option Value→Prop
 | some v,some u=>RelV v u
 | none,none=>True
 | _,_=>False
def KV {κ:Type}:List (κ × V)→List (κ × Value)→Prop:=Paired λ(p:κ × V) (q:κ × Value)=>p.1=q.1∧RelV p.2 q.2
def kV:Key→V
 | .inl i=>.int i
 | .inr x=>.str x
inductive HO where
 | lst (xs:List V)
 | tup (xs:List V)
 | dK (kvs:List (Key × V)) | dE (kvs:List (Str × V)) (ep:Nat)
 | set (S:Int→Bool) (n:Nat)
 | ins (C dx:Addr) (fs:List (Str × V))
 | own (x:Addr)
 | xd (fs:List (Str × V))
 | met (f x:Addr)
 | MH (lo hi:Int)
 | qp (o:Obj) (u:HO)
 | tbl (ps:Array Value)
 | ext (φ:Heap→Prop)
abbrev Hp:=Addr→Option HO
def upd (H:Hp) (a:Addr) (o:HO):Hp:=λb=>if b=a then some o else H b
theorem aE {H:Hp} {a:Addr} {o:HO}:upd H a o a=some o:=by unfold upd;rw [if_pos rfl]
theorem aL {H:Hp} {a b:Addr} {o:HO} (h:b≠a):upd H a o b=H b:=by unfold upd;rw [if_neg h]
theorem bV {H:Hp} {a b:Addr} {o:HO} (h:H a=some o) (h':H b=none):a≠b:=by
 intro e;subst e;rw [h] at h';cases h'
section
variable (P:Program) (w:World)
def cX (H:Hp) (h:Heap) (a:Addr):HO→Prop
 | .lst xs=>xs.length≤sizeLine∧∃(its:List Value) (n:Nat),Vals xs its∧h.get? a=some { cls:=.type "list",data:=.seq its.toArray n }
 | .tup xs=>xs.length≤sizeLine∧∃its:List Value,Vals xs its∧IsTup h a its.toArray
 | .dK kvs=>kvs.length≤sizeLine∧(a == sysModules)=false∧∃vs,KV kvs vs∧h.DictOf (Hc P w) a vs
 | .dE kvs ep=>kvs.length≤sizeLine∧(a == sysModules)=false∧∃vs,KV kvs vs∧h.DictAt (strKind P w) a vs ep
 | .set S n=>h.SetOf (intKind P w) a S n
 | .ins C dx fs=>H dx=some (.own a)∧fs.length≤1000∧dx≠a∧h.get? a=some (PySem.W.instObj C dx) ∧
   ∃mA,h.Ns1 dx mA∧(∀f,sG (fs.lookup f) (mA f))∧PySem.Within mA (fs.map (·.1))
 | .own _=>∃o,h.get? a=some o
 | .xd fs=>∃mA,h.Ns1 a mA∧∀f,sG (fs.lookup f) (mA f)
 | .MH lo hi=>∃t u v,h.get? a=some { cls:=.type "range",data:=.fields #[.int lo t,.int hi u,.int 1 v] }
 | .qp o u=>h.get? a=some o∧cX H h a u
 | .tbl ps=>h.get? a=some { cls:=.none,data:=.fields ps }
 | .met f x=>h.get? a=some (PySem.W.methodObj (.ref f) (.ref x))
 | .ext φ=>φ h∧(∃o,h.get? a=some o)∧∀h1 h2:Heap,φ h1→(∀o,h1.get? a=some o→h2.get? a=some o)→φ h2
def l9 (H:Hp) (h:Heap):Prop:=∀a o,H a=some o→cX P w H h a o
end
section
variable {P:Program} {w:World} {H H':Hp} {h h':Heap} {a:Addr} {o:HO}
theorem cX.lt (x:cX P w H h a o):a < h.objs.size:=by
 cases o with
 | lst xs=>obtain ⟨_,_,_,_,e⟩:=x;exact Heap.lt_size e
 | tup xs=>obtain ⟨_,_,_,p⟩:=x;exact p.lt
 | dK kvs=>obtain ⟨_,_,_,_,o,_,_,e,_⟩:=x;exact Heap.lt_size e
 | dE kvs ep=>obtain ⟨_,_,_,_,o,_,e,_⟩:=x;exact Heap.lt_size e
 | set S n=>obtain ⟨o,_,_,_,e,_⟩:=x;exact Heap.lt_size e
 | ins C dx fs=>obtain ⟨_,_,_,e,_⟩:=x;exact Heap.lt_size e
 | own y=>obtain ⟨_,e⟩:=x;exact Heap.lt_size e
 | xd fs=>obtain ⟨_,⟨_,_,_,e,_⟩,_⟩:=x;exact Heap.lt_size e
 | MH lo hi=>obtain ⟨_,_,_,e⟩:=x;exact Heap.lt_size e
 | qp ob u=>obtain ⟨e,_⟩:=x;exact Heap.lt_size e
 | tbl ps=>exact Heap.lt_size (show h.get? a=some _ from x)
 | met f y=>exact Heap.lt_size (show h.get? a=some _ from x)
 | ext φ=>obtain ⟨_,⟨_,e⟩,_⟩:=x;exact Heap.lt_size e
theorem cX.rM (x:cX P w H h a o) (k:∀b u,(b=a∨H b=some (.own a))→h.get? b=some u→h'.get? b=some u)
  (ho:∀b,H b=some (.own a)→H' b=some (.own a)) (ht:∀b xs,H b=some (.tup xs)→H' b=some (.tup xs)):cX P w H' h' a o:=by
 induction o with
 | lst xs=>obtain ⟨z,its,n,r,e⟩:=x;exact ⟨z,its,n,r,k _ _ (.inl rfl) e⟩
 | tup xs=>obtain ⟨z,its,r,ob,e,c⟩:=x;exact ⟨z,its,r,ob,k _ _ (.inl rfl) e,c⟩
 | dK kvs=>obtain ⟨z,y,vs,r,ob,es,ep,e,c⟩:=x;exact ⟨z,y,vs,r,ob,es,ep,k _ _ (.inl rfl) e,c⟩
 | dE kvs ep=>obtain ⟨z,y,vs,r,ob,es,e,c⟩:=x;exact ⟨z,y,vs,r,ob,es,k _ _ (.inl rfl) e,c⟩
 | set S n=>obtain ⟨ob,es,ep,t,e,c⟩:=x;exact ⟨ob,es,ep,t,k _ _ (.inl rfl) e,c⟩
 | ins C dx fs =>
  obtain ⟨d,z,ne,e,mA,⟨od,es,ep,e2,c⟩,r⟩:=x
  exact ⟨ho _ d,z,ne,k _ _ (.inl rfl) e,mA,⟨od,es,ep,k _ _ (.inr d) e2,c⟩,r⟩
 | own y=>obtain ⟨ob,e⟩:=x;exact ⟨ob,k _ _ (.inl rfl) e⟩
 | xd fs=>obtain ⟨mA,⟨od,es,ep,e,c⟩,r⟩:=x;exact ⟨mA,⟨od,es,ep,k _ _ (.inl rfl) e,c⟩,r⟩
 | MH lo hi=>obtain ⟨t,u,v,e⟩:=x;exact ⟨t,u,v,k _ _ (.inl rfl) e⟩
 | qp ob u ih=>obtain ⟨e,q⟩:=x;exact ⟨k _ _ (.inl rfl) e,ih q⟩
 | tbl ps =>
  have e:h.get? a=some { cls:=.none,data:=.fields ps }:=x
  show h'.get? a=some { cls:=.none,data:=.fields ps }
  exact k a _ (.inl rfl) e
 | met f y =>
  have e:h.get? a=some (PySem.W.methodObj (.ref f) (.ref y)):=x
  show h'.get? a=some (PySem.W.methodObj (.ref f) (.ref y))
  exact k a _ (.inl rfl) e
 | ext φ=>obtain ⟨p,⟨o,e⟩,st⟩:=x;exact ⟨st _ _ p λo q=>k _ _ (.inl rfl) q,⟨o,k _ _ (.inl rfl) e⟩,st⟩
theorem l9.lt (x:l9 P w H h) (e:H a=some o):a < h.objs.size:=(x a o e).lt
theorem l9.fresh (x:l9 P w H h) (e:h.objs.size≤a):H a=none:=by
 cases q:H a with
 | none=>rfl
 | some u=>exact absurd (SK (x.lt q) e) (Tr _)
theorem l9.kept (x:l9 P w H h) (k:∀b u,h.get? b=some u→h'.get? b=some u):l9 P w H h':=λa o e =>
 (x a o e).rM (λb u _ q=>k b u q) (λ_ q=>q) λ_ _ q=>q
theorem l9.laid (x:l9 P w H h) (k:∀b u,h.get? b=some u→h'.get? b=some u) (hp:h.objs.size≤a) (new:cX P w (upd H a o) h' a o):l9 P w (upd H a o) h':=λb u e=>by
 have hn:=x.fresh hp
 by_cases hb:b=a
 ·subst hb;rw [aE] at e;cases e;exact new
 ·rw [aL hb] at e
  exact (x b u e).rM (λc v _ q=>k c v q) (λc q=>by rw [aL (bV q hn)];exact q) λc xs q=>by rw [aL (bV q hn)];exact q
end
def Rd (H:Hp) (a:Addr) (u:HO):Prop:=H a=some u∨∃o,H a=some (.qp o u)
theorem Rd.ok {P:Program} {w:World} {H:Hp} {h:Heap} {a:Addr} {u:HO} (r:Rd H a u) (x:l9 P w H h):cX P w H h a u:=by
 rcases r with r | ⟨o,r⟩
 ·exact x a u r
 ·obtain ⟨_,q⟩:=x a _ r
  exact q
def O0:Option HO→Prop
 | some (.lst _)=>True
 | some (.dK _)=>True
 | some (.dE _ _)=>True
 | some (.set _ _)=>True
 | some (.ins _ _ _)=>True
 | some (.ext _)=>True
 | _=>False
section
variable {P:Program} {w:World} {H:Hp} {h h':Heap} {x e:Addr} {o':HO}
theorem l9.write (ok:l9 P w H h) (mu:O0 (H x)) (he:e=x∨H e=some (.own x)) (k:∀b u,b≠e→h.get? b=some u→h'.get? b=some u) (heo:∃u,h'.get? e=some u)
  (new:cX P w (upd H x o') h' x o'):l9 P w (upd H x o') h':=λb u q=>by
 have nown:∀c y,H c=some (.own y)→c≠x:=λc y r z=>by subst z;rw [r] at mu;exact mu
 have ntup:∀c xs,H c=some (.tup xs)→c≠x:=λc xs r z=>by subst z;rw [r] at mu;exact mu
 by_cases hb:b=x
 ·subst hb;rw [aE] at q;cases q;exact new
 ·rw [aL hb] at q
  by_cases hbe:b=e
  ·have q':H b=some (.own x):=by
    rcases he with z | z
    ·exact absurd (hbe.trans z) hb
    ·rw [hbe];exact z
   rw [q] at q';cases q'
   obtain ⟨v,hv⟩:=heo
   exact ⟨v,by rw [hbe];exact hv⟩
  ·refine (ok b u q).rM (λc v hc r=>k c v ?_ r) (λc r=>by rw [aL (nown c b r)];exact r) λc xs r=>by rw [aL (ntup c xs r)];exact r
   rcases hc with rfl | hc
   ·exact hbe
   ·rintro rfl
    rcases he with z | z
    ·exact nown c b hc z
    ·rw [hc] at z;cases z;exact hb rfl
end
structure Un (fs ex:List Addr) (H H':Hp) (h h':Heap):Prop where
 keep:∀b o,h.get? b=some o→H b=none→b ∉ fs→b ∉ ex→h'.get? b=some o
 slot:∀b o,h.get? b=some o→H b=none→b∈fs→b ∉ ex→∃sl,h'.get? b=some { o with slots:=sl }
 free:∀b o,h.get? b=some o→H b=none→b ∉ ex→H' b=none
 there:∀b o,h.get? b=some o→b ∉ ex→∃o',h'.get? b=some o'
 tups:∀b xs,H b=some (.tup xs)→H' b=some (.tup xs)
 frzs:∀b o u,H b=some (.qp o u)→H' b=some (.qp o u)
 tbls:∀b ps,H b=some (.tbl ps)→∃more,H' b=some (.tbl (ps ++ more))
section
variable {fs fs' ex ex':List Addr} {H H1 H2:Hp} {h h1 h2 h':Heap} {a x e:Addr} {o:HO}
theorem Un.any (u:Un fs ex H H1 h h1) {b:Addr} {ob:Obj} (q:h.get? b=some ob) (n:H b=none) (hx:b ∉ ex):∃sl,h1.get? b=some { ob with slots:=sl }:=by
 by_cases hb:b∈fs
 ·exact u.slot b ob q n hb hx
 ·exact ⟨ob.slots,u.keep b ob q n hb hx⟩
theorem Un.kept (k:∀b u,h.get? b=some u→h'.get? b=some u):Un fs ex H H h h' :=
 ⟨λb ob q _ _ _=>k b ob q,λb ob q _ _ _=>⟨ob.slots,k b ob q⟩,λ_ _ _ n _=>n,λb ob q _=>⟨ob,k b ob q⟩,λ_ _ q=>q,λ_ _ _ q=>q,λ_ ps q=>⟨#[],by rw [q];simp⟩⟩
theorem Un.refl:Un fs ex H H h h:=Un.kept λ_ _ q=>q
theorem Un.laid (k:∀b u,h.get? b=some u→h'.get? b=some u) (hp:h.objs.size≤a) (hn:H a=none):Un fs ex H (upd H a o) h h' where
 keep:=λb u q _ _ _=>k b u q
 slot:=λb u q _ _ _=>⟨u.slots,k b u q⟩
 free:=λb u q n _=>by rw [aL (SO (SK (Heap.lt_size q) hp))];exact n
 there:=λb u q _=>⟨u,k b u q⟩
 tups:=λb xs q=>by rw [aL (bV q hn)];exact q
 frzs:=λb u xs q=>by rw [aL (bV q hn)];exact q
 tbls:=λb ps q=>⟨#[],by rw [aL (bV q hn),q];simp⟩
theorem Un.write (mu:O0 (H x)) (he:e=x∨H e=some (.own x)) (k:∀b u,b≠e→h.get? b=some u→h'.get? b=some u) (heo:∃u,h'.get? e=some u):Un fs ex H (upd H x o) h h':=by
 have hx:∀b,H b=none→b≠x:=λb n z=>by subst z;rw [n] at mu;exact mu
 have hb:∀b,H b=none→b≠e:=λb n z=>by
  subst z
  rcases he with r | r
  ·exact hx b n r
  ·rw [n] at r;cases r
 have hm:∀b u,H b=some u→¬ O0 (some u)→b≠x:=λb u q nm z=>by subst z;rw [q] at mu;exact nm mu
 refine ⟨λb u q n _ _=>k b u (hb b n) q,λb u q n _ _=>⟨u.slots,k b u (hb b n) q⟩,λb u q n _=>by rw [aL (hx b n)];exact n,λb u q _=>?_,
  λb xs q=>by rw [aL (hm b _ q λz=>z)];exact q,λb u xs q=>by rw [aL (hm b _ q λz=>z)];exact q,λb ps q=>⟨#[],by rw [aL (hm b _ q λz=>z),q];simp⟩⟩
 by_cases hbe:b=e
 ·subst hbe;exact heo
 ·exact ⟨u,k b u hbe q⟩
end
def Ph (h:Heap) (H:Hp):List Addr:=(TJ h.objs.size).filter λa=>(H a).isSome
def sM (h:Heap) (H:Hp):Heap:=PySem.W.hideAll h (Ph h H)
theorem Cw (h:Heap) (H:Hp):(sM h H).objs.size=h.objs.size:=PySem.W.hideAll_size _ _
theorem Ef {h:Heap} {H:Hp} {b:Addr} {o:Obj} (e:h.get? b=some o) (n:H b=none):(sM h H).get? b=some o :=
 PySem.W.hideAll_get _ e λhm=>by
  have q:(H b).isSome=true:=(SE.mp hm).2
  rw [n] at q;simp at q
theorem Hm {h:Heap} {H:Hp} {b:Addr} {o:Obj} (e:(sM h H).get? b=some o):h.get? b=some o∧H b=none:=by
 have e':h.get? b=some o:=PySem.W.of_hideAll (Ph h H) e
 refine ⟨e',?_⟩
 cases q:H b with
 | none=>rfl
 | some x =>
  have hm:b∈Ph h H:=SE.mpr ⟨T9.mpr (Heap.lt_size e'),by simp [q]⟩
  have z:(sM h H).get? b=none:=PySem.W.hideAll_none (Ph h H) hm
  rw [z] at e;cases e
def GG (g h:Heap) (L:Addr):List (Addr × Obj):=(TJ h.objs.size).filterMap λa=>if a=L∨(g.get? a).isSome=true then none else (h.get? a).map λo=>(a,o)
def rest (g h:Heap) (L d:Addr):List (Addr × Obj):=(GG g h L).filter λp=>decide (p.1≠d)
end L2
namespace L2
open PySem PySem.Spec PyProof.Rows
structure Mod (K:PySem.W.Frag) (mg:Str→Option Value) (base:Heap):Prop where
 kin:K.In base
 glob:base.Ns mainGlobals mg
 blt:∃mb,base.Ns builtinsNs mb∧∀x:Str,x≠"__name__"→mb x=bootBuiltins x
 nolimit:base.NoLimit
structure Cx where
 prog:Program
 w:World
 K:PySem.W.Frag
 mg:Str→Option Value
 base:Heap
 A:Around
 N:List Str
 s₀:Shared
 H₀:Hp
 env:Env
 outer:List Env
 stack:List Env
 ex:List Addr
 fn:Str→Bool
 calm:Bool
 pn:List (Addr × Obj)
 xe:Value→Shared→Prop
def jk (l:List Env):List Addr:=l.filterMap (·.frame)
abbrev Cx.fs (X:Cx):List Addr:=jk X.outer
def wN (sc:Scope) (x:Str):Prop:=sc.names.lookup x=some .local∨sc.names.lookup x=some .cell∨sc.names.lookup x=some .free
def Loc (sc:Scope) (x:Str):Prop:=sc.names.lookup x=some .local∨sc.names.lookup x=some .cell
def Look (env:Env) (h:Heap) (m:Str→Option Value) (x:Str) (u:Value):Prop :=
 (env.kindOf x=some .local∧m x=some u)∨((env.kindOf x=some .cell∨env.kindOf x=some .free)∧∃c,env.cells.lookup x=some c∧h.IsCell c (some u))
structure Cx.Ok (X:Cx):Prop where
 mod:Mod X.K X.mg X.base
 kind:X.env.scope.kind=.function
 glob:X.env.globals=mainGlobals
 blt:X.env.builtins=builtinsNs
 above:X.s₀.heap.objs.size≤X.env.locals
 inj:∀x y c,X.env.cells.lookup x=some c→X.env.cells.lookup y=some c→x=y
 has:∀x,(X.env.kindOf x=some .cell∨X.env.kindOf x=some .free)→∃c,X.env.cells.lookup x=some c
 cab:∀x c,X.fn x=true→X.env.cells.lookup x=some c→X.s₀.heap.objs.size≤c
 hd:X.calm=true→X.A.handled=none
 frames:X.A.frames=some X.stack
 stk:X.stack=X.outer∨(X.stack=X.env :: X.outer∧X.env.frame=some X.env.locals)
 exf:∀b∈X.ex,b≠X.env.locals∧∀x c,X.env.cells.lookup x=some c→c≠b
 bs:∀b o,X.base.get? b=some o→X.s₀.heap.get? b=some o∧X.H₀ b=none
 bsz:X.base.objs.size≤X.s₀.heap.objs.size
 noex:∀b o,X.base.get? b=some o→b ∉ X.ex
 exfs:∀b∈X.ex,b ∉ X.fs
 nQ:X.s₀.heap.FunFrames X.base X.outer
 frf:∀b∈X.fs,X.H₀ b=none
structure Inv (X:Cx) (pins:List (Addr × Obj)) (σ:List (Option V)) (H:Hp) (s:Shared):Prop where
 ok:X.Ok
 os:s.os=X.s₀.os
 bare:AllBare s.gens
 base:Un X.fs X.ex X.H₀ H X.s₀.heap s.heap
 loc:∃m,s.heap.Ns X.env.locals m∧∀(i:Nat) (x:Str) (v:V),X.N[i]?=some x→σ[i]?=some (some v)→wN X.env.scope x→∃u,RelV v u∧Look X.env s.heap m x u
 cell:∀x c,X.env.cells.lookup x=some c→∃v,s.heap.IsCell c v
 free:H X.env.locals=none
 freeC:∀x c,X.env.cells.lookup x=some c→H c=none
 pin:∀p∈X.pn ++ pins,s.heap.get? p.1=some p.2∧H p.1=none∧p.1≠X.env.locals∧p.1 ∉ X.fs∧∀v,p.2.data≠.cell v
 hok:l9 X.prog X.w H s.heap
 len:σ.length=X.N.length
section
variable {X:Cx} {pins:List (Addr × Obj)} {σ:List (Option V)} {H H':Hp} {s:Shared} {h':Heap}
theorem Cx.Ok.Qi (ok:X.Ok) {b:Addr} {o:Obj} (e:X.base.get? b=some o):b ∉ X.fs:=λhb=>by
 have:=(ok.nQ.mem hb).1
 rw [e] at this;cases this
theorem Inv.bs (I:Inv X pins σ H s):∀b o,X.base.get? b=some o→s.heap.get? b=some o∧H b=none:=λb o e =>
 ⟨I.base.keep b o (I.ok.bs b o e).1 (I.ok.bs b o e).2 (I.ok.Qi e) (I.ok.noex b o e),I.base.free b o (I.ok.bs b o e).1 (I.ok.bs b o e).2 (I.ok.noex b o e)⟩
theorem Inv.bk (I:Inv X pins σ H s):∀b o,X.base.get? b=some o→s.heap.get? b=some o:=λb o e=>(I.bs b o e).1
theorem Inv.mod (I:Inv X pins σ H s):Mod X.K X.mg X.base:=I.ok.mod
theorem Inv.mE (I:Inv X pins σ H s):X.K.In s.heap:=I.ok.mod.kin.keeps I.bk
theorem Inv.nolimit (I:Inv X pins σ H s):s.heap.NoLimit:=I.ok.mod.nolimit.keeps I.bk
theorem Inv.fr (I:Inv X pins σ H s):∃m,Fr X.base X.env.locals s.heap m :=
 let ⟨m,hn,_⟩:=I.loc
 ⟨m,hn,I.bk,SM I.ok.bsz I.ok.above⟩
theorem Inv.lt (I:Inv X pins σ H s):X.env.locals < s.heap.objs.size:=let ⟨_,hn,_⟩:=I.loc;hn.lt
theorem Inv.sz (I:Inv X pins σ H s):X.s₀.heap.objs.size≤s.heap.objs.size:=SM I.ok.above (Ul I.lt)
theorem Inv.Qj (I:Inv X pins σ H s) {a:Addr} (h:s.heap.objs.size≤a):a ∉ X.fs:=λhb=>by
 obtain ⟨_,o,ho,_⟩:=I.ok.nQ.mem hb
 exact absurd (SK (Heap.lt_size ho) (SM I.sz h)) (Tr _)
theorem Inv.Ko (I:Inv X pins σ H s):∀x c,X.env.cells.lookup x=some c→c≠X.env.locals:=λx c e z=>by
 obtain ⟨v,o,ho,hd⟩:=I.cell x c e
 obtain ⟨m,⟨o',es,ep,ho',hd',_⟩,_⟩:=I.loc
 rw [z,ho'] at ho;cases ho;rw [hd'] at hd;cases hd
theorem Inv.nQ (I:Inv X pins σ H s):s.heap.FunFrames X.base X.outer:=by
 have all:∀(l:List Env),(∀b∈jk l,b∈X.fs)→X.s₀.heap.FunFrames X.base l→s.heap.FunFrames X.base l:=by
  intro l
  induction l with
  | nil=>intro _ _;trivial
  | cons env r ih =>
   intro hs hl
   obtain ⟨hk,⟨L,o,hf,hn,ho,hd⟩,hr⟩:=hl
   have hL:L∈X.fs:=hs L (by unfold jk;rw [TV,hf];exact S8)
   obtain ⟨sl,e⟩:=I.base.slot L o ho (I.ok.frf L hL) hL λz=>I.ok.exfs L z hL
   exact ⟨hk,⟨L,_,hf,hn,e,hd⟩,ih (λb hb=>hs b (by unfold jk;rw [TV,hf];exact SU _ hb)) hr⟩
 exact all X.outer (λ_ hb=>hb) I.ok.nQ
theorem Inv.stack (I:Inv X pins σ H s):s.heap.FunFrames X.base X.stack:=by
 rcases I.ok.stk with e | ⟨e,hf⟩
 ·rw [e];exact I.nQ
 ·rw [e]
  obtain ⟨m,hn,_⟩:=I.loc
  refine .cons (by rw [I.ok.kind];decide) hf hn ?_ I.nQ
  exact Heap.get?_none_of_le (SM I.ok.bsz I.ok.above)
theorem Inv.oG (I:Inv X pins σ H s):∀b∈jk X.stack,b∈X.env.locals :: X.fs:=λb hb=>by
 rcases I.ok.stk with e | ⟨e,hf⟩
 ·rw [e] at hb;exact SU _ hb
 ·rw [e] at hb
  unfold jk at hb
  rw [TV,hf] at hb
  exact hb
theorem Inv.wG (I:Inv X pins σ H s):∀b∈jk X.stack,H b=none:=λb hb=>by
 rcases SH.mp (I.oG b hb) with e | hb
 ·rw [e];exact I.free
 ·obtain ⟨_,o,ho,_⟩:=I.ok.nQ.mem hb
  exact I.base.free b o ho (I.ok.frf b hb) λz=>I.ok.exfs b z hb
theorem Inv.step {g':Array GenState} {t':Nat} {d':Drawn} {ch:List Addr} (I:Inv X pins σ H s)
  (hch:∀b∈ch,(b∈X.ex∨X.s₀.heap.objs.size≤b)∧b≠X.env.locals∧(∀x c,X.env.cells.lookup x=some c→c≠b)∧∀p∈X.pn ++ pins,p.1≠b)
  (keep:∀b o,b≠X.env.locals→b ∉ X.fs→b ∉ ch→s.heap.get? b=some o→H b=none→h'.get? b=some o)
  (slot:∀b o,b≠X.env.locals→b∈X.fs→b ∉ ch→s.heap.get? b=some o→H b=none→∃sl,h'.get? b=some { o with slots:=sl }) (free:∀b o,b ∉ ch→s.heap.get? b=some o→H b=none→H' b=none)
  (there:∀b o,b ∉ ch→s.heap.get? b=some o→∃o',h'.get? b=some o')
  (tups:∀b xs,H b=some (.tup xs)→H' b=some (.tup xs)) (frzs:∀b o u,H b=some (.qp o u)→H' b=some (.qp o u)) (tbls:∀b ps,H b=some (.tbl ps)→∃more,H' b=some (.tbl (ps ++ more)))
  (ns:∀m,s.heap.Ns X.env.locals m→h'.Ns X.env.locals m) (hok:l9 X.prog X.w H' h') (hg:AllBare g') :
  Inv X pins σ H' { s with heap:=h',gens:=g',drawn:=d',toks:=t' }:=by
 have neL:∀b o,X.s₀.heap.get? b=some o→b≠X.env.locals:=λb o e=>SO (SK (Heap.lt_size e) I.ok.above)
 have neC:∀b o,X.s₀.heap.get? b=some o→b ∉ X.ex→b ∉ ch:=λb o e hx hb=>by
  rcases (hch b hb).1 with z | z
  ·exact hx z
  ·exact absurd (SK (Heap.lt_size e) z) (Tr _)
 have cellK:∀x c,X.env.cells.lookup x=some c→∀v,s.heap.IsCell c v→h'.IsCell c v:=λx c e v ⟨o,ho,hd⟩=>by
  have nch:c ∉ ch:=λz=>(hch c z).2.2.1 x c e rfl
  by_cases hc:c∈X.fs
  ·obtain ⟨sl,q⟩:=slot c o (I.Ko x c e) hc nch ho (I.freeC x c e)
   exact ⟨_,q,hd⟩
  ·exact ⟨o,keep c o (I.Ko x c e) hc nch ho (I.freeC x c e),hd⟩
 refine ⟨I.ok,I.os,hg,⟨λb o e n hb hx=>?_,λb o e n hb hx=>?_,λb o e n hx=>?_,λb o e hx=>?_,λb xs e=>tups b xs (I.base.tups b xs e),λb o xs e=>frzs b o xs (I.base.frzs b o xs e),λb ps e=>?_⟩,?_,λx c e=>?_,?_,λx c e=>?_,λp hp=>?_,hok,I.len⟩
 ·exact keep b o (neL b o e) hb (neC b o e hx) (I.base.keep b o e n hb hx) (I.base.free b o e n hx)
 ·obtain ⟨sl,e1⟩:=I.base.slot b o e n hb hx
  obtain ⟨sl',e2⟩:=slot b _ (neL b o e) hb (neC b o e hx) e1 (I.base.free b o e n hx)
  exact ⟨sl',e2⟩
 ·obtain ⟨o',e1⟩:=I.base.there b o e hx
  exact free b o' (neC b o e hx) e1 (I.base.free b o e n hx)
 ·obtain ⟨o',e1⟩:=I.base.there b o e hx
  exact there b o' (neC b o e hx) e1
 ·obtain ⟨m1,e1⟩:=I.base.tbls b ps e
  obtain ⟨m2,e2⟩:=tbls b _ e1
  exact ⟨m1 ++ m2,by rw [e2,Array.append_assoc]⟩
 ·obtain ⟨m,hn,hl⟩:=I.loc
  refine ⟨m,ns m hn,λi x v e1 e2 e3=>?_⟩
  obtain ⟨u,r,l⟩:=hl i x v e1 e2 e3
  refine ⟨u,r,?_⟩
  rcases l with l | ⟨k,c,e,z⟩
  ·exact .inl l
  ·exact .inr ⟨k,c,e,cellK x c e _ z⟩
 ·obtain ⟨v,z⟩:=I.cell x c e
  exact ⟨v,cellK x c e v z⟩
 ·obtain ⟨m,⟨o,_,_,ho,_⟩,_⟩:=I.loc
  exact free _ o (λz=>(hch _ z).2.1 rfl) ho I.free
 ·obtain ⟨v,o,ho,hd⟩:=I.cell x c e
  exact free c o (λz=>(hch c z).2.2.1 x c e rfl) ho (I.freeC x c e)
 ·obtain ⟨e,n,ne,nf,d⟩:=I.pin p hp
  have nch:p.1 ∉ ch:=λz=>(hch p.1 z).2.2.2 p hp rfl
  exact ⟨keep p.1 p.2 ne nf nch e n,free p.1 p.2 nch e n,ne,nf,d⟩
theorem Inv.un {t':Nat} (I:Inv X pins σ H s) (u:Un X.fs [] H H' s.heap h') (hok:l9 X.prog X.w H' h'):Inv X pins σ H' { s with heap:=h',toks:=t' }:=by
 obtain ⟨m,⟨o,es,ep,ho,r⟩,_⟩:=id I.loc
 obtain ⟨sl,hL⟩:=u.any ho I.free (by simp)
 exact I.step (g':=s.gens) (d':=s.drawn) (ch:=[]) (λ_ z=>nomatch z) (λb o _ hb _ e n=>u.keep b o e n hb (by simp)) (λb o _ hb _ e n=>u.slot b o e n hb (by simp)) (λb o _ e n=>u.free b o e n (by simp)) (λb o _ e=>u.there b o e (by simp)) u.tups u.frzs u.tbls (λm' hm=>by
  obtain ⟨o',es',ep',ho',r'⟩:=hm
  rw [ho] at ho';cases ho'
  exact ⟨_,es',ep',hL,r'⟩) hok I.bare
theorem Inv.call {g':Array GenState} {t':Nat} {d':Drawn} {ch:List Addr} (I:Inv X pins σ H s) (u:Un (jk X.stack) ch H H' s.heap h') (hok:l9 X.prog X.w H' h') (hg:AllBare g')
  (hch:∀b∈ch,(b∈X.ex∨X.s₀.heap.objs.size≤b)∧b≠X.env.locals∧(∀x c,X.env.cells.lookup x=some c→c≠b)∧∀p∈X.pn ++ pins,p.1≠b) :
  Inv X pins σ H' { s with heap:=h',gens:=g',drawn:=d',toks:=t' }:=by
 obtain ⟨m,⟨o,es,ep,ho,r⟩,_⟩:=id I.loc
 obtain ⟨sl,hL⟩:=u.any ho I.free λz=>(hch _ z).2.1 rfl
 exact I.step (ch:=ch) hch (λb o hL hb hc e n=>u.keep b o e n (λz=>(SH.mp (I.oG b z)).elim hL hb) hc) (λb o _ _ hc e n=>u.any e n hc) (λb o hc e n=>u.free b o e n hc) (λb o hc e=>u.there b o e hc) u.tups u.frzs u.tbls (λm' hm=>by
  obtain ⟨o',es',ep',ho',r'⟩:=hm
  rw [ho] at ho';cases ho'
  exact ⟨_,es',ep',hL,r'⟩) hok hg
theorem Inv.turned {t':Nat} {it:Addr} (I:Inv X pins σ H s) (k:∀b o,b≠it→s.heap.get? b=some o→h'.get? b=some o) (hn:H it=none) (hL:it≠X.env.locals)
  (h1:it∈X.ex∨X.s₀.heap.objs.size≤it) (h2:∀x c,X.env.cells.lookup x=some c→c≠it) (h3:∀p∈X.pn ++ pins,p.1≠it):Inv X pins σ H { s with heap:=h',toks:=t' }:=by
 have nit:∀b u,H b=some u→b≠it:=λb u e z=>by rw [z,hn] at e;cases e
 refine I.step (g':=s.gens) (d':=s.drawn) (ch:=[it]) (λb hb=>?_) (λb o _ _ hc e _=>k b o (λz=>hc (by simp [z])) e) (λb o _ _ hc e _=>⟨o.slots,k b o (λz=>hc (by simp [z])) e⟩) (λ_ _ _ _ n=>n)
  (λb o hc e=>⟨o,k b o (λz=>hc (by simp [z])) e⟩) (λ_ _ e=>e) (λ_ _ _ e=>e) (λb ps e=>⟨#[],by rw [e];simp⟩) (λm hm=>?_) (λb u e=>?_) I.bare
 ·have e:b=it:=by simpa using hb
  subst e
  exact ⟨h1,hL,h2,h3⟩
 ·obtain ⟨o,es,ep,ho,r⟩:=hm
  exact ⟨o,es,ep,k _ o (Ne.symm hL) ho,r⟩
 ·refine (I.hok b u e).rM (λc v hc q=>k c v ?_ q) (λ_ q=>q) λ_ _ q=>q
  rcases hc with z | z
  ·rw [z];exact nit b u e
  ·exact nit c _ z
theorem Inv.tok (I:Inv X pins σ H s) (t:Nat):Inv X pins σ H { s with toks:=t }:=I.un (h':=s.heap) (t':=t) Un.refl I.hok
theorem Inv.kept {t':Nat} (I:Inv X pins σ H s) (k:∀b u,s.heap.get? b=some u→h'.get? b=some u):Inv X pins σ H { s with heap:=h',toks:=t' }:=I.un (Un.kept k) (I.hok.kept k)
theorem Inv.laid {a:Addr} {o:HO} {t':Nat} (I:Inv X pins σ H s) (k:∀b u,s.heap.get? b=some u→h'.get? b=some u) (hp:s.heap.objs.size≤a) (new:cX X.prog X.w (upd H a o) h' a o) :
  Inv X pins σ (upd H a o) { s with heap:=h',toks:=t' }:=I.un (Un.laid k hp (I.hok.fresh hp)) (I.hok.laid k hp new)
theorem Inv.write {x e:Addr} {o:HO} {t':Nat} (I:Inv X pins σ H s) (mu:O0 (H x)) (he:e=x∨H e=some (.own x)) (k:∀b u,b≠e→s.heap.get? b=some u→h'.get? b=some u) (heo:∃u,h'.get? e=some u)
  (new:cX X.prog X.w (upd H x o) h' x o):Inv X pins σ (upd H x o) { s with heap:=h',toks:=t' }:=I.un (Un.write mu he k heo) (I.hok.write mu he k heo new)
theorem Inv.Bo {pins':List (Addr × Obj)} (I:Inv X pins σ H s) (h:∀p∈pins',s.heap.get? p.1=some p.2∧H p.1=none∧p.1≠X.env.locals∧p.1 ∉ X.fs∧∀v,p.2.data≠.cell v):Inv X pins' σ H s :=
 ⟨I.ok,I.os,I.bare,I.base,I.loc,I.cell,I.free,I.freeC,λp hp=>(SD.mp hp).elim (λz=>I.pin p (UO _ z)) (h p),I.hok,I.len⟩
theorem xK {N:List Str} (hN:N.Nodup) {i j:Nat} {x:Str} (a:N[i]?=some x) (b:N[j]?=some x):i=j:=by
 obtain ⟨h1,e1⟩:=Sq.mp a
 obtain ⟨h2,e2⟩:=Sq.mp b
 exact (TC hN).mp (e1.trans e2.symm)
theorem uo {M:Model} {A:Around} {E:Value→Shared→Prop} {i:Nat} {x:Str} {v:V} {u:Value} {Q:Unit→Shared→Prop} (I:Inv X pins σ H s) (hN:X.N.Nodup) (hi:X.N[i]?=some x) (hx:Loc X.env.scope x) (r:RelV v u)
  (h:∀s',Inv X pins (σ.set i (some v)) H s'→(∃a,Heap.SameBut a s.heap s'.heap∧(a=X.env.locals∨X.env.cells.lookup x=some a))→Q () s') (hf:X.fn x=true∨X.env.scope.names.lookup x=some .local:=by first | exact .inl rfl | exact .inr rfl | assumption):wpAny M A (storeName X.env x u) Q E s:=by
 obtain ⟨m,hn,hl⟩:=id I.loc
 have hcls:(X.env.scope.kind == .class || (X.env.scope.kind == .module && X.env.locals != X.env.globals))=false:=by rw [I.ok.kind];rfl
 have hiσ:i < σ.length:=by rw [I.len];exact (Sq.mp hi).1
 have Ko:=I.Ko
 have tracked:∀{a:Addr} {h':Heap},(∃o,s.heap.get? a=some o∧H a=none)→Heap.SameBut a s.heap h'→l9 X.prog X.w H h':=λ{a h'} ha hs b ob e=>by
  obtain ⟨_,_,hfree⟩:=ha
  refine (I.hok b ob e).rM (λc w' hc q=>(hs.2 c ?_).trans q) (λ_ q=>q) λ_ _ q=>q
  rintro rfl
  rcases hc with rfl | hc
  ·rw [hfree] at e;cases e
  ·rw [hfree] at hc;cases hc
 rcases hx with hk | hk
 ·refine wpAny_storeName_local hk hn (λh' hn' hs=>?_) hcls
  obtain ⟨oL,_,_,hoL,_⟩:=id hn
  refine h _ ⟨I.ok,I.os,I.bare,⟨λb o e n hb hx=>?_,λb o e n hb hx=>?_,I.base.free,λb o e hx=>?_,I.base.tups,I.base.frzs,I.base.tbls⟩,⟨_,hn',λj y v' e1 e2 e3=>?_⟩,λy c e=>?_,I.free,I.freeC,λp hp=>?_,tracked ⟨oL,hoL,I.free⟩ hs,by simpa using I.len⟩ ⟨_,hs,.inl rfl⟩
  ·exact (hs.2 b (SO (SK (Heap.lt_size e) I.ok.above))).trans (I.base.keep b o e n hb hx)
  ·obtain ⟨sl,e1⟩:=I.base.slot b o e n hb hx
   exact ⟨sl,(hs.2 b (SO (SK (Heap.lt_size e) I.ok.above))).trans e1⟩
  ·obtain ⟨o',e1⟩:=I.base.there b o e hx
   exact ⟨o',(hs.2 b (SO (SK (Heap.lt_size e) I.ok.above))).trans e1⟩
  ·by_cases hj:j=i
   ·subst hj
    rw [hi] at e1;cases e1
    rw [Tn hiσ] at e2
    cases e2
    exact ⟨u,r,.inl ⟨hk,by simp⟩⟩
   ·rw [Uc (Ne.symm hj)] at e2
    obtain ⟨u',r',q⟩:=hl j y v' e1 e2 e3
    refine ⟨u',r',?_⟩
    rcases q with ⟨k,e⟩ | ⟨k,c,e,z⟩
    ·refine .inl ⟨k,?_⟩
     have:y≠x:=λe=>hj (xK hN e1 (e ▸ hi))
     simp [this,e]
    ·exact .inr ⟨k,c,e,z.sameBut hs (Ko y c e)⟩
  ·obtain ⟨w',z⟩:=I.cell y c e
   exact ⟨w',z.sameBut hs (Ko y c e)⟩
  ·obtain ⟨e,n,ne,nf,d⟩:=I.pin p hp
   exact ⟨(hs.2 p.1 ne).trans e,n,ne,nf,d⟩
 ·have hfn:X.fn x=true:=by
   rcases hf with z | z
   ·exact z
   ·rw [z] at hk;cases hk
  obtain ⟨c,hc⟩:=I.ok.has x (.inl hk)
  obtain ⟨w',z⟩:=I.cell x c hc
  refine wpAny_storeName_cell I.ok.kind hk hc z (λh' hc' hs=>?_)
  obtain ⟨oc,hoc,hocd⟩:=id z
  refine h { s with heap:=h' } ⟨I.ok,I.os,I.bare,⟨λb o e n hb hx=>?_,λb o e n hb hx=>?_,I.base.free,λb o e hx=>?_,I.base.tups,I.base.frzs,I.base.tbls⟩,⟨m,hn.sameBut hs (Ne.symm (Ko x c hc)),λj y v' e1 e2 e3=>?_⟩,λy c' e=>?_,I.free,I.freeC,λp hp=>?_,tracked ⟨oc,hoc,I.freeC x c hc⟩ hs,by simpa using I.len⟩ ⟨c,hs,.inr hc⟩
  ·exact (hs.2 b (SO (SK (Heap.lt_size e) (I.ok.cab x c hfn hc)))).trans (I.base.keep b o e n hb hx)
  ·obtain ⟨sl,e1⟩:=I.base.slot b o e n hb hx
   exact ⟨sl,(hs.2 b (SO (SK (Heap.lt_size e) (I.ok.cab x c hfn hc)))).trans e1⟩
  ·obtain ⟨o',e1⟩:=I.base.there b o e hx
   exact ⟨o',(hs.2 b (SO (SK (Heap.lt_size e) (I.ok.cab x c hfn hc)))).trans e1⟩
  ·by_cases hj:j=i
   ·subst hj
    rw [hi] at e1;cases e1
    rw [Tn hiσ] at e2
    cases e2
    exact ⟨u,r,.inr ⟨.inl hk,c,hc,hc'⟩⟩
   ·rw [Uc (Ne.symm hj)] at e2
    obtain ⟨u',r',q⟩:=hl j y v' e1 e2 e3
    refine ⟨u',r',?_⟩
    rcases q with q | ⟨k,c',e,z'⟩
    ·exact .inl q
    ·refine .inr ⟨k,c',e,z'.sameBut hs ?_⟩
     rintro rfl
     exact hj (xK hN e1 (I.ok.inj _ _ _ e hc ▸ hi))
  ·by_cases hcc:c'=c
   ·subst hcc;exact ⟨_,hc'⟩
   ·obtain ⟨w2,z2⟩:=I.cell y c' e
    exact ⟨w2,z2.sameBut hs hcc⟩
  ·obtain ⟨e,n,ne,nf,d⟩:=I.pin p hp
   refine ⟨(hs.2 p.1 ?_).trans e,n,ne,nf,d⟩
   intro q
   rw [q,hoc] at e
   have q':oc=p.2:=Option.some.inj e
   exact d w' (by rw [← q'];exact hocd)
theorem gi {M:Model} {A:Around} {E:Value→Shared→Prop} {i:Nat} {x:Str} {v:V} {u:Value} {Q:Unit→Shared→Prop} (I:Inv X pins σ H s) (hN:X.N.Nodup) (hi:X.N[i]?=some x) (hx:Loc X.env.scope x) (r:RelV v u)
  (h:∀s',Inv X pins (σ.set i (some v)) H s'→Q () s') (hf:X.fn x=true∨X.env.scope.names.lookup x=some .local:=by first | exact .inl rfl | exact .inr rfl | assumption):wpAny M A (storeName X.env x u) Q E s :=
 uo I hN hi hx r (λs' I' _=>h s' I') hf
theorem Inv.M1 {s':Shared} {ch:List Addr} (I:Inv X pins σ H s) (ho:s'.os=s.os) (u:Un (jk X.stack) ch H H' s.heap s'.heap) (hok:l9 X.prog X.w H' s'.heap) (hg:AllBare s'.gens)
  (hch:∀b∈ch,(b∈X.ex∨X.s₀.heap.objs.size≤b)∧b≠X.env.locals∧(∀x c,X.env.cells.lookup x=some c→c≠b)∧∀p∈X.pn ++ pins,p.1≠b):Inv X pins σ H' s':=by
 obtain ⟨h',g',d',t',o'⟩:=s'
 have e:o'=s.os:=ho
 subst e
 exact I.call (g':=g') (t':=t') (d':=d') u hok hg hch
end
abbrev XK:=Value→Option Addr→Hp→Prop
abbrev St:=List (Option V)
abbrev VK:=V→Hp→Prop
abbrev TE:=St→Hp→VK→Prop
abbrev TT:=St→Hp→(Bool→Hp→Prop)→Prop
abbrev TA:=St→Hp→(List V→Hp→Prop)→Prop
structure Ends where
 nx:St→Hp→Prop
 rt:VK
 bk:St→Hp→Prop:=λ_ _=>False
 ct:St→Hp→Prop:=λ_ _=>False
abbrev TS:=Ends→St→Hp→Prop
def EP (X:Cx) (pins:List (Addr × Obj)) (σ:St) (Q:VK) (u:Value) (s':Shared):Prop:=∃v H',Inv X pins σ H' s'∧RelV v u∧Q v H'
def TP (X:Cx) (pins:List (Addr × Obj)) (σ:St) (Q:Bool→Hp→Prop) (b:Bool) (s':Shared):Prop:=∃H',Inv X pins σ H' s'∧Q b H'
def AP (X:Cx) (pins:List (Addr × Obj)) (σ:St) (Q:List V→Hp→Prop) (us:List Value) (s':Shared):Prop:=∃vs H',Inv X pins σ H' s'∧Vals vs us∧Q vs H'
def SP (X:Cx) (pins:List (Addr × Obj)) (D:Ends) (f:Flow) (s':Shared):Prop :=
 match f with
 | .next=>∃σ' H',Inv X pins σ' H' s'∧D.nx σ' H'
 | .brk=>∃σ' H',Inv X pins σ' H' s'∧D.bk σ' H'
 | .cont=>∃σ' H',Inv X pins σ' H' s'∧D.ct σ' H'
 | .ret u=>∃v σ' H',Inv X pins σ' H' s'∧RelV v u∧D.rt v H'
def PE (X:Cx) (e:Expr) (t:TE):Prop :=
 ∀(pins:List (Addr × Obj)) (s:Shared) (σ:St) (H:Hp) (Q:VK),Inv X pins σ H s→t σ H Q→wpAny (model X.prog X.w) X.A (eval e X.env) (EP X pins σ Q) X.xe s
def PT (X:Cx) (e:Expr) (t:TT):Prop :=
 ∀(pins:List (Addr × Obj)) (s:Shared) (σ:St) (H:Hp) (Q:Bool→Hp→Prop),Inv X pins σ H s→t σ H Q→wpAny (model X.prog X.w) X.A (isTrue e X.env (eval e X.env)) (TP X pins σ Q) X.xe s
def PW (X:Cx) (e:Expr) (t:TT):Prop :=
 ∀(whole:Sem Value) (pins:List (Addr × Obj)) (s:Shared) (σ:St) (H:Hp) (Q:Bool→Hp→Prop),Inv X pins σ H s→t σ H Q→wpAny (model X.prog X.w) X.A (isTrue e X.env whole) (TP X pins σ Q) X.xe s
theorem PW.pt {X:Cx} {e:Expr} {t:TT} (h:PW X e t):PT X e t:=h _
def PA (X:Cx) (es:List Expr) (t:TA):Prop :=
 ∀(pos:Pos) (pins:List (Addr × Obj)) (s:Shared) (σ:St) (H:Hp) (Q:List V→Hp→Prop),Inv X pins σ H s→t σ H Q→wpAny (model X.prog X.w) X.A (spliced (backTo pos (starEach es X.env))) (AP X pins σ Q) X.xe s
def PS (X:Cx) (st:Stmt) (t:TS):Prop :=
 ∀(pins:List (Addr × Obj)) (s:Shared) (σ:St) (H:Hp) (D:Ends),Inv X pins σ H s→t D σ H→wpAny (model X.prog X.w) X.A (exec st X.env) (SP X pins D) X.xe s
def tN (X:Cx) (st:List Stmt) (t:TS):Prop :=
 ∀(pins:List (Addr × Obj)) (s:Shared) (σ:St) (H:Hp) (D:Ends),Inv X pins σ H s→t D σ H→wpAny (model X.prog X.w) X.A (execs st X.env) (SP X pins D) X.xe s
theorem b9 {α:Type} {t:Sem α} {Q Q':α→Shared→Prop} {M:Model} {A:Around} {E:Value→Shared→Prop} {s:Shared} (h:wpAny M A t Q E s) (hQ:∀a s,Q a s→Q' a s):wpAny M A t Q' E s:=wpAny_mono h hQ λ_ _ x=>x
end L2
namespace L2
open PySem PySem.Spec PyProof.Rows
section
variable {X:Cx}
def Df (i:Nat):TE:=λσ H Q=>∃v,σ[i]?=some (some v)∧Q v H
def tC (v:V):TE:=λ_ H Q=>Q v H
theorem zN {i:Nat} {x:Str} {pos:Pos} (hN:X.N[i]?=some x) (hv:wN X.env.scope x) (hd:(x == ("__debug__":Str))=false:=by decide) (hcd:(x == ("__classdict__":Str))=false:=by decide):PE X (.Name x pos) (Df i):=by
 intro pins s σ H Q I h
 obtain ⟨v,e,h⟩:=h
 obtain ⟨m,hn,hl⟩:=I.loc
 obtain ⟨u,r,l⟩:=hl i x v hN e hv
 have fin:EP X pins σ Q u s:=⟨v,H,I,r,h⟩
 rcases l with ⟨hk,hm⟩ | ⟨hk,c,hc,hcell⟩
 ·exact wpAny_Name (wpAny_loadName_local I.ok.kind hk hn hm fin) hd
 ·rcases hk with hk | hk
  ·exact wpAny_Name (wpAny_loadName_cell I.ok.kind hk hc hcell fin) hd
  ·exact wpAny_Name (wpAny_loadName_free I.ok.kind hk hc hcell fin hcd) hd
theorem aJ {i j pos}:PE X (.Constant (.int i) j pos) (tC (.int i)):=λ_ _ _ H _ I h=>wpAny_Constant_int ⟨.int i,H,I.tok _,⟨_,rfl⟩,h⟩
theorem x5 {b j pos}:PE X (.Constant (.bool b) j pos) (tC (.bl b)):=λ_ _ _ H _ I h=>Constant_bool ⟨.bl b,H,I,rfl,h⟩
theorem zK {j pos}:PE X (.Constant .none j pos) (tC .non):=λ_ _ _ H _ I h=>Constant_none ⟨.non,H,I,rfl,h⟩
theorem n_ {x j pos}:PE X (.Constant (.str x) j pos) (tC (.str x)):=λ_ _ _ H _ I h=>Calls.Constant_str ⟨.str x,H,I.tok _,⟨_,rfl⟩,h⟩
def Gl (X:Cx) (x:Str):Prop:=X.env.kindOf x=some .globalImplicit
theorem mF {E:Value→Shared→Prop} {pins:List (Addr × Obj)} {s:Shared} {σ:St} {H:Hp} {x:Str} {u:Value} {pos:Pos} {Q:Value→Shared→Prop} (I:Inv X pins σ H s) (hg:Gl X x) (hm:X.mg x=some u) (h:Q u s)
  (hd:(x == ("__debug__":Str))=false:=by decide):wpAny (model X.prog X.w) X.A (eval (.Name x pos) X.env) Q E s :=
 Calls.Name_function_global I.ok.kind hg (Calls.loadGlobal_global (by rw [I.ok.glob];exact I.mod.glob.keeps I.bk) hm h) hd
theorem lI {E:Value→Shared→Prop} {pins:List (Addr × Obj)} {s:Shared} {σ:St} {H:Hp} {x:Str} {u:Value} {pos:Pos} {Q:Value→Shared→Prop} (I:Inv X pins σ H s) (hg:Gl X x) (hm:X.mg x=none) (hv:bootBuiltins x=some u) (h:Q u s)
  (hn:x≠"__name__":=by decide) (hd:(x == ("__debug__":Str))=false:=by decide):wpAny (model X.prog X.w) X.A (eval (.Name x pos) X.env) Q E s:=by
 obtain ⟨mb,h1,h2⟩:=I.mod.blt
 exact Calls.Name_function_global I.ok.kind hg (Calls.loadGlobal_builtin (by rw [I.ok.glob];exact I.mod.glob.keeps I.bk) hm (by rw [I.ok.blt];exact h1.keeps I.bk) ((h2 x hn).trans hv) h) hd
theorem pN {x:Str} {v:V} {u:Value} {pos:Pos} (hg:Gl X x) (hm:X.mg x=some u) (r:RelV v u) (hd:(x == ("__debug__":Str))=false:=by decide):PE X (.Name x pos) (tC v) :=
 λ_ _ _ H _ I h=>mF I hg hm ⟨v,H,I,r,h⟩ hd
theorem vw {x:Str} {v:V} {u:Value} {pos:Pos} (hg:Gl X x) (hm:X.mg x=none) (hv:bootBuiltins x=some u) (r:RelV v u) (hn:x≠"__name__":=by decide) (hd:(x == ("__debug__":Str))=false:=by decide):PE X (.Name x pos) (tC v) :=
 λ_ _ _ H _ I h=>lI I hg hm hv ⟨v,H,I,r,h⟩ hn hd
variable {a b:Expr} {ta tb:TE} {pos:Pos}
def tB (t:TE):TT:=λσ H Q=>t σ H λx H1=>∃c,x=.bl c∧Q c H1
theorem zT {e:Expr} {t:TE} (h:PE X e t) (he:∀whole,isTrue e X.env whole=(do let v ← whole;standAt e.pos;holding [v] (truthy v)):=by intro _;rfl):PT X e (tB t):=by
 intro pins s σ H Q I hw
 refine isTrue_plain (b9 (h pins s σ H _ I hw) λv s1 ⟨x,H1,I1,r1,q1⟩=>?_) (he _)
 obtain ⟨d,rfl,q⟩:=q1
 cases r1
 exact wpAny_truthy_bool ⟨H1,I1,q⟩
variable {tA tB':TT} {rest:List Expr}
def F0 (t u:TT):TT:=λσ H Q=>t σ H λc H1=>if c=true then u σ H1 Q else Q false H1
def OK (t u:TT):TT:=λσ H Q=>t σ H λc H1=>if c=true then Q true H1 else u σ H1 Q
def Iv (t:TT):TT:=λσ H Q=>t σ H λc H1=>Q (!c) H1
theorem pQ (ha:PT X a tA):PW X (.BoolOp .And [a] pos) tA:=by
 intro wh pins s σ H Q I h
 refine isTrue_and (b9 (ha pins s σ H Q I h) λc s1 e=>?_)
 cases c with
 | true=>exact isTrue_and_nil e
 | false=>exact e
theorem vN (ha:PT X a tA):PW X (.BoolOp .Or [a] pos) tA:=by
 intro wh pins s σ H Q I h
 refine isTrue_or (b9 (ha pins s σ H Q I h) λc s1 e=>?_)
 cases c with
 | false=>exact isTrue_or_nil e
 | true=>exact e
theorem vM (ha:PT X a tA) (hb:PW X (.BoolOp .And (b :: rest) pos) tB'):PW X (.BoolOp .And (a :: b :: rest) pos) (F0 tA tB'):=by
 intro wh pins s σ H Q I h
 refine isTrue_and (b9 (ha pins s σ H _ I h) λc s1 ⟨H1,I1,q1⟩=>?_)
 cases c with
 | true=>exact hb wh pins s1 σ H1 Q I1 q1
 | false=>exact ⟨H1,I1,q1⟩
theorem Bx (ha:PT X a tA) (hb:PW X (.BoolOp .Or (b :: rest) pos) tB'):PW X (.BoolOp .Or (a :: b :: rest) pos) (OK tA tB'):=by
 intro wh pins s σ H Q I h
 refine isTrue_or (b9 (ha pins s σ H _ I h) λc s1 ⟨H1,I1,q1⟩=>?_)
 cases c with
 | true=>exact ⟨H1,I1,q1⟩
 | false=>exact hb wh pins s1 σ H1 Q I1 q1
theorem zS (ha:PT X a tA):PT X (.UnaryOp .Not a pos) (Iv tA):=by
 intro pins s σ H Q I h
 exact isTrue_not (ha pins s σ H (λc H1=>Q (!c) H1) I h)
def B3 (ta tb:TE):TE:=λσ H Q=>ta σ H λx H1=>∃c,x=.bl c∧if c=true then tb σ H1 Q else Q (.bl false) H1
def Iw (ta tb:TE):TE:=λσ H Q=>ta σ H λx H1=>∃c,x=.bl c∧if c=true then Q (.bl true) H1 else tb σ H1 Q
def B6 (ta:TE):TE:=λσ H Q=>ta σ H λx H1=>∃c,x=.bl c∧Q (.bl (!c)) H1
theorem zM {op} {t:TE} (h:PE X a t):PE X (.BoolOp op [a] pos) t:=λpins s σ H Q I hw=>BoolOp_one (h pins s σ H Q I hw)
theorem zJ (ha:PE X a ta) (hb:PE X (.BoolOp .And (b :: rest) pos) tb):PE X (.BoolOp .And (a :: b :: rest) pos) (B3 ta tb):=by
 intro pins s σ H Q I h
 refine BoolOp_and (b9 (ha pins s σ H _ I h) λv s1 ⟨x,H1,I1,r1,q1⟩=>?_)
 obtain ⟨c,rfl,q1⟩:=q1
 cases r1
 refine wpAny_truthy_bool ?_
 cases c with
 | true=>exact hb pins s1 σ H1 Q I1 q1
 | false=>exact ⟨.bl false,H1,I1,rfl,q1⟩
theorem Fe (ha:PE X a ta) (hb:PE X (.BoolOp .Or (b :: rest) pos) tb):PE X (.BoolOp .Or (a :: b :: rest) pos) (Iw ta tb):=by
 intro pins s σ H Q I h
 refine BoolOp_or (b9 (ha pins s σ H _ I h) λv s1 ⟨x,H1,I1,r1,q1⟩=>?_)
 obtain ⟨c,rfl,q1⟩:=q1
 cases r1
 refine wpAny_truthy_bool ?_
 cases c with
 | false=>exact hb pins s1 σ H1 Q I1 q1
 | true=>exact ⟨.bl true,H1,I1,rfl,q1⟩
theorem zL (ha:PE X a ta):PE X (.UnaryOp .Not a pos) (B6 ta):=by
 intro pins s σ H Q I h
 refine UnaryOp_ (b9 (ha pins s σ H _ I h) λv s1 ⟨x,H1,I1,r1,q1⟩=>?_)
 obtain ⟨c,rfl,q1⟩:=q1
 cases r1
 exact not_of (wpAny_truthy_bool ⟨.bl (!c),H1,I1,rfl,q1⟩)
def Pd (t:TT) (ta tb:TE):TE:=λσ H Q=>t σ H λc H1=>if c=true then ta σ H1 Q else tb σ H1 Q
theorem qS {c:Expr} (hc:PT X c tA) (ha:PE X a ta) (hb:PE X b tb):PE X (.IfExp c a b pos) (Pd tA ta tb):=by
 intro pins s σ H Q I h
 refine wpAny_IfExp (b9 (hc pins s σ H _ I h) λd s1 ⟨H1,I1,q1⟩=>?_)
 cases d with
 | true=>exact ha pins s1 σ H1 Q I1 q1
 | false=>exact hb pins s1 σ H1 Q I1 q1
end
end L2
namespace L2
open PySem PySem.Spec PyProof.Rows
def cF (K:PySem.W.Frag) (H:Hp) (a:Addr) (xs:List V):Prop :=
 Rd H a (.lst xs) ∨
  ∃(o:Obj) (its:Array Value) (n:Nat),K.lookup a=some o∧o.cls=.type "list"∧o.dict=none∧o.data=.seq its n∧its.size≤sizeLine∧Vals xs its.toList
def gr (K:PySem.W.Frag) (H:Hp) (a:Addr) (xs:List V):Prop :=
 Rd H a (.tup xs) ∨
  ∃(o:Obj) (its:Array Value) (n:Nat),K.lookup a=some o∧o.cls=.type "tuple"∧o.data=.seq its n∧its.size≤sizeLine∧Vals xs its.toList
def Pw:Value→Option V
 | .none=>some .non
 | .bool b=>some (.bl b)
 | .int i _=>some (.int i)
 | .str x _=>some (.str x)
 | .bytes b _=>some (.byt b)
 | .float b _=>some (.flt b)
 | .ref a=>some (.ref a)
 | .type n=>some (.ty n)
 | _=>none
theorem RelV.abs {x:V} {u:Value} (r:RelV x u):Pw u=some x:=by
 cases x with
 | non=>cases r;rfl
 | bl _=>cases r;rfl
 | int _=>obtain ⟨t,rfl⟩:=r;rfl
 | str _=>obtain ⟨t,rfl⟩:=r;rfl
 | byt _=>obtain ⟨t,rfl⟩:=r;rfl
 | flt _=>obtain ⟨t,rfl⟩:=r;rfl
 | ref _=>cases r;rfl
 | ty _=>cases r;rfl
theorem RelV.inj {x y:V} {u:Value} (r:RelV x u) (q:RelV y u):x=y:=Option.some.inj (r.abs.symm.trans q.abs)
theorem Vals.inj:∀{xs ys:List V} {us:List Value},Vals xs us→Vals ys us→xs=ys
 | _,_,_,.nil,.nil=>rfl
 | _,_,_,.cons r t,.cons r' t'=>by rw [r.inj r',Vals.inj t t']
section
variable {X:Cx} {pins:List (Addr × Obj)} {σ:St} {H:Hp} {s:Shared} {a:Addr} {xs ys:List V}
theorem cF.of {K:PySem.W.Frag} (h:H a=some (.lst xs)):cF K H a xs:=.inl (.inl h)
theorem gr.of {K:PySem.W.Frag} (h:H a=some (.tup xs)):gr K H a xs:=.inl (.inl h)
theorem Inv.list (I:Inv X pins σ H s) (h:cF X.K H a xs):∃its:List Value,Vals xs its∧PlainL s.heap a its.toArray∧xs.length≤sizeLine:=by
 rcases h with h | ⟨o,its,n,hk,hc,hd,hs,hz,r⟩
 ·obtain ⟨z,its,n,r,e⟩:=h.ok I.hok
  exact ⟨its,r,⟨_,n,e,rfl,rfl,rfl⟩,z⟩
 ·refine ⟨its.toList,r,⟨o,n,I.mE a o hk,hc,hd,by simpa using hs⟩,?_⟩
  have e:=r.length
  simp only [Array.length_toList] at e
  omega
theorem Inv.tuple (I:Inv X pins σ H s) (h:gr X.K H a xs):∃its:List Value,Vals xs its∧IsTup s.heap a its.toArray∧xs.length≤sizeLine:=by
 rcases h with h | ⟨o,its,n,hk,hc,hs,hz,r⟩
 ·obtain ⟨z,its,r,p⟩:=h.ok I.hok
  exact ⟨its,r,p,z⟩
 ·refine ⟨its.toList,r,⟨o,I.mE a o hk,hc,n,by simpa using hs⟩,?_⟩
  have e:=r.length
  simp only [Array.length_toList] at e
  omega
theorem Inv.jE (I:Inv X pins σ H s) (h:cF X.K H a xs) (h':cF X.K H a ys):xs=ys:=by
 obtain ⟨its,r,⟨o,n,e,_,_,d⟩,_⟩:=I.list h
 obtain ⟨its',r',⟨o',n',e',_,_,d'⟩,_⟩:=I.list h'
 rw [e] at e';cases e'
 rw [d] at d'
 injection d' with d1 _
 have:its=its':=by simpa using congrArg Array.toList d1
 subst this
 exact r.inj r'
theorem Inv.Dg (I:Inv X pins σ H s) (h:gr X.K H a xs) (h':gr X.K H a ys):xs=ys:=by
 obtain ⟨its,r,⟨o,e,_,n,d⟩,_⟩:=I.tuple h
 obtain ⟨its',r',⟨o',e',_,n',d'⟩,_⟩:=I.tuple h'
 rw [e] at e';cases e'
 rw [d] at d'
 injection d' with d1 _
 have:its=its':=by simpa using congrArg Array.toList d1
 subst this
 exact r.inj r'
end
abbrev Cx.rS (X:Cx) (E:Value→Shared→Prop):Cx:={ X with xe:=E }
abbrev Cx.K2 (X:Cx):Cx:=X.rS λ_ _=>False
theorem Cx.Ok.rS {X:Cx} (ok:X.Ok) (E:Value→Shared→Prop):(X.rS E).Ok :=
 ⟨ok.mod,ok.kind,ok.glob,ok.blt,ok.above,ok.inj,ok.has,ok.cab,ok.hd,ok.frames,ok.stk,ok.exf,ok.bs,ok.bsz,ok.noex,ok.exfs,ok.nQ,ok.frf⟩
theorem Cx.Ok.kb {X:Cx} {E:Value→Shared→Prop} (ok:(X.rS E).Ok):X.Ok :=
 ⟨ok.mod,ok.kind,ok.glob,ok.blt,ok.above,ok.inj,ok.has,ok.cab,ok.hd,ok.frames,ok.stk,ok.exf,ok.bs,ok.bsz,ok.noex,ok.exfs,ok.nQ,ok.frf⟩
section
variable {X:Cx} {pins:List (Addr × Obj)} {σ:St} {H:Hp} {s:Shared} {E:Value→Shared→Prop}
theorem Inv.rS (I:Inv X pins σ H s) (E:Value→Shared→Prop):Inv (X.rS E) pins σ H s:=⟨I.ok.rS E,I.os,I.bare,I.base,I.loc,I.cell,I.free,I.freeC,I.pin,I.hok,I.len⟩
theorem Inv.kb (I:Inv (X.rS E) pins σ H s):Inv X pins σ H s:=⟨I.ok.kb,I.os,I.bare,I.base,I.loc,I.cell,I.free,I.freeC,I.pin,I.hok,I.len⟩
theorem SP.kb {D:Ends} {f:Flow} {s':Shared} (h:SP (X.rS E) pins D f s'):SP X pins D f s':=by
 cases f with
 | next=>obtain ⟨σ',H',I,q⟩:=h;exact ⟨σ',H',I.kb,q⟩
 | brk=>obtain ⟨σ',H',I,q⟩:=h;exact ⟨σ',H',I.kb,q⟩
 | cont=>obtain ⟨σ',H',I,q⟩:=h;exact ⟨σ',H',I.kb,q⟩
 | ret u=>obtain ⟨v,σ',H',I,r,q⟩:=h;exact ⟨v,σ',H',I.kb,r,q⟩
theorem tN.K2 {st:List Stmt} {t:TS} (h:tN X.K2 st t):tN X st t:=λpins s σ H D I hw =>
 wpAny_mono (h pins s σ H D (I.rS _) hw) (λ_ _ q=>q.kb) λ_ _ z=>False.elim z
end
section
variable {X:Cx} {st:Stmt} {rest:List Stmt} {t u:TS} {e:Expr} {te:TE} {pos:Pos}
def B5:TS:=λD σ H=>D.nx σ H
def IA (t u:TS):TS:=λD σ H=>t { D with nx:=u D } σ H
theorem fF:tN X [] B5:=λ_ _ σ H _ I h=>wpAny_execs_nil ⟨σ,H,I,h⟩
theorem aV (h1:PS X st t) (h2:tN X rest u):tN X (st :: rest) (IA t u):=by
 intro pins s σ H D I h
 refine wpAny_execs_cons (b9 (h1 pins s σ H { D with nx:=u D } I h) λf s1 q=>?_)
 cases f with
 | next =>
  obtain ⟨σ',H',I',q⟩:=q
  exact h2 pins s1 σ' H' D I' q
 | ret v=>exact q
 | brk=>exact q
 | cont=>exact q
theorem bH (h1:PS X st t):tN X [st] t:=by
 intro pins s σ H D I h
 refine wpAny_execs_cons (b9 (h1 pins s σ H D I h) λf s1 q=>?_)
 cases f with
 | next=>exact wpAny_execs_nil q
 | ret v=>exact q
 | brk=>exact q
 | cont=>exact q
def Ma:TS:=λD σ H=>D.bk σ H
def OG:TS:=λD σ H=>D.ct σ H
theorem Inv.quiet {pins:List (Addr × Obj)} {σ:St} {H:Hp} {s:Shared} (I:Inv X pins σ H s):interactive X.env=false:=by simp [interactive,I.ok.kind]
def B4 (te:TE):TS:=λD σ H=>te σ H λ_ H1=>D.nx σ H1
theorem kF (he:PE X e te) (hs:swapsWith e none pos.line X.env=pure false:=by rfl):PS X (.Expr e pos) (B4 te):=by
 intro pins s σ H D I h
 exact wpAny_Expr_any (b9 (he pins s σ H _ I h) λv s1 ⟨x,H1,I1,r1,q1⟩=>⟨σ,H1,I1,q1⟩) I.quiet hs
def Iz (te:TE):TS:=λD σ H=>te σ H D.rt
theorem dn (he:PE X e te):PS X (.Return (some e) pos) (Iz te):=by
 intro pins s σ H D I h
 exact wpAny_Return_some (b9 (he pins s σ H _ I h) λv s1 ⟨x,H1,I1,r1,q1⟩=>⟨x,σ,H1,I1,r1,q1⟩)
def B8:TS:=λD _ H=>D.rt .non H
theorem vG:PS X (.Return none pos) B8:=λ_ _ σ H _ I h=>wpAny_Return_none ⟨.non,σ,H,I,rfl,h⟩
def Ir (c:TT) (t u:TS):TS:=λD σ H=>c σ H λb H1=>if b=true then t D σ H1 else u D σ H1
theorem mW {c:Expr} {a b:List Stmt} {tc:TT} (hc:PT X c tc) (ha:tN X a t) (hb:tN X b u):PS X (.If c a b pos) (Ir tc t u):=by
 intro pins s σ H D I h
 refine wpAny_If (b9 (hc pins s σ H _ I h) λd s1 ⟨H1,I1,q1⟩=>?_)
 cases d with
 | true=>exact ha pins s1 σ H1 D I1 q1
 | false=>exact hb pins s1 σ H1 D I1 q1
def Aq:TS:=λ_ _ _=>False
theorem oh {sts:List Stmt}:tN X sts Aq:=λ_ _ _ _ _ _ h=>h.elim
end
abbrev TG:=V→St→Hp→(St→Hp→Prop)→Prop
abbrev pG:=List V→St→Hp→(St→Hp→Prop)→Prop
def PG (X:Cx) (target:Expr) (t:TG):Prop :=
 ∀(pins:List (Addr × Obj)) (s:Shared) (σ:St) (H:Hp) (v:V) (u:Value) (Q:St→Hp→Prop),Inv X pins σ H s→RelV v u→t v σ H Q →
  wpAny (model X.prog X.w) X.A (assign target X.env u) (λ_ s'=>∃σ' H',Inv X pins σ' H' s'∧Q σ' H') X.xe s
def IL (X:Cx) (ts:List Expr) (t:pG):Prop :=
 ∀(pins:List (Addr × Obj)) (s:Shared) (σ:St) (H:Hp) (vs:List V) (us:List Value) (Q:St→Hp→Prop),Inv X pins σ H s→Vals vs us→t vs σ H Q →
  wpAny (model X.prog X.w) X.A (assignInOrder ((assignEach ts X.env).map (·.2)) us) (λ_ s'=>∃σ' H',Inv X pins σ' H' s'∧Q σ' H') X.xe s
abbrev ju:=V→V→V→Hp→(Hp→Prop)→Prop
def jt (X:Cx) (t:ju):Prop :=
 ∀(pins:List (Addr × Obj)) (s:Shared) (σ:St) (H:Hp) (o i v:V) (ov iv u:Value) (Q:Hp→Prop),Inv X pins σ H s→RelV o ov→RelV i iv→RelV v u→t o i v H Q →
  wpAny (model X.prog X.w) X.A (setItem ov iv u) (λ_ s'=>∃H',Inv X pins σ H' s'∧Q H') X.xe s
abbrev O3:=V→V→Hp→VK→Prop
def Pq (X:Cx) (op:Operator) (t:O3):Prop :=
 ∀(pins:List (Addr × Obj)) (s:Shared) (σ:St) (H:Hp) (x y:V) (v u:Value) (Q:VK),Inv X pins σ H s→RelV x v→RelV y u→t x y H Q →
  wpAny (model X.prog X.w) X.A (inplaceOp op v u) (EP X pins σ Q) X.xe s
section
variable {X:Cx} {pos:Pos}
def qr (i:Nat):TG:=λv σ H Q=>Q (σ.set i (some v)) H
theorem kD {i:Nat} {x:Str} (hN:X.N.Nodup) (hi:X.N[i]?=some x) (hx:Loc X.env.scope x) (hf:X.fn x=true∨X.env.scope.names.lookup x=some .local:=by first | exact .inl rfl | exact .inr rfl | assumption):PG X (.Name x pos) (qr i):=by
 intro pins s σ H v u Q I r h
 exact wpAny_assign_Name (gi I hN hi hx r (λs' I'=>⟨_,H,I',h⟩) hf)
def GR:pG:=λvs σ H Q=>vs=[]∧Q σ H
def AZ (t:TG) (u:pG):pG:=λvs σ H Q=>∃v r,vs=v :: r∧t v σ H λσ' H'=>u r σ' H' Q
theorem vB:IL X [] GR:=by
 intro pins s σ H vs us Q I r h
 obtain ⟨e,h⟩:=h
 subst e
 cases r
 exact assignInOrder_nil ⟨σ,H,I,h⟩
theorem qV {e:Expr} {es:List Expr} {t:TG} {u:pG} (h1:PG X e t) (h2:IL X es u)
  (hs:(assignEach (e :: es) X.env).map (·.2)=assign e X.env :: (assignEach es X.env).map (·.2):=by rfl):IL X (e :: es) (AZ t u):=by
 intro pins s σ H vs us Q I r h
 obtain ⟨v,vr,e1,h⟩:=h
 subst e1
 cases r with
 | cons r rr =>
  rw [hs]
  refine assignInOrder_cons (b9 (h1 pins s σ H _ _ _ I r h) λ_ s1 ⟨σ1,H1,I1,q1⟩=>?_)
  exact h2 pins s1 σ1 H1 _ _ Q I1 rr q1
def GU (K:PySem.W.Frag) (n:Nat) (t:pG):TG:=λv σ H Q=>∃a xs,v=.ref a∧gr K H a xs∧xs.length=n∧t xs σ H Q
theorem zO {es:List Expr} {k:Nat} {t:pG} {n:Nat} (hc:X.calm=true) (h:IL X es t)
  (hn:(assignEach es X.env).length=n:=by rfl) (hst:(assignEach es X.env).findIdx? (·.1)=none:=by rfl):PG X (.Tuple es k pos) (GU X.K n t):=by
 intro pins s σ H v u Q I r hw
 obtain ⟨a,xs,e1,hq,hl,hw⟩:=hw
 subst e1
 cases r
 obtain ⟨its,rv,ht,hz⟩:=I.tuple hq
 refine assign_Tuple_tuple (I.ok.hd hc) ht (by simp [hn,← hl,rv.length]) hst λh' hx=>?_
 have I1:Inv X pins σ H { s with heap:=h' }:=I.kept (t':=s.toks) λb o e=>hx b o (SO (Heap.lt_size e)) e
 exact h pins _ σ H xs _ Q I1 (by simpa using rv) hw
def GS (to ti:TE) (t:ju):TG:=λv σ H Q=>to σ H λo H1=>ti σ H1 λi H2=>t o i v H2 λH3=>Q σ H3
theorem vA {o i:Expr} {to ti:TE} {t:ju} (ho:PE X o to) (hi:PE X i ti) (hs:jt X t)
  (ha:∀v,assign (.Subscript o i pos) X.env v=(do
   let ov ← holding [v] (eval o X.env)
   let iv ← holding [v,ov] (eval i X.env)
   standAt pos
   holding [v,ov,iv] (setItem ov iv v)
   release [v,ov,iv] []):=by intro _;rfl):PG X (.Subscript o i pos) (GS to ti t):=by
 intro pins s σ H v u Q I r h
 rw [ha]
 refine wpAny_bind (wpAny_holding (b9 (ho pins s σ H _ I h) λov s1 ⟨x,H1,I1,r1,q1⟩=>?_))
 refine wpAny_bind (wpAny_holding (b9 (hi pins s1 σ H1 _ I1 q1) λiv s2 ⟨y,H2,I2,r2,q2⟩=>?_))
 refine wpAny_bind (wpAny_standAt (wpAny_bind (wpAny_holding (b9 (hs pins s2 σ H2 x y v ov iv u _ I2 r1 r2 r q2) λ_ s3 ⟨H3,I3,q3⟩=>?_))))
 exact wpAny_release ⟨σ,H3,I3,q3⟩
def Ap (te:TE) (g:TG):TS:=λD σ H=>te σ H λx H1=>g x σ H1 D.nx
theorem vF {tg e:Expr} {te:TE} {g:TG} (he:PE X e te) (hg:PG X tg g) (hs:swapsWithSole [tg] e pos.line X.env=pure false:=by rfl) (hw:swappedStores [tg] e X.env=pure none:=by rfl)
  (h1:(assignEach [tg] X.env).map (·.2)=[assign tg X.env]:=by rfl):PS X (.Assign [tg] e pos) (Ap te g):=by
 intro pins s σ H D I h
 refine wpAny_Assign_stores (b9 (he pins s σ H _ I h) λv s1 ⟨x,H1,I1,r1,q1⟩=>?_) hs hw
 rw [h1]
 exact b9 (hg pins s1 σ H1 x v _ I1 r1 q1) λ_ s2 q=>q
theorem cJ {i:Nat} {x:Str} {e:Expr} {te:TE} {pos':Pos} (hN:X.N.Nodup) (hi:X.N[i]?=some x) (hx:Loc X.env.scope x) (he:PE X e te) (hs:swapsWith e (some (.Name x pos')) pos.line X.env=pure false:=by rfl) (hf:X.fn x=true∨X.env.scope.names.lookup x=some .local:=by first | exact .inl rfl | exact .inr rfl | assumption) :
  PS X (.Assign [.Name x pos'] e pos) (Ap te (qr i)):=by
 intro pins s σ H D I h
 refine wpAny_Assign_Name (b9 (he pins s σ H _ I h) λv s1 ⟨y,H1,I1,r1,q1⟩=>?_) hs
 exact gi I1 hN hi hx r1 (λs2 I2=>⟨_,H1,I2,q1⟩) hf
def Iy (i j:Nat) (ta:TA):TS:=λD σ H=>ta σ H λvs H1=>∃v w,vs=[v,w]∧D.nx ((σ.set i (some v)).set j (some w)) H1
theorem og {i j:Nat} {x y:Str} {a b:Expr} {ta:TA} {px py pt:Pos} {kt k2 pt2} (hc:X.calm=true) (hN:X.N.Nodup) (hi:X.N[i]?=some x) (hj:X.N[j]?=some y) (hij:i≠j)
  (hx:X.env.scope.names.lookup x=some .local) (hy:X.env.scope.names.lookup y=some .local) (ha:PA X [a,b] ta)
  (hw:swappedStores [.Tuple [.Name x px,.Name y py] kt pt] (.Tuple [a,b] k2 pt2) X.env=pure (some [x,y]))
  (hs:swapsWithSole [.Tuple [.Name x px,.Name y py] kt pt] (.Tuple [a,b] k2 pt2) pos.line X.env=pure false:=by rfl) :
  PS X (.Assign [.Tuple [.Name x px,.Name y py] kt pt] (.Tuple [a,b] k2 pt2) pos) (Iy i j ta):=by
 intro pins s σ H D I h
 rw [exec_Assign_arm]
 refine wpAny_bind (wpAny_standAt ?_)
 rw [hs]
 refine wpAny_bind (wpAny_pure ?_)
 rw [if_neg (by decide)]
 refine wpAny_bind (Tuple_ (b9 (ha _ pins s σ H _ I h) λus s1 ⟨vs,H1,I1,r1,q1⟩=>?_))
 obtain ⟨v,w,e1,q1⟩:=q1
 subst e1
 obtain ⟨u1,u2,rfl,rv,rw'⟩:∃u1 u2,us=[u1,u2]∧RelV v u1∧RelV w u2:=by
  cases r1 with
  | cons p q =>
   cases q with
   | cons p' q' =>
    cases q'
    exact ⟨_,_,rfl,p,p'⟩
 refine wpAny_newObj_type ?_ (by show 2≤sizeLine;decide)
 have I2:Inv X pins σ H1 { s1 with heap:=s1.heap.push { cls:=.type "tuple",data:=.seq [u1,u2].toArray } }:=I1.kept (t':=s1.toks) λb o e=>Heap.get?_push_of_some _ e
 rw [hw]
 refine wpAny_bind (wpAny_pure ?_)
 show wpAny (model X.prog X.w) X.A (do rule "assign.swapped-stores";let items ← unpackItems (.ref s1.heap.objs.size) 2 none;assignInOrder [λv=>bindName X.env y v,λv=>bindName X.env x v] items.reverse;pure Flow.next) _ _ _
 refine wpAny_bind (wpAny_rule (wpAny_bind (unpackItems_tuple (items:=#[u1,u2]) (I.ok.hd hc) (IsTup.new s1.heap _) λh' hx'=>?_)))
 have I3:=I2.kept (h':=h') (t':=s1.toks) λb o e=>hx' b o (SO (Heap.lt_size e)) e
 show wpAny _ _ (assignInOrder [λv=>bindName X.env y v,λv=>bindName X.env x v] [u2,u1] >>= λ_=>pure Flow.next) _ _ _
 refine wpAny_bind (assignInOrder_cons (wpAny_bindName (gi I3 hN hj (.inl hy) rw' (λs2 I4=>?_) (.inr hy))))
 refine assignInOrder_cons (wpAny_bindName (gi I4 hN hi (.inl hx) rv (λs3 I5=>assignInOrder_nil (wpAny_pure ?_)) (.inr hx)))
 rw [List.set_comm _ _ (Ne.symm hij)] at I5
 exact ⟨_,H1,I5,q1⟩
def QL (i:Nat) (te:TE) (ti:O3):TS:=λD σ H=>∃x,σ[i]?=some (some x)∧te σ H λy H1=>ti x y H1 λz H2=>D.nx (σ.set i (some z)) H2
theorem Lr {i:Nat} {x:Str} {e:Expr} {te:TE} {op:Operator} {ti:O3} {pos':Pos} (hN:X.N.Nodup) (hi:X.N[i]?=some x) (hx:Loc X.env.scope x) (he:PE X e te) (ho:Pq X op ti) (hf:X.fn x=true∨X.env.scope.names.lookup x=some .local:=by first | exact .inl rfl | exact .inr rfl | assumption) :
  PS X (.AugAssign (.Name x pos') op e pos) (QL i te ti):=by
 intro pins s σ H D I h
 obtain ⟨v,e1,h⟩:=h
 obtain ⟨m,hn,hl⟩:=I.loc
 have vis:wN X.env.scope x:=by rcases hx with k | k;exact .inl k;exact .inr (.inl k)
 obtain ⟨u,r,l⟩:=hl i x v hi e1 vis
 refine wpAny_AugAssign_Name ?_
 have go:wpAny (model X.prog X.w) X.A (eval e X.env) (λw s₂=>wpAny (model X.prog X.w) X.A (inplaceOp op u w) (λr s₃=>wpAny (model X.prog X.w) X.A (storeName X.env x r) (λ_=>SP X pins D .next) X.xe s₃) X.xe s₂) X.xe s:=by
  refine b9 (he pins s σ H _ I h) λw s1 ⟨y,H1,I1,r1,q1⟩=>?_
  refine b9 (ho pins s1 σ H1 v y u w _ I1 r r1 q1) λz s2 ⟨zv,H2,I2,r2,q2⟩=>?_
  exact gi I2 hN hi hx r2 (λs3 I3=>⟨_,H2,I3,q2⟩) hf
 rcases l with ⟨hk,hm⟩ | ⟨hk,c,hc,hcell⟩
 ·exact wpAny_loadName_local I.ok.kind hk hn hm go
 ·rcases hk with hk | hk
  ·exact wpAny_loadName_cell I.ok.kind hk hc hcell go
  ·rcases hx with k | k
   ·have:X.env.scope.names.lookup x=some .free:=hk
    rw [k] at this;cases this
   ·have:X.env.scope.names.lookup x=some .free:=hk
    rw [k] at this;cases this
def Sa (f:Int→Int→Int):O3:=λx y H Q=>∃i j,x=.int i∧y=.int j∧Q (.int (f i j)) H
theorem KC:Pq X .Sub (Sa λi j=>i - j):=by
 intro pins s σ H x y v u Q I r1 r2 h
 obtain ⟨i,j,e1,e2,q⟩:=h
 subst e1;subst e2
 obtain ⟨t,rfl⟩:=r1
 obtain ⟨t',rfl⟩:=r2
 exact isub_int ⟨.int _,H,I.tok _,⟨_,rfl⟩,q⟩
end
section
variable {X:Cx} {pos:Pos}
def wI (c:TT) (tb:TS):TS:=λD σ H=>∃W:Nat→St→Hp→Prop,(∃m,W m σ H)∧∀m σ H,W m σ H →
 c σ H λb H1=>if b=true then ∃N:St→Hp→Prop,(∀σ' H',N σ' H'→∃m',m' < m∧W m' σ' H')∧tb { D with nx:=N,ct:=N,bk:=D.nx } σ H1 else D.nx σ H1
theorem j0 {c:Expr} {body:List Stmt} {tc:TT} {tb:TS} (hp:PassesOwn (model X.prog X.w) X.A X.env X.xe) (hc:PT X c tc) (hb:tN X body tb):PS X (.While c body [] pos) (wI tc tb):=by
 intro pins s σ H D I h
 obtain ⟨W,⟨m0,w0⟩,turn⟩:=h
 refine wpAny_While (codeAny_whileLoop (λn s'=>∃σ' H',Inv X pins σ' H' s'∧W n σ' H') ?_ m0 ⟨σ,H,I,w0⟩)
 rintro n s1 ⟨σ1,H1,I1,w1⟩
 refine wpAny_passesOwn hp (b9 (hc pins s1 σ1 H1 _ I1 (turn n σ1 H1 w1)) λb s2 ⟨H2,I2,q2⟩=>?_)
 cases b with
 | true =>
  obtain ⟨N,hN,q2⟩:=q2
  rw [if_pos rfl]
  refine wpAny_passesOwn hp (b9 (hb pins s2 σ1 H2 _ I2 q2) λf s3 q3=>?_)
  cases f with
  | next =>
   obtain ⟨σ3,H3,I3,n3⟩:=q3
   obtain ⟨m',hm,w3⟩:=hN σ3 H3 n3
   exact ⟨m',hm,σ3,H3,I3,w3⟩
  | cont =>
   obtain ⟨σ3,H3,I3,n3⟩:=q3
   obtain ⟨m',hm,w3⟩:=hN σ3 H3 n3
   exact ⟨m',hm,σ3,H3,I3,w3⟩
  | brk=>exact q3
  | ret v=>exact q3
 | false =>
  rw [if_neg SI]
  exact wpAny_execs_nil ⟨σ1,H2,I2,q2⟩
end
structure It where
 go:Nat→Hp→Prop
 yld:Nat→Hp→V→Hp→Prop
 stop:Nat→Hp→Prop
def kP (X:Cx) (pins:List (Addr × Obj)) (H:Hp) (b:Addr):Prop :=
 H b=none∧b≠X.env.locals∧b ∉ X.fs∧(b∈X.ex∨X.s₀.heap.objs.size≤b)∧(∀x c,X.env.cells.lookup x=some c→c≠b)∧∀p∈X.pn ++ pins,p.1≠b
theorem Inv.D_ {X:Cx} {pins:List (Addr × Obj)} {σ:St} {H H':Hp} {s:Shared} {b:Addr} (I:Inv X pins σ H s) (hb:s.heap.objs.size≤b) (hn:H' b=none):kP X pins H' b:=by
 refine ⟨hn,UG (SK I.lt hb),I.Qj hb,.inr (SM I.sz hb),λx c e z=>?_,λp hp z=>?_⟩
 ·obtain ⟨v,q⟩:=I.cell x c e
  exact absurd (SK q.lt (by rw [z];exact hb)) (Tr _)
 ·exact absurd (SK (Heap.lt_size (I.pin p hp).1) (by rw [z];exact hb)) (Tr _)
structure Turn (P:Program) (w:World) (K:PySem.W.Frag) (tg:Expr) (J:It) (fp:List Addr) (it:Addr) (tn:Nat→Heap→Prop):Prop where
 mem:it∈fp
 obj:∀i h,tn i h→∀b∈fp,∃o,h.get? b=some o∧∀v,o.data≠.cell v
 keep:∀i h h',tn i h→(∀b∈fp,∀o,h.get? b=some o→h'.get? b=some o)→tn i h'
 item:∀(X:Cx),X.prog=P→X.w=w→X.K=K→X.calm=true→∀(i:Nat) (pins:List (Addr × Obj)) (s:Shared) (σ:St) (H:Hp) (E:Value→Shared→Prop),Inv X pins σ H s→(∀b∈fp,kP X pins H b)→tn i s.heap→J.go i H →
  wpAny (model P w) X.A (pyNext (.ref it)) (λr s1=>∃u,r=some u ∧
   wpAny (model P w) X.A (letOwnedTupleGo tg (.ref it) u) (λ_ s2=>∃x H',Inv X pins σ H' s2∧RelV x u∧J.yld i H x H'∧tn (i + 1) s2.heap∧∀b∈fp,H' b=none) E s1) E s
 done:∀(X:Cx),X.prog=P→X.w=w→X.K=K→X.calm=true→∀(i:Nat) (pins:List (Addr × Obj)) (s:Shared) (σ:St) (H:Hp) (E:Value→Shared→Prop),Inv X pins σ H s→(∀b∈fp,kP X pins H b)→tn i s.heap→J.stop i H →
  wpAny (model P w) X.A (pyNext (.ref it)) (λr s1=>r=none∧Inv X pins σ H s1) E s
 self:∀(A:Around) (i:Nat) (s:Shared) (Q:Value→Shared→Prop) (E:Value→Shared→Prop),tn i s.heap→Q (.ref it) s→wpAny (model P w) A (pyIter (.ref it)) Q E s
abbrev TI:=St→Hp→(It→Hp→Prop)→Prop
def Rn (X:Cx) (pins:List (Addr × Obj)) (σ:St) (tg:Expr) (R:It→Hp→Prop) (itv:Value) (s2:Shared):Prop :=
 ∃(it:Addr) (fp:List Addr) (tn:Nat→Heap→Prop) (J:It) (H':Hp),itv=.ref it∧Inv X pins σ H' s2∧Turn X.prog X.w X.K tg J fp it tn∧tn 0 s2.heap∧(∀b∈fp,kP X pins H' b)∧R J H'
def PI (X:Cx) (tg iter:Expr) (wi:TI):Prop :=
 ∀(pins:List (Addr × Obj)) (s:Shared) (σ:St) (H:Hp) (R:It→Hp→Prop),Inv X pins σ H s→wi σ H R →
  wpAny (model X.prog X.w) X.A (eval iter X.env) (λv s1=>wpAny (model X.prog X.w) X.A (pyIter v) (Rn X pins σ tg R) X.xe s1) X.xe s
theorem Ee {M:Model} {A:Around} {E:Value→Shared→Prop} {s:Shared} {tg:Expr} {it:Addr} {u:Value} {o:Obj} {n:String} {vs:Array Value} {Q:Unit→Shared→Prop} (ho:s.heap.get? it=some o) (hc:o.cls=.type n) (hd:o.data=.fields vs)
  (hn:["enumerate","zip","dict_itemiterator","dict_reverseitemiterator","odict_iterator","itertools.zip_longest","itertools.pairwise"].contains n=false) (hQ:Q () s):wpAny M A (letOwnedTupleGo tg (.ref it) u) Q E s:=by
 unfold letOwnedTupleGo
 cases tg <;> first
  | exact wpAny_pure hQ
  | (cases u <;> first
    | exact wpAny_pure hQ
    | (refine wpAny_bind (wpAny_load ho ?_)
       rw [hc,hd]
       show wpAny M A (if (["enumerate","zip","dict_itemiterator","dict_reverseitemiterator","odict_iterator","itertools.zip_longest","itertools.pairwise"].contains n && vs[0]? == some (rawInt _))=true then _ else _) Q E s
       rw [if_neg (by intro h;rw [hn,Bool.false_and] at h;cases h)]
       exact wpAny_pure hQ))
def Gw (K:PySem.W.Frag) (a:Addr):It :=
 ⟨λi H=>∃xs x,cF K H a xs∧xs[i]?=some x,λi H x H'=>H'=H∧∀xs,cF K H a xs→xs[i]?=some x,λi H=>∃xs,cF K H a xs∧xs.length≤i⟩
def R1 (K:PySem.W.Frag) (a:Addr):It :=
 ⟨λi H=>∃xs x,gr K H a xs∧xs[i]?=some x,λi H x H'=>H'=H∧∀xs,gr K H a xs→xs[i]?=some x,λi H=>∃xs,gr K H a xs∧xs.length≤i⟩
def DC (lo:Int) (n:Nat):It:=⟨λi _=>i < n,λi H x H'=>H'=H∧x=.int (lo + i),λi _=>n≤i⟩
theorem Dj {P:Program} {w:World} {K:PySem.W.Frag} {tg:Expr} (a it:Addr):Turn P w K tg (Gw K a) [it] it (λi h=>h.IsListIter it a i) where
 mem:=by simp
 obj:=λi h st b hb=>by
  have e:b=it:=by simpa using hb
  subst e
  obtain ⟨o,e,c,d⟩:=st
  exact ⟨o,e,λv z=>by rw [d] at z;cases z⟩
 keep:=λi h h' st k=>st.at λo e=>k it (by simp) o e
 item:=by
  intro X hP hw hK hc i pins s σ H E I hf st hg
  subst hP hw hK
  obtain ⟨xs,x,hq,hx⟩:=hg
  obtain ⟨its,rv,p,hz⟩:=I.list hq
  obtain ⟨u,hu,ru⟩:=rv.get hx
  obtain ⟨f0,f1,f2,f3,f4,f5⟩:=hf it (by simp)
  refine wpAny_pyNext_list_item st p.isList (x:=u) (by simpa using hu) λh' st' sb=>?_
  have I1:Inv X pins σ H { s with heap:=h' }:=I.turned (t':=s.toks) (λb o hb e=>(sb.2 b hb).trans e) f0 f1 f3 f4 f5
  obtain ⟨o,e,c,d⟩:=id st'
  exact ⟨u,rfl,Ee (s:={ s with heap:=h' }) e c d (by decide) ⟨x,H,I1,ru,⟨rfl,λys hy=>by rw [I.jE hy hq];exact hx⟩,st',λb hb=>(hf b hb).1⟩⟩
 done:=by
  intro X hP hw hK hc i pins s σ H E I hf st hg
  subst hP hw hK
  obtain ⟨xs,hq,hx⟩:=hg
  obtain ⟨its,rv,p,hz⟩:=I.list hq
  obtain ⟨f0,f1,f2,f3,f4,f5⟩:=hf it (by simp)
  have hl:=rv.length
  exact wpAny_pyNext_list_end (I.ok.hd hc) st p.isList (by simp;omega) λh' eb=>⟨rfl,I.turned (t':=s.toks) (λb o hb e=>eb b o hb e) f0 f1 f3 f4 f5⟩
 self:=λ_ _ _ _ _ st h=>wpAny_pyIter_listiter st h
theorem As {P:Program} {w:World} {K:PySem.W.Frag} {tg:Expr} (it:Addr) (lo:Int) (n:Nat):Turn P w K tg (DC lo n) [it] it (λi h=>IsRangeIter h it (lo + (i:Nat) * 1) ((n:Int) - (i:Nat)) 1) where
 mem:=by simp
 obj:=λi h st b hb=>by
  have e:b=it:=by simpa using hb
  subst e
  exact ⟨_,st,λv z=>by
   have z':Data.fields _=Data.cell v:=z
   cases z'⟩
 keep:=λi h h' st k=>k it (by simp) _ st
 item:=by
  intro X hP hw hK hc i pins s σ H E I hf st hg
  subst hP hw hK
  obtain ⟨f0,f1,f2,f3,f4,f5⟩:=hf it (by simp)
  have W:=Walks.range (prog:=X.prog) (w:=X.w) (I.ok.hd hc) it lo 1 n
  refine W.item i s _ _ hg st λv h' tk hv st' kk=>?_
  obtain ⟨t,rfl⟩:=hv
  have I1:Inv X pins σ H { s with heap:=h',toks:=tk }:=I.turned (λb o hb e=>kk b o (by simpa using hb) e) f0 f1 f3 f4 f5
  refine ⟨_,rfl,Ee (s:={ s with heap:=h',toks:=tk }) (n:="range_iterator") st' rfl rfl (by decide) ⟨.int (lo + i),H,I1,⟨t,?_⟩,⟨rfl,rfl⟩,st',λb hb=>(hf b hb).1⟩⟩
  rw [Int.mul_one]
 done:=by
  intro X hP hw hK hc i pins s σ H E I hf st hg
  subst hP hw hK
  obtain ⟨f0,f1,f2,f3,f4,f5⟩:=hf it (by simp)
  exact wpAny_pyNext_range_end (I.ok.hd hc) st (by have:n≤i:=hg;omega) λh' eb=>⟨rfl,I.turned (t':=s.toks) (λb o hb e=>eb b o hb e) f0 f1 f3 f4 f5⟩
 self:=λ_ _ _ _ _ st h=>wpAny_pyIter_rangeiter st h
end L2
namespace L2
open PySem PySem.Spec PyProof.Rows
section
variable {X:Cx} {tg:Expr}
def A6 (K:PySem.W.Frag) (tl:TE):TI:=λσ H R=>tl σ H λx H1=>∃a,x=.ref a∧(∃xs,cF K H1 a xs)∧R (Gw K a) H1
def PM (K:PySem.W.Frag) (tl:TE):TI:=λσ H R=>tl σ H λx H1=>∃a,x=.ref a∧(∃xs,gr K H1 a xs)∧R (R1 K a) H1
theorem mM {l:Expr} {tl:TE} (hl:PE X l tl):PI X tg l (A6 X.K tl):=by
 intro pins s σ H R I h
 refine b9 (hl pins s σ H _ I h) λv s1 ⟨x,H1,I1,r1,q1⟩=>?_
 obtain ⟨a,e,⟨xs,hq⟩,q⟩:=q1
 subst e
 cases r1
 obtain ⟨its,rv,p,hz⟩:=I1.list hq
 refine wpAny_pyIter_list p.isList ?_
 refine ⟨s1.heap.objs.size,[s1.heap.objs.size],_,_,H1,rfl,I1.kept (t':=s1.toks) λb o e=>Heap.get?_push_of_some _ e,Dj a _,⟨_,Heap.get?_push_size _ rfl,rfl,rfl⟩,λb hb=>?_,q⟩
 have e:b=s1.heap.objs.size:=by simpa using hb
 subst e
 exact I1.D_ (Ss _) (I1.hok.fresh (Ss _))
theorem Fw {pins:List (Addr × Obj)} {σ:St} {H:Hp} {s:Shared} {R:It→Hp→Prop} {E:Value→Shared→Prop} {lo hi:Int} {t u v:Tok} {tk:Nat} (I:Inv X pins σ H s) (h1:-(2 ^ 62)≤lo) (h2:lo < 2 ^ 62) (h3:-(2 ^ 62)≤hi) (h4:hi < 2 ^ 62)
  (q:R (DC lo (hi - lo).toNat) H):wpAny (model X.prog X.w) X.A (pyIter (.ref s.heap.objs.size)) (Rn X pins σ tg R) E { s with heap:=s.heap.push { cls:=.type "range",data:=.fields #[.int lo t,.int hi u,.int 1 v] },toks:=tk }:=by
 refine wpAny_pyIter_range (IsRange.new ..) (small_one h1 h2 h3 h4) ?_
 have I1:Inv X pins σ H { s with heap:=s.heap.push { cls:=.type "range",data:=.fields #[.int lo t,.int hi u,.int 1 v] },toks:=tk }:=I.kept λb o e=>Heap.get?_push_of_some _ e
 refine ⟨(s.heap.push { cls:=.type "range",data:=.fields #[.int lo t,.int hi u,.int 1 v] }).objs.size,[(s.heap.push { cls:=.type "range",data:=.fields #[.int lo t,.int hi u,.int 1 v] }).objs.size],_,_,H,rfl,
  I1.kept (t':=tk) λb o e=>Heap.get?_push_of_some _ e,As _ lo (hi - lo).toNat,?_,λb hb=>?_,q⟩
 ·have e1:lo + ((0:Nat):Int) * 1=lo:=by simp
  have e2:(((hi - lo).toNat:Nat):Int) - ((0:Nat):Int)=Builtin.Range.rangeSize lo hi 1:=by rw [rangeSize_one];split <;> omega
  show IsRangeIter _ _ (lo + ((0:Nat):Int) * 1) ((((hi - lo).toNat:Nat):Int) - ((0:Nat):Int)) 1
  rw [e1,e2]
  exact Heap.get?_push_size _ rfl
 ·have e:b=(s.heap.push { cls:=.type "range",data:=.fields #[.int lo t,.int hi u,.int 1 v] }).objs.size:=by simpa using hb
  subst e
  exact I1.D_ (Ss _) (I1.hok.fresh (Ss _))
def A7 (ta:TA):TI:=λσ H R=>ta σ H λvs H1=>∃j:Int,vs=[.int j]∧-(2 ^ 62)≤j∧j < 2 ^ 62∧R (DC 0 j.toNat) H1
def IT (ta:TA):TI:=λσ H R=>ta σ H λvs H1=>∃i j:Int,vs=[.int i,.int j]∧(-(2 ^ 62)≤i∧i < 2 ^ 62∧-(2 ^ 62)≤j∧j < 2 ^ 62)∧R (DC i (j - i).toNat) H1
theorem fK {a:Expr} {ta:TA} {p pos:Pos} (hg:Gl X "range") (hm:X.mg "range"=none) (ha:PA X [a] ta) (hs:starEach [a] X.env=[(false,eval a X.env)]:=by rfl):PI X tg (.Call (.Name "range" p) [a] [] pos) (A7 ta):=by
 intro pins s σ H R I h
 refine Call_ (lI I hg hm boot_range (PyProof.Rows.callWith_type1 (b9 (ha pos pins s σ H _ I h) λus s1 ⟨vs,H1,I1,r1,q1⟩=>?_) hs rfl))
 obtain ⟨j,e,q1,q2,q⟩:=q1
 subst e
 cases r1 with
 | cons r rr =>
  cases rr
  obtain ⟨t,rfl⟩:=r
  exact call_range_1 (Fw I1 (by omega) (by omega) q1 q2 (by simpa using q))
def Mb (wi:TI) (g:TG) (tb:TS):TS:=λD σ H=>wi σ H λJ H1=>∃W:Nat→Nat→St→Hp→Prop,(∃m,W 0 m σ H1)∧∀i m σ H,W i m σ H →
 (J.stop i H∧D.nx σ H)∨(J.go i H∧∃N:St→Hp→Prop,(∀σ' H',N σ' H'→∃m',m' < m∧W (i + 1) m' σ' H')∧∀x H',J.yld i H x H'→g x σ H' λσ2 H2=>tb { D with nx:=N,ct:=N,bk:=D.nx } σ2 H2)
def vD (fp:List Addr) (h:Heap):List (Addr × Obj):=fp.filterMap λb=>(h.get? b).map λo=>(b,o)
theorem cv {fp:List Addr} {h:Heap} {b:Addr} {o:Obj} (hb:b∈fp) (e:h.get? b=some o):(b,o)∈vD fp h:=Um.mpr ⟨b,hb,by rw [e];rfl⟩
theorem CP {fp:List Addr} {h:Heap} {p:Addr × Obj} (hp:p∈vD fp h):p.1∈fp∧h.get? p.1=some p.2:=by
 obtain ⟨b,hb,e⟩:=Um.mp hp
 cases q:h.get? b with
 | none=>rw [q] at e;cases e
 | some o =>
  rw [q] at e
  have e':(b,o)=p:=Option.some.inj e
  subst e'
  exact ⟨hb,q⟩
theorem Inv.pinned {pins:List (Addr × Obj)} {σ:St} {H:Hp} {s:Shared} {fp:List Addr} (I:Inv X pins σ H s) (hf:∀b∈fp,kP X pins H b) (ho:∀b∈fp,∃o,s.heap.get? b=some o∧∀v,o.data≠.cell v):Inv X (pins ++ vD fp s.heap) σ H s :=
 I.Bo λp hp=>(SD.mp hp).elim (λz=>I.pin p (SF _ z)) λz=>by
  obtain ⟨hb,e⟩:=CP z
  obtain ⟨f0,f1,f2,_⟩:=hf p.1 hb
  obtain ⟨o,e',d⟩:=ho p.1 hb
  rw [e] at e';cases e'
  exact ⟨e,f0,f1,f2,d⟩
theorem Inv.gj {pins pl:List (Addr × Obj)} {σ:St} {H:Hp} {s:Shared} (I:Inv X (pins ++ pl) σ H s):Inv X pins σ H s:=I.Bo λp hp=>I.pin p (SF _ (UO _ hp))
theorem oa {iter:Expr} {body:List Stmt} {wi:TI} {g:TG} {tb:TS} {pos:Pos} (hp:PassesOwn (model X.prog X.w) X.A X.env X.xe) (hc:X.calm=true) (hi:PI X tg iter wi) (hg:PG X tg g) (hb:tN X body tb)
  (hs:∀x,foldedSetIterable iter X.env x=pure x:=by intro _;rfl):PS X (.For tg iter body [] pos) (Mb wi g tb):=by
 intro pins s σ H D I h
 refine wpAny_For (b9 (hi pins s σ H _ I h) λv s1 h1=>b9 h1 λitv s2 h2=>?_) hs
 obtain ⟨it,fp,tn,J,H2,e,I2,T,st2,f2,W,⟨m0,w0⟩,turn⟩:=h2
 subst e
 have stat:∀{H':Hp},(∀b∈fp,H' b=none)→∀b∈fp,kP X pins H' b:=λhn b hb=>⟨hn b hb,(f2 b hb).2⟩
 refine codeAny_forLoop_any (λn s'=>∃i σ' H',Inv X pins σ' H' s'∧tn i s'.heap∧(∀b∈fp,H' b=none)∧W i n σ' H') ?_ m0 ⟨0,σ,H2,I2,st2,λb hb=>(f2 b hb).1,w0⟩
 rintro n s3 ⟨i,σ3,H3,I3,st3,fr3,w3⟩
 rcases turn i n σ3 H3 w3 with ⟨stop,qn⟩ | ⟨go,N,hN,step⟩
 ·refine wpAny_passesOwn hp (b9 (T.done X rfl rfl rfl hc i pins s3 σ3 H3 X.xe I3 (stat fr3) st3 stop) λr s4 ⟨hr,I4⟩=>?_)
  subst hr
  exact wpAny_execs_nil ⟨σ3,H3,I4,qn⟩
 ·refine wpAny_passesOwn hp (b9 (T.item X rfl rfl rfl hc i pins s3 σ3 H3 X.xe I3 (stat fr3) st3 go) λr s4 ⟨u,hr,h4⟩=>?_)
  subst hr
  refine wpAny_passesOwn hp (b9 h4 λ_ s5 ⟨x,H5,I5,r5,y5,st5,fr5⟩=>?_)
  have I5':=I5.pinned (stat fr5) (T.obj _ _ st5)
  refine wpAny_passesOwn hp (b9 (hg _ s5 σ3 H5 x u _ I5' r5 (step x H5 y5)) λ_ s6 ⟨σ6,H6,I6,q6⟩=>?_)
  refine wpAny_passesOwn hp (b9 (hb _ s6 σ6 H6 _ I6 q6) λf s7 q7=>?_)
  have again:∀{σ7:St} {H7:Hp},Inv X (pins ++ vD fp s5.heap) σ7 H7 s7→N σ7 H7→∃m,m < n∧∃i σ' H',Inv X pins σ' H' s7∧tn i s7.heap∧(∀b∈fp,H' b=none)∧W i m σ' H':=λ{σ7 H7} I7 n7=>by
   obtain ⟨m',hm,w7⟩:=hN σ7 H7 n7
   refine ⟨m',hm,i + 1,σ7,H7,I7.gj,T.keep _ _ _ st5 λb hb o e=>(I7.pin (b,o) (SF _ (SF _ (cv hb e)))).1,λb hb=>?_,w7⟩
   obtain ⟨o,e,d⟩:=T.obj _ _ st5 b hb
   exact (I7.pin (b,o) (SF _ (SF _ (cv hb e)))).2.1
  cases f with
  | next=>obtain ⟨σ7,H7,I7,n7⟩:=q7;exact again I7 n7
  | cont=>obtain ⟨σ7,H7,I7,n7⟩:=q7;exact again I7 n7
  | brk=>obtain ⟨σ7,H7,I7,q7⟩:=q7;exact ⟨σ7,H7,I7.gj,q7⟩
  | ret v=>obtain ⟨x7,σ7,H7,I7,r7,q7⟩:=q7;exact ⟨x7,σ7,H7,I7.gj,r7,q7⟩
end
theorem D9 {K:PySem.W.Frag} {a:Addr} {xs:List V} {g:TG} {tb:TS} {D:Ends} {σ:St} {H:Hp} (Pv:Nat→St→Hp→Prop) (h0:Pv 0 σ H) (hl:∀i σ H,i≤xs.length→Pv i σ H→cF K H a xs)
  (hs:∀i x σ H,xs[i]?=some x→Pv i σ H→g x σ H λσ2 H2=>tb { D with nx:=Pv (i + 1),ct:=Pv (i + 1),bk:=D.nx } σ2 H2) (hd:∀σ H,Pv xs.length σ H→D.nx σ H) :
  ∃W:Nat→Nat→St→Hp→Prop,(∃m,W 0 m σ H)∧∀i m σ H,W i m σ H →
   ((Gw K a).stop i H∧D.nx σ H)∨((Gw K a).go i H∧∃N:St→Hp→Prop,(∀σ' H',N σ' H'→∃m',m' < m∧W (i + 1) m' σ' H')∧∀x H',(Gw K a).yld i H x H'→g x σ H' λσ2 H2=>tb { D with nx:=N,ct:=N,bk:=D.nx } σ2 H2):=by
 refine ⟨λi m σ H=>m=xs.length - i∧i≤xs.length∧Pv i σ H,⟨xs.length,by simp,SY _,h0⟩,?_⟩
 rintro i m σ H ⟨rfl,hi,p⟩
 have q:=hl i σ H hi p
 by_cases hlt:i < xs.length
 ·refine .inr ⟨⟨xs,xs[i],q,by simp [hlt]⟩,Pv (i + 1),λσ' H' p'=>⟨xs.length - (i + 1),by omega,rfl,hlt,p'⟩,λx H' y=>?_⟩
  obtain ⟨e,y⟩:=y
  subst e
  exact hs i x σ _ (y xs q) p
 ·have e:i=xs.length:=by omega
  subst e
  exact .inl ⟨⟨xs,q,Ss _⟩,hd σ H p⟩
theorem tY {lo:Int} {n:Nat} {g:TG} {tb:TS} {D:Ends} {σ:St} {H:Hp} (Pv:Nat→St→Hp→Prop) (h0:Pv 0 σ H)
  (hs:∀i σ H,i < n→Pv i σ H→g (.int (lo + i)) σ H λσ2 H2=>tb { D with nx:=Pv (i + 1),ct:=Pv (i + 1),bk:=D.nx } σ2 H2) (hd:∀σ H,Pv n σ H→D.nx σ H) :
  ∃W:Nat→Nat→St→Hp→Prop,(∃m,W 0 m σ H)∧∀i m σ H,W i m σ H →
   ((DC lo n).stop i H∧D.nx σ H)∨((DC lo n).go i H∧∃N:St→Hp→Prop,(∀σ' H',N σ' H'→∃m',m' < m∧W (i + 1) m' σ' H')∧∀x H',(DC lo n).yld i H x H'→g x σ H' λσ2 H2=>tb { D with nx:=N,ct:=N,bk:=D.nx } σ2 H2):=by
 refine ⟨λi m σ H=>m=n - i∧i≤n∧Pv i σ H,⟨n,by simp,SY _,h0⟩,?_⟩
 rintro i m σ H ⟨rfl,hi,p⟩
 by_cases hlt:i < n
 ·refine .inr ⟨hlt,Pv (i + 1),λσ' H' p'=>⟨n - (i + 1),by omega,rfl,hlt,p'⟩,λx H' y=>?_⟩
  obtain ⟨e,y⟩:=y
  subst e y
  exact hs i σ _ hlt p
 ·have e:i=n:=by omega
  subst e
  exact .inl ⟨Ss _,hd σ H p⟩
theorem yF {c:TT} {tb:TS} {D:Ends} {σ:St} {H:Hp} (Pv:St→Hp→Prop) (μ:St→Hp→Nat) (h0:Pv σ H)
  (hs:∀σ H,Pv σ H→c σ H λb H1=>if b=true then tb { D with nx:=λσ' H'=>Pv σ' H'∧μ σ' H' < μ σ H,ct:=λσ' H'=>Pv σ' H'∧μ σ' H' < μ σ H,bk:=D.nx } σ H1 else D.nx σ H1)
  (mono:∀σ H Q Q',(∀b H1,Q b H1→Q' b H1)→c σ H Q→c σ H Q'):wI c tb D σ H:=by
 refine ⟨λm σ H=>m=μ σ H∧Pv σ H,⟨_,rfl,h0⟩,?_⟩
 rintro m σ H ⟨rfl,p⟩
 refine mono σ H _ _ (λb H1 q=>?_) (hs σ H p)
 cases b with
 | true=>exact ⟨_,λσ' H' ⟨p',l⟩=>⟨_,l,rfl,p'⟩,q⟩
 | false=>exact q
end L2
namespace L2
open PySem PySem.Spec PyProof.Rows
abbrev R2:=V→V→Hp→VK→Prop
def eO (X:Cx) (f:Value→Value→Sem Value) (r:R2):Prop :=
 ∀(pins:List (Addr × Obj)) (s:Shared) (σ:St) (H:Hp) (x y:V) (v u:Value) (Q:VK),Inv X pins σ H s→RelV x v→RelV y u→r x y H Q →
  wpAny (model X.prog X.w) X.A (f v u) (EP X pins σ Q) X.xe s
def w6 (X:Cx) (f:Value→Sem Value) (r:V→Hp→VK→Prop):Prop :=
 ∀(pins:List (Addr × Obj)) (s:Shared) (σ:St) (H:Hp) (x:V) (v:Value) (Q:VK),Inv X pins σ H s→RelV x v→r x H Q →
  wpAny (model X.prog X.w) X.A (f v) (EP X pins σ Q) X.xe s
def bT (X:Cx) (f:Value) (r:List V→Hp→VK→Prop):Prop :=
 ∀(pins:List (Addr × Obj)) (s:Shared) (σ:St) (H:Hp) (xs:List V) (us:List Value) (Q:VK),Inv X pins σ H s→Vals xs us→r xs H Q →
  wpAny (model X.prog X.w) X.A (call f us) (EP X pins σ Q) X.xe s
def Pu (X:Cx) (r:V→Hp→(Bool→Hp→Prop)→Prop):Prop :=
 ∀(pins:List (Addr × Obj)) (s:Shared) (σ:St) (H:Hp) (x:V) (v:Value) (Q:Bool→Hp→Prop),Inv X pins σ H s→RelV x v→r x H Q →
  wpAny (model X.prog X.w) X.A (truthy v) (TP X pins σ Q) X.xe s
def F5 (r:R2) (ta tb:TE):TE:=λσ H Q=>ta σ H λx H1=>tb σ H1 λy H2=>r x y H2 Q
def Pg (r:V→Hp→VK→Prop) (ta:TE):TE:=λσ H Q=>ta σ H λx H1=>r x H1 Q
def rI (C:Int→Int→Prop) (g:Int→Int→V):R2:=λx y H Q=>∃i j,x=.int i∧y=.int j∧C i j∧Q (g i j) H
def Gg (g:Int→Int→V):R2:=λx y H Q=>∃i j,x=.int i∧y=.int j∧Q (g i j) H
def rU (g:Int→V):V→Hp→VK→Prop:=λx H Q=>∃i,x=.int i∧Q (g i) H
section
variable {X:Cx} {a b c:Expr} {ta tb tc:TE} {pos:Pos}
theorem Kj (ha:PE X a ta) (hb:PE X b tb) {pins:List (Addr × Obj)} {s:Shared} {σ:St} {H:Hp} {R:V→V→Hp→Prop} (I:Inv X pins σ H s)
  (h:ta σ H λx H1=>tb σ H1 λy H2=>R x y H2) {Q:Value→Shared→Prop} {f:Value→Value→Sem Value}
  (hf:∀v u s2 x y H2,Inv X pins σ H2 s2→RelV x v→RelV y u→R x y H2→wpAny (model X.prog X.w) X.A (f v u) Q X.xe s2) :
  wpAny (model X.prog X.w) X.A (eval a X.env) (λv s₁=>wpAny (model X.prog X.w) X.A (eval b X.env) (λu s₂=>wpAny (model X.prog X.w) X.A (f v u) Q X.xe s₂) X.xe s₁) X.xe s:=by
 refine b9 (ha pins s σ H _ I h) λv s1 ⟨x,H1,I1,r1,q1⟩=>?_
 refine b9 (hb pins s1 σ H1 _ I1 q1) λu s2 ⟨y,H2,I2,r2,q2⟩=>?_
 exact hf v u s2 x y H2 I2 r1 r2 q2
theorem bj {op:Operator} {r:R2} (ho:eO X (binaryOp op) r) (ha:PE X a ta) (hb:PE X b tb):PE X (.BinOp a op b pos) (F5 r ta tb):=by
 intro pins s σ H Q I h
 exact wpAny_BinOp (Kj ha hb I h λv u s2 x y H2 I2 rx ry q=>ho pins s2 σ H2 x y v u Q I2 rx ry q)
theorem Bn {op:UnaryOp} {r:V→Hp→VK→Prop} (ho:w6 X (unaryOp op) r) (ha:PE X a ta):PE X (.UnaryOp op a pos) (Pg r ta):=by
 intro pins s σ H Q I h
 exact UnaryOp_ (b9 (ha pins s σ H _ I h) λv s1 ⟨x,H1,I1,r1,q1⟩=>ho pins s1 σ H1 x v Q I1 r1 q1)
theorem O9 {f:Value→Value→Sem Value} {C:Int→Int→Prop} {g:Int→Int→Int}
  (rule:∀(i j:Int) (t u:Tok) (s:Shared) (Q:Value→Shared→Prop) (E:Value→Shared→Prop),C i j→Q (.int (g i j) s.toks) { s with toks:=s.toks + 1 }→wpAny (model X.prog X.w) X.A (f (.int i t) (.int j u)) Q E s) :
  eO X f (rI C λi j=>.int (g i j)):=by
 intro pins s σ H x y v u Q I rx ry h
 obtain ⟨i,j,rfl,rfl,hc,q⟩:=h
 obtain ⟨t,rfl⟩:=rx
 obtain ⟨t',rfl⟩:=ry
 exact rule i j t t' s _ _ hc ⟨.int (g i j),H,I.tok _,⟨_,rfl⟩,q⟩
theorem NU {f:Value→Value→Sem Value} {g:Int→Int→Int}
  (rule:∀(i j:Int) (t u:Tok) (s:Shared) (Q:Value→Shared→Prop) (E:Value→Shared→Prop),Q (.int (g i j) s.toks) { s with toks:=s.toks + 1 }→wpAny (model X.prog X.w) X.A (f (.int i t) (.int j u)) Q E s) :
  eO X f (Gg λi j=>.int (g i j)):=by
 intro pins s σ H x y v u Q I rx ry h
 obtain ⟨i,j,rfl,rfl,q⟩:=h
 obtain ⟨t,rfl⟩:=rx
 obtain ⟨t',rfl⟩:=ry
 exact rule i j t t' s _ _ ⟨.int (g i j),H,I.tok _,⟨_,rfl⟩,q⟩
theorem Ht {f:Value→Value→Sem Value} {g:Int→Int→Bool}
  (rule:∀(i j:Int) (t u:Tok) (s:Shared) (Q:Value→Shared→Prop) (E:Value→Shared→Prop),Q (.bool (g i j)) s→wpAny (model X.prog X.w) X.A (f (.int i t) (.int j u)) Q E s) :
  eO X f (Gg λi j=>.bl (g i j)):=by
 intro pins s σ H x y v u Q I rx ry h
 obtain ⟨i,j,rfl,rfl,q⟩:=h
 obtain ⟨t,rfl⟩:=rx
 obtain ⟨t',rfl⟩:=ry
 exact rule i j t t' s _ _ ⟨.bl (g i j),H,I,rfl,q⟩
def Pk (i j:Int):Prop:=0≤j∧j≤1000000∧i.natAbs < 2 ^ 64
theorem iP:eO X (binaryOp .Add) (Gg λi j=>.int (i + j)):=NU λ_ _ _ _ _ _ _ q=>add_int q
theorem zH:eO X (binaryOp .Sub) (Gg λi j=>.int (i - j)):=NU λ_ _ _ _ _ _ _ q=>sub_int q
theorem f6:eO X (binaryOp .Mod) (rI (λ_ j=>0 < j) λi j=>.int (i % j)):=O9 λi j _ _ _ _ _ hc q=>by
 have h1:(0:Int) < j:=hc
 exact mod_int' (by omega) (by rw [Int.fmod_eq_emod_of_nonneg i (by omega)];exact q)
theorem E3:eO X (binaryOp .Pow) (rI Pk λi j=>.int (i ^ j.toNat)):=O9 λ_ _ _ _ _ _ _ hc q=>pow_int_small hc.1 hc.2.1 hc.2.2 q
theorem Sl {f:Value→Sem Value} {g:Int→Int}
  (rule:∀(i:Int) (t:Tok) (s:Shared) (Q:Value→Shared→Prop) (E:Value→Shared→Prop),Q (.int (g i) s.toks) { s with toks:=s.toks + 1 }→wpAny (model X.prog X.w) X.A (f (.int i t)) Q E s) :
  w6 X f (rU λi=>.int (g i)):=by
 intro pins s σ H x v Q I rx h
 obtain ⟨i,rfl,q⟩:=h
 obtain ⟨t,rfl⟩:=rx
 exact rule i t s _ _ ⟨.int (g i),H,I.tok _,⟨_,rfl⟩,q⟩
theorem F_:w6 X (unaryOp .USub) (rU λi=>.int (-i)):=Sl λ_ _ _ _ _ q=>neg_int q
end
def FH:V→V→Bool
 | .non,.non=>true | .non,.int _=>true | .int _,.non=>true | .non,.bl _=>true | .bl _,.non=>true | .non,.str _=>true | .str _,.non=>true
 | .int _,.int _=>true | .bl _,.bl _=>true | .str _,.str _=>true | .byt _,.byt _=>true
 | .int _,.str _=>true | .str _,.int _=>true | .bl _,.str _=>true | .str _,.bl _=>true
 | _,_=>false
def RN:R2:=λx y H Q=>FH x y=true∧Q (.bl (decide (x=y))) H
def RV:R2:=λx y H Q=>FH x y=true∧Q (.bl (!decide (x=y))) H
theorem AN {i j:Int}:decide (V.int i=V.int j)=(i == j):=by
 rw [Tw]
 simp
theorem DX {i j:Bool}:decide (V.bl i=V.bl j)=(i == j):=by
 rw [Tw]
 simp
theorem AO {i j:Str}:decide (V.str i=V.str j)=(i == j):=by
 rw [Tw]
 simp
theorem AM {i j:Array UInt8}:decide (V.byt i=V.byt j)=(i.toList == j.toList):=by
 rw [Tw]
 cases i
 cases j
 simp
section
variable {X:Cx} {a b c:Expr} {ta tb tc:TE} {pos:Pos}
theorem bq {pins:List (Addr × Obj)} {σ:St} {H:Hp} {s:Shared} {Q:VK} {k k':Bool} (I:Inv X pins σ H s) (q:Q (.bl k) H) (e:k=k'):EP X pins σ Q (.bool k') s:=by
 subst e
 exact ⟨.bl k,H,I,rfl,q⟩
theorem E1:eO X (compareOp .Eq) RN:=by
 intro pins s σ H x y v u Q I rx ry h
 obtain ⟨hs,q⟩:=h
 cases x with
 | non =>
  cases rx
  cases y with
  | non=>cases ry;exact PySem.EqNone.eq_none_none (bq I q (by simp))
  | bl j=>cases ry;exact PySem.EqNone.eq_none_bool (bq I q (by simp))
  | int j=>obtain ⟨t',rfl⟩:=ry;exact PySem.EqNone.eq_none_int (bq I q (by simp))
  | str j=>obtain ⟨t',rfl⟩:=ry;exact PySem.EqNone.eq_none_str (bq I q (by simp))
  | _=>exact absurd (show false=true from hs) SI
 | bl i =>
  cases rx
  cases y with
  | non=>cases ry;exact PySem.EqNone.eq_bool_none (bq I q (by simp))
  | bl j=>cases ry;exact eq_bool (bq I q DX)
  | str j=>obtain ⟨t',rfl⟩:=ry;exact PySem.EqMixed.eq_bool_str (bq I q (by simp))
  | _=>exact absurd (show false=true from hs) SI
 | int i =>
  obtain ⟨t,rfl⟩:=rx
  cases y with
  | non=>cases ry;exact PySem.EqNone.eq_int_none (bq I q (by simp))
  | int j=>obtain ⟨t',rfl⟩:=ry;exact eq_int (bq I q AN)
  | str j=>obtain ⟨t',rfl⟩:=ry;exact PySem.EqMixed.eq_int_str (bq I q (by simp))
  | _=>exact absurd (show false=true from hs) SI
 | str i =>
  obtain ⟨t,rfl⟩:=rx
  cases y with
  | non=>cases ry;exact PySem.EqNone.eq_str_none (bq I q (by simp))
  | bl j=>cases ry;exact PySem.EqMixed.eq_str_bool (bq I q (by simp))
  | int j=>obtain ⟨t',rfl⟩:=ry;exact PySem.EqMixed.eq_str_int (bq I q (by simp))
  | str j=>obtain ⟨t',rfl⟩:=ry;exact eq_str (bq I q AO)
  | _=>exact absurd (show false=true from hs) SI
 | byt i =>
  obtain ⟨t,rfl⟩:=rx
  cases y with
  | byt j=>obtain ⟨t',rfl⟩:=ry;exact PySem.W.eq_bytes (bq I q AM)
  | _=>exact absurd (show false=true from hs) SI
 | _=>cases y <;> exact absurd (show false=true from hs) SI
theorem Jm:eO X (compareOp .NotEq) RV:=by
 intro pins s σ H x y v u Q I rx ry h
 obtain ⟨hs,q⟩:=h
 cases x with
 | non =>
  cases rx
  cases y with
  | non=>cases ry;exact PySem.EqNone.ne_none_none (bq I q (by simp))
  | bl j=>cases ry;exact PySem.EqNone.ne_none_bool (bq I q (by simp))
  | int j=>obtain ⟨t',rfl⟩:=ry;exact PySem.EqNone.ne_none_int (bq I q (by simp))
  | str j=>obtain ⟨t',rfl⟩:=ry;exact PySem.EqNone.ne_none_str (bq I q (by simp))
  | _=>exact absurd (show false=true from hs) SI
 | bl i =>
  cases rx
  cases y with
  | non=>cases ry;exact PySem.EqNone.ne_bool_none (bq I q (by simp))
  | bl j=>cases ry;exact ne_bool (bq I q (congrArg not DX))
  | str j=>obtain ⟨t',rfl⟩:=ry;exact PySem.EqMixed.ne_bool_str (bq I q (by simp))
  | _=>exact absurd (show false=true from hs) SI
 | int i =>
  obtain ⟨t,rfl⟩:=rx
  cases y with
  | non=>cases ry;exact PySem.EqNone.ne_int_none (bq I q (by simp))
  | int j=>obtain ⟨t',rfl⟩:=ry;exact ne_int (bq I q (congrArg not AN))
  | str j=>obtain ⟨t',rfl⟩:=ry;exact PySem.EqMixed.ne_int_str (bq I q (by simp))
  | _=>exact absurd (show false=true from hs) SI
 | str i =>
  obtain ⟨t,rfl⟩:=rx
  cases y with
  | non=>cases ry;exact PySem.EqNone.ne_str_none (bq I q (by simp))
  | bl j=>cases ry;exact PySem.EqMixed.ne_str_bool (bq I q (by simp))
  | int j=>obtain ⟨t',rfl⟩:=ry;exact PySem.EqMixed.ne_str_int (bq I q (by simp))
  | str j=>obtain ⟨t',rfl⟩:=ry;exact ne_str (bq I q (congrArg not AO))
  | _=>exact absurd (show false=true from hs) SI
 | byt i =>
  obtain ⟨t,rfl⟩:=rx
  cases y with
  | byt j=>obtain ⟨t',rfl⟩:=ry;exact PySem.W.ne_bytes (bq I q (congrArg not AM))
  | _=>exact absurd (show false=true from hs) SI
 | _=>cases y <;> exact absurd (show false=true from hs) SI
theorem Bj:eO X (compareOp .Lt) (Gg λi j=>.bl (decide (i < j))):=Ht λ_ _ _ _ _ _ _ q=>lt_int q
theorem Jl:eO X (compareOp .LtE) (Gg λi j=>.bl (decide (i≤j))):=Ht λ_ _ _ _ _ _ _ q=>le_int q
theorem Jk:eO X (compareOp .Gt) (Gg λi j=>.bl (decide (j < i))):=Ht λ_ _ _ _ _ _ _ q=>gt_int q
theorem Jj:eO X (compareOp .GtE) (Gg λi j=>.bl (decide (j≤i))):=Ht λ_ _ _ _ _ _ _ q=>ge_int q
theorem C2:eO X (compareOp .Lt) (λx y H Q=>∃i j,x=.str i∧y=.str j∧Q (.bl (decide (i.cps.toList < j.cps.toList))) H):=by
 intro pins s σ H x y v u Q I rx ry h
 obtain ⟨i,j,rfl,rfl,q⟩:=h
 obtain ⟨t,rfl⟩:=rx
 obtain ⟨t',rfl⟩:=ry
 exact lt_str (bq I q rfl)
theorem Lf:eO X (compareOp .Is) (λx y H Q=>y=.non∧Q (.bl (decide (x=.non))) H):=by
 intro pins s σ H x y v u Q I rx ry h
 obtain ⟨rfl,q⟩:=h
 cases ry
 refine is_none_gen (bq I q ?_)
 cases x <;> first
  | (cases rx;rfl)
  | (obtain ⟨t,rfl⟩:=rx;rfl)
theorem Hw:eO X (compareOp .IsNot) (λx y H Q=>y=.non∧Q (.bl (!decide (x=.non))) H):=by
 intro pins s σ H x y v u Q I rx ry h
 obtain ⟨rfl,q⟩:=h
 cases ry
 refine isnot_none_gen (bq I q ?_)
 cases x <;> first
  | (cases rx;rfl)
  | (obtain ⟨t,rfl⟩:=rx;rfl)
theorem eO.or {f:Value→Value→Sem Value} {r r':R2} (h:eO X f r) (h':eO X f r'):eO X f (λx y H Q=>r x y H Q∨r' x y H Q):=by
 intro pins s σ H x y v u Q I rx ry q
 rcases q with q | q
 ·exact h pins s σ H x y v u Q I rx ry q
 ·exact h' pins s σ H x y v u Q I rx ry q
theorem eD (b:Expr) {op:CmpOp} (h:op≠.In:=by decide) (h2:op≠.NotIn:=by decide):behindInMarks op b=false:=by
 have e1:(op == CmpOp.In)=false:=by cases op <;> first | rfl | exact absurd rfl h
 have e2:(op == CmpOp.NotIn)=false:=by cases op <;> first | rfl | exact absurd rfl h2
 cases b <;> simp [behindInMarks,e1,e2]
theorem pM {op:CmpOp} {r:R2} (ho:eO X (compareOp op) r) (ha:PE X a ta) (hb:PE X b tb) (hm:behindInMarks op b=false):PE X (.Compare a [op] [b] pos) (F5 r ta tb):=by
 intro pins s σ H Q I h
 exact wpAny_Compare1 (Kj ha hb I h λv u s2 x y H2 I2 rx ry q=>ho pins s2 σ H2 x y v u Q I2 rx ry q) hm
def B9 (t:TE):TT:=λσ H Q=>t σ H λx H'=>∃k,x=.bl k∧Q k H'
theorem c_ {op:CmpOp} {r:R2} (ho:eO X (compareOp op) r) (ha:PE X a ta) (hb:PE X b tb) (hm:behindInMarks op b=false):PT X (.Compare a [op] [b] pos) (B9 (F5 r ta tb)):=by
 intro pins s σ H Q I h
 refine wpAny_isTrue_Compare1 (b9 (ha pins s σ H _ I h) λv s1 ⟨x,H1,I1,r1,q1⟩=>b9 (hb pins s1 σ H1 _ I1 q1) λu s2 ⟨y,H2,I2,r2,q2⟩ =>
  b9 (ho pins s2 σ H2 x y v u _ I2 r1 r2 q2) λc s3 ⟨z,H3,I3,r3,k,e,q3⟩=>?_) hm
 subst e
 cases r3
 exact wpAny_truthy_bool ⟨H3,I3,q3⟩
def F1 (r r':R2) (ta tb tc:TE):TE:=λσ H Q=>ta σ H λx H1=>tb σ H1 λy H2=>r x y H2 λz H3=>∃k,z=.bl k ∧
 (if k=true then tc σ H3 λw' H4=>r' y w' H4 Q else Q (.bl false) H3)
theorem Fb {op op':CmpOp} {r r':R2} (ho:eO X (compareOp op) r) (ho':eO X (compareOp op') r') (ha:PE X a ta) (hb:PE X b tb) (hc:PE X c tc)
  (hm:lastMarks [op,op'] [b,c]=false:=by with_unfolding_all rfl):PE X (.Compare a [op,op'] [b,c] pos) (F1 r r' ta tb tc):=by
 intro pins s σ H Q I h
 refine Compare_chain (b9 (ha pins s σ H _ I h) λv s1 ⟨x,H1,I1,r1,q1⟩=>chain_link (b9 (hb pins s1 σ H1 _ I1 q1) λu s2 ⟨y,H2,I2,r2,q2⟩ =>
  b9 (ho pins s2 σ H2 x y v u _ I2 r1 r2 q2) λd s3 ⟨z,H3,I3,r3,k,e,q3⟩=>?_)) hm
 subst e
 cases r3
 refine wpAny_truthy_bool ?_
 cases k with
 | false=>exact ite_ff ⟨.bl false,H3,I3,rfl,q3⟩
 | true=>exact ite_tt (chain_last (b9 (hc pins s3 σ H3 _ I3 q3) λw' s4 ⟨z',H4,I4,r4,q4⟩=>ho' pins s4 σ H4 y z' u w' Q I4 r2 r4 q4))
def Kc (K:PySem.W.Frag) (x:V) (H:Hp) (k:Bool):Prop :=
 match x with
 | .non=>k=false
 | .bl b=>k=b
 | .int i=>k=(i != 0)
 | .str y=>y.length≤sizeLine∧k=((y.length:Int) != 0)
 | .byt y=>y.size≤sizeLine∧k=((y.size:Int) != 0)
 | .ref p=>(∃xs,cF K H p xs∧k=!xs.isEmpty)∨(∃xs,gr K H p xs∧k=!xs.isEmpty)∨∃kvs ep,H p=some (.dE kvs ep)∧k=!kvs.isEmpty
 | _=>False
theorem zl {κ:Type} {kvs:List (κ × V)} {vs:List (κ × Value)} (r:KV kvs vs):(!vs.isEmpty)=!kvs.isEmpty:=by
 cases r <;> rfl
theorem qz {xs:List V} {its:List Value} (r:Vals xs its):(!its.toArray.isEmpty)=!xs.isEmpty:=by
 cases r <;> simp
theorem lK:(sizeLine:Nat) < 2 ^ 63:=by rw [sizeLine_eq];decide
theorem Mf:Pu X (λx H Q=>∃k,Kc X.K x H k∧Q k H):=by
 intro pins s σ H x v Q I rx h
 obtain ⟨k,e,q⟩:=h
 have hl:=lK
 have hs:sizeLine=16777216:=sizeLine_eq
 cases x with
 | non =>
  cases rx
  have e':k=false:=e
  subst e'
  exact truthy_none ⟨H,I,q⟩
 | bl b =>
  cases rx
  have e':k=b:=e
  subst e'
  exact wpAny_truthy_bool ⟨H,I,q⟩
 | int i =>
  obtain ⟨t,rfl⟩:=rx
  have e':k=(i != 0):=e
  subst e'
  exact PySem.P.truthy_int ⟨H,I,q⟩
 | str y =>
  obtain ⟨t,rfl⟩:=rx
  obtain ⟨hy,e'⟩:y.length≤sizeLine∧k=((y.length:Int) != 0):=e
  subst e'
  exact PySem.P.truthy_str (by omega) ⟨H,I.tok _,q⟩
 | byt y =>
  obtain ⟨t,rfl⟩:=rx
  obtain ⟨hy,e'⟩:y.size≤sizeLine∧k=((y.size:Int) != 0):=e
  subst e'
  exact PySem.W.truthy_bytes (by omega) ⟨H,I.tok _,q⟩
 | ref p =>
  cases rx
  have e':(∃xs,cF X.K H p xs∧k=!xs.isEmpty)∨(∃xs,gr X.K H p xs∧k=!xs.isEmpty)∨∃kvs ep,H p=some (.dE kvs ep)∧k=!kvs.isEmpty:=e
  rcases e' with ⟨xs,hx,e'⟩ | ⟨xs,hx,e'⟩ | ⟨kvs,ep,hx,e'⟩
  ·subst e'
   obtain ⟨its,r,pl,hz⟩:=I.list hx
   have hlen:=r.length
   exact wpAny_truthy_list pl.isList (by simp only [Sv];omega) ⟨H,I.tok _,by rw [qz r];exact q⟩
  ·subst e'
   obtain ⟨its,r,pl,hz⟩:=I.tuple hx
   have hlen:=r.length
   exact truthy_tuple pl (by simp only [Sv];omega) ⟨H,I.tok _,by rw [qz r];exact q⟩
  ·subst e'
   obtain ⟨hz,hS,vs,r,m⟩:kvs.length≤sizeLine∧(p == sysModules)=false∧∃vs,KV kvs vs∧s.heap.DictAt (strKind X.prog X.w) p vs ep:=I.hok p _ hx
   have hlen:kvs.length=vs.length:=Paired.length r
   exact wpAny_truthy_dict hS m.dictOf (by omega) ⟨H,I.tok _,by rw [zl r];exact q⟩
 | _=>exact (show False from e).elim
theorem Fi (ha:PE X a ta) (he:∀whole,isTrue a X.env whole=(do let v ← whole;standAt a.pos;holding [v] (truthy v))) :
  PT X a (λσ H Q=>ta σ H λx H'=>∃k,Kc X.K x H' k∧Q k H'):=by
 intro pins s σ H Q I h
 exact isTrue_plain (b9 (ha pins s σ H _ I h) λv s1 ⟨x,H1,I1,r1,q1⟩=>Mf pins s1 σ H1 x v Q I1 r1 q1) (he _)
theorem vals1 {x:V} {us:List Value} (r:Vals [x] us):∃u,us=[u]∧RelV x u:=by
 cases r with
 | cons r1 r2=>cases r2;exact ⟨_,rfl,r1⟩
theorem vals2 {x y:V} {us:List Value} (r:Vals [x,y] us):∃u w',us=[u,w']∧RelV x u∧RelV y w':=by
 cases r with
 | cons r1 r2 =>
  cases r2 with
  | cons r3 r4=>cases r4;exact ⟨_,_,rfl,r1,r3⟩
theorem mw:bT X (.builtin "abs") (λxs H Q=>∃i,xs=[.int i]∧Q (.int (if i < 0 then -i else i)) H):=by
 intro pins s σ H xs us Q I r h
 obtain ⟨i,rfl,q⟩:=h
 obtain ⟨u,rfl,t,rfl⟩:=vals1 r
 exact call_abs_int λu tk=>⟨.int (if i < 0 then -i else i),H,I.tok _,⟨_,rfl⟩,q⟩
end
end L2
namespace L2
open PySem PySem.Spec PyProof.Rows
structure yX (h:Heap) (x dx C:Addr) (mA:Str→Option Value):Prop where
 obj:h.get? x=some (PySem.W.instObj C dx)
 ns:h.Ns1 dx mA
 ne:dx≠x
theorem CI {h:Heap} {dx:Addr} {mA:Str→Option Value} (n:h.Ns1 dx mA):∃od,h.get? dx=some od∧∀name,PySem.W.lookIn name od=some (mA name):=by
 obtain ⟨o,es,ep,ho,hd,hk,_,hm⟩:=n
 refine ⟨o,ho,λname=>?_⟩
 have e:=hm name
 unfold nsFind findBy at e
 rw [← Array.find?_toList] at e
 unfold PySem.W.lookIn
 rw [hd]
 dsimp only
 split
 ·rename_i y q
  rw [q] at e
  exact congrArg some e
 ·rename_i q
  rw [q] at e
  have a:es.toList.any (·.refKey)=false:=by
   rw [List.any_eq_false]
   intro y hy
   obtain ⟨z,t,hkey⟩:=hk y (Array.mem_toList_iff.mp hy)
   simp [DictEntry.refKey,hkey]
  have a':¬ es.toList.any (·.refKey)=true:=by rw [a];exact SI
  rw [if_neg a']
  exact congrArg some e
theorem yX.look {h:Heap} {x dx C:Addr} {mA:Str→Option Value} (I:yX h x dx C mA):∃od,PySem.W.InstAt h x (PySem.W.instObj C dx) C (some od)∧∀name,PySem.W.lookIn name od=some (mA name) :=
 let ⟨od,ho,hl⟩:=CI I.ns
 ⟨od,⟨I.obj,rfl,rfl,ho⟩,hl⟩
section
variable {prog:Program} {w:World} {A:Around} {E:Value→Shared→Prop} {s:Shared} {K:PySem.W.Frag} {x dx C f:Addr} {mA:Str→Option Value} {name:Str} {v:Value}
theorem get_map {expr:Bool} {Q:Value→Shared→Prop} (X:K.In s.heap) (I:yX s.heap x dx C mA) (hg:PySem.W.plainGet K C name=true) (hh:PySem.W.hasDictIn K C=true)
  (ha:PySem.W.findIn K (.ref C) name=some none) (hv:mA name=some v) (hv':PySem.W.handedIn v=true) (h:Q v { s with toks:=s.toks + 1 }) :
  wpAny (model prog w) A (getAttr (.ref x) name expr) Q E s:=by
 obtain ⟨od,J,hl⟩:=I.look
 exact PySem.W.get_value X J (PySem.W.plainGet_of hg).1 (PySem.W.findObj_own hh ha rfl (by rw [hl,hv])) hv' h
theorem Ed {pl:Sem Bool} {Q:Value × List Value→Shared→Prop} (X:K.In s.heap) (I:yX s.heap x dx C mA) (hg:PySem.W.plainGet K C name=true)
  (hf:PySem.W.findIn K (.ref C) name=some (some (.ref f))) (ht:PySem.W.isFn K (.ref f)=true) (hv:mA name=none) (h:Q (.ref f,[.ref x]) s) :
  wpAny (model prog w) A (getMethod (.ref x) name pl) Q E s:=by
 obtain ⟨od,J,hl⟩:=I.look
 exact PySem.W.method_fn X J (PySem.W.plainGet_of hg).1 (PySem.W.plainGet_of hg).2 hf (beq_iff_eq.mp ht) (by show (PySem.W.lookIn name od).map (·.isSome)=some false;rw [hl,hv];rfl) h
theorem Io {ns:List Str} {Q:Unit→Shared→Prop} (X:K.In s.heap) (I:yX s.heap x dx C mA)
  (hs:PySem.W.findIn K (.ref C) "__setattr__"=some (some (.builtin "object.__setattr__"))) (hp:PySem.W.plainOver K C=true) (ht:PySem.W.takerIn K C name=some none) (hh:PySem.W.hasDictIn K C=true)
  (hw:PySem.Within mA ns) (hsz:ns.length≤sizeLine)
  (h:∀h',yX h' x dx C (λy=>if y=name then some v else mA y)→Heap.SameBut dx s.heap h'→Q () { s with heap:=h',toks:=s.toks + 2 }) :
  wpAny (model prog w) A (setAttr (.ref x) name v) Q E s:=by
 obtain ⟨od,J,hl⟩:=I.look
 refine PySem.W.set_plain X J hs (PySem.W.osa_open (s:={ s with toks:=s.toks + 1 }) (r:=none) X J hp ht λb=>?_)
 obtain ⟨cd,hc,hd'⟩:=PySem.W.any_some hh
 have hx:s.heap.get? x=some ⟨.ref C,some dx,.plain,#[]⟩:=I.obj
 refine wpAny_bind (wpAny_pure (wpAny_bind (wpAny_bind (wpAny_loadPart hx (wpAny_bind (PySem.W.Looks.here (s:={ s with toks:=s.toks + 1 }) (PySem.W.looks_clsIn X hc) ?_))))))
 rw [hd']
 refine wpAny_pure (a:=some dx) (wpAny_bind (wpAny_pure (wpAny_bind ?_)))
 refine wpAny_nsSet1 (s:={ s with toks:=s.toks + 1 }) I.ns λh' hn2 hs2=>?_
 obtain ⟨oD,esD,epD,hoD,hdD,hcD⟩:=hn2.count (PySem.Within.cons name v hw)
 refine wpAny_bind (wpAny_lookBehind hoD (by rw [hdD];exact pastItsLine_dict (SM hcD (by rw [SS];omega))) ?_)
 exact wpAny_pure (h _ ⟨(hs2.2 _ (Ne.symm I.ne)).trans I.obj,hn2,I.ne⟩ hs2)
theorem EF {R:Result→Shared→Prop} {vs:List Value} {kw:List (Str × Value)} (X:K.In s.heap) (hm:PySem.W.makesIn K C=true)
  (hi:PySem.W.findIn K (.ref C) "__init__"=some (some (.ref f))) (hf:PySem.W.typeIn K (.ref f)=some (.type "function"))
  (h:codeAny (model prog w) (A.under (.builtin "type.__call__" ⟨.ref C :: vs,kw⟩)) (.call (.ref f) ⟨.ref (s.heap.objs.size + 1) :: vs,kw⟩) (PySem.W.InitBack (s.heap.objs.size + 1) R)
   { s with heap:=(s.heap.push PySem.W.emptyDict).push (PySem.W.instObj C s.heap.objs.size) }) :
  codeAny (model prog w) A (.call (.ref C) ⟨vs,kw⟩) R s:=by
 obtain ⟨hh,g,d,t,os⟩:=s
 exact PySem.W.make_core (PySem.W.makes_of X hm) (PySem.W.looks_findIn X hi) (λself=>PySem.W.bind_fn X self hf) (.inl rfl) h
end
def d_ (f:Str) (v:V):List (Str × V)→List (Str × V)
 | []=>[(f,v)]
 | (g,x) :: r=>if g=f then (g,v) :: r else (g,x) :: d_ f v r
theorem oP (f g:Str) (v:V):∀fs:List (Str × V),(d_ f v fs).lookup g=if g=f then some v else fs.lookup g
 | []=>by
  show T5 g [(f,v)]=_
  by_cases h:g=f
  ·have hb:(g == f)=true:=beq_iff_eq.mpr h
   simp only [T5,hb,if_pos h]
  ·have hb:(g == f)=false:=beq_eq_false_iff_ne.mpr h
   simp only [T5,hb,if_neg h]
 | (k,x) :: r=>by
  have ih:=oP f g v r
  rw [show d_ f v ((k,x) :: r)=(if k=f then (k,v) :: r else (k,x) :: d_ f v r) from rfl]
  by_cases hk:k=f
  ·rw [if_pos hk]
   by_cases h:g=k
   ·have hb:(g == k)=true:=beq_iff_eq.mpr h
    simp only [T5,hb,if_pos (h.trans hk)]
   ·have hb:(g == k)=false:=beq_eq_false_iff_ne.mpr h
    simp only [T5,hb,if_neg (λe:g=f=>h (e.trans hk.symm))]
  ·rw [if_neg hk]
   by_cases h:g=k
   ·have hb:(g == k)=true:=beq_iff_eq.mpr h
    simp only [T5,hb,if_neg (λe:g=f=>hk (h.symm.trans e))]
   ·have hb:(g == k)=false:=beq_eq_false_iff_ne.mpr h
    simp only [T5,hb]
    exact ih
theorem nS (f:Str) (v:V):∀fs:List (Str × V),f∈(d_ f v fs).map (·.1)∧∀g,g∈fs.map (·.1)→g∈(d_ f v fs).map (·.1)
 | []=>⟨by simp [d_],λg h=>by simp at h⟩
 | (k,x) :: r=>by
  obtain ⟨i1,i2⟩:=nS f v r
  rw [show d_ f v ((k,x) :: r)=(if k=f then (k,v) :: r else (k,x) :: d_ f v r) from rfl]
  by_cases hk:k=f
  ·rw [if_pos hk]
   subst hk
   exact ⟨by simp,λg h=>by simpa using h⟩
  ·rw [if_neg hk]
   refine ⟨?_,λg h=>?_⟩
   ·rw [Sx]
    exact SU _ i1
   ·rw [Sx] at h ⊢
    rcases SH.mp h with e | e
    ·exact SH.mpr (.inl e)
    ·exact SU _ (i2 g e)
theorem oO (f:Str) (v:V):∀fs:List (Str × V),(d_ f v fs).length≤fs.length + 1
 | []=>by simp [d_]
 | (k,x) :: r=>by
  have ih:=oO f v r
  rw [show d_ f v ((k,x) :: r)=(if k=f then (k,v) :: r else (k,x) :: d_ f v r) from rfl]
  by_cases hk:k=f
  ·rw [if_pos hk,SS,SS];omega
  ·rw [if_neg hk,SS,SS];omega
theorem sG.some_of {v:V} {o:Option Value} (r:sG (some v) o):∃u,o=some u∧RelV v u:=by
 cases o with
 | none=>exact (show False from r).elim
 | some u=>exact ⟨u,rfl,r⟩
theorem sG.none_of {o:Option Value} (r:sG none o):o=none:=by
 cases o with
 | none=>rfl
 | some u=>exact (show False from r).elim
theorem Cv {v:V} {u:Value} (r:RelV v u):PySem.W.handedIn u=true:=by
 cases v with
 | non=>cases (show u=Value.none from r);rfl
 | bl b=>cases (show u=Value.bool b from r);rfl
 | int i=>obtain ⟨t,e⟩:=(show ∃t,u=Value.int i t from r);cases e;rfl
 | str x=>obtain ⟨t,e⟩:=(show ∃t,u=Value.str x t from r);cases e;rfl
 | byt b=>obtain ⟨t,e⟩:=(show ∃t,u=Value.bytes b t from r);cases e;rfl
 | flt b=>obtain ⟨t,e⟩:=(show ∃t,u=Value.float b t from r);cases e;rfl
 | ref a=>cases (show u=Value.ref a from r);rfl
 | ty n=>cases (show u=Value.type n from r);rfl
section
variable {P:Program} {w:World} {H H':Hp} {h h':Heap} {a C dx:Addr} {fs fs':List (Str × V)}
theorem pJ (hok:l9 P w H h) (e:H a=some (.ins C dx fs)):∃mA,yX h a dx C mA∧(∀f,sG (fs.lookup f) (mA f))∧PySem.Within mA (fs.map (·.1))∧fs.length≤1000∧H dx=some (.own a):=by
 obtain ⟨d,z,ne,ob,mA,n,r,q⟩:=(show cX P w H h a (.ins C dx fs) from hok a _ e)
 exact ⟨mA,⟨ob,n,ne⟩,r,q,z,d⟩
end
structure o8 (K:PySem.W.Frag) (C:Addr):Prop where
 pg:PySem.W.plainGet K C Str.empty=true
 hd:PySem.W.hasDictIn K C=true
 po:PySem.W.plainOver K C=true
 sa:PySem.W.findIn K (.ref C) "__setattr__"=some (some (.builtin "object.__setattr__"))
theorem o8.get {K:PySem.W.Frag} {C:Addr} (c:o8 K C) (f:Str):PySem.W.plainGet K C f=true:=c.pg
def aD (K:PySem.W.Frag) (C:Addr) (f:Str):Prop:=PySem.W.findIn K (.ref C) f=some none
theorem aD.OL {K:PySem.W.Frag} {C:Addr} {f:Str} (n:aD K C f):PySem.W.takerIn K C f=some none:=by
 unfold PySem.W.takerIn
 rw [show PySem.W.findIn K (.ref C) f=some none from n]
 rfl
structure Meth (K:PySem.W.Frag) (C:Addr) (m:Str) (f:Addr):Prop where
 at_:PySem.W.findIn K (.ref C) m=some (some (.ref f))
 fn:PySem.W.isFn K (.ref f)=true
 kp:PySem.W.keepIn K (.ref f)=true
section
variable {X:Cx} {pins:List (Addr × Obj)} {σ:St} {H:Hp} {s:Shared} {a C dx:Addr} {fs:List (Str × V)} {f:Str} {v:V} {A:Around} {E:Value→Shared→Prop}
theorem zi {b:Bool} {Q:Value→Shared→Prop} (I:Inv X pins σ H s) (e:H a=some (.ins C dx fs)) (c:o8 X.K C) (n:aD X.K C f) (l:fs.lookup f=some v)
  (h:∀u s',Inv X pins σ H s'→RelV v u→Q u s'):wpAny (model X.prog X.w) A (getAttr (.ref a) f b) Q E s:=by
 obtain ⟨mA,O,r,_,_,_⟩:=pJ I.hok e
 obtain ⟨u,hu,ru⟩:=sG.some_of (v:=v) (o:=mA f) (by rw [← l];exact r f)
 exact get_map I.mE O (c.get f) c.hd n hu (Cv ru) (h u _ (I.tok _) ru)
theorem qv {m:Str} {g:Addr} {pl:Sem Bool} {Q:Value × List Value→Shared→Prop} (I:Inv X pins σ H s) (e:H a=some (.ins C dx fs)) (c:o8 X.K C) (k:Meth X.K C m g) (l:fs.lookup m=none)
  (h:Q (.ref g,[.ref a]) s):wpAny (model X.prog X.w) A (getMethod (.ref a) m pl) Q E s:=by
 obtain ⟨mA,O,r,_,_,_⟩:=pJ I.hok e
 have hn:mA m=none:=sG.none_of (by rw [← l];exact r m)
 exact Ed I.mE O (c.get m) k.at_ k.fn hn h
theorem Aj {y:V} {u:Value} {Q:Unit→Shared→Prop} (I:Inv X pins σ H s) (e:H a=some (.ins C dx fs)) (c:o8 X.K C) (n:aD X.K C f) (hl:fs.length < 1000) (ry:RelV y u)
  (h:∀s',Inv X pins σ (upd H a (.ins C dx (d_ f y fs))) s'→Q () s'):wpAny (model X.prog X.w) A (setAttr (.ref a) f u) Q E s:=by
 obtain ⟨mA,O,r,wi,_,ho⟩:=pJ I.hok e
 have hz:(fs.map (·.1)).length≤sizeLine:=by rw [Sm,sizeLine_eq];omega
 refine Io I.mE O c.sa c.po n.OL c.hd wi hz λh' O' sb=>h _ ?_
 have hd:∃o,h'.get? dx=some o:=let ⟨o,_,_,e',_⟩:=O'.ns;⟨o,e'⟩
 refine I.write (x:=a) (e:=dx) (by rw [e];exact True.intro) (.inr ho) (λb q hb z=>(sb.2 b hb).trans z) hd ?_
 refine ⟨by rw [aL O.ne];exact ho,?_,O.ne,O'.obj,_,O'.ns,λg=>?_,λg hg=>?_⟩
 ·have:=oO f y fs;omega
 ·show sG ((d_ f y fs).lookup g) (if g=f then some u else mA g)
  rw [oP]
  by_cases q:g=f
  ·rw [if_pos q,if_pos q];exact ry
  ·rw [if_neg q,if_neg q];exact r g
 ·by_cases q:g=f
  ·rw [q];exact (nS f y fs).1
  ·refine (nS f y fs).2 g (wi g λz=>hg ?_)
   show (if g=f then some u else mA g)=none
   rw [if_neg q];exact z
theorem Inv.made (I:Inv X pins σ H s):Inv X pins σ (upd (upd H s.heap.objs.size (.own (s.heap.objs.size + 1))) (s.heap.objs.size + 1) (.ins C s.heap.objs.size []))
  { s with heap:=(s.heap.push PySem.W.emptyDict).push (PySem.W.instObj C s.heap.objs.size) }:=by
 have e1:(s.heap.push PySem.W.emptyDict).get? s.heap.objs.size=some PySem.W.emptyDict:=Heap.get?_push_size s.heap rfl
 have e2:((s.heap.push PySem.W.emptyDict).push (PySem.W.instObj C s.heap.objs.size)).get? (s.heap.objs.size + 1)=some (PySem.W.instObj C s.heap.objs.size):=by
  have:=Heap.get?_push_size (s.heap.push PySem.W.emptyDict) (o:=PySem.W.instObj C s.heap.objs.size) rfl
  rwa [Heap.size_push] at this
 have e3:(s.heap.push PySem.W.emptyDict).Ns s.heap.objs.size (λ_=>none):=⟨PySem.W.emptyDict,#[],_,e1,rfl,(λe he=>absurd he (by simp)),λ_=>rfl⟩
 have I1:=I.laid (a:=s.heap.objs.size) (o:=.own (s.heap.objs.size + 1)) (h':=s.heap.push PySem.W.emptyDict) (t':=s.toks) (λb u q=>Heap.get?_push_of_some _ q) (Ss _) ⟨_,e1⟩
 refine I1.laid (a:=s.heap.objs.size + 1) (o:=.ins C s.heap.objs.size []) (t':=s.toks) (λb u q=>Heap.get?_push_of_some _ q) (Nat.le_of_eq (Heap.size_push _ _)) ?_
 have ne:s.heap.objs.size≠s.heap.objs.size + 1:=SO (TU _)
 refine ⟨by rw [aL ne,aE],SY _,ne,e2,λ_=>none,(Heap.Ns1.of_empty e3).at λo q=>Heap.get?_push_of_some _ q,λ_=>True.intro,λy hy=>absurd rfl hy⟩
theorem GI {prog:Program} {w:World} {env:Env} {e:Expr} {f:Str} {pos:Pos} {s:Shared} {Q:Value→Shared→Prop} (hb:attributeBase e f env (eval e env)=eval e env)
  (h:wpAny (model prog w) A (eval e env) (λo s₁=>wpAny (model prog w) A (getAttr o f true) Q E s₁) E s):wpAny (model prog w) A (eval (.Attribute e f pos) env) Q E s :=
 Attribute_any_ h (by rw [arm_eval_Attribute,hb])
end
def QN (K:PySem.W.Frag) (ta:TE) (f:Str):TE:=λσ H Q=>ta σ H λx H1=>∃a C dx fs v,x=.ref a∧H1 a=some (.ins C dx fs)∧o8 K C∧aD K C f∧fs.lookup f=some v∧Q v H1
def QK (K:PySem.W.Frag) (ta tv:TE) (f:Str):TS:=λD σ H=>tv σ H λy H1=>ta σ H1 λx H2=>∃a C dx fs,x=.ref a∧H2 a=some (.ins C dx fs)∧o8 K C∧aD K C f∧fs.length < 1000 ∧
 D.nx σ (upd H2 a (.ins C dx (d_ f y fs)))
section
variable {X:Cx} {o e value:Expr} {f:Str} {pos pos' tpos:Pos} {ta tv:TE}
theorem Lo (he:PE X e ta) (hb:attributeBase e f X.env (eval e X.env)=eval e X.env):PE X (.Attribute e f pos) (QN X.K ta f):=by
 intro pins s σ H Q I h
 refine GI hb (b9 (he pins s σ H _ I h) λu s1 ⟨x,H1,I1,rx,a,C,dx,fs,v,ex,ea,c,n,l,q⟩=>?_)
 subst ex
 obtain rfl:u=Value.ref a:=rx
 exact zi I1 ea c n l λu' s2 I2 ru=>⟨v,H1,I2,ru,q⟩
theorem Ls (ha:PE X o ta) (hv:PE X value tv) (hs:swapsWith value (some (.Attribute o f pos')) pos.line X.env=pure false):PS X (.Assign [.Attribute o f pos'] value pos) (QK X.K ta tv f):=by
 intro pins s σ H D I h
 refine plainObj_wpAny_Assign_Attribute (b9 (hv pins s σ H _ I h) λu s1 ⟨y,H1,I1,ry,q⟩=>b9 (ha pins s1 σ H1 _ I1 q) λov s2 ⟨x,H2,I2,rx,a,C,dx,fs,ex,ea,c,n,l,q2⟩=>?_) hs
 subst ex
 obtain rfl:ov=Value.ref a:=rx
 exact Aj I2 ea c n l ry λs3 I3=>⟨σ,_,I3,q2⟩
end
section
variable {X:Cx} {pins:List (Addr × Obj)} {σ:St} {H:Hp} {s:Shared} {A:Around} {E:Value→Shared→Prop} {Q:Value→Shared→Prop} {c:Value} {b:Bool}
inductive fN (K:PySem.W.Frag) (H:Hp):V→Value→Prop where
 | non:fN K H .non (.type "NoneType")
 | bl (x:Bool):fN K H (.bl x) (.type "bool")
 | int (i:Int):fN K H (.int i) (.type "int")
 | str (x:Str):fN K H (.str x) (.type "str")
 | flt (x:UInt64):fN K H (.flt x) (.type "float")
 | lst {a:Addr} {xs:List V} (e:H a=some (.lst xs)):fN K H (.ref a) (.type "list")
 | qp {a:Addr} {o:Obj} {xs:List V} (e:H a=some (.qp o (.lst xs))):fN K H (.ref a) (.type "list")
 | tup {a:Addr} {xs:List V} (e:H a=some (.tup xs)):fN K H (.ref a) (.type "tuple")
 | dK {a:Addr} {kvs:List (Key × V)} (e:H a=some (.dK kvs)):fN K H (.ref a) (.type "dict")
 | dE {a:Addr} {kvs:List (Str × V)} {ep:Nat} (e:H a=some (.dE kvs ep)):fN K H (.ref a) (.type "dict")
 | ins {a C dx:Addr} {fs:List (Str × V)} (e:H a=some (.ins C dx fs)) (cl:o8 K C) (ha:PySem.W.findIn K (.ref C) "__class__"=some (some (.builtin "object.__class__")))
   (hn:PySem.W.specialIn K (.builtin "object.__class__") "__get__"=some (some (.builtin "getset_descriptor.__get__"))) (htk:PySem.W.takesIn K (.builtin "object.__class__")=some true)
   (hm:PySem.W.mroIn K C (.type "object")=some true):fN K H (.ref a) (.ref C)
theorem Cz {x:V} {u t:Value} (I:Inv X pins σ H s) (rx:RelV x u) (ty:fN X.K H x t) (e:PySem.W.kitOne X.K t c=some b) (h:∀tk,Q (.bool b) { s with toks:=tk }) :
  wpAny (model X.prog X.w) A (call (.builtin "isinstance") [u,c]) Q E s:=by
 cases ty with
 | non=>cases (show u=Value.none from rx);exact PySem.W.kia_one PySem.W.kitx_none I.mE True.intro e (λz=>nomatch z) h
 | bl y=>cases (show u=Value.bool y from rx);exact PySem.W.kia_one PySem.W.kitx_bool I.mE True.intro e (λz=>nomatch z) h
 | int i=>obtain ⟨t,q⟩:=(show ∃t,u=Value.int i t from rx);cases q;exact PySem.W.kia_one PySem.W.kitx_int I.mE True.intro e (λz=>nomatch z) h
 | str y=>obtain ⟨t,q⟩:=(show ∃t,u=Value.str y t from rx);cases q;exact PySem.W.kia_one PySem.W.kitx_str I.mE True.intro e (λz=>nomatch z) h
 | flt y=>obtain ⟨t,q⟩:=(show ∃t,u=Value.float y t from rx);cases q;exact PySem.W.kia_one PySem.W.kitx_float I.mE True.intro e (λz=>nomatch z) h
 | @lst a xs ea =>
  cases (show u=Value.ref a from rx)
  obtain ⟨_,_,n,_,h1⟩:=(show cX X.prog X.w H s.heap a (.lst xs) from I.hok a _ ea)
  exact PySem.W.kia_one PySem.W.kitx_list I.mE ⟨_,h1,rfl⟩ e (λz=>nomatch z) h
 | @qp a ob xs ea =>
  cases (show u=Value.ref a from rx)
  obtain ⟨_,_,_,n,_,h1⟩:=(show cX X.prog X.w H s.heap a (.qp ob (.lst xs)) from I.hok a _ ea)
  exact PySem.W.kia_one PySem.W.kitx_list I.mE ⟨_,h1,rfl⟩ e (λz=>nomatch z) h
 | @tup a xs ea =>
  cases (show u=Value.ref a from rx)
  obtain ⟨_,_,_,p⟩:=(show cX X.prog X.w H s.heap a (.tup xs) from I.hok a _ ea)
  obtain ⟨o,h1,h2,_⟩:=p
  exact PySem.W.kia_one PySem.W.kitx_tuple I.mE ⟨o,h1,h2⟩ e (λz=>nomatch z) h
 | @dK a kvs ea =>
  cases (show u=Value.ref a from rx)
  obtain ⟨_,_,vs,_,p⟩:=(show cX X.prog X.w H s.heap a (.dK kvs) from I.hok a _ ea)
  obtain ⟨o,es,ep,h1,h2,_⟩:=p
  exact PySem.W.kia_one PySem.W.kitx_dict I.mE ⟨o,h1,h2.1⟩ e (λz=>nomatch z) h
 | @dE a kvs ep ea =>
  cases (show u=Value.ref a from rx)
  obtain ⟨_,_,vs,_,o,es,h1,h2,_⟩:=(show cX X.prog X.w H s.heap a (.dE kvs ep) from I.hok a _ ea)
  exact PySem.W.kia_one PySem.W.kitx_dict I.mE ⟨o,h1,h2.1⟩ e (λz=>nomatch z) h
 | @ins a C dx fs ea cl ha hn htk hm =>
  cases (show u=Value.ref a from rx)
  obtain ⟨mA,O,_⟩:=pJ I.hok ea
  obtain ⟨od,J,_⟩:=O.look
  exact PySem.W.kia_one (PySem.W.kitx_own (cl.get _) cl.hd ha hn htk hm) I.mE J e (λz=>nomatch z) h
end
end L2
namespace L2
open PySem PySem.Spec PyProof.Rows
structure bI (k:Nat) (A:Around):Prop where
 hd:A.handled=none
 dp:A.depth + 3 * k + 5 < recursionLimit
 un:A.units + 16 * k + 200 < cLine
theorem bI.mono {j k:Nat} {A:Around} (r:bI k A) (h:j≤k):bI j A:=⟨r.hd,by have:=r.dp;omega,by have:=r.un;omega⟩
theorem bI.deeper {k:Nat} {A:Around} (r:bI (k + 1) A) (env:Env):bI k (A.deeper env) :=
 ⟨r.hd,by have:=r.dp;show A.depth + 1 + 3 * k + 5 < _;omega,by have:=r.un;show A.units + 3 + 16 * k + 200 < _;omega⟩
theorem zw {A:Around} {C:Addr} {us:List Value} {kw:List (Str × Value)}:(A.under (.builtin "type.__call__" ⟨.ref C :: us,kw⟩)).depth=A.depth + 1:=by
 first | rfl | simp [Around.under,Code.weight,Code.isCreation,Code.isGuard,Code.isCaller,Code.frames,Code.isFrame,guardIds]
theorem zx {A:Around} {C:Addr} {us:List Value} {kw:List (Str × Value)}:(A.under (.builtin "type.__call__" ⟨.ref C :: us,kw⟩)).units=A.units + 1:=by
 first | rfl | simp [Around.under,Code.cUnits,Code.frames,Code.isFrame]
theorem bI.make {k:Nat} {A:Around} (r:bI (k + 1) A) (C:Addr) (us:List Value) (kw:List (Str × Value)):bI k (A.under (.builtin "type.__call__" ⟨.ref C :: us,kw⟩)) :=
 ⟨r.hd,by have:=r.dp;rw [zw];omega,by have:=r.un;rw [zx];omega⟩
theorem bI.depth {k:Nat} {A:Around} (r:bI k A):A.depth < recursionLimit:=by have:=r.dp;omega
theorem bI.Ml {k:Nat} {A:Around} (r:bI k A):A.units < cLine:=by have:=r.un;omega
def Ar:TA:=λ_ H Q=>Q [] H
def yE (ta:TE) (tr:TA):TA:=λσ H Q=>ta σ H λx H1=>tr σ H1 λxs H2=>Q (x :: xs) H2
section
variable {X:Cx} {e:Expr} {es:List Expr} {te:TE} {t:TA} {pos:Pos}
theorem bG:PA X [] Ar:=λ_ _ _ _ H Q I h=>Calls.spliced_nil ⟨[],H,I,.nil,h⟩
theorem aT (ha:PE X e te) (hr:PA X es t) (hs:starEach (e :: es) X.env=(false,eval e X.env) :: starEach es X.env:=by rfl):PA X (e :: es) (yE te t):=by
 intro pos pins s σ H Q I h
 rw [hs]
 show wpAny _ _ (spliced ((false,eval e X.env) :: backTo pos (starEach es X.env))) _ _ s
 refine Calls.spliced_cons (b9 (ha pins s σ H _ I h) λu s1 ⟨x,H1,I1,r1,q1⟩=>?_)
 exact b9 (hr pos pins s1 σ H1 _ I1 q1) λus s2 ⟨xs,H2,I2,r2,q2⟩=>⟨x :: xs,H2,I2,.cons r1 r2,q2⟩
def IB (t:TA):TE:=λσ H Q=>t σ H λxs H1=>xs.length≤sizeLine∧∀p,H1 p=none→Q (.ref p) (upd H1 p (.tup xs))
def F2 (t:TA):TE:=λσ H Q=>t σ H λxs H1=>xs.length≤sizeLine∧∀p,H1 p=none→Q (.ref p) (upd H1 p (.lst xs))
theorem qT {x1} (h:PA X es t):PE X (.Tuple es x1 pos) (IB t):=by
 intro pins s σ H Q I hq
 refine wpAny_Tuple_spliced (b9 (h pos pins s σ H _ I hq) λus s1 ⟨xs,H1,I1,r,z,q⟩=>⟨by rw [← r.length];exact z,?_⟩)
 have hf:H1 s1.heap.objs.size=none:=I1.hok.fresh (Ss _)
 refine ⟨.ref s1.heap.objs.size,upd H1 s1.heap.objs.size (.tup xs),I1.laid (t':=s1.toks) (λb u e=>Heap.get?_push_of_some _ e) (Ss _) ?_,rfl,q _ hf⟩
 exact ⟨z,us,r,⟨_,Heap.get?_push_size _ rfl,rfl,_,rfl⟩⟩
theorem jR (h:PA X es t):PE X (.List es pos) (F2 t):=by
 intro pins s σ H Q I hq
 refine wpAny_List_spliced (b9 (h pos pins s σ H _ I hq) λus s1 ⟨xs,H1,I1,r,z,q⟩=>⟨by rw [← r.length];exact z,?_⟩)
 have hf:H1 s1.heap.objs.size=none:=I1.hok.fresh (Ss _)
 refine ⟨.ref s1.heap.objs.size,upd H1 s1.heap.objs.size (.lst xs),I1.laid (t':=s1.toks) (λb u e=>Heap.get?_push_of_some _ e) (Ss _) ?_,rfl,q _ hf⟩
 exact ⟨z,us,0,r,Heap.get?_push_size _ rfl⟩
end
abbrev Sp:=List V→Hp→VK→XK→Prop
abbrev rT:=List Env→Hp→Shared→XK→Value→Shared→Prop
structure yU (P:Program) (w:World) (K:PySem.W.Frag) (mg:Str→Option Value) (base:Heap) (A:Around) (outer:List Env) (s:Shared) (H:Hp):Prop where
 frames:A.frames=some outer
 mod:Mod K mg base
 bs:∀b o,base.get? b=some o→s.heap.get? b=some o∧H b=none
 bsz:base.objs.size≤s.heap.objs.size
 nQ:s.heap.FunFrames base outer
 frf:∀b∈jk outer,H b=none
 hok:l9 P w H s.heap
 bare:AllBare s.gens
def CE (outer:List Env) (P:Program) (w:World) (H:Hp) (s:Shared) (Q:VK) (u:Value) (s':Shared):Prop :=
 ∃v H',s'.os=s.os∧AllBare s'.gens∧Un (jk outer) [] H H' s.heap s'.heap∧l9 P w H' s'.heap∧RelV v u∧Q v H'
def CR (CX:rT) (outer:List Env) (P:Program) (w:World) (H:Hp) (s:Shared) (Q:VK) (E:XK) (r:Result) (s':Shared):Prop :=
 match r with
 | .ok (.ret u)=>CE outer P w H s Q u s'
 | .ok _=>False
 | .error e=>CX outer H s E e s'
structure aH (P:Program) (w:World) (K:PySem.W.Frag) (mg:Str→Option Value) (base:Heap) (CX:rT) (k:Nat) (f:Addr) (fd:FuncData) (ps:List Str) (sp:Sp):Prop where
 len:∀vs H Q E,sp vs H Q E→vs.length=ps.length
 run:∀(A:Around) (outer:List Env) (s:Shared) (H:Hp) (args:Args) (us:List Value) (vs:List V) (Q:VK) (E:XK),bI k A→yU P w K mg base A outer s H→BindsTo s fd args (ps.zip us)→Vals vs us→sp vs H Q E →
  codeAny (model P w) A (.call (.ref f) args) (CR CX outer P w H s Q E) s
theorem aH.imp {P:Program} {w:World} {K:PySem.W.Frag} {mg:Str→Option Value} {base:Heap} {CX:rT} {k:Nat} {f:Addr} {fd:FuncData} {ps:List Str} {sp sp':Sp} (F:aH P w K mg base CX k f fd ps sp)
  (h:∀vs H Q E,sp' vs H Q E→sp vs H Q E):aH P w K mg base CX k f fd ps sp' :=
 ⟨λvs H Q E q=>F.len vs H Q E (h _ _ _ _ q),λA outer s H args us vs Q E hr he hb hv hs=>F.run A outer s H args us vs Q E hr he hb hv (h _ _ _ _ hs)⟩
theorem yU.make {P:Program} {w:World} {K:PySem.W.Frag} {mg:Str→Option Value} {base:Heap} {A:Around} {outer:List Env} {s:Shared} {H:Hp} (e:yU P w K mg base A outer s H) (C:Addr) (us:List Value) (kw:List (Str × Value)) :
  yU P w K mg base (A.under (.builtin "type.__call__" ⟨.ref C :: us,kw⟩)) outer s H:=⟨by first | exact e.frames | (simpa [Around.under,Code.envs,Code.isFrame,pushEnvs] using e.frames),e.mod,e.bs,e.bsz,e.nQ,e.frf,e.hok,e.bare⟩
section
variable {X:Cx} {pins:List (Addr × Obj)} {σ:St} {H:Hp} {s s':Shared}
theorem Inv.M6 (I:Inv X pins σ H s):yU X.prog X.w X.K X.mg X.base X.A X.stack s H :=
 ⟨I.ok.frames,I.ok.mod,I.bs,SM I.ok.bsz I.sz,I.stack,I.wG,I.hok,I.bare⟩
theorem Inv.after {Q:VK} {u:Value} (I:Inv X pins σ H s) (h:CE X.stack X.prog X.w H s Q u s'):EP X pins σ Q u s':=by
 obtain ⟨v,H',os,bare,un,hok,r,q⟩:=h
 obtain ⟨hh,g,d,t,os'⟩:=s'
 obtain rfl:os'=s.os:=os
 exact ⟨v,H',I.call (h':=hh) (g':=g) (d':=d) (t':=t) (ch:=[]) un hok bare (λb z=>absurd z (by simp)),r,q⟩
end
def rQ (sp:Sp) (dvs:List V) (E:XK) (t:TA):TE:=λσ H Q=>t σ H λvs H1=>sp (vs ++ dvs) H1 Q E
def F4 (C:Addr) (m:Str) (sp:Sp) (dvs:List V) (E:XK) (ta:TE) (t:TA):TE:=λσ H Q=>ta σ H λx H1=>∃a dx fs,x=.ref a∧H1 a=some (.ins C dx fs)∧fs.lookup m=none ∧
 t σ H1 λvs H2=>sp (x :: (vs ++ dvs)) H2 Q E
def F3 (C:Addr) (sp:Sp) (dvs:List V) (E:XK) (t:TA):TE:=λσ H Q=>t σ H λvs H1=>∀x dx,H1 x=none→H1 dx=none→dx≠x →
 sp (.ref x :: (vs ++ dvs)) (upd (upd H1 dx (.own x)) x (.ins C dx [])) (λv H2=>v=.non∧Q (.ref x) H2) E
def Binds (K:PySem.W.Frag) (fd:FuncData) (ps:List Str) (ds:List Value):Prop :=
 ∀(s:Shared) (us:List Value),K.In s.heap→(us ++ ds).length=ps.length→BindsTo s fd ⟨us,[]⟩ (ps.zip (us ++ ds))
theorem Binds.all {K:PySem.W.Frag} {fd:FuncData} {ps:List Str} (h:∀us:List Value,us.length=ps.length→bindArgs fd ⟨us,[]⟩=pure (ps.zip us)):Binds K fd ps []:=λs us _ hl=>by
 rw [Tb] at hl ⊢
 exact .of_eq (h us hl)
def Passes (CX:rT) (X:Cx) (E:XK):Prop:=∀(pins:List (Addr × Obj)) (σ:St) (H:Hp) (s:Shared) (e:Value) (s':Shared),Inv X pins σ H s→CX X.stack H s E e s'→X.xe e s'
section
variable {X:Cx} {CX:rT} {k:Nat} {f C:Addr} {fd:FuncData} {ps:List Str} {sp:Sp} {dvs:List V} {ds:List Value} {E:XK} {x m:Str} {p pos apos:Pos} {e o:Expr} {es:List Expr} {ta:TE} {t:TA}
theorem Aa {pins:List (Addr × Obj)} {σ:St} {H:Hp} {s:Shared} {Q:VK} {us:List Value} {vs:List V} (F:aH X.prog X.w X.K X.mg X.base CX k f fd ps sp) (hr:bI k X.A) (hb:Binds X.K fd ps ds) (hd:Vals dvs ds) (hx:Passes CX X E)
  (I:Inv X pins σ H s) (r:Vals vs us) (h:sp (vs ++ dvs) H Q E):wpAny (model X.prog X.w) X.A (call (.ref f) us) (EP X pins σ Q) X.xe s:=by
 have r2:Vals (vs ++ dvs) (us ++ ds):=r.append hd
 have hl:(us ++ ds).length=ps.length:=by rw [← r2.length];exact F.len _ _ _ _ h
 refine wpAny_call (codeAny_mono (F.run X.A X.stack s H ⟨us,[]⟩ (us ++ ds) (vs ++ dvs) Q E hr I.M6 (hb s us I.mE hl) r2 h) λr s' hq=>?_)
 cases r with
 | error e=>exact hx pins σ H s e s' I hq
 | ok fl =>
  cases fl with
  | ret u=>exact I.after hq
  | next=>exact False.elim hq
  | brk=>exact False.elim hq
  | cont=>exact False.elim hq
theorem Bl (F:aH X.prog X.w X.K X.mg X.base CX k f fd ps sp) (hr:bI k X.A) (hg:Gl X x) (hm:X.mg x=some (.ref f)) (hk:PySem.W.keepIn X.K (.ref f)=true) (hb:Binds X.K fd ps ds) (hd:Vals dvs ds) (hx:Passes CX X E)
  (ha:PA X (e :: es) t) (hdb:(x == ("__debug__":Str))=false:=by decide) (he:starEach (e :: es) X.env=(false,eval e X.env) :: starEach es X.env:=by rfl) (hpl:(backTo pos (starEach es X.env)).any (·.1)=false:=by rfl) :
  PE X (.Call (.Name x p) (e :: es) [] pos) (rQ sp dvs E t):=by
 intro pins s σ H Q I h
 refine wpAny_Call_Name_kw (mF I hg hm ?_ hdb)
 refine PySem.W.callWith_K (h₀:=X.base) I.ok.mod.kin hk (b9 (ha pos pins s σ H _ I h) λus s1 ⟨vs,H1,I1,r,q⟩=>⟨I1.mE,?_⟩) he hpl
 exact Aa F hr hb hd hx I1 r q
theorem HF {pl:Sem Bool} (he:PE X o ta) (c:o8 X.K C) (hm:Meth X.K C m f) (F:aH X.prog X.w X.K X.mg X.base CX k f fd ps sp) (hr:bI k X.A) (hb:Binds X.K fd ps ds) (hd:Vals dvs ds) (hx:Passes CX X E) (ha:PA X (e :: es) t)
  (hst:starEach (e :: es) X.env=(false,eval e X.env) :: starEach es X.env:=by rfl) (hpl:(backTo pos (starEach es X.env)).any (·.1)=false:=by rfl)
  (ht:eval (.Call (.Attribute o m apos) (e :: es) [] pos) X.env=(do
   let ov ← eval o X.env
   standAt apos.atName
   let (f,first) ← holding [ov] (getMethod ov m pl)
   callWith pos f first (backTo pos (starEach (e :: es) X.env)) (backToKw pos (keywordEach [] X.env))):=by rfl) :
  PE X (.Call (.Attribute o m apos) (e :: es) [] pos) (F4 C m sp dvs E ta t):=by
 intro pins s σ H Q I h
 refine PySem.W.methodCall_KW (pl:=pl) (b9 (he pins s σ H _ I h) λu s1 ⟨x,H1,I1,rx,a,dx,fs,ex,ea,l,q⟩=>?_) ht
 subst ex
 obtain rfl:u=Value.ref a:=rx
 refine qv I1 ea c hm l ?_
 refine PySem.W.callWith_K (first:=[.ref a]) (h₀:=X.base) I.ok.mod.kin hm.kp (b9 (ha pos pins s1 σ H1 _ I1 q) λus s2 ⟨vs,H2,I2,r,q2⟩=>⟨I2.mE,?_⟩) hst hpl
 exact Aa (us:=.ref a :: us) (vs:=.ref a :: vs) F hr hb hd hx I2 (.cons rfl r) q2
theorem Fd {pl:Sem Bool} (he:PE X o ta) (c:o8 X.K C) (hm:Meth X.K C m f) (F:aH X.prog X.w X.K X.mg X.base CX k f fd ps sp) (hr:bI k X.A) (hb:Binds X.K fd ps ds) (hd:Vals dvs ds) (hx:Passes CX X E)
  (ht:eval (.Call (.Attribute o m apos) [] [] pos) X.env=(do
   let ov ← eval o X.env
   standAt apos.atName
   let (f,first) ← holding [ov] (getMethod ov m pl)
   callWith pos f first (backTo pos (starEach [] X.env)) (backToKw pos (keywordEach [] X.env))):=by rfl) :
  PE X (.Call (.Attribute o m apos) [] [] pos) (F4 C m sp dvs E ta Ar):=by
 intro pins s σ H Q I h
 refine PySem.W.methodCall_KW (pl:=pl) (b9 (he pins s σ H _ I h) λu s1 ⟨x,H1,I1,rx,a,dx,fs,ex,ea,l,q⟩=>?_) ht
 subst ex
 obtain rfl:u=Value.ref a:=rx
 refine qv I1 ea c hm l ?_
 exact PySem.W.callWith_K0 (first:=[.ref a]) I1.mE hm.kp (Aa (us:=[.ref a]) (vs:=[.ref a]) F hr hb hd hx I1 (.cons rfl .nil) q)
structure Mk (K:PySem.W.Frag) (C f:Addr):Prop where
 makes:PySem.W.makesIn K C=true
 init:PySem.W.findIn K (.ref C) "__init__"=some (some (.ref f))
 fn:PySem.W.isFn K (.ref f)=true
 kp:PySem.W.keepIn K (.ref C)=true
theorem yg {pins:List (Addr × Obj)} {σ:St} {H:Hp} {s:Shared} {Q:VK} {us:List Value} {vs:List V} (M:Mk X.K C f) (F:aH X.prog X.w X.K X.mg X.base CX k f fd ps sp) (hr:bI (k + 1) X.A) (hb:Binds X.K fd ps ds) (hd:Vals dvs ds)
  (hx:Passes CX X E) (I:Inv X pins σ H s) (r:Vals vs us)
  (h:∀x dx,H x=none→H dx=none→dx≠x→sp (.ref x :: (vs ++ dvs)) (upd (upd H dx (.own x)) x (.ins C dx [])) (λv H2=>v=.non∧Q (.ref x) H2) E) :
  wpAny (model X.prog X.w) X.A (call (.ref C) us) (EP X pins σ Q) X.xe s:=by
 have hq:=h (s.heap.objs.size + 1) s.heap.objs.size (I.hok.fresh (Nat.le_succ _)) (I.hok.fresh (Ss _)) (SO (TU _))
 have I2:=Inv.made (C:=C) I
 have r2:Vals (V.ref (s.heap.objs.size + 1) :: (vs ++ dvs)) (Value.ref (s.heap.objs.size + 1) :: (us ++ ds)):=.cons rfl (r.append hd)
 have hl:(Value.ref (s.heap.objs.size + 1) :: us ++ ds).length=ps.length:=by
  have e:=r2.length
  rw [F.len _ _ _ _ hq] at e
  exact e.symm
 refine wpAny_call (EF (f:=f) I.mE M.makes M.init (beq_iff_eq.mp M.fn) (codeAny_mono (F.run _ X.stack _ _ ⟨Value.ref (s.heap.objs.size + 1) :: us,[]⟩ (Value.ref (s.heap.objs.size + 1) :: (us ++ ds)) _ _ E (hr.make C us [])
  (I2.M6.make C us []) (hb _ (Value.ref (s.heap.objs.size + 1) :: us) I2.mE hl) r2 hq) λr s' hq'=>?_))
 cases r with
 | error e=>exact hx pins σ _ _ e s' I2 hq'
 | ok fl =>
  cases fl with
  | ret u =>
   obtain ⟨v,H',I3,rv,ev,q3⟩:=I2.after hq'
   subst ev
   exact ⟨rv,⟨V.ref (s.heap.objs.size + 1),H',I3,rfl,q3⟩⟩
  | next=>exact False.elim hq'
  | brk=>exact False.elim hq'
  | cont=>exact False.elim hq'
theorem HE (M:Mk X.K C f) (F:aH X.prog X.w X.K X.mg X.base CX k f fd ps sp) (hr:bI (k + 1) X.A) (hg:Gl X x) (hm:X.mg x=some (.ref C)) (hb:Binds X.K fd ps ds) (hd:Vals dvs ds) (hx:Passes CX X E)
  (ha:PA X (e :: es) t) (hdb:(x == ("__debug__":Str))=false:=by decide) (he:starEach (e :: es) X.env=(false,eval e X.env) :: starEach es X.env:=by rfl) (hpl:(backTo pos (starEach es X.env)).any (·.1)=false:=by rfl) :
  PE X (.Call (.Name x p) (e :: es) [] pos) (F3 C sp dvs E t):=by
 intro pins s σ H Q I h
 refine wpAny_Call_Name_kw (mF I hg hm ?_ hdb)
 refine PySem.W.callWith_K (h₀:=X.base) I.ok.mod.kin M.kp (b9 (ha pos pins s σ H _ I h) λus s1 ⟨vs,H1,I1,r,q⟩=>⟨I1.mE,?_⟩) he hpl
 exact yg M F hr hb hd hx I1 r q
theorem Fc (M:Mk X.K C f) (F:aH X.prog X.w X.K X.mg X.base CX k f fd ps sp) (hr:bI (k + 1) X.A) (hg:Gl X x) (hm:X.mg x=some (.ref C)) (hb:Binds X.K fd ps ds) (hd:Vals dvs ds) (hx:Passes CX X E)
  (hdb:(x == ("__debug__":Str))=false:=by decide):PE X (.Call (.Name x p) [] [] pos) (F3 C sp dvs E Ar):=by
 intro pins s σ H Q I h
 refine wpAny_Call_Name_kw (mF I hg hm ?_ hdb)
 exact PySem.W.callWith_K0 I.mE M.kp (yg (us:=[]) M F hr hb hd hx I .nil h)
end
section
variable {X:Cx} {CX:rT} {k:Nat} {f C:Addr} {fd:FuncData} {ps ks:List Str} {sp:Sp} {E:XK} {x m:Str} {p pos apos kpos:Pos} {e o:Expr} {es:List Expr} {kws:List Keyword} {te ta:TE} {t tk:TA} {nm:Option Str}
variable {g:List Value→List Value→List Value} {gV:List V→List V→List V}
end
structure av (N P:List Str) (sc:Scope):Prop where
 kind:sc.kind=.function
 co:sc.isCoroutine=false
 gen:sc.isGenerator=false
 nd:N.Nodup
 pre:N.take P.length=P
 par:∀x∈P,sc.names.lookup x=some .local∨sc.names.lookup x=some .cell
 nofree:∀y∈sc.names,y.2≠.free
theorem tS {kindOf:Str→Option NameKind} {x:Str}:∀{binds:List (Str × Value)} {m:Str→Option Value},(∀v,(x,v) ∉ binds)→bindL kindOf binds m x=m x
 | [],_,_=>rfl
 | (n,v) :: r,m,h=>by
  unfold bindL
  rw [tS λw hw=>h w (SU _ hw)]
  split
  ·have:x≠n:=by rintro rfl;exact h v S8
   simp [this]
  ·rfl
theorem tQ {kindOf:Str→Option NameKind} {x:Str}:∀{binds:List (Str × Value)} {m:Str→Option Value},(∀v,(x,v) ∉ binds)→bindC kindOf binds m x=m x
 | [],_,_=>rfl
 | (n,v) :: r,m,h=>by
  unfold bindC
  rw [tQ λw hw=>h w (SU _ hw)]
  split
  ·rfl
  ·have:x≠n:=by rintro rfl;exact h v S8
   simp [this]
theorem tR {kindOf:Str→Option NameKind} {x:Str} {v:Value}:∀{P:List Str} {vs:List Value} {i:Nat} {m:Str→Option Value},P.Nodup→P[i]?=some x→vs[i]?=some v→kindOf x=some .local →
  bindL kindOf (P.zip vs) m x=some v
 | [],_,_,_,_,h,_,_=>by simp at h
 | _ :: _,[],_,_,_,_,h,_=>by simp at h
 | p :: P,w :: vs,0,m,nd,h1,h2,hk=>by
  simp at h1 h2;subst h1;subst h2
  show bindL kindOf ((p,w) :: P.zip vs) m p=_
  unfold bindL
  rw [tS λv hv=>(Tx.mp nd).1 (UH hv).1,if_pos hk]
  simp
 | p :: P,w :: vs,i + 1,m,nd,h1,h2,hk=>by
  show bindL kindOf ((p,w) :: P.zip vs) m x=_
  unfold bindL
  exact tR (i:=i) (Tx.mp nd).2 (by simpa using h1) (by simpa using h2) hk
theorem tP {kindOf:Str→Option NameKind} {x:Str} {v:Value}:∀{P:List Str} {vs:List Value} {i:Nat} {m:Str→Option Value},P.Nodup→P[i]?=some x→vs[i]?=some v→kindOf x≠some .local →
  bindC kindOf (P.zip vs) m x=some v
 | [],_,_,_,_,h,_,_=>by simp at h
 | _ :: _,[],_,_,_,_,h,_=>by simp at h
 | p :: P,w :: vs,0,m,nd,h1,h2,hk=>by
  simp at h1 h2;subst h1;subst h2
  show bindC kindOf ((p,w) :: P.zip vs) m p=_
  unfold bindC
  rw [tQ λv hv=>(Tx.mp nd).1 (UH hv).1,if_neg hk]
  simp
 | p :: P,w :: vs,i + 1,m,nd,h1,h2,hk=>by
  show bindC kindOf ((p,w) :: P.zip vs) m x=_
  unfold bindC
  exact tP (i:=i) (Tx.mp nd).2 (by simpa using h1) (by simpa using h2) hk
def start (N:List Str) (vs:List V):St:=vs.map some ++ S9 (N.length - vs.length) none
def uM (CX:rT) (P:Program) (w:World) (K:PySem.W.Frag) (mg:Str→Option Value) (base:Heap) (N:List Str) (qual:Str) (scope:Scope) (f:Addr) (cd:Value) (A:Around) (outer:List Env) (s:Shared) (H:Hp) (E:XK):Cx where
 prog:=P
 w:=w
 K:=K
 mg:=mg
 base:=base
 A:=A.deeper (envOfC qual scope s.heap.objs.size f cd)
 N:=N
 s₀:=s
 H₀:=H
 env:=envOfC qual scope s.heap.objs.size f cd
 outer:=outer
 stack:=envOfC qual scope s.heap.objs.size f cd :: outer
 ex:=[]
 calm:=true
 fn:=λ_=>true
 pn:=[]
 xe:=λe s'=>wpAny (model P w) (A.deeper (envOfC qual scope s.heap.objs.size f cd)) (leaving (envOfC qual scope s.heap.objs.size f cd) e) (λ_ s''=>CX outer H s E e s'') (λe' s''=>CX outer H s E e' s'') s'
theorem xf {sc:Scope} {n:Nat} {x:Str} (h:sc.names.lookup x=some .cell):∃c,(cellsFrom n sc.names []).lookup x=some c:=by
 have q:=PySem.W.cellsFrom_some sc.names n [] (.inl h)
 exact Ut.mp q
theorem Cy {CX:rT} {P:Program} {w:World} {K:PySem.W.Frag} {mg:Str→Option Value} {base:Heap} {N ps:List Str} {qual:Str} {scope:Scope} {f:Addr} {cd:Value} {A:Around} {outer:List Env} {s s1:Shared} {H:Hp} {E:XK} {us:List Value} {vs:List V}
  (S:av N ps scope) (hd:A.handled=none) (e0:yU P w K mg base A outer s H) (hl:vs.length=ps.length) (r:Vals vs us)
  (x:InCallC s s.heap.objs.size (bindL (envOfC qual scope s.heap.objs.size f cd).kindOf (ps.zip us) λ_=>none) (cellsFrom (s.heap.objs.size + 1) scope.names []) (bindC (envOfC qual scope s.heap.objs.size f cd).kindOf (ps.zip us) λ_=>none) s1) :
  Inv (uM CX P w K mg base N qual scope f cd A outer s H E) [] (start N vs) H s1:=by
 have hpl:ps.length≤N.length:=by have:=congrArg Tt S.pre;rw [SW] at this;omega
 obtain ⟨h1,tk,rfl,hk⟩:=x.done
 have noA:∀b:Addr,b ∉ (uM CX P w K mg base N qual scope f cd A outer s H E).ex:=λb z=>absurd (show b∈([]:List Addr) from z) (by simp)
 refine ⟨⟨e0.mod,S.kind,rfl,rfl,Ss _,λy z c h1 h2=>?_,λy hy=>?_,λy c _ h=>?_,λ_=>hd,Around.frames_deeper e0.frames,.inr ⟨rfl,rfl⟩,λb z=>absurd z (noA b),e0.bs,e0.bsz,λb _ _=>noA b,λb z=>absurd z (noA b),e0.nQ,e0.frf⟩,
  rfl,e0.bare,Un.kept hk,⟨_,x.toInCall.ns,λi y v h1 h2 h3=>?_⟩,λy c h=>⟨_,x.cell y c h⟩,e0.hok.fresh (Ss _),λy c h=>?_,λp hp=>absurd (show p∈([]:List (Addr × Obj)) from hp) (by simp),e0.hok.kept hk,?_⟩
 ·exact name_of_addr x.apart (PySem.mem_of_lookup h1) (PySem.mem_of_lookup h2)
 ·have hy:scope.names.lookup y=some .cell∨scope.names.lookup y=some .free:=hy
  rcases hy with hy | hy
  ·exact xf hy
  ·exact absurd rfl (S.nofree _ (PySem.mem_of_lookup hy))
 ·exact Ul (x.above y c (PySem.mem_of_lookup h))
 ·have hi:i < vs.length:=by
   unfold start at h2
   by_cases hi:i < vs.length
   ·exact hi
   ·rw [Tq (by simpa using hi)] at h2
    rw [List.getElem?_replicate] at h2
    split at h2 <;> cases h2
  have ha:vs[i]?=some v:=by
   unfold start at h2
   rw [Tu (by simpa using hi),SA] at h2
   cases e:vs[i]? with
   | none=>rw [e] at h2;cases h2
   | some a=>rw [e] at h2;cases h2;rfl
  obtain ⟨u,hu,rv⟩:=r.get ha
  have hp:ps[i]?=some y:=by
   rw [← S.pre,List.getElem?_take_of_lt (by omega)];exact h1
  have ndP:ps.Nodup:=by rw [← S.pre];exact S.nd.sublist (TN _ _)
  refine ⟨u,rv,?_⟩
  rcases S.par y (Su hp) with k | k
  ·exact .inl ⟨k,tR ndP hp hu k⟩
  ·obtain ⟨c,e⟩:=xf (n:=s.heap.objs.size + 1) k
   refine .inr ⟨.inl k,c,e,?_⟩
   have q:=x.cell y c e
   rw [tP ndP hp hu (by show scope.names.lookup y≠_;rw [k];decide)] at q
   exact q
 ·exact e0.hok.fresh (Ul (x.above y c (PySem.mem_of_lookup h)))
 ·unfold start
  show _=N.length
  rw [SQ,Sm,List.length_replicate]
  omega
theorem D8 {CX:rT} {P:Program} {w:World} {K:PySem.W.Frag} {mg:Str→Option Value} {base:Heap} {k:Nat} {f:Addr} {name qual:Str} {params:Arguments} {body:List Stmt} {scope:Scope} {dV kV doc pm cdv ct oc:Value} {an od:Option Addr}
  {osl:Array (Option Value)} {N ps:List Str} {sp:Sp} (lk:K.lookup f=some ⟨oc,od,.func (PySem.W.fnOf name qual params body scope dV kV doc pm an cdv ct),osl⟩) (hcd:PySem.W.codeIn K cdv qual=true) (S:av N ps scope)
  (len:∀vs H Q E,sp vs H Q E→vs.length=ps.length)
  (hbody:∀(A:Around) (outer:List Env) (s:Shared) (H:Hp) (vs:List V) (Q:VK) (E:XK),bI k (A.deeper (envOfC qual scope s.heap.objs.size f cdv))→sp vs H Q E →
   ∃t,tN (uM CX P w K mg base N qual scope f cdv A outer s H E) body t∧t { nx:=λ_ H'=>Q .non H',rt:=Q } (start N vs) H) :
  aH P w K mg base CX (k + 1) f (PySem.W.fnOf name qual params body scope dV kV doc pm an cdv ct) ps sp:=by
 refine ⟨len,λA outer s H args us vs Q E hr e0 hb r hsp=>?_⟩
 have hl:=len _ _ _ _ hsp
 have KX:K.In s.heap:=e0.mod.kin.keeps λb o e=>(e0.bs b o e).1
 have lim:s.heap.NoLimit:=e0.mod.nolimit.keeps λb o e=>(e0.bs b o e).1
 have hkind:∀y∈ps.zip us,scope.names.lookup y.1=some .local∨(scope.names.lookup y.1=some .cell∧((cellsFrom (s.heap.objs.size + 1) scope.names []).lookup y.1).isSome=true):=λ⟨n,v⟩ hy=>by
  rcases S.par n (UH hy).1 with q | q
  ·exact .inl q
  ·exact .inr ⟨q,PySem.W.cellsFrom_some _ _ _ (.inl q)⟩
 refine codeAny_call_function hr.depth (KX _ _ lk) rfl S.co S.gen rfl (PySem.W.codeRec_of KX hcd) (hb _ _ _ _ ?_)
 refine wpAny_newFunctionEnv_cells S.kind hkind λenv he s1 x=>?_
 subst he
 refine ⟨lim.keeps x.toInCall.keep,codeAny_func ?_⟩
 obtain ⟨t,ht,hq⟩:=hbody A outer s H vs Q E (hr.deeper _) hsp
 have I:Inv (uM CX P w K mg base N qual scope f cdv A outer s H E) [] (start N vs) H s1:=Cy S hr.hd e0 hl r x
 refine wpAny_mono (ht [] s1 (start N vs) H _ I hq) (λfl s' hs=>?_) λe s' hs=>hs
 have fin:∀{σ':St} {H':Hp} {v:V} {u:Value},Inv (uM CX P w K mg base N qual scope f cdv A outer s H E) [] σ' H' s'→RelV v u→Q v H'→CE outer P w H s Q u s' :=
  λ{σ' H' v u} J rv q=>⟨v,H',J.os,J.bare,J.base,J.hok,rv,q⟩
 cases fl with
 | ret u =>
  obtain ⟨v,σ',H',J,rv,q⟩:=hs
  exact fin J rv q
 | next =>
  obtain ⟨σ',H',J,q⟩:=hs
  exact fin (v:=V.non) (u:=Value.none) J rfl q
 | brk =>
  obtain ⟨_,_,_,q⟩:=hs
  exact False.elim q
 | cont =>
  obtain ⟨_,_,_,q⟩:=hs
  exact False.elim q
end L2
namespace L2
open PySem PySem.Spec PyProof.Rows
section
variable {X:Cx} {x:Str} {p pos:Pos} {e:Expr} {es:List Expr} {t:TA} {id T:String} {r:List V→Hp→VK→Prop}
def JL (r:List V→Hp→VK→Prop) (t:TA):TE:=λσ H Q=>t σ H λvs H1=>r vs H1 Q
theorem dy (hc:bT X (.builtin id) r) (hg:Gl X x) (hm:X.mg x=none) (hv:bootBuiltins x=some (.builtin id)) (ha:PA X (e :: es) t) (hn:x≠"__name__":=by decide) (hdb:(x == ("__debug__":Str))=false:=by decide)
  (he:starEach (e :: es) X.env=(false,eval e X.env) :: starEach es X.env:=by rfl) (hpl:(backTo pos (starEach es X.env)).any (·.1)=false:=by rfl):PE X (.Call (.Name x p) (e :: es) [] pos) (JL r t):=by
 intro pins s σ H Q I h
 refine wpAny_Call_Name_kw (lI I hg hm hv ?_ hn hdb)
 exact PyProof.Rows.callWith_builtin1 (b9 (ha pos pins s σ H _ I h) λus s1 ⟨vs,H1,I1,r1,q1⟩=>hc pins s1 σ H1 vs us Q I1 r1 q1) he hpl
theorem n9 (hc:bT X (.type T) r) (hg:Gl X x) (hm:X.mg x=none) (hv:bootBuiltins x=some (.type T)) (ha:PA X (e :: es) t) (hn:x≠"__name__":=by decide) (hdb:(x == ("__debug__":Str))=false:=by decide)
  (he:starEach (e :: es) X.env=(false,eval e X.env) :: starEach es X.env:=by rfl) (hpl:(backTo pos (starEach es X.env)).any (·.1)=false:=by rfl):PE X (.Call (.Name x p) (e :: es) [] pos) (JL r t):=by
 intro pins s σ H Q I h
 refine wpAny_Call_Name_kw (lI I hg hm hv ?_ hn hdb)
 exact PyProof.Rows.callWith_type1 (b9 (ha pos pins s σ H _ I h) λus s1 ⟨vs,H1,I1,r1,q1⟩=>hc pins s1 σ H1 vs us Q I1 r1 q1) he hpl
end
end L2
namespace HT
open PySem PyProof.Rows
def lexLt:List Int→List Int→Bool
 | [],[]=>false
 | [],_ :: _=>true
 | _ :: _,[]=>false
 | x :: xs,y :: ys=>if x=y then lexLt xs ys else decide (x < y)
section
open PySem.SeqAt
open PySem.AutoSeq1 (wpAny_loadPart')
open PySem.MeetsSeq PySem.MeetsSeq2 PySem.MeetsSeq3
end
section
variable {prog:Program} {w:World} {A:Around} {E:Value→Shared→Prop} {s:Shared}
def dN (n d:Nat):Option Int→Nat
 | none=>d
 | some v=>if v < 0 then (v + (n:Int)).toNat else min v.toNat n
theorem yh (n d:Nat):dN n d none=d:=rfl
theorem vW (n d k:Nat):dN n d (some (k:Int))=min k n:=by
 show (if (k:Int) < 0 then ((k:Int) + (n:Int)).toNat else min (k:Int).toNat n)=min k n
 rw [if_neg (by omega),Int.toNat_natCast]
theorem LX (n d:Nat) (hd:d≤n) (o:Option Int):dN n d o≤n:=by
 cases o with
 | none=>exact hd
 | some v =>
  show (if v < 0 then (v + (n:Int)).toNat else min v.toNat n)≤n
  by_cases hv:v < 0
  ·rw [if_pos hv];omega
  ·rw [if_neg hv];exact Nat.min_le_right _ _
theorem AH (v:Int) (n d:Nat):(if v < 0 then max (v + (n:Int)) 0 else min v (n:Int))=((dN n d (some v):Nat):Int):=by
 show (if v < 0 then max (v + (n:Int)) 0 else min v (n:Int))=(((if v < 0 then (v + (n:Int)).toNat else min v.toNat n):Nat):Int)
 by_cases hv:v < 0
 ·simp only [if_pos hv];omega
 ·simp only [if_neg hv];omega
theorem y3 (lo hi:Option Int) (n:Nat):Builtin.Slice.sliceAdjust lo hi 1 (n:Int)=(((dN n 0 lo:Nat):Int),((dN n n hi:Nat):Int)):=by
 have h1:¬ ((1:Int) < 0):=by omega
 unfold Builtin.Slice.sliceAdjust
 simp only [h1,if_false]
 refine Prod.ext ?_ ?_
 ·cases lo with
  | none=>rfl
  | some v=>exact AH v n 0
 ·cases hi with
  | none=>rfl
  | some v=>exact AH v n n
theorem zP (i j:Nat):Builtin.Slice.slicePlaces (i:Int) (j:Int) 1=j - i:=by
 unfold Builtin.Slice.slicePlaces
 have h1:(1:Int) > 0:=by omega
 simp only [h1,if_true,Int.ediv_one]
 split <;> omega
theorem rE {v:Value} {o:Option Int} {Q:Option Int→Shared→Prop} (p:IsPart v o) (h:Q o s):wpAny (model prog w) A (Builtin.Slice.slicePartIndex v) Q E s:=by
 cases p with
 | none=>exact slicePart_none h
 | int i t=>exact slicePart_int h
theorem oA {sl:Addr} {vl vu:Value} {lo hi:Option Int} {n:Nat} {Q:Int × Int × Nat→Shared→Prop} (hs:s.heap.IsSliceOf sl vl vu .none) (pl:IsPart vl lo) (pu:IsPart vu hi)
  (h:Q (((dN n 0 lo:Nat):Int),1,dN n n hi - dN n 0 lo) s):wpAny (model prog w) A (Builtin.Slice.sliceApplied (.ref sl) (pure (n:Int))) Q E s:=by
 obtain ⟨os,hos,hcs,hds⟩:=id hs
 unfold Builtin.Slice.sliceApplied Builtin.Slice.sliceFields
 refine wpAny_bind (wpAny_bind (wpAny_field hos hds (x:=vl) rfl (wpAny_bind (wpAny_field hos hds (x:=vu) rfl (wpAny_bind (wpAny_field hos hds (x:=.none) rfl (wpAny_pure ?_)))))))
 refine wpAny_bind (slicePart_none ?_)
 show wpAny _ _ (if ((1:Int) == 0)=true then _ else _) _ _ s
 rw [if_neg (by decide)]
 refine wpAny_bind (rE pl (wpAny_bind (rE pu (wpAny_bind (wpAny_pure ?_)))))
 show wpAny _ _ (match Builtin.Slice.sliceAdjust lo hi 1 (n:Int) with | (lo,hi)=>pure (lo,(1:Int),Builtin.Slice.slicePlaces lo hi 1)) _ _ s
 rw [y3 lo hi n]
 show wpAny _ _ (pure (((dN n 0 lo:Nat):Int),(1:Int),Builtin.Slice.slicePlaces ((dN n 0 lo:Nat):Int) ((dN n n hi:Nat):Int) 1)) _ _ s
 rw [zP]
 exact wpAny_pure h
theorem Ff (xs:Array Value) (i k:Nat):((TJ k).filterMap λ(m:Nat)=>xs[((i:Int) + (m:Int) * 1).toNat]?).toArray=((xs.toList.drop i).take k).toArray:=by
 have e:(λ(m:Nat)=>xs[((i:Int) + (m:Int) * 1).toNat]?)=λm=>xs[i + m]?:=by
  funext m
  have:((i:Int) + (m:Int) * 1).toNat=i + m:=by omega
  rw [this]
 rw [e]
 have:=pick_run xs i k
 rw [List.filterMap_map] at this
 have e2:((λx=>xs[x]?) ∘ λx=>i + x)=λm=>xs[i + m]?:=rfl
 rw [e2] at this
 rw [this]
theorem mC {t sl:Addr} {items:Array Value} {vl vu:Value} {lo hi:Option Int} {Q:Value→Shared→Prop} (ht:IsTup s.heap t items) (hs:s.heap.IsSliceOf sl vl vu .none) (pl:IsPart vl lo) (pu:IsPart vu hi)
  (hw:¬ (dN items.size 0 lo=0∧dN items.size items.size hi=items.size))
  (h:Q (.ref s.heap.objs.size) { s with heap:=s.heap.push { cls:=.type "tuple",data:=.seq ((items.toList.drop (dN items.size 0 lo)).take (dN items.size items.size hi - dN items.size 0 lo)).toArray } })
  (hsz:items.size≤sizeLine):wpAny (model prog w) A (getItem (.ref t) (.ref sl)) Q E s:=by
 have htake:sizeOk (.seq ((items.toList.drop (dN items.size 0 lo)).take (dN items.size items.size hi - dN items.size 0 lo)).toArray):=by
  show ((items.toList.drop (dN items.size 0 lo)).take (dN items.size items.size hi - dN items.size 0 lo)).toArray.size≤sizeLine
  rw [Sv,SW,TF,Array.length_toList]
  omega
 have hj:dN items.size items.size hi≤items.size:=LX _ _ (Ss _) hi
 obtain ⟨os,hos,hcs,hds⟩:=id hs
 have hTs:s.TypeIs (.ref sl) "slice":=⟨os,hos,hcs⟩
 unfold getItem
 try with_reducible refine wpAny_holding ?_
 first | refine wpAny_bind (wpAny_pure ?_) | skip
 refine wpAny_bind (wpAny_sequenceKey ht.typeIs (by decide) ?_)
 refine wpAny_bind (wpAny_callSpecial?_slot (name:=Str.ofString "__getitem__") ht.typeIs PyProof.Rows.slot_tuple_getitem
  (wpAny_call_entry PyProof.Rows.slot_tuple_getitem ht.typeIs entry_tuple_getitem ?_ (args_tuple_getitem _ _)))
 show wpAny _ _ (Builtin.Tuple.tupleItemsOf (.ref t) >>= _) _ _ s
 refine wpAny_bind (tupleItemsOf_ ht ?_)
 refine wpAny_bind (wpAny_typeOf hTs ?_)
 rw [if_pos (by decide)]
 refine wpAny_bind (oA hs pl pu ?_)
 have hno:¬ ((((dN items.size 0 lo:Nat):Int) == 0 && (1:Int) == 1 && (dN items.size items.size hi - dN items.size 0 lo) == items.size)=true):=by
  intro q
  rw [SX,SX] at q
  have q1:((dN items.size 0 lo:Nat):Int)=0:=eq_of_beq q.1.1
  have q2:dN items.size items.size hi - dN items.size 0 lo=items.size:=eq_of_beq q.2
  exact hw ⟨by omega,by omega⟩
 show wpAny _ _ (if (((dN items.size 0 lo:Nat):Int) == 0 && (1:Int) == 1 && (dN items.size items.size hi - dN items.size 0 lo) == items.size)=true then _ else _) _ _ s
 rw [if_neg hno,Ff]
 first
  | exact wpAny_bind (m:=Builtin.Tuple.tupleExact _) (wpAny_newObj_type (wpAny_pure ⟨_,rfl,wpAny_pure h⟩) htake)
  | exact wpAny_bind (m:=Builtin.Tuple.tupleExact _) (wpAny_newObj_type (wpAny_bind (wpAny_pure (wpAny_pure ⟨_,rfl,wpAny_pure h⟩))) htake)
  | exact wpAny_bind (wpAny_bind (m:=Builtin.Tuple.tupleExact _) (wpAny_newObj_type (wpAny_pure (wpAny_pure ⟨_,rfl,wpAny_pure h⟩)) htake))
  | exact wpAny_bind (wpAny_bind (m:=Builtin.Tuple.tupleExact _) (wpAny_newObj_type (wpAny_pure ⟨_,rfl,wpAny_pure h⟩) htake))
end
end HT
namespace L2
open PySem PySem.Spec PyProof.Rows
abbrev TO:=St→Hp→(Option Int→Hp→Prop)→Prop
def PO (X:Cx) (e:Option Expr) (t:TO):Prop :=
 ∀(pins:List (Addr × Obj)) (s:Shared) (σ:St) (H:Hp) (Q:Option Int→Hp→Prop),Inv X pins σ H s→t σ H Q →
  wpAny (model X.prog X.w) X.A (evalPart e X.env) (λu s'=>∃o H',Inv X pins σ H' s'∧IsPart u o∧Q o H') X.xe s
def pW:TO:=λ_ H Q=>Q none H
def B7 (t:TE):TO:=λσ H Q=>t σ H λx H1=>∃i,x=.int i∧Q (some i) H1
theorem intsAre_of {ns:List Int}:∀{us:List Value},Vals (ns.map V.int) us→IntsAre us ns:=by
 induction ns with
 | nil=>intro us r;rw [Ts] at r;cases r;exact .nil
 | cons n ns ih =>
  intro us r
  rw [Sx] at r
  cases r with
  | cons r1 r2 =>
   obtain ⟨t,e⟩:=r1
   subst e
   exact .cons n t (ih r2)
section
variable {X:Cx} {e:Expr} {te:TE} {lo hi:Option Expr} {tl th:TO} {pos p2:Pos}
theorem pO:PO X none pW:=by
 intro pins s σ H Q I h
 rw [evalPart_none]
 exact wpAny_pure ⟨none,H,I,.none,h⟩
theorem kE (h:PE X e te):PO X (some e) (B7 te):=by
 intro pins s σ H Q I hw
 rw [evalPart_some]
 refine b9 (h pins s σ H _ I hw) λu s1 ⟨x,H1,I1,r1,q1⟩=>?_
 obtain ⟨i,rfl,q⟩:=q1
 obtain ⟨t,rfl⟩:=r1
 exact ⟨some i,H1,I1,.int i t,q⟩
def sH (X:Cx) (r:V→Option Int→Option Int→Hp→VK→Prop):Prop :=
 ∀(pins:List (Addr × Obj)) (s:Shared) (σ:St) (H:Hp) (x:V) (v vl vu:Value) (lo hi:Option Int) (sl:Addr) (Q:VK),Inv X pins σ H s→RelV x v→s.heap.IsSliceOf sl vl vu .none→IsPart vl lo→IsPart vu hi→r x lo hi H Q →
  ∃T id,typeLookup (.type T) "__getitem__"=pure (some (.builtin id))∧s.TypeIs v T∧wpAny (model X.prog X.w) X.A (getItem v (.ref sl)) (EP X pins σ Q) X.xe s
theorem sH.or {r r':V→Option Int→Option Int→Hp→VK→Prop} (h:sH X r) (h':sH X r'):sH X (λx lo hi H Q=>r x lo hi H Q∨r' x lo hi H Q):=by
 intro pins s σ H x v vl vu lo hi sl Q I rx hs pl pu q
 rcases q with q | q
 ·exact h pins s σ H x v vl vu lo hi sl Q I rx hs pl pu q
 ·exact h' pins s σ H x v vl vu lo hi sl Q I rx hs pl pu q
def Pf (r:V→Option Int→Option Int→Hp→VK→Prop) (te:TE) (tl th:TO):TE:=λσ H Q=>te σ H λx H1=>tl σ H1 λl H2=>th σ H2 λu H3=>r x l u H3 Q
theorem jS {r:V→Option Int→Option Int→Hp→VK→Prop} (hr:sH X r) (he:PE X e te) (hl:PO X lo tl) (hu:PO X hi th):PE X (.Subscript e (.Slice lo hi none p2) pos) (Pf r te tl th):=by
 intro pins s σ H Q I h
 refine Subscript_ (b9 (he pins s σ H _ I h) λv s1 ⟨x,H1,I1,r1,q1⟩=>?_)
 refine wpAny_Slice (b9 (hl pins s1 σ H1 _ I1 q1) λvl s2 ⟨l,H2,I2,pl,q2⟩=>b9 (hu pins s2 σ H2 _ I2 q2) λvu s3 ⟨u,H3,I3,pu,q3⟩=>?_)
 rw [evalPart_none]
 refine wpAny_pure ?_
 have I4:Inv X pins σ H3 { s3 with heap:=s3.heap.push { cls:=.type "slice",data:=.fields #[vl,vu,.none] } }:=I3.kept (t':=s3.toks) λb ob q=>Heap.get?_push_of_some _ q
 obtain ⟨T,id,hT,ht,hg⟩:=hr pins { s3 with heap:=s3.heap.push { cls:=.type "slice",data:=.fields #[vl,vu,.none] } } σ H3 x v vl vu l u s3.heap.objs.size Q I4 r1 (Heap.IsSliceOf.new ..) pl pu q3
 show wpAny (model X.prog X.w) X.A (subscriptTail e (.Slice lo hi none p2) v (.ref s3.heap.objs.size)) (EP X pins σ Q) X.xe { s3 with heap:=s3.heap.push { cls:=.type "slice",data:=.fields #[vl,vu,.none] } }
 exact tail_any (ops:=[.ref s3.heap.objs.size,v]) ht hT hg (by with_unfolding_all rfl)
def nJ (xs:List V) (lo hi:Option Int):List V:=(xs.drop (HT.dN xs.length 0 lo)).take (HT.dN xs.length xs.length hi - HT.dN xs.length 0 lo)
theorem oM (xs:List V) (lo hi:Option Int):(nJ xs lo hi).length≤xs.length:=by
 unfold nJ
 rw [SW,TF]
 omega
def QF (K:PySem.W.Frag):V→Option Int→Option Int→Hp→VK→Prop:=λx lo hi H Q=>∃a xs,x=.ref a∧gr K H a xs ∧
 ¬ (HT.dN xs.length 0 lo=0∧HT.dN xs.length xs.length hi=xs.length)∧∀p,H p=none→Q (.ref p) (upd H p (.tup (nJ xs lo hi)))
theorem L8:sH X (QF X.K):=by
 intro pins s σ H x v vl vu lo hi sl Q I rx hs pl pu h
 obtain ⟨a,xs,rfl,hx,hw,q⟩:=h
 cases rx
 obtain ⟨its,r,ht,hz⟩:=I.tuple hx
 have hlen:its.toArray.size=xs.length:=by rw [Sv];exact r.length.symm
 refine ⟨"tuple",_,PyProof.Rows.slot_tuple_getitem.lookup,ht.typeIs,?_⟩
 refine HT.mC ht hs pl pu (by rw [hlen];exact hw) ?_ (by rw [hlen];exact hz)
 rw [hlen]
 refine ⟨.ref s.heap.objs.size,_,I.laid (t':=s.toks) (o:=.tup (nJ xs lo hi)) (λb ob q=>Heap.get?_push_of_some _ q) (Ss _) ?_,rfl,q _ (I.hok.fresh (Ss _))⟩
 exact ⟨SM (oM xs lo hi) hz,_,(r.drop (HT.dN xs.length 0 lo)).take (HT.dN xs.length xs.length hi - HT.dN xs.length 0 lo),IsTup.new _ _⟩
end
end L2
namespace L2
open PySem PySem.Spec PyProof.Rows
def Ds (n:Nat) (i:Int):Option Nat:=if 0≤i then (if i < n then some i.toNat else none) else if -(n:Int)≤i then some (i + n).toNat else none
def c7 {α:Type} (xs:List α) (i:Int):Option α:=(Ds xs.length i).bind λj=>xs[j]?
theorem A_ {n:Nat} {i:Int} {j:Nat} (h:Ds n i=some j):seqIndex? i n=some j∧j < n∧-(n:Int)≤i∧i < n:=by
 unfold Ds at h
 by_cases h0:0≤i
 ·rw [if_pos h0] at h
  by_cases h1:i < n
  ·rw [if_pos h1] at h
   have e:i.toNat=j:=Option.some.inj h
   exact ⟨by rw [seqIndex_of h0 h1,e],by omega,by omega,h1⟩
  ·rw [if_neg h1] at h;cases h
 ·rw [if_neg h0] at h
  by_cases h1:-(n:Int)≤i
  ·rw [if_pos h1] at h
   have e:(i + n).toNat=j:=Option.some.inj h
   exact ⟨by rw [seqIndex_neg (by omega) h1,e],by omega,h1,by omega⟩
  ·rw [if_neg h1] at h;cases h
theorem uI {α:Type} {xs:List α} {i:Int} {v:α} (h:c7 xs i=some v):∃j,seqIndex? i xs.length=some j∧xs[j]?=some v∧j < xs.length∧-(xs.length:Int)≤i∧i < xs.length:=by
 unfold c7 at h
 cases e:Ds xs.length i with
 | none=>rw [e] at h;cases h
 | some j =>
  rw [e] at h
  obtain ⟨h1,h2,h3,h4⟩:=A_ e
  exact ⟨j,h1,h,h2,h3,h4⟩
theorem bx {α:Type} {xs:List α} {j:Nat} {v:α} (h:xs[j]?=some v):c7 xs (j:Int)=some v:=by
 have hj:j < xs.length:=(Sq.mp h).1
 have e:Ds xs.length (j:Int)=some j:=by
  unfold Ds
  rw [if_pos (by omega),if_pos (by omega)];simp
 unfold c7;rw [e];exact h
def cT (b:Expr):Prop:=∀o i,subscripted b false o i=operate [o,i] (getItem o i)
def pE (X:Cx) (r:R2):Prop :=
 ∀(value slice:Expr) (pins:List (Addr × Obj)) (s:Shared) (σ:St) (H:Hp) (x y:V) (v u:Value) (Q:VK),Inv X pins σ H s→RelV x v→RelV y u→r x y H Q →
  subscripted slice false v u=operate [v,u] (getItem v u)→wpAny (model X.prog X.w) X.A (subscriptTail value slice v u) (EP X pins σ Q) X.xe s
def pF (X:Cx) (id:String) (r:V→List V→Hp→VK→Prop):Prop :=
 ∀(pins:List (Addr × Obj)) (s:Shared) (σ:St) (H:Hp) (x:V) (xs:List V) (v:Value) (us:List Value) (Q:VK),Inv X pins σ H s→RelV x v→Vals xs us→r x xs H Q →
  wpAny (model X.prog X.w) X.A (call (.builtin id) (v :: us)) (EP X pins σ Q) X.xe s
section
variable {X:Cx} {a b:Expr} {ta tb:TE} {pos:Pos}
theorem pE.or {r r':R2} (h:pE X r) (h':pE X r'):pE X (λx y H Q=>r x y H Q∨r' x y H Q):=by
 intro value slice pins s σ H x y v u Q I rx ry q hs
 rcases q with q | q
 ·exact h value slice pins s σ H x y v u Q I rx ry q hs
 ·exact h' value slice pins s σ H x y v u Q I rx ry q hs
theorem pF.or {id:String} {r r':V→List V→Hp→VK→Prop} (h:pF X id r) (h':pF X id r'):pF X id (λx xs H Q=>r x xs H Q∨r' x xs H Q):=by
 intro pins s σ H x xs v us Q I rx rs q
 rcases q with q | q
 ·exact h pins s σ H x xs v us Q I rx rs q
 ·exact h' pins s σ H x xs v us Q I rx rs q
theorem bW {r:R2} (hr:pE X r) (ha:PE X a ta) (hb:PE X b tb) (hs:cT b):PE X (.Subscript a b pos) (F5 r ta tb):=by
 intro pins s σ H Q I h
 exact Subscript_ (Kj ha hb I h λv u s2 x y H2 I2 rx ry q=>hr a b pins s2 σ H2 x y v u Q I2 rx ry q (hs _ _))
def Of (K:PySem.W.Frag):R2:=λx y H Q=>∃p xs i v,x=.ref p∧y=.int i∧cF K H p xs∧c7 xs i=some v∧Q v H
def Oh (K:PySem.W.Frag):R2:=λx y H Q=>∃p xs i v,x=.ref p∧y=.int i∧gr K H p xs∧c7 xs i=some v∧Q v H
def Og:R2:=λx y H Q=>∃z i c,x=.str z∧y=.int i∧z.length≤sizeLine∧c7 z.cps.toList i=some c∧Q (.str ⟨#[c]⟩) H
theorem uR:pE X (Of X.K):=by
 intro value slice pins s σ H x y v u Q I rx ry h hs
 obtain ⟨p,xs,i,z,rfl,rfl,hq,he,q⟩:=h
 cases rx
 obtain ⟨t,rfl⟩:=ry
 obtain ⟨its,r,pl,hz⟩:=I.list hq
 obtain ⟨j,h1,h2,h3,h4,h5⟩:=uI he
 obtain ⟨w,ew,rw'⟩:=r.get h2
 have hl:=r.length
 have hn:=lK
 have fin:EP X pins σ Q w s:=⟨z,H,I,rw',q⟩
 by_cases h0:0≤i
 ·have hj:i.toNat=j:=by
   rw [seqIndex_of h0 h5] at h1
   exact Option.some.inj h1
  exact item_listR pl.isList h0 (by omega) (by rw [hj];simpa using ew) fin hs
 ·have hj:(i + (its.toArray.size:Int)).toNat=j:=by
   rw [seqIndex_neg (by omega) h4] at h1
   rw [Sv,← hl]
   exact Option.some.inj h1
  exact subscriptTail_builtinR (x:=w) pl.isList.typeIs slot_list_getitem.lookup
   (wpAny_getItem_list_neg (Q:=λr s'=>r=w∧EP X pins σ Q r s') pl.isList (by omega) (by rw [Sv] <;> omega) (by omega) (by rw [hj];simpa using ew) ⟨rfl,fin⟩) hs
theorem cH:pE X (Oh X.K):=by
 intro value slice pins s σ H x y v u Q I rx ry h hs
 obtain ⟨p,xs,i,z,rfl,rfl,hq,he,q⟩:=h
 cases rx
 obtain ⟨t,rfl⟩:=ry
 obtain ⟨its,r,pl,hz⟩:=I.tuple hq
 obtain ⟨j,h1,h2,h3,h4,h5⟩:=uI he
 obtain ⟨w,ew,rw'⟩:=r.get h2
 have hl:=r.length
 have hn:=lK
 have fin:EP X pins σ Q w s:=⟨z,H,I,rw',q⟩
 exact subscriptTail_builtinR (x:=w) pl.typeIs slot_tuple_getitem.lookup
  (getItem_tuple (j:=j) (Q:=λr s'=>r=w∧EP X pins σ Q r s') pl (by omega) (by omega) (by rw [Sv,← hl];exact h1) (by simpa using ew) ⟨rfl,fin⟩) hs
theorem Er:pE X Og:=by
 intro value slice pins s σ H x y v u Q I rx ry h hs
 obtain ⟨z,i,c,rfl,rfl,hz,he,q⟩:=h
 obtain ⟨t,rfl⟩:=rx
 obtain ⟨t',rfl⟩:=ry
 obtain ⟨j,h1,h2,h3,h4,h5⟩:=uI he
 have hl:z.cps.toList.length=z.length:=by simp [Str.length]
 rw [hl] at h1 h4 h5
 have hn:=lK
 exact tail_any (typeIs_str s z t) slot_str_getitem.lookup (getItem_str (c:=c) (by
  have e1:decide (i < -(2 ^ 63:Int))=false:=decide_eq_false (by omega)
  have e2:decide (i ≥ 2 ^ 63)=false:=decide_eq_false (by omega)
  rw [e1,e2,Bool.or_false]) (by rw [h1];simpa using h2) ⟨.str ⟨#[c]⟩,H,I.tok _,⟨_,rfl⟩,q⟩) hs
theorem zy (its:List Value) (n j:Nat) (u:Value):Obj.mapSeq (·.setIfInBounds j u) { cls:=.type "list",data:=.seq its.toArray n }={ cls:=.type "list",data:=.seq (its.set j u).toArray n }:=by
 simp [Obj.mapSeq]
theorem Inv.lst {pins:List (Addr × Obj)} {σ:St} {H:Hp} {s:Shared} {p:Addr} {xs:List V} (I:Inv X pins σ H s) (h:H p=some (.lst xs)) :
  ∃(its:List Value) (n:Nat),Vals xs its∧s.heap.get? p=some { cls:=.type "list",data:=.seq its.toArray n }∧xs.length≤sizeLine:=by
 obtain ⟨z,its,n,r,e⟩:=I.hok p _ h
 exact ⟨its,n,r,e,z⟩
theorem Inv.KY {pins:List (Addr × Obj)} {σ:St} {H:Hp} {s:Shared} {p:Addr} {xs ys:List V} {its its':List Value} {n n':Nat} {f:Obj→Obj} (I:Inv X pins σ H s) (h:H p=some (.lst xs))
  (ho:s.heap.get? p=some { cls:=.type "list",data:=.seq its.toArray n }) (hf:f { cls:=.type "list",data:=.seq its.toArray n }={ cls:=.type "list",data:=.seq its'.toArray n' }) (r:Vals ys its') (hz:ys.length≤sizeLine) (t:Nat) :
  Inv X pins σ (upd H p (.lst ys)) { s with heap:=s.heap.update p f,toks:=t }:=by
 have e:(s.heap.update p f).get? p=some { cls:=.type "list",data:=.seq its'.toArray n' }:=by
  rw [Heap.get?_update_self f ho (by rw [hf] <;> rfl),hf]
 refine I.write (x:=p) (e:=p) (by rw [h];trivial) (.inl rfl) (λb u hb q=>(Heap.get?_update_other _ _ (Ne.symm hb)).trans q) ⟨_,e⟩ ?_
 exact ⟨hz,its',n',r,e⟩
def JD:V→V→V→Hp→(Hp→Prop)→Prop:=λo i v H Q=>∃p xs k j,o=.ref p∧i=.int k∧H p=some (.lst xs)∧Ds xs.length k=some j∧Q (upd H p (.lst (xs.set j v)))
theorem set_list:jt X JD:=by
 intro pins s σ H o i v ov iv u Q I ro ri rv h
 obtain ⟨p,xs,k,j,rfl,rfl,hp,hj,q⟩:=h
 cases ro
 obtain ⟨t,rfl⟩:=ri
 obtain ⟨its,n,r,ho,hz⟩:=I.lst hp
 obtain ⟨h1,h2,h3,h4⟩:=A_ hj
 have hl:=r.length
 have hn:=lK
 have I':Inv X pins σ (upd H p (.lst (xs.set j v))) { s with heap:=s.heap.update p (Obj.mapSeq (·.setIfInBounds j u)) } :=
  I.KY hp ho (zy its n j u) (r.set rv j) (by rw [TY];exact hz) s.toks
 by_cases h0:0≤k
 ·have hk:k.toNat=j:=by
   rw [seqIndex_of h0 h4] at h1
   exact Option.some.inj h1
  exact PySem.W.ki_setAt ho h0 (by omega) (by rw [Sv,← hl];exact h4) (by rw [hk];exact ⟨_,I',q⟩)
 ·have hk:(k + (its.toArray.size:Int)).toNat=j:=by
   rw [seqIndex_neg (by omega) h3] at h1
   rw [Sv,← hl]
   exact Option.some.inj h1
  exact PySem.W.ki_setBack ho (by omega) (by rw [Sv,← hl];exact h3) (by omega) (by rw [hk];exact ⟨_,I',q⟩)
theorem wm (lo hi:Option Int) (n:Nat):(sliceBounds lo hi none n).1=((HT.dN n 0 lo:Nat):Int)∧(sliceBounds lo hi none n).2.1=((HT.dN n n hi:Nat):Int)∧(sliceBounds lo hi none n).2.2=1:=by
 refine ⟨?_,?_,rfl⟩
 ·cases lo with
  | none=>simp [sliceBounds,HT.dN]
  | some i =>
   simp only [sliceBounds,HT.dN,U3,show (1:Int) > 0 by decide,if_true]
   by_cases h:i < 0
   ·simp only [h,if_true] <;> omega
   ·simp only [h,if_false] <;> omega
 ·cases hi with
  | none=>simp [sliceBounds,HT.dN]
  | some i =>
   simp only [sliceBounds,HT.dN,U3,show (1:Int) > 0 by decide,if_true]
   by_cases h:i < 0
   ·simp only [h,if_true] <;> omega
   ·simp only [h,if_false] <;> omega
theorem tH (its:List Value) (lo hi:Option Int):slicePick its.toArray lo hi none=((its.drop (HT.dN its.length 0 lo)).take (HT.dN its.length its.length hi - HT.dN its.length 0 lo)).toArray:=by
 obtain ⟨h1,h2,h3⟩:=wm lo hi its.toArray.size
 unfold slicePick
 rw [h1,h2,h3]
 simp only [sliceRange_one,pick_run,Sv] <;> rfl
def Ow (K:PySem.W.Frag):V→Option Int→Option Int→Hp→VK→Prop:=λx lo hi H Q=>∃a xs,x=.ref a∧cF K H a xs∧∀p,H p=none→Q (.ref p) (upd H p (.lst (nJ xs lo hi)))
theorem wj:sH X (Ow X.K):=by
 intro pins s σ H x v vl vu lo hi sl Q I rx hs pl pu h
 obtain ⟨a,xs,rfl,hx,q⟩:=h
 cases rx
 obtain ⟨its,r,ht,hz⟩:=I.list hx
 have hlen:=r.length
 refine ⟨"list",_,slot_list_getitem.lookup,ht.isList.typeIs,?_⟩
 refine wpAny_getItem_list_slice ht.isList hs pl pu .none (by simp) ?_ (by rw [Sv] <;> omega)
 rw [tH,← hlen]
 refine ⟨.ref s.heap.objs.size,_,I.laid (t':=s.toks) (o:=.lst (nJ xs lo hi)) (λb ob q=>Heap.get?_push_of_some _ q) (Ss _) ?_,rfl,q _ (I.hok.fresh (Ss _))⟩
 exact ⟨SM (oM xs lo hi) hz,_,0,(r.drop (HT.dN xs.length 0 lo)).take (HT.dN xs.length xs.length hi - HT.dN xs.length 0 lo),Heap.get?_push_size _ rfl⟩
def jg:V→Bool
 | .non=>true
 | .bl _=>true
 | .int _=>true
 | .str _=>true
 | _=>false
def Gb:V→V→Bool
 | .non,.non=>true
 | .bl a,.bl b=>a == b
 | .bl a,.int b=>(if a then 1 else 0) == b
 | .int a,.bl b=>a == (if b then 1 else 0)
 | .int a,.int b=>a == b
 | .str a,.str b=>a == b
 | _,_=>false
theorem Kt {A:Around} {s:Shared} {y x:V} {u v:Value} (ry:RelV y u) (rx:RelV x v) (fy:jg y=true) (fx:jg x=true):SeqAt.EqAt A s u v (Gb y x):=by
 cases y with
 | non =>
  cases ry
  cases x with
  | non=>cases rx;exact SeqAt.EqAt.same _
  | bl b=>cases rx;exact SeqAt.EqAt.none_bool b
  | int b=>obtain ⟨t,rfl⟩:=rx;exact SeqAt.EqAt.none_int b t
  | str b=>obtain ⟨t,rfl⟩:=rx;exact SeqAt.EqAt.none_str b t
  | _=>exact absurd (show false=true from fx) SI
 | bl a =>
  cases ry
  cases x with
  | non=>cases rx;exact SeqAt.EqAt.bool_none a
  | bl b=>cases rx;exact SeqAt.EqAt.bool_bool a b
  | int b=>obtain ⟨t,rfl⟩:=rx;exact SeqAt.EqAt.bool_int a b t
  | str b=>obtain ⟨t,rfl⟩:=rx;exact SeqAt.EqAt.bool_str a b t
  | _=>exact absurd (show false=true from fx) SI
 | int a =>
  obtain ⟨t',rfl⟩:=ry
  cases x with
  | non=>cases rx;exact SeqAt.EqAt.int_none a t'
  | bl b=>cases rx;exact SeqAt.EqAt.int_bool a t' b
  | int b=>obtain ⟨t,rfl⟩:=rx;exact SeqAt.EqAt.int_int a t' b t
  | str b=>obtain ⟨t,rfl⟩:=rx;exact SeqAt.EqAt.int_str a t' b t
  | _=>exact absurd (show false=true from fx) SI
 | str a =>
  obtain ⟨t',rfl⟩:=ry
  cases x with
  | non=>cases rx;exact SeqAt.EqAt.str_none a t'
  | bl b=>cases rx;exact SeqAt.EqAt.str_bool a t' b
  | int b=>obtain ⟨t,rfl⟩:=rx;exact SeqAt.EqAt.str_int a t' b t
  | str b=>obtain ⟨t,rfl⟩:=rx;exact SeqAt.EqAt.str_str a t' b t
  | _=>exact absurd (show false=true from fx) SI
 | _=>exact absurd (show false=true from fy) SI
def zf (x:V) (u:Value):Bool:=match u with
 | .none=>Gb .non x
 | .bool b=>Gb (.bl b) x
 | .int i _=>Gb (.int i) x
 | .str z _=>Gb (.str z) x
 | _=>false
theorem D4 {x y:V} {u:Value} (r:RelV y u) (f:jg y=true):zf x u=Gb y x:=by
 cases y with
 | non=>cases r;rfl
 | bl b=>cases r;rfl
 | int i=>obtain ⟨t,rfl⟩:=r;rfl
 | str z=>obtain ⟨t,rfl⟩:=r;rfl
 | _=>exact absurd (show false=true from f) SI
theorem mr {x:V}:∀{xs:List V} {us:List Value},Vals xs us→xs.all jg=true→us.any (zf x)=xs.any λy=>Gb y x
 | _,_,.nil,_=>rfl
 | y :: xs,u :: us,.cons r t,f=>by
  rw [UU,SX] at f
  rw [TZ,TZ,D4 r f.1,mr t f.2]
theorem jN {A:Around} {s:Shared} {x:V} {v:Value} (rx:RelV x v) (fx:jg x=true):∀{xs:List V} {us:List Value},Vals xs us→xs.all jg=true→∀u∈us,SeqAt.EqAt A s u v (zf x u)
 | _,_,.nil,_=>λu hu=>by cases hu
 | y :: xs,u :: us,.cons r t,f=>λu' hu=>by
  rw [UU,SX] at f
  rcases SH.mp hu with rfl | hu
  ·rw [D4 r f.1];exact Kt r rx f.1 fx
  ·exact jN rx fx t f.2 u' hu
def MA (x:V) (xs:List V):Bool:=xs.any λy=>Gb y x
def RU (K:PySem.W.Frag) (neg:Bool):R2:=λx y H Q=>∃p xs,y=.ref p∧(cF K H p xs∨gr K H p xs)∧jg x=true∧xs.all jg=true∧Q (.bl (if neg then !MA x xs else MA x xs)) H
theorem C1:eO X (compareOp .In) (RU X.K false):=by
 intro pins s σ H x y v u Q I rx ry h
 obtain ⟨p,xs,rfl,hq,fx,fs,q⟩:=h
 cases ry
 rcases hq with hq | hq
 ·obtain ⟨its,r,pl,hz⟩:=I.list hq
  refine SeqAt.in_listAt (zf x) pl.isList (λw hw=>jN rx fx r fs w (by simpa using hw)) ⟨.bl _,H,I,rfl,?_⟩
  rw [show its.toArray.any (zf x)=its.any (zf x) by simp,mr r fs]
  exact q
 ·obtain ⟨its,r,pl,hz⟩:=I.tuple hq
  refine SeqAt.in_tupleAt (zf x) pl (λw hw=>jN rx fx r fs w (by simpa using hw)) ⟨.bl _,H,I,rfl,?_⟩
  rw [show its.toArray.any (zf x)=its.any (zf x) by simp,mr r fs]
  exact q
theorem vp:eO X (compareOp .NotIn) (RU X.K true):=by
 intro pins s σ H x y v u Q I rx ry h
 obtain ⟨p,xs,rfl,hq,fx,fs,q⟩:=h
 cases ry
 rcases hq with hq | hq
 ·obtain ⟨its,r,pl,hz⟩:=I.list hq
  refine SeqAt.notIn_listAt (zf x) pl.isList (λw hw=>jN rx fx r fs w (by simpa using hw)) ⟨.bl _,H,I,rfl,?_⟩
  rw [show its.toArray.any (zf x)=its.any (zf x) by simp,mr r fs]
  exact q
 ·obtain ⟨its,r,pl,hz⟩:=I.tuple hq
  refine SeqAt.notIn_tupleAt (zf x) pl (λw hw=>jN rx fx r fs w (by simpa using hw)) ⟨.bl _,H,I,rfl,?_⟩
  rw [show its.toArray.any (zf x)=its.any (zf x) by simp,mr r fs]
  exact q
theorem iG:bT X (.builtin "len") (λxs H Q=>∃p ys,xs=[.ref p]∧(cF X.K H p ys∨gr X.K H p ys)∧Q (.int ys.length) H):=by
 intro pins s σ H xs us Q I r h
 obtain ⟨p,ys,rfl,hq,q⟩:=h
 obtain ⟨u,rfl,rx⟩:=vals1 r
 cases rx
 have hn:=lK
 rcases hq with hq | hq
 ·obtain ⟨its,r',pl,hz⟩:=I.list hq
  have hlen:=r'.length
  exact Calls.call_len_list pl.isList (by simp only [Sv] <;> omega) ⟨.int ys.length,H,I.tok _,⟨s.toks + 1,by rw [Sv,hlen]⟩,q⟩
 ·obtain ⟨its,r',pl,hz⟩:=I.tuple hq
  have hlen:=r'.length
  exact len_tuple pl (by simp only [Sv] <;> omega) ⟨.int ys.length,H,I.tok _,⟨s.toks + 1,by rw [Sv,hlen]⟩,q⟩
theorem mx:bT X (.builtin "len") (λxs H Q=>∃z,xs=[.str z]∧z.length≤sizeLine∧Q (.int z.length) H):=by
 intro pins s σ H xs us Q I r h
 obtain ⟨z,rfl,hz,q⟩:=h
 obtain ⟨u,rfl,t,rfl⟩:=vals1 r
 have hn:=lK
 exact len_str (by omega) ⟨.int z.length,H,I.tok _,⟨_,rfl⟩,q⟩
theorem bT.or {f:Value} {r r':List V→Hp→VK→Prop} (h:bT X f r) (h':bT X f r'):bT X f (λxs H Q=>r xs H Q∨r' xs H Q):=by
 intro pins s σ H xs us Q I rs q
 rcases q with q | q
 ·exact h pins s σ H xs us Q I rs q
 ·exact h' pins s σ H xs us Q I rs q
theorem uK:bT X (.type "list") (λxs H Q=>∃p ys,xs=[.ref p]∧(cF X.K H p ys∨gr X.K H p ys)∧∀l,H l=none→Q (.ref l) (upd H l (.lst ys))):=by
 intro pins s σ H xs us Q I r h
 obtain ⟨p,ys,rfl,hq,q⟩:=h
 obtain ⟨u,rfl,rx⟩:=vals1 r
 cases rx
 have fin:∀(its:List Value),Vals ys its→ys.length≤sizeLine→∀(h':Heap) (c':Nat),(∀b o',s.heap.get? b=some o'→h'.get? b=some o') →
   h'.get? s.heap.objs.size=some { cls:=.type "list",dict:=none,data:=.seq its.toArray c',slots:=#[] }→EP X pins σ Q (.ref s.heap.objs.size) { s with heap:=h' }:=λits r' hz h' c' kp e =>
  ⟨.ref s.heap.objs.size,_,I.laid (t':=s.toks) kp (Ss _) (show cX X.prog X.w _ h' _ (.lst ys) from ⟨hz,its,c',r',e⟩),rfl,q _ (I.hok.fresh (Ss _))⟩
 rcases hq with hq | hq
 ·obtain ⟨its,r',pl,hz⟩:=I.list hq
  have hlen:=r'.length
  obtain ⟨o,ho,hc,n,hd⟩:=pl.isList
  exact call_list_seq p (.inl rfl) ho hc hd (λh' c' kp e=>fin its r' hz h' c' kp e) (by simp only [Sv] <;> omega)
 ·obtain ⟨its,r',pl,hz⟩:=I.tuple hq
  have hlen:=r'.length
  obtain ⟨o,ho,hc,n,hd⟩:=pl
  exact call_list_seq p (.inr rfl) ho hc hd (λh' c' kp e=>fin its r' hz h' c' kp e) (by simp only [Sv] <;> omega)
def Pj (K:PySem.W.Frag) (T:String) (x:V) (H:Hp):Prop:=match x with
 | .str _=>T="str"
 | .int _=>T="int"
 | .ref p=>(T="list"∧∃xs,cF K H p xs)∨(T="tuple"∧∃o,K.lookup p=some o∧o.cls=.type "tuple"∧o.dict=none) ∨
   (T="dict"∧((∃kvs,H p=some (.dK kvs))∨∃kvs ep,H p=some (.dE kvs ep)))∨(T="set"∧∃S n,H p=some (.set S n))
 | _=>False
theorem F9 {pins:List (Addr × Obj)} {σ:St} {H:Hp} {s:Shared} {T:String} {x:V} {v:Value} (I:Inv X pins σ H s) (r:RelV x v) (ty:Pj X.K T x H) :
  s.TypeIs v T∧∀a,v=.ref a→∃ob,s.heap.get? a=some ob∧ob.dict=none:=by
 cases x with
 | str z =>
  obtain ⟨t,rfl⟩:=r
  cases (show T="str" from ty)
  exact ⟨typeIs_str s z t,λ_ e=>nomatch e⟩
 | int i =>
  obtain ⟨t,rfl⟩:=r
  cases (show T="int" from ty)
  exact ⟨typeIs_int s i t,λ_ e=>nomatch e⟩
 | ref p =>
  cases r
  rcases ty with ⟨rfl,xs,hq⟩ | ⟨rfl,o,hk,hc,hd⟩ | ⟨rfl,hk⟩ | ⟨rfl,S,n,hk⟩
  ·obtain ⟨its,_,pl,_⟩:=I.list hq
   refine ⟨pl.isList.typeIs,λa e=>?_⟩
   cases e
   obtain ⟨o,n,e,c,hd,_⟩:=pl
   exact ⟨o,e,hd⟩
  ·refine ⟨⟨o,I.mE p o hk,hc⟩,λa e=>?_⟩
   cases e
   exact ⟨o,I.mE _ o hk,hd⟩
  ·have z:∃o,s.heap.get? p=some o∧o.ExactDict:=by
    rcases hk with ⟨kvs,hk⟩ | ⟨kvs,ep,hk⟩
    ·obtain ⟨_,_,_,_,o,_,_,e,ex,_⟩:=I.hok p _ hk
     exact ⟨o,e,ex⟩
    ·obtain ⟨_,_,_,_,o,_,e,ex,_⟩:=I.hok p _ hk
     exact ⟨o,e,ex⟩
   obtain ⟨o,e,ex⟩:=z
   refine ⟨⟨o,e,ex.1⟩,λa e2=>?_⟩
   cases e2
   exact ⟨o,e,ex.2.1⟩
  ·obtain ⟨o,_,_,_,e,ex,_⟩:=I.hok p _ hk
   refine ⟨⟨o,e,ex.1⟩,λa e2=>?_⟩
   cases e2
   exact ⟨o,e,ex.2.1⟩
 | _=>exact False.elim ty
def QM (K:PySem.W.Frag) (T:String) (r:V→List V→Hp→VK→Prop) (to:TE):TE:=λσ H Q=>to σ H λx H1=>Pj K T x H1∧r x [] H1 Q
def Pc (K:PySem.W.Frag) (T:String) (r:V→List V→Hp→VK→Prop) (to:TE) (t:TA):TE:=λσ H Q=>to σ H λx H1=>Pj K T x H1∧t σ H1 λxs H2=>r x xs H2 Q
variable {o e:Expr} {es:List Expr} {to:TE} {t:TA} {name:Str} {apos cpos:Pos} {T id:String} {r:V→List V→Hp→VK→Prop}
theorem Ll (pa:PlainAttrs T) (slot:Slot T name id) (hty:typeOf (.builtin id)=pure (.type "method_descriptor")) (hm:pF X id r) (ho:PE X o to)
  (hbase:attributeBase o name X.env (eval o X.env)=eval o X.env:=by rfl) (hline:(apos.endLine == cpos.line)=true:=by rfl):PE X (.Call (.Attribute o name apos) [] [] cpos) (QM X.K T r to):=by
 intro pins s σ H Q I h
 refine wpAny_Call_method0_late hbase hline (b9 (ho pins s σ H _ I h) λv s1 ⟨x,H1,I1,r1,ty,q1⟩=>?_)
 obtain ⟨h1,h2⟩:=F9 I1 r1 ty
 exact ⟨T,id,pa,slot,hty,h1,h2,Calls.callWith_builtin rfl (PySem.evalArgs_none (hm pins s1 σ H1 x [] v [] Q I1 r1 .nil q1))⟩
theorem qR (pa:PlainAttrs T) (slot:Slot T name id) (hty:typeOf (.builtin id)=pure (.type "method_descriptor")) (hm:pF X id r) (ho:PE X o to) (ha:PA X (e :: es) t)
  (hbase:attributeBase o name X.env (eval o X.env)=eval o X.env:=by rfl)
  (hfew:((backTo cpos (starEach (e :: es) X.env)).all (λx=>!x.1) && (backToKw cpos (keywordEach [] X.env)).all (λx=>x.1.isSome)
   && decide ((e :: es).length + ([]:List Keyword).length + (if ([]:List Keyword).isEmpty then 0 else 1) < 30))=true:=by rfl)
  (hline:(apos.endLine == cpos.line)=true:=by rfl) (hs:starEach (e :: es) X.env=(false,eval e X.env) :: starEach es X.env:=by rfl) (hplain:(backTo cpos (starEach es X.env)).any (·.1)=false:=by rfl) :
  PE X (.Call (.Attribute o name apos) (e :: es) [] cpos) (Pc X.K T r to t):=by
 intro pins s σ H Q I h
 refine wpAny_Call_method_late hbase hfew hline rfl (b9 (ho pins s σ H _ I h) λv s1 ⟨x,H1,I1,r1,ty,q1⟩=>?_)
 obtain ⟨h1,h2⟩:=F9 I1 r1 ty
 refine ⟨T,id,pa,slot,hty,h1,h2,?_⟩
 have hA:=ha cpos pins s1 σ H1 _ I1 q1
 rw [hs] at hA ⊢
 refine Calls.callWith_builtin (by show (false || (backTo cpos (starEach es X.env)).any (·.1))=false;rw [hplain] <;> rfl) (Calls.evalArgs_plain ?_)
 exact b9 hA λus s2 ⟨vs,H2,I2,r2,q2⟩=>hm pins s2 σ H2 x vs v us Q I2 r1 r2 q2
end
end L2
namespace L2
open PySem PySem.Spec PyProof.Rows
def Rm (X:Cx) (id:String) (r:V→List V→Hp→VK→Prop):Prop :=
 ∀(pins:List (Addr × Obj)) (s:Shared) (σ:St) (H:Hp) (x:V) (xs:List V) (v:Value) (us:List Value) (Q:VK),Inv X pins σ H s→RelV x v→Vals xs us→r x xs H Q →
  wpAny (model X.prog X.w) X.A (call (.builtin id) (v :: us)) (EP X pins σ Q) X.xe s
theorem Vals.one {x:V} {us:List Value} (r:Vals [x] us):∃u,us=[u]∧RelV x u:=vals1 r
theorem Vals.two {x y:V} {us:List Value} (r:Vals [x,y] us):∃u v,us=[u,v]∧RelV x u∧RelV y v:=vals2 r
theorem Vals.zero:∀{us:List Value},Vals [] us→us=[]
 | _,.nil=>rfl
theorem Vals.dropLast {xs:List V} {us:List Value} (h:Vals xs us):Vals xs.dropLast us.dropLast:=by
 induction h with
 | nil=>exact .nil
 | cons r t ih =>
  cases t with
  | nil=>exact .nil
  | cons q t'=>exact .cons r ih
theorem Vals.eraseIdx:∀{xs:List V} {us:List Value} (i:Nat),Vals xs us→Vals (xs.eraseIdx i) (us.eraseIdx i)
 | _,_,_,.nil=>.nil
 | _,_,0,.cons _ t=>t
 | _,_,i + 1,.cons r t=>.cons r (Vals.eraseIdx i t)
theorem Vals.reverse {xs:List V} {us:List Value} (h:Vals xs us):Vals xs.reverse us.reverse:=by
 induction h with
 | nil=>exact .nil
 | cons r t ih=>rw [Uu,Uu];exact Vals.append ih (.cons r .nil)
theorem Vals.rep {xs:List V} {us:List Value} (h:Vals xs us):∀k:Nat,Vals (S9 k xs).flatten (S9 k us).flatten
 | 0=>.nil
 | k + 1=>by
  rw [TX,TX,T6,T6]
  exact Vals.append h (Vals.rep h k)
theorem zg {α:Type} (l:List α):l.eraseIdx (l.length - 1)=l.dropLast:=by
 induction l with
 | nil=>rfl
 | cons a r ih =>
  cases r with
  | nil=>rfl
  | cons b r =>
   have e:(a :: b :: r).length - 1=((b :: r).length - 1) + 1:=by
    have h1:(a :: b :: r).length=r.length + 2:=rfl
    have h2:(b :: r).length=r.length + 1:=rfl
    omega
   rw [e,Uy,ih]
   all_goals rfl
section
variable {X:Cx} {pins:List (Addr × Obj)} {σ:St} {H:Hp} {s:Shared} {l b:Addr} {xs ys zs:List V}
theorem Inv.G9 {its its':List Value} {n:Nat} {f:Array Value→Array Value} {t':Nat} (I:Inv X pins σ H s) (hH:H l=some (.lst xs))
  (e:s.heap.get? l=some { cls:=.type "list",data:=.seq its.toArray n }) (hf:f its.toArray=its'.toArray) (hv:Vals ys its') (hz:ys.length≤sizeLine) :
  Inv X pins σ (upd H l (.lst ys)) { s with heap:=s.heap.update l (Obj.mapSeq f),toks:=t' }:=by
 have q:=PySem.IsL.update e f
 rw [hf] at q
 refine I.write (x:=l) (e:=l) (by rw [hH];exact trivial) (.inl rfl) (λb' u hb hu=>(Heap.get?_update_other s.heap (Obj.mapSeq f) (Ne.symm hb)).trans hu) ⟨_,q⟩ ?_
 exact ⟨hz,its',_,hv,q⟩
theorem Inv.Qd {its:List Value} {t':Nat} (I:Inv X pins σ H s) (hv:Vals ys its) (hz:ys.length≤sizeLine) :
  Inv X pins σ (upd H s.heap.objs.size (.lst ys)) { s with heap:=s.heap.push { cls:=.type "list",data:=.seq its.toArray },toks:=t' } :=
 I.laid (λ_ _ q=>Heap.get?_push_of_some _ q) (Ss _) ⟨hz,its,0,hv,Heap.get?_push_size _ rfl⟩
theorem Inv.fresh (I:Inv X pins σ H s):H s.heap.objs.size=none:=I.hok.fresh (Ss _)
theorem Inv.G_ (I:Inv X pins σ H s) (hH:H l=some (.lst xs)):xs.length≤sizeLine∧∃(its:List Value) (n:Nat),Vals xs its∧xs.length=its.length∧s.heap.get? l=some { cls:=.type "list",data:=.seq its.toArray n }:=by
 obtain ⟨z,its,n,r,e⟩:=I.hok l _ hH
 exact ⟨z,its,n,r,r.length,e⟩
end
section
variable {X:Cx}
def BA:V→List V→Hp→VK→Prop:=λx vs H Q=>∃l xs y,x=.ref l∧vs=[y]∧H l=some (.lst xs)∧xs.length < sizeLine∧Q .non (upd H l (.lst (xs ++ [y])))
theorem ip:Rm X "list.append" BA:=by
 intro pins s σ H x vs v us Q I rx rv h
 obtain ⟨l,xs,y,rfl,rfl,hH,hz,q⟩:=h
 cases rx
 obtain ⟨u,rfl,ru⟩:=rv.one
 obtain ⟨z,its,n,r,hl,e⟩:=I.G_ hH
 refine call_meets F.slot_list_append ⟨_,e,rfl⟩ F.entry_list_append (F.args_list_append_2 _ _) (PySem.list_append l its.toArray n u (by rw [Sv];omega)) ⟨e,?_⟩
 refine ⟨.non,_,I.G9 (its':=its ++ [u]) hH e (by simp) (r.append (.cons ru .nil)) ?_,rfl,q⟩
 rw [SQ,List.length_singleton]
 omega
def QD:V→List V→Hp→VK→Prop:=λx vs H Q=>∃l xs y,x=.ref l∧vs=[]∧H l=some (.lst xs)∧xs[xs.length - 1]?=some y∧Q y (upd H l (.lst xs.dropLast))
theorem K1:Rm X "list.pop" QD:=by
 intro pins s σ H x vs v us Q I rx rv h
 obtain ⟨l,xs,y,rfl,rfl,hH,hy,q⟩:=h
 cases rx
 have hus:=rv.zero
 subst hus
 obtain ⟨z,its,n,r,hl,e⟩:=I.G_ hH
 obtain ⟨u,hu,ru⟩:=r.get hy
 have hy':its.toArray[its.toArray.size - 1]?=some u:=by
  show its.toArray[its.length - 1]?=some u
  rw [← Array.getElem?_toList,← hl]
  exact hu
 refine call_meets F.slot_list_pop ⟨_,e,rfl⟩ F.entry_list_pop (F.args_list_pop_1 _) (MeetsSeq.list_pop_last l its.toArray n u hy' (by rw [Sv];omega)) ⟨e,?_⟩
 refine ⟨y,_,I.G9 (its':=its.dropLast) hH e ?_ r.dropLast ?_,ru,q⟩
 ·show its.toArray.eraseIdxIfInBounds (its.toArray.size - 1)=its.dropLast.toArray
  rw [Sv,T7,zg]
 ·rw [UP]
  omega
end
section
variable {prog:Program} {w:World} {A:Around} {E:Value→Shared→Prop} {s:Shared}
end
section
variable {X:Cx}
end
end L2
namespace Att
open PySem PySem.W PySem.Calls PyProof.Rows
theorem pf {P:Params} {h:Heap}:∀(ns:List Int) (vs:List Value),WellAll P h vs (ns.map WData.int)→IntsAre vs ns:=by
 intro ns
 induction ns with
 | nil =>
  intro vs w
  rw [Ts] at w
  cases w
  exact .nil
 | cons n ns ih =>
  intro vs w
  rw [Sx] at w
  cases w with
  | cons a b =>
   cases a
   exact .cons _ _ (ih _ b)
theorem Dd {l:OpenLaw} {n:Nat} (hn:l.most=some n) {P:Params} {h:Heap} {args:List WData} {vals:List Value}
  (hpre:l.row.toRowW.claim.pre args=true) (hwl:WellAll P h vals args) :
  ∃a vs ns,vals=[Value.ref a]∧args=[WData.list (ns.map WData.int)]∧h.get? a=some { cls:=.type "list",data:=.seq vs.toArray }∧IntsAre vs ns∧ns.length≤n:=by
 have hsh:WShape.hasAll [] args [.list .int]=true:=(pre_splitW hpre).1
 have hc:l.pre.holds [] { args:=args }=true:=(pre_splitW hpre).2
 obtain ⟨d,r,rfl,h1,h2⟩:=hasAllW_cons hsh
 obtain rfl:=hasAllW_nil h2
 obtain ⟨xs,rfl,h3⟩:=hasW_list h1
 obtain ⟨ns,rfl⟩:=items_int h3
 have hlen:ns.length≤n:=by
  unfold OpenLaw.pre at hc
  have h4:(WTm.not (.lt (.lit (.int (n:Int))) (.len (.arg 0)))).holds [] { args:=[.list (ns.map .int)] }=true:=by
   have h4:=(holds_andW hc).1
   rw [hn] at h4
   exact h4
  have h5:=condW_of h4 (w_not (w_lt w_lit (w_len_list (w_arg rfl))))
  rw [Sm] at h5
  refine Nat.le_of_not_lt λq=>?_
  have q':(n:Int) < ((ns.length:Nat):Int):=by omega
  first
   | (rw [decide_eq_true q'] at h5;exact absurd h5 (by decide))
   | (simp at h5;omega)
 cases hwl with
 | cons w1 w2 =>
  cases w2
  cases w1 with
  | list ho hall=>exact ⟨_,_,ns,rfl,rfl,ho,pf ns _ hall,hlen⟩
theorem C8 (l:OpenLaw) (args:List WData):l.row.toRowW.claim.post args (.bool true) args=true :=
 postW_of (r:=l.row.toRowW) (X:=(true == true))
  (show WShape.has [] (.bool true) .bool=true by first | rfl | decide | simp [WShape.has,WShape.arms,WShape.armsAll])
  (show (WTm.eq .res (.lit (.bool true))).value [] { args:=args,res:=some (.bool true),after:=args }=some (.bool (true == true)) from w_eq_bool (w_res rfl) w_lit) rfl
theorem w_ {l:OpenLaw} {n:Nat} {q:Program} {loose:List Str} {XP:(Str→Option Value)→Heap→Prop} {YP:World→Heap→Prop} {d:DefRec}
  (hn:l.most=some n) (hdf:d.params.defaults=[])
  (call:∀(w:World) (s₀ s₁:Shared) (mg mb:Str→Option Value) (fa:Addr) (o:Obj) (pm cd doc:Value) (a:Addr) (vs:List Value) (ns:List Int),
   Ground q loose [] XP w s₀ mg mb s₁.heap→YP w s₁.heap →
   s₁.heap.get? fa=some o→o.data=.func (docDef d.name d.params d.body d.scope pm cd doc)→s₁.heap.CodeRec cd d.name→mg d.name=some (.ref fa) →
   s₁.heap.get? a=some { cls:=.type "list",data:=.seq vs.toArray }→IntsAre vs ns→ns.length≤n→s₁.gens=#[] →
   codeAny (model l.prog w) callerA (.call (.ref fa) ⟨[.ref a],[]⟩) (λr s'=>r=.ok (.ret (.bool true))∧OldK s₁.heap s'.heap∧s'.os=s₁.os∧AllBare s'.gens) s₁) :
  WalkO q loose XP YP l.row.toRowW d [] (λf vs=>PySem.call f vs):=by
 intro w s₀ s₁ mg mb G Y fa o pm cd doc dV kV ho hd hcd hD hmg hg args vals as hpre hlay hrd hwl hlo
 obtain rfl:dV=.none:=Dflts.none hD hdf
 obtain rfl:kV=.none:=Dflts.noKw hD
 obtain ⟨a,vs,ns,rfl,rfl,hobj,hints,hlen⟩:=Dd hn hpre hwl
 refine enter_call (codeAny_mono (call w s₀ s₁ mg mb fa o pm cd doc a vs ns G Y ho (fd_plain hd) hcd hmg hobj hints hlen hg) λr s' hq=>?_)
 obtain ⟨rfl,h2,h3,h4⟩:=hq
 exact ⟨.inl ⟨.bool true,.bool true,[],rfl,λ_=>rfl,.bool true,C8 l _,λ_=>⟨List.Pairwise.nil,λ_ hm=>(nomatch hm)⟩⟩,h2,h3,h4⟩
section
variable {prog:Program} {w:World} {A:Around} {E:Value→Shared→Prop} {s:Shared} {K:Frag}
end
end Att
namespace L2
open PySem PySem.Spec PyProof.Rows
theorem uv:∀{vs:List Value} {ns:List Int},IntsAre vs ns→Vals (ns.map V.int) vs
 | _,_,.nil=>.nil
 | _,_,.cons n t h=>.cons ⟨t,rfl⟩ (uv h)
end L2
namespace L2
open PySem PySem.Spec PyProof.Rows
abbrev o9 {K:PySem.W.Frag} {h:Heap} (_:K.In h):PySem.W.Frag:=K
end L2
namespace L2
open PySem PySem.Spec PyProof.Rows
def inClass (s:Stmt) (j:Nat):Stmt:=match s with
 | .ClassDef _ _ _ body _ _ _ _ _ _ _=>body.getD j (.Pass ⟨0,0,0,0⟩)
 | _=>.Pass ⟨0,0,0,0⟩
def cU (s:Stmt):Arguments:=match s with
 | .FunctionDef _ a _ _ _ _ _ _ _ _=>a
 | _=>{ posonlyargs:=[],args:=[],vararg:=none,kwonlyargs:=[],kw_defaults:=[],kwarg:=none,defaults:=[] }
def bK (s:Stmt):List Stmt:=match s with
 | .FunctionDef _ _ b _ _ _ _ _ _ _=>b
 | _=>[]
def ai (s:Stmt):Scope:=match s with
 | .FunctionDef _ _ _ _ _ _ sc _ _ _=>sc
 | _=>{ kind:=.function,names:=[],isGenerator:=false,isCoroutine:=false }
abbrev pZ:rT:=λ_ _ _ _ _ _=>False
abbrev E0:XK:=λ_ _ _=>False
theorem NW {X:Cx}:Passes pZ X E0:=λ_ _ _ _ _ _ _ h=>h.elim
structure b7 (K:PySem.W.Frag) (x qual:Str) (st:Stmt) (f:Addr) (fd:FuncData):Prop where
 ex:∃(oc:Value) (od:Option Addr) (kV doc pm:Value) (an:Option Addr) (cdv ct:Value) (osl:Array (Option Value)),
  fd=PySem.W.fnOf x qual (cU st) (bK st) (ai st) .none kV doc pm an cdv ct∧K.lookup f=some ⟨oc,od,.func fd,osl⟩∧PySem.W.codeIn K cdv qual=true
 kp:PySem.W.keepIn K (.ref f)=true
section
variable {P:Program} {w:World} {K:PySem.W.Frag} {mg:Str→Option Value} {base:Heap}
theorem b7.ok {x qual:Str} {st:Stmt} {f:Addr} {fd:FuncData} {N ps:List Str} {k:Nat} {sp:Sp} (F:b7 K x qual st f fd) (S:av N ps (ai st)) (len:∀vs H Q E,sp vs H Q E→vs.length=ps.length)
  (hbody:∀(cdv:Value) (A:Around) (outer:List Env) (s:Shared) (H:Hp) (vs:List V) (Q:VK) (E:XK),bI k (A.deeper (envOfC qual (ai st) s.heap.objs.size f cdv))→sp vs H Q E →
   ∃t,tN (uM pZ P w K mg base N qual (ai st) f cdv A outer s H E).K2 (bK st) t∧t { nx:=λ_ H'=>Q .non H',rt:=Q } (start N vs) H):aH P w K mg base pZ (k + 1) f fd ps sp:=by
 obtain ⟨oc,od,kV,doc,pm,an,cdv,ct,osl,rfl,lk,hcd⟩:=F.ex
 refine D8 lk hcd S len λA outer s H vs Q E hr hsp=>?_
 obtain ⟨t,h,q⟩:=hbody cdv A outer s H vs Q E hr hsp
 exact ⟨t,h.K2,q⟩
theorem b7.binds {x qual:Str} {st:Stmt} {f:Addr} {fd:FuncData} {ps:List Str} (F:b7 K x qual st f fd)
  (h:∀(kV doc pm:Value) (an:Option Addr) (cdv ct:Value) (us:List Value),us.length=ps.length→bindArgs (PySem.W.fnOf x qual (cU st) (bK st) (ai st) .none kV doc pm an cdv ct) ⟨us,[]⟩=pure (ps.zip us)):Binds K fd ps []:=by
 obtain ⟨oc,od,kV,doc,pm,an,cdv,ct,osl,rfl,lk,hcd⟩:=F.ex
 exact .all (h kV doc pm an cdv ct)
theorem zh {x qual:Str} {st:Stmt} {f:Addr} {oc:Value} {od an:Option Addr} {osl:Array (Option Value)} {kV doc pm cdv ct:Value} (l:K.lookup f=some ⟨oc,od,.func (PySem.W.fnOf x qual (cU st) (bK st) (ai st) .none kV doc pm an cdv ct),osl⟩)
  (c:PySem.W.codeIn K cdv qual=true) (k:PySem.W.keepIn K (.ref f)=true):b7 K x qual st f (PySem.W.fnOf x qual (cU st) (bK st) (ai st) .none kV doc pm an cdv ct):=⟨⟨oc,od,kV,doc,pm,an,cdv,ct,osl,rfl,l,c⟩,k⟩
end
theorem ba {n:Nat} (h:n≤1000):n < sizeLine:=Th h (by decide)
section
variable {X:Cx}
theorem pv (i:Nat) {x:Str} {pos:Pos} (hN:X.N[i]?=some x:=by rfl) (hv:wN X.env.scope x:=by first | exact Or.inl rfl | exact Or.inr (Or.inl rfl) | exact Or.inr (Or.inr rfl)) (hd:(x == ("__debug__":Str))=false:=by decide)
  (hcd:(x == ("__classdict__":Str))=false:=by decide):PE X (.Name x pos) (Df i):=zN hN hv hd hcd
end
theorem Ep {c A B:Prop} [Decidable c] (h1:c→A) (h2:¬ c→B):if c then A else B:=by
 by_cases h:c
 ·rw [if_pos h]
  exact h1 h
 ·rw [if_neg h]
  exact h2 h
def bA (H H':Hp):Prop:=∀b o,H b=some o→H' b=some o
theorem bA.trans {H H1 H2:Hp} (a:bA H H1) (b:bA H1 H2):bA H H2:=λc o h=>b c o (a c o h)
theorem bA.free {H H':Hp} (e:bA H H') {l:Addr} (h:H' l=Option.none):H l=Option.none:=by
 cases q:H l with
 | none=>rfl
 | some o =>
  rw [e l o q] at h
  cases h
theorem bA.seq {K:PySem.W.Frag} {H H':Hp} {a:Addr} {xs:List V} (e:bA H H') (h:cF K H a xs):cF K H' a xs:=by
 rcases h with (h | ⟨o,h⟩) | h
 ·exact .inl (.inl (e _ _ h))
 ·exact .inl (.inr ⟨o,e _ _ h⟩)
 ·exact .inr h
end L2
namespace Ov
theorem xp {a b:Int} (h:b≠0):Int.gcd b (a % b)=Int.gcd a b:=by
 have e:a=b * (a / b) + a % b:=(Int.mul_ediv_add_emod a b).symm
 have d1:((Int.gcd b (a % b):Nat):Int) ∣ a:=by
  rw [e]
  exact Int.dvd_add (Int.dvd_trans (Int.gcd_dvd_left ..) (Int.dvd_mul_right ..)) (by rw [← e];exact Int.gcd_dvd_right ..)
 have d2:((Int.gcd a b:Nat):Int) ∣ a % b:=by
  have e2:a % b=a - b * (a / b):=by omega
  rw [e2]
  exact Int.dvd_sub (Int.gcd_dvd_left ..) (Int.dvd_trans (Int.gcd_dvd_right ..) (Int.dvd_mul_right ..))
 exact Nat.dvd_antisymm (Int.dvd_gcd d1 (Int.gcd_dvd_left ..)) (Int.dvd_gcd (Int.gcd_dvd_right ..) d2)
theorem A2 {a:Int} (h:0≤a):((Int.gcd a 0:Nat):Int)=a:=by
 rw [Int.gcd_zero_right];omega
theorem GV (a b:Int):Int.gcd (if a < 0 then -a else a) (if b < 0 then -b else b)=Int.gcd a b:=by
 split <;> split <;> simp [Int.gcd_neg,Int.neg_gcd]
theorem Ea (a b:Int):Int.gcd (if a < 0 then -a else a) b=Int.gcd a b:=by
 split <;> simp [Int.gcd_neg,Int.neg_gcd]
theorem A3 {t b:Int} (h:b≠0):0 < ((Int.gcd t b:Nat):Int):=by
 have:0 < Int.gcd t b:=Int.gcd_pos_of_ne_zero_right t h
 omega
theorem KA {t b:Int} (h:b≠0):Int.gcd t b≤b.natAbs:=Nat.le_of_dvd (by omega) (Int.ofNat_dvd.mp (by rw [Int.dvd_natAbs];exact Int.gcd_dvd_right ..))
theorem u_ {t b:Int} (h:0 < b):t.fdiv ((Int.gcd t b:Nat):Int)=(Rat.divInt t b).num:=by
 rw [Rat.num_divInt,Int.sign_eq_one_of_pos h,Int.one_mul,Int.gcd_comm b t,Int.fdiv_eq_ediv_of_nonneg _ (Int.natCast_nonneg _)]
theorem den_pos {t b:Int} (h:0 < b):b.fdiv ((Int.gcd t b:Nat):Int)=((Rat.divInt t b).den:Int):=by
 rw [Rat.den_divInt,if_neg (by omega),Int.gcd_comm b t,Int.fdiv_eq_ediv_of_nonneg _ (Int.natCast_nonneg _)]
 rw [Int.natCast_ediv]
 congr 1
 omega
theorem Bg {t b:Int} (h:b < 0):t.fdiv (-((Int.gcd t b:Nat):Int))=(Rat.divInt t b).num:=by
 have e:t.fdiv (-((Int.gcd t b:Nat):Int))=(-t).fdiv ((Int.gcd t b:Nat):Int):=by
  have:=Int.neg_fdiv_neg (a:=-t) (b:=((Int.gcd t b:Nat):Int))
  rw [← this];simp
 rw [e,Rat.num_divInt,Int.sign_eq_neg_one_of_neg h,Int.gcd_comm b t,Int.fdiv_eq_ediv_of_nonneg _ (Int.natCast_nonneg _)]
 congr 1
 omega
theorem GN {t b:Int} (h:b < 0):b.fdiv (-((Int.gcd t b:Nat):Int))=((Rat.divInt t b).den:Int):=by
 have e:b.fdiv (-((Int.gcd t b:Nat):Int))=(-b).fdiv ((Int.gcd t b:Nat):Int):=by
  have:=Int.neg_fdiv_neg (a:=-b) (b:=((Int.gcd t b:Nat):Int))
  rw [← this];simp
 rw [e,Rat.den_divInt,if_neg (by omega),Int.gcd_comm b t,Int.fdiv_eq_ediv_of_nonneg _ (Int.natCast_nonneg _)]
 rw [Int.natCast_ediv]
 congr 1
 omega
theorem Bf (t b:Int):(Rat.divInt t b).num.natAbs≤t.natAbs:=by
 rcases Int.lt_trichotomy b 0 with h | h | h
 ·rw [← Bg h]
  exact Int.natAbs_fdiv_le_natAbs ..
 ·subst h;simp
 ·rw [← u_ h,Int.fdiv_eq_ediv_of_nonneg _ (Int.natCast_nonneg _)]
  exact Int.natAbs_ediv_le_natAbs ..
theorem uN {t b:Int} (h:b≠0):(((Rat.divInt t b).den:Int)).natAbs≤b.natAbs:=by
 rw [Rat.den_divInt,if_neg h]
 exact Nat.div_le_self ..
theorem kM (p:Rat):Rat.divInt p.num p.den=p:=Rat.num_divInt_den p
theorem er (p:Rat):(p.den:Int)≠0:=by have:=p.den_pos;omega
theorem lH (p:Rat):(0:Int) < p.den:=by have:=p.den_pos;omega
theorem add_eq (p q:Rat):Rat.divInt (p.num * q.den + q.num * p.den) (p.den * q.den)=p + q:=by
 rw [← Rat.divInt_add_divInt _ _ (er p) (er q),kM,kM]
theorem sub_eq (p q:Rat):Rat.divInt (p.num * q.den - q.num * p.den) (p.den * q.den)=p - q:=by
 rw [← Rat.divInt_sub_divInt _ _ (er p) (er q),kM,kM]
theorem mul_eq (p:Rat) (m:Int):Rat.divInt (p.num * m) p.den=p * m:=by
 have:=Rat.divInt_mul_divInt p.num m (d₁:=p.den) (d₂:=1)
 rw [kM,Int.mul_one] at this
 rw [← this,Rat.divInt_eq_div]
 congr 1
 grind
theorem cast_eq (p:Rat):(p.num:Rat)=p * (p.den:Int):=by
 have h:((p.den:Int):Rat)≠0:=by
  intro e
  exact er p (by exact_mod_cast e)
 have e:=kM p
 rw [Rat.divInt_eq_div] at e
 grind
theorem jw (p:Rat):((p.den:Int):Rat)≠0:=λe=>er p (by exact_mod_cast e)
theorem M0 (b p m:Rat) (v:Int):Rat.divInt (p.num * (m.den * b.den) + v * (m.num * b.den - b.num * m.den) * p.den) (p.den * (m.den * b.den))=p + (m - b) * v:=by
 have h:=jw p
 have g:=jw b
 have k:=jw m
 simp only [Rat.divInt_eq_div,Rat.intCast_add,Rat.intCast_sub,Rat.intCast_mul,cast_eq p,cast_eq b,cast_eq m]
 generalize ((p.den:Int):Rat)=d at h ⊢
 generalize ((b.den:Int):Rat)=e at g ⊢
 generalize ((m.den:Int):Rat)=f at k ⊢
 generalize (v:Rat)=v
 grind
theorem xw {n:Int} (h:n≠0):(n:Rat)≠0:=λe=>h (by exact_mod_cast e)
theorem LD (g:Rat) (n:Int) (h:n≠0):Rat.divInt g.num (g.den * n)=g / n:=by
 have k:=jw g
 have l:=xw h
 simp only [Rat.divInt_eq_div,Rat.intCast_mul,cast_eq g]
 generalize ((g.den:Int):Rat)=d at k ⊢
 generalize (n:Rat)=n at l ⊢
 grind
end Ov
namespace Ov
open PySem PySem.Spec PyProof.Rows L2
structure Bd (n:Nat) (x:Int):Prop where
 lt:x.natAbs < 2 ^ n
theorem Bd.bits {n:Nat} {x:Int} (h:Bd n x):Builtin.Int.intBits x≤n:=intBits_le_iff.mpr h.lt
theorem Bd.of {n:Nat} {x:Int} (h:Builtin.Int.intBits x≤n):Bd n x:=⟨intBits_le_iff.mp h⟩
theorem Bd.mono {m n:Nat} {x:Int} (h:Bd m x) (hmn:m≤n):Bd n x:=.of (SM h.bits hmn)
theorem Bd.neg {n:Nat} {x:Int} (h:Bd n x):Bd n (-x):=.of (intBits_neg_le h.bits)
theorem Bd.add {m n k:Nat} {x y:Int} (h:Bd m x) (g:Bd n y) (hk:max m n + 1≤k:=by decide):Bd k (x + y):=(Bd.of (intBits_add_le h.bits g.bits)).mono hk
theorem Bd.sub {m n k:Nat} {x y:Int} (h:Bd m x) (g:Bd n y) (hk:max m n + 1≤k:=by decide):Bd k (x - y):=(Bd.of (intBits_sub_le h.bits g.bits)).mono hk
theorem Bd.mul {m n k:Nat} {x y:Int} (h:Bd m x) (g:Bd n y) (hk:m + n≤k:=by decide):Bd k (x * y):=(Bd.of (intBits_mul_le h.bits g.bits)).mono hk
theorem Bd.le {n:Nat} {x y:Int} (g:Bd n y) (h:x.natAbs≤y.natAbs):Bd n x:=⟨Th h g.lt⟩
theorem Bd.small {x:Int} (h1:-(2 ^ 64) < x) (h2:x < 2 ^ 64):Bd 64 x:=.of (intBits_le_64 h1 h2)
theorem Bd.log {n:Nat} {x:Int} (h:Bd n x) (hn:n≤9000) (h0:x≠0):x.natAbs.log2 < 9000 :=
 SK ((Nat.log2_lt (by omega)).mpr h.lt) hn
section
variable {X:Cx}
def CM (i j:Int):Prop:=∃m n,Bd m i∧Bd n j∧m + n≤134217728
theorem CM.of {m n:Nat} {i j:Int} (h:Bd m i) (g:Bd n j) (hk:m + n≤134217728:=by decide):CM i j:=⟨m,n,h,g,hk⟩
theorem cy:eO X (binaryOp .Mult) (rI CM λi j=>.int (i * j)):=O9 λ_ _ _ _ _ _ _ hc q=>by
 obtain ⟨m,n,h,g,hk⟩:=hc
 exact mul_int q (IntMulOk.of_le h.bits g.bits hk)
def CQ (_ j:Int):Prop:=j≠0∧Bd 9000 j
theorem fZ:eO X (binaryOp .FloorDiv) (rI CQ λi j=>.int (i.fdiv j)):=O9 λ_ _ _ _ _ _ _ hc q =>
 floordiv_int hc.1 q (.inl (PyProof.noPylong_of_log2 (hc.2.log (Ss _) hc.1)))
def Si (f:Bool→Bool):R2:=λx y H Q=>∃(p q:Addr) (a b c d:Int),x=.ref p∧y=.ref q∧H p=some (.tup [.int a,.int b])∧H q=some (.tup [.int c,.int d])∧Q (.bl (f (decide (a=c∧b=d)))) H
def OH (t u:TS):TS:=λD σ H=>∃M:L2.St→Hp→Prop,t { D with nx:=M } σ H∧∀σ' H',M σ' H'→u D σ' H'
theorem HN {st:Stmt} {rest:List Stmt} {t u:TS} (h1:PS X st t) (h2:tN X rest u):tN X (st :: rest) (OH t u):=by
 intro pins s σ H D I h
 obtain ⟨M,h,k⟩:=h
 refine wpAny_execs_cons (b9 (h1 pins s σ H { D with nx:=M } I h) λf s1 q=>?_)
 cases f with
 | next =>
  obtain ⟨σ',H',I',q⟩:=q
  exact h2 pins s1 σ' H' D I' (k _ _ q)
 | ret v=>exact q
 | brk=>exact q
 | cont=>exact q
end
section
variable {X:Cx}
def Jy:R2:=λx y H Q=>∃p xs i v,x=.ref p∧y=.int i∧H p=some (.lst xs)∧c7 xs i=some v∧Q v H
def Oi:R2:=λx y H Q=>∃p xs i v,x=.ref p∧y=.int i∧H p=some (.tup xs)∧c7 xs i=some v∧Q v H
theorem fU:pE X Jy:=λvalue slice pins s σ H x y v u Q I rx ry ⟨p,xs,i,z,e1,e2,h,e3,q⟩ hs =>
 uR value slice pins s σ H x y v u Q I rx ry ⟨p,xs,i,z,e1,e2,cF.of h,e3,q⟩ hs
end
theorem dq {α:Type} (x:α) (xs:List α):c7 (x :: xs) 0=some x:=bx (j:=0) rfl
theorem fQ {α:Type} (x y:α) (xs:List α):c7 (x :: y :: xs) 1=some y:=bx (j:=1) rfl
theorem kT {α:Type} (x y z:α) (xs:List α):c7 (x :: y :: z :: xs) 2=some z:=bx (j:=2) rfl
theorem DP {α:Type} (x y z u:α) (xs:List α):c7 (x :: y :: z :: u :: xs) 3=some u:=bx (j:=3) rfl
theorem Il (i j:Int):FH (.int i) (.int j)=true:=rfl
theorem Ik (i j:Bool):FH (.bl i) (.bl j)=true:=rfl
theorem Im (i j:Str):FH (.str i) (.str j)=true:=rfl
def rV (P:Program) (w:World) (K:PySem.W.Frag) (mg:Str→Option Value) (base:Heap) (k:Nat) (x:Str) (ps:List Str) (sp:Sp):Prop :=
 ∃f fd,aH P w K mg base pZ k f fd ps sp∧Binds K fd ps []∧PySem.W.keepIn K (.ref f)=true∧mg x=some (.ref f)
theorem Lm {X:Cx} {k k':Nat} {x:Str} {ps:List Str} {sp:Sp} {p pos:Pos} {e:Expr} {es:List Expr} {t:TA} (C:rV X.prog X.w X.K X.mg X.base k x ps sp) (hr:bI k' X.A) (hk:k≤k') (hg:Gl X x) (ha:PA X (e :: es) t)
  (hdb:(x == ("__debug__":Str))=false:=by decide) (he:starEach (e :: es) X.env=(false,eval e X.env) :: starEach es X.env:=by rfl) (hpl:(backTo pos (starEach es X.env)).any (·.1)=false:=by rfl) :
  PE X (.Call (.Name x p) (e :: es) [] pos) (rQ sp [] E0 t):=by
 obtain ⟨f,fd,F,b,kp,m⟩:=C
 exact Bl F (hr.mono hk) hg m kp b .nil NW ha hdb he hpl
theorem dI {N P:List Str} {sc:Scope} (a:sc.kind=.function:=by rfl) (b:sc.isCoroutine=false:=by rfl) (c:sc.isGenerator=false:=by rfl) (d:N.Nodup:=by decide +kernel) (e:N.take P.length=P:=by rfl) (f:∀x∈P,sc.names.lookup x=some .local∨sc.names.lookup x=some .cell:=by decide +kernel) (g:∀y∈sc.names,y.2≠.free:=by decide +kernel):av N P sc:=⟨a,b,c,d,e,f,g⟩
def Def (K:PySem.W.Frag) (mg:Str→Option Value) (x:Str) (st:Stmt):Prop:=∃f fd,b7 K x x st f fd∧mg x=some (.ref f)
theorem Kr {K:PySem.W.Frag} {h:Heap} {mg:Str→Option Value} {x:Str} {st:Stmt} (X:K.In h) (G:h.Ns mainGlobals mg) {f:Addr} {od an:Option Addr} {sl:Array (Option Value)} {oc kV dc pm cd ct:Value}
  (a:PySem.W.nsIn K mainGlobals x=some (some (.ref f))) (l:K.lookup f=some ⟨oc,od,.func (PySem.W.fnOf x x (cU st) (bK st) (ai st) .none kV dc pm an cd ct),sl⟩) (c:PySem.W.codeIn K cd x=true) (k:PySem.W.keepIn K (.ref f)=true) :
  Def K mg x st:=⟨f,_,zh l c k,PySem.W.mg_of X G a⟩
theorem Def.DR {P:Program} {w:World} {K:PySem.W.Frag} {mg:Str→Option Value} {base:Heap} {x:Str} {st:Stmt} {k:Nat} {ps:List Str} {sp:Sp} (D:Def K mg x st)
  (h:∀f fd,b7 K x x st f fd→aH P w K mg base pZ k f fd ps sp)
  (hb:∀(kV doc pm:Value) (an:Option Addr) (cdv ct:Value) (us:List Value),us.length=ps.length→bindArgs (PySem.W.fnOf x x (cU st) (bK st) (ai st) .none kV doc pm an cdv ct) ⟨us,[]⟩=pure (ps.zip us)) :
  rV P w K mg base k x ps sp:=by
 obtain ⟨f,fd,F,m⟩:=D
 exact ⟨f,fd,h f fd F,F.binds hb,F.kp,m⟩
theorem KO {K:PySem.W.Frag} {mg:Str→Option Value} {st:Stmt} {fa:Addr} {p:Str} (D:Def K mg "law" st) (hfa:mg "law"=some (.ref fa))
  (hb:∀(kV doc pm:Value) (an:Option Addr) (cdv ct:Value) (u:Value),bindArgs (PySem.W.fnOf "law" "law" (cU st) (bK st) (ai st) .none kV doc pm an cdv ct) ⟨[u],[]⟩=pure [(p,u)]) :
  ∃fd,b7 K "law" "law" st fa fd∧∀(s:Shared) (u:Value),BindsTo s fd ⟨[u],[]⟩ [(p,u)]:=by
 obtain ⟨f,fd,F,m⟩:=D
 have e:=m.symm.trans hfa
 cases e
 obtain ⟨oc,od,kV,doc,pm,an,cdv,ct,osl,rfl,lk,hcd⟩:=F.ex
 exact ⟨_,F,λs u=>.of_eq (hb kV doc pm an cdv ct u)⟩
structure Dm (mg:Str→Option Value):Prop where
 abs:mg "abs"=none
 len:mg "len"=none
 isinstance:mg "isinstance"=none
 range:mg "range"=none
 int:mg "int"=none
 bool:mg "bool"=none
 tuple:mg "tuple"=none
 list:mg "list"=none
 sorted:mg "sorted"=none
 all:mg "all"=none
theorem _root_.L2.bA.tup {K:PySem.W.Frag} {H H':Hp} {a:Addr} {xs:List V} (e:bA H H') (h:gr K H a xs):gr K H' a xs:=by
 rcases h with (h | ⟨o,h⟩) | h
 ·exact .inl (.inl (e _ _ h))
 ·exact .inl (.inr ⟨o,e _ _ h⟩)
 ·exact .inr h
theorem _root_.L2.bA.new {H:Hp} {p:Addr} (h:H p=none) (o:HO):bA H (upd H p o):=λb u q=>by rw [aL (bV q h)];exact q
theorem _root_.L2.bA.MG {H H':Hp} {p:Addr} (h:H p=none) (e:bA H H') (o:HO):bA H (upd H' p o):=λb u q=>by rw [aL (bV q h)];exact e b u q
def Mt (K:PySem.W.Frag) (H:Hp) (a:Addr) (q:Rat):Prop:=gr K H a [.int q.num,.int q.den]
structure Sz (n:Nat) (q:Rat):Prop where
 num:Bd n q.num
 den:Bd n q.den
theorem Sz.mono {m n:Nat} {q:Rat} (h:Sz m q) (k:m≤n):Sz n q:=⟨h.num.mono k,h.den.mono k⟩
theorem H0 (x y:Rat):(x.num=y.num∧(x.den:Int)=(y.den:Int))=(x=y):=propext
 ⟨λh=>Rat.ext h.1 (by have:=h.2;omega),λh=>by subst h;exact ⟨rfl,rfl⟩⟩
theorem jF (c:Str→NameKind→Bool):∀(names:List (Str × NameKind)) (y:Str),
  (names.map λ(x:Str × NameKind)=>if c x.1 x.2 then (x.1,NameKind.cell) else (x.1,x.2)).lookup y=(names.lookup y).map λk=>if c y k then NameKind.cell else k
 | [],_=>rfl
 | (n,k) :: r,y=>by
  have ih:=jF c r y
  cases hy:y == n with
  | true =>
   have e:y=n:=by simpa using hy
   subst e
   by_cases h:c y k=true <;> simp [S1,h]
  | false =>
   by_cases h:c n k=true <;> simp [S1,h,hy,ih]
theorem j3 (sc:Scope) (env:Env) (y:Str):(relabel sc env).names.lookup y=(sc.names.lookup y).map λk=>if (k == .free && env.scope.kind == .function && env.kindOf y == some .cell) then NameKind.cell else k:=by
 have h:=jF (λn k=>k == .free && env.scope.kind == .function && env.kindOf n == some .cell) sc.names y
 exact h
theorem lF {env:Env}:∀(names:List (Str × NameKind)) (acc:List (Str × Addr)),(∀y∈names,y.2=.free→∃c,env.cells.lookup y.1=some c)→(∀y c,acc.lookup y=some c→env.cells.lookup y=some c) →
  ∃cl,(forIn names acc λ(x:Str × NameKind) (r:List (Str × Addr))=>match x with
   | (name,kind)=>if (kind == NameKind.free)=true then (do let c ← cellOf env name;pure (ForInStep.yield ((name,c) :: r))) else (pure (ForInStep.yield r):Sem (ForInStep (List (Str × Addr)))))=(pure cl:Sem (List (Str × Addr))) ∧
   (∀y c,cl.lookup y=some c→env.cells.lookup y=some c)∧(∀y c,acc.lookup y=some c→∃c,cl.lookup y=some c)∧∀y∈names,y.2=.free→∃c,cl.lookup y.1=some c
 | [],acc,_,ha=>⟨acc,rfl,ha,λy c e=>⟨c,e⟩,λy hy=>by cases hy⟩
 | (n,k) :: r,acc,hn,ha=>by
  by_cases hk:k=.free
  ·subst hk
   obtain ⟨c,hc⟩:=hn (n,.free) S8 rfl
   obtain ⟨cl,e,h1,h2,h3⟩:=lF r ((n,c) :: acc) (λy hy=>hn y (SU _ hy)) (λy d e=>by
    rw [S1] at e
    cases hy:y == n with
    | true =>
     rw [hy] at e
     have e1:y=n:=by simpa using hy
     subst e1
     rw [hc]
     exact e
    | false=>rw [hy] at e;exact ha y d e)
   have self:∃d,cl.lookup n=some d:=h2 n c (by simp [S1])
   refine ⟨cl,?_,h1,λy d q=>?_,λy hy hf=>?_⟩
   ·rw [U9]
    have ec:cellOf env n=pure c:=by unfold cellOf;rw [hc]
    simp only [beq_self_eq_true,if_true,ec,pure_bind]
    exact e
   ·by_cases hy:y=n
    ·subst hy;exact self
    ·exact h2 y d (by rw [List.lookup_cons];have:(y == n)=false:=by simpa using hy
                      rw [this];exact q)
   ·rcases SH.mp hy with rfl | hy
    ·exact self
    ·exact h3 y hy hf
  ·obtain ⟨cl,e,h1,h2,h3⟩:=lF r acc (λy hy=>hn y (SU _ hy)) ha
   refine ⟨cl,?_,h1,h2,λy hy hf=>?_⟩
   ·rw [U9]
    have hb:(k == NameKind.free)=false:=by simpa using hk
    simp only [hb,SJ,if_false,pure_bind]
    exact e
   ·rcases SH.mp hy with rfl | hy
    ·exact absurd hf hk
    ·exact h3 y hy hf
theorem lE {sc:Scope} {env:Env} (h:∀y∈sc.names,y.2=.free→∃c,env.cells.lookup y.1=some c) :
  ∃cl,closureFor sc env=pure cl∧(∀y c,cl.lookup y=some c→env.cells.lookup y=some c)∧∀y∈sc.names,y.2=.free→∃c,cl.lookup y.1=some c:=by
 obtain ⟨cl,e,h1,_,h3⟩:=lF sc.names [] h (λy c z=>by cases z)
 refine ⟨cl,?_,h1,h3⟩
 unfold closureFor
 have e':=congrArg (λm=>m >>= λr=>(pure r:Sem (List (Str × Addr)))) e
 simp only [pure_bind] at e'
 exact e'
abbrev cR (sc osc:Scope) (N:List Str) (x:Str) (ks:List (Str × Nat)):Prop :=
 sc.kind=.function∧(∀y∈sc.names,y.2≠.cell)∧sc.names.lookup x=some .local∧(∀y∈sc.names,y.2=.local→sc.names.lookup y.1=some .local) ∧
 (∀y∈sc.names,y.2=.free→osc.names.lookup y.1=some .cell)∧(∀p∈ks,N[p.2]?=some p.1∧sc.names.lookup p.1=some .free)∧(x :: ks.map (·.1)).Nodup
def gq (X:Cx) (sc:Scope) (cl:List (Str × Addr)) (C:Addr) (x:Str) (ks:List (Str × Nat)) (s₀:Shared) (H₀:Hp) (fp:List Addr) (pins:List (Addr × Obj)):Cx :=
 { X with N:=x :: ks.map (·.1),s₀:=s₀,H₀:=H₀,env:=compEnvC sc cl C X.env,outer:=X.stack,ex:=fp,fn:=λ_=>false,pn:=X.pn ++ pins,xe:=λ_ _=>False }
def dB (ks:List (Str × Nat)) (σ:L2.St):L2.St:=ks.map λp=>(σ[p.2]?).getD none
section
variable {X:Cx} {pins:List (Addr × Obj)} {σ:L2.St} {H:Hp} {s:Shared} {sc:Scope} {cl:List (Str × Addr)} {x:Str} {ks:List (Str × Nat)} {fp:List Addr}
theorem get_map {α β:Type} (f:α→β) (l:List α) (i:Nat):(l.map f)[i]?=(l[i]?).map f:=SA
theorem xx (I:Inv X pins σ H s) (ok:cR sc X.env.scope X.N x ks) (h1:∀y c,cl.lookup y=some c→X.env.cells.lookup y=some c) (h2:∀y∈sc.names,y.2=.free→∃c,cl.lookup y.1=some c)
  (hfp:∀b∈fp,kP X pins H b∧∃o,s.heap.get? b=some o) {h4:Heap} {m:Str→Option Value} {t':Nat} (hn:h4.Ns s.heap.objs.size m) (kp:∀b o,s.heap.get? b=some o→h4.get? b=some o) :
  Inv (gq X sc cl s.heap.objs.size x ks s H fp pins) [] (none :: dB ks σ) H { s with heap:=h4,toks:=t' }:=by
 obtain ⟨kd,nc,lx,ll,fr,kk,nd⟩:=ok
 have fresh:H s.heap.objs.size=none:=I.hok.fresh (Ss _)
 have lt:∀b o,s.heap.get? b=some o→b≠s.heap.objs.size:=λb o e=>SO (Heap.lt_size e)
 have cellLt:∀y c,X.env.cells.lookup y=some c→c≠s.heap.objs.size:=λy c e=>by
  obtain ⟨v,o,ho,_⟩:=I.cell y c e
  exact lt c o ho
 have sub:∀b∈jk X.stack,b=X.env.locals∨b∈X.fs:=λb hb=>SH.mp (I.oG b hb)
 have kof:∀y,(compEnvC sc cl s.heap.objs.size X.env).kindOf y=(relabel sc X.env).names.lookup y:=λy=>rfl
 have ok':(gq X sc cl s.heap.objs.size x ks s H fp pins).Ok:={
  mod:=I.ok.mod
  kind:=kd
  glob:=I.ok.glob
  blt:=I.ok.blt
  above:=Ss _
  inj:=λy z c e1 e2=>I.ok.inj y z c (h1 y c e1) (h1 z c e2)
  has:=λy hy=>by
   rw [show (gq X sc cl s.heap.objs.size x ks s H fp pins).env.kindOf y=_ from kof y,j3] at hy
   cases e:sc.names.lookup y with
   | none=>rw [e] at hy;rcases hy with z | z <;> cases z
   | some k =>
    have hm:(y,k)∈sc.names:=by
     have:=Uz.mp e
     obtain ⟨l1,l2,q,_⟩:=this
     rw [q]
     simp
    by_cases hk:k=.free
    ·subst hk;exact h2 _ hm rfl
    ·have hb:(k == NameKind.free)=false:=by simpa using hk
     rw [e] at hy
     simp only [UI,hb,Bool.false_and,SJ,if_false] at hy
     rcases hy with z | z
     ·exact absurd (Option.some.inj z) (nc _ hm)
     ·exact absurd (Option.some.inj z) hk
  cab:=λ_ _ z=>by cases z
  hd:=λz=>I.ok.hd z
  frames:=I.ok.frames
  stk:=.inl rfl
  exf:=λb hb=>⟨lt b _ (hfp b hb).2.choose_spec,λy c e=>(hfp b hb).1.2.2.2.2.1 y c (h1 y c e)⟩
  bs:=λb o e=>I.bs b o e
  bsz:=SM I.ok.bsz I.sz
  noex:=λb o e hb=>by
   rcases (hfp b hb).1.2.2.2.1 with z | z
   ·exact I.ok.noex b o e z
   ·exact absurd (SK (Heap.lt_size e) (SM I.ok.bsz z)) (Tr _)
  exfs:=λb hb z=>by
   rcases sub b z with e | e
   ·exact (hfp b hb).1.2.1 e
   ·exact (hfp b hb).1.2.2.1 e
  nQ:=I.stack
  frf:=I.wG }
 obtain ⟨mX,hnX,hlX⟩:=I.loc
 refine ⟨ok',rfl,I.bare,Un.kept kp,⟨m,hn,λi y v e1 e2 e3=>?_⟩,λy c e=>?_,fresh,λy c e=>I.freeC y c (h1 y c e),λp hp=>?_,I.hok.kept kp,by simp [gq,dB]⟩
 ·cases i with
  | zero =>
   rw [T1] at e2
   cases e2
  | succ i =>
   have e1':(ks.map (·.1))[i]?=some y:=by simpa [gq] using e1
   rw [S7] at e2
   unfold dB at e2
   rw [SA] at e1' e2
   cases ep:ks[i]? with
   | none=>rw [ep] at e1';cases e1'
   | some p =>
    rw [ep] at e1' e2
    have ey:p.1=y:=Option.some.inj e1'
    have ev:(σ[p.2]?).getD none=some v:=Option.some.inj e2
    obtain ⟨kN,kf⟩:=kk p (Su ep)
    have es:σ[p.2]?=some (some v):=by
     cases q:σ[p.2]? with
     | none=>rw [q] at ev;cases ev
     | some w=>rw [q] at ev;exact congrArg some ev
    have hm:(p.1,NameKind.free)∈sc.names:=by
     obtain ⟨l1,l2,q,_⟩:=Uz.mp kf
     rw [q]
     simp
    have oc:X.env.scope.names.lookup p.1=some .cell:=fr _ hm rfl
    obtain ⟨u,ru,lu⟩:=hlX p.2 p.1 v kN es (.inr (.inl oc))
    refine ⟨u,ru,.inr ⟨.inl ?_,?_⟩⟩
    ·rw [show (gq X sc cl s.heap.objs.size x ks s H fp pins).env.kindOf y=_ from kof y,j3,← ey,kf]
     have k1:X.env.kindOf p.1=some .cell:=oc
     simp [I.ok.kind,k1]
    ·obtain ⟨c,hc⟩:=h2 _ hm rfl
     have hc:cl.lookup p.1=some c:=hc
     rcases lu with ⟨z,_⟩ | ⟨_,c',hc',z⟩
     ·have z':X.env.scope.names.lookup p.1=some .local:=z
      rw [oc] at z';cases z'
     ·have:=h1 _ _ hc
      rw [hc'] at this
      cases this
      obtain ⟨o,ho,hd⟩:=z
      exact ⟨_,by rw [← ey];exact hc,o,kp _ _ ho,hd⟩
 ·obtain ⟨v,o,ho,hd⟩:=I.cell y c (h1 y c e)
  exact ⟨v,o,kp _ _ ho,hd⟩
 ·rw [Tb] at hp
  obtain ⟨a1,a2,a3,a4,a5⟩:=I.pin p hp
  refine ⟨kp _ _ a1,a2,lt _ _ a1,λz=>?_,a5⟩
  rcases sub p.1 z with e | e
  ·exact a3 e
  ·exact a4 e
end
def GD (X:Cx) (ifs:List Expr) (t:TT):Prop :=
 ∀(pins:List (Addr × Obj)) (s:Shared) (σ:L2.St) (H:Hp) (Q:Bool→Hp→Prop),Inv X pins σ H s→t σ H Q →
  wpAny (model X.prog X.w) X.A (forIn ifs true λc r=>if r=true then do let ok ← isTrue c X.env (eval c X.env);pure (ForInStep.yield ok) else pure (ForInStep.yield r)) (TP X pins σ Q) X.xe s
theorem vJ {X:Cx}:GD X [] (λ_ H Q=>Q true H):=λpins s σ H Q I h=>by rw [List.forIn_nil];exact wpAny_pure ⟨H,I,h⟩
theorem Bs {X:Cx} {c:Expr} {t:TT} (h:PT X c t):GD X [c] t:=λpins s σ H Q I q=>wpAny_tests_one (h pins s σ H Q I q)
section
variable {prog:Program} {w:World} {A:Around} {R:Result→Shared→Prop} {s:Shared}
theorem CJ {elt iter:Expr} {ifs:List Expr} {x:Str} {px:Pos} {sc:Scope} {pos:Pos} {it acc:Value} {env:Env} (I:Nat→Shared→Prop)
  (turn:∀n s,I n s→wpAny (model prog w) A (pyNext it) (λr s₁=>match r with
   | none=>R (.ok .next) s₁
   | some v=>wpAny (model prog w) A (letOwnedTupleGo (.Name x px) it v) (λ_ s₂=>wpAny (model prog w) A (assign (.Name x px) env v) (λ_ s₃=>wpAny (model prog w) A (forIn ifs true λc r=>if r=true then do let ok ← isTrue c env (eval c env);pure (ForInStep.yield ok) else pure (ForInStep.yield r)) (λok s₃=>if ok=true then wpAny (model prog w) A (eval elt env) (λy s₄ =>
     wpAny (model prog w) A (call (.builtin "list.append") [acc,y]) (λ_ s₅=>∃m,m < n∧I m s₅) (λ_ _=>False) s₄) (λ_ _=>False) s₃ else ∃m,m < n∧I m s₃) (λ_ _=>False) s₃) (λ_ _=>False) s₂) (λ_ _=>False) s₁) (λ_ _=>False) s)
  (n:Nat) (h:I n s):codeAny (model prog w) A (.compLoop (.ListComp elt [⟨.Name x px,iter,ifs,0⟩] sc pos) 0 it acc env) R s:=by
 refine codeAny_loop rfl I (λn s hI=>?_) n h
 show wpAny _ _ ((compTurn (.ListComp elt [⟨.Name x px,iter,ifs,0⟩] sc pos) 0 it acc env).onRaise (λx=>do noteFrame x env;theTreesLotGoes x)) _ _ s
 refine wpAny_noted ?_
 rw [compTurn_list]
 have no:∀(e:Value) (s':Shared),False→notedBy (model prog w) A env (λe s'=>R (.error e) s') e s':=λ_ _ z=>z.elim
 refine wpAny_bind (wpAny_standAt (wpAny_bind (wpAny_mono (turn n s hI) (λr s₁ h₁=>?_) no)))
 cases r with
 | none=>exact wpAny_pure h₁
 | some v =>
  refine wpAny_bind (wpAny_mono h₁ (λ_ s₂ h₂=>?_) no)
  refine wpAny_bind (wpAny_mono h₂ (λ_ s₃ h₃=>wpAny_bind (wpAny_mono h₃ (λok s₃' h₃'=>?_) no)) no)
  cases ok with
  | false=>exact wpAny_pure ⟨rfl,h₃'⟩
  | true =>
   exact wpAny_bind (wpAny_bind (wpAny_mono h₃' (λy s₄ h₄=>wpAny_bind (wpAny_mono h₄ (λ_ s₅ h₅=>wpAny_pure (wpAny_pure ⟨rfl,h₅⟩)) no)) no))
end
def Iu (wi:TI) (ks:List (Str × Nat)) (tc:TT) (te:TE):TE:=λσ H Q=>wi σ H λJ H1=>∀D,H1 D=none→∃W:Nat→Nat→Hp→Prop,(∃m,W 0 m (upd H1 D (.lst []))) ∧
 ∀i m H2,W i m H2→(J.stop i H2∧Q (.ref D) H2)∨(J.go i H2∧∀v H3,J.yld i H2 v H3→tc (some v :: dB ks σ) H3 λb H4=>if b=true then te (some v :: dB ks σ) H4 λy H5=>∃ys,H5 D=some (.lst ys)∧ys.length < sizeLine∧∃m',m' < m∧W (i + 1) m' (upd H5 D (.lst (ys ++ [y]))) else ∃m',m' < m∧W (i + 1) m' H4)
section
variable {X:Cx}
theorem yf {elt iter:Expr} {ifs:List Expr} {x:Str} {px:Pos} {sc:Scope} {pos:Pos} {te:TE} {tc:TT} {ks:List (Str × Nat)} {cl:List (Str × Addr)} {pins:List (Addr × Obj)} {σ:L2.St} {H:Hp} {s:Shared} {it:Addr} {fp:List Addr} {tn:Nat→Heap→Prop} {J:It} {Q:VK}
  {RR:Value→Addr→Result→Shared→Prop} {E:Value→Shared→Prop}
  (hc:X.calm=true) (ok:cR sc X.env.scope X.N x ks) (h1:∀y c,cl.lookup y=some c→X.env.cells.lookup y=some c) (h2:∀y∈sc.names,y.2=.free→∃c,cl.lookup y.1=some c)
  (he:∀cl C s₀ H₀ fp pins,PE (gq X sc cl C x ks s₀ H₀ fp pins) elt te) (hcn:∀cl C s₀ H₀ fp pins,GD (gq X sc cl C x ks s₀ H₀ fp pins) ifs tc)
  (I:Inv X pins σ H s) (T:Turn X.prog X.w X.K (.Name x px) J fp it tn) (st:tn 0 s.heap) (f:∀b∈fp,kP X pins H b)
  (hw:∀D,H D=none→∃W:Nat→Nat→Hp→Prop,(∃m,W 0 m (upd H D (.lst [])))∧∀i m H2,W i m H2→(J.stop i H2∧Q (.ref D) H2) ∨
   (J.go i H2∧∀v H3,J.yld i H2 v H3→tc (some v :: dB ks σ) H3 λb H4=>if b=true then te (some v :: dB ks σ) H4 λy H5=>∃ys,H5 D=some (.lst ys)∧ys.length < sizeLine∧∃m',m' < m∧W (i + 1) m' (upd H5 D (.lst (ys ++ [y]))) else ∃m',m' < m∧W (i + 1) m' H4))
  (hR:∀(D C:Addr) (s':Shared) (H':Hp) (m:Str→Option Value),Inv X pins σ H' s'→Q (.ref D) H'→s'.heap.Ns C m→H' C=none→C≠X.env.locals→X.s₀.heap.objs.size≤C→(∀y c,X.env.cells.lookup y=some c→c≠C)→(∀p∈X.pn ++ pins,p.1≠C)→RR (.ref D) C (.ok .next) s') :
  wpAny (model X.prog X.w) X.A (newList []) (λacc s₃=>wpAny (model X.prog X.w) X.A (newFunctionEnv sc X.env.globals cl [] X.env.qual none .none (some X.env)) (λcenv s₄ =>
   codeAny (model X.prog X.w) X.A (.compStart (.ListComp elt [⟨.Name x px,iter,ifs,0⟩] sc pos) 0 (.ref it) acc { cenv with scope:=relabel sc X.env }) (RR acc cenv.locals) s₄) E s₃) E s:=by
 have okk:=ok
 obtain ⟨kd,nc,lx,ll,fr,kk,nd⟩:=okk
 have hD0:H s.heap.objs.size=none:=I.hok.fresh (Ss _)
 obtain ⟨W,⟨m0,w0⟩,turn⟩:=hw s.heap.objs.size hD0
 refine wpAny_newObj_type ?_
 have I3:Inv X pins σ (upd H s.heap.objs.size (.lst [])) { s with heap:=s.heap.push { cls:=.type "list",dict:=none,data:=.seq ([]:List Value).toArray } } :=
  I.laid (t':=s.toks) (λb u e=>Heap.get?_push_of_some _ e) (Ss _) (show cX X.prog X.w _ _ _ (.lst []) from ⟨SY _,[],0,.nil,Heap.get?_push_size _ rfl⟩)
 have st3:tn 0 (s.heap.push { cls:=.type "list",dict:=none,data:=.seq ([]:List Value).toArray }):=T.keep 0 _ _ st λb hb o e=>Heap.get?_push_of_some _ e
 generalize hD:s.heap.objs.size=D at *
 generalize hH:upd H D (.lst [])=H3 at *
 generalize hs3:({ s with heap:=s.heap.push { cls:=.type "list",dict:=none,data:=.seq ([]:List Value).toArray } }:Shared)=s3 at *
 have e3:s.heap.push { cls:=.type "list",dict:=none,data:=.seq ([]:List Value).toArray }=s3.heap:=by rw [← hs3]
 rw [e3] at st3
 have fD:∀b∈fp,b≠D:=λb hb z=>by
  obtain ⟨o,ho,_⟩:=T.obj 0 _ st b hb
  have:=Heap.lt_size ho
  rw [z,← hD] at this
  exact Tr _ this
 have f3:∀b∈fp,kP X pins H3 b:=λb hb=>⟨by rw [← hH,aL (fD b hb)];exact (f b hb).1,(f b hb).2⟩
 have g3:∀b∈fp,∃o,s3.heap.get? b=some o:=λb hb=>by
  obtain ⟨o,ho,_⟩:=T.obj 0 _ st3 b hb
  exact ⟨o,ho⟩
 refine wpAny_newFunctionEnv nc (by intro y hy;simp at hy) (λh₁ hns hsb=>?_) kd
 have kp:∀b o,s3.heap.get? b=some o→h₁.get? b=some o:=λb o e=>hsb.extBut b o (SO (Heap.lt_size e)) (Heap.get?_push_of_some _ e)
 have J0:=xx (fp:=fp) (cl:=cl) (t':=s3.toks + ([]:List (Str × Value)).length) I3 ok h1 h2 (λb hb=>⟨f3 b hb,g3 b hb⟩) hns kp
 have st4:tn 0 h₁:=T.keep 0 _ _ st3 λb hb o e=>kp b o e
 have ltC:∀b o,s3.heap.get? b=some o→b≠s3.heap.objs.size:=λb o e=>SO (Heap.lt_size e)
 have cC:∀y c,X.env.cells.lookup y=some c→c≠s3.heap.objs.size:=λy c e=>by
  obtain ⟨v,o,ho,_⟩:=I3.cell y c e
  exact ltC c o ho
 have pC:∀p∈X.pn ++ pins,p.1≠s3.heap.objs.size:=λp hp=>ltC _ _ (I3.pin p hp).1
 have lC:s3.heap.objs.size≠X.env.locals:=UG I3.lt
 have fX:∀{H':Hp},(∀b∈fp,H' b=none)→∀b∈fp,kP (gq X sc cl s3.heap.objs.size x ks s3 H3 fp pins) [] H' b:=λhn b hb=>by
  obtain ⟨o,ho⟩:=g3 b hb
  obtain ⟨_,q1,q2,q3,q4,q5⟩:=f b hb
  refine ⟨hn b hb,ltC b o ho,λz=>?_,.inl hb,λy c e=>q4 y c (h1 y c e),λp hp=>q5 p (by simpa [gq] using hp)⟩
  rcases SH.mp (I3.oG b z) with e | e
  ·exact q1 e
  ·exact q2 e
 have back:∀{o:Option V} {H':Hp} {s':Shared},Inv (gq X sc cl s3.heap.objs.size x ks s3 H3 fp pins) [] (o :: dB ks σ) H' s'→Inv X pins σ H' s':=λ{o H' s'} J=>by
  obtain ⟨hh,g,d,t,os'⟩:=s'
  obtain rfl:os'=s3.os:=J.os
  exact I3.call (h':=hh) (g':=g) (d':=d) (t':=t) (ch:=fp) J.base J.hok J.bare λb hb=>⟨(f b hb).2.2.2.1,(f b hb).2.1,(f b hb).2.2.2.2.1,(f b hb).2.2.2.2.2⟩
 have lookX:(relabel sc X.env).names.lookup x=some .local:=lookup_relabel_local lx
 have loop:∀s',(∃(i:Nat) (o:Option V) (H':Hp),Inv (gq X sc cl s3.heap.objs.size x ks s3 H3 fp pins) [] (o :: dB ks σ) H' s'∧tn i s'.heap∧(∀b∈fp,H' b=none)∧W i m0 H') →
   codeAny (model X.prog X.w) X.A (.compLoop (.ListComp elt [⟨.Name x px,iter,ifs,0⟩] sc pos) 0 (.ref it) (.ref D) (compEnvC sc cl s3.heap.objs.size X.env)) (RR (.ref D) s3.heap.objs.size) s':=by
  intro s' hs'
  refine CJ (λn s'=>∃(i:Nat) (o:Option V) (H':Hp),Inv (gq X sc cl s3.heap.objs.size x ks s3 H3 fp pins) [] (o :: dB ks σ) H' s'∧tn i s'.heap∧(∀b∈fp,H' b=none)∧W i n H') ?_ m0 hs'
  rintro n s5 ⟨i,o,H5,J5,t5,n5,w5⟩
  rcases turn i n H5 w5 with ⟨stop,hq⟩ | ⟨go,step⟩
  ·refine b9 (T.done (gq X sc cl s3.heap.objs.size x ks s3 H3 fp pins) rfl rfl rfl hc i [] s5 _ H5 _ J5 (fX n5) t5 stop) λr s6 ⟨hr,J6⟩=>?_
   subst hr
   obtain ⟨m,hm,_⟩:=J6.loc
   exact hR D _ s6 H5 m (back J6) hq hm J6.free lC I3.sz cC pC
  ·refine b9 (T.item (gq X sc cl s3.heap.objs.size x ks s3 H3 fp pins) rfl rfl rfl hc i [] s5 _ H5 _ J5 (fX n5) t5 go) λr s6 ⟨u,hr,h6⟩=>?_
   subst hr
   refine b9 h6 λ_ s7 ⟨v,H7,J7,r7,y7,t7,n7⟩=>?_
   have J7':=J7.pinned (fX n7) (T.obj _ _ t7)
   refine wpAny_assign_Name (gi (X:=gq X sc cl s3.heap.objs.size x ks s3 H3 fp pins) (i:=0) J7' nd rfl (.inl lookX) r7 (λs8 J8=>?_) (.inr lookX))
   refine b9 (hcn cl s3.heap.objs.size s3 H3 fp pins _ s8 _ H7 _ J8 (step v H7 y7)) λok s8' ⟨H8,J8',q8⟩=>?_
   cases ok with
   | false =>
    simp only [SJ,if_false] at q8 ⊢
    obtain ⟨m',hm,w'⟩:=q8
    refine ⟨m',hm,i + 1,_,_,J8'.gj,?_,?_,w'⟩
    ·exact T.keep _ _ _ t7 λb hb o e=>(J8'.pin (b,o) (SF _ (SF _ (cv hb e)))).1
    ·intro b hb
     obtain ⟨o,e,d⟩:=T.obj _ _ t7 b hb
     exact (J8'.pin (b,o) (SF _ (SF _ (cv hb e)))).2.1
   | true =>
    simp only [if_true] at q8 ⊢
    refine b9 (he cl s3.heap.objs.size s3 H3 fp pins _ s8' _ H8 _ J8' q8) λy s9 ⟨vy,H9,J9,r9,ys,hys,hz,m',hm,w'⟩=>?_
    refine b9 (ip (X:=gq X sc cl s3.heap.objs.size x ks s3 H3 fp pins) _ s9 _ H9 (.ref D) [vy] (.ref D) [y] (λ_ H'=>H'=upd H9 D (.lst (ys ++ [vy]))) J9 rfl (.cons r9 .nil) ⟨D,ys,vy,rfl,rfl,hys,hz,rfl⟩) λ_ s10 ⟨_,H10,J10,_,eH⟩=>?_
    subst eH
    refine ⟨m',hm,i + 1,_,_,J10.gj,?_,?_,w'⟩
    ·exact T.keep _ _ _ t7 λb hb o e=>(J10.pin (b,o) (SF _ (SF _ (cv hb e)))).1
    ·intro b hb
     obtain ⟨o,e,d⟩:=T.obj _ _ t7 b hb
     exact (J10.pin (b,o) (SF _ (SF _ (cv hb e)))).2.1
 have l0:=loop _ ⟨0,none,H3,J0,st4,λb hb=>(f3 b hb).1,w0⟩
 exact codeAny_compStart_list l0 (T.self _ 0 _ _ _ st4 l0)
theorem qO {sc osc:Scope} {N:List Str} {x:Str} {ks:List (Str × Nat)} (ok:cR sc osc N x ks) {pins:List (Addr × Obj)} {σ:L2.St} {H:Hp} {s:Shared} (I:Inv X pins σ H s) (ho:X.env.scope=osc):∀y∈sc.names,y.2=.free→∃c,X.env.cells.lookup y.1=some c:=λy hy hf =>
 I.ok.has y.1 (.inl (by show X.env.scope.names.lookup y.1=some .cell;rw [ho];exact ok.2.2.2.2.1 y hy hf))
theorem Lp {elt iter:Expr} {ifs:List Expr} {x:Str} {px:Pos} {sc:Scope} {pos:Pos} {wi:TI} {te:TE} {tc:TT} (osc:Scope) (N:List Str) (ks:List (Str × Nat)) (hc:X.calm=true) (ho:X.env.scope=osc) (hN:X.N=N) (hi:PI X (.Name x px) iter wi)
  (he:∀cl C s₀ H₀ fp pins,PE (gq X sc cl C x ks s₀ H₀ fp pins) elt te) (hcn:∀cl C s₀ H₀ fp pins,GD (gq X sc cl C x ks s₀ H₀ fp pins) ifs tc) (ok:cR sc osc N x ks:=by decide +kernel) (hs:∀x,foldedSetIterable iter X.env x=pure x:=by intro _;rfl) :
  PE X (.ListComp elt [⟨.Name x px,iter,ifs,0⟩] sc pos) (Iu wi ks tc te):=by
 intro pins s σ H Q I hw
 obtain ⟨cl,hcl,h1,h2⟩:=lE (qO ok I ho)
 have ok':cR sc X.env.scope X.N x ks:=by rw [ho,hN];exact ok
 rw [eval_ListComp]
 refine wpAny_comprehension_free (use:=none) rfl hs hcl ok.1 ok.2.2.2.1 (b9 (hi pins s σ H _ I hw) λv s1 h3=>b9 h3 λitv s2 h4=>?_)
 obtain ⟨it,fp,tn,J,H2,rfl,I2,T,st2,f2,hR⟩:=h4
 refine yf (RR:=λacc C=>compPost (model X.prog X.w) X.A X.xe none (EP X pins σ Q) acc C) hc ok' h1 h2 he hcn I2 T st2 f2 hR ?_
 intro D C s' H' m J' q hn hC cl' cs cc cp
 refine ⟨m,hn,λh' hsb=>⟨.ref D,H',?_,rfl,q⟩⟩
 exact J'.turned (t':=s'.toks) (it:=C) (λb o ne e=>hsb.extBut b o ne e) hC cl' (.inr cs) cc cp
def OI (wi:TI) (ks:List (Str × Nat)) (tc:TT) (te:TE) (i:Nat):TS:=λD σ H=>Iu wi ks tc te σ H λv H1=>D.nx (σ.set i (some v)) H1
theorem zR {elt iter:Expr} {ifs:List Expr} {x y:Str} {px py:Pos} {sc:Scope} {pos spos:Pos} {wi:TI} {te:TE} {tc:TT} {i:Nat} (osc:Scope) (N:List Str) (ks:List (Str × Nat)) (hc:X.calm=true) (ho:X.env.scope=osc) (hN:X.N=N) (hnd:X.N.Nodup) (hy:X.N[i]?=some y) (hl:Loc X.env.scope y)
  (hi:PI X (.Name x px) iter wi) (he:∀cl C s₀ H₀ fp pins,PE (gq X sc cl C x ks s₀ H₀ fp pins) elt te) (hcn:∀cl C s₀ H₀ fp pins,GD (gq X sc cl C x ks s₀ H₀ fp pins) ifs tc) (ok:cR sc osc N x ks:=by decide +kernel) (hs:∀x,foldedSetIterable iter X.env x=pure x:=by intro _;rfl)
  (hsw:swapsWith (.ListComp elt [⟨.Name x px,iter,ifs,0⟩] sc pos) (some (.Name y py)) spos.line X.env=pure true:=by rfl) (hf:X.fn y=true∨X.env.scope.names.lookup y=some .local:=by first | exact .inl rfl | exact .inr rfl | assumption) :
  PS X (.Assign [.Name y py] (.ListComp elt [⟨.Name x px,iter,ifs,0⟩] sc pos) spos) (OI wi ks tc te i):=by
 intro pins s σ H Dn I hw
 obtain ⟨cl,hcl,h1,h2⟩:=lE (qO ok I ho)
 have ok':cR sc X.env.scope X.N x ks:=by rw [ho,hN];exact ok
 rw [exec_Assign_Name_used _ _ _ _ hsw]
 refine wpAny_bind (wpAny_standAt (wpAny_bind ?_))
 show wpAny _ X.A (do let _ ← comprehension (.ListComp elt [⟨.Name x px,iter,ifs,0⟩] sc pos) sc X.env _ (newList []) false (eval iter X.env) (some (assign (.Name y py) X.env))) _ _ s
 refine wpAny_bind (wpAny_mono (wpAny_comprehension_free (use:=some (assign (.Name y py) X.env)) (Q:=λ_ s'=>SP X pins Dn .next s') rfl hs hcl ok.1 ok.2.2.2.1
  (b9 (hi pins s σ H _ I hw) λv s1 h3=>b9 h3 λitv s2 h4=>?_)) (λ_ s' hq=>wpAny_pure (wpAny_pure hq)) λ_ _ e=>e)
 obtain ⟨it,fp,tn,J,H2,rfl,I2,T,st2,f2,hR⟩:=h4
 refine yf (Q:=λv H1=>Dn.nx (σ.set i (some v)) H1) (RR:=λacc C=>compPost (model X.prog X.w) X.A X.xe (some (assign (.Name y py) X.env)) (λ_ s'=>SP X pins Dn .next s') acc C) hc ok' h1 h2 he hcn I2 T st2 f2 hR ?_
 intro D C s' H' m J' q hn hC cl' cs cc cp
 show wpAny _ X.A (assign (.Name y py) X.env (.ref D)) _ _ _
 refine wpAny_assign_Name (uo J' hnd hy hl (v:=.ref D) rfl (λs'' J'' ⟨a,hsb,ha⟩=>?_) hf)
 refine ⟨m,hn.sameBut hsb (λz=>?_),λh' hsb'=>⟨_,H',?_,q⟩⟩
 ·rcases ha with e | e
  ·exact cl' (z.trans e)
  ·exact cc _ _ e z.symm
 ·exact J''.turned (t':=s''.toks) (it:=C) (λb o ne e=>hsb'.extBut b o ne e) hC cl' (.inr cs) cc cp
def Pe (wi:TI) (ks:List (Str × Nat)) (te:TE):TE:=λσ H Q=>wi σ H λJ H1=>∀D,H1 D=none→∃W:Nat→Nat→Hp→Prop,(∃m,W 0 m (upd H1 D (.lst []))) ∧
 ∀i m H2,W i m H2→(J.stop i H2∧Q (.ref D) H2)∨(J.go i H2∧∀v H3,J.yld i H2 v H3→te (some v :: dB ks σ) H3 λy H4=>∃ys,H4 D=some (.lst ys)∧ys.length < sizeLine∧∃m',m' < m∧W (i + 1) m' (upd H4 D (.lst (ys ++ [y]))))
theorem NY {elt iter:Expr} {x:Str} {px:Pos} {sc:Scope} {pos:Pos} {wi:TI} {te:TE} (osc:Scope) (N:List Str) (ks:List (Str × Nat)) (hc:X.calm=true) (ho:X.env.scope=osc) (hN:X.N=N) (hi:PI X (.Name x px) iter wi)
  (he:∀cl C s₀ H₀ fp pins,PE (gq X sc cl C x ks s₀ H₀ fp pins) elt te) (ok:cR sc osc N x ks:=by decide +kernel) (hs:∀x,foldedSetIterable iter X.env x=pure x:=by intro _;rfl) :
  PE X (.ListComp elt [⟨.Name x px,iter,[],0⟩] sc pos) (Pe wi ks te):=λpins s σ H Q I hw=>Lp osc N ks hc ho hN hi he (λ_ _ _ _ _ _=>vJ) ok hs pins s σ H Q I hw
def Mc (wi:TI) (ks:List (Str × Nat)) (te:TE) (i:Nat):TS:=λD σ H=>Pe wi ks te σ H λv H1=>D.nx (σ.set i (some v)) H1
theorem Jo {elt iter:Expr} {x y:Str} {px py:Pos} {sc:Scope} {pos spos:Pos} {wi:TI} {te:TE} {i:Nat} (osc:Scope) (N:List Str) (ks:List (Str × Nat)) (hc:X.calm=true) (ho:X.env.scope=osc) (hN:X.N=N) (hnd:X.N.Nodup) (hy:X.N[i]?=some y) (hl:Loc X.env.scope y)
  (hi:PI X (.Name x px) iter wi) (he:∀cl C s₀ H₀ fp pins,PE (gq X sc cl C x ks s₀ H₀ fp pins) elt te) (ok:cR sc osc N x ks:=by decide +kernel) (hs:∀x,foldedSetIterable iter X.env x=pure x:=by intro _;rfl)
  (hsw:swapsWith (.ListComp elt [⟨.Name x px,iter,[],0⟩] sc pos) (some (.Name y py)) spos.line X.env=pure true:=by rfl) (hf:X.fn y=true∨X.env.scope.names.lookup y=some .local:=by first | exact .inl rfl | exact .inr rfl | assumption) :
  PS X (.Assign [.Name y py] (.ListComp elt [⟨.Name x px,iter,[],0⟩] sc pos) spos) (Mc wi ks te i):=λpins s σ H D I hw=>zR osc N ks hc ho hN hnd hy hl hi he (λ_ _ _ _ _ _=>vJ) ok hs hsw hf pins s σ H D I hw
end
theorem G6 {K:PySem.W.Frag} {a D:Addr} {xs:List V} {H:Hp} {te:TE} {ks:List (Str × Nat)} {σ:L2.St} {q:Hp→Prop} (Pv:Nat→Hp→Prop) (h0:Pv 0 (upd H D (.lst []))) (hl:∀i H,i≤xs.length→Pv i H→cF K H a xs)
  (hs:∀i x H (R:VK),xs[i]?=some x→Pv i H→(∀y H4 ys,H4 D=some (.lst ys)→ys.length < sizeLine→Pv (i + 1) (upd H4 D (.lst (ys ++ [y])))→R y H4)→te (some x :: dB ks σ) H R) (hd:∀H,Pv xs.length H→q H) :
  ∃W:Nat→Nat→Hp→Prop,(∃m,W 0 m (upd H D (.lst [])))∧∀i m H2,W i m H2→((Gw K a).stop i H2∧q H2) ∨
   ((Gw K a).go i H2∧∀v H3,(Gw K a).yld i H2 v H3→te (some v :: dB ks σ) H3 λy H4=>∃ys,H4 D=some (.lst ys)∧ys.length < sizeLine∧∃m',m' < m∧W (i + 1) m' (upd H4 D (.lst (ys ++ [y])))):=by
 refine ⟨λi m H=>m=xs.length - i∧i≤xs.length∧Pv i H,⟨xs.length,by simp,SY _,h0⟩,?_⟩
 rintro i m H2 ⟨rfl,hi,p⟩
 have hq:=hl i H2 hi p
 by_cases hlt:i < xs.length
 ·refine .inr ⟨⟨xs,xs[i],hq,by simp [hlt]⟩,λv H3 y=>?_⟩
  obtain ⟨e,y⟩:=y
  subst e
  exact hs i v _ _ (y xs hq) p λy H4 ys e1 e2 e3=>⟨ys,e1,e2,xs.length - (i + 1),by omega,rfl,hlt,e3⟩
 ·have e:i=xs.length:=by omega
  subst e
  exact .inl ⟨⟨xs,hq,Ss _⟩,hd H2 p⟩
theorem Ey {lo:Int} {n:Nat} {D:Addr} {H:Hp} {te:TE} {ks:List (Str × Nat)} {σ:L2.St} {q:Hp→Prop} (Pv:Nat→Hp→Prop) (h0:Pv 0 (upd H D (.lst [])))
  (hs:∀i H (R:VK),i < n→Pv i H→(∀y H4 ys,H4 D=some (.lst ys)→ys.length < sizeLine→Pv (i + 1) (upd H4 D (.lst (ys ++ [y])))→R y H4)→te (some (.int (lo + i)) :: dB ks σ) H R) (hd:∀H,Pv n H→q H) :
  ∃W:Nat→Nat→Hp→Prop,(∃m,W 0 m (upd H D (.lst [])))∧∀i m H2,W i m H2→((DC lo n).stop i H2∧q H2) ∨
   ((DC lo n).go i H2∧∀v H3,(DC lo n).yld i H2 v H3→te (some v :: dB ks σ) H3 λy H4=>∃ys,H4 D=some (.lst ys)∧ys.length < sizeLine∧∃m',m' < m∧W (i + 1) m' (upd H4 D (.lst (ys ++ [y])))):=by
 refine ⟨λi m H=>m=n - i∧i≤n∧Pv i H,⟨n,by simp,SY _,h0⟩,?_⟩
 rintro i m H2 ⟨rfl,hi,p⟩
 by_cases hlt:i < n
 ·refine .inr ⟨hlt,λv H3 y=>?_⟩
  obtain ⟨e,y⟩:=y
  subst e y
  exact hs i _ _ hlt p λy H4 ys e1 e2 e3=>⟨ys,e1,e2,n - (i + 1),by omega,rfl,hlt,e3⟩
 ·have e:i=n:=by omega
  subst e
  exact .inl ⟨Ss _,hd H2 p⟩
def one (c:Nat):Str:=⟨#[c]⟩
theorem t4:∀(cs:List Nat) (acc:Array Nat),(cs.map one).foldl (λacc (p:Str)=>acc ++ (Str.ofString "").cps ++ p.cps) acc=acc ++ cs.toArray
 | [],acc=>by simp
 | c :: cs,acc=>by
  have e:(Str.ofString "").cps=#[]:=by decide +kernel
  rw [Sx,List.foldl_cons,t4 cs]
  rw [e]
  show (acc ++ #[] ++ #[c]) ++ cs.toArray=_
  simp
theorem join_ones (cs:List Nat):Txt.join (Str.ofString "") (cs.map one)=⟨cs.toArray⟩:=by
 unfold Txt.join Builtin.Str.glued
 cases cs with
 | nil=>rfl
 | cons c cs =>
  simp only [Sx,List.drop_succ_cons,T_,List.headD_cons]
  rw [t4]
  show (⟨#[c] ++ cs.toArray⟩:Str)=_
  simp
theorem jb:∀{ys:List Str} {us:List Value},Vals (ys.map V.str) us→StrsAre us ys
 | [],_,.nil=>.nil
 | y :: ys,_,.cons r rr=>by
  obtain ⟨t,rfl⟩:=r
  exact .cons y t (jb rr)
section
variable {X:Cx}
def rJoin (K:PySem.W.Frag):V→List V→Hp→VK→Prop:=λx vs H Q=>∃z p ys,x=.str z∧vs=[.ref p]∧cF K H p (ys.map V.str)∧(ys.map (·.length)).sum + ys.length * z.length≤16777216∧Q (.str (Txt.join z ys)) H
theorem He:pF X "str.join" (rJoin X.K):=by
 intro pins s σ H x vs v us Q I rx rv h
 obtain ⟨z,p,ys,rfl,rfl,hp,hz,q⟩:=h
 obtain ⟨t,rfl⟩:=rx
 obtain ⟨u,rfl,ru⟩:=vals1 rv
 cases ru
 obtain ⟨its,r,pl,_⟩:=I.list hp
 exact join_list pl.isList (by simpa using jb r) hz λt' k=>⟨.str _,H,I.tok _,⟨_,rfl⟩,q⟩
end
def uL:Expr→Option V
 | .Constant (.int i) _ _=>some (.int i)
 | .Constant (.str x) _ _=>some (.str x)
 | .Constant (.bool b) _ _=>some (.bl b)
 | _=>none
theorem qP {X:Cx}:∀{es:List Expr} (vs:List V),es.map uL=vs.map some→PA X es (λ_ H Q=>Q vs H)
 | [],[],_=>λ_ _ _ _ H Q I h=>Calls.spliced_nil ⟨[],H,I,.nil,h⟩
 | [],_ :: _,h=>by cases h
 | _ :: _,[],h=>by cases h
 | e :: es,v :: vs,h=>by
  rw [Sx,Sx] at h
  injection h with h1 h2
  have ih:=qP (X:=X) (es:=es) vs h2
  have hs:starEach (e :: es) X.env=(false,eval e X.env) :: starEach es X.env:=by
   cases e <;> first | rfl | cases h1
  have he:PE X e (tC v):=by
   cases e with
   | Constant c j pos =>
    cases c with
    | int i=>cases h1;exact aJ
    | str x=>cases h1;exact n_
    | bool b=>cases h1;exact x5
    | _=>cases h1
   | _=>cases h1
  exact λpos pins s σ H Q I hq=>aT he ih hs pos pins s σ H Q I hq
end Ov
namespace Ov
open PySem PySem.Spec PyProof.Rows
open L2 (V HO Hp Inv Cx St VK TE TT TA TS TG pG TI TO ju Ends wN Loc Gl Rd RelV Vals eO w6 bT pE sH pF jt R2 Df tC F5 Pg B9 tB F0 OK Iv B3 Iw B6 Pd IB F2 Ar yE JL rQ Pc Ap Iy qr GR AZ GU GS Ir wI Mb A6 PM A7 IT Iz B8 B4 OG Ma B5 IA Aq pW B7 Pf upd E0 bI cT)
structure QE (X:Cx) (e:Expr) (t:TE):Prop where
 run:L2.PE X e t
structure QT (X:Cx) (e:Expr) (t:TT):Prop where
 run:L2.PT X e t
structure QW (X:Cx) (e:Expr) (t:TT):Prop where
 run:L2.PW X e t
structure QA (X:Cx) (es:List Expr) (t:TA):Prop where
 run:L2.PA X es t
structure QS (X:Cx) (st:Stmt) (t:TS):Prop where
 run:L2.PS X st t
structure QB (X:Cx) (st:List Stmt) (t:TS):Prop where
 run:L2.tN X st t
structure QG (X:Cx) (e:Expr) (t:TG):Prop where
 run:L2.PG X e t
structure O1 (X:Cx) (es:List Expr) (t:pG):Prop where
 run:L2.IL X es t
structure QI (X:Cx) (tg e:Expr) (t:TI):Prop where
 run:L2.PI X tg e t
structure QO (X:Cx) (e:Option Expr) (t:TO):Prop where
 run:L2.PO X e t
section
variable {X:Cx} {a b c e o:Expr} {es rest:List Expr} {ta tb te tc to:TE} {tA tB':TT} {t:TA} {pos px p p2 apos cpos:Pos} {x:Str} {i j:Nat}
theorem pv (i:Nat) {x:Str} {pos:Pos} (hN:X.N[i]?=some x:=by rfl) (hv:wN X.env.scope x:=by first | exact Or.inl rfl | exact Or.inr (Or.inl rfl) | exact Or.inr (Or.inr rfl)) (hd:(x == ("__debug__":Str))=false:=by decide)
  (hcd:(x == ("__classdict__":Str))=false:=by decide):QE X (.Name x pos) (Df i):=⟨L2.zN hN hv hd hcd⟩
theorem aJ {i:Int} {j pos}:QE X (.Constant (.int i) j pos) (tC (.int i)):=⟨L2.aJ⟩
theorem x5 {b:Bool} {j pos}:QE X (.Constant (.bool b) j pos) (tC (.bl b)):=⟨L2.x5⟩
theorem zK {j pos}:QE X (.Constant .none j pos) (tC .non):=⟨L2.zK⟩
theorem n_ {x:Str} {j pos}:QE X (.Constant (.str x) j pos) (tC (.str x)):=⟨L2.n_⟩
theorem pN {v:V} {u:Value} (hg:Gl X x) (hm:X.mg x=some u) (r:RelV v u) (hd:(x == ("__debug__":Str))=false:=by decide):QE X (.Name x pos) (tC v):=⟨L2.pN hg hm r hd⟩
theorem vw {v:V} {u:Value} (hg:Gl X x) (hm:X.mg x=none) (hv:bootBuiltins x=some u) (r:RelV v u) (hn:x≠"__name__":=by decide) (hd:(x == ("__debug__":Str))=false:=by decide):QE X (.Name x pos) (tC v):=⟨L2.vw hg hm hv r hn hd⟩
theorem bj {op:Operator} {r:R2} (ho:eO X (binaryOp op) r) (ha:QE X a ta) (hb:QE X b tb):QE X (.BinOp a op b pos) (F5 r ta tb):=⟨L2.bj ho ha.run hb.run⟩
theorem Bn {op:UnaryOp} {r:V→Hp→VK→Prop} (ho:w6 X (unaryOp op) r) (ha:QE X a ta):QE X (.UnaryOp op a pos) (Pg r ta):=⟨L2.Bn ho ha.run⟩
theorem pM {op:CmpOp} {r:R2} (ho:eO X (compareOp op) r) (ha:QE X a ta) (hb:QE X b tb) (hm:behindInMarks op b=false):QE X (.Compare a [op] [b] pos) (F5 r ta tb):=⟨L2.pM ho ha.run hb.run hm⟩
theorem c_ {op:CmpOp} {r:R2} (ho:eO X (compareOp op) r) (ha:QE X a ta) (hb:QE X b tb) (hm:behindInMarks op b=false):QT X (.Compare a [op] [b] pos) (B9 (F5 r ta tb)):=⟨L2.c_ ho ha.run hb.run hm⟩
theorem zM {op} (h:QE X a ta):QE X (.BoolOp op [a] pos) ta:=⟨L2.zM h.run⟩
theorem zJ (ha:QE X a ta) (hb:QE X (.BoolOp .And (b :: rest) pos) tb):QE X (.BoolOp .And (a :: b :: rest) pos) (B3 ta tb):=⟨L2.zJ ha.run hb.run⟩
theorem Fe (ha:QE X a ta) (hb:QE X (.BoolOp .Or (b :: rest) pos) tb):QE X (.BoolOp .Or (a :: b :: rest) pos) (Iw ta tb):=⟨L2.Fe ha.run hb.run⟩
theorem zL (ha:QE X a ta):QE X (.UnaryOp .Not a pos) (B6 ta):=⟨L2.zL ha.run⟩
theorem zS (ha:QT X a tA):QT X (.UnaryOp .Not a pos) (Iv tA):=⟨L2.zS ha.run⟩
theorem pQ (ha:QT X a tA):QW X (.BoolOp .And [a] pos) tA:=⟨L2.pQ ha.run⟩
theorem vN (ha:QT X a tA):QW X (.BoolOp .Or [a] pos) tA:=⟨L2.vN ha.run⟩
theorem vM (ha:QT X a tA) (hb:QW X (.BoolOp .And (b :: rest) pos) tB'):QW X (.BoolOp .And (a :: b :: rest) pos) (F0 tA tB'):=⟨L2.vM ha.run hb.run⟩
theorem Bx (ha:QT X a tA) (hb:QW X (.BoolOp .Or (b :: rest) pos) tB'):QW X (.BoolOp .Or (a :: b :: rest) pos) (OK tA tB'):=⟨L2.Bx ha.run hb.run⟩
theorem Jq (h:QW X e tA):QT X e tA:=⟨h.run.pt⟩
theorem zT (h:QE X e te) (he:∀whole,isTrue e X.env whole=(do let v ← whole;standAt e.pos;holding [v] (truthy v)):=by intro _;rfl):QT X e (tB te):=⟨L2.zT h.run he⟩
theorem qS (hc:QT X c tA) (ha:QE X a ta) (hb:QE X b tb):QE X (.IfExp c a b pos) (Pd tA ta tb):=⟨L2.qS hc.run ha.run hb.run⟩
theorem bG:QA X [] Ar:=⟨L2.bG⟩
theorem aT (ha:QE X e te) (hr:QA X es t) (hs:starEach (e :: es) X.env=(false,eval e X.env) :: starEach es X.env:=by rfl):QA X (e :: es) (yE te t):=⟨L2.aT ha.run hr.run hs⟩
theorem E8 {es:List Expr} (vs:List V) (h:es.map uL=vs.map some):QA X es (λ_ H Q=>Q vs H):=⟨qP vs h⟩
theorem qT {x1} (h:QA X es t):QE X (.Tuple es x1 pos) (IB t):=⟨L2.qT h.run⟩
theorem jR (h:QA X es t):QE X (.List es pos) (F2 t):=⟨L2.jR h.run⟩
theorem bW {r:R2} (hr:pE X r) (ha:QE X a ta) (hb:QE X b tb) (hs:cT b):QE X (.Subscript a b pos) (F5 r ta tb):=⟨L2.bW hr ha.run hb.run hs⟩
theorem pO:QO X none pW:=⟨L2.pO⟩
theorem kE (h:QE X e te):QO X (some e) (B7 te):=⟨L2.kE h.run⟩
theorem jS {lo hi:Option Expr} {tl th:TO} {r:V→Option Int→Option Int→Hp→VK→Prop} (hr:sH X r) (he:QE X e te) (hl:QO X lo tl) (hu:QO X hi th):QE X (.Subscript e (.Slice lo hi none p2) pos) (Pf r te tl th):=⟨L2.jS hr he.run hl.run hu.run⟩
theorem dy {id:String} {r:List V→Hp→VK→Prop} (hc:bT X (.builtin id) r) (hg:Gl X x) (hm:X.mg x=none) (hv:bootBuiltins x=some (.builtin id)) (ha:QA X (e :: es) t) (hn:x≠"__name__":=by decide) (hdb:(x == ("__debug__":Str))=false:=by decide)
  (he:starEach (e :: es) X.env=(false,eval e X.env) :: starEach es X.env:=by rfl) (hpl:(backTo pos (starEach es X.env)).any (·.1)=false:=by rfl):QE X (.Call (.Name x p) (e :: es) [] pos) (JL r t):=⟨L2.dy hc hg hm hv ha.run hn hdb he hpl⟩
theorem n9 {T:String} {r:List V→Hp→VK→Prop} (hc:bT X (.type T) r) (hg:Gl X x) (hm:X.mg x=none) (hv:bootBuiltins x=some (.type T)) (ha:QA X (e :: es) t) (hn:x≠"__name__":=by decide) (hdb:(x == ("__debug__":Str))=false:=by decide)
  (he:starEach (e :: es) X.env=(false,eval e X.env) :: starEach es X.env:=by rfl) (hpl:(backTo pos (starEach es X.env)).any (·.1)=false:=by rfl):QE X (.Call (.Name x p) (e :: es) [] pos) (JL r t):=⟨L2.n9 hc hg hm hv ha.run hn hdb he hpl⟩
theorem x6 {k k':Nat} {ps:List Str} {sp:L2.Sp} (C:rV X.prog X.w X.K X.mg X.base k x ps sp) (hr:bI k' X.A) (hk:k≤k') (hg:Gl X x) (ha:QA X (e :: es) t)
  (hdb:(x == ("__debug__":Str))=false:=by decide) (he:starEach (e :: es) X.env=(false,eval e X.env) :: starEach es X.env:=by rfl) (hpl:(backTo pos (starEach es X.env)).any (·.1)=false:=by rfl) :
  QE X (.Call (.Name x p) (e :: es) [] pos) (rQ sp [] E0 t):=⟨Lm C hr hk hg ha.run hdb he hpl⟩
theorem qR {name:Str} {T id:String} {r:V→List V→Hp→VK→Prop} (pa:PlainAttrs T) (slot:Slot T name id) (hty:typeOf (.builtin id)=pure (.type "method_descriptor")) (hm:pF X id r) (ho:QE X o to) (ha:QA X (e :: es) t)
  (hbase:attributeBase o name X.env (eval o X.env)=eval o X.env:=by rfl)
  (hfew:((backTo cpos (starEach (e :: es) X.env)).all (λx=>!x.1) && (backToKw cpos (keywordEach [] X.env)).all (λx=>x.1.isSome)
   && decide ((e :: es).length + ([]:List Keyword).length + (if ([]:List Keyword).isEmpty then 0 else 1) < 30))=true:=by rfl)
  (hline:(apos.endLine == cpos.line)=true:=by rfl) (hs:starEach (e :: es) X.env=(false,eval e X.env) :: starEach es X.env:=by rfl) (hplain:(backTo cpos (starEach es X.env)).any (·.1)=false:=by rfl) :
  QE X (.Call (.Attribute o name apos) (e :: es) [] cpos) (Pc X.K T r to t):=⟨L2.qR pa slot hty hm ho.run ha.run hbase hfew hline hs hplain⟩
end
section
variable {X:Cx} {st:Stmt} {rest:List Stmt} {t u:TS} {e tg:Expr} {es:List Expr} {te:TE} {pos:Pos} {g:TG}
theorem fF:QB X [] B5:=⟨L2.fF⟩
theorem aV (h1:QS X st t) (h2:QB X rest u):QB X (st :: rest) (IA t u):=⟨L2.aV h1.run h2.run⟩
theorem bH (h1:QS X st t):QB X [st] t:=⟨L2.bH h1.run⟩
theorem x_ (h1:QS X st t) (h2:QB X rest u):QB X (st :: rest) (OH t u):=⟨HN h1.run h2.run⟩
theorem oh {sts:List Stmt}:QB X sts Aq:=⟨L2.oh⟩
theorem kF (he:QE X e te) (hs:swapsWith e none pos.line X.env=pure false:=by rfl):QS X (.Expr e pos) (B4 te):=⟨L2.kF he.run hs⟩
theorem dn (he:QE X e te):QS X (.Return (some e) pos) (Iz te):=⟨L2.dn he.run⟩
theorem vG:QS X (.Return none pos) B8:=⟨L2.vG⟩
theorem mW {c:Expr} {a b:List Stmt} {tc:TT} (hc:QT X c tc) (ha:QB X a t) (hb:QB X b u):QS X (.If c a b pos) (Ir tc t u):=⟨L2.mW hc.run ha.run hb.run⟩
theorem j0 {c:Expr} {body:List Stmt} {tc:TT} {tb:TS} (hp:PassesOwn (model X.prog X.w) X.A X.env X.xe) (hc:QT X c tc) (hb:QB X body tb):QS X (.While c body [] pos) (wI tc tb):=⟨L2.j0 hp hc.run hb.run⟩
theorem kD {i:Nat} {x:Str} (hN:X.N.Nodup) (hi:X.N[i]?=some x) (hx:Loc X.env.scope x) (hf:X.fn x=true∨X.env.scope.names.lookup x=some .local:=by first | exact .inl rfl | exact .inr rfl | assumption):QG X (.Name x pos) (qr i):=⟨L2.kD hN hi hx hf⟩
theorem vB:O1 X [] GR:=⟨L2.vB⟩
theorem qV {e:Expr} {es:List Expr} {t:TG} {u:pG} (h1:QG X e t) (h2:O1 X es u)
  (hs:(assignEach (e :: es) X.env).map (·.2)=assign e X.env :: (assignEach es X.env).map (·.2):=by rfl):O1 X (e :: es) (AZ t u):=⟨L2.qV h1.run h2.run hs⟩
theorem zO {k:Nat} {t:pG} {n:Nat} (hc:X.calm=true) (h:O1 X es t)
  (hn:(assignEach es X.env).length=n:=by rfl) (hst:(assignEach es X.env).findIdx? (·.1)=none:=by rfl):QG X (.Tuple es k pos) (GU X.K n t):=⟨L2.zO hc h.run hn hst⟩
theorem vA {o i:Expr} {to ti:TE} {t:ju} (ho:QE X o to) (hi:QE X i ti) (hs:jt X t)
  (ha:∀v,assign (.Subscript o i pos) X.env v=(do
   let ov ← holding [v] (eval o X.env)
   let iv ← holding [v,ov] (eval i X.env)
   standAt pos
   holding [v,ov,iv] (setItem ov iv v)
   release [v,ov,iv] []):=by intro _;rfl):QG X (.Subscript o i pos) (GS to ti t):=⟨L2.vA ho.run hi.run hs ha⟩
theorem vF {tg e:Expr} (he:QE X e te) (hg:QG X tg g) (hs:swapsWithSole [tg] e pos.line X.env=pure false:=by rfl) (hw:swappedStores [tg] e X.env=pure none:=by rfl)
  (h1:(assignEach [tg] X.env).map (·.2)=[assign tg X.env]:=by rfl):QS X (.Assign [tg] e pos) (Ap te g):=⟨L2.vF he.run hg.run hs hw h1⟩
theorem cJ {i:Nat} {x:Str} {pos':Pos} (hN:X.N.Nodup) (hi:X.N[i]?=some x) (hx:Loc X.env.scope x) (he:QE X e te) (hs:swapsWith e (some (.Name x pos')) pos.line X.env=pure false:=by rfl) (hf:X.fn x=true∨X.env.scope.names.lookup x=some .local:=by first | exact .inl rfl | exact .inr rfl | assumption) :
  QS X (.Assign [.Name x pos'] e pos) (Ap te (qr i)):=⟨L2.cJ hN hi hx he.run hs hf⟩
theorem og {i j:Nat} {x y:Str} {a b:Expr} {ta:TA} {px py pt:Pos} {kt k2 pt2} (hc:X.calm=true) (hN:X.N.Nodup) (hi:X.N[i]?=some x) (hj:X.N[j]?=some y) (hij:i≠j)
  (hx:X.env.scope.names.lookup x=some .local) (hy:X.env.scope.names.lookup y=some .local) (ha:QA X [a,b] ta)
  (hw:swappedStores [.Tuple [.Name x px,.Name y py] kt pt] (.Tuple [a,b] k2 pt2) X.env=pure (some [x,y]))
  (hs:swapsWithSole [.Tuple [.Name x px,.Name y py] kt pt] (.Tuple [a,b] k2 pt2) pos.line X.env=pure false:=by rfl) :
  QS X (.Assign [.Tuple [.Name x px,.Name y py] kt pt] (.Tuple [a,b] k2 pt2) pos) (Iy i j ta):=⟨L2.og hc hN hi hj hij hx hy ha.run hw hs⟩
theorem mM {l:Expr} {tl:TE} (hl:QE X l tl):QI X tg l (A6 X.K tl):=⟨L2.mM hl.run⟩
theorem fK {a:Expr} {ta:TA} {p pos:Pos} (hg:Gl X "range") (hm:X.mg "range"=none) (ha:QA X [a] ta) (hs:starEach [a] X.env=[(false,eval a X.env)]:=by rfl):QI X tg (.Call (.Name "range" p) [a] [] pos) (A7 ta):=⟨L2.fK hg hm ha.run hs⟩
theorem oa {iter:Expr} {body:List Stmt} {wi:TI} {g:TG} {tb:TS} {pos:Pos} (hp:PassesOwn (model X.prog X.w) X.A X.env X.xe) (hc:X.calm=true) (hi:QI X tg iter wi) (hg:QG X tg g) (hb:QB X body tb)
  (hs:∀x,foldedSetIterable iter X.env x=pure x:=by intro _;rfl):QS X (.For tg iter body [] pos) (Mb wi g tb):=⟨L2.oa hp hc hi.run hg.run hb.run hs⟩
theorem HD {elt iter:Expr} {x:Str} {px:Pos} {sc:Scope} {pos:Pos} {wi:TI} (osc:Scope) (N:List Str) (ks:List (Str × Nat)) (hc:X.calm=true) (ho:X.env.scope=osc) (hN:X.N=N) (hi:QI X (.Name x px) iter wi)
  (he:∀cl C s₀ H₀ fp pins,QE (gq X sc cl C x ks s₀ H₀ fp pins) elt te) (ok:cR sc osc N x ks:=by decide +kernel) (hs:∀x,foldedSetIterable iter X.env x=pure x:=by intro _;rfl) :
  QE X (.ListComp elt [⟨.Name x px,iter,[],0⟩] sc pos) (Pe wi ks te):=⟨NY osc N ks hc ho hN hi.run (λcl C s₀ H₀ fp pins=>(he cl C s₀ H₀ fp pins).run) ok hs⟩
theorem HM {elt iter:Expr} {x y:Str} {px py:Pos} {sc:Scope} {pos spos:Pos} {wi:TI} {i:Nat} (osc:Scope) (N:List Str) (ks:List (Str × Nat)) (hc:X.calm=true) (ho:X.env.scope=osc) (hN:X.N=N) (hnd:X.N.Nodup) (hy:X.N[i]?=some y) (hl:Loc X.env.scope y)
  (hi:QI X (.Name x px) iter wi) (he:∀cl C s₀ H₀ fp pins,QE (gq X sc cl C x ks s₀ H₀ fp pins) elt te) (ok:cR sc osc N x ks:=by decide +kernel) (hs:∀x,foldedSetIterable iter X.env x=pure x:=by intro _;rfl)
  (hsw:swapsWith (.ListComp elt [⟨.Name x px,iter,[],0⟩] sc pos) (some (.Name y py)) spos.line X.env=pure true:=by rfl) (hf:X.fn y=true∨X.env.scope.names.lookup y=some .local:=by first | exact .inl rfl | exact .inr rfl | assumption) :
  QS X (.Assign [.Name y py] (.ListComp elt [⟨.Name x px,iter,[],0⟩] sc pos) spos) (Mc wi ks te i):=⟨Jo osc N ks hc ho hN hnd hy hl hi.run (λcl C s₀ H₀ fp pins=>(he cl C s₀ H₀ fp pins).run) ok hs hsw hf⟩
end
end Ov
namespace Ov
open PySem PySem.Spec PyProof.Rows
open L2 (V HO Hp Inv Cx VK TE TA Vals RelV eO bT cF R2 upd EP vals1 intsAre_of Gl)
section
variable {X:Cx}
end
end Ov
namespace Ov
open PySem PySem.Spec PyProof.Rows
open L2 (V HO Hp Inv Cx VK TE TA Vals RelV eO bT cF gr R2 upd bA)
inductive Py where
 | non | bl (b:Bool) | int (i:Int) | str (x:Str) | tup (xs:List Py) | lst (xs:List Py)
mutual
def At (K:PySem.W.Frag) (H:Hp):Py→V→Prop
 | .non,v=>v=.non
 | .bl b,v=>v=.bl b
 | .int i,v=>v=.int i
 | .str x,v=>v=.str x
 | .tup xs,v=>∃a vs,v=.ref a∧gr K H a vs∧rX K H xs vs
 | .lst xs,v=>∃a vs,v=.ref a∧cF K H a vs∧rX K H xs vs
def rX (K:PySem.W.Frag) (H:Hp):List Py→List V→Prop
 | [],vs=>vs=[]
 | x :: xs,vs=>∃v us,vs=v :: us∧At K H x v∧rX K H xs us
end
mutual
def ku:Py→Py→Bool
 | .non,.non=>true
 | .bl a,.bl b=>a == b
 | .int a,.int b=>a == b
 | .bl a,.int b=>(if a then 1 else 0) == b
 | .int a,.bl b=>a == (if b then 1 else 0)
 | .str a,.str b=>a == b
 | .tup xs,.tup ys=>jy xs ys
 | .lst xs,.lst ys=>jy xs ys
 | _,_=>false
def jy:List Py→List Py→Bool
 | [],[]=>true
 | x :: xs,y :: ys=>ku x y && jy xs ys
 | _,_=>false
end
mutual
def dep:Py→Nat
 | .tup xs=>cZ xs + 1
 | .lst xs=>cZ xs + 1
 | _=>0
def cZ:List Py→Nat
 | []=>0
 | x :: xs=>max (dep x) (cZ xs)
end
mutual
theorem xo:∀x:Py,ku x x=true
 | .non=>rfl
 | .bl b=>by simp [ku]
 | .int b=>by simp [ku]
 | .str b=>by simp [ku]
 | .tup xs=>by simpa [ku] using nL xs
 | .lst xs=>by simpa [ku] using nL xs
theorem nL:∀xs:List Py,jy xs xs=true
 | []=>rfl
 | x :: xs=>by simp [jy,xo x,nL xs]
end
mutual
theorem At.same {K:PySem.W.Frag} {H H':Hp} (e:bA H H'):∀{x:Py} {v:V},At K H x v→At K H' x v
 | .non,_,h=>h
 | .bl _,_,h=>h
 | .int _,_,h=>h
 | .str _,_,h=>h
 | .tup xs,_,⟨a,vs,e1,h,k⟩=>⟨a,vs,e1,e.tup h,rX.same e k⟩
 | .lst xs,_,⟨a,vs,e1,h,k⟩=>⟨a,vs,e1,e.seq h,rX.same e k⟩
theorem rX.same {K:PySem.W.Frag} {H H':Hp} (e:bA H H'):∀{xs:List Py} {vs:List V},rX K H xs vs→rX K H' xs vs
 | [],_,h=>h
 | _ :: _,_,⟨v,us,e1,h,k⟩=>⟨v,us,e1,At.same e h,rX.same e k⟩
end
theorem rX.length {K:PySem.W.Frag} {H:Hp}:∀{xs:List Py} {vs:List V},rX K H xs vs→xs.length=vs.length
 | [],_,h=>by cases h;rfl
 | _ :: xs,_,⟨v,us,e1,_,k⟩=>by subst e1;simp [rX.length k]
def Cs (xs ys:List Py) (j:Nat):Bool:=match xs[j]?,ys[j]? with
 | some x,some y=>ku x y
 | _,_=>false
theorem iE:∀(xs ys:List Py),((TJ (min xs.length ys.length)).all (Cs xs ys) && (xs.length == ys.length))=jy xs ys
 | [],[]=>rfl
 | [],_ :: _=>by simp [jy]
 | _ :: _,[]=>by simp [jy]
 | x :: xs,y :: ys=>by
  have ih:=iE xs ys
  rw [SS,SS,Nat.succ_min_succ,List.range_succ_eq_map,UU,List.all_map]
  have e1:(Cs (x :: xs) (y :: ys) ∘ Nat.succ)=Cs xs ys:=by
   funext j
   simp [Cs]
  have e2:(xs.length + 1 == ys.length + 1)=(xs.length == ys.length):=by
   rw [Tw]
   simp
  rw [e1,e2,Bool.and_assoc,ih]
  simp [Cs,jy]
section
variable {X:Cx} {pins:List (Addr × Obj)} {σ:L2.St} {H:Hp} {s:Shared}
mutual
theorem At.one (I:Inv X pins σ H s):∀{x y:Py} {v:V},At X.K H x v→At X.K H y v→ku x y=true
 | .non,y,v,h,k=>by cases h;cases y <;> simp_all [At,ku]
 | .bl b,y,v,h,k=>by cases h;cases y <;> simp_all [At,ku]
 | .int b,y,v,h,k=>by cases h;cases y <;> simp_all [At,ku]
 | .str b,y,v,h,k=>by cases h;cases y <;> simp_all [At,ku]
 | .tup xs,y,v,h,k=>by
  obtain ⟨a,vs,rfl,h1,h2⟩:=h
  cases y with
  | tup ys =>
   obtain ⟨b,us,e,k1,k2⟩:=k
   cases e
   cases I.Dg h1 k1
   simpa [ku] using rX.one I h2 k2
  | lst ys =>
   obtain ⟨b,us,e,k1,k2⟩:=k
   cases e
   obtain ⟨_,_,⟨o,e1,c1,_⟩,_⟩:=I.tuple h1
   obtain ⟨_,_,⟨o',n,e2,c2,_⟩,_⟩:=I.list k1
   rw [e1] at e2;cases e2;exact absurd (Value.type.inj (c1.symm.trans c2)) (by decide)
  | _=>cases k
 | .lst xs,y,v,h,k=>by
  obtain ⟨a,vs,rfl,h1,h2⟩:=h
  cases y with
  | lst ys =>
   obtain ⟨b,us,e,k1,k2⟩:=k
   cases e
   cases I.jE h1 k1
   simpa [ku] using rX.one I h2 k2
  | tup ys =>
   obtain ⟨b,us,e,k1,k2⟩:=k
   cases e
   obtain ⟨_,_,⟨o,e1,c1,_⟩,_⟩:=I.tuple k1
   obtain ⟨_,_,⟨o',n,e2,c2,_⟩,_⟩:=I.list h1
   rw [e1] at e2;cases e2;exact absurd (Value.type.inj (c1.symm.trans c2)) (by decide)
  | _=>cases k
theorem rX.one (I:Inv X pins σ H s):∀{xs ys:List Py} {vs:List V},rX X.K H xs vs→rX X.K H ys vs→jy xs ys=true
 | [],ys,vs,h,k=>by
  cases h
  cases ys with
  | nil=>rfl
  | cons y ys=>obtain ⟨_,_,e,_⟩:=k;cases e
 | x :: xs,ys,vs,h,k=>by
  obtain ⟨v,us,rfl,h1,h2⟩:=h
  cases ys with
  | nil=>cases k
  | cons y ys =>
   obtain ⟨v',us',e,k1,k2⟩:=k
   cases e
   simp [jy,At.one I h1 k1,rX.one I h2 k2]
end
mutual
theorem PF (I:Inv X pins σ H s):∀(x y:Py) {v v':V} {u u':Value} {A:Around},At X.K H x v→At X.K H y v'→RelV v u→RelV v' u'→A.units + dep x < cLine→SeqAt.EqAt A s u u' (ku x y)
 | .non,y,v,v',u,u',A,h,k,r,r',hu=>by
  cases h;cases r
  cases y with
  | non=>cases k;cases r';exact SeqAt.EqAt.same _
  | bl b=>cases k;cases r';exact SeqAt.EqAt.none_bool _
  | int b=>cases k;obtain ⟨t,rfl⟩:=r';exact SeqAt.EqAt.none_int _ _
  | str b=>cases k;obtain ⟨t,rfl⟩:=r';exact SeqAt.EqAt.none_str _ _
  | tup ys=>obtain ⟨a,vs,rfl,h1,h2⟩:=k;cases r';obtain ⟨_,_,p,_⟩:=I.tuple h1;exact SeqAt.EqAt.none_tuple p (by simpa [dep] using hu)
  | lst ys=>obtain ⟨a,vs,rfl,h1,h2⟩:=k;cases r';obtain ⟨_,_,p,_⟩:=I.list h1;exact SeqAt.EqAt.none_list p.isList (by simpa [dep] using hu)
 | .bl x,y,v,v',u,u',A,h,k,r,r',hu=>by
  cases h;cases r
  cases y with
  | non=>cases k;cases r';exact SeqAt.EqAt.bool_none _
  | bl b=>cases k;cases r';exact SeqAt.EqAt.bool_bool _ _
  | int b=>cases k;obtain ⟨t,rfl⟩:=r';exact SeqAt.EqAt.bool_int _ _ _
  | str b=>cases k;obtain ⟨t,rfl⟩:=r';exact SeqAt.EqAt.bool_str _ _ _
  | tup ys=>obtain ⟨a,vs,rfl,h1,h2⟩:=k;cases r';obtain ⟨_,_,p,_⟩:=I.tuple h1;exact SeqAt.EqAt.bool_tuple _ p (by simpa [dep] using hu)
  | lst ys=>obtain ⟨a,vs,rfl,h1,h2⟩:=k;cases r';obtain ⟨_,_,p,_⟩:=I.list h1;exact SeqAt.EqAt.bool_list _ p.isList (by simpa [dep] using hu)
 | .int x,y,v,v',u,u',A,h,k,r,r',hu=>by
  cases h;obtain ⟨t0,rfl⟩:=r
  cases y with
  | non=>cases k;cases r';exact SeqAt.EqAt.int_none _ _
  | bl b=>cases k;cases r';exact SeqAt.EqAt.int_bool _ _ _
  | int b=>cases k;obtain ⟨t,rfl⟩:=r';exact SeqAt.EqAt.int_int _ _ _ _
  | str b=>cases k;obtain ⟨t,rfl⟩:=r';exact SeqAt.EqAt.int_str _ _ _ _
  | tup ys=>obtain ⟨a,vs,rfl,h1,h2⟩:=k;cases r';obtain ⟨_,_,p,_⟩:=I.tuple h1;exact SeqAt.EqAt.int_tuple _ _ p (by simpa [dep] using hu)
  | lst ys=>obtain ⟨a,vs,rfl,h1,h2⟩:=k;cases r';obtain ⟨_,_,p,_⟩:=I.list h1;exact SeqAt.EqAt.int_list _ _ p.isList (by simpa [dep] using hu)
 | .str x,y,v,v',u,u',A,h,k,r,r',hu=>by
  cases h;obtain ⟨t0,rfl⟩:=r
  cases y with
  | non=>cases k;cases r';exact SeqAt.EqAt.str_none _ _
  | bl b=>cases k;cases r';exact SeqAt.EqAt.str_bool _ _ _
  | int b=>cases k;obtain ⟨t,rfl⟩:=r';exact SeqAt.EqAt.str_int _ _ _ _
  | str b=>cases k;obtain ⟨t,rfl⟩:=r';exact SeqAt.EqAt.str_str _ _ _ _
  | tup ys=>obtain ⟨a,vs,rfl,h1,h2⟩:=k;cases r';obtain ⟨_,_,p,_⟩:=I.tuple h1;exact SeqAt.EqAt.str_tuple _ _ p (by simpa [dep] using hu)
  | lst ys=>obtain ⟨a,vs,rfl,h1,h2⟩:=k;cases r';obtain ⟨_,_,p,_⟩:=I.list h1;exact SeqAt.EqAt.str_list _ _ p.isList (by simpa [dep] using hu)
 | .tup xs,y,v,v',u,u',A,h,k,r,r',hu=>by
  have h0:=h
  obtain ⟨a,vs,rfl,h1,h2⟩:=h
  cases r
  obtain ⟨is,r1,p1,_⟩:=I.tuple h1
  have hu0:A.units < cLine:=by omega
  have hu1:A.in1.units + cZ xs < cLine:=by
   have e:dep (.tup xs)=cZ xs + 1:=by rw [dep]
   rw [e] at hu
   show A.units + 1 + cZ xs < cLine
   omega
  cases y with
  | non=>cases k;cases r';exact SeqAt.EqAt.tuple_none p1 hu0
  | bl b=>cases k;cases r';exact SeqAt.EqAt.tuple_bool _ p1 hu0
  | int b=>cases k;obtain ⟨t,rfl⟩:=r';exact SeqAt.EqAt.tuple_int _ _ p1 hu0
  | str b=>cases k;obtain ⟨t,rfl⟩:=r';exact SeqAt.EqAt.tuple_str _ _ p1 hu0
  | lst ys=>obtain ⟨b,us,rfl,k1,k2⟩:=k;cases r';obtain ⟨_,_,p,_⟩:=I.list k1;exact SeqAt.EqAt.tuple_list p1 p.isList hu0
  | tup ys =>
   have k0:=k
   obtain ⟨b,us,rfl,k1,k2⟩:=k
   cases r'
   by_cases hab:a=b
   ·subst hab
    rw [At.one I h0 k0]
    exact SeqAt.EqAt.same _
   ·obtain ⟨js,r2,p2,_⟩:=I.tuple k1
    refine SeqAt.EqAt.of_refs hab ?_
    have key:=SeqAt.RcAt.tuples (e:=Cs xs ys) p1 p2 hu0 λj q1 q2=>qm I xs ys h2 k2 r1 r2 hu1 j (by simpa using q1) (by simpa using q2)
    have e1:is.length=xs.length:=by rw [← r1.length,h2.length]
    have e2:js.length=ys.length:=by rw [← r2.length,k2.length]
    simp only [Sv] at key
    rw [e1,e2,iE] at key
    simpa [ku] using key
 | .lst xs,y,v,v',u,u',A,h,k,r,r',hu=>by
  have h0:=h
  obtain ⟨a,vs,rfl,h1,h2⟩:=h
  cases r
  obtain ⟨is,r1,p1,_⟩:=I.list h1
  have hu0:A.units < cLine:=by omega
  have hu1:A.in1.units + cZ xs < cLine:=by
   have e:dep (.lst xs)=cZ xs + 1:=by rw [dep]
   rw [e] at hu
   show A.units + 1 + cZ xs < cLine
   omega
  cases y with
  | non=>cases k;cases r';exact SeqAt.EqAt.list_none p1.isList hu0
  | bl b=>cases k;cases r';exact SeqAt.EqAt.list_bool _ p1.isList hu0
  | int b=>cases k;obtain ⟨t,rfl⟩:=r';exact SeqAt.EqAt.list_int _ _ p1.isList hu0
  | str b=>cases k;obtain ⟨t,rfl⟩:=r';exact SeqAt.EqAt.list_str _ _ p1.isList hu0
  | tup ys=>obtain ⟨b,us,rfl,k1,k2⟩:=k;cases r';obtain ⟨_,_,p,_⟩:=I.tuple k1;exact SeqAt.EqAt.list_tuple p1.isList p hu0
  | lst ys =>
   have k0:=k
   obtain ⟨b,us,rfl,k1,k2⟩:=k
   cases r'
   by_cases hab:a=b
   ·subst hab
    rw [At.one I h0 k0]
    exact SeqAt.EqAt.same _
   ·obtain ⟨js,r2,p2,_⟩:=I.list k1
    refine SeqAt.EqAt.of_refs hab ?_
    have e1:is.length=xs.length:=by rw [← r1.length,h2.length]
    have e2:js.length=ys.length:=by rw [← r2.length,k2.length]
    have ae:=iE xs ys
    by_cases hl:xs.length=ys.length
    ·have key:=SeqAt.RcAt.lists (e:=Cs xs ys) p1.isList p2.isList (by simp only [Sv];omega) hu0 λj q1 q2=>qm I xs ys h2 k2 r1 r2 hu1 j (by simpa using q1) (by simpa using q2)
     simp only [Sv] at key
     rw [hl,U1] at ae
     have e3:(ys.length == ys.length)=true:=by simp
     rw [e3,Tz] at ae
     rw [e1,hl,ae] at key
     simpa [ku] using key
    ·have key:=SeqAt.RcAt.lists_lengths p1.isList p2.isList (A:=A) (by simp only [Sv];rw [e1,e2];simpa using hl) hu0
     have e3:jy xs ys=false:=by
      rw [← ae]
      have:(xs.length == ys.length)=false:=by simpa using hl
      rw [this,Ur]
     simpa [ku,e3] using key
theorem qm (I:Inv X pins σ H s):∀(xs ys:List Py) {vs us:List V} {is js:List Value} {A:Around},rX X.K H xs vs→rX X.K H ys us→Vals vs is→Vals us js→A.units + cZ xs < cLine→∀j (h1:j < is.length) (h2:j < js.length),SeqAt.EqAt A s is[j] js[j] (Cs xs ys j)
 | [],ys,vs,us,is,js,A,h,k,r,r',hu,j,h1,h2=>by
  cases h;cases r;exact absurd h1 (Uh _)
 | x :: xs,[],vs,us,is,js,A,h,k,r,r',hu,j,h1,h2=>by
  cases k;cases r';exact absurd h2 (Uh _)
 | x :: xs,y :: ys,vs,us,is,js,A,h,k,r,r',hu,j,h1,h2=>by
  obtain ⟨v,vs',rfl,a1,a2⟩:=h
  obtain ⟨v',us',rfl,b1,b2⟩:=k
  cases r with
  | cons q1 q2 =>
   cases r' with
   | cons z1 z2 =>
    have e:cZ (x :: xs)=max (dep x) (cZ xs):=by rw [cZ]
    rw [e] at hu
    cases j with
    | zero=>exact PF I x y a1 b1 q1 z1 (by omega)
    | succ j =>
     have:=qm I xs ys a2 b2 q2 z2 (A:=A) (by omega) j (by simpa using h1) (by simpa using h2)
     simpa [Cs] using this
end
theorem QJ (I:Inv X pins σ H s) (x y:Py) {v v':V} {u u':Value} {A:Around} (h:At X.K H x v) (k:At X.K H y v') (r:RelV v u) (r':RelV v' u') (hu:A.units + dep x < cLine):SeqAt.RcAt A s u u' (ku x y):=by
 have hu0:A.units < cLine:=by omega
 cases x with
 | non =>
  cases h;cases r
  cases y with
  | non=>cases k;cases r';exact SeqAt.RcAt.none_none
  | bl b=>cases k;cases r';exact SeqAt.RcAt.none_bool _
  | int b=>cases k;obtain ⟨t,rfl⟩:=r';exact SeqAt.RcAt.none_int _ _
  | str b=>cases k;obtain ⟨t,rfl⟩:=r';exact SeqAt.RcAt.none_str _ _
  | tup ys=>obtain ⟨b,us,rfl,k1,k2⟩:=k;cases r';obtain ⟨js,r2,p2,_⟩:=I.tuple k1;exact SeqAt.RcAt.none_tuple p2 hu0
  | lst ys=>obtain ⟨b,us,rfl,k1,k2⟩:=k;cases r';obtain ⟨js,r2,p2,_⟩:=I.list k1;exact SeqAt.RcAt.none_list p2.isList hu0
 | bl i =>
  cases h;cases r
  cases y with
  | non=>cases k;cases r';exact SeqAt.RcAt.bool_none _
  | bl b=>cases k;cases r';exact SeqAt.RcAt.bool_bool _ _
  | int b=>cases k;obtain ⟨t,rfl⟩:=r';exact SeqAt.RcAt.bool_int _ _ _
  | str b=>cases k;obtain ⟨t,rfl⟩:=r';exact SeqAt.RcAt.bool_str _ _ _
  | tup ys=>obtain ⟨b,us,rfl,k1,k2⟩:=k;cases r';obtain ⟨js,r2,p2,_⟩:=I.tuple k1;exact SeqAt.RcAt.bool_tuple _ p2 hu0
  | lst ys=>obtain ⟨b,us,rfl,k1,k2⟩:=k;cases r';obtain ⟨js,r2,p2,_⟩:=I.list k1;exact SeqAt.RcAt.bool_list _ p2.isList hu0
 | int i =>
  cases h;obtain ⟨t0,rfl⟩:=r
  cases y with
  | non=>cases k;cases r';exact SeqAt.RcAt.int_none _ _
  | bl b=>cases k;cases r';exact SeqAt.RcAt.int_bool _ _ _
  | int b=>cases k;obtain ⟨t,rfl⟩:=r';exact SeqAt.RcAt.int_int _ _ _ _
  | str b=>cases k;obtain ⟨t,rfl⟩:=r';exact SeqAt.RcAt.int_str _ _ _ _
  | tup ys=>obtain ⟨b,us,rfl,k1,k2⟩:=k;cases r';obtain ⟨js,r2,p2,_⟩:=I.tuple k1;exact SeqAt.RcAt.int_tuple _ _ p2 hu0
  | lst ys=>obtain ⟨b,us,rfl,k1,k2⟩:=k;cases r';obtain ⟨js,r2,p2,_⟩:=I.list k1;exact SeqAt.RcAt.int_list _ _ p2.isList hu0
 | str i =>
  cases h;obtain ⟨t0,rfl⟩:=r
  cases y with
  | non=>cases k;cases r';exact SeqAt.RcAt.str_none _ _
  | bl b=>cases k;cases r';exact SeqAt.RcAt.str_bool _ _ _
  | int b=>cases k;obtain ⟨t,rfl⟩:=r';exact SeqAt.RcAt.str_int _ _ _ _
  | str b=>cases k;obtain ⟨t,rfl⟩:=r';exact SeqAt.RcAt.str_str _ _ _ _
  | tup ys=>obtain ⟨b,us,rfl,k1,k2⟩:=k;cases r';obtain ⟨js,r2,p2,_⟩:=I.tuple k1;exact SeqAt.RcAt.str_tuple _ _ p2 hu0
  | lst ys=>obtain ⟨b,us,rfl,k1,k2⟩:=k;cases r';obtain ⟨js,r2,p2,_⟩:=I.list k1;exact SeqAt.RcAt.str_list _ _ p2.isList hu0
 | tup xs =>
  obtain ⟨a,vs,rfl,h1,h2⟩:=h
  cases r
  obtain ⟨is,r1,p1,_⟩:=I.tuple h1
  have hu1:A.in1.units + cZ xs < cLine:=by
   have e:dep (.tup xs)=cZ xs + 1:=by rw [dep]
   rw [e] at hu
   show A.units + 1 + cZ xs < cLine
   omega
  cases y with
  | non=>cases k;cases r';exact SeqAt.RcAt.tuple_none p1 hu0
  | bl b=>cases k;cases r';exact SeqAt.RcAt.tuple_bool _ p1 hu0
  | int b=>cases k;obtain ⟨t,rfl⟩:=r';exact SeqAt.RcAt.tuple_int _ _ p1 hu0
  | str b=>cases k;obtain ⟨t,rfl⟩:=r';exact SeqAt.RcAt.tuple_str _ _ p1 hu0
  | tup ys =>
   obtain ⟨b,us,rfl,k1,k2⟩:=k;cases r';obtain ⟨js,r2,p2,_⟩:=I.tuple k1
   have e1:is.length=xs.length:=by rw [← r1.length,h2.length]
   have e2:js.length=ys.length:=by rw [← r2.length,k2.length]
   have ae:=iE xs ys
   have key:=SeqAt.RcAt.tuples (e:=Cs xs ys) p1 p2 hu0 λj q1 q2=>qm I xs ys h2 k2 r1 r2 hu1 j (by simpa using q1) (by simpa using q2)
   simp only [Sv] at key
   rw [e1,e2,ae] at key
   simpa [ku] using key
  | lst ys=>obtain ⟨b,us,rfl,k1,k2⟩:=k;cases r';obtain ⟨js,r2,p2,_⟩:=I.list k1;exact SeqAt.RcAt.tuple_list p1 p2.isList hu0
 | lst xs =>
  obtain ⟨a,vs,rfl,h1,h2⟩:=h
  cases r
  obtain ⟨is,r1,p1,_⟩:=I.list h1
  have hu1:A.in1.units + cZ xs < cLine:=by
   have e:dep (.lst xs)=cZ xs + 1:=by rw [dep]
   rw [e] at hu
   show A.units + 1 + cZ xs < cLine
   omega
  cases y with
  | non=>cases k;cases r';exact SeqAt.RcAt.list_none p1.isList hu0
  | bl b=>cases k;cases r';exact SeqAt.RcAt.list_bool _ p1.isList hu0
  | int b=>cases k;obtain ⟨t,rfl⟩:=r';exact SeqAt.RcAt.list_int _ _ p1.isList hu0
  | str b=>cases k;obtain ⟨t,rfl⟩:=r';exact SeqAt.RcAt.list_str _ _ p1.isList hu0
  | tup ys=>obtain ⟨b,us,rfl,k1,k2⟩:=k;cases r';obtain ⟨js,r2,p2,_⟩:=I.tuple k1;exact SeqAt.RcAt.list_tuple p1.isList p2 hu0
  | lst ys =>
   obtain ⟨b,us,rfl,k1,k2⟩:=k;cases r';obtain ⟨js,r2,p2,_⟩:=I.list k1
   have e1:is.length=xs.length:=by rw [← r1.length,h2.length]
   have e2:js.length=ys.length:=by rw [← r2.length,k2.length]
   have ae:=iE xs ys
   by_cases hl:xs.length=ys.length
   ·have key:=SeqAt.RcAt.lists (e:=Cs xs ys) p1.isList p2.isList (by simp only [Sv];omega) hu0 λj q1 q2=>qm I xs ys h2 k2 r1 r2 hu1 j (by simpa using q1) (by simpa using q2)
    simp only [Sv] at key
    rw [hl,U1] at ae
    have e3:(ys.length == ys.length)=true:=by simp
    rw [e3,Tz] at ae
    rw [e1,hl,ae] at key
    simpa [ku] using key
   ·have key:=SeqAt.RcAt.lists_lengths p1.isList p2.isList (A:=A) (by simp only [Sv];rw [e1,e2];simpa using hl) hu0
    have e3:jy xs ys=false:=by
     rw [← ae]
     have:(xs.length == ys.length)=false:=by simpa using hl
     rw [this,Ur]
    simpa [ku,e3] using key
theorem OB (I:Inv X pins σ H s) (x y:Py) {v v':V} {u u':Value} {A:Around} (h:At X.K H x v) (k:At X.K H y v') (r:RelV v u) (r':RelV v' u') (hu:A.units + dep x < cLine):SeqAt.RcNeAt A s u u' (!ku x y):=by
 have hu0:A.units < cLine:=by omega
 cases x with
 | non =>
  cases h;cases r
  cases y with
  | non=>cases k;cases r';exact SeqAt.RcNeAt.none_none
  | bl b=>cases k;cases r';exact SeqAt.RcNeAt.none_bool _
  | int b=>cases k;obtain ⟨t,rfl⟩:=r';exact SeqAt.RcNeAt.none_int _ _
  | str b=>cases k;obtain ⟨t,rfl⟩:=r';exact SeqAt.RcNeAt.none_str _ _
  | tup ys=>obtain ⟨b,us,rfl,k1,k2⟩:=k;cases r';obtain ⟨js,r2,p2,_⟩:=I.tuple k1;exact SeqAt.RcNeAt.none_tuple p2 hu0
  | lst ys=>obtain ⟨b,us,rfl,k1,k2⟩:=k;cases r';obtain ⟨js,r2,p2,_⟩:=I.list k1;exact SeqAt.RcNeAt.none_list p2.isList hu0
 | bl i =>
  cases h;cases r
  cases y with
  | non=>cases k;cases r';exact SeqAt.RcNeAt.bool_none _
  | bl b=>cases k;cases r';exact SeqAt.RcNeAt.bool_bool _ _
  | int b=>cases k;obtain ⟨t,rfl⟩:=r';exact SeqAt.RcNeAt.bool_int _ _ _
  | str b=>cases k;obtain ⟨t,rfl⟩:=r';exact SeqAt.RcNeAt.bool_str _ _ _
  | tup ys=>obtain ⟨b,us,rfl,k1,k2⟩:=k;cases r';obtain ⟨js,r2,p2,_⟩:=I.tuple k1;exact SeqAt.RcNeAt.bool_tuple _ p2 hu0
  | lst ys=>obtain ⟨b,us,rfl,k1,k2⟩:=k;cases r';obtain ⟨js,r2,p2,_⟩:=I.list k1;exact SeqAt.RcNeAt.bool_list _ p2.isList hu0
 | int i =>
  cases h;obtain ⟨t0,rfl⟩:=r
  cases y with
  | non=>cases k;cases r';exact SeqAt.RcNeAt.int_none _ _
  | bl b=>cases k;cases r';exact SeqAt.RcNeAt.int_bool _ _ _
  | int b=>cases k;obtain ⟨t,rfl⟩:=r';exact SeqAt.RcNeAt.int_int _ _ _ _
  | str b=>cases k;obtain ⟨t,rfl⟩:=r';exact SeqAt.RcNeAt.int_str _ _ _ _
  | tup ys=>obtain ⟨b,us,rfl,k1,k2⟩:=k;cases r';obtain ⟨js,r2,p2,_⟩:=I.tuple k1;exact SeqAt.RcNeAt.int_tuple _ _ p2 hu0
  | lst ys=>obtain ⟨b,us,rfl,k1,k2⟩:=k;cases r';obtain ⟨js,r2,p2,_⟩:=I.list k1;exact SeqAt.RcNeAt.int_list _ _ p2.isList hu0
 | str i =>
  cases h;obtain ⟨t0,rfl⟩:=r
  cases y with
  | non=>cases k;cases r';exact SeqAt.RcNeAt.str_none _ _
  | bl b=>cases k;cases r';exact SeqAt.RcNeAt.str_bool _ _ _
  | int b=>cases k;obtain ⟨t,rfl⟩:=r';exact SeqAt.RcNeAt.str_int _ _ _ _
  | str b=>cases k;obtain ⟨t,rfl⟩:=r';exact SeqAt.RcNeAt.str_str _ _ _ _
  | tup ys=>obtain ⟨b,us,rfl,k1,k2⟩:=k;cases r';obtain ⟨js,r2,p2,_⟩:=I.tuple k1;exact SeqAt.RcNeAt.str_tuple _ _ p2 hu0
  | lst ys=>obtain ⟨b,us,rfl,k1,k2⟩:=k;cases r';obtain ⟨js,r2,p2,_⟩:=I.list k1;exact SeqAt.RcNeAt.str_list _ _ p2.isList hu0
 | tup xs =>
  obtain ⟨a,vs,rfl,h1,h2⟩:=h
  cases r
  obtain ⟨is,r1,p1,_⟩:=I.tuple h1
  have hu1:A.in1.units + cZ xs < cLine:=by
   have e:dep (.tup xs)=cZ xs + 1:=by rw [dep]
   rw [e] at hu
   show A.units + 1 + cZ xs < cLine
   omega
  cases y with
  | non=>cases k;cases r';exact SeqAt.RcNeAt.tuple_none p1 hu0
  | bl b=>cases k;cases r';exact SeqAt.RcNeAt.tuple_bool _ p1 hu0
  | int b=>cases k;obtain ⟨t,rfl⟩:=r';exact SeqAt.RcNeAt.tuple_int _ _ p1 hu0
  | str b=>cases k;obtain ⟨t,rfl⟩:=r';exact SeqAt.RcNeAt.tuple_str _ _ p1 hu0
  | tup ys =>
   obtain ⟨b,us,rfl,k1,k2⟩:=k;cases r';obtain ⟨js,r2,p2,_⟩:=I.tuple k1
   have e1:is.length=xs.length:=by rw [← r1.length,h2.length]
   have e2:js.length=ys.length:=by rw [← r2.length,k2.length]
   have ae:=iE xs ys
   have key:=SeqAt.RcNeAt.tuples (e:=Cs xs ys) p1 p2 hu0 λj q1 q2=>qm I xs ys h2 k2 r1 r2 hu1 j (by simpa using q1) (by simpa using q2)
   simp only [Sv] at key
   rw [e1,e2,ae] at key
   simpa [ku] using key
  | lst ys=>obtain ⟨b,us,rfl,k1,k2⟩:=k;cases r';obtain ⟨js,r2,p2,_⟩:=I.list k1;exact SeqAt.RcNeAt.tuple_list p1 p2.isList hu0
 | lst xs =>
  obtain ⟨a,vs,rfl,h1,h2⟩:=h
  cases r
  obtain ⟨is,r1,p1,_⟩:=I.list h1
  have hu1:A.in1.units + cZ xs < cLine:=by
   have e:dep (.lst xs)=cZ xs + 1:=by rw [dep]
   rw [e] at hu
   show A.units + 1 + cZ xs < cLine
   omega
  cases y with
  | non=>cases k;cases r';exact SeqAt.RcNeAt.list_none p1.isList hu0
  | bl b=>cases k;cases r';exact SeqAt.RcNeAt.list_bool _ p1.isList hu0
  | int b=>cases k;obtain ⟨t,rfl⟩:=r';exact SeqAt.RcNeAt.list_int _ _ p1.isList hu0
  | str b=>cases k;obtain ⟨t,rfl⟩:=r';exact SeqAt.RcNeAt.list_str _ _ p1.isList hu0
  | tup ys=>obtain ⟨b,us,rfl,k1,k2⟩:=k;cases r';obtain ⟨js,r2,p2,_⟩:=I.tuple k1;exact SeqAt.RcNeAt.list_tuple p1.isList p2 hu0
  | lst ys =>
   obtain ⟨b,us,rfl,k1,k2⟩:=k;cases r';obtain ⟨js,r2,p2,_⟩:=I.list k1
   have e1:is.length=xs.length:=by rw [← r1.length,h2.length]
   have e2:js.length=ys.length:=by rw [← r2.length,k2.length]
   have ae:=iE xs ys
   by_cases hl:xs.length=ys.length
   ·have key:=SeqAt.RcNeAt.lists (e:=Cs xs ys) p1.isList p2.isList (by simp only [Sv];omega) hu0 λj q1 q2=>qm I xs ys h2 k2 r1 r2 hu1 j (by simpa using q1) (by simpa using q2)
    simp only [Sv] at key
    rw [hl,U1] at ae
    have e3:(ys.length == ys.length)=true:=by simp
    rw [e3,Tz] at ae
    rw [e1,hl,ae] at key
    simpa [ku] using key
   ·have key:=SeqAt.RcNeAt.lists_lengths p1.isList p2.isList (A:=A) (by simp only [Sv];rw [e1,e2];simpa using hl) hu0
    have e3:jy xs ys=false:=by
     rw [← ae]
     have:(xs.length == ys.length)=false:=by simpa using hl
     rw [this,Ur]
    simpa [ku,e3] using key
def rP (K:PySem.W.Frag) (f:Bool→Bool):R2:=λv v' H Q=>∃x y:Py,At K H x v∧At K H y v'∧dep x≤60∧Q (.bl (f (ku x y))) H
theorem Ld (hu:X.A.units + 61 < cLine):eO X (compareOp .Eq) (rP X.K id):=by
 intro pins s σ H x y v u Q I rx ry h
 obtain ⟨a,b,h1,h2,d,q⟩:=h
 exact QJ I a b h1 h2 rx ry (by omega) X.prog X.w X.xe _ ⟨.bl _,H,I,rfl,q⟩
theorem Lg (hu:X.A.units + 61 < cLine):eO X (compareOp .NotEq) (rP X.K not):=by
 intro pins s σ H x y v u Q I rx ry h
 obtain ⟨a,b,h1,h2,d,q⟩:=h
 exact OB I a b h1 h2 rx ry (by omega) X.prog X.w X.xe _ ⟨.bl _,H,I,rfl,q⟩
end
end Ov
namespace Ov
open PySem PySem.Spec PySem.Calls PyProof.Rows PySem.W Builtin.Getset_descriptor
section
variable {prog:Program} {w:World} {A:Around} {E:Value→Shared→Prop} {s:Shared} {K:Frag} {x D:Addr}
structure GF (K:Frag) (D:Addr):Prop where
 cls:(clsIn K D).isSome=true
 ga:findIn K (.ref D) "__getattribute__"=some (some (.builtin "BaseException.__getattribute__"))
 gt:findIn K (.ref D) "__getattr__"=some none
 ca:findIn K (.ref D) "__class__"=some (some (.builtin "object.__class__"))
 get:specialIn K (.builtin "object.__class__") "__get__"=some (some (.builtin "getset_descriptor.__get__"))
 tk:takesIn K (.builtin "object.__class__")=some true
 obj:mroIn K D (.type "object")=some true
 bex:subIn K (.ref D) (.type "BaseException")=some true
theorem GF.at {h:Heap} (Z:GF K D) (X:K.In h):∃c d cd sl,h.get? D=some ⟨c,d,.cls cd,sl⟩:=by
 obtain ⟨cd,q⟩:=Ut.mp Z.cls
 unfold clsIn at q
 split at q
 ·exact ⟨_,_,_,_,X _ _ (by assumption)⟩
 ·cases q
end
end Ov
namespace Ov
open PySem PySem.Spec PyProof.Rows L2
structure Az (P:Program) (w:World) (outer:List Env) (H:Hp) (s:Shared) (ea:Addr) (cls:Value) (H':Hp) (s':Shared):Prop where
 os:s'.os=s.os
 bare:AllBare s'.gens
 un:Un (jk outer) [] H H' s.heap s'.heap
 hok:l9 P w H' s'.heap
 fl:∃B t,Heap.FlyingW B outer ea cls (.ref t) s'.heap∧∀b o,s'.heap.get? b=some o→(H' b≠none∨∃o₀,s.heap.get? b=some o₀)→b ∉ jk outer→B.get? b=some o
def cQ (P:Program) (w:World):rT:=λouter H s E e s'=>∃ea cls H',e=.ref ea∧Az P w outer H s ea cls H' s'∧E cls none H'
theorem Hl {P:Program} {w:World} {H:Hp} {h:Heap} {a:Addr} {o:HO} (x:cX P w H h a o):∃ob,h.get? a=Te ob:=by
 have lt:=x.lt
 cases o with
 | lst xs=>obtain ⟨_,_,_,_,e⟩:=x;exact ⟨_,e⟩
 | tup xs=>obtain ⟨_,_,_,ob,e,_⟩:=x;exact ⟨_,e⟩
 | dK kvs=>obtain ⟨_,_,_,_,o,_,_,e,_⟩:=x;exact ⟨_,e⟩
 | dE kvs ep=>obtain ⟨_,_,_,_,o,_,e,_⟩:=x;exact ⟨_,e⟩
 | set S n=>obtain ⟨o,_,_,_,e,_⟩:=x;exact ⟨_,e⟩
 | ins C dx fs=>obtain ⟨_,_,_,e,_⟩:=x;exact ⟨_,e⟩
 | own y=>exact x
 | xd fs=>obtain ⟨_,⟨_,_,_,e,_⟩,_⟩:=x;exact ⟨_,e⟩
 | MH lo hi=>obtain ⟨_,_,_,e⟩:=x;exact ⟨_,e⟩
 | qp ob u=>obtain ⟨e,_⟩:=x;exact ⟨_,e⟩
 | tbl ps=>exact ⟨_,x⟩
 | met f y=>exact ⟨_,x⟩
 | ext φ=>obtain ⟨_,e,_⟩:=x;exact e
section
variable {X:Cx} {pins:List (Addr × Obj)} {σ:L2.St} {H H':Hp} {s:Shared} {ea t:Addr} {cls:Value} {B h1 h2:Heap}
theorem jz (I:Inv X pins σ H s) (un:Un (jk X.stack) [] H H' s.heap h1) {b:Addr} (hb:b∈jk X.stack):H' b=none∧∃o,h1.get? b=some o∧∀vs,o.data≠.fields vs:=by
 obtain ⟨_,o,ho,hn⟩:=I.stack.mem hb
 have n:=I.wG b hb
 obtain ⟨sl,e⟩:=un.any ho n (by simp)
 exact ⟨un.free b o ho n (by simp),_,e,hn⟩
theorem A5 (I:Inv X pins σ H s) (un:Un (jk X.stack) [] H H' s.heap h1) (cov:∀b o,h1.get? b=some o→(H' b≠none∨∃o₀,s.heap.get? b=some o₀)→b ∉ jk X.stack→B.get? b=some o)
  (hB:B.StaysIn h2) (up:h1.UpToSlots h2):Un (jk X.stack) [] H H' s.heap h2 where
 keep:=λb o e n hb hx=>hB b o (cov b o (un.keep b o e n hb hx) (.inr ⟨o,e⟩) hb)
 slot:=λb o e n hb hx=>by
  obtain ⟨sl,e1⟩:=un.slot b o e n hb hx
  obtain ⟨_,o',e2,hn⟩:=jz I un hb
  rw [e1] at e2;cases e2
  obtain ⟨sl',e3⟩:=up b _ e1 hn
  exact ⟨sl',e3⟩
 free:=un.free
 there:=λb o e hx=>by
  obtain ⟨o',e1⟩:=un.there b o e hx
  by_cases hb:b∈jk X.stack
  ·obtain ⟨_,o2,e2,hn⟩:=jz I un hb
   obtain ⟨sl',e3⟩:=up b _ e2 hn
   exact ⟨_,e3⟩
  ·exact ⟨o',hB b o' (cov b o' e1 (.inr ⟨o,e⟩) hb)⟩
 tups:=un.tups
 frzs:=un.frzs
 tbls:=un.tbls
theorem A4 (I:Inv X pins σ H s) (un:Un (jk X.stack) [] H H' s.heap h1) (cov:∀b o,h1.get? b=some o→(H' b≠none∨∃o₀,s.heap.get? b=some o₀)→b ∉ jk X.stack→B.get? b=some o)
  (hB:B.StaysIn h2) (ok:l9 X.prog X.w H' h1):l9 X.prog X.w H' h2:=λa o e=>by
 have nf:∀b u,H' b=some u→b ∉ jk X.stack:=λb u q hb=>by
  have:=(jz I un hb).1
  rw [q] at this;cases this
 refine (ok a o e).rM (λb u hb q=>?_) (λ_ q=>q) λ_ _ q=>q
 rcases hb with rfl | hb
 ·exact hB _ _ (cov _ _ q (.inl (by rw [e];exact λz=>nomatch z)) (nf _ _ e))
 ·exact hB _ _ (cov _ _ q (.inl (by rw [hb];exact λz=>nomatch z)) (nf _ _ hb))
theorem DS (un:Un (jk X.stack) [] H H' s.heap h1) (ok:l9 X.prog X.w H' h1) (cov:∀b o,h1.get? b=some o→(H' b≠none∨∃o₀,s.heap.get? b=some o₀)→b ∉ jk X.stack→B.get? b=some o) (hB:B.StaysIn h2) :
  ∀b o,h2.get? b=some o→(H' b≠none∨∃o₀,s.heap.get? b=some o₀)→b ∉ jk X.stack→B.get? b=some o:=λb o e hb nb=>by
 have:∃o1,h1.get? b=some o1:=by
  rcases hb with z | ⟨o₀,z⟩
  ·cases q:H' b with
   | none=>exact absurd q z
   | some u=>exact Hl (ok b u q)
  ·exact un.there b o₀ z (by simp)
 obtain ⟨o1,e1⟩:=this
 have c:=cov b o1 e1 hb nb
 have:=hB b o1 c
 rw [e] at this;cases this
 exact c
theorem AW {s2:Shared} (I:Inv X pins σ H s) (hst:X.stack=X.env :: X.outer) (hfr:X.env.frame=some X.env.locals) (hex:X.ex=[]) (os:s2.os=s.os) (bare:AllBare s2.gens) (un:Un (jk X.stack) [] H H' s.heap s2.heap)
  (ok:l9 X.prog X.w H' s2.heap) (cov:∀b o,s2.heap.get? b=some o→(H' b≠none∨∃o₀,s.heap.get? b=some o₀)→b ∉ jk X.stack→B.get? b=some o) (fl:Heap.FlyingW B X.outer ea cls (.ref t) s2.heap) :
  Az X.prog X.w X.outer X.H₀ X.s₀ ea cls H' s2:=by
 have nst:∀b o,X.s₀.heap.get? b=some o→b ∉ X.fs→b ∉ jk X.stack:=λb o e nb hb=>by
  rcases SH.mp (I.oG b hb) with z | z
  ·have:=SK (Heap.lt_size e) I.ok.above
   rw [z] at this
   exact Tr _ this
  ·exact nb z
 have sub:∀b,b∈X.fs→b∈jk X.stack:=λb hb=>by rw [hst];unfold jk;rw [TV,hfr];exact SU _ hb
 have nx:∀b:Addr,b ∉ X.ex:=λb=>by rw [hex];simp
 refine ⟨os.trans I.os,bare,⟨λb o e n hb _=>?_,λb o e n hb _=>?_,λb o e n _=>?_,λb o e _=>?_,λb xs q=>un.tups b xs (I.base.tups b xs q),λb o xs q=>un.frzs b o xs (I.base.frzs b o xs q),λb ps q=>?_⟩,ok,B,t,fl,λb o e hb nb=>?_⟩
 ·exact un.keep b o (I.base.keep b o e n hb (nx b)) (I.base.free b o e n (nx b)) (nst b o e hb) (by simp)
 ·obtain ⟨sl,e1⟩:=I.base.slot b o e n hb (nx b)
  obtain ⟨sl',e2⟩:=un.slot b _ e1 (I.base.free b o e n (nx b)) (sub b hb) (by simp)
  exact ⟨sl',e2⟩
 ·obtain ⟨o',e1⟩:=I.base.there b o e (nx b)
  exact un.free b o' e1 (I.base.free b o e n (nx b)) (by simp)
 ·obtain ⟨o',e1⟩:=I.base.there b o e (nx b)
  exact un.there b o' e1 (by simp)
 ·obtain ⟨m1,e1⟩:=I.base.tbls b ps q
  obtain ⟨m2,e2⟩:=un.tbls b _ e1
  exact ⟨m1 ++ m2,by rw [e2,Array.append_assoc]⟩
 ·rcases hb with z | ⟨o₀,z⟩
  ·exact cov b o e (.inl z) λhb=>z (jz I un hb).1
  ·obtain ⟨o1,e1⟩:=I.base.there b o₀ z (nx b)
   exact cov b o e (.inr ⟨o1,e1⟩) (nst b o₀ z nb)
theorem CD {E:XK} {e:Value} {s':Shared} {R:Value→Shared→Prop} (I:Inv X pins σ H s) (hst:X.stack=X.env :: X.outer) (hfr:X.env.frame=some X.env.locals) (hex:X.ex=[]) (h:cQ X.prog X.w X.stack H s E e s') :
  wpAny (model X.prog X.w) X.A (leaving X.env e) (λ_ s''=>cQ X.prog X.w X.outer X.H₀ X.s₀ E e s'') R s':=by
 obtain ⟨ea,cls,H',rfl,F,q⟩:=h
 obtain ⟨B,t,fl,cov⟩:=F.fl
 refine wpAny_leaves_onW (by rw [I.ok.frames,hst]) hfr (hst ▸ fl) λh2 fl2 up=>?_
 exact ⟨ea,cls,H',rfl,AW (s2:={ s' with heap:=h2 }) I hst hfr hex F.os F.bare (A5 I F.un cov fl2.1 up) (A4 I F.un cov fl2.1 F.hok) (DS F.un F.hok cov fl2.1) fl2,q⟩
theorem leave_new {E:XK} {e C:Addr} {args:List Value} {h':Heap} {R:Value→Shared→Prop} (I:Inv X pins σ H s) (hst:X.stack=X.env :: X.outer) (hfr:X.env.frame=some X.env.locals) (hex:X.ex=[])
  (hx:Heap.MadeExcOf s.heap h' e (.ref C) args) (q:E (.ref C) none H) :
  wpAny (model X.prog X.w) X.A (leaving X.env (.ref e)) (λ_ s''=>cQ X.prog X.w X.outer X.H₀ X.s₀ E (.ref e) s'') R { s with heap:=h' }:=by
 have hin:∀env∈X.env :: X.outer,∀a,env.frame=some a→a∈jk X.stack:=λenv he a ha=>by rw [hst];exact Um.mpr ⟨env,he,ha⟩
 have cov:∀b o,s.heap.get? b=some o→(H b≠none∨∃o₀,s.heap.get? b=some o₀)→b ∉ jk X.stack→(PySem.W.hideAll s.heap (jk X.stack)).get? b=some o:=λb o e _ nb=>PySem.W.hideAll_get _ e nb
 refine wpAny_leaves_madeW (base:=PySem.W.hideAll s.heap (jk X.stack)) (by rw [I.ok.frames,hst]) hfr (λb o z=>PySem.W.of_hideAll _ z) (PySem.W.funFrames_hide (hst ▸ I.stack) hin) hx λh2 t fl _ _ up=>?_
 have up2:s.heap.UpToSlots h2:=(Heap.UpToSlots.of_keeps hx.keeps).trans up
 exact ⟨e,.ref C,H,rfl,AW (s2:={ s with heap:=h2 }) I hst hfr hex rfl I.bare (A5 I Un.refl cov fl.1 up2) (A4 I Un.refl cov fl.1 I.hok) (DS Un.refl I.hok cov fl.1) fl,q⟩
end
abbrev Pz:List Value:=[.type "ValueError",.type "Exception",.type "BaseException",.type "object"]
structure Own (K:PySem.W.Frag) (mg:Str→Option Value) (x:Str) (C:Addr):Prop where
 mg:mg x=some (.ref C)
 own:PySem.W.excIn K C Pz "ValueError.__new__"=true
 xc:GF K C
theorem HB {K:PySem.W.Frag} {h:Heap} {C:Addr} {bmB:List Value} {newId:String} (X:K.In h) (q:PySem.W.excIn K C bmB newId=true) :
  ∃bm N nm qn bs hd sn sub ab col dd k0 k1 k2 k3 k5 mN,h.get? C=some (excClassObj nm qn C N bs bm hd sn sub ab col dd k0 k1 k2 k3 k5 newId)∧h.Ns N mN∧mN "__init__"=none∧OwnTail h bmB bm:=by
 unfold PySem.W.excIn at q
 split at q
 ·next dd cd sl ho =>
  split at q
  ·next C' bm k0 k1 k2 k3 n k5 hm hs =>
   simp only [beq_iff_eq,SX,UY] at q
   obtain ⟨⟨⟨⟨⟨rfl,rfl⟩,e3⟩,e4⟩,e5⟩,e6⟩:=q
   cases cd with
   | mk nm bs mro ns qn hd sn sub ab col del =>
    have hm:mro=.ref C' :: bm:=hm
    have e3:del=false:=e3
    subst hm;subst e3
    have hsl:sl=#[k0,k1,k2,k3,some (.builtin n),k5]:=Array.toList_inj.mp hs
    subst hsl
    exact ⟨bm,ns,nm,qn,bs,hd,sn,sub,ab,col,dd,k0,k1,k2,k3,k5,_,X _ _ ho,.of_isNs (PySem.W.isNs_of_in X e5),PySem.W.nsMap_none_of_in X e5 e6,PySem.W.tail_of_in X e4⟩
  ·cases q
 ·cases q
def Md (C:Addr) (E:XK) (t:TA):TS:=λ_ σ H=>t σ H λvs H1=>vs.length≤sizeLine∧E (.ref C) none H1
def Throws (X:Cx) (E:XK):Prop:=∀(pins:List (Addr × Obj)) (σ:L2.St) (H:Hp) (s:Shared) (e C:Addr) (args:List Value) (h':Heap),Inv X pins σ H s→Heap.MadeExcOf s.heap h' e (.ref C) args→E (.ref C) none H→X.xe (.ref e) { s with heap:=h' }
theorem C9 {X:Cx} {E:XK} {x:Str} {C:Addr} {e:Expr} {es:List Expr} {np cpos pos:Pos} {t:TA} (O:Own X.K X.mg x C) (hc:X.calm=true) (hx:Throws X E) (hg:Gl X x) (ha:PA X (e :: es) t)
  (hd:(x == ("__debug__":Str))=false:=by decide) (he:starEach (e :: es) X.env=(false,eval e X.env) :: starEach es X.env:=by rfl) (hpl:(backTo cpos (starEach es X.env)).any (·.1)=false:=by rfl) :
  PS X (.Raise (some (.Call (.Name x np) (e :: es) [] cpos)) none pos) (Md C E t):=by
 intro pins s σ H D I h
 obtain ⟨bm,N,nm,qn,bs,hd',sn,sub,ab,col,dd,k0,k1,k2,k3,k5,mN,hC,hN,hni,T⟩:=HB I.mod.kin O.own
 have hplain:(backTo cpos (starEach (e :: es) X.env)).any (·.1)=false:=by
  rw [he]
  show (false || (backTo cpos (starEach es X.env)).any (·.1))=false
  rw [hpl];rfl
 refine wpAny_Raise_call_subT (C:=C) (N:=N) (nm:=nm) (q:=qn) (bs:=bs) (hdct:=hd') (sn:=sn) (sub:=sub) (ab:=ab) (col:=col) (dd:=dd) (k0:=k0) (k1:=k1) (k2:=k2) (k3:=k3) (k5:=k5) PySem.F.excBase_ValueError (T.hasType (by decide +kernel)) (I.ok.hd hc) hplain hni ?_
 refine mF I hg O.mg ⟨rfl,?_⟩ hd
 have key:=b9 (ha cpos pins s σ H _ I h) (Q':=λus s1=>us.length≤sizeLine∧s1.heap.get? C=some (excClassObj nm qn C N bs bm hd' sn sub ab col dd k0 k1 k2 k3 k5 "ValueError.__new__")∧s1.heap.Ns N mN∧OwnTail s1.heap Pz bm ∧
  ∀h' e,Heap.MadeExcOf s1.heap h' e (.ref C) us→X.xe (.ref e) { s1 with heap:=h' }) λus s1 ⟨vs,H1,I1,r,z,q⟩ =>
   ⟨by rw [← r.length];exact z,I1.bk _ _ hC,hN.keeps I1.bk,T.keeps I1.bk,λh' ea hm=>hx pins σ H1 s1 ea C us h' I1 hm q⟩
 rw [he] at key ⊢
 exact PySem.Calls.evalArgs_plain (b9 key λ_ _ z=>⟨rfl,z⟩)
section
variable {P:Program} {w:World} {K:PySem.W.Frag} {mg:Str→Option Value} {base:Heap} {N:List Str} {qual:Str} {scope:Scope} {f:Addr} {cd:Value} {A:Around} {outer:List Env} {s:Shared} {H:Hp} {E:XK}
abbrev yI (P:Program) (w:World) (K:PySem.W.Frag) (mg:Str→Option Value) (base:Heap) (N:List Str) (qual:Str) (scope:Scope) (f:Addr) (cd:Value) (A:Around) (outer:List Env) (s:Shared) (H:Hp) (E:XK):Cx:=uM (cQ P w) P w K mg base N qual scope f cd A outer s H E
theorem cu:Throws (yI P w K mg base N qual scope f cd A outer s H E) E:=λpins σ H1 s1 e C args h' I hm q =>
 leave_new (X:=yI P w K mg base N qual scope f cd A outer s H E) I rfl rfl rfl hm q
theorem zd:Passes (cQ P w) (yI P w K mg base N qual scope f cd A outer s H E) E:=λpins σ H1 s1 e s' I h =>
 CD (X:=yI P w K mg base N qual scope f cd A outer s H E) I rfl rfl rfl h
theorem cG:PassesOwn (model P w) (yI P w K mg base N qual scope f cd A outer s H E).A (yI P w K mg base N qual scope f cd A outer s H E).env (yI P w K mg base N qual scope f cd A outer s H E).xe:=PassesOwn.leaving
theorem Sh {x qual:Str} {st:Stmt} {f:Addr} {fd:FuncData} {N ps:List Str} {k:Nat} {sp:Sp} (F:b7 K x qual st f fd) (S:av N ps (ai st)) (len:∀vs H Q E,sp vs H Q E→vs.length=ps.length)
  (hbody:∀(cdv:Value) (A:Around) (outer:List Env) (s:Shared) (H:Hp) (vs:List V) (Q:VK) (E:XK),bI k (A.deeper (envOfC qual (ai st) s.heap.objs.size f cdv))→sp vs H Q E →
   ∃t,QB (yI P w K mg base N qual (ai st) f cdv A outer s H E) (bK st) t∧t { nx:=λ_ H'=>Q .non H',rt:=Q } (start N vs) H):aH P w K mg base (cQ P w) (k + 1) f fd ps sp:=by
 obtain ⟨oc,od,kV,doc,pm,an,cdv,ct,osl,rfl,lk,hcd⟩:=F.ex
 refine D8 lk hcd S len λA outer s H vs Q E hr hsp=>?_
 obtain ⟨t,h,q⟩:=hbody cdv A outer s H vs Q E hr hsp
 exact ⟨t,h.run,q⟩
end
def Dw (P:Program) (w:World) (K:PySem.W.Frag) (mg:Str→Option Value) (base:Heap) (k:Nat) (x:Str) (ps:List Str) (sp:Sp):Prop :=
 ∃f fd,aH P w K mg base (cQ P w) k f fd ps sp∧Binds K fd ps []∧PySem.W.keepIn K (.ref f)=true∧mg x=some (.ref f)
theorem HC {X:Cx} {k k':Nat} {x:Str} {ps:List Str} {sp:Sp} {p pos:Pos} {e:Expr} {es:List Expr} {t:TA} {E:XK} (C:Dw X.prog X.w X.K X.mg X.base k x ps sp) (hx:Passes (cQ X.prog X.w) X E) (hr:bI k' X.A) (hk:k≤k') (hg:Gl X x) (ha:PA X (e :: es) t)
  (hdb:(x == ("__debug__":Str))=false:=by decide) (he:starEach (e :: es) X.env=(false,eval e X.env) :: starEach es X.env:=by rfl) (hpl:(backTo pos (starEach es X.env)).any (·.1)=false:=by rfl) :
  PE X (.Call (.Name x p) (e :: es) [] pos) (rQ sp [] E t):=by
 obtain ⟨f,fd,F,b,kp,m⟩:=C
 exact Bl F (hr.mono hk) hg m kp b .nil hx ha hdb he hpl
theorem Def.PC {P:Program} {w:World} {K:PySem.W.Frag} {mg:Str→Option Value} {base:Heap} {x:Str} {st:Stmt} {k:Nat} {ps:List Str} {sp:Sp} (D:Def K mg x st)
  (h:∀f fd,b7 K x x st f fd→aH P w K mg base (cQ P w) k f fd ps sp)
  (hb:∀(kV doc pm:Value) (an:Option Addr) (cdv ct:Value) (us:List Value),us.length=ps.length→bindArgs (PySem.W.fnOf x x (cU st) (bK st) (ai st) .none kV doc pm an cdv ct) ⟨us,[]⟩=pure (ps.zip us)) :
  Dw P w K mg base k x ps sp:=by
 obtain ⟨f,fd,F,m⟩:=D
 exact ⟨f,fd,h f fd F,F.binds hb,F.kp,m⟩
section
variable {X:Cx} {pins pn:List (Addr × Obj)} {σ:L2.St} {H H':Hp} {s:Shared}
theorem Az.new {ea:Addr} {cls:Value} {s':Shared} (I:Inv X pins σ H s) (F:Az X.prog X.w X.stack H s ea cls H' s'):H' ea=none∧s.heap.get? ea=none:=by
 obtain ⟨B,t,fl,cov⟩:=F.fl
 obtain ⟨oe,vs,he,_,hd,_⟩:=fl.first
 have nf:ea ∉ jk X.stack:=λhb=>by
  obtain ⟨_,o,ho,hn⟩:=jz I F.un hb
  rw [he] at ho;cases ho
  exact hn vs hd
 have no:¬ (H' ea≠none∨∃o₀,s.heap.get? ea=some o₀):=λz=>by
  have:=cov ea oe he z nf
  rw [fl.2.1] at this;cases this
 refine ⟨?_,?_⟩
 ·cases q:H' ea with
  | none=>rfl
  | some u=>exact absurd (.inl (by rw [q];exact λz=>nomatch z)) no
 ·cases q:s.heap.get? ea with
  | none=>rfl
  | some u=>exact absurd (.inr ⟨u,q⟩) no
end
end Ov
namespace Ov
open PySem PySem.Spec PyProof.Rows
open L2 (V HO Hp Inv Cx St VK TE TT TA TS Ends Loc Gl RelV Vals eO bT rQ upd E0 bI XK Passes)
section
variable {X:Cx} {e:Expr} {es:List Expr} {t:TA} {x:Str} {np cpos pos p:Pos}
end
open PySem.W in
def Ga (K:Frag) (D:Addr):Bool:=(clsIn K D).isSome && findIn K (.ref D) "__getattribute__" == some (some (.builtin "BaseException.__getattribute__")) && findIn K (.ref D) "__getattr__" == some none &&
 findIn K (.ref D) "__class__" == some (some (.builtin "object.__class__")) && specialIn K (.builtin "object.__class__") "__get__" == some (some (.builtin "getset_descriptor.__get__")) && takesIn K (.builtin "object.__class__") == some true &&
 mroIn K D (.type "object") == some true && subIn K (.ref D) (.type "BaseException") == some true
theorem II {K:PySem.W.Frag} {D:Addr} (h:Ga K D=true):GF K D:=by
 simp only [Ga,SX,beq_iff_eq] at h
 obtain ⟨⟨⟨⟨⟨⟨⟨a,b⟩,c⟩,d⟩,e⟩,f⟩,g⟩,i⟩:=h
 exact ⟨a,b,c,d,e,f,g,i⟩
open L2 (Ap F2 yE Ar Df tC JL qr)
theorem _root_.L2.bI.aY {k:Nat} {A:Around} (r:bI k A):A.units + 61 < cLine:=by have:=r.un;omega
end Ov
namespace Ov
open PySem PySem.Spec PyProof.Rows L2
def dU (P:Addr) (h:Heap):Prop:=∃ps:Array Value,h.get? P=some { cls:=.none,data:=.fields ps }∧TriplesOk ps.toList
def tJ (K:PySem.W.Frag) (c P:Addr):Prop:=c≠P∧∃(o:Obj) (vs:Array Value) (file:Str) (tf:Tok) (flags:Int) (tg:Tok) (inF:Bool) (text:Int) (tt:Tok),
 K.lookup c=some o∧o.cls=.type "code"∧o.data=.fields vs∧vs[11]?=some (.ref P)∧vs.getD 18 .none=.str file tf∧vs.getD 7 .none=.int flags tg∧vs.getD 9 .none=.bool inF∧vs.getD 10 .none=.int text tt
def BMain (mg:Str→Option Value) (h:Heap):Prop:=∃bm ob,mg "__builtins__"=some (.ref bm)∧bm≠builtinsNs∧h.get? bm=some ob∧ob.cls=.type "module"∧ob.dict=some builtinsNs∧ob.data=.plain
theorem tJ.at {K:PySem.W.Frag} {h:Heap} {c P:Addr} {ps:Array Value} (Z:tJ K c P) (X:K.In h) (hp:h.get? P=some { cls:=.none,data:=.fields ps }) (tr:TriplesOk ps.toList):h.IsCode c P ps∧h.TableAt c P ps:=by
 obtain ⟨ne,o,vs,file,tf,flags,tg,inF,text,tt,lk,hc,hd,h11,h18,h7,h9,h10⟩:=Z
 have e11:vs.getD 11 .none=.ref P:=by
  rw [Array.getD_eq_getD_getElem?,h11];rfl
 exact ⟨⟨o,vs,file,tf,flags,tg,inF,text,tt,_,X _ _ lk,hd,e11,h18,h7,h9,h10,hp,rfl,tr,ne⟩,⟨o,vs,X _ _ lk,hc,hd,h11⟩,hp⟩
section
variable {X:Cx} {pins:List (Addr × Obj)} {σ:L2.St} {H:Hp} {s:Shared} {c P:Addr}
theorem G3 {s':Shared} (I:Inv X pins σ H s) (hP:H P=some (.ext (dU P))) (os:s'.os=s.os) (bare:AllBare s'.gens) (k:∀b o,b≠P→s.heap.get? b=some o→s'.heap.get? b=some o) (t:dU P s'.heap):Inv X pins σ H s':=by
 have nP:∀b,H b=none→b≠P:=λb n z=>by rw [z,hP] at n;cases n
 have hok:l9 X.prog X.w H s'.heap:=λb u e=>by
  by_cases hb:b=P
  ·subst hb
   rw [hP] at e;cases e
   obtain ⟨ps,hp,_⟩:=id t
   exact ⟨t,⟨_,hp⟩,((I.hok b _ hP)).2.2⟩
  ·refine (I.hok b u e).rM (λd v hd q=>k d v ?_ q) (λ_ q=>q) λ_ _ q=>q
   rcases hd with rfl | hd
   ·exact hb
   ·intro z
    rw [z,hP] at hd;cases hd
 have un:Un (jk X.stack) [] H H s.heap s'.heap:=⟨λb o e n _ _=>k b o (nP b n) e,λb o e n _ _=>⟨o.slots,k b o (nP b n) e⟩,λ_ _ _ n _=>n,λb o e _=>by
  by_cases hb:b=P
  ·subst hb
   obtain ⟨ps,hp,_⟩:=t
   exact ⟨_,hp⟩
  ·exact ⟨o,k b o hb e⟩,λ_ _ q=>q,λ_ _ _ q=>q,λ_ ps q=>⟨#[],by rw [q];simp⟩⟩
 exact I.M1 os un hok bare λb z=>absurd z (by simp)
theorem Ec {M:Model} {A:Around} {E:Value→Shared→Prop} {env:Env} {pos:Pos} {q:Str} {sc:Scope} {Q:Value→Shared→Prop} {s:Shared} (hc:env.code=.ref c) (Z:tJ X.K c P) (kin:X.K.In s.heap) (t:dU P s.heap)
  (h:∀code h' tk,(∀b o,b≠P→s.heap.get? b=some o→h'.get? b=some o)→s.heap.objs.size≤h'.objs.size→dU P h'→Q code { s with heap:=h',toks:=tk }):wpAny M A (genexprCode env pos q sc) Q E s:=by
 obtain ⟨ps,hp,tr⟩:=t
 obtain ⟨ic,ta⟩:=Z.at kin hp tr
 cases hf:codeAmong pos ps.toList with
 | some c'=>exact wpAny_genexprCode_hit hc ic hf (h c' s.heap s.toks (λ_ _ _ e=>e) (Ss _) ⟨ps,hp,tr⟩)
 | none =>
  refine wpAny_genexprCodeX hc ic ta hf λc' h' tk ext l1 l2 ic' _ ta' _=>h _ h' tk (λb o nb e=>ext b o nb e) (Ul (Th l1 l2)) ⟨_,ta'.2,?_⟩
  obtain ⟨_,_,_,_,_,_,_,_,_,_,_,_,_,_,_,_,_,hop,hpd,tr',_⟩:=ic'
  exact tr'
theorem DL {α:Type} (B:List α) (q:α→Bool):((TJ B.length).all λj=>(B[j]?).elim true q)=B.all q:=by
 rw [Tw,Ub,Ub]
 refine ⟨λh b hb=>?_,λh j hj=>?_⟩
 ·obtain ⟨j,hj,rfl⟩:=S6 hb
  have:=h j (T9.mpr hj)
  rwa [So hj] at this
 ·have hj:=T9.mp hj
  rw [So hj]
  exact h _ (Td hj)
def dO (tx:Str) (ch:Nat):Bool:=!(Builtin.Str.occurrences tx ⟨#[ch]⟩ 0 tx.length 1).isEmpty
def FZ (P:Addr) (tx:Str) (ti:TE):TE:=λσ H Q=>ti σ H λv H1=>∃y:Str,v=.str y∧H1 P=some (.ext (dU P))∧Q (.bl (y.cps.toList.all (dO tx))) H1
theorem Ft {prog:Program} {w:World} {env:Env} {scope:Scope} {x g:Str} {tx y:Str} {tt:Tok} {C:Addr} {code:Value} {fp wr:List Addr} {href:Heap} {D U:Nat} {p1 p2 p3:Pos} {mg:Str→Option Value} (sck:scope.kind=.function) (hx:scope.names.lookup x=some .local) (hg:scope.names.lookup g=some .globalImplicit)
  (ns:href.Ns env.globals mg) (hm:mg g=some (.str tx tt)) (h1:env.globals∈fp) (h2:env.globals ∉ wr) (hmk:behindInMarks .In (.Name g p2)=false) (hdx:(x == ("__debug__":Str))=false) (hdg:(g == ("__debug__":Str))=false) :
  QuietGenD prog w (genEnv scope [] C code builtinsNs env) x [] (.Compare (.Name x p1) [.In] [.Name g p2] p3) fp wr (SignAt y) (λ_=>true) (λi v=>∃ch,y.cps[i]?=some ch∧v=.bool (dO tx ch)) href D U where
 tests:=λA' E' i v s₂ m₂ _ _ _ _ _ _ _=>wpAny_pure ⟨rfl,_,_,rfl,λ_ _ e=>e⟩
 elt:=λA' E' i v s₂ m₂ _ _ _ hP _ hn hmx hk=>by
  obtain ⟨ch,u,hch,rfl⟩:=hP
  refine wpAny_Compare1 (wpAny_Name (wpAny_loadName_local (show (genEnv scope [] C code builtinsNs env).scope.kind=.function from sck) (show (genEnv scope [] C code builtinsNs env).kindOf x=some .local from hx) hn hmx ?_) hdx) hmk
  refine Calls.Name_function_global (show (genEnv scope [] C code builtinsNs env).scope.kind=.function from sck) (show (genEnv scope [] C code builtinsNs env).kindOf g=some .globalImplicit from hg) (Calls.loadGlobal_global (ns.at' λo e=>hk _ h1 h2 o e) hm ?_) hdg
  exact in_str ⟨⟨ch,hch,rfl⟩,_,_,rfl,λ_ _ e=>e⟩
theorem C6 {x g:Str} {p px p1 p2 p3 gpos cpos:Pos} {iter:Expr} {ti:TE} {scope:Scope} {tx:Str} {tt:Tok} (hcalm:X.calm=true) (Bm:BMain X.mg X.base) (hcode:X.env.code=.ref c) (Z:tJ X.K c P) (hdep:X.A.depth < recursionLimit)
  (hgl:Gl X "all") (hma:X.mg "all"=none) (hsg:X.mg g=some (.str tx tt)) (hi:PE X iter ti) (sck:scope.kind=.function) (hco:scope.isCoroutine=false) (hclos:closureFor scope X.env=pure []) (hcell:∀y∈scope.names,y.2≠.cell)
  (h0:scope.names.lookup (".0":Str)=some NameKind.local) (hx:scope.names.lookup x=some .local) (hsc:scope.names.lookup g=some .globalImplicit) (hmk:behindInMarks .In (.Name g p2)=false) (hs:∀x,genFold iter X.env x=pure x)
  (hst:starEach [.GeneratorExp (.Compare (.Name x p1) [.In] [.Name g p2] p3) [⟨.Name x px,iter,[],0⟩] scope gpos] X.env=[(false,eval (.GeneratorExp (.Compare (.Name x p1) [.In] [.Name g p2] p3) [⟨.Name x px,iter,[],0⟩] scope gpos) X.env)])
  (hdx:(x == ("__debug__":Str))=false) (hdg:(g == ("__debug__":Str))=false) :
  PE X (.Call (.Name "all" p) [.GeneratorExp (.Compare (.Name x p1) [.In] [.Name g p2] p3) [⟨.Name x px,iter,[],0⟩] scope gpos] [] cpos) (FZ P tx ti):=by
 intro pins s σ H Q I h
 refine wpAny_Call_Name_kw (lI I hgl hma PyProof.Rows.Boot.«all» ?_)
 refine PyProof.Rows.callWith_builtin1 ?_ hst rfl
 rw [hst]
 show wpAny _ _ (spliced ((false,eval (.GeneratorExp (.Compare (.Name x p1) [.In] [.Name g p2] p3) [⟨.Name x px,iter,[],0⟩] scope gpos) X.env) :: [])) _ _ s
 refine Calls.spliced_cons ?_
 refine wpAny_GeneratorExp_walksQD (I.ok.hd hcalm) hco hclos hcell h0 hx sck hdep ?_ hs
 refine b9 (hi pins s σ H _ I h) λxv s1 ⟨v,H1,I1,r1,y,ev,hP,q⟩=>?_
 subst ev
 obtain ⟨ty,rfl⟩:=r1
 have t1:dU P s1.heap:=(I1.hok P _ hP).1
 have ltP:P < s1.heap.objs.size:=I1.hok.lt hP
 refine wpAny_pyIter_str λo St W st0=>?_
 have k1:∀b ob,s1.heap.get? b=some ob→(s1.heap.push o).get? b=some ob:=λb ob e=>Heap.get?_push_of_some _ e
 refine ⟨I1.nolimit.keeps k1,?_⟩
 have t2:dU P (s1.heap.push o):=let ⟨ps,hp,tr⟩:=t1;⟨ps,k1 _ _ hp,tr⟩
 refine Ec (X:=X) (s:={ s1 with heap:=s1.heap.push o }) hcode Z (I1.mE.keeps k1) t2 λcode h' tk k sz t'=>?_
 have kk:∀b ob,b≠P→s1.heap.get? b=some ob→h'.get? b=some ob:=λb ob nb e=>k b ob nb (k1 b ob e)
 have nsP:∀(b:Addr) (m:Str→Option Value),s1.heap.Ns b m→b≠P:=λb m hn z=>by
  obtain ⟨ob,es,ep,ho,hd,_⟩:=hn
  obtain ⟨ps,hp,_⟩:=t1
  rw [z,hp] at ho;cases ho;cases hd
 have nsK:∀(b:Addr) (m:Str→Option Value),s1.heap.Ns b m→h'.Ns b m:=λb m hn=>hn.at' λob e=>kk b ob (nsP b m hn) e
 have nsG:s1.heap.Ns X.env.globals X.mg:=by rw [I1.ok.glob];exact I1.mod.glob.keeps I1.bk
 have nl:h'.NoLimit:=let ⟨mc,h1,h2⟩:=I1.nolimit;⟨mc,nsK _ _ h1,h2⟩
 have ltC:cStatics < s1.heap.objs.size:=let ⟨mc,h1,_⟩:=I1.nolimit;h1.lt
 have szI:s1.heap.objs.size < h'.objs.size:=SK (by rw [Heap.size_push];exact TU _) sz
 obtain ⟨bm,ob,b1,b2,b3,b4,b5,b6⟩:=Bm
 have b3':=I1.bk _ _ b3
 have nbm:bm≠P:=λz=>by
  obtain ⟨ps,hp,_⟩:=t1
  rw [z,hp] at b3'
  rw [← Option.some.inj b3'] at b6;cases b6
 refine wpAny_builtinsFor (nsK _ _ nsG) b1 b2 (kk _ _ nbm b3') b4 b5 b6 ?_
 refine ⟨s1.heap.objs.size,[s1.heap.objs.size],[s1.heap.objs.size],y.cps.size,SignAt y,St,λ_=>true,λi v=>∃ch,y.cps[i]?=some ch∧v=.bool (dO tx ch),rfl,W,
  (W X.A (I.ok.hd hcalm)).frame _ _ _ st0 λb hb o' e=>k b o' (by rw [SG.mp hb];exact UG ltP) e,λb hb=>by rw [SG.mp hb];exact szI,nl,
  λhb=>SO ltC (SG.mp hb),λhref kh=>Ft sck hx hsc ((nsK _ _ nsG).keeps kh) hsg (T9.mpr (nsK _ _ nsG).lt) (λhb=>SO nsG.lt (SG.mp hb)) hmk hdx hdg,λa h5 tk5 gs hgs ltA szA k5 WS G=>?_⟩
 refine Calls.spliced_nil ?_
 have pall:passing (λ_=>true) y.cps.size 0=TJ y.cps.size:=by simp [passing]
 have WS:=WS.in4_1
 refine call_all_walkS (WS.self 0 _ _ _ G ⟨a,_,_,_,_,_,_,(λj=>(y.cps.toList[j]?).elim true (dO tx)),rfl,WS,G,λj v s Q E hv hQ=>?_,λs' hm=>?_⟩)
 ·obtain ⟨i,hi,ch,hch,rfl⟩:=hv
  rw [pall] at hi
  have hji:i=j:=by
   obtain ⟨hj,e⟩:=Sq.mp hi
   simpa using e.symm
  subst hji
  have e:y.cps.toList[i]?=some ch:=by simpa using hch
  simp only [e,Option.elim] at hQ
  exact wpAny_truthy_bool hQ
 ·have nwr:∀b,b < s1.heap.objs.size→b ∉ h'.objs.size :: [s1.heap.objs.size]:=λb hb hm=>by
   rcases SH.mp hm with z | z
   ·omega
   ·have:=SG.mp z
    omega
  refine ⟨.bl _,H1,G3 I1 hP hm.os ((I1.bare.push hgs).movedS hm) (λb o' nb e=>hm.heap b o' (nwr b (Heap.lt_size e)) (k5 b o' (kk b o' nb e))) ?_,rfl,?_⟩
  ·obtain ⟨ps,hp,tr⟩:=t'
   exact ⟨ps,hm.heap P _ (nwr P ltP) (k5 P _ hp),tr⟩
  ·rw [pall]
   have e:y.cps.size=y.cps.toList.length:=by simp
   have z:=DL y.cps.toList (dO tx)
   rw [Uv,e,z]
   exact q
end
section
variable {X:Cx} {c P:Addr}
theorem E_ {x g:Str} {p px p1 p2 p3 gpos cpos:Pos} {iter:Expr} {ti:TE} {scope:Scope} {tx:Str} {tt:Tok} {k:Nat} (hcalm:X.calm=true) (Bm:BMain X.mg X.base) (hcode:X.env.code=.ref c) (Z:tJ X.K c P) (hr:bI k X.A)
  (hgl:Gl X "all") (hma:X.mg "all"=none) (hsg:X.mg g=some (.str tx tt)) (hi:QE X iter ti) (sck:scope.kind=.function:=by rfl) (hco:scope.isCoroutine=false:=by rfl) (hclos:closureFor scope X.env=pure []:=by rfl) (hcell:∀y∈scope.names,y.2≠.cell:=by decide)
  (h0:scope.names.lookup (".0":Str)=some NameKind.local:=by rfl) (hx:scope.names.lookup x=some .local:=by rfl) (hsc:scope.names.lookup g=some .globalImplicit:=by rfl) (hmk:behindInMarks .In (.Name g p2)=false:=by with_unfolding_all rfl) (hs:∀x,genFold iter X.env x=pure x:=by intro _;rfl)
  (hst:starEach [.GeneratorExp (.Compare (.Name x p1) [.In] [.Name g p2] p3) [⟨.Name x px,iter,[],0⟩] scope gpos] X.env=[(false,eval (.GeneratorExp (.Compare (.Name x p1) [.In] [.Name g p2] p3) [⟨.Name x px,iter,[],0⟩] scope gpos) X.env)]:=by rfl)
  (hdx:(x == ("__debug__":Str))=false:=by decide) (hdg:(g == ("__debug__":Str))=false:=by decide) :
  QE X (.Call (.Name "all" p) [.GeneratorExp (.Compare (.Name x p1) [.In] [.Name g p2] p3) [⟨.Name x px,iter,[],0⟩] scope gpos] [] cpos) (FZ P tx ti) :=
 ⟨C6 hcalm Bm hcode Z (by have:=hr.dp;omega) hgl hma hsg hi.run sck hco hclos hcell h0 hx hsc hmk hs hst hdx hdg⟩
end
structure Gv (K:PySem.W.Frag) (mg:Str→Option Value) (x:Str) (st:Stmt) (P:Addr) (f:Addr) (fd:FuncData) (c:Addr):Prop where
 fn:b7 K x x st f fd
 mg:mg x=some (.ref f)
 code:fd.code=.ref c
 tab:tJ K c P
 out:K.lookup P=none
def yT (K:PySem.W.Frag) (mg:Str→Option Value) (x:Str) (st:Stmt) (P:Addr):Prop:=∃f fd c,Gv K mg x st P f fd c
section
variable {P:Program} {w:World} {K:PySem.W.Frag} {mg:Str→Option Value} {base:Heap}
theorem Sf {x:Str} {st:Stmt} {T f c:Addr} {fd:FuncData} {N ps:List Str} {k:Nat} {sp:Sp} (F:Gv K mg x st T f fd c) (S:av N ps (ai st)) (len:∀vs H Q E,sp vs H Q E→vs.length=ps.length)
  (hbody:∀(A:Around) (outer:List Env) (s:Shared) (H:Hp) (vs:List V) (Q:VK) (E:XK),bI k (A.deeper (envOfC x (ai st) s.heap.objs.size f (.ref c)))→sp vs H Q E →
   ∃t,QB (uM pZ P w K mg base N x (ai st) f (.ref c) A outer s H E).K2 (bK st) t∧t { nx:=λ_ H'=>Q .non H',rt:=Q } (start N vs) H):aH P w K mg base pZ (k + 1) f fd ps sp:=by
 obtain ⟨oc,od,kV,doc,pm,an,cdv,ct,osl,rfl,lk,hcd⟩:=F.fn.ex
 obtain rfl:cdv=.ref c:=F.code
 refine D8 lk hcd S len λA outer s H vs Q E hr hsp=>?_
 obtain ⟨t,h,q⟩:=hbody A outer s H vs Q E hr hsp
 exact ⟨t,h.run.K2,q⟩
theorem yT.DR {x:Str} {st:Stmt} {T:Addr} {k:Nat} {ps:List Str} {sp:Sp} (D:yT K mg x st T)
  (h:∀f fd c,Gv K mg x st T f fd c→aH P w K mg base pZ k f fd ps sp)
  (hb:∀(kV doc pm:Value) (an:Option Addr) (cdv ct:Value) (us:List Value),us.length=ps.length→bindArgs (PySem.W.fnOf x x (cU st) (bK st) (ai st) .none kV doc pm an cdv ct) ⟨us,[]⟩=pure (ps.zip us)) :
  rV P w K mg base k x ps sp:=by
 obtain ⟨f,fd,c,F⟩:=D
 exact ⟨f,fd,h f fd c F,F.fn.binds hb,F.fn.kp,F.mg⟩
end
def codeB (vs:Array Value):Bool:=(match vs.getD 18 .none with | .str _ _=>true | _=>false) && (match vs.getD 7 .none with | .int _ _=>true | _=>false) && (match vs.getD 9 .none with | .bool _=>true | _=>false) && (match vs.getD 10 .none with | .int _ _=>true | _=>false)
theorem GL {K:PySem.W.Frag} {h:Heap} {mg:Str→Option Value} {x:Str} {st:Stmt} (X:K.In h) (G:h.Ns mainGlobals mg) {f c T:Addr} {od an od':Option Addr} {sl sl':Array (Option Value)} {vs:Array Value} {oc kV dc pm ct:Value}
  (a:PySem.W.nsIn K mainGlobals x=some (some (.ref f))) (l:K.lookup f=some ⟨oc,od,.func (PySem.W.fnOf x x (cU st) (bK st) (ai st) .none kV dc pm an (.ref c) ct),sl⟩) (cc:PySem.W.codeIn K (.ref c) x=true) (k:PySem.W.keepIn K (.ref f)=true)
  (t:K.lookup c=some ⟨.type "code",od',.fields vs,sl'⟩) (p:vs[11]?=some (.ref T)) (b:codeB vs=true) (ne:c≠T) (out:K.lookup T=none):yT K mg x st T:=by
 refine ⟨f,_,c,zh l cc k,PySem.W.mg_of X G a,rfl,⟨ne,?_⟩,out⟩
 simp only [codeB,SX] at b
 obtain ⟨⟨⟨b1,b2⟩,b3⟩,b4⟩:=b
 cases e1:vs.getD 18 .none with
 | str file tf =>
  cases e2:vs.getD 7 .none with
  | int fl tg =>
   cases e3:vs.getD 9 .none with
   | bool inF =>
    cases e4:vs.getD 10 .none with
    | int text tt=>exact ⟨_,vs,file,tf,fl,tg,inF,text,tt,t,rfl,rfl,p,e1,e2,e3,e4⟩
    | _=>rw [e4] at b4;cases b4
   | _=>rw [e3] at b3;cases b3
  | _=>rw [e2] at b2;cases b2
 | _=>rw [e1] at b1;cases b1
def MR (K:PySem.W.Frag) (mg:Str→Option Value) (names:List Str) (T:Addr):Prop:=∃x∈names,∃st,yT K mg x st T
theorem CB {P:Program} {w:World} {K:PySem.W.Frag} {mg mb:Str→Option Value} {k:Nat} {fa a:Addr} {fd:FuncData} {x:Str} {sp:Sp} {s₁:Shared} {vs:List Value} {ns:List Int} {tabs:List Addr}
  (KX:K.In s₁.heap) (hns:s₁.heap.Ns mainGlobals mg) (hb:s₁.heap.Ns builtinsNs mb) (hbb:∀x:Str,x≠"__name__"→mb x=bootBuiltins x) (hlim:s₁.heap.NoLimit) (hg:s₁.gens=#[])
  (ha:s₁.heap.get? a=some { cls:=.type "list",data:=.seq vs.toArray }) (hi:IntsAre vs ns) (hl:ns.length≤sizeLine) (hr:bI k callerA) (hbm:BMain mg s₁.heap)
  (htab:∀T∈tabs,isCodeTable s₁.heap T∧s₁.heap.get? T=some { cls:=.none,data:=.fields #[] }∧K.lookup T=none)
  (F:∀base:Heap,K.In base→base.Ns mainGlobals mg→BMain mg base→aH P w K mg base pZ k fa fd [x] sp) (hbind:∀(s:Shared) (u:Value),BindsTo s fd ⟨[u],[]⟩ [(x,u)])
  (hsp:∀H:Hp,(∀T∈tabs,H T=some (.ext (dU T)))→cF K H a (ns.map V.int)→(∀b,H b≠none→b=a∨b∈tabs)→(∀u,H a=some u→∃o xs,u=.qp o (.lst xs))→sp [.ref a] H (λv H'=>v=.bl true∧bA H H') λ_ _ _=>False) :
  codeAny (model P w) callerA (.call (.ref fa) ⟨[.ref a],[]⟩) (λr s'=>r=.ok (.ret (.bool true))∧OldK s₁.heap s'.heap∧s'.os=s₁.os∧AllBare s'.gens) s₁:=by
 have rv:=uv hi
 have lenV:=hi.length
 have naT:∀T∈tabs,T≠a:=λT hT z=>by
  have:=(htab T hT).2.1
  rw [z,ha] at this
  have h1:=congrArg Obj.cls (Option.some.inj this)
  cases h1
 have core:∀H:Hp,(∀T∈tabs,H T=some (.ext (dU T)))→cF K H a (ns.map V.int)→l9 P w H s₁.heap→(∀b,H b≠none→b=a∨b∈tabs)→(∀u,H a=some u→K.lookup a=none∧∃o xs,u=.qp o (.lst xs)) →
   codeAny (model P w) callerA (.call (.ref fa) ⟨[.ref a],[]⟩) (λr s'=>r=.ok (.ret (.bool true))∧OldK s₁.heap s'.heap∧s'.os=s₁.os∧AllBare s'.gens) s₁:=by
  intro H hT hS hok hA hK
  have base_of:∀{b:Addr} {o:Obj},s₁.heap.get? b=some o→H b=none→(sM s₁.heap H).get? b=some o:=λe n=>Ef e n
  have no:∀{b:Addr} {o:Obj},s₁.heap.get? b=some o→(∀xs n,o.data≠.seq xs n)→(∀xs,o.data≠.fields xs)→H b=none:=λ{b o} e d1 d2=>by
   cases q:H b with
   | none=>rfl
   | some u =>
    rcases hA b (by rw [q];simp) with rfl | hb
    ·rw [ha] at e;cases e;exact absurd rfl (d1 _ _)
    ·rw [(htab b hb).2.1] at e;cases e;exact absurd rfl (d2 _)
  have nsK:∀{b:Addr} {m:Str→Option Value},s₁.heap.Ns b m→(sM s₁.heap H).Ns b m:=λ{b m} ⟨o,es,ep,e,d,r⟩=>⟨o,es,ep,base_of e (no e (λ_ _ z=>by rw [d] at z;cases z) λ_ z=>by rw [d] at z;cases z),d,r⟩
  have hKb:K.In (sM s₁.heap H):=λb o e=>base_of (KX b o e) (by
   cases q:H b with
   | none=>rfl
   | some u =>
    rcases hA b (by rw [q];simp) with rfl | hb
    ·have:=(hK u q).1
     exact absurd (this.symm.trans e) (λz=>nomatch z)
    ·have:=(htab b hb).2.2
     exact absurd (this.symm.trans e) (λz=>nomatch z))
  have hM:Mod K mg (sM s₁.heap H):=⟨hKb,nsK hns,⟨mb,nsK hb,hbb⟩,let ⟨mc,h1,h2⟩:=hlim;⟨mc,nsK h1,h2⟩⟩
  have hbm':BMain mg (sM s₁.heap H):=by
   obtain ⟨bm,ob,b1,b2,b3,b4,b5,b6⟩:=hbm
   exact ⟨bm,ob,b1,b2,base_of b3 (no b3 (λ_ _ z=>by rw [b6] at z;cases z) λ_ z=>by rw [b6] at z;cases z),b4,b5,b6⟩
  have e0:yU P w K mg (sM s₁.heap H) callerA [] s₁ H:=⟨rfl,hM,λb o e=>Hm e,Nat.le_of_eq (Cw _ _),trivial,λb hb=>absurd (show b∈([]:List Addr) from hb) (by simp),hok,.of_eq hg⟩
  refine codeAny_mono ((F _ hKb (nsK hns) hbm').run callerA [] s₁ H ⟨[.ref a],[]⟩ [.ref a] [.ref a] _ _ hr e0 (hbind s₁ (.ref a)) (.cons rfl .nil) (hsp H hT hS hA λu z=>(hK u z).2)) λr s' h=>?_
  cases r with
  | error e=>exact False.elim h
  | ok fl =>
   cases fl with
   | next=>exact False.elim h
   | brk=>exact False.elim h
   | cont=>exact False.elim h
   | ret u =>
    obtain ⟨v,H',os,bare,un,hok',r',rfl,same⟩:=h
    obtain rfl:u=Value.bool true:=r'
    refine ⟨rfl,⟨λb o e=>?_,λb o e=>?_⟩,os,bare⟩
    ·cases q:H b with
     | none=>exact .inl (un.keep b o e q (by intro z;exact absurd (show b∈([]:List Addr) from z) (by simp)) (by simp))
     | some u =>
      have q':=same b u q
      rcases hA b (by rw [q];simp) with rfl | hb'
      ·obtain ⟨_,ob,xs,rfl⟩:=hK u q
       obtain ⟨e1,_⟩:=hok _ _ q
       obtain ⟨e2,_⟩:=hok' _ _ q'
       rw [e] at e1;cases e1
       exact .inl e2
      ·have hz:=hT b hb'
       rw [q] at hz;cases hz
       obtain ⟨⟨ps,hp,_⟩,_⟩:=hok' _ _ q'
       obtain ⟨t1,t2,_⟩:=htab b hb'
       rw [t2] at e;cases e
       exact .inr (.inl ⟨t1,rfl,#[],ps,rfl,by rw [hp];simp⟩)
    ·exact un.there b o e (by simp)
 have hTt:∀T∈tabs,∀H:Hp,cX P w H s₁.heap T (.ext (dU T)):=λT hT H=>by
  have:=(htab T hT).2.1
  exact ⟨⟨#[],this,trivial⟩,⟨_,this⟩,λh1 h2 ⟨ps,hp,tr⟩ kk=>⟨ps,kk _ hp,tr⟩⟩
 cases hk:K.lookup a with
 | some o =>
  have e:=KX a o hk
  rw [ha] at e
  cases e
  refine core (λb=>if b∈tabs then some (.ext (dU b)) else none) (λT hT=>if_pos hT) (.inr ⟨_,vs.toArray,_,hk,rfl,rfl,rfl,by rw [Sv,lenV];exact hl,by simpa using rv⟩) (λb u z=>?_) (λb z=>?_) λu z=>?_
  ·by_cases hb:b∈tabs
   ·have z':=(if_pos hb).symm.trans z
    cases z'
    exact hTt b hb _
   ·have z':=(if_neg hb).symm.trans z
    cases z'
  ·by_cases hb:b∈tabs
   ·exact .inr hb
   ·exact absurd (if_neg hb) z
  ·have hb:a ∉ tabs:=λhb=>naT a hb rfl
   have z':=(if_neg hb).symm.trans z
   cases z'
 | none =>
  refine core (λb=>if b=a then some (.qp { cls:=.type "list",data:=.seq vs.toArray } (.lst (ns.map V.int))) else if b∈tabs then some (.ext (dU b)) else none) (λT hT=>?_) (.inl (.inr ⟨{ cls:=.type "list",data:=.seq vs.toArray },if_pos rfl⟩)) (λb u z=>?_) (λb z=>?_) λu z=>?_
  ·show (if T=a then _ else _)=_
   rw [if_neg (naT T hT),if_pos hT]
  ·by_cases hb:b=a
   ·have z':=(if_pos hb).symm.trans z
    cases z'
    subst hb
    exact ⟨ha,by rw [Sm];exact hl,vs,_,rv,ha⟩
   ·have z:=(if_neg hb).symm.trans z
    by_cases hb:b∈tabs
    ·have z':=(if_pos hb).symm.trans z
     cases z'
     exact hTt b hb _
    ·have z':=(if_neg hb).symm.trans z
     cases z'
  ·by_cases hb:b=a
   ·exact .inl hb
   ·by_cases hb':b∈tabs
    ·exact .inr hb'
    ·exact absurd ((if_neg hb).trans (if_neg hb')) z
  ·have z':=(if_pos rfl).symm.trans z
   cases z'
   exact ⟨hk,_,_,rfl⟩
theorem Me {p:Program} {loose:List Str} {mean:ExcName→Option Value} {mg mb:Str→Option Value} {h:Heap} {K:PySem.W.Frag} {x:Str} {st:Stmt} {T:Addr} (Tp:Top p loose mean mg mb h) (KX:K.In h) (hx:∃d∈recsOf p,d.name=x) (D:yT K mg x st T) :
  isCodeTable h T∧h.get? T=some { cls:=.none,data:=.fields #[] }∧K.lookup T=none:=by
 obtain ⟨f,fd,c,F⟩:=D
 obtain ⟨d,hd,rfl⟩:=hx
 obtain ⟨a',o',fd',c',P',h1,h2,h3,h4,h5,h6⟩:=Tp.tab d hd
 rw [F.mg] at h1;cases h1
 obtain ⟨oc,od,kV,doc,pm,an,cdv,ct,osl,rfl,lk,_⟩:=F.fn.ex
 have:=KX _ _ lk
 rw [h2] at this;cases this
 have e3:fd'=_:=(Data.func.inj h3).symm
 subst e3
 have e4:=F.code.symm.trans h4
 cases e4
 obtain ⟨_,oo,vs,_,_,_,_,_,_,_,lk',_,hd',h11,_⟩:=F.tab
 obtain ⟨⟨o2,vs2,g1,g2,g3,g4⟩,g5⟩:=id h6
 rw [KX _ _ lk'] at g1;cases g1
 rw [hd'] at g3;cases g3
 rw [h11] at g4;cases g4
 exact ⟨h6.isCodeTable,g5,F.out⟩
theorem F' {l:PySem.W.OpenLaw} {n k:Nat} {q:Program} {loose:List Str} {XP:(Str→Option Value)→Heap→Prop} {YP:World→Heap→Prop} {d:DefRec} {K:Params→PySem.W.Frag} {sp:List Addr→PySem.W.Frag→Sp} {x:Str} (names:List Str)
  (hn:l.most=some n) (hn2:n≤sizeLine) (hdf:d.params.defaults=[]) (hr:bI k callerA) (hY:∀(w:World) (h:Heap),YP w h→(K w.params).In h) (hnm:∀x∈names,∃d∈recsOf q,d.name=x)
  (F:∀(w:World) (mg:Str→Option Value) (fa:Addr) (h:Heap),(K w.params).In h→h.Ns mainGlobals mg→mg d.name=some (.ref fa) →
   ∃(fd:FuncData) (tabs:List Addr),(∀(s:Shared) (u:Value),BindsTo s fd ⟨[u],[]⟩ [(x,u)])∧(∀T∈tabs,MR (K w.params) mg names T) ∧
    ∀base:Heap,(K w.params).In base→base.Ns mainGlobals mg→BMain mg base→aH l.prog w (K w.params) mg base pZ k fa fd [x] (sp tabs (K w.params)))
  (hsp:∀(tabs:List Addr) (K:PySem.W.Frag) (H:Hp) (a:Addr) (ns:List Int),ns.length≤n→(∀T∈tabs,H T=some (.ext (dU T)))→cF K H a (ns.map V.int)→(∀b,H b≠none→b=a∨b∈tabs)→(∀u,H a=some u→∃o xs,u=.qp o (.lst xs))→sp tabs K [.ref a] H (λv H'=>v=.bl true∧bA H H') λ_ _ _=>False) :
  PySem.W.WalkO q loose XP YP l.row.toRowW d [] (λf vs=>PySem.call f vs):=by
 refine Att.w_ hn hdf λw s₀ s₁ mg mb fa o pm cd doc a vs ns G Y ho hd hcd hmg hobj hints hlen hg=>?_
 have KX:=hY w _ Y
 obtain ⟨fd,tabs,hb,ht,hF⟩:=F w mg fa _ KX G.T.g hmg
 refine CB KX G.T.g G.T.b G.T.builtins G.T.nolimit hg hobj hints (SM hlen hn2) hr G.T.bmain (λT hT=>?_) hF hb (λH hT hS hA hK=>hsp tabs _ H a ns hlen hT hS hA hK)
 obtain ⟨x,hx,st,D⟩:=ht T hT
 exact Me G.T KX (hnm x hx) D
def Em (s:Str):Value→Bool
 | .str y _=>y == s
 | _=>false
def Ek (i:Int):Value→Bool
 | .int j _=>j == i
 | _=>false
theorem Cr {K:PySem.W.Frag} {h:Heap} {mg:Str→Option Value} {x s:Str} {u:Value} (X:K.In h) (G:h.Ns mainGlobals mg) (e:PySem.W.nsIn K mainGlobals x=some (some u)) (hu:Em s u=true):∃t,mg x=some (.str s t):=by
 cases u with
 | str y t =>
  have:y=s:=by simpa [Em] using hu
  subst this
  exact ⟨t,PySem.W.mg_of X G e⟩
 | _=>cases hu
theorem const_int {K:PySem.W.Frag} {h:Heap} {mg:Str→Option Value} {x:Str} {i:Int} {u:Value} (X:K.In h) (G:h.Ns mainGlobals mg) (e:PySem.W.nsIn K mainGlobals x=some (some u)) (hu:Ek i u=true):∃t,mg x=some (.int i t):=by
 cases u with
 | int y t =>
  have:y=i:=by simpa [Ek] using hu
  subst this
  exact ⟨t,PySem.W.mg_of X G e⟩
 | _=>cases hu
section
variable {X:Cx} {tg:Expr}
end
end Ov
namespace Ov
open PySem PySem.Spec PyProof.Rows
open L2 (V HO Hp Inv Cx VK XK TE TT TA TS TG pG TI TO ju Ends wN Loc Gl Rd RelV Vals eO w6 bT pE sH pF jt R2 upd aE aL cF gr Sp rT It bA)
inductive PV where
 | non | bl (b:Bool) | int (i:Int) | str (x:Str) | ref (a:Addr) | ty (n:String) | tup (xs:List PV) | fl (xs:List PV)
inductive HQ where
 | lst (xs:List PV) | ins (C:Addr) (fs:List (Str × PV)) | dct (kvs:List (Str × PV)) (ep:Nat) | tab | dtp (hs:List Str→Int) (ks:List (List Str))
def Pm (hs:List Str→Int) (a:Addr) (xs:List (List Str × Addr × Value)) (h:Heap):Prop:=(a == sysModules)=false∧xs.length≤sizeLine∧(xs.map (·.1)).Nodup∧∃o es ep,h.get? a=some o∧o.ExactDict∧o.data=.dict es ep∧es.toList=xs.map λx=>(⟨hs x.1,.ref x.2.1,x.2.2⟩:DictEntry)
abbrev Hq:=Addr→Option HQ
def put (J:Hq) (a:Addr) (o:HQ):Hq:=λb=>if b=a then some o else J b
theorem aq {J:Hq} {a:Addr} {o:HQ}:put J a o a=some o:=by unfold put;rw [if_pos rfl]
theorem ak {J:Hq} {a b:Addr} {o:HQ} (h:b≠a):put J a o b=J b:=by unfold put;rw [if_neg h]
theorem eR {J:Hq} {a:Addr} {o u:HQ}:put (put J a o) a u=put J a u:=by
 funext b;unfold put;split <;> rfl
theorem Fm {J:Hq} {a b:Addr} {o u:HQ} (h:a≠b):put (put J a o) b u=put (put J b u) a o:=by
 funext c;unfold put
 by_cases h1:c=b <;> by_cases h2:c=a <;> simp [h1,h2]
 ·exact absurd (h2.symm.trans h1) h
 ·intro z;exact absurd z.symm h
 ·intro z;exact absurd z h
theorem zV {J:Hq} {a:Addr} {o:HQ} (h:J a=some o):put J a o=J:=by
 funext b;unfold put
 by_cases e:b=a
 ·subst e;rw [if_pos rfl,h]
 ·rw [if_neg e]
def DB (K:PySem.W.Frag) (J:Hq) (H:Hp) (a:Addr) (vs:List V):Prop:=(J a=none∧Rd H a (.lst vs))∨∃(o:Obj) (its:Array Value) (n:Nat),K.lookup a=some o∧o.cls=.type "list"∧o.dict=none∧o.data=.seq its n∧its.size≤sizeLine∧Vals vs its.toList
theorem DB.sq {K:PySem.W.Frag} {J:Hq} {H:Hp} {a:Addr} {vs:List V} (h:DB K J H a vs):cF K H a vs:=by
 rcases h with h | h
 ·exact .inl h.2
 ·exact .inr h
section
variable (K:PySem.W.Frag)
mutual
def b_ (J:Hq) (H:Hp):PV→V→Prop
 | .non,v=>v=.non
 | .bl b,v=>v=.bl b
 | .int i,v=>v=.int i
 | .str x,v=>v=.str x
 | .ref a,v=>v=.ref a
 | .ty n,v=>v=.ty n
 | .tup xs,v=>∃a vs,v=.ref a∧gr K H a vs∧aM J H xs vs
 | .fl xs,v=>∃a vs,v=.ref a∧DB K J H a vs∧aM J H xs vs
def aM (J:Hq) (H:Hp):List PV→List V→Prop
 | [],vs=>vs=[]
 | x :: xs,vs=>∃v us,vs=v :: us∧b_ J H x v∧aM J H xs us
end
def lA {κ:Type} (J:Hq) (H:Hp) (fs:List (κ × PV)) (gs:List (κ × V)):Prop:=fs.map (·.1)=gs.map (·.1)∧aM K J H (fs.map (·.2)) (gs.map (·.2))
def DI (J:Hq) (H:Hp) (a:Addr):HQ→Prop
 | .lst xs=>∃vs,H a=some (.lst vs)∧aM K J H xs vs
 | .ins C fs=>∃dx gs,H a=some (.ins C dx gs)∧lA K J H fs gs
 | .dct kvs ep=>∃gs,H a=some (.dE gs ep)∧lA K J H kvs gs
 | .tab=>H a=some (.ext (dU a))
 | .dtp hs ks=>∃xs:List (List Str × Addr × Value),xs.map (·.1)=ks∧H a=some (.ext (Pm hs a xs))∧∀x∈xs,gr K H x.2.1 (x.1.map V.str)
def Rep (J:Hq) (H:Hp):Prop:=∀a o,J a=some o→DI K J H a o
structure Ext (J:Hq) (H:Hp) (J':Hq) (H':Hp):Prop where
 tup:∀a vs,gr K H a vs→gr K H' a vs
 ll:∀a o,J a=none→H a=some o→((∃vs,o=.lst vs)∨∃ob vs,o=.qp ob (.lst vs))→J' a=none∧H' a=some o
end
section
variable {K:PySem.W.Frag} {J J' J'':Hq} {H H' H'':Hp}
theorem Ext.fl (e:Ext K J H J' H') (a:Addr) (vs:List V) (n:J a=none) (h:Rd H a (.lst vs)):J' a=none∧Rd H' a (.lst vs):=by
 rcases h with h | ⟨o,h⟩
 ·obtain ⟨a,b⟩:=e.ll a _ n h (.inl ⟨_,rfl⟩);exact ⟨a,.inl b⟩
 ·obtain ⟨a,b⟩:=e.ll a _ n h (.inr ⟨_,_,rfl⟩);exact ⟨a,.inr ⟨o,b⟩⟩
theorem Ext.flat (e:Ext K J H J' H') {a:Addr} {vs:List V} (h:DB K J H a vs):DB K J' H' a vs:=by
 rcases h with h | h
 ·exact .inl (e.fl a vs h.1 h.2)
 ·exact .inr h
mutual
theorem Ext.rep (e:Ext K J H J' H'):∀{x:PV} {v:V},b_ K J H x v→b_ K J' H' x v
 | .non,_,h=>h
 | .bl _,_,h=>h
 | .int _,_,h=>h
 | .str _,_,h=>h
 | .ref _,_,h=>h
 | .ty _,_,h=>h
 | .tup xs,_,⟨a,vs,e1,h,k⟩=>⟨a,vs,e1,e.tup _ _ h,Ext.iW e k⟩
 | .fl xs,_,⟨a,vs,e1,h,k⟩=>⟨a,vs,e1,e.flat h,Ext.iW e k⟩
theorem Ext.iW (e:Ext K J H J' H'):∀{xs:List PV} {vs:List V},aM K J H xs vs→aM K J' H' xs vs
 | [],_,h=>h
 | _ :: _,_,⟨v,us,e1,h,k⟩=>⟨v,us,e1,Ext.rep e h,Ext.iW e k⟩
end
theorem Ext.refl:Ext K J H J H:=⟨λ_ _ h=>h,λ_ _ n h _=>⟨n,h⟩⟩
theorem Ext.trans (a:Ext K J H J' H') (b:Ext K J' H' J'' H''):Ext K J H J'' H'' :=
 ⟨λc vs h=>b.tup c vs (a.tup c vs h),λc o n h z=>b.ll c o (a.ll c o n h z).1 (a.ll c o n h z).2 z⟩
theorem Ext.vT {κ:Type} (e:Ext K J H J' H') {fs:List (κ × PV)} {gs:List (κ × V)} (h:lA K J H fs gs):lA K J' H' fs gs:=⟨h.1,e.iW h.2⟩
theorem Ext.same (s:bA H H'):Ext K J H J H':=⟨λa vs h=>s.tup h,λa o n h _=>⟨n,s _ _ h⟩⟩
theorem DI.same (s:bA H H') {a:Addr} {o:HQ} (h:DI K J H a o):DI K J H' a o:=by
 have e:=Ext.same (K:=K) (J:=J) s
 cases o with
 | lst xs=>obtain ⟨vs,h1,h2⟩:=h;exact ⟨vs,s _ _ h1,e.iW h2⟩
 | ins C fs=>obtain ⟨dx,gs,h1,h2⟩:=h;exact ⟨dx,gs,s _ _ h1,e.vT h2⟩
 | dct kvs ep=>obtain ⟨gs,h1,h2⟩:=h;exact ⟨gs,s _ _ h1,e.vT h2⟩
 | tab=>exact s _ _ (show H a=some (.ext (dU a)) from h)
 | dtp hs ks=>obtain ⟨xs,h0,h1,h2⟩:=h;exact ⟨xs,h0,s _ _ h1,λx hx=>s.tup (h2 x hx)⟩
theorem Rep.same (s:bA H H') (h:Rep K J H):Rep K J H':=λa o q=>(h a o q).same s
theorem Ext.less (h:∀a,J' a=J a∨J' a=none):Ext K J H J' H:=⟨λ_ _ h=>h,λa o n z _=>⟨(h a).elim (λe=>e.trans n) (λe=>e),z⟩⟩
theorem Rep.less (h:∀a,J' a=J a∨J' a=none) (r:Rep K J H):Rep K J' H:=λa o q=>by
 have e:J a=some o:=by
  rcases h a with e | e
  ·rw [← e];exact q
  ·rw [e] at q;cases q
 have x:=Ext.less (K:=K) (H:=H) h
 have z:=r a o e
 cases o with
 | lst xs=>obtain ⟨vs,h1,h2⟩:=z;exact ⟨vs,h1,x.iW h2⟩
 | ins C fs=>obtain ⟨dx,gs,h1,h2⟩:=z;exact ⟨dx,gs,h1,x.vT h2⟩
 | dct kvs ep=>obtain ⟨gs,h1,h2⟩:=z;exact ⟨gs,h1,x.vT h2⟩
 | tab=>exact z
 | dtp hs ks=>exact z
theorem aM.length:∀{xs:List PV} {vs:List V},aM K J H xs vs→xs.length=vs.length
 | [],_,h=>by cases h;rfl
 | _ :: xs,_,⟨v,us,e1,_,k⟩=>by subst e1;simp [aM.length k]
theorem aM.get:∀{xs:List PV} {vs:List V} {i:Nat} {x:PV},aM K J H xs vs→xs[i]?=some x→∃v,vs[i]?=some v∧b_ K J H x v
 | [],_,i,x,h,e=>by simp at e
 | y :: xs,_,0,x,⟨v,us,e1,h,k⟩,e=>by subst e1;simp at e;subst e;exact ⟨v,rfl,h⟩
 | y :: xs,_,i + 1,x,⟨v,us,e1,h,k⟩,e=>by
  subst e1
  obtain ⟨w,h1,h2⟩:=aM.get (i:=i) (x:=x) k (by simpa using e)
  exact ⟨w,by simpa using h1,h2⟩
theorem aM.get':∀{xs:List PV} {vs:List V} {i:Nat} {v:V},aM K J H xs vs→vs[i]?=some v→∃x,xs[i]?=some x∧b_ K J H x v
 | [],_,i,x,h,e=>by cases h;simp at e
 | y :: xs,_,0,x,⟨v,us,e1,h,k⟩,e=>by subst e1;simp at e;subst e;exact ⟨y,rfl,h⟩
 | y :: xs,_,i + 1,x,⟨v,us,e1,h,k⟩,e=>by
  subst e1
  obtain ⟨w,h1,h2⟩:=aM.get' (i:=i) (v:=x) k (by simpa using e)
  exact ⟨w,by simpa using h1,h2⟩
theorem aM.append:∀{xs ys:List PV} {vs us:List V},aM K J H xs vs→aM K J H ys us→aM K J H (xs ++ ys) (vs ++ us)
 | [],_,_,_,h,k=>by cases h;exact k
 | x :: xs,ys,_,us,⟨v,ws,e1,h,h'⟩,k=>by subst e1;exact ⟨v,ws ++ us,rfl,h,aM.append h' k⟩
theorem aM.drop:∀(n:Nat) {xs:List PV} {vs:List V},aM K J H xs vs→aM K J H (xs.drop n) (vs.drop n)
 | 0,_,_,h=>h
 | n + 1,[],_,h=>by cases h;rfl
 | n + 1,x :: xs,_,⟨v,ws,e1,h,h'⟩=>by subst e1;exact aM.drop n h'
theorem aM.take:∀(n:Nat) {xs:List PV} {vs:List V},aM K J H xs vs→aM K J H (xs.take n) (vs.take n)
 | 0,_,_,h=>rfl
 | n + 1,[],_,h=>by cases h;rfl
 | n + 1,x :: xs,_,⟨v,ws,e1,h,h'⟩=>by subst e1;exact ⟨v,_,rfl,h,aM.take n h'⟩
theorem lA.look {κ:Type} [BEq κ] [LawfulBEq κ] {f:κ}:∀{fs:List (κ × PV)} {gs:List (κ × V)} {x:PV},lA K J H fs gs→fs.lookup f=some x→∃v,gs.lookup f=some v∧b_ K J H x v
 | [],_,_,_,e=>by cases e
 | (k,y) :: fs,[],x,h,e=>by cases h.1
 | (k,y) :: fs,(k',w) :: gs,x,h,e=>by
  obtain ⟨h1,v,us,h2,h3,h4⟩:=h
  simp only [Sx,List.cons.injEq] at h1 h2
  obtain ⟨rfl,h1⟩:=h1
  obtain ⟨rfl,rfl⟩:=h2
  rw [S1] at e ⊢
  cases hk:f == k with
  | true=>rw [hk] at e;cases e;exact ⟨w,rfl,h3⟩
  | false=>rw [hk] at e;exact lA.look ⟨h1,h4⟩ e
theorem lA.none {κ:Type} [BEq κ] [LawfulBEq κ] {f:κ}:∀{fs:List (κ × PV)} {gs:List (κ × V)},lA K J H fs gs→fs.lookup f=none→gs.lookup f=none
 | [],[],_,_=>rfl
 | [],_ :: _,h,e=>by cases h.1
 | (k,y) :: fs,[],h,e=>by cases h.1
 | (k,y) :: fs,(k',w) :: gs,h,e=>by
  obtain ⟨h1,v,us,h2,h3,h4⟩:=h
  simp only [Sx,List.cons.injEq] at h1 h2
  obtain ⟨rfl,h1⟩:=h1
  obtain ⟨rfl,rfl⟩:=h2
  rw [S1] at e ⊢
  cases hk:f == k with
  | true=>rw [hk] at e;cases e
  | false=>rw [hk] at e;exact lA.none ⟨h1,h4⟩ e
end
section
variable {K:PySem.W.Frag} {J J':Hq} {H H':Hp} {p:Addr}
theorem Hh {a p:Addr} {o:HQ} (r:Rep K J H) (h:J a=some o) (n:H p=none):a≠p:=by
 intro e;subst e
 have:=r _ _ h
 cases o with
 | lst xs=>obtain ⟨vs,h1,_⟩:=this;rw [n] at h1;cases h1
 | ins C fs=>obtain ⟨dx,gs,h1,_⟩:=this;rw [n] at h1;cases h1
 | dct kvs ep=>obtain ⟨gs,h1,_⟩:=this;rw [n] at h1;cases h1
 | tab=>have h1:H a=some (.ext (dU a)):=this;rw [n] at h1;cases h1
 | dtp hs ks=>obtain ⟨xs,_,h1,_⟩:=this;rw [n] at h1;cases h1
theorem Rep.free (r:Rep K J H) (n:H p=none):J p=none:=by
 cases e:J p with
 | none=>rfl
 | some o=>exact absurd rfl (Hh r e n)
theorem Ext.laid {o:HO} {u:HQ} (n:H p=none):Ext K J H (put J p u) (upd H p o):=by
 refine ⟨λa vs h=>(bA.new n o).tup h,λa o' z h _=>⟨?_,bA.new n o _ _ h⟩⟩
 have ne:a≠p:=by intro e;subst e;rw [n] at h;cases h
 rw [ak ne];exact z
theorem Rep.Av {J':Hq} {H':Hp} (e:Ext K J H J' H') (r:Rep K J H) (p:Addr) (q:∀a,a≠p→J' a=J a) (s:∀a o,a≠p→J a≠none→H a=some o→H' a=some o) (h:∀u,J' p=some u→DI K J' H' p u):Rep K J' H':=λa o z=>by
 by_cases ep:a=p
 ·subst ep;exact h o z
 ·rw [q a ep] at z
  have t:=r a o z
  have jn:J a≠none:=by rw [z];exact λy=>nomatch y
  cases o with
  | lst xs=>obtain ⟨vs,h1,h2⟩:=t;exact ⟨vs,s _ _ ep jn h1,e.iW h2⟩
  | ins C fs=>obtain ⟨dx,gs,h1,h2⟩:=t;exact ⟨dx,gs,s _ _ ep jn h1,e.vT h2⟩
  | dct kvs eq=>obtain ⟨gs,h1,h2⟩:=t;exact ⟨gs,s _ _ ep jn h1,e.vT h2⟩
  | tab=>exact s _ _ ep jn (show H a=some (.ext (dU a)) from t)
  | dtp hs ks=>obtain ⟨xs,h0,h1,h2⟩:=t;exact ⟨xs,h0,s _ _ ep jn h1,λx hx=>e.tup _ _ (h2 x hx)⟩
theorem Rep.Es {xs:List PV} {vs:List V} (r:Rep K J H) (n:H p=none) (h:aM K J H xs vs):Rep K (put J p (.lst xs)) (upd H p (.lst vs)):=by
 have e:=Ext.laid (K:=K) (J:=J) (o:=.lst vs) (u:=.lst xs) n
 refine r.Av e p (λa ne=>ak ne) (λa o ne _ z=>by rw [aL ne];exact z) λu z=>?_
 rw [aq] at z;cases z
 exact ⟨vs,aE,e.iW h⟩
theorem Ext.wrote {xs ys:List PV} {ws vs:List V} (h:J p=some (.lst xs)) (k:H p=some (.lst ws)):Ext K J H (put J p (.lst ys)) (upd H p (.lst vs)):=by
 have sm:∀a u,(∀l,u≠HO.lst l)∨a≠p→Rd H a u→Rd (upd H p (.lst vs)) a u:=λa u d z=>by
  have ne:a≠p:=by
   rcases d with d | d
   ·intro e;subst e
    rcases z with z | ⟨o,z⟩
    ·rw [k] at z;cases z;exact d _ rfl
    ·rw [k] at z;cases z
   ·exact d
  rcases z with z | ⟨o,z⟩
  ·exact .inl (by rw [aL ne];exact z)
  ·exact .inr ⟨o,by rw [aL ne];exact z⟩
 refine ⟨λa vs' z=>?_,λa o z q _=>?_⟩
 ·rcases z with z | z
  ·exact .inl (sm a _ (.inl λl e=>nomatch e) z)
  ·exact .inr z
 ·have ne:a≠p:=by intro e;subst e;rw [h] at z;cases z
  exact ⟨by rw [ak ne];exact z,by rw [aL ne];exact q⟩
theorem Rep.wrote {xs ys:List PV} {ws vs:List V} (r:Rep K J H) (h:J p=some (.lst xs)) (k:H p=some (.lst ws)) (q:aM K J H ys vs):Rep K (put J p (.lst ys)) (upd H p (.lst vs)):=by
 have e:=Ext.wrote (K:=K) (ys:=ys) (vs:=vs) h k
 refine r.Av e p (λa ne=>ak ne) (λa o ne _ z=>by rw [aL ne];exact z) λu z=>?_
 rw [aq] at z;cases z
 exact ⟨vs,aE,e.iW q⟩
end
abbrev Sr:=List (Option PV)
abbrev cW:=Sr→Hq→(PV→Hq→Prop)→Prop
abbrev lD:=Sr→Hq→(Bool→Hq→Prop)→Prop
abbrev oJ:=Sr→Hq→(List PV→Hq→Prop)→Prop
structure En where
 nx:Sr→Hq→Prop
 rt:PV→Hq→Prop
 bk:Sr→Hq→Prop:=λ_ _=>False
 ct:Sr→Hq→Prop:=λ_ _=>False
abbrev iB:=En→Sr→Hq→Prop
structure lB (K:PySem.W.Frag) (J:Hq) (H:Hp) (τ:Sr) (σ:L2.St):Prop where
 len:τ.length=σ.length
 get:∀(i:Nat) (x:PV),τ[i]?=some (some x)→∃v,σ[i]?=some (some v)∧b_ K J H x v
theorem lB.ext {K:PySem.W.Frag} {J J':Hq} {H H':Hp} {τ:Sr} {σ:L2.St} (r:lB K J H τ σ) (e:Ext K J H J' H'):lB K J' H' τ σ :=
 ⟨r.len,λi x h=>let ⟨v,a,b⟩:=r.get i x h;⟨v,a,e.rep b⟩⟩
theorem lB.set {K:PySem.W.Frag} {J:Hq} {H:Hp} {τ:Sr} {σ:L2.St} (r:lB K J H τ σ) {x:PV} {v:V} (i:Nat) (h:b_ K J H x v):lB K J H (τ.set i (some x)) (σ.set i (some v)):=by
 refine ⟨by rw [TY,TY,r.len],λj y e=>?_⟩
 by_cases hj:i=j
 ·subst hj
  by_cases hl:i < τ.length
  ·rw [Tn hl] at e
   cases e
   exact ⟨v,Tn (by rw [← r.len];exact hl),h⟩
  ·rw [TK (by rw [TY];omega)] at e
   cases e
 ·rw [Uc hj] at e ⊢
  exact r.get j y e
abbrev G2:=Hq × Hp
structure wM (K:PySem.W.Frag) (G:G2) (τ:Sr) (J:Hq) (σ:L2.St) (H:Hp):Prop where
 sl:lB K J H τ σ
 hp:Rep K J H
 ext:Ext K G.1 G.2 J H
section
variable (K:PySem.W.Frag) (G:G2)
def LE (t:cW):TE:=λσ H Q=>∃τ J Q2,wM K G τ J σ H∧t τ J Q2∧∀x J' v H',b_ K J' H' x v→Rep K J' H'→Ext K J H J' H'→Q2 x J'→Q v H'
def LT (t:lD):TT:=λσ H Q=>∃τ J Q2,wM K G τ J σ H∧t τ J Q2∧∀b J' H',Rep K J' H'→Ext K J H J' H'→Q2 b J'→Q b H'
def LA (t:oJ):TA:=λσ H Q=>∃τ J Q2,wM K G τ J σ H∧t τ J Q2∧∀xs J' vs H',aM K J' H' xs vs→Rep K J' H'→Ext K J H J' H'→Q2 xs J'→Q vs H'
structure Goes (J:Hq) (H:Hp) (D2:En) (D:Ends):Prop where
 nx:∀τ J' σ H',lB K J' H' τ σ→Rep K J' H'→Ext K J H J' H'→D2.nx τ J'→D.nx σ H'
 rt:∀x J' v H',b_ K J' H' x v→Rep K J' H'→Ext K J H J' H'→D2.rt x J'→D.rt v H'
 bk:∀τ J' σ H',lB K J' H' τ σ→Rep K J' H'→Ext K J H J' H'→D2.bk τ J'→D.bk σ H'
 ct:∀τ J' σ H',lB K J' H' τ σ→Rep K J' H'→Ext K J H J' H'→D2.ct τ J'→D.ct σ H'
def LS (t:iB):TS:=λD σ H=>∃τ J D2,wM K G τ J σ H∧t D2 τ J∧Goes K J H D2 D
end
theorem Goes.ext {K:PySem.W.Frag} {J J':Hq} {H H':Hp} {D2:En} {D:Ends} (g:Goes K J H D2 D) (e:Ext K J H J' H'):Goes K J' H' D2 D :=
 ⟨λτ J1 σ H1 a b c=>g.nx τ J1 σ H1 a b (e.trans c),λx J1 v H1 a b c=>g.rt x J1 v H1 a b (e.trans c),λτ J1 σ H1 a b c=>g.bk τ J1 σ H1 a b (e.trans c),λτ J1 σ H1 a b c=>g.ct τ J1 σ H1 a b (e.trans c)⟩
theorem wM.go {K:PySem.W.Frag} {G:G2} {τ:Sr} {J J':Hq} {σ:L2.St} {H H':Hp} (a:wM K G τ J σ H) (r:Rep K J' H') (e:Ext K J H J' H'):wM K G τ J' σ H':=⟨a.sl.ext e,r,a.ext.trans e⟩
structure RE (X:Cx) (G:G2) (e:Expr) (t:cW):Prop where
 run:L2.PE X e (LE X.K G t)
structure RT (X:Cx) (G:G2) (e:Expr) (t:lD):Prop where
 run:L2.PT X e (LT X.K G t)
structure RW (X:Cx) (G:G2) (e:Expr) (t:lD):Prop where
 run:L2.PW X e (LT X.K G t)
structure RA (X:Cx) (G:G2) (es:List Expr) (t:oJ):Prop where
 run:L2.PA X es (LA X.K G t)
structure RS (X:Cx) (G:G2) (st:Stmt) (t:iB):Prop where
 run:L2.PS X st (LS X.K G t)
structure RB (X:Cx) (G:G2) (st:List Stmt) (t:iB):Prop where
 run:L2.tN X st (LS X.K G t)
theorem kW {X:Cx} {e:Expr} {t t':TE} (h:L2.PE X e t) (k:∀σ H Q,t' σ H Q→t σ H Q):L2.PE X e t':=λpins s σ H Q I q=>h pins s σ H Q I (k _ _ _ q)
theorem O_ {X:Cx} {e:Expr} {t t':TT} (h:L2.PT X e t) (k:∀σ H Q,t' σ H Q→t σ H Q):L2.PT X e t':=λpins s σ H Q I q=>h pins s σ H Q I (k _ _ _ q)
theorem RL {X:Cx} {e:Expr} {t t':TT} (h:L2.PW X e t) (k:∀σ H Q,t' σ H Q→t σ H Q):L2.PW X e t':=λwh pins s σ H Q I q=>h wh pins s σ H Q I (k _ _ _ q)
theorem Qp {X:Cx} {e:List Expr} {t t':TA} (h:L2.PA X e t) (k:∀σ H Q,t' σ H Q→t σ H Q):L2.PA X e t':=λpos pins s σ H Q I q=>h pos pins s σ H Q I (k _ _ _ q)
theorem zQ {X:Cx} {e:Stmt} {t t':TS} (h:L2.PS X e t) (k:∀D σ H,t' D σ H→t D σ H):L2.PS X e t':=λpins s σ H D I q=>h pins s σ H D I (k _ _ _ q)
theorem Qq {X:Cx} {e:List Stmt} {t t':TS} (h:L2.tN X e t) (k:∀D σ H,t' D σ H→t D σ H):L2.tN X e t':=λpins s σ H D I q=>h pins s σ H D I (k _ _ _ q)
end Ov
namespace Ov
open PySem PySem.Spec PyProof.Rows
open L2 (V HO Hp Inv Cx VK XK TE TT TA TS TG pG TI TO ju Ends wN Loc Gl Rd RelV Vals eO w6 bT pE sH pF jt R2 upd aE aL cF gr Sp rT It bA cT bI Passes o8 aD Meth Mk Binds aH b7 av c7 fN)
def gm {α:Sort _} (_:α):Type:=Unit
def dp {α:Sort _} {k:α}:gm k:=()
def vo {α:Type} (o:Option α) (k:α→Prop) (_:gm k:=dp):Prop:=match o with | some x=>k x | none=>False
def MD (o:Option (Option PV)) (k:PV→Prop) (_:gm k:=dp):Prop:=match o with | some (some x)=>k x | _=>False
def Dt (x:PV) (k:Int→Prop) (_:gm k:=dp):Prop:=match x with | .int i=>k i | _=>False
def Jg (x:PV) (k:Bool→Prop) (_:gm k:=dp):Prop:=match x with | .bl i=>k i | _=>False
def Ji (x:PV) (k:Str→Prop) (_:gm k:=dp):Prop:=match x with | .str i=>k i | _=>False
def Bi (x:PV) (k:Addr→Prop) (_:gm k:=dp):Prop:=match x with | .ref a=>k a | _=>False
def ME (x:PV) (k:List PV→Prop) (_:gm k:=dp):Prop:=match x with | .tup a=>k a | _=>False
def Bh (xs:List PV) (k:PV→Prop) (_:gm k:=dp):Prop:=match xs with | [x]=>k x | _=>False
def O8 (o:Option HQ) (k:List PV→Prop) (_:gm k:=dp):Prop:=match o with | some (.lst xs)=>k xs | _=>False
def EX (o:Option HQ) (k:List (Str × PV)→Nat→Prop) (_:gm k:=dp):Prop:=match o with | some (.dct xs e)=>k xs e | _=>False
def K7 (C:Addr) (o:Option HQ) (k:List (Str × PV)→Prop) (_:gm k:=dp):Prop:=match o with | some (.ins C' fs)=>if C'=C then k fs else False | _=>False
def Qm (xs:List PV) (k:Prop) (_:gm k:=dp):Prop:=match xs with | []=>k | _=>False
def K8 (xs:List PV) (k:PV→List PV→Prop) (_:gm k:=dp):Prop:=match xs with | x :: r=>k x r | []=>False
def La (xs:List PV) (k:PV→PV→Prop) (_:gm k:=dp):Prop:=match xs with | [x,y]=>k x y | _=>False
theorem NN {k:Prop} {d:gm k}:Qm [] k d=k:=rfl
theorem K9 {x:PV} {r:List PV} {k:PV→List PV→Prop} {d:gm k}:K8 (x :: r) k d=k x r:=rfl
theorem NO {x y:PV} {k:PV→PV→Prop} {d:gm k}:La [x,y] k d=k x y:=rfl
theorem K' {xs:List PV} {k:Prop} {d:gm k} (h:Qm xs k d):xs=[]∧k:=by cases xs with | nil=>exact ⟨rfl,h⟩ | cons x r=>exact h.elim
theorem Hs {xs:List PV} {k:PV→List PV→Prop} {d:gm k} (h:K8 xs k d):∃x r,xs=x :: r∧k x r:=by cases xs with | nil=>exact h.elim | cons x r=>exact ⟨_,_,rfl,h⟩
theorem zF {xs:List PV} {k:PV→PV→Prop} {d:gm k} (h:La xs k d):∃x y,xs=[x,y]∧k x y:=by
 unfold La at h
 split at h
 ·exact ⟨_,_,rfl,h⟩
 ·exact h.elim
theorem NQ {α:Type} {x:α} {k:α→Prop} {d:gm k}:vo (some x) k d=k x:=rfl
theorem NI {x:PV} {k:PV→Prop} {d:gm k}:MD (some (some x)) k d=k x:=rfl
theorem NL {x:Int} {k:Int→Prop} {d:gm k}:Dt (.int x) k d=k x:=rfl
theorem NJ {x:Bool} {k:Bool→Prop} {d:gm k}:Jg (.bl x) k d=k x:=rfl
theorem NR {x:Str} {k:Str→Prop} {d:gm k}:Ji (.str x) k d=k x:=rfl
theorem NP {x:Addr} {k:Addr→Prop} {d:gm k}:Bi (.ref x) k d=k x:=rfl
theorem NS {x:List PV} {k:List PV→Prop} {d:gm k}:ME (.tup x) k d=k x:=rfl
theorem NH {x:PV} {k:PV→Prop} {d:gm k}:Bh [x] k d=k x:=rfl
theorem NM {x:List PV} {k:List PV→Prop} {d:gm k}:O8 (some (.lst x)) k d=k x:=rfl
theorem NK {x:List (Str × PV)} {e:Nat} {k:List (Str × PV)→Nat→Prop} {d:gm k}:EX (some (.dct x e)) k d=k x e:=rfl
theorem Jh {C:Addr} {x:List (Str × PV)} {k:List (Str × PV)→Prop} {d:gm k}:K7 C (some (.ins C x)) k d=k x:=if_pos rfl
theorem dZ {α:Type} {o:Option α} {k:α→Prop} {d:gm k} (h:vo o k d):∃x,o=some x∧k x:=by cases o with | none=>exact h.elim | some x=>exact ⟨x,rfl,h⟩
theorem fj {α:Type} {o:Option α} {x:α} {k:α→Prop} (e:o=some x) (h:k x):vo o k:=by rw [e];exact h
theorem EW {o:Option (Option PV)} {k:PV→Prop} {d:gm k} (h:MD o k d):∃x,o=some (some x)∧k x:=by
 unfold MD at h
 split at h
 ·exact ⟨_,rfl,h⟩
 ·exact h.elim
theorem K6 {o:Option (Option PV)} {x:PV} {k:PV→Prop} (e:o=some (some x)) (h:k x):MD o k:=by rw [e];exact h
theorem gQ {x:PV} {k:Int→Prop} {d:gm k} (h:Dt x k d):∃i,x=.int i∧k i:=by cases x <;> first | exact ⟨_,rfl,h⟩ | exact False.elim h
theorem n6 {x:PV} {k:Bool→Prop} {d:gm k} (h:Jg x k d):∃i,x=.bl i∧k i:=by cases x <;> first | exact ⟨_,rfl,h⟩ | exact False.elim h
theorem n8 {x:PV} {k:Str→Prop} {d:gm k} (h:Ji x k d):∃i,x=.str i∧k i:=by cases x <;> first | exact ⟨_,rfl,h⟩ | exact False.elim h
theorem fY {x:PV} {k:Addr→Prop} {d:gm k} (h:Bi x k d):∃i,x=.ref i∧k i:=by cases x <;> first | exact ⟨_,rfl,h⟩ | exact False.elim h
theorem EY {x:PV} {k:List PV→Prop} {d:gm k} (h:ME x k d):∃i,x=.tup i∧k i:=by cases x <;> first | exact ⟨_,rfl,h⟩ | exact False.elim h
theorem iO {xs:List PV} {k:PV→Prop} {d:gm k} (h:Bh xs k d):∃x,xs=[x]∧k x:=by
 unfold Bh at h
 split at h
 ·exact ⟨_,rfl,h⟩
 ·exact h.elim
theorem K_ {o:Option HQ} {k:List PV→Prop} {d:gm k} (h:O8 o k d):∃x,o=some (.lst x)∧k x:=by
 unfold O8 at h
 split at h
 ·exact ⟨_,rfl,h⟩
 ·exact h.elim
theorem lO {o:Option HQ} {k:List (Str × PV)→Nat→Prop} {d:gm k} (h:EX o k d):∃x e,o=some (.dct x e)∧k x e:=by
 unfold EX at h
 split at h
 ·exact ⟨_,_,rfl,h⟩
 ·exact h.elim
theorem zE {C:Addr} {o:Option HQ} {k:List (Str × PV)→Prop} {d:gm k} (h:K7 C o k d):∃x,o=some (.ins C x)∧k x:=by
 unfold K7 at h
 split at h
 ·split at h
  ·rename_i e;subst e;exact ⟨_,rfl,h⟩
  ·exact h.elim
 ·exact h.elim
theorem zG {x:PV} {xs:List PV} {k:List PV→Prop} (e:x=.tup xs) (h:k xs):ME x k:=by rw [e];exact h
theorem zD {x:PV} {b:Bool} {k:Bool→Prop} (e:x=.bl b) (h:k b):Jg x k:=by rw [e];exact h
theorem fi {C:Addr} {o:Option HQ} {x:List (Str × PV)} {k:List (Str × PV)→Prop} (e:o=some (.ins C x)) (h:k x):K7 C o k:=by rw [e,Jh];exact h
section
variable {X:Cx} {G:G2} {a b c e o:Expr} {es rest:List Expr} {ta tb te tc to:cW} {tA tB':lD} {t:oJ} {pos px p p2 apos cpos:Pos} {x:Str} {i j:Nat}
def oi (i:Nat):cW:=λτ J Q=>MD τ[i]? λx=>Q x J
theorem rv (i:Nat) {x:Str} {pos:Pos} (hN:X.N[i]?=some x:=by rfl) (hv:wN X.env.scope x:=by first | exact Or.inl rfl | exact Or.inr (Or.inl rfl) | exact Or.inr (Or.inr rfl)) (hd:(x == ("__debug__":Str))=false:=by decide)
  (hcd:(x == ("__classdict__":Str))=false:=by decide):RE X G (.Name x pos) (oi i) :=
 ⟨kW (L2.zN hN hv hd hcd) λσ H Q ⟨τ,J,Q2,a2,hq,k⟩=>let ⟨y,ey,q⟩:=EW hq;let ⟨v,e1,r⟩:=a2.sl.get i y ey;⟨v,e1,k y J v H r a2.hp .refl q⟩⟩
def rC (x:PV):cW:=λ_ J Q=>Q x J
theorem ah {i:Int} {j pos}:RE X G (.Constant (.int i) j pos) (rC (.int i)):=⟨kW L2.aJ λσ H Q ⟨τ,J,Q2,a2,q,k⟩=>k (.int i) J _ H rfl a2.hp .refl q⟩
theorem gB {b:Bool} {j pos}:RE X G (.Constant (.bool b) j pos) (rC (.bl b)):=⟨kW L2.x5 λσ H Q ⟨τ,J,Q2,a2,q,k⟩=>k (.bl b) J _ H rfl a2.hp .refl q⟩
theorem lQ {j pos}:RE X G (.Constant .none j pos) (rC .non):=⟨kW L2.zK λσ H Q ⟨τ,J,Q2,a2,q,k⟩=>k .non J _ H rfl a2.hp .refl q⟩
theorem bJ {x:Str} {j pos}:RE X G (.Constant (.str x) j pos) (rC (.str x)):=⟨kW L2.n_ λσ H Q ⟨τ,J,Q2,a2,q,k⟩=>k (.str x) J _ H rfl a2.hp .refl q⟩
theorem fG {v:V} {u:Value} (y:PV) (hg:Gl X x) (hm:X.mg x=some u) (r:RelV v u) (hr:∀J H,b_ X.K J H y v) (hd:(x == ("__debug__":Str))=false:=by decide):RE X G (.Name x pos) (rC y) :=
 ⟨kW (L2.pN hg hm r hd) λσ H Q ⟨τ,J,Q2,a2,q,k⟩=>k y J v H (hr J H) a2.hp .refl q⟩
theorem m3 {n:String} (hg:Gl X x) (hm:X.mg x=none) (hv:bootBuiltins x=some (.type n)) (hn:x≠"__name__":=by decide) (hd:(x == ("__debug__":Str))=false:=by decide):RE X G (.Name x pos) (rC (.ty n)) :=
 ⟨kW (L2.vw (v:=.ty n) hg hm hv rfl hn hd) λσ H Q ⟨τ,J,Q2,a2,q,k⟩=>k (.ty n) J _ H rfl a2.hp .refl q⟩
abbrev ml:=PV→PV→Hq→(PV→Hq→Prop)→Prop
abbrev MO:=PV→Hq→(PV→Hq→Prop)→Prop
abbrev yZ:=List PV→Hq→(PV→Hq→Prop)→Prop
def Kn (K:PySem.W.Frag) (J:Hq) (H:Hp) (Q2:PV→Hq→Prop) (Q:VK):Prop:=∀z J' u H',b_ K J' H' z u→Rep K J' H'→Ext K J H J' H'→Q2 z J'→Q u H'
def LR (K:PySem.W.Frag) (r:R2) (q:ml):Prop:=∀J H x y v w Q2 Q,b_ K J H x v→b_ K J H y w→Rep K J H→q x y J Q2→Kn K J H Q2 Q→r v w H Q
def R5 (K:PySem.W.Frag) (r:V→Hp→VK→Prop) (q:MO):Prop:=∀J H x v Q2 Q,b_ K J H x v→Rep K J H→q x J Q2→Kn K J H Q2 Q→r v H Q
def Rk (K:PySem.W.Frag) (r:List V→Hp→VK→Prop) (q:yZ):Prop:=∀J H xs vs Q2 Q,aM K J H xs vs→Rep K J H→q xs J Q2→Kn K J H Q2 Q→r vs H Q
def mj (X:Cx) (f:Value→Value→Sem Value) (q:ml):Prop:=∃r,eO X f r∧LR X.K r q
def Ro (X:Cx) (f:Value→Sem Value) (q:MO):Prop:=∃r,w6 X f r∧R5 X.K r q
def Pn (X:Cx) (q:ml):Prop:=∃r,pE X r∧LR X.K r q
def IJ (X:Cx) (f:Value) (q:yZ):Prop:=∃r,bT X f r∧Rk X.K r q
def zY (q:ml) (ta tb:cW):cW:=λτ J Q=>ta τ J λx J1=>tb τ J1 λy J2=>q x y J2 Q
def RY (q:MO) (ta:cW):cW:=λτ J Q=>ta τ J λx J1=>q x J1 Q
theorem pK {r:R2} {q:ml} (lr:LR X.K r q):∀σ H Q,LE X.K G (zY q ta tb) σ H Q→L2.F5 r (LE X.K G ta) (LE X.K G tb) σ H Q:=λσ H Q ⟨τ,J,Q2,a2,h,k⟩ =>
 ⟨τ,J,_,a2,h,λx J1 v H1 rx r1 e1 q1=>⟨τ,J1,_,a2.go r1 e1,q1,λy J2 w H2 ry r2 e2 q2 =>
  lr J2 H2 x y v w Q2 Q (e2.rep rx) ry r2 q2 λz J' u H' rz rr ee qq=>k z J' u H' rz rr ((e1.trans e2).trans ee) qq⟩⟩
theorem aZ {op:Operator} {q:ml} (ho:mj X (binaryOp op) q) (ha:RE X G a ta) (hb:RE X G b tb):RE X G (.BinOp a op b pos) (zY q ta tb):=by
 obtain ⟨r,h,lr⟩:=ho
 exact ⟨kW (L2.bj h ha.run hb.run) (pK lr)⟩
theorem ud {op:UnaryOp} {q:MO} (ho:Ro X (unaryOp op) q) (ha:RE X G a ta):RE X G (.UnaryOp op a pos) (RY q ta):=by
 obtain ⟨r,h,lr⟩:=ho
 exact ⟨kW (L2.Bn h ha.run) λσ H Q ⟨τ,J,Q2,a2,h,k⟩=>⟨τ,J,_,a2,h,λx J1 v H1 rx r1 e1 q1 =>
  lr J1 H1 x v Q2 Q rx r1 q1 λz J' u H' rz rr ee qq=>k z J' u H' rz rr (e1.trans ee) qq⟩⟩
theorem aw {q:ml} (hr:Pn X q) (ha:RE X G a ta) (hb:RE X G b tb) (hs:cT b:=by exact λ_ _=>rfl):RE X G (.Subscript a b pos) (zY q ta tb):=by
 obtain ⟨r,h,lr⟩:=hr
 exact ⟨kW (L2.bW h ha.run hb.run hs) (pK lr)⟩
theorem gX {op:CmpOp} {q:ml} (ho:mj X (compareOp op) q) (ha:RE X G a ta) (hb:RE X G b tb) (hm:behindInMarks op b=false:=by first | exact L2.eD _ | with_unfolding_all rfl):RE X G (.Compare a [op] [b] pos) (zY q ta tb):=by
 obtain ⟨r,h,lr⟩:=ho
 exact ⟨kW (L2.pM h ha.run hb.run hm) (pK lr)⟩
def rB (t:cW):lD:=λτ J Q=>t τ J λx J1=>Jg x λk=>Q k J1
theorem aI {op:CmpOp} {q:ml} (ho:mj X (compareOp op) q) (ha:RE X G a ta) (hb:RE X G b tb) (hm:behindInMarks op b=false:=by first | exact L2.eD _ | with_unfolding_all rfl):RT X G (.Compare a [op] [b] pos) (rB (zY q ta tb)):=by
 obtain ⟨r,h,lr⟩:=ho
 refine ⟨O_ (L2.c_ h ha.run hb.run hm) λσ H Q ⟨τ,J,Q2,a2,h,k⟩=>?_⟩
 refine pK lr σ H _ ⟨τ,J,_,a2,h,λz J' u H' rz rr ee qq=>?_⟩
 obtain ⟨b,rfl,q⟩:=n6 qq
 exact ⟨b,rz,k b J' H' rr ee q⟩
theorem bO (h:RE X G e te) (he:∀whole,isTrue e X.env whole=(do let v ← whole;standAt e.pos;holding [v] (truthy v)):=by intro _;rfl):RT X G e (rB te) :=
 ⟨O_ (L2.zT h.run he) λσ H Q ⟨τ,J,Q2,a2,h,k⟩=>⟨τ,J,_,a2,h,λz J' u H' rz rr ee qq=>by obtain ⟨b,eb,q⟩:=n6 qq;subst eb;exact ⟨b,rz,k b J' H' rr ee q⟩⟩⟩
def wK (J:Hq):PV→Option Bool
 | .non=>some false
 | .bl b=>some b
 | .int i=>some (i != 0)
 | .tup xs=>some (!xs.isEmpty)
 | .fl xs=>some (!xs.isEmpty)
 | .ref a=>match J a with
  | some (.lst xs)=>some (!xs.isEmpty)
  | some (.dct kvs _)=>some (!kvs.isEmpty)
  | _=>none
 | _=>none
theorem gy {α β:Type} {xs:List α} {ys:List β} (h:xs.length=ys.length):xs.isEmpty=ys.isEmpty:=by cases xs <;> cases ys <;> simp_all
theorem IC {K:PySem.W.Frag} {J:Hq} {H:Hp} {x:PV} {v:V} {k:Bool} (r:b_ K J H x v) (hp:Rep K J H) (h:wK J x=some k):L2.Kc K v H k:=by
 cases x with
 | non=>cases r;cases h;rfl
 | bl b=>cases r;cases h;rfl
 | int i=>cases r;cases h;rfl
 | str s=>cases h
 | ty n=>cases h
 | tup xs=>obtain ⟨a,vs,rfl,h1,h2⟩:=r;cases h;exact .inr (.inl ⟨vs,h1,by rw [gy h2.length]⟩)
 | fl xs=>obtain ⟨a,vs,rfl,h1,h2⟩:=r;cases h;exact .inl ⟨vs,h1.sq,by rw [gy h2.length]⟩
 | ref a =>
  cases r
  unfold wK at h
  dsimp only at h
  cases e:J a with
  | none=>rw [e] at h;cases h
  | some o =>
   rw [e] at h
   have z:=hp a o e
   cases o with
   | lst xs=>obtain ⟨vs,h1,h2⟩:=z;cases h;exact .inl ⟨vs,.inl (.inl h1),by rw [gy h2.length]⟩
   | ins C fs=>cases h
   | tab=>cases h
   | dtp hs ks=>cases h
   | dct kvs ep =>
    obtain ⟨gs,h1,h2⟩:=z;cases h
    refine .inr (.inr ⟨gs,ep,h1,?_⟩)
    have:=congrArg Tt h2.1
    simp only [Sm] at this
    rw [gy this]
def Ox (te:cW):lD:=λτ J Q=>te τ J λx J1=>vo (wK J1 x) λk=>Q k J1
theorem LW (h:RE X G e te) (he:∀whole,isTrue e X.env whole=(do let v ← whole;standAt e.pos;holding [v] (truthy v)):=by intro _;rfl):RT X G e (Ox te) :=
 ⟨O_ (L2.Fi h.run he) λσ H Q ⟨τ,J,Q2,a2,h,k⟩=>⟨τ,J,_,a2,h,λz J' u H' rz rr ee qq=>let ⟨b,eb,q⟩:=dZ qq;⟨b,IC rz rr eb,k b J' H' rr ee q⟩⟩⟩
def LF (t u:lD):lD:=λτ J Q=>t τ J λc J1=>if c=true then u τ J1 Q else Q false J1
def QC (t u:lD):lD:=λτ J Q=>t τ J λc J1=>if c=true then Q true J1 else u τ J1 Q
def Ol (t:lD):lD:=λτ J Q=>t τ J λc J1=>Q (!c) J1
theorem cK (ha:RT X G a tA):RT X G (.UnaryOp .Not a pos) (Ol tA):=⟨O_ (L2.zS ha.run) λσ H Q ⟨τ,J,Q2,a2,h,k⟩=>⟨τ,J,_,a2,h,λb J' H' rr ee q=>k _ J' H' rr ee q⟩⟩
theorem fH (ha:RT X G a tA):RW X G (.BoolOp .And [a] pos) tA:=⟨L2.pQ ha.run⟩
theorem f_ (ha:RT X G a tA):RW X G (.BoolOp .Or [a] pos) tA:=⟨L2.vN ha.run⟩
theorem DO {σ:L2.St} {H:Hp} {Q:Bool→Hp→Prop}:LT X.K G (LF tA tB') σ H Q→L2.F0 (LT X.K G tA) (LT X.K G tB') σ H Q:=λ⟨τ,J,Q2,a2,h,k⟩ =>
 ⟨τ,J,_,a2,h,λb J' H' rr ee q=>by
  cases b with
  | true=>simp only [if_true] at q ⊢;exact ⟨τ,J',Q2,a2.go rr ee,q,λb J2 H2 r2 e2 q2=>k b J2 H2 r2 (ee.trans e2) q2⟩
  | false=>simp only [SJ,if_false] at q ⊢;exact k _ J' H' rr ee q⟩
theorem HA {σ:L2.St} {H:Hp} {Q:Bool→Hp→Prop}:LT X.K G (QC tA tB') σ H Q→L2.OK (LT X.K G tA) (LT X.K G tB') σ H Q:=λ⟨τ,J,Q2,a2,h,k⟩ =>
 ⟨τ,J,_,a2,h,λb J' H' rr ee q=>by
  cases b with
  | false=>simp only [SJ,if_false] at q ⊢;exact ⟨τ,J',Q2,a2.go rr ee,q,λb J2 H2 r2 e2 q2=>k b J2 H2 r2 (ee.trans e2) q2⟩
  | true=>simp only [if_true] at q ⊢;exact k _ J' H' rr ee q⟩
theorem gY (ha:RT X G a tA) (hb:RW X G (.BoolOp .And (b :: rest) pos) tB'):RW X G (.BoolOp .And (a :: b :: rest) pos) (LF tA tB'):=⟨RL (L2.vM ha.run hb.run) λσ H Q h=>DO h⟩
theorem j4 (ha:RT X G a tA) (hb:RW X G (.BoolOp .Or (b :: rest) pos) tB'):RW X G (.BoolOp .Or (a :: b :: rest) pos) (QC tA tB'):=⟨RL (L2.Bx ha.run hb.run) λσ H Q h=>HA h⟩
theorem dT (h:RW X G e tA):RT X G e tA:=⟨h.run.pt⟩
def Jw (ta tb:cW):cW:=λτ J Q=>ta τ J λx J1=>Jg x λc=>if c=true then tb τ J1 Q else Q (.bl false) J1
def Om (ta tb:cW):cW:=λτ J Q=>ta τ J λx J1=>Jg x λc=>if c=true then Q (.bl true) J1 else tb τ J1 Q
def JA (ta:cW):cW:=λτ J Q=>ta τ J λx J1=>Jg x λc=>Q (.bl (!c)) J1
theorem vS {op} (h:RE X G a ta):RE X G (.BoolOp op [a] pos) ta:=⟨L2.zM h.run⟩
theorem z_ (ha:RE X G a ta) (hb:RE X G (.BoolOp .And (b :: rest) pos) tb):RE X G (.BoolOp .And (a :: b :: rest) pos) (Jw ta tb):=⟨kW (L2.zJ ha.run hb.run) λσ H Q ⟨τ,J,Q2,a2,h,k⟩ =>
 ⟨τ,J,_,a2,h,λx J' v H' rx rr ee qq=>by
  obtain ⟨c,ec,q⟩:=n6 qq
  subst ec
  refine ⟨c,rx,?_⟩
  cases c with
  | true=>simp only [if_true] at q ⊢;exact ⟨τ,J',Q2,a2.go rr ee,q,λz J2 u H2 rz r2 e2 q2=>k z J2 u H2 rz r2 (ee.trans e2) q2⟩
  | false=>simp only [SJ,if_false] at q ⊢;exact k (.bl false) J' _ H' rfl rr ee q⟩⟩
theorem OA (ha:RE X G a ta) (hb:RE X G (.BoolOp .Or (b :: rest) pos) tb):RE X G (.BoolOp .Or (a :: b :: rest) pos) (Om ta tb):=⟨kW (L2.Fe ha.run hb.run) λσ H Q ⟨τ,J,Q2,a2,h,k⟩ =>
 ⟨τ,J,_,a2,h,λx J' v H' rx rr ee qq=>by
  obtain ⟨c,ec,q⟩:=n6 qq
  subst ec
  refine ⟨c,rx,?_⟩
  cases c with
  | false=>simp only [SJ,if_false] at q ⊢;exact ⟨τ,J',Q2,a2.go rr ee,q,λz J2 u H2 rz r2 e2 q2=>k z J2 u H2 rz r2 (ee.trans e2) q2⟩
  | true=>simp only [if_true] at q ⊢;exact k (.bl true) J' _ H' rfl rr ee q⟩⟩
theorem LN (ha:RE X G a ta):RE X G (.UnaryOp .Not a pos) (JA ta):=⟨kW (L2.zL ha.run) λσ H Q ⟨τ,J,Q2,a2,h,k⟩ =>
 ⟨τ,J,_,a2,h,λx J' v H' rx rr ee qq=>by obtain ⟨c,ec,q⟩:=n6 qq;subst ec;exact ⟨c,rx,k (.bl (!c)) J' _ H' rfl rr ee q⟩⟩⟩
def RQ (t:lD) (ta tb:cW):cW:=λτ J Q=>t τ J λc J1=>if c=true then ta τ J1 Q else tb τ J1 Q
theorem Oz (hc:RT X G c tA) (ha:RE X G a ta) (hb:RE X G b tb):RE X G (.IfExp c a b pos) (RQ tA ta tb):=⟨kW (L2.qS hc.run ha.run hb.run) λσ H Q ⟨τ,J,Q2,a2,h,k⟩ =>
 ⟨τ,J,_,a2,h,λc J' H' rr ee q=>by
  cases c with
  | true=>simp only [if_true] at q ⊢;exact ⟨τ,J',Q2,a2.go rr ee,q,λz J2 u H2 rz r2 e2 q2=>k z J2 u H2 rz r2 (ee.trans e2) q2⟩
  | false=>simp only [SJ,if_false] at q ⊢;exact ⟨τ,J',Q2,a2.go rr ee,q,λz J2 u H2 rz r2 e2 q2=>k z J2 u H2 rz r2 (ee.trans e2) q2⟩⟩⟩
def yc:oJ:=λ_ J Q=>Q [] J
def oV (ta:cW) (tr:oJ):oJ:=λτ J Q=>ta τ J λx J1=>tr τ J1 λxs J2=>Q (x :: xs) J2
theorem ag:RA X G [] yc:=⟨Qp L2.bG λσ H Q ⟨τ,J,Q2,a2,h,k⟩=>k [] J [] H rfl a2.hp .refl h⟩
theorem af (ha:RE X G e te) (hr:RA X G es t) (hs:starEach (e :: es) X.env=(false,eval e X.env) :: starEach es X.env:=by rfl):RA X G (e :: es) (oV te t) :=
 ⟨Qp (L2.aT ha.run hr.run hs) λσ H Q ⟨τ,J,Q2,a2,h,k⟩=>⟨τ,J,_,a2,h,λx J' v H' rx rr ee q=>⟨τ,J',_,a2.go rr ee,q,λxs J2 vs H2 rs r2 e2 q2=>k (x :: xs) J2 (v :: vs) H2 ⟨v,vs,rfl,e2.rep rx,rs⟩ r2 (ee.trans e2) q2⟩⟩⟩
def vP:V→PV
 | .non=>.non | .bl b=>.bl b | .int i=>.int i | .str x=>.str x | _=>.non
theorem q_ {K:PySem.W.Frag} {J:Hq} {H:Hp}:∀{es:List Expr} {vs:List V},es.map uL=vs.map some→aM K J H (vs.map vP) vs
 | [],[],_=>rfl
 | [],_ :: _,h=>by cases h
 | _ :: _,[],h=>by cases h
 | e :: es,v :: vs,h=>by
  rw [Sx,Sx] at h
  injection h with h1 h2
  refine ⟨v,vs,rfl,?_,q_ h2⟩
  cases e with
  | Constant c j pos =>
   cases c with
   | int i=>cases h1;rfl
   | str x=>cases h1;rfl
   | bool b=>cases h1;rfl
   | _=>cases h1
  | _=>cases h1
theorem zZ {es:List Expr} (vs:List V) (h:es.map uL=vs.map some) (xs:List PV) (hx:vs.map vP=xs):RA X G es (λ_ J Q=>Q xs J) :=
 ⟨Qp (qP vs h) λσ H Q ⟨τ,J,Q2,a2,q,k⟩=>k _ J _ H (by rw [← hx];exact q_ h) a2.hp .refl q⟩
def Oy (t:oJ):cW:=λτ J Q=>t τ J λxs J1=>xs.length≤sizeLine∧Q (.tup xs) J1
theorem cA {x1} (h:RA X G es t):RE X G (.Tuple es x1 pos) (Oy t):=⟨kW (L2.qT h.run) λσ H Q ⟨τ,J,Q2,a2,h,k⟩=>⟨τ,J,_,a2,h,λxs J' vs H' rs rr ee ⟨hl,q⟩ =>
 ⟨by rw [← rs.length];exact hl,λp hp=>by
  have sm:=bA.new hp (.tup vs)
  have e2:=Ext.same (K:=X.K) (J:=J') sm
  exact k (.tup xs) J' (.ref p) _ ⟨p,vs,rfl,.inl (.inl aE),e2.iW rs⟩ (rr.same sm) (ee.trans e2) q⟩⟩⟩
def Oj (t:oJ):cW:=λτ J Q=>t τ J λxs J1=>xs.length≤sizeLine∧∀p,J1 p=none→Q (.ref p) (put J1 p (.lst xs))
theorem q9 (h:RA X G es t):RE X G (.List es pos) (Oj t):=⟨kW (L2.jR h.run) λσ H Q ⟨τ,J,Q2,a2,h,k⟩=>⟨τ,J,_,a2,h,λxs J' vs H' rs rr ee ⟨hl,q⟩ =>
 ⟨by rw [← rs.length];exact hl,λp hp=>k (.ref p) _ (.ref p) _ rfl (rr.Es hp rs) (ee.trans (.laid hp)) (q p (rr.free hp))⟩⟩⟩
def RP (t:oJ):cW:=λτ J Q=>t τ J λxs J1=>xs.length≤sizeLine∧Q (.fl xs) J1
theorem uZ {K:PySem.W.Frag} {J:Hq} {H:Hp} {xs:List PV} {vs:List V} {p:Addr} (rr:Rep K J H) (rs:aM K J H xs vs) (hp:H p=none):b_ K J (upd H p (.lst vs)) (.fl xs) (.ref p)∧Rep K J (upd H p (.lst vs))∧Ext K J H J (upd H p (.lst vs)):=by
 have sm:=bA.new hp (.lst vs)
 have e2:=Ext.same (K:=K) (J:=J) sm
 exact ⟨⟨p,vs,rfl,.inl ⟨rr.free hp,.inl aE⟩,e2.iW rs⟩,rr.same sm,e2⟩
theorem oX (h:RA X G es t):RE X G (.List es pos) (RP t):=⟨kW (L2.jR h.run) λσ H Q ⟨τ,J,Q2,a2,h,k⟩=>⟨τ,J,_,a2,h,λxs J' vs H' rs rr ee ⟨hl,q⟩ =>
 ⟨by rw [← rs.length];exact hl,λp hp=>let ⟨x1,x2,x3⟩:=uZ rr rs hp;k (.fl xs) _ (.ref p) _ x1 x2 (ee.trans x3) q⟩⟩⟩
abbrev Mu:=Sr→Hq→(Option Int→Hq→Prop)→Prop
def LO (K:PySem.W.Frag) (G:G2) (t:Mu):TO:=λσ H Q=>∃τ J Q2,wM K G τ J σ H∧t τ J Q2∧∀b J' H',Rep K J' H'→Ext K J H J' H'→Q2 b J'→Q b H'
structure RO (X:Cx) (G:G2) (e:Option Expr) (t:Mu):Prop where
 run:L2.PO X e (LO X.K G t)
theorem RJ {X:Cx} {e:Option Expr} {t t':TO} (h:L2.PO X e t) (k:∀σ H Q,t' σ H Q→t σ H Q):L2.PO X e t':=λpins s σ H Q I q=>h pins s σ H Q I (k _ _ _ q)
def BD:Mu:=λ_ J Q=>Q none J
def JB (t:cW):Mu:=λτ J Q=>t τ J λx J1=>Dt x λi=>Q (some i) J1
theorem kJ:RO X G none BD:=⟨RJ L2.pO λσ H Q ⟨τ,J,Q2,a2,h,k⟩=>k none J H a2.hp .refl h⟩
theorem kK (h:RE X G e te):RO X G (some e) (JB te):=⟨RJ (L2.kE h.run) λσ H Q ⟨τ,J,Q2,a2,h,k⟩=>⟨τ,J,_,a2,h,λx J' v H' rx rr ee qq=>by obtain ⟨i,ei,q⟩:=gQ qq;subst ei;exact ⟨i,rx,k _ J' H' rr ee q⟩⟩⟩
abbrev Cn:=PV→Option Int→Option Int→Hq→(PV→Hq→Prop)→Prop
def Pr (X:Cx) (q:Cn):Prop:=∃r,sH X r∧∀J H x lo hi v Q2 Q,b_ X.K J H x v→Rep X.K J H→q x lo hi J Q2→Kn X.K J H Q2 Q→r v lo hi H Q
def RX (q:Cn) (te:cW) (tl th:Mu):cW:=λτ J Q=>te τ J λx J1=>tl τ J1 λl J2=>th τ J2 λu J3=>q x l u J3 Q
theorem iy {lo hi:Option Expr} {tl th:Mu} {q:Cn} (hr:Pr X q) (he:RE X G e te) (hl:RO X G lo tl) (hu:RO X G hi th):RE X G (.Subscript e (.Slice lo hi none p2) pos) (RX q te tl th):=by
 obtain ⟨r,h,lr⟩:=hr
 exact ⟨kW (L2.jS h he.run hl.run hu.run) λσ H Q ⟨τ,J,Q2,a2,h,k⟩=>⟨τ,J,_,a2,h,λx J' v H' rx rr ee q1=>⟨τ,J',_,a2.go rr ee,q1,λl J2 H2 r2 e2 q2 =>
  ⟨τ,J2,_,a2.go r2 (ee.trans e2),q2,λu J3 H3 r3 e3 q3=>lr J3 H3 x l u v Q2 Q ((e2.trans e3).rep rx) r3 q3 λz J4 w H4 rz r4 e4 q4=>k z J4 w H4 rz r4 (((ee.trans e2).trans e3).trans e4) q4⟩⟩⟩⟩
def Pa (q:yZ) (t:oJ):cW:=λτ J Q=>t τ J λxs J1=>q xs J1 Q
theorem AG {r:List V→Hp→VK→Prop} {q:yZ} (lr:Rk X.K r q):∀σ H Q,LE X.K G (Pa q t) σ H Q→L2.JL r (LA X.K G t) σ H Q:=λσ H Q ⟨τ,J,Q2,a2,h,k⟩ =>
 ⟨τ,J,_,a2,h,λxs J1 vs H1 rs r1 e1 q1=>lr J1 H1 xs vs Q2 Q rs r1 q1 λz J' u H' rz rr ee qq=>k z J' u H' rz rr (e1.trans ee) qq⟩
theorem aQ {id:String} {q:yZ} (hc:IJ X (.builtin id) q) (hg:Gl X x) (hm:X.mg x=none) (hv:bootBuiltins x=some (.builtin id)) (ha:RA X G (e :: es) t) (hn:x≠"__name__":=by decide) (hdb:(x == ("__debug__":Str))=false:=by decide)
  (he:starEach (e :: es) X.env=(false,eval e X.env) :: starEach es X.env:=by rfl) (hpl:(backTo pos (starEach es X.env)).any (·.1)=false:=by rfl):RE X G (.Call (.Name x p) (e :: es) [] pos) (Pa q t):=by
 obtain ⟨r,h,lr⟩:=hc
 exact ⟨kW (L2.dy h hg hm hv ha.run hn hdb he hpl) (AG lr)⟩
theorem de {T:String} {q:yZ} (hc:IJ X (.type T) q) (hg:Gl X x) (hm:X.mg x=none) (hv:bootBuiltins x=some (.type T)) (ha:RA X G (e :: es) t) (hn:x≠"__name__":=by decide) (hdb:(x == ("__debug__":Str))=false:=by decide)
  (he:starEach (e :: es) X.env=(false,eval e X.env) :: starEach es X.env:=by rfl) (hpl:(backTo pos (starEach es X.env)).any (·.1)=false:=by rfl):RE X G (.Call (.Name x p) (e :: es) [] pos) (Pa q t):=by
 obtain ⟨r,h,lr⟩:=hc
 exact ⟨kW (L2.n9 h hg hm hv ha.run hn hdb he hpl) (AG lr)⟩
abbrev Dq:=PV→List PV→Hq→(PV→Hq→Prop)→Prop
def Kb (X:Cx) (T id:String) (q:Dq):Prop:=∃r,pF X id r∧∀J H x xs v vs Q2 Q,b_ X.K J H x v→aM X.K J H xs vs→Rep X.K J H→q x xs J Q2→Kn X.K J H Q2 Q→r v vs H Q
def MJ (T:String) (J:Hq):PV→Prop
 | .str _=>T="str"
 | .fl _=>T="list"
 | .ref a=>(T="list"∧∃xs,J a=some (.lst xs))∨(T="dict"∧∃kvs ep,J a=some (.dct kvs ep))
 | _=>False
theorem B' {K:PySem.W.Frag} {T:String} {J:Hq} {H:Hp} {x:PV} {v:V} (r:b_ K J H x v) (hp:Rep K J H) (h:MJ T J x):L2.Pj K T v H:=by
 cases x with
 | str s=>cases r;exact h
 | fl xs=>obtain ⟨a,vs,rfl,h1,h2⟩:=r;exact .inl ⟨h,vs,h1.sq⟩
 | ref a =>
  cases r
  rcases h with ⟨h,xs,e⟩ | ⟨h,kvs,ep,e⟩
  ·obtain ⟨vs,h1,_⟩:=hp _ _ e;exact .inl ⟨h,vs,.inl (.inl h1)⟩
  ·obtain ⟨gs,h1,_⟩:=hp _ _ e;exact .inr (.inr (.inl ⟨h,.inr ⟨gs,ep,h1⟩⟩))
 | _=>cases h
def Qw (T:String) (q:Dq) (to:cW) (t:oJ):cW:=λτ J Q=>to τ J λx J1=>MJ T J1 x∧t τ J1 λxs J2=>q x xs J2 Q
def Oc (T:String) (q:Dq) (to:cW):cW:=λτ J Q=>to τ J λx J1=>MJ T J1 x∧q x [] J1 Q
theorem oW {name:Str} {T id:String} {q:Dq} (pa:PlainAttrs T) (slot:Slot T name id) (hty:typeOf (.builtin id)=pure (.type "method_descriptor")) (hm:Kb X T id q) (ho:RE X G o to) (ha:RA X G (e :: es) t)
  (hbase:attributeBase o name X.env (eval o X.env)=eval o X.env:=by rfl)
  (hfew:((backTo cpos (starEach (e :: es) X.env)).all (λx=>!x.1) && (backToKw cpos (keywordEach [] X.env)).all (λx=>x.1.isSome)
   && decide ((e :: es).length + ([]:List Keyword).length + (if ([]:List Keyword).isEmpty then 0 else 1) < 30))=true:=by rfl)
  (hline:(apos.endLine == cpos.line)=true:=by rfl) (hs:starEach (e :: es) X.env=(false,eval e X.env) :: starEach es X.env:=by rfl) (hplain:(backTo cpos (starEach es X.env)).any (·.1)=false:=by rfl) :
  RE X G (.Call (.Attribute o name apos) (e :: es) [] cpos) (Qw T q to t):=by
 obtain ⟨r,h,lr⟩:=hm
 exact ⟨kW (L2.qR pa slot hty h ho.run ha.run hbase hfew hline hs hplain) λσ H Q ⟨τ,J,Q2,a2,h,k⟩=>⟨τ,J,_,a2,h,λx J1 v H1 rx r1 e1 ⟨ty,q1⟩=>⟨B' rx r1 ty,τ,J1,_,a2.go r1 e1,q1,λxs J2 vs H2 rs r2 e2 q2 =>
  lr J2 H2 x xs v vs Q2 Q (e2.rep rx) rs r2 q2 λz J' u H' rz rr ee qq=>k z J' u H' rz rr ((e1.trans e2).trans ee) qq⟩⟩⟩
theorem LM {name:Str} {T id:String} {q:Dq} (pa:PlainAttrs T) (slot:Slot T name id) (hty:typeOf (.builtin id)=pure (.type "method_descriptor")) (hm:Kb X T id q) (ho:RE X G o to)
  (hbase:attributeBase o name X.env (eval o X.env)=eval o X.env:=by rfl) (hline:(apos.endLine == cpos.line)=true:=by rfl):RE X G (.Call (.Attribute o name apos) [] [] cpos) (Oc T q to):=by
 obtain ⟨r,h,lr⟩:=hm
 exact ⟨kW (L2.Ll pa slot hty h ho.run hbase hline) λσ H Q ⟨τ,J,Q2,a2,h,k⟩=>⟨τ,J,_,a2,h,λx J1 v H1 rx r1 e1 ⟨ty,q1⟩=>⟨B' rx r1 ty,
  lr J1 H1 x [] v [] Q2 Q rx rfl r1 q1 λz J' u H' rz rr ee qq=>k z J' u H' rz rr (e1.trans ee) qq⟩⟩⟩
end
end Ov
namespace Ov
open PySem PySem.Spec PyProof.Rows
open L2 (V HO Hp Inv Cx VK XK TE TT TA TS TG pG TI TO ju Ends wN Loc Gl Rd RelV Vals eO w6 bT pE sH pF jt R2 upd aE aL cF gr Sp rT It bA cT bI Passes o8 aD Meth Mk Binds aH b7 av c7 fN d_)
abbrev cx:=List PV→Hq→(PV→Hq→Prop)→(Addr→Hq→Prop)→Prop
def JX (K:PySem.W.Frag) (J:Hq) (H:Hp) (E2:Addr→Hq→Prop) (E:XK):Prop:=∀c J' H',Rep K J' H'→Ext K J H J' H'→E2 c J'→E (.ref c) none H'
def dk (K:PySem.W.Frag) (sp:cx):Sp:=λvs H Q E=>∃xs J Q2 E2,aM K J H xs vs∧Rep K J H∧sp xs J Q2 E2∧Kn K J H Q2 Q∧JX K J H E2 E
theorem JX.ext {K:PySem.W.Frag} {J J':Hq} {H H':Hp} {E2:Addr→Hq→Prop} {E:XK} (k:JX K J H E2 E) (e:Ext K J H J' H'):JX K J' H' E2 E:=λc J1 H1 r x q=>k c J1 H1 r (e.trans x) q
theorem _root_.L2.aH.R9 {P:Program} {w:World} {K:PySem.W.Frag} {mg:Str→Option Value} {base:Heap} {k:Nat} {f:Addr} {fd:FuncData} {ps:List Str} {sp:Sp} (F:aH P w K mg base L2.pZ k f fd ps sp):aH P w K mg base (cQ P w) k f fd ps sp :=
 ⟨F.len,λA outer s H args us vs Q E hr he hb hv hs=>codeAny_mono (F.run A outer s H args us vs Q E hr he hb hv hs) λr s' q=>by
  cases r with
  | error e=>exact False.elim q
  | ok fl=>cases fl <;> exact q⟩
theorem _root_.L2.aH.OX {P:Program} {w:World} {K:PySem.W.Frag} {mg:Str→Option Value} {base:Heap} {k:Nat} {f:Addr} {fd:FuncData} {ps:List Str} {sp:Sp} (F:aH P w K mg base (cQ P w) k f fd ps sp):aH P w K mg base L2.pZ k f fd ps (λvs H Q _=>sp vs H Q L2.E0) :=
 ⟨λvs H Q E q=>F.len vs H Q _ q,λA outer s H args us vs Q E hr he hb hv hs=>codeAny_mono (F.run A outer s H args us vs Q _ hr he hb hv hs) λr s' q=>by
  cases r with
  | error e=>obtain ⟨_,_,_,_,_,z⟩:=q;exact z.elim
  | ok fl=>cases fl <;> exact q⟩
def bz (P:Program) (w:World) (K:PySem.W.Frag) (mg:Str→Option Value) (base:Heap) (k:Nat) (x:Str) (ps:List Str) (sp:cx):Prop:=Dw P w K mg base k x ps (dk K sp)
theorem _root_.Ov.rV.lift {P:Program} {w:World} {K:PySem.W.Frag} {mg:Str→Option Value} {base:Heap} {k:Nat} {x:Str} {ps:List Str} {sp:Sp} (C:rV P w K mg base k x ps sp) {sp':cx}
  (h:∀xs J vs H Q2 E2 Q E,aM K J H xs vs→Rep K J H→sp' xs J Q2 E2→Kn K J H Q2 Q→sp vs H Q E):bz P w K mg base k x ps sp':=by
 obtain ⟨f,fd,F,r⟩:=C
 exact ⟨f,fd,(F.R9).imp λvs H Q E ⟨xs,J,Q2,E2,a,b,c,d,_⟩=>h xs J vs H Q2 E2 Q E a b c d,r⟩
theorem Dw.lift {P:Program} {w:World} {K:PySem.W.Frag} {mg:Str→Option Value} {base:Heap} {k:Nat} {x:Str} {ps:List Str} {sp:Sp} (C:Dw P w K mg base k x ps sp) {sp':cx}
  (h:∀xs J vs H Q2 E2 Q E,aM K J H xs vs→Rep K J H→sp' xs J Q2 E2→Kn K J H Q2 Q→JX K J H E2 E→sp vs H Q E):bz P w K mg base k x ps sp':=by
 obtain ⟨f,fd,F,r⟩:=C
 exact ⟨f,fd,F.imp λvs H Q E ⟨xs,J,Q2,E2,a,b,c,d,e⟩=>h xs J vs H Q2 E2 Q E a b c d e,r⟩
section
variable {X:Cx} {G:G2} {a b c e o value:Expr} {es rest:List Expr} {ta tb te tc to tv:cW} {tA tB':lD} {t:oJ} {pos px p p2 apos cpos pos':Pos} {x:Str} {i j:Nat} {E:XK} {E2:Addr→Hq→Prop}
structure Dp (X:Cx) (G:G2) (E2:Addr→Hq→Prop) (E:XK):Prop where
 pass:Passes (cQ X.prog X.w) X E
 kn:JX X.K G.1 G.2 E2 E
def BB (sp:cx) (E2:Addr→Hq→Prop) (t:oJ):cW:=λτ J Q=>t τ J λxs J1=>sp xs J1 Q E2
theorem aR {k k':Nat} {ps:List Str} {sp:cx} (C:bz X.prog X.w X.K X.mg X.base k x ps sp) (B:Dp X G E2 E) (hr:bI k' X.A) (ha:RA X G (e :: es) t) (hk:k≤k':=by decide) (hg:Gl X x:=by rfl)
  (hdb:(x == ("__debug__":Str))=false:=by decide) (he:starEach (e :: es) X.env=(false,eval e X.env) :: starEach es X.env:=by rfl) (hpl:(backTo pos (starEach es X.env)).any (·.1)=false:=by rfl) :
  RE X G (.Call (.Name x p) (e :: es) [] pos) (BB sp E2 t) :=
 ⟨kW (HC C B.pass hr hk hg ha.run hdb he hpl) λσ H Q ⟨τ,J,Q2,a2,h,k⟩=>⟨τ,J,_,a2,h,λxs J1 vs H1 rs r1 e1 q1=>by
  simp only [Tb]
  exact ⟨xs,J1,Q2,E2,rs,r1,q1,λz J' u H' rz rr ee qq=>k z J' u H' rz rr (e1.trans ee) qq,B.kn.ext (a2.ext.trans e1)⟩⟩⟩
def Od (C:Addr) (ta:cW) (f:Str):cW:=λτ J Q=>ta τ J λx J1=>Bi x λa=>K7 C (J1 a) λfs=>vo (fs.lookup f) λv=>Q v J1
theorem aP {C:Addr} {f:Str} (cl:o8 X.K C) (na:aD X.K C f) (he:RE X G e ta) (hb:attributeBase e f X.env (eval e X.env)=eval e X.env:=by rfl):RE X G (.Attribute e f pos) (Od C ta f) :=
 ⟨kW (L2.Lo he.run hb) λσ H Q ⟨τ,J,Q2,a2,h,k⟩=>⟨τ,J,_,a2,h,λx J1 v H1 rx r1 e1 hh=>by
  obtain ⟨a,ex,hh⟩:=fY hh;obtain ⟨fs,ja,hh⟩:=zE hh;obtain ⟨y,lk,q⟩:=dZ hh
  subst ex;cases rx
  obtain ⟨dx,gs,ha,rf⟩:=r1 _ _ ja
  obtain ⟨w,lw,rw'⟩:=rf.look lk
  exact ⟨a,C,dx,gs,w,rfl,ha,cl,na,lw,k y J1 w H1 rw' r1 e1 q⟩⟩⟩
structure cn (P:Program) (w:World) (K:PySem.W.Frag) (mg:Str→Option Value) (base:Heap) (C:Addr) (k:Nat) (m:Str) (ps:List Str) (sp:cx):Prop where
 cl:o8 K C
 ex:∃f fd,Meth K C m f∧aH P w K mg base (cQ P w) k f fd ps (dk K sp)∧Binds K fd ps []
theorem cn.imp {P:Program} {w:World} {K:PySem.W.Frag} {mg:Str→Option Value} {base:Heap} {C:Addr} {k:Nat} {m:Str} {ps:List Str} {sp sp':cx} (M:cn P w K mg base C k m ps sp) (h:∀xs J Q E,sp' xs J Q E→sp xs J Q E):cn P w K mg base C k m ps sp':=by
 obtain ⟨cl,f,fd,hm,F,r⟩:=M
 exact ⟨cl,f,fd,hm,F.imp λvs H Q E ⟨xs,J,Q2,E2,a,b,c,d⟩=>⟨xs,J,Q2,E2,a,b,h _ _ _ _ c,d⟩,r⟩
def HY (C:Addr) (m:Str) (sp:cx) (E2:Addr→Hq→Prop) (ta:cW) (t:oJ):cW:=λτ J Q=>ta τ J λx J1=>Bi x λa=>K7 C (J1 a) λfs=>fs.lookup m=none∧t τ J1 λxs J2=>sp (x :: xs) J2 Q E2
theorem xJ {C:Addr} {m:Str} {sp:cx} (B:Dp X G E2 E):∀σ H Q,LE X.K G (HY C m sp E2 to t) σ H Q→L2.F4 C m (dk X.K sp) [] E (LE X.K G to) (LA X.K G t) σ H Q:=λσ H Q ⟨τ,J,Q2,a2,h,k⟩ =>
 ⟨τ,J,_,a2,h,λx J1 v H1 rx r1 e1 hh=>by
  obtain ⟨a,ex,hh⟩:=fY hh;obtain ⟨fs,ja,lk,q⟩:=zE hh
  subst ex;cases rx
  obtain ⟨dx,gs,ha,rf⟩:=r1 _ _ ja
  refine ⟨a,dx,gs,rfl,ha,rf.none lk,τ,J1,_,a2.go r1 e1,q,λxs J2 vs H2 rs r2 e2 q2=>?_⟩
  simp only [Tb]
  exact ⟨.ref a :: xs,J2,Q2,E2,⟨.ref a,vs,rfl,rfl,rs⟩,r2,q2,λz J' u H' rz rr ee qq=>k z J' u H' rz rr ((e1.trans e2).trans ee) qq,B.kn.ext ((a2.ext.trans e1).trans e2)⟩⟩
theorem bp {C:Addr} {m:Str} {k k':Nat} {ps:List Str} {sp:cx} {pl:Sem Bool} (M:cn X.prog X.w X.K X.mg X.base C k m ps sp) (B:Dp X G E2 E) (hr:bI k' X.A) (ho:RE X G o to) (ha:RA X G (e :: es) t) (hk:k≤k':=by decide)
  (hst:starEach (e :: es) X.env=(false,eval e X.env) :: starEach es X.env:=by rfl) (hpl:(backTo pos (starEach es X.env)).any (·.1)=false:=by rfl)
  (ht:eval (.Call (.Attribute o m apos) (e :: es) [] pos) X.env=(do
   let ov ← eval o X.env
   standAt apos.atName
   let (f,first) ← holding [ov] (getMethod ov m pl)
   callWith pos f first (backTo pos (starEach (e :: es) X.env)) (backToKw pos (keywordEach [] X.env))):=by rfl) :
  RE X G (.Call (.Attribute o m apos) (e :: es) [] pos) (HY C m sp E2 to t):=by
 obtain ⟨cl,f,fd,hm,F,b⟩:=M
 exact ⟨kW (L2.HF (pl:=pl) ho.run cl hm F (hr.mono hk) b .nil B.pass ha.run hst hpl ht) (xJ B)⟩
theorem bP {C:Addr} {m:Str} {k k':Nat} {ps:List Str} {sp:cx} {pl:Sem Bool} (M:cn X.prog X.w X.K X.mg X.base C k m ps sp) (B:Dp X G E2 E) (hr:bI k' X.A) (ho:RE X G o to) (hk:k≤k':=by decide)
  (ht:eval (.Call (.Attribute o m apos) [] [] pos) X.env=(do
   let ov ← eval o X.env
   standAt apos.atName
   let (f,first) ← holding [ov] (getMethod ov m pl)
   callWith pos f first (backTo pos (starEach [] X.env)) (backToKw pos (keywordEach [] X.env))):=by rfl) :
  RE X G (.Call (.Attribute o m apos) [] [] pos) (HY C m sp E2 to yc):=by
 obtain ⟨cl,f,fd,hm,F,b⟩:=M
 refine ⟨kW (L2.Fd (pl:=pl) ho.run cl hm F (hr.mono hk) b .nil B.pass ht) λσ H Q h=>?_⟩
 have z:=xJ B σ H Q h
 obtain ⟨τ,J,Q2,a2,h1,k1⟩:=z
 refine ⟨τ,J,Q2,a2,h1,λx J1 v H1 rx r1 e1 q1=>?_⟩
 obtain ⟨a,dx,fs,h2,h3,h4,τ',J',Q',a2',h5,k5⟩:=k1 x J1 v H1 rx r1 e1 q1
 exact ⟨a,dx,fs,h2,h3,h4,k5 [] J' [] H1 rfl a2'.hp .refl h5⟩
structure uH (P:Program) (w:World) (K:PySem.W.Frag) (mg:Str→Option Value) (base:Heap) (C:Addr) (k:Nat) (x:Str) (ps:List Str) (sp:cx):Prop where
 m:mg x=some (.ref C)
 ex:∃f fd,Mk K C f∧aH P w K mg base (cQ P w) k f fd ps (dk K sp)∧Binds K fd ps []
def HX (C:Addr) (sp:cx) (E2:Addr→Hq→Prop) (t:oJ):cW:=λτ J Q=>t τ J λxs J1=>∀a,J1 a=none→sp (.ref a :: xs) (put J1 a (.ins C [])) (λv J2=>v=.non∧Q (.ref a) J2) E2
theorem xF {C:Addr} {sp:cx} (B:Dp X G E2 E):∀σ H Q,LE X.K G (HX C sp E2 t) σ H Q→L2.F3 C (dk X.K sp) [] E (LA X.K G t) σ H Q:=λσ H Q ⟨τ,J,Q2,a2,h,k⟩ =>
 ⟨τ,J,_,a2,h,λxs J1 vs H1 rs r1 e1 q1 x dx hx hdx ne=>by
  have s1:=bA.new hdx (.own x)
  have hx':upd H1 dx (.own x) x=none:=by rw [aL (Ne.symm ne)];exact hx
  have r2:=r1.same s1
  have e2:Ext X.K J1 H1 (put J1 x (.ins C [])) (upd (upd H1 dx (.own x)) x (.ins C dx [])):=(Ext.same s1).trans (.laid hx')
  have r3:Rep X.K (put J1 x (.ins C [])) (upd (upd H1 dx (.own x)) x (.ins C dx [])):=r2.Av (.laid hx') x (λa ne=>ak ne) (λa o ne _ z=>by rw [aL ne];exact z) λu z=>by
   rw [aq] at z;cases z
   exact ⟨dx,[],aE,rfl,rfl⟩
  simp only [Tb]
  refine ⟨.ref x :: xs,_,_,E2,⟨.ref x,vs,rfl,rfl,e2.iW rs⟩,r3,q1 x (r1.free hx),λz J' u H' rz rr ee ⟨ez,qq⟩=>?_,B.kn.ext ((a2.ext.trans e1).trans e2)⟩
  subst ez
  exact ⟨rz,k (.ref x) J' (.ref x) H' rfl rr ((e1.trans e2).trans ee) qq⟩⟩
theorem BF {C:Addr} {k k':Nat} {ps:List Str} {sp:cx} (M:uH X.prog X.w X.K X.mg X.base C k x ps sp) (B:Dp X G E2 E) (hr:bI k' X.A) (ha:RA X G (e :: es) t) (hk:k + 1≤k':=by decide) (hg:Gl X x:=by rfl)
  (hdb:(x == ("__debug__":Str))=false:=by decide) (he:starEach (e :: es) X.env=(false,eval e X.env) :: starEach es X.env:=by rfl) (hpl:(backTo pos (starEach es X.env)).any (·.1)=false:=by rfl) :
  RE X G (.Call (.Name x p) (e :: es) [] pos) (HX C sp E2 t):=by
 obtain ⟨hm,f,fd,mk,F,b⟩:=M
 exact ⟨kW (L2.HE mk F (hr.mono hk) hg hm b .nil B.pass ha.run hdb he hpl) (xF B)⟩
theorem mZ {C:Addr} {k k':Nat} {ps:List Str} {sp:cx} (M:uH X.prog X.w X.K X.mg X.base C k x ps sp) (B:Dp X G E2 E) (hr:bI k' X.A) (hk:k + 1≤k':=by decide) (hg:Gl X x:=by rfl)
  (hdb:(x == ("__debug__":Str))=false:=by decide):RE X G (.Call (.Name x p) [] [] pos) (HX C sp E2 yc):=by
 obtain ⟨hm,f,fd,mk,F,b⟩:=M
 refine ⟨kW (L2.Fc mk F (hr.mono hk) hg hm b .nil B.pass hdb) λσ H Q h=>?_⟩
 obtain ⟨τ,J,Q2,a2,h1,k1⟩:=xF (t:=yc) B σ H Q h
 exact k1 [] J [] H rfl a2.hp .refl h1
end
section
variable {X:Cx} {G:G2} {st:Stmt} {rest:List Stmt} {t u:iB} {e tg o value:Expr} {es:List Expr} {te ta tv:cW} {tc:lD} {pos pos':Pos}
def qZ:iB:=λD τ J=>D.nx τ J
def bR (t u:iB):iB:=λD τ J=>t { D with nx:=u D } τ J
theorem aO:RB X G [] qZ:=⟨Qq L2.fF λD σ H ⟨τ,J,D2,a2,h,g⟩=>g.nx τ J σ H a2.sl a2.hp .refl h⟩
theorem aj (h1:RS X G st t) (h2:RB X G rest u):RB X G (st :: rest) (bR t u):=⟨Qq (L2.aV h1.run h2.run) λD σ H ⟨τ,J,D2,a2,h,g⟩=>⟨τ,J,{ D2 with nx:=u D2 },a2,h,
 { nx:=λτ' J' σ' H' rs rr ee q=>⟨τ',J',D2,⟨rs,rr,a2.ext.trans ee⟩,q,g.ext ee⟩,rt:=g.rt,bk:=g.bk,ct:=g.ct }⟩⟩
theorem ar (h1:RS X G st t):RB X G [st] t:=⟨L2.bH h1.run⟩
def Fu (t u:iB):iB:=λD τ J=>∃M:Sr→Hq→Prop,t { D with nx:=M } τ J∧∀τ' J',M τ' J'→u D τ' J'
theorem dF (h1:RS X G st t) (h2:RB X G rest u):RB X G (st :: rest) (Fu t u):=⟨Qq (L2.aV h1.run h2.run) λD σ H ⟨τ,J,D2,a2,⟨M,h,hm⟩,g⟩=>⟨τ,J,{ D2 with nx:=M },a2,h,
 { nx:=λτ' J' σ' H' rs rr ee q=>⟨τ',J',D2,⟨rs,rr,a2.ext.trans ee⟩,hm _ _ q,g.ext ee⟩,rt:=g.rt,bk:=g.bk,ct:=g.ct }⟩⟩
def Qx:iB:=λD τ J=>D.bk τ J
def Qy:iB:=λD τ J=>D.ct τ J
def BC (te:cW):iB:=λD τ J=>te τ J λ_ J1=>D.nx τ J1
theorem a_ (he:RE X G e te) (hs:swapsWith e none pos.line X.env=pure false:=by rfl):RS X G (.Expr e pos) (BC te):=⟨zQ (L2.kF he.run hs) λD σ H ⟨τ,J,D2,a2,h,g⟩ =>
 ⟨τ,J,_,a2,h,λx J' v H' rx rr ee q=>g.nx τ J' σ H' (a2.sl.ext ee) rr ee q⟩⟩
def Ot (te:cW):iB:=λD τ J=>te τ J D.rt
theorem aB (he:RE X G e te):RS X G (.Return (some e) pos) (Ot te):=⟨zQ (L2.dn he.run) λD σ H ⟨τ,J,D2,a2,h,g⟩=>⟨τ,J,_,a2,h,λx J' v H' rx rr ee q=>g.rt x J' v H' rx rr ee q⟩⟩
def JC:iB:=λD _ J=>D.rt .non J
theorem Ic:RS X G (.Return none pos) JC:=⟨zQ L2.vG λD σ H ⟨τ,J,D2,a2,h,g⟩=>g.rt .non J .non H rfl a2.hp .refl h⟩
def zW (c:lD) (t u:iB):iB:=λD τ J=>c τ J λb J1=>if b=true then t D τ J1 else u D τ J1
theorem a8 {c:Expr} {a b:List Stmt} (hc:RT X G c tc) (ha:RB X G a t) (hb:RB X G b u):RS X G (.If c a b pos) (zW tc t u):=⟨zQ (L2.mW hc.run ha.run hb.run) λD σ H ⟨τ,J,D2,a2,h,g⟩ =>
 ⟨τ,J,_,a2,h,λc J' H' rr ee q=>by
  cases c with
  | true=>simp only [if_true] at q ⊢;exact ⟨τ,J',D2,a2.go rr ee,q,g.ext ee⟩
  | false=>simp only [SJ,if_false] at q ⊢;exact ⟨τ,J',D2,a2.go rr ee,q,g.ext ee⟩⟩⟩
abbrev y0:=PV→Sr→Hq→(Sr→Hq→Prop)→Prop
abbrev wZ:=List PV→Sr→Hq→(Sr→Hq→Prop)→Prop
def LG (K:PySem.W.Frag) (G:G2) (t:y0):TG:=λv σ H Q=>∃x τ J Q2,b_ K J H x v∧wM K G τ J σ H∧t x τ J Q2∧∀τ' J' σ' H',lB K J' H' τ' σ'→Rep K J' H'→Ext K J H J' H'→Q2 τ' J'→Q σ' H'
def R3 (K:PySem.W.Frag) (G:G2) (t:wZ):pG:=λvs σ H Q=>∃xs τ J Q2,aM K J H xs vs∧wM K G τ J σ H∧t xs τ J Q2∧∀τ' J' σ' H',lB K J' H' τ' σ'→Rep K J' H'→Ext K J H J' H'→Q2 τ' J'→Q σ' H'
structure RG (X:Cx) (G:G2) (e:Expr) (t:y0):Prop where
 run:L2.PG X e (LG X.K G t)
structure O2 (X:Cx) (G:G2) (es:List Expr) (t:wZ):Prop where
 run:L2.IL X es (R3 X.K G t)
theorem Qr {X:Cx} {e:Expr} {t t':TG} (h:L2.PG X e t) (k:∀v σ H Q,t' v σ H Q→t v σ H Q):L2.PG X e t':=λpins s σ H v u Q I r q=>h pins s σ H v u Q I r (k _ _ _ _ q)
theorem NZ {X:Cx} {e:List Expr} {t t':pG} (h:L2.IL X e t) (k:∀v σ H Q,t' v σ H Q→t v σ H Q):L2.IL X e t':=λpins s σ H v u Q I r q=>h pins s σ H v u Q I r (k _ _ _ _ q)
def IS (i:Nat):y0:=λx τ J Q=>Q (τ.set i (some x)) J
theorem bB {i:Nat} {x:Str} (hN:X.N.Nodup) (hi:X.N[i]?=some x:=by rfl) (hx:Loc X.env.scope x:=by first | exact .inl rfl | exact .inr rfl) (hf:X.fn x=true∨X.env.scope.names.lookup x=some .local:=by first | exact .inl rfl | exact .inr rfl | assumption):RG X G (.Name x pos) (IS i) :=
 ⟨Qr (L2.kD hN hi hx hf) λv σ H Q ⟨x,τ,J,Q2,rx,a2,q,k⟩=>k _ J _ H (a2.sl.set i rx) a2.hp .refl q⟩
def Rr:wZ:=λvs τ J Q=>Qm vs (Q τ J)
def Rq (t:y0) (u:wZ):wZ:=λvs τ J Q=>K8 vs λv r=>t v τ J λτ' J'=>u r τ' J' Q
theorem kH:O2 X G [] Rr:=⟨NZ L2.vB λvs σ H Q ⟨xs,τ,J,Q2,rs,a2,hh,k⟩=>by obtain ⟨e,q⟩:=K' hh;subst e;exact ⟨rs,k τ J σ H a2.sl a2.hp .refl q⟩⟩
theorem bY {e:Expr} {es:List Expr} {t:y0} {u:wZ} (h1:RG X G e t) (h2:O2 X G es u)
  (hs:(assignEach (e :: es) X.env).map (·.2)=assign e X.env :: (assignEach es X.env).map (·.2):=by rfl):O2 X G (e :: es) (Rq t u):=⟨NZ (L2.qV h1.run h2.run hs) λvs σ H Q ⟨xs,τ,J,Q2,rs,a2,hh,k⟩=>by
 obtain ⟨y,r,e,q⟩:=Hs hh
 subst e
 obtain ⟨v,us,rfl,rv,ru⟩:=rs
 exact ⟨v,us,rfl,y,τ,J,_,rv,a2,q,λτ' J' σ' H' rs' rr ee q'=>⟨r,τ',J',Q2,ee.iW ru,⟨rs',rr,a2.ext.trans ee⟩,q',λτ2 J2 σ2 H2 rs2 rr2 ee2 q2=>k τ2 J2 σ2 H2 rs2 rr2 (ee.trans ee2) q2⟩⟩⟩
def Rt (n:Nat) (t:wZ):y0:=λx τ J Q=>ME x λxs=>xs.length=n∧t xs τ J Q
theorem oq {k:Nat} {t:wZ} {n:Nat} (hc:X.calm=true) (h:O2 X G es t)
  (hn:(assignEach es X.env).length=n:=by rfl) (hst:(assignEach es X.env).findIdx? (·.1)=none:=by rfl):RG X G (.Tuple es k pos) (Rt n t):=⟨Qr (L2.zO hc h.run hn hst) λv σ H Q ⟨x,τ,J,Q2,rx,a2,hh,k⟩=>by
 obtain ⟨xs,e,l,q⟩:=EY hh
 subst e
 obtain ⟨a,vs,rfl,h1,h2⟩:=rx
 exact ⟨a,vs,rfl,h1,by rw [← h2.length];exact l,xs,τ,J,Q2,h2,a2,q,k⟩⟩
def vQ (te:cW) (g:y0):iB:=λD τ J=>te τ J λx J1=>g x τ J1 D.nx
theorem ra {tg e:Expr} {g:y0} (he:RE X G e te) (hg:RG X G tg g) (hs:swapsWithSole [tg] e pos.line X.env=pure false:=by rfl) (hw:swappedStores [tg] e X.env=pure none:=by rfl)
  (h1:(assignEach [tg] X.env).map (·.2)=[assign tg X.env]:=by rfl):RS X G (.Assign [tg] e pos) (vQ te g):=⟨zQ (L2.vF he.run hg.run hs hw h1) λD σ H ⟨τ,J,D2,a2,h,g⟩ =>
 ⟨τ,J,_,a2,h,λx J' v H' rx rr ee q=>⟨x,τ,J',_,rx,a2.go rr ee,q,λτ' J2 σ' H2 rs r2 e2 q2=>g.nx τ' J2 σ' H2 rs r2 (ee.trans e2) q2⟩⟩⟩
theorem aK {i:Nat} {x:Str} {pos':Pos} (hN:X.N.Nodup) (he:RE X G e te) (hi:X.N[i]?=some x:=by rfl) (hx:Loc X.env.scope x:=by first | exact .inl rfl | exact .inr rfl) (hs:swapsWith e (some (.Name x pos')) pos.line X.env=pure false:=by rfl) (hf:X.fn x=true∨X.env.scope.names.lookup x=some .local:=by first | exact .inl rfl | exact .inr rfl | assumption) :
  RS X G (.Assign [.Name x pos'] e pos) (vQ te (IS i)):=⟨zQ (L2.cJ hN hi hx he.run hs hf) λD σ H ⟨τ,J,D2,a2,h,g⟩ =>
 ⟨τ,J,_,a2,h,λx J' v H' rx rr ee q=>g.nx _ J' _ H' ((a2.sl.ext ee).set i rx) rr ee q⟩⟩
def Oo (i j:Nat) (ta:oJ):iB:=λD τ J=>ta τ J λvs J1=>La vs λv w=>D.nx ((τ.set i (some v)).set j (some w)) J1
theorem LV {i j:Nat} {x y:Str} {a b:Expr} {ta:oJ} {px py pt:Pos} {kt k2 pt2} (hc:X.calm=true) (hN:X.N.Nodup) (hi:X.N[i]?=some x) (hj:X.N[j]?=some y) (hij:i≠j)
  (hx:X.env.scope.names.lookup x=some .local) (hy:X.env.scope.names.lookup y=some .local) (ha:RA X G [a,b] ta)
  (hw:swappedStores [.Tuple [.Name x px,.Name y py] kt pt] (.Tuple [a,b] k2 pt2) X.env=pure (some [x,y]))
  (hs:swapsWithSole [.Tuple [.Name x px,.Name y py] kt pt] (.Tuple [a,b] k2 pt2) pos.line X.env=pure false:=by rfl) :
  RS X G (.Assign [.Tuple [.Name x px,.Name y py] kt pt] (.Tuple [a,b] k2 pt2) pos) (Oo i j ta):=⟨zQ (L2.og hc hN hi hj hij hx hy ha.run hw hs) λD σ H ⟨τ,J,D2,a2,h,g⟩ =>
 ⟨τ,J,_,a2,h,λxs J' vs H' rs rr ee hh=>by
  obtain ⟨v,w,e,q⟩:=zF hh
  subst e
  obtain ⟨v',us,rfl,rv,w',us',rfl,rw',e'⟩:=rs
  cases e'
  exact ⟨v',w',rfl,g.nx _ J' _ H' (((a2.sl.ext ee).set i rv).set j rw') rr ee q⟩⟩⟩
def j2 (f:Str) (v:PV):List (Str × PV)→List (Str × PV)
 | []=>[(f,v)]
 | (g,w) :: r=>if g=f then (g,v) :: r else (g,w) :: j2 f v r
theorem yb {K:PySem.W.Frag} {J:Hq} {H:Hp} {f:Str} {y:PV} {v:V} (r:b_ K J H y v):∀{fs:List (Str × PV)} {gs:List (Str × V)},lA K J H fs gs→lA K J H (j2 f y fs) (d_ f v gs)
 | [],[],_=>⟨rfl,v,[],rfl,r,rfl⟩
 | [],_ :: _,h=>by cases h.1
 | _ :: _,[],h=>by cases h.1
 | (k,y') :: fs,(k',w) :: gs,h=>by
  obtain ⟨h1,v',us,h2,h3,h4⟩:=h
  simp only [Sx,List.cons.injEq] at h1 h2
  obtain ⟨rfl,h1⟩:=h1
  obtain ⟨rfl,rfl⟩:=h2
  unfold j2 L2.d_
  by_cases hk:k=f
  ·rw [if_pos hk,if_pos hk]
   exact ⟨by simp only [Sx,h1],v,_,rfl,r,h4⟩
  ·rw [if_neg hk,if_neg hk]
   obtain ⟨z1,z2⟩:=yb (f:=f) r (⟨h1,h4⟩:lA K J H fs gs)
   exact ⟨by simp only [Sx,z1],w,_,rfl,h3,z2⟩
def Jx (C:Addr) (ta tv:cW) (f:Str):iB:=λD τ J=>tv τ J λy J1=>ta τ J1 λx J2=>Bi x λa=>K7 C (J2 a) λfs=>fs.length < 1000∧D.nx τ (put J2 a (.ins C (j2 f y fs)))
theorem Ext.Mm {K:PySem.W.Frag} {J:Hq} {H:Hp} {p C dx:Addr} {fs gs:List (Str × PV)} {fs' gs':List (Str × V)} (h:J p=some (.ins C fs)) (k:H p=some (.ins C dx fs')):Ext K J H (put J p (.ins C gs)) (upd H p (.ins C dx gs')):=by
 have sm:∀a u,a≠p→Rd H a u→Rd (upd H p (.ins C dx gs')) a u:=λa u ne z=>by
  rcases z with z | ⟨o,z⟩
  ·exact .inl (by rw [aL ne];exact z)
  ·exact .inr ⟨o,by rw [aL ne];exact z⟩
 have nn:∀a u,(∀c d l,u≠HO.ins c d l)→Rd H a u→a≠p:=λa u d z e=>by
  subst e
  rcases z with z | ⟨o,z⟩
  ·rw [k] at z;cases z;exact d _ _ _ rfl
  ·rw [k] at z;cases z
 refine ⟨λa vs' z=>?_,λa o z q _=>?_⟩
 ·rcases z with z | z
  ·exact .inl (sm a _ (nn a (.tup vs') (λ_ _ _ e=>nomatch e) z) z)
  ·exact .inr z
 ·have ne:a≠p:=by intro e;subst e;rw [h] at z;cases z
  exact ⟨by rw [ak ne];exact z,by rw [aL ne];exact q⟩
theorem dM {C:Addr} {f:Str} (cl:o8 X.K C) (na:aD X.K C f) (ha:RE X G o ta) (hv:RE X G value tv) (hs:swapsWith value (some (.Attribute o f pos')) pos.line X.env=pure false:=by rfl):RS X G (.Assign [.Attribute o f pos'] value pos) (Jx C ta tv f) :=
 ⟨zQ (L2.Ls ha.run hv.run hs) λD σ H ⟨τ,J,D2,a2,h,g⟩=>⟨τ,J,_,a2,h,λy J1 v H1 ry r1 e1 q1=>⟨τ,J1,_,a2.go r1 e1,q1,λx J2 w H2 rx r2 e2 hh=>by
  obtain ⟨a,ex,hh⟩:=fY hh;obtain ⟨fs,ja,hl,q2⟩:=zE hh
  subst ex;cases rx
  obtain ⟨dx,gs,h2,rf⟩:=r2 _ _ ja
  have ll:gs.length=fs.length:=by have:=congrArg Tt rf.1;simpa using this.symm
  have e3:=Ext.Mm (K:=X.K) (gs:=j2 f y fs) (gs':=d_ f v gs) ja h2
  refine ⟨a,C,dx,gs,rfl,h2,cl,na,by omega,g.nx τ _ σ _ (((a2.sl.ext e1).ext e2).ext e3) ?_ ((e1.trans e2).trans e3) q2⟩
  refine r2.Av e3 a (λb ne=>ak ne) (λb o ne _ z=>by rw [aL ne];exact z) λu z=>?_
  rw [aq] at z;cases z
  exact ⟨dx,_,aE,e3.vT (yb (e2.rep ry) rf)⟩⟩⟩⟩
def LL (c:lD) (tb:iB):iB:=λD τ J=>∃W:Nat→Sr→Hq→Prop,(∃m,W m τ J)∧∀m τ J,W m τ J →
 c τ J λb J1=>if b=true then ∃N:Sr→Hq→Prop,(∀τ' J',N τ' J'→∃m',m' < m∧W m' τ' J')∧tb { D with nx:=N,ct:=N,bk:=D.nx } τ J1 else D.nx τ J1
theorem rb {c:Expr} {body:List Stmt} {tb:iB} (hp:PassesOwn (model X.prog X.w) X.A X.env X.xe) (hc:RT X G c tc) (hb:RB X G body tb):RS X G (.While c body [] pos) (LL tc tb):=⟨zQ (L2.j0 hp hc.run hb.run) λD σ H ⟨τ,J,D2,a2,⟨W,⟨m0,w0⟩,h⟩,g⟩=>by
 refine ⟨λm σ' H'=>∃τ' J',wM X.K G τ' J' σ' H'∧Ext X.K J H J' H'∧W m τ' J',⟨m0,τ,J,a2,.refl,w0⟩,λm σ1 H1 ⟨τ1,J1,a1,e1,w1⟩=>?_⟩
 refine ⟨τ1,J1,_,a1,h m τ1 J1 w1,λb J2 H2 r2 e2 q=>?_⟩
 cases b with
 | false=>simp only [SJ,if_false] at q ⊢;exact g.nx τ1 J2 σ1 H2 (a1.sl.ext e2) r2 (e1.trans e2) q
 | true =>
  simp only [if_true] at q ⊢
  obtain ⟨N,hN,q⟩:=q
  refine ⟨λσ' H'=>∃τ' J',wM X.K G τ' J' σ' H'∧Ext X.K J H J' H'∧N τ' J',λσ' H' ⟨τ',J',a',e',n'⟩=>let ⟨m',lt,w'⟩:=hN τ' J' n';⟨m',lt,τ',J',a',e',w'⟩,τ1,J2,{ D2 with nx:=N,ct:=N,bk:=D2.nx },a1.go r2 e2,q,?_⟩
  have ge:=g.ext (e1.trans e2)
  exact { nx:=λτ' J' σ' H' rs rr ee q=>⟨τ',J',⟨rs,rr,(a1.ext.trans e2).trans ee⟩,(e1.trans e2).trans ee,q⟩,rt:=ge.rt,bk:=ge.nx,ct:=λτ' J' σ' H' rs rr ee q=>⟨τ',J',⟨rs,rr,(a1.ext.trans e2).trans ee⟩,(e1.trans e2).trans ee,q⟩ }⟩
structure wR where
 xs:List PV
 ok:Hq→Prop
structure tK (K:PySem.W.Frag) (it:wR) (I:It) (J:Hq) (H:Hp):Prop where
 go:∀J' H',Ext K J H J' H'→Rep K J' H'→it.ok J'→∀i,i < it.xs.length→I.go i H'
 yl:∀J' H',Ext K J H J' H'→Rep K J' H'→it.ok J'→∀i,i < it.xs.length→∀v H2,I.yld i H' v H2→∃x,it.xs[i]?=some x∧b_ K J' H2 x v∧Rep K J' H2∧Ext K J' H' J' H2
 stop:∀J' H',Ext K J H J' H'→Rep K J' H'→it.ok J'→I.stop it.xs.length H'
abbrev sL:=Sr→Hq→(wR→Hq→Prop)→Prop
def LI (K:PySem.W.Frag) (G:G2) (t:sL):TI:=λσ H R=>∃τ J R2,wM K G τ J σ H∧t τ J R2∧∀it J' I H',tK K it I J' H'→Rep K J' H'→Ext K J H J' H'→R2 it J'→R I H'
structure RI (X:Cx) (G:G2) (tg e:Expr) (t:sL):Prop where
 run:L2.PI X tg e (LI X.K G t)
theorem N0 {X:Cx} {tg e:Expr} {t t':TI} (h:L2.PI X tg e t) (k:∀σ H Q,t' σ H Q→t σ H Q):L2.PI X tg e t':=λpins s σ H Q I q=>h pins s σ H Q I (k _ _ _ q)
def Oe (wi:sL) (g:y0) (tb:iB):iB:=λD τ J=>wi τ J λit J1=>∃Pv:Nat→Sr→Hq→Prop,Pv 0 τ J1∧(∀i τ J,Pv i τ J→it.ok J) ∧
 (∀i x τ J,it.xs[i]?=some x→Pv i τ J→g x τ J λτ2 J2=>tb { D with nx:=Pv (i + 1),ct:=Pv (i + 1),bk:=D.nx } τ2 J2)∧∀τ J,Pv it.xs.length τ J→D.nx τ J
theorem fq {iter:Expr} {body:List Stmt} {wi:sL} {g:y0} {tb:iB} {pos:Pos} (hp:PassesOwn (model X.prog X.w) X.A X.env X.xe) (hc:X.calm=true) (hi:RI X G tg iter wi) (hg:RG X G tg g) (hb:RB X G body tb)
  (hs:∀x,foldedSetIterable iter X.env x=pure x:=by intro _;rfl):RS X G (.For tg iter body [] pos) (Oe wi g tb):=⟨zQ (L2.oa hp hc hi.run hg.run hb.run hs) λD σ H ⟨τ,J,D2,a2,h,g⟩=>by
 refine ⟨τ,J,_,a2,h,λit J1 I H1 ir r1 e1 ⟨Pv,p0,pok,step,fin⟩=>?_⟩
 refine ⟨λi m σ' H'=>m=it.xs.length - i∧i≤it.xs.length∧∃τ' J',wM X.K G τ' J' σ' H'∧Ext X.K J1 H1 J' H'∧Pv i τ' J',⟨_,rfl,SY _,τ,J1,a2.go r1 e1,.refl,p0⟩,?_⟩
 rintro i m σ2 H2 ⟨rfl,hil,τ2,J2,a3,e3,p3⟩
 by_cases hlt:i < it.xs.length
 ·refine .inr ⟨ir.go J2 H2 e3 a3.hp (pok _ _ _ p3) i hlt,λσ' H'=>∃τ' J',wM X.K G τ' J' σ' H'∧Ext X.K J1 H1 J' H'∧Pv (i + 1) τ' J',λσ' H' z=>⟨_,by omega,rfl,hlt,z⟩,λv H4 y=>?_⟩
  obtain ⟨x,ex,rx,r4,e4⟩:=ir.yl J2 H2 e3 a3.hp (pok _ _ _ p3) i hlt v H4 y
  refine ⟨x,τ2,J2,_,rx,a3.go r4 e4,step i x τ2 J2 ex p3,λτ5 J5 σ5 H5 rs5 r5 e5 q5=>?_⟩
  have ae:=(a3.ext.trans e4).trans e5
  have ge:=g.ext (((e1.trans e3).trans e4).trans e5)
  refine ⟨τ5,J5,{ D2 with nx:=Pv (i + 1),ct:=Pv (i + 1),bk:=D2.nx },⟨rs5,r5,ae⟩,q5,?_⟩
  exact { nx:=λτ' J' σ' H' rs rr ee q=>⟨τ',J',⟨rs,rr,ae.trans ee⟩,((e3.trans e4).trans e5).trans ee,q⟩,rt:=ge.rt,bk:=ge.nx,ct:=λτ' J' σ' H' rs rr ee q=>⟨τ',J',⟨rs,rr,ae.trans ee⟩,((e3.trans e4).trans e5).trans ee,q⟩ }
 ·have ei:i=it.xs.length:=by omega
  subst ei
  exact .inl ⟨ir.stop J2 H2 e3 a3.hp (pok _ _ _ p3),g.nx τ2 J2 σ2 H2 a3.sl a3.hp (e1.trans e3) (fin _ _ p3)⟩⟩
def MB (J:Hq):PV→Option wR
 | .fl xs=>some ⟨xs,λ_=>True⟩
 | .ref a=>match J a with
  | some (.lst xs)=>some ⟨xs,λJ'=>J' a=some (.lst xs)⟩
  | _=>none
 | _=>none
def Rw (te:cW):sL:=λτ J R=>te τ J λx J1=>vo (MB J1 x) λit=>R it J1
theorem tK.list {K:PySem.W.Frag} {it:wR} {a:Addr} {J:Hq} {H:Hp} (h:∀J' H',Ext K J H J' H'→Rep K J' H'→it.ok J'→∃vs,cF K H' a vs∧aM K J' H' it.xs vs):tK K it (L2.Gw K a) J H where
 go:=λJ' H' e r o i hi=>by
  obtain ⟨vs,s,rs⟩:=h J' H' e r o
  exact ⟨vs,vs[i]'(by rw [← rs.length];exact hi),s,by simp⟩
 yl:=λJ' H' e r o i hi v H2 y=>by
  obtain ⟨vs,s,rs⟩:=h J' H' e r o
  obtain ⟨e1,y⟩:=y
  subst e1
  obtain ⟨x,ex,rx⟩:=rs.get' (y vs s)
  exact ⟨x,ex,rx,r,.refl⟩
 stop:=λJ' H' e r o=>by
  obtain ⟨vs,s,rs⟩:=h J' H' e r o
  exact ⟨vs,s,by rw [rs.length];exact Ss _⟩
theorem eS {l:Expr} {tl:cW} (hl:RE X G l tl):RI X G tg l (Rw tl):=⟨N0 (L2.mM hl.run) λσ H R ⟨τ,J,R2,a2,h,k⟩=>⟨τ,J,_,a2,h,λx J1 v H1 rx r1 e1 hh=>by
 obtain ⟨it,ei,q⟩:=dZ hh
 cases x with
 | fl xs =>
  obtain ⟨a,vs,rfl,h1,h2⟩:=rx
  cases ei
  refine ⟨a,rfl,⟨vs,h1.sq⟩,k _ J1 _ H1 (.list λJ' H' e r _=>⟨vs,(e.flat h1).sq,e.iW h2⟩) r1 e1 q⟩
 | ref a =>
  cases rx
  unfold MB at ei
  dsimp only at ei
  cases ej:J1 a with
  | none=>rw [ej] at ei;cases ei
  | some o =>
   rw [ej] at ei
   cases o with
   | lst xs =>
    cases ei
    obtain ⟨vs,h1,h2⟩:=r1 _ _ ej
    refine ⟨a,rfl,⟨vs,.inl (.inl h1)⟩,k _ J1 _ H1 (.list λJ' H' e r o=>?_) r1 e1 q⟩
    obtain ⟨vs',h1',h2'⟩:=r _ _ o
    exact ⟨vs',.inl (.inl h1'),h2'⟩
   | _=>cases ei
 | _=>cases ei⟩⟩
def R' (te:cW):sL:=λτ J R=>te τ J λx J1=>ME x λxs=>R ⟨xs,λ_=>True⟩ J1
def nR (lo:Int) (n:Nat):List PV:=(TJ n).map λ(i:Nat)=>PV.int (lo + (i:Int))
theorem e8 (lo:Int) (n:Nat):(nR lo n).length=n:=by simp [nR]
theorem mD (lo:Int) (n i:Nat) (x:PV):(nR lo n)[i]?=some x↔i < n∧x=.int (lo + i):=by
 unfold nR
 rw [SA]
 by_cases h:i < n
 ·rw [UT h];simp [h,eq_comm]
 ·rw [TK (by simpa using h)];simp [h]
theorem tK.MH {K:PySem.W.Frag} {J:Hq} {H:Hp} (lo:Int) (n:Nat):tK K ⟨nR lo n,λ_=>True⟩ (L2.DC lo n) J H where
 go:=λJ' H' e r o i hi=>by
  show i < n
  simpa [e8] using hi
 yl:=λJ' H' e r o i hi v H2 y=>by
  obtain ⟨e1,y⟩:=y
  subst e1 y
  exact ⟨.int (lo + i),(mD lo n i _).mpr ⟨by simpa [e8] using hi,rfl⟩,rfl,r,.refl⟩
 stop:=λJ' H' e r o=>by
  show n≤(nR lo n).length
  rw [e8];exact Ss _
def Rx (ta:oJ):sL:=λτ J R=>ta τ J λvs J1=>Bh vs λx=>Dt x λj=>-(2 ^ 62)≤j∧j < 2 ^ 62∧R ⟨nR 0 j.toNat,λ_=>True⟩ J1
def R_ (ta:oJ):sL:=λτ J R=>ta τ J λvs J1=>La vs λx y=>Dt x λi=>Dt y λj=>(-(2 ^ 62)≤i∧i < 2 ^ 62∧-(2 ^ 62)≤j∧j < 2 ^ 62)∧R ⟨nR i (j - i).toNat,λ_=>True⟩ J1
theorem kI {a:Expr} {ta:oJ} {p pos:Pos} (hg:Gl X "range") (hm:X.mg "range"=none) (ha:RA X G [a] ta) (hs:starEach [a] X.env=[(false,eval a X.env)]:=by rfl):RI X G tg (.Call (.Name "range" p) [a] [] pos) (Rx ta) :=
 ⟨N0 (L2.fK hg hm ha.run hs) λσ H R ⟨τ,J,R2,a2,h,k⟩=>⟨τ,J,_,a2,h,λxs J1 vs H1 rs r1 e1 hh=>by
  obtain ⟨x,ex,hh⟩:=iO hh;obtain ⟨j,ej,l1,l2,q⟩:=gQ hh;subst ej ex
  obtain ⟨v,us,rfl,rv,e'⟩:=rs
  cases rv;cases e'
  exact ⟨j,rfl,l1,l2,k _ J1 _ H1 (.MH 0 _) r1 e1 q⟩⟩⟩
def fo (C:Addr) (E2:Addr→Hq→Prop) (t:oJ):iB:=λ_ τ J=>t τ J λxs J1=>xs.length≤sizeLine∧E2 C J1
theorem dz {E:XK} {E2:Addr→Hq→Prop} {C:Addr} {x:Str} {t:oJ} {np cpos:Pos} (O:Own X.K X.mg x C) (hc:X.calm=true) (hx:Throws X E) (kn:JX X.K G.1 G.2 E2 E) (hg:Gl X x) (ha:RA X G (e :: es) t)
  (hd:(x == ("__debug__":Str))=false:=by decide) (he:starEach (e :: es) X.env=(false,eval e X.env) :: starEach es X.env:=by rfl) (hpl:(backTo cpos (starEach es X.env)).any (·.1)=false:=by rfl) :
  RS X G (.Raise (some (.Call (.Name x np) (e :: es) [] cpos)) none pos) (fo C E2 t):=⟨zQ (C9 O hc hx hg ha.run hd he hpl) λD σ H ⟨τ,J,D2,a2,h,g⟩ =>
 ⟨τ,J,_,a2,h,λxs J1 vs H1 rs r1 e1 ⟨hl,q⟩=>⟨by rw [← rs.length];exact hl,kn C J1 H1 r1 (a2.ext.trans e1) q⟩⟩⟩
end
section
variable {P:Program} {w:World} {K:PySem.W.Frag} {mg:Str→Option Value} {base:Heap}
section
variable {α β:Type} {a b:α} {l m:List α} {i:Nat} {f:α→β} {c:Bool}
theorem Mr:UN f (a :: l)=f a :: UN f l:=rfl
theorem Ms:UN f []=[]:=rfl
theorem Mp:(a :: l).length=l.length + 1:=rfl
theorem Mq:([]:List α).length=0:=rfl
theorem Mn:(a :: l) ++ m=a :: (l ++ m):=rfl
theorem Mo:[] ++ m=m:=rfl
theorem Q4:(a :: l)[0]?=some a:=rfl
theorem Q5:(a :: l)[i + 1]?=l[i]?:=rfl
theorem Rb:(a :: l).set 0 b=b :: l:=rfl
theorem Rc:(a :: l).set (i + 1) b=a :: l.set i b:=rfl
theorem Q9:Option.map f (some a)=some (f a):=rfl
theorem Q8:(some a).getD b=a:=rfl
theorem Q7:(!true)=false:=rfl
theorem Q6:(!false)=true:=rfl
theorem Rf:(true && c)=c:=rfl
theorem Q3:(false && c)=false:=rfl
theorem Q_:S9 0 a=[]:=rfl
theorem Ra:S9 (i + 1) a=a :: S9 i a:=rfl
theorem OY:(a :: l).isEmpty=false:=rfl
theorem OZ:([]:List α).isEmpty=true:=rfl
end
def wH (N:List Str) (xs:List PV):Sr:=xs.map some ++ S9 (N.length - xs.length) none
theorem FW {J:Hq} {H:Hp} {N:List Str} {xs:List PV} {vs:List V} (r:aM K J H xs vs):lB K J H (wH N xs) (L2.start N vs):=by
 refine ⟨by simp [wH,L2.start,r.length],λi x e=>?_⟩
 unfold wH at e
 unfold L2.start
 by_cases hi:i < xs.length
 ·rw [Tu (by simpa using hi),SA] at e
  cases ex:xs[i]? with
  | none=>rw [ex] at e;cases e
  | some y =>
   rw [ex] at e
   cases e
   obtain ⟨v,h1,h2⟩:=r.get ex
   exact ⟨v,by rw [Tu (by rw [Sm,← r.length];exact hi),SA,h1];rfl,h2⟩
 ·rw [Tq (by simpa using hi)] at e
  have:=Su e
  rw [List.mem_replicate] at this
  cases this.2
theorem Ql {x qual:Str} {st:Stmt} {f:Addr} {fd:FuncData} {N ps:List Str} {k:Nat} {sp:cx} (F:b7 K x qual st f fd) (S:av N ps (L2.ai st)) (len:∀xs J Q E,sp xs J Q E→xs.length=ps.length)
  (hbody:∀(cdv:Value) (A:Around) (outer:List Env) (s:Shared) (H:Hp) (E:XK) (G:G2) (xs:List PV) (J:Hq) (Q:PV→Hq→Prop) (E2:Addr→Hq→Prop),bI k (A.deeper (envOfC qual (L2.ai st) s.heap.objs.size f cdv))→sp xs J Q E2 →
   Dp (yI P w K mg base N qual (L2.ai st) f cdv A outer s H E) G E2 E →
   ∃t,RB (yI P w K mg base N qual (L2.ai st) f cdv A outer s H E) G (L2.bK st) t∧t { nx:=λ_ J'=>Q .non J',rt:=Q } (wH N xs) J):aH P w K mg base (cQ P w) (k + 1) f fd ps (dk K sp):=by
 refine Sh F S (λvs H Q E ⟨xs,J,Q2,E2,a,_,b,_⟩=>by rw [← a.length];exact len _ _ _ _ b) λcdv A outer s H vs Q E hr ⟨xs,J,Q2,E2,rs,rr,hs,kn,ke⟩=>?_
 obtain ⟨t,hb,q⟩:=hbody cdv A outer s H E (J,H) xs J Q2 E2 hr hs ⟨zd,ke⟩
 refine ⟨_,⟨hb.run⟩,wH N xs,J,_,⟨FW rs,rr,.refl⟩,q,?_⟩
 exact { nx:=λτ J' σ H' _ r e q=>kn .non J' .non H' rfl r e q,rt:=λx J' v H' rx r e q=>kn x J' v H' rx r e q,bk:=λ_ _ _ _ _ _ _ q=>q.elim,ct:=λ_ _ _ _ _ _ _ q=>q.elim }
theorem Sg {x qual:Str} {st:Stmt} {f:Addr} {fd:FuncData} {N ps:List Str} {k:Nat} {sp:cx} {t:(Addr→Hq→Prop)→iB} (F:b7 K x qual st f fd) (S:av N ps (L2.ai st)) (len:∀xs J Q E,sp xs J Q E→xs.length=ps.length)
  (rd:∀(cdv:Value) (A:Around) (outer:List Env) (s:Shared) (H:Hp) (E:XK) (G:G2) (E2:Addr→Hq→Prop),bI k (A.deeper (envOfC qual (L2.ai st) s.heap.objs.size f cdv)) →
   Dp (yI P w K mg base N qual (L2.ai st) f cdv A outer s H E) G E2 E→RB (yI P w K mg base N qual (L2.ai st) f cdv A outer s H E) G (L2.bK st) (t E2))
  (run:∀(xs:List PV) (J:Hq) (Q:PV→Hq→Prop) (E2:Addr→Hq→Prop),sp xs J Q E2→∀X:Prop,(t E2 { nx:=λ_ J'=>Q .non J',rt:=Q } (wH N xs) J→X)→X):aH P w K mg base (cQ P w) (k + 1) f fd ps (dk K sp) :=
 Ql F S len λcdv A outer s H E G xs J Q E2 hr h B=>⟨_,rd cdv A outer s H E G E2 hr B,run xs J Q E2 h _ id⟩
theorem _root_.Ov.Def.fv {x:Str} {st:Stmt} {k:Nat} {ps:List Str} {sp:cx} (D:Def K mg x st)
  (h:∀f fd,b7 K x x st f fd→aH P w K mg base (cQ P w) k f fd ps (dk K sp))
  (hb:∀(kV doc pm:Value) (an:Option Addr) (cdv ct:Value) (us:List Value),us.length=ps.length→bindArgs (PySem.W.fnOf x x (L2.cU st) (L2.bK st) (L2.ai st) .none kV doc pm an cdv ct) ⟨us,[]⟩=pure (ps.zip us)) :
  bz P w K mg base k x ps sp:=D.PC h hb
end
section
variable {X:Cx} {K:PySem.W.Frag}
def HS (g:Int→Int→PV):ml:=λx y J Q=>Dt x λi=>Dt y λj=>Q (g i j) J
def qI (C:Int→Int→Prop) (g:Int→Int→PV):ml:=λx y J Q=>Dt x λi=>Dt y λj=>C i j∧Q (g i j) J
theorem t_ {g:Int→Int→V} {g':Int→Int→PV} (hg:∀J H i j,b_ K J H (g' i j) (g i j)):LR K (L2.Gg g) (HS g'):=λJ H x y v w Q2 Q rx ry r h k=>by
 obtain ⟨i,ex,h⟩:=gQ h;obtain ⟨j,ey,q⟩:=gQ h
 subst ex ey;exact ⟨i,j,rx,ry,k _ J _ H (hg _ _ _ _) r .refl q⟩
theorem KW {C:Int→Int→Prop} {g:Int→Int→V} {g':Int→Int→PV} (hg:∀J H i j,b_ K J H (g' i j) (g i j)):LR K (L2.rI C g) (qI C g'):=λJ H x y v w Q2 Q rx ry r h k=>by
 obtain ⟨i,ex,h⟩:=gQ h;obtain ⟨j,ey,c,q⟩:=gQ h
 subst ex ey;exact ⟨i,j,rx,ry,c,k _ J _ H (hg _ _ _ _) r .refl q⟩
theorem d3:mj X (binaryOp .Add) (HS λi j=>.int (i + j)):=⟨_,L2.iP,t_ λ_ _ _ _=>rfl⟩
theorem f7:mj X (binaryOp .Sub) (HS λi j=>.int (i - j)):=⟨_,L2.zH,t_ λ_ _ _ _=>rfl⟩
theorem eI:mj X (binaryOp .Mult) (qI CM λi j=>.int (i * j)):=⟨_,cy,KW λ_ _ _ _=>rfl⟩
theorem pL:mj X (binaryOp .FloorDiv) (qI CQ λi j=>.int (i.fdiv j)):=⟨_,fZ,KW λ_ _ _ _=>rfl⟩
theorem eG:mj X (binaryOp .Mod) (qI (λ_ j=>0 < j) λi j=>.int (i % j)):=⟨_,L2.f6,KW λ_ _ _ _=>rfl⟩
theorem kU:mj X (compareOp .Lt) (HS λi j=>.bl (decide (i < j))):=⟨_,L2.Bj,t_ λ_ _ _ _=>rfl⟩
theorem Jn:mj X (compareOp .LtE) (HS λi j=>.bl (decide (i≤j))):=⟨_,L2.Jl,t_ λ_ _ _ _=>rfl⟩
theorem oR:mj X (compareOp .Gt) (HS λi j=>.bl (decide (j < i))):=⟨_,L2.Jk,t_ λ_ _ _ _=>rfl⟩
theorem E4:mj X (compareOp .GtE) (HS λi j=>.bl (decide (j≤i))):=⟨_,L2.Jj,t_ λ_ _ _ _=>rfl⟩
def qU (g:Int→PV):MO:=λx J Q=>Dt x λi=>Q (g i) J
theorem oH:Ro X (unaryOp .USub) (qU λi=>.int (-i)):=⟨_,L2.F_,λJ H x v Q2 Q rx r h k=>by obtain ⟨i,ex,q⟩:=gQ h;subst ex;exact ⟨i,rx,k (.int (-i)) J _ H rfl r .refl q⟩⟩
def N8:ml:=λx y J Q=>Ji x λi=>Ji y λj=>Q (.bl (decide (i.cps.toList < j.cps.toList))) J
theorem Lk:mj X (compareOp .Lt) N8:=⟨_,L2.C2,λJ H x y v w Q2 Q rx ry r h k=>by obtain ⟨i,ex,h⟩:=n8 h;obtain ⟨j,ey,q⟩:=n8 h;subst ex ey;exact ⟨i,j,rx,ry,k (.bl _) J _ H rfl r .refl q⟩⟩
def El:PV→Bool
 | .non=>true
 | _=>false
theorem A9 {J:Hq} {H:Hp} {x:PV} {v:V} (r:b_ K J H x v):decide (v=.non)=El x:=by
 cases x with
 | non=>cases r;rfl
 | tup xs=>obtain ⟨a,vs,rfl,_⟩:=r;rfl
 | fl xs=>obtain ⟨a,vs,rfl,_⟩:=r;rfl
 | _=>cases r;rfl
def RM:ml:=λx y J Q=>y=.non∧Q (.bl (El x)) J
def Fq:ml:=λx y J Q=>y=.non∧Q (.bl (!El x)) J
theorem NV:mj X (compareOp .Is) RM:=⟨_,L2.Lf,λJ H x y v w Q2 Q rx ry r ⟨ey,q⟩ k=>by subst ey;cases ry;exact ⟨rfl,by rw [A9 rx];exact k (.bl _) J _ H rfl r .refl q⟩⟩
theorem qL:mj X (compareOp .IsNot) Fq:=⟨_,L2.Hw,λJ H x y v w Q2 Q rx ry r ⟨ey,q⟩ k=>by subst ey;cases ry;exact ⟨rfl,by rw [A9 rx];exact k (.bl _) J _ H rfl r .refl q⟩⟩
mutual
def fm:PV→Py
 | .non=>.non | .bl b=>.bl b | .int i=>.int i | .str x=>.str x | .ref _=>.non | .ty _=>.non | .tup xs=>.tup (eg xs) | .fl xs=>.lst (eg xs)
def eg:List PV→List Py
 | []=>[]
 | x :: xs=>fm x :: eg xs
end
mutual
def l_:PV→Bool
 | .ref _=>false | .ty _=>false | .tup xs=>j1 xs | .fl xs=>j1 xs | _=>true
def j1:List PV→Bool
 | []=>true
 | x :: xs=>l_ x && j1 xs
end
mutual
theorem uJ {J:Hq} {H:Hp}:∀{x:PV} {v:V},l_ x=true→b_ K J H x v→At K H (fm x) v
 | .non,_,_,h=>h
 | .bl _,_,_,h=>h
 | .int _,_,_,h=>h
 | .str _,_,_,h=>h
 | .tup xs,_,p,⟨a,vs,e,h,k⟩=>⟨a,vs,e,h,qh (by simpa [l_] using p) k⟩
 | .fl xs,_,p,⟨a,vs,e,h,k⟩=>⟨a,vs,e,h.sq,qh (by simpa [l_] using p) k⟩
theorem qh {J:Hq} {H:Hp}:∀{xs:List PV} {vs:List V},j1 xs=true→aM K J H xs vs→rX K H (eg xs) vs
 | [],_,_,h=>h
 | x :: xs,_,p,⟨v,us,e,h,k⟩=>by
  have p':l_ x=true∧j1 xs=true:=by simpa [j1] using p
  exact ⟨v,us,e,uJ p'.1 h,qh p'.2 k⟩
end
def eqQ (x y:PV):Bool:=ku (fm x) (fm y)
def GJ (x:PV):Prop:=l_ x=true∧dep (fm x)≤60
def Js (f:Bool→Bool):ml:=λx y J Q=>GJ x∧l_ y=true∧Q (.bl (f (eqQ x y))) J
theorem Jb (f:Bool→Bool):LR K (rP K f) (Js f):=λJ H x y v w Q2 Q rx ry r ⟨⟨px,d⟩,py,q⟩ k=>⟨fm x,fm y,uJ px rx,uJ py ry,d,k (.bl _) J _ H rfl r .refl q⟩
theorem cP (hu:X.A.units + 61 < cLine):mj X (compareOp .Eq) (Js id):=⟨_,Ld hu,Jb id⟩
theorem mL (hu:X.A.units + 61 < cLine):mj X (compareOp .NotEq) (Js not):=⟨_,Lg hu,Jb not⟩
def fJ (J:Hq):PV→PV→Option PV
 | .tup xs,.int i=>c7 xs i
 | .fl xs,.int i=>c7 xs i
 | .ref a,.int i=>match J a with
  | some (.lst xs)=>c7 xs i
  | _=>none
 | _,_=>none
theorem aM.c7 {J:Hq} {H:Hp} {xs:List PV} {vs:List V} {i:Int} {x:PV} (r:aM K J H xs vs) (h:L2.c7 xs i=some x):∃v,L2.c7 vs i=some v∧b_ K J H x v:=by
 unfold L2.c7 at h ⊢
 rw [← r.length]
 cases e:L2.Ds xs.length i with
 | none=>rw [e] at h;cases h
 | some j =>
  rw [e] at h
  obtain ⟨v,h1,h2⟩:=r.get h
  exact ⟨v,h1,h2⟩
def LC:ml:=λx y J Q=>vo (fJ J x y) λv=>Q v J
theorem ax:Pn X LC:=⟨_,L2.uR.or L2.cH,λJ H x y v w Q2 Q rx ry r h k=>by
 obtain ⟨z,ez,q⟩:=dZ h
 cases y with
 | int i =>
  cases ry
  cases x with
  | tup xs =>
   obtain ⟨a,vs,rfl,h1,h2⟩:=rx
   obtain ⟨u,e1,e2⟩:=h2.c7 (show L2.c7 xs i=some z from ez)
   exact .inr ⟨a,vs,i,u,rfl,rfl,h1,e1,k z J u H e2 r .refl q⟩
  | fl xs =>
   obtain ⟨a,vs,rfl,h1,h2⟩:=rx
   obtain ⟨u,e1,e2⟩:=h2.c7 (show L2.c7 xs i=some z from ez)
   exact .inl ⟨a,vs,i,u,rfl,rfl,h1.sq,e1,k z J u H e2 r .refl q⟩
  | ref a =>
   cases rx
   unfold fJ at ez
   dsimp only at ez
   cases ej:J a with
   | none=>rw [ej] at ez;cases ez
   | some o =>
    rw [ej] at ez
    cases o with
    | lst xs =>
     obtain ⟨vs,h1,h2⟩:=r _ _ ej
     obtain ⟨u,e1,e2⟩:=h2.c7 (show L2.c7 xs i=some z from ez)
     exact .inl ⟨a,vs,i,u,rfl,rfl,.inl (.inl h1),e1,k z J u H e2 r .refl q⟩
    | _=>cases ez
  | _=>cases ez
 | _=>cases x <;> cases ez⟩
def lG (xs:List PV) (lo hi:Option Int):List PV:=(xs.drop (HT.dN xs.length 0 lo)).take (HT.dN xs.length xs.length hi - HT.dN xs.length 0 lo)
theorem AJ {J:Hq} {H:Hp} {xs:List PV} {vs:List V} {lo hi:Option Int} (r:aM K J H xs vs):aM K J H (lG xs lo hi) (L2.nJ vs lo hi):=by
 unfold lG L2.nJ
 rw [← r.length]
 exact (r.drop _).take _
def Oa:Cn:=λx lo hi J Q=>ME x λxs=>¬ (HT.dN xs.length 0 lo=0∧HT.dN xs.length xs.length hi=xs.length)∧Q (.tup (lG xs lo hi)) J
theorem Ao:Pr X Oa:=⟨_,L2.L8,λJ H x lo hi v Q2 Q rx r h k=>by
 obtain ⟨xs,ex,hn,q⟩:=EY h
 subst ex
 obtain ⟨a,vs,rfl,h1,h2⟩:=rx
 refine ⟨a,vs,rfl,h1,by rw [← h2.length];exact hn,λp hp=>?_⟩
 have sm:=bA.new hp (.tup (L2.nJ vs lo hi))
 have e2:=Ext.same (K:=X.K) (J:=J) sm
 exact k (.tup (lG xs lo hi)) J (.ref p) _ ⟨p,_,rfl,.inl (.inl aE),e2.iW (AJ h2)⟩ (r.same sm) e2 q⟩
def jG (J:Hq):PV→Option (List PV)
 | .fl xs=>some xs
 | .ref a=>match J a with
  | some (.lst xs)=>some xs
  | _=>none
 | _=>none
theorem mI {J:Hq} {H:Hp} {x:PV} {v:V} {xs:List PV} (rx:b_ K J H x v) (r:Rep K J H) (h:jG J x=some xs):∃a vs,v=.ref a∧cF K H a vs∧aM K J H xs vs:=by
 cases x with
 | fl ys=>obtain ⟨a,vs,rfl,h1,h2⟩:=rx;cases h;exact ⟨a,vs,rfl,h1.sq,h2⟩
 | ref a =>
  cases rx
  unfold jG at h
  dsimp only at h
  cases ej:J a with
  | none=>rw [ej] at h;cases h
  | some o =>
   rw [ej] at h
   cases o with
   | lst ys=>cases h;obtain ⟨vs,h1,h2⟩:=r _ _ ej;exact ⟨a,vs,rfl,.inl (.inl h1),h2⟩
   | _=>cases h
 | _=>cases h
def N':Cn:=λx lo hi J Q=>vo (jG J x) λxs=>Q (.fl (lG xs lo hi)) J
theorem FR:Pr X N':=⟨_,L2.wj,λJ H x lo hi v Q2 Q rx r h k=>by
 obtain ⟨xs,ex,q⟩:=dZ h
 obtain ⟨a,vs,rfl,h1,h2⟩:=mI rx r ex
 refine ⟨a,vs,rfl,h1,λp hp=>?_⟩
 obtain ⟨x1,x2,x3⟩:=uZ r (AJ (lo:=lo) (hi:=hi) h2) hp
 exact k _ J _ _ x1 x2 x3 q⟩
def Qv:Cn:=λx lo hi J Q=>vo (jG J x) λxs=>∀p,J p=none→Q (.ref p) (put J p (.lst (lG xs lo hi)))
def N2:yZ:=λxs J Q=>Bh xs λx=>Dt x λi=>Q (.int (if i < 0 then -i else i)) J
theorem za:IJ X (.builtin "abs") N2:=⟨_,L2.mw,λJ H xs vs Q2 Q rs r h k=>by
 obtain ⟨x,ex,h⟩:=iO h;obtain ⟨i,ei,q⟩:=gQ h;subst ei
 subst ex;obtain ⟨v,us,rfl,rv,e⟩:=rs;cases rv;cases e
 exact ⟨i,rfl,k (.int _) J _ H rfl r .refl q⟩⟩
def xC (J:Hq):PV→Option Nat
 | .tup xs=>some xs.length
 | x=>(jG J x).map Tt
def N6:yZ:=λxs J Q=>Bh xs λx=>vo (xC J x) λn=>Q (.int n) J
theorem cb:IJ X (.builtin "len") N6:=⟨_,L2.iG,λJ H xs vs Q2 Q rs r h k=>by
 obtain ⟨x,ex,h⟩:=iO h;obtain ⟨n,en,q⟩:=dZ h
 subst ex;obtain ⟨v,us,rfl,rv,e⟩:=rs;cases e
 have go:∀ys,jG J x=some ys→ys.length=n→∃p ws,([v]:List V)=[.ref p]∧(cF X.K H p ws∨gr X.K H p ws)∧Q (.int ws.length) H:=λys h1 h2=>by
  obtain ⟨a,ws,rfl,h3,h4⟩:=mI rv r h1
  exact ⟨a,ws,rfl,.inl h3,by rw [← h4.length,h2];exact k (.int _) J _ H rfl r .refl q⟩
 cases x with
 | tup ys =>
  obtain ⟨a,ws,rfl,h1,h2⟩:=rv
  cases en
  exact ⟨a,ws,rfl,.inr h1,by rw [← h2.length];exact k (.int _) J _ H rfl r .refl q⟩
 | fl ys=>cases en;exact go _ rfl rfl
 | ref a =>
  unfold xC at en
  cases el:jG J (.ref a) with
  | none=>simp [el] at en
  | some ys=>simp [el] at en;exact go _ el en
 | _=>cases en⟩
def B_ (J:Hq):PV→Option String
 | .non=>some "NoneType" | .bl _=>some "bool" | .int _=>some "int" | .str _=>some "str" | .tup _=>some "tuple" | .fl _=>some "list"
 | .ref a=>match J a with
  | some (.lst _)=>some "list"
  | some (.dct _ _)=>some "dict"
  | _=>none
 | _=>none
def l7 (t n:String):Option Bool :=
 if n∈["int","bool","str","tuple","list"] then some (t == n || (t == "bool" && n == "int")) else none
theorem G5 (K:PySem.W.Frag) {t n:String} {b:Bool} (ht:t∈["NoneType","bool","int","str","tuple","list","dict"]) (h:l7 t n=some b):PySem.W.kitOne K (.type t) (.type n)=some b:=by
 unfold l7 at h
 by_cases hn:n∈["int","bool","str","tuple","list"]
 ·rw [if_pos hn] at h
  simp only [SH,SV,or_false] at ht hn
  rcases ht with rfl | rfl | rfl | rfl | rfl | rfl | rfl <;> rcases hn with rfl | rfl | rfl | rfl | rfl <;> cases h <;> with_unfolding_all rfl
 ·rw [if_neg hn] at h;cases h
theorem ID {J:Hq} {x:PV} {t:String} (h:B_ J x=some t):t∈["NoneType","bool","int","str","tuple","list","dict"]:=by
 cases x with
 | ref a =>
  unfold B_ at h
  dsimp only at h
  cases ej:J a with
  | none=>rw [ej] at h;cases h
  | some o=>rw [ej] at h;cases o <;> cases h <;> simp
 | ty n=>cases h
 | _=>cases h;simp
def Qn (x:PV) (k:String→Prop) (_:gm k:=dp):Prop:=match x with | .ty n=>k n | _=>False
theorem NT {x:String} {k:String→Prop} {d:gm k}:Qn (.ty x) k d=k x:=rfl
theorem Lb {x:PV} {k:String→Prop} {d:gm k} (h:Qn x k d):∃n,x=.ty n∧k n:=by cases x <;> first | exact ⟨_,rfl,h⟩ | exact False.elim h
def N4:yZ:=λxs J Q=>La xs λx y=>Qn y λn=>vo (B_ J x) λt=>vo (l7 t n) λb=>Q (.bl b) J
theorem Cq:bT X (.builtin "isinstance") (λxs H Q=>∃x n t b,xs=[x,.ty n]∧(fN X.K H x (.type t)∨(t="tuple"∧∃a vs,x=.ref a∧gr X.K H a vs)∨(t="list"∧∃a vs,x=.ref a∧cF X.K H a vs))∧PySem.W.kitOne X.K (.type t) (.type n)=some b∧Q (.bl b) H):=by
 intro pins s σ H xs us Q I r h
 obtain ⟨x,n,t,b,rfl,ty,e,q⟩:=h
 obtain ⟨u,w',rfl,rx,ry⟩:=L2.vals2 r
 cases (show w'=Value.type n from ry)
 rcases ty with ty | ⟨rfl,a,vs,rfl,hs⟩ | ⟨rfl,a,vs,rfl,hs⟩
 ·exact L2.Cz I rx ty e λtk=>⟨.bl b,H,I.tok _,rfl,q⟩
 ·cases rx
  obtain ⟨its,_,⟨o,h1,h2,_⟩,_⟩:=I.tuple hs
  exact PySem.W.kia_one PySem.W.kitx_tuple I.mE ⟨o,h1,h2⟩ e (λz=>nomatch z) λtk=>⟨.bl b,H,I.tok _,rfl,q⟩
 ·cases rx
  obtain ⟨its,_,⟨o,_,h1,h2,_⟩,_⟩:=I.list hs
  exact PySem.W.kia_one PySem.W.kitx_list I.mE ⟨o,h1,h2⟩ e (λz=>nomatch z) λtk=>⟨.bl b,H,I.tok _,rfl,q⟩
theorem iH:IJ X (.builtin "isinstance") N4:=⟨_,Cq,λJ H xs vs Q2 Q rs r h k=>by
 obtain ⟨x,y,ex,h⟩:=zF h;obtain ⟨n,ey,h⟩:=Lb h;obtain ⟨t,et,h⟩:=dZ h;obtain ⟨b,es,q⟩:=dZ h
 subst ey
 subst ex
 obtain ⟨v,us,rfl,rv,w,us',rfl,rw',e⟩:=rs
 cases rw';cases e
 refine ⟨v,n,t,b,rfl,?_,G5 X.K (ID et) es,k (.bl _) J _ H rfl r .refl q⟩
 cases x with
 | non=>cases rv;cases et;exact .inl .non
 | bl i=>cases rv;cases et;exact .inl (.bl i)
 | int i=>cases rv;cases et;exact .inl (.int i)
 | str i=>cases rv;cases et;exact .inl (.str i)
 | tup xs=>obtain ⟨a,ws,rfl,h1,_⟩:=rv;cases et;exact .inr (.inl ⟨rfl,a,ws,rfl,h1⟩)
 | fl xs =>
  obtain ⟨a,ws,rfl,h1,_⟩:=rv;cases et
  exact .inr (.inr ⟨rfl,a,ws,rfl,h1.sq⟩)
 | ty n=>cases et
 | ref a =>
  cases rv
  unfold B_ at et
  dsimp only at et
  cases ej:J a with
  | none=>rw [ej] at et;cases et
  | some o =>
   rw [ej] at et
   have z:=r _ _ ej
   cases o with
   | lst xs=>obtain ⟨ws,h1,_⟩:=z;cases et;exact .inl (.lst h1)
   | dct kvs ep=>obtain ⟨gs,h1,_⟩:=z;cases et;exact .inl (.dE h1)
   | tab=>cases et
   | dtp hs ks=>cases et
   | ins C fs=>cases et⟩
def Lz:yZ:=λxs J Q=>Bh xs λx=>vo (jG J x) λys=>Q (.fl ys) J
def Fn:yZ:=λxs J Q=>Bh xs λx=>vo (jG J x) λys=>∀p,J p=none→Q (.ref p) (put J p (.lst ys))
theorem ig:IJ X (.type "list") Fn:=⟨_,L2.uK,λJ H xs vs Q2 Q rs r h k=>by
 obtain ⟨x,ex,h⟩:=iO h;obtain ⟨ys,el,q⟩:=dZ h
 subst ex;obtain ⟨v,us,rfl,rv,e⟩:=rs;cases e
 obtain ⟨a,ws,rfl,h3,h4⟩:=mI rv r el
 exact ⟨a,ws,rfl,.inl h3,λp hp=>k (.ref p) _ _ _ rfl (r.Es hp h4) (.laid hp) (q p (r.free hp))⟩⟩
def Qu:yZ:=λxs J Q=>∃i j,xs=[.int i,.int j]∧Q (.int (if j > i then j else i)) J
def vO:Dq:=λx xs J Q=>Bi x λa=>Bh xs λy=>O8 (J a) λys=>ys.length < sizeLine∧Q .non (put J a (.lst (ys ++ [y])))
theorem kA:Kb X "list" "list.append" vO:=⟨_,L2.ip,λJ H x xs v vs Q2 Q rx rs r h k=>by
 obtain ⟨a,ex,h⟩:=fY h;obtain ⟨y,exs,h⟩:=iO h;obtain ⟨ys,ja,hl,q⟩:=K_ h
 subst ex exs;cases rx;obtain ⟨w,us,rfl,rw',e⟩:=rs;cases e
 obtain ⟨ws,h1,h2⟩:=r _ _ ja
 exact ⟨a,ws,w,rfl,rfl,h1,by rw [← h2.length];exact hl,k .non _ _ _ rfl (r.wrote (ys:=ys ++ [y]) ja h1 (h2.append (show aM X.K J H [y] [w] from ⟨w,[],rfl,rw',rfl⟩))) (.wrote ja h1) q⟩⟩
def N9:Dq:=λx xs J Q=>∃a ys y,x=.ref a∧xs=[]∧J a=some (.lst ys)∧ys[ys.length - 1]?=some y∧Q y (put J a (.lst ys.dropLast))
theorem aM.dropLast {J:Hq} {H:Hp} {xs:List PV} {vs:List V} (r:aM K J H xs vs):aM K J H xs.dropLast vs.dropLast:=by
 rw [T',T',← r.length]
 exact r.take _
theorem K0:Kb X "list" "list.pop" N9:=⟨_,L2.K1,λJ H x xs v vs Q2 Q rx rs r ⟨a,ys,y,ex,exs,ja,hy,q⟩ k=>by
 subst ex exs;cases rx;cases rs
 obtain ⟨ws,h1,h2⟩:=r _ _ ja
 obtain ⟨w,e1,e2⟩:=h2.get hy
 have ex:=Ext.wrote (K:=X.K) (ys:=ys.dropLast) (vs:=ws.dropLast) ja h1
 exact ⟨a,ws,w,rfl,rfl,h1,by rw [← h2.length];exact e1,k y _ w _ (ex.rep e2) (r.wrote ja h1 h2.dropLast) ex q⟩⟩
def Ly:Dq:=λx xs J Q=>∃a ys,x=.ref a∧xs=[]∧J a=some (.lst ys)∧Q .non (put J a (.lst []))
def HW:V→List V→Hp→VK→Prop:=λx vs H Q=>∃l xs i y,x=.ref l∧vs=[.int (i:Nat),y]∧H l=some (.lst xs)∧i≤xs.length∧xs.length < sizeLine∧i < 2 ^ 62∧Q .non (upd H l (.lst (xs.take i ++ y :: xs.drop i)))
theorem zk (its:List Value) (i:Nat) (u:Value) (h:i≤its.length):((its.toArray.extract 0 (min ((i:Int)).toNat its.toArray.size)).push u ++ its.toArray.extract (min ((i:Int)).toNat its.toArray.size))=(its.take i ++ u :: its.drop i).toArray:=by
 have e:min ((i:Int)).toNat its.toArray.size=i:=by simp;omega
 rw [e]
 apply Array.ext'
 simp
 exact To (by simp)
theorem CN:pF X "list.insert" HW:=by
 intro pins s σ H x vs v us Q I rx rv h
 obtain ⟨l,xs,i,y,rfl,rfl,hH,hi,hz,hb,q⟩:=h
 cases rx
 obtain ⟨u,w,rfl,ru,rw'⟩:=L2.vals2 rv
 obtain ⟨t,rfl⟩:=ru
 obtain ⟨z,its,n,r,hl,e⟩:=I.G_ hH
 have h63:((i:Nat):Int) < 2 ^ 63:=by
  have:((i:Nat):Int) < ((2 ^ 62:Nat):Int):=Int.ofNat_lt.mpr hb
  exact Int.lt_trans this (by decide)
 have hf:Builtin.List.listFitsIndex ((i:Nat):Int)=true:=fitsIndex_both (Int.le_trans (by decide) (Int.natCast_nonneg i)) h63
 have hs:its.toArray.size≤sizeLine:=by rw [Sv,← hl];exact z
 have hn:¬(!Builtin.List.listFitsIndex ((i:Nat):Int))=true:=by rw [hf];exact λz=>nomatch z
 have hneg:¬ (((i:Nat):Int) < 0):=by omega
 have hins:=zk its i w (by omega)
 clear hb h63 hf
 generalize ((i:Nat):Int)=ii at *
 have mm:=PySem.AutoSeq1.list_insert_list_int_val_1 l its.toArray n ii t w hn hs
 refine call_meets PySem.F.slot_list_insert ⟨_,e,rfl⟩ PySem.F.entry_list_insert (PySem.F.args_list_insert_3 _ _ _) mm ⟨e,?_⟩
 refine ⟨.non,_,I.G9 (its':=its.take i ++ w :: its.drop i) hH e ?_ ((r.take i).append (.cons rw' (r.drop i))) ?_,rfl,q⟩
 ·simp only [if_neg hneg]
  exact hins
 ·rw [SQ,SS,SW,TF];omega
def By:Dq:=λx xs J Q=>∃a ys i y,x=.ref a∧xs=[.int (i:Nat),y]∧J a=some (.lst ys)∧i≤ys.length∧ys.length < sizeLine∧i < 2 ^ 62∧Q .non (put J a (.lst (ys.take i ++ y :: ys.drop i)))
theorem ua:Kb X "list" "list.insert" By:=⟨_,CN,λJ H x xs v vs Q2 Q rx rs r ⟨a,ys,i,y,ex,exs,ja,hi,hl,hb,q⟩ k=>by
 subst ex exs;cases rx;obtain ⟨w0,us,rfl,rw0,w,us',rfl,rw',e⟩:=rs;cases e;cases rw0
 obtain ⟨ws,h1,h2⟩:=r _ _ ja
 exact ⟨a,ws,i,w,rfl,rfl,h1,by rw [← h2.length];exact hi,by rw [← h2.length];exact hl,hb,k .non _ _ _ rfl (r.wrote (ys:=ys.take i ++ y :: ys.drop i) ja h1 ((h2.take i).append (show aM X.K J H (y :: ys.drop i) (w :: ws.drop i) from ⟨w,_,rfl,rw',h2.drop i⟩))) (.wrote ja h1) q⟩⟩
end
def pD (ks:List (Str × Nat)) (τ:Sr):Sr:=ks.map λp=>(τ[p.2]?).getD none
theorem BJ {K:PySem.W.Frag} {J:Hq} {H:Hp} {τ:Sr} {σ:L2.St} (r:lB K J H τ σ) {x:PV} {v:V} (rx:b_ K J H x v) (ks:List (Str × Nat)):lB K J H (some x :: pD ks τ) (some v :: dB ks σ):=by
 refine ⟨by simp [pD,dB],λi y e=>?_⟩
 cases i with
 | zero=>rw [T1] at e ⊢;cases e;exact ⟨v,rfl,rx⟩
 | succ i =>
  rw [S7] at e ⊢
  unfold pD at e
  unfold dB
  rw [SA] at e ⊢
  cases ep:ks[i]? with
  | none=>rw [ep] at e;cases e
  | some p =>
   rw [ep] at e
   have e':(τ[p.2]?).getD none=some y:=Option.some.inj e
   have e2:τ[p.2]?=some (some y):=by
    cases q:τ[p.2]? with
    | none=>rw [q] at e';cases e'
    | some w=>rw [q] at e';exact congrArg some e'
   obtain ⟨v',h1,h2⟩:=r.get _ _ e2
   exact ⟨v',by show some ((σ[p.2]?).getD none)=_;rw [h1];rfl,h2⟩
def Sub (J J':Hq):Prop:=∀a o,J a=some o→J' a=some o
theorem Sub.refl (J:Hq):Sub J J:=λ_ _ h=>h
theorem Sub.put {J:Hq} {D:Addr} {o:HQ} (h:J D=none):Sub J (put J D o):=λa u e=>by
 have ne:a≠D:=by intro z;subst z;rw [h] at e;cases e
 rw [ak ne];exact e
def Po (it:wR) (J1:Hq) (ks:List (Str × Nat)) (τ:Sr) (tc:lD) (te:cW) (c:PV→Bool) (g:PV→PV):Prop:=it.xs.length < sizeLine∧∀J',Sub J1 J'→it.ok J' ∧
 ∀x∈it.xs,tc (some x :: pD ks τ) J' (λb J2=>b=c x∧J2=J')∧(c x=true→te (some x :: pD ks τ) J' λy J2=>y=g x∧J2=J')
def zX (wi:sL) (ks:List (Str × Nat)) (tc:lD) (te:cW):cW:=λτ J Q=>wi τ J λit J1=>∃(c:PV→Bool) (g:PV→PV),Po it J1 ks τ tc te c g∧Q (.fl ((it.xs.filter c).map g)) J1
def LJ (wi:sL) (ks:List (Str × Nat)) (tc:lD) (te:cW):cW:=λτ J Q=>wi τ J λit J1=>∃(c:PV→Bool) (g:PV→PV),Po it J1 ks τ tc te c g∧∀p,J1 p=none→Q (.ref p) (put J1 p (.lst ((it.xs.filter c).map g)))
def BE:lD:=λ_ J Q=>Q true J
section
variable {X:Cx} {G:G2}
theorem o6 {α:Type} (c:α→Bool) {xs:List α} {i:Nat} {x:α} (h:xs[i]?=some x):(xs.take (i + 1)).filter c=(xs.take i).filter c ++ (if c x=true then [x] else []):=by
 rw [S4,h,T2]
 congr 1
 simp only [Option.toList_some,S2,UJ]
theorem uW {K:PySem.W.Frag} {ks:List (Str × Nat)} {tc:lD} {te:cW} {σ:L2.St} {H:Hp} {Q:VK} {τ:Sr} {J:Hq} (a2:wM K G τ J σ H) {it:wR} {J1:Hq} {I:It} {H1:Hp} (ir:tK K it I J1 H1) (r1:Rep K J1 H1) (e1:Ext K J H J1 H1) {c:PV→Bool} {g:PV→PV}
  (w:Po it J1 ks τ tc te c g)
  (q:∀D H2,H1 D=none→J1 D=none→Rep K (put J1 D (.lst ((it.xs.filter c).map g))) H2→Ext K J1 H1 (put J1 D (.lst ((it.xs.filter c).map g))) H2→Q (.ref D) H2) :
  ∀D,H1 D=none→∃W:Nat→Nat→Hp→Prop,(∃m,W 0 m (upd H1 D (.lst [])))∧∀i m H2,W i m H2→(I.stop i H2∧Q (.ref D) H2) ∨
   (I.go i H2∧∀v H3,I.yld i H2 v H3→LT K G tc (some v :: dB ks σ) H3 λb H4=>if b=true then LE K G te (some v :: dB ks σ) H4 λy H5=>∃ys,H5 D=some (.lst ys)∧ys.length < sizeLine∧∃m',m' < m∧W (i + 1) m' (upd H5 D (.lst (ys ++ [y]))) else ∃m',m' < m∧W (i + 1) m' H4):=by
 intro D hD
 obtain ⟨hlen,w⟩:=w
 have jD:J1 D=none:=r1.free hD
 refine ⟨λi m H2=>m=it.xs.length - i∧i≤it.xs.length∧Rep K (put J1 D (.lst (((it.xs.take i).filter c).map g))) H2∧Ext K J1 H1 (put J1 D (.lst (((it.xs.take i).filter c).map g))) H2,⟨_,rfl,SY _,r1.Es (xs:=[]) (vs:=[]) hD rfl,.laid hD⟩,?_⟩
 rintro i m H2 ⟨rfl,hi,r2,e2⟩
 obtain ⟨ok,ww⟩:=w _ (Sub.put (o:=.lst (((it.xs.take i).filter c).map g)) jD)
 by_cases hlt:i < it.xs.length
 ·refine .inr ⟨ir.go _ H2 e2 r2 ok i hlt,λv H3 y=>?_⟩
  obtain ⟨x,ex,rx,r3,e3⟩:=ir.yl _ H2 e2 r2 ok i hlt v H3 y
  obtain ⟨hc,he⟩:=ww x (Su ex)
  have a3:wM K G (some x :: pD ks τ) _ (some v :: dB ks σ) H3:=⟨BJ (a2.sl.ext ((e1.trans e2).trans e3)) rx ks,r3,((a2.ext.trans e1).trans e2).trans e3⟩
  refine ⟨_,_,_,a3,hc,λb J4 H4 r4 e4 ⟨eb,ej⟩=>?_⟩
  subst ej
  cases hb:c x with
  | false =>
   rw [eb,hb]
   simp only [SJ,if_false]
   refine ⟨_,by omega,rfl,hlt,?_⟩
   rw [o6 c ex,hb]
   simp only [SJ,if_false,Tb]
   exact ⟨r4,(e2.trans e3).trans e4⟩
  | true =>
   rw [eb,hb]
   simp only [if_true]
   refine ⟨_,_,_,a3.go r4 e4,he hb,λz J5 u H5 rz r5 e5 ⟨ez,ej⟩=>?_⟩
   subst ej ez
   obtain ⟨ys,h5,ry⟩:=r5 D _ aq
   have ll:ys.length≤i:=by
    rw [← ry.length,Sm]
    exact SM (Tg _ _) (by rw [SW];omega)
   have r6:=r5.wrote (ys:=((it.xs.take i).filter c).map g ++ [g x]) (vs:=ys ++ [u]) aq h5 (ry.append (show aM K _ H5 [g x] [u] from ⟨u,[],rfl,rz,rfl⟩))
   have e6:=Ext.wrote (K:=K) (ys:=((it.xs.take i).filter c).map g ++ [g x]) (vs:=ys ++ [u]) (J:=put J1 D (.lst (((it.xs.take i).filter c).map g))) aq h5
   rw [eR] at r6 e6
   refine ⟨ys,h5,by omega,_,by omega,rfl,hlt,?_⟩
   rw [o6 c ex,hb,if_pos rfl,Sw]
   exact ⟨r6,(((e2.trans e3).trans e4).trans e5).trans e6⟩
 ·have ei:i=it.xs.length:=by omega
  subst ei
  rw [S3] at r2 e2 ok
  exact .inl ⟨ir.stop _ H2 e2 r2 ok,q D H2 hD jD r2 e2⟩
theorem freeze {K:PySem.W.Frag} {J1:Hq} {H2:Hp} {D:Addr} {xs:List PV} (jD:J1 D=none) (r:Rep K (put J1 D (.lst xs)) H2):b_ K J1 H2 (.fl xs) (.ref D)∧Rep K J1 H2∧Ext K (put J1 D (.lst xs)) H2 J1 H2:=by
 obtain ⟨ys,h,ry⟩:=r D _ aq
 have less:∀a,J1 a=put J1 D (.lst xs) a∨J1 a=none:=λa=>by
  by_cases e:a=D
  ·subst e;exact .inr jD
  ·rw [ak e];exact .inl rfl
 have e:=Ext.less (K:=K) (H:=H2) less
 exact ⟨⟨D,ys,rfl,.inl ⟨jD,.inl h⟩,e.iW ry⟩,r.less less,e⟩
theorem Ew {wi:sL} {ks:List (Str × Nat)} {tc:lD} {te:cW}:∀σ H Q,LE X.K G (zX wi ks tc te) σ H Q→Iu (LI X.K G wi) ks (LT X.K G tc) (LE X.K G te) σ H Q:=λσ H Q ⟨τ,J,Q2,a2,h,k⟩ =>
 ⟨τ,J,_,a2,h,λit J1 I H1 ir r1 e1 ⟨c,g,w,q⟩=>uW (Q:=Q) a2 ir r1 e1 w λD H2 hD jD r2 e2=>let ⟨x1,x2,x3⟩:=freeze jD r2;k _ J1 _ H2 x1 x2 ((e1.trans e2).trans x3) q⟩
theorem Ex {wi:sL} {ks:List (Str × Nat)} {tc:lD} {te:cW}:∀σ H Q,LE X.K G (LJ wi ks tc te) σ H Q→Iu (LI X.K G wi) ks (LT X.K G tc) (LE X.K G te) σ H Q:=λσ H Q ⟨τ,J,Q2,a2,h,k⟩ =>
 ⟨τ,J,_,a2,h,λit J1 I H1 ir r1 e1 ⟨c,g,w,q⟩=>uW (Q:=Q) a2 ir r1 e1 w λD H2 hD jD r2 e2=>k (.ref D) _ _ H2 rfl r2 (e1.trans e2) (q D jD)⟩
theorem Eu {wi:sL} {ks:List (Str × Nat)} {te:cW}:∀σ H Q,LE X.K G (zX wi ks BE te) σ H Q→Pe (LI X.K G wi) ks (LE X.K G te) σ H Q:=λσ H Q ⟨τ,J,Q2,a2,h,k⟩ =>
 ⟨τ,J,_,a2,h,λit J1 I H1 ir r1 e1 ⟨c,g,w,q⟩ D hD=>by
  obtain ⟨W,w0,turn⟩:=uW (Q:=Q) a2 ir r1 e1 w (λD H2 hD jD r2 e2=>let ⟨x1,x2,x3⟩:=freeze jD r2;k _ J1 _ H2 x1 x2 ((e1.trans e2).trans x3) q) D hD
  refine ⟨W,w0,λi m H2 hw=>?_⟩
  rcases turn i m H2 hw with z | ⟨go,z⟩
  ·exact .inl z
  ·refine .inr ⟨go,λv H3 y=>?_⟩
   obtain ⟨τ',J',Q',a',t',k'⟩:=z v H3 y
   have:=k' true J' H3 a'.hp .refl t'
   simpa using this⟩
variable {elt iter cnd:Expr} {x y:Str} {px py:Pos} {sc:Scope} {pos spos:Pos} {wi:sL} {te:cW} {tc:lD} {i:Nat}
theorem qC {t:cW} {u:TE} (h:∀σ H Q,LE X.K G t σ H Q→u σ H Q):∀D σ H,LS X.K G (vQ t (IS i)) D σ H→u σ H λv H1=>D.nx (σ.set i (some v)) H1:=λD σ H ⟨τ,J,D2,a2,q,g⟩ =>
 h σ H _ ⟨τ,J,_,a2,q,λx J' v H' rx rr ee q=>g.nx _ J' _ H' ((a2.sl.ext ee).set i rx) rr ee q⟩
theorem LU (osc:Scope) (N:List Str) (ks:List (Str × Nat)) (hc:X.calm=true) (ho:X.env.scope=osc) (hN:X.N=N) (hnd:X.N.Nodup) (hy:X.N[i]?=some y) (hl:Loc X.env.scope y) (hi:RI X G (.Name x px) iter wi) (he:∀cl C s₀ H₀ fp pins,RE (gq X sc cl C x ks s₀ H₀ fp pins) G elt te) (hcn:∀cl C s₀ H₀ fp pins,RT (gq X sc cl C x ks s₀ H₀ fp pins) G cnd tc)
  (ok:cR sc osc N x ks:=by decide +kernel) (hs:∀x,foldedSetIterable iter X.env x=pure x:=by intro _;rfl) (hsw:swapsWith (.ListComp elt [⟨.Name x px,iter,[cnd],0⟩] sc pos) (some (.Name y py)) spos.line X.env=pure true:=by rfl) (hf:X.fn y=true∨X.env.scope.names.lookup y=some .local:=by first | exact .inl rfl | exact .inr rfl | assumption) :
  RS X G (.Assign [.Name y py] (.ListComp elt [⟨.Name x px,iter,[cnd],0⟩] sc pos) spos) (vQ (zX wi ks tc te) (IS i)) :=
 ⟨zQ (zR osc N ks hc ho hN hnd hy hl hi.run (λcl C s₀ H₀ fp pins=>(he cl C s₀ H₀ fp pins).run) (λcl C s₀ H₀ fp pins=>Bs (hcn cl C s₀ H₀ fp pins).run) ok hs hsw hf) (qC Ew)⟩
theorem Ib (osc:Scope) (N:List Str) (ks:List (Str × Nat)) (hc:X.calm=true) (ho:X.env.scope=osc) (hN:X.N=N) (hnd:X.N.Nodup) (hy:X.N[i]?=some y) (hl:Loc X.env.scope y) (hi:RI X G (.Name x px) iter wi) (he:∀cl C s₀ H₀ fp pins,RE (gq X sc cl C x ks s₀ H₀ fp pins) G elt te) (hcn:∀cl C s₀ H₀ fp pins,RT (gq X sc cl C x ks s₀ H₀ fp pins) G cnd tc)
  (ok:cR sc osc N x ks:=by decide +kernel) (hs:∀x,foldedSetIterable iter X.env x=pure x:=by intro _;rfl) (hsw:swapsWith (.ListComp elt [⟨.Name x px,iter,[cnd],0⟩] sc pos) (some (.Name y py)) spos.line X.env=pure true:=by rfl) (hf:X.fn y=true∨X.env.scope.names.lookup y=some .local:=by first | exact .inl rfl | exact .inr rfl | assumption) :
  RS X G (.Assign [.Name y py] (.ListComp elt [⟨.Name x px,iter,[cnd],0⟩] sc pos) spos) (vQ (LJ wi ks tc te) (IS i)) :=
 ⟨zQ (zR osc N ks hc ho hN hnd hy hl hi.run (λcl C s₀ H₀ fp pins=>(he cl C s₀ H₀ fp pins).run) (λcl C s₀ H₀ fp pins=>Bs (hcn cl C s₀ H₀ fp pins).run) ok hs hsw hf) (qC Ex)⟩
theorem JF (osc:Scope) (N:List Str) (ks:List (Str × Nat)) (hc:X.calm=true) (ho:X.env.scope=osc) (hN:X.N=N) (hnd:X.N.Nodup) (hy:X.N[i]?=some y) (hl:Loc X.env.scope y) (hi:RI X G (.Name x px) iter wi) (he:∀cl C s₀ H₀ fp pins,RE (gq X sc cl C x ks s₀ H₀ fp pins) G elt te)
  (ok:cR sc osc N x ks:=by decide +kernel) (hs:∀x,foldedSetIterable iter X.env x=pure x:=by intro _;rfl) (hsw:swapsWith (.ListComp elt [⟨.Name x px,iter,[],0⟩] sc pos) (some (.Name y py)) spos.line X.env=pure true:=by rfl) (hf:X.fn y=true∨X.env.scope.names.lookup y=some .local:=by first | exact .inl rfl | exact .inr rfl | assumption) :
  RS X G (.Assign [.Name y py] (.ListComp elt [⟨.Name x px,iter,[],0⟩] sc pos) spos) (vQ (zX wi ks BE te) (IS i)) :=
 ⟨zQ (Jo osc N ks hc ho hN hnd hy hl hi.run (λcl C s₀ H₀ fp pins=>(he cl C s₀ H₀ fp pins).run) ok hs hsw hf) (qC Eu)⟩
end
end Ov
namespace Ov
open PySem PySem.Spec PyProof.Rows
section
open HT (lexLt)
def lJ:List Str→List Str→Bool
 | [],[]=>false
 | [],_ :: _=>true
 | _ :: _,[]=>false
 | x :: xs,y :: ys=>if x=y then lJ xs ys else decide (x.cps.toList < y.cps.toList)
theorem nW (x y:Str) (xs ys:List Str):lJ (x :: xs) (y :: ys)=if x=y then lJ xs ys else decide (x.cps.toList < y.cps.toList):=rfl
theorem mH:lJ [] []=false:=rfl
theorem sP (y:Str) (ys:List Str):lJ [] (y :: ys)=true:=rfl
theorem sO (x:Str) (xs:List Str):lJ (x :: xs) []=false:=rfl
theorem D3 (A:Around) (s:Shared) (a:Str) (t:Tok) (c:Str) (u:Tok):∃e,SeqAt.EqAt A s (.str a t) (.str c u) e∧(e=true↔a=c) :=
 ⟨(a == c),SeqAt.EqAt.str_str a t c u,by simp⟩
theorem Fx (A:Around) (s:Shared) (a:Str) (t:Tok) (c:Str) (u:Tok) (prog:Program) (w:World) (E:Value→Shared→Prop) (Q:Value→Shared→Prop) (h:Q (.bool (decide (a.cps.toList < c.cps.toList))) s) :
  wpAny (model prog w) A (richCompare .Lt (.str a t) (.str c u)) Q E s :=
 (PyProof.Rows.lt_str h:wpAny (model prog w) A (compareOp .Lt (.str a t) (.str c u)) Q E s)
open PySem.SeqAt
open PySem.AutoSeq1 (wpAny_loadPart')
open PySem.MeetsSeq PySem.MeetsSeq2 PySem.MeetsSeq3
theorem tI (l b:Addr) (items items2:Array Value) (n n2:Nat) (dd dd2:Option Addr) (sl sl2:Array (Option Value)) (ns ms:List Str) (hi:StrsAre items.toList ns) (hj:StrsAre items2.toList ms) :
  Meets (Builtin.«tuple.__lt__» ⟨[.ref l,.ref b],[]⟩)
   (λ_ R s=>s.heap.get? l=some { cls:=.type "tuple",dict:=dd,data:=.seq items n,slots:=sl }∧s.heap.get? b=some { cls:=.type "tuple",dict:=dd2,data:=.seq items2 n2,slots:=sl2 } ∧
    R (.ok (.ret (.bool (lJ ns ms)))) s) :=
 .of_wp λprog w A R s h=>by
  obtain ⟨hp,g,d,tk,os⟩:=s;obtain ⟨hl,hb,h⟩:=h
  have f2:=AutoSeq1.sub_tuple_tuple
  have z1:items.size=ns.length:=by rw [← hi.length];simp
  have z2:items2.size=ms.length:=by rw [← hj.length];simp
  wp_walk using wpAny_loadPart' hl,wpAny_loadPart' hb,wpAny_forIn_list _ (λrest b s'=>b.1=none∧s'=⟨hp,g,d,tk,os⟩∧∃(vs ws:List Value) (ns' ms':List Str),rest=vs.zip ws ∧
   StrsAre vs ns'∧StrsAre ws ms'∧ns'.length + items2.size=ms'.length + items.size∧R (.ok (.ret (.bool (lJ ns' ms')))) ⟨hp,g,d,tk,os⟩) _
  case turn =>
   rintro ⟨y,x⟩ rest b s' ⟨hb',rfl,vs,ws,ns',ms',hz,hvi,hwi,hlen,hR⟩
   cases hvi with
   | nil=>rw [List.zip_nil_left] at hz;cases hz
   | cons a t hvi' =>
    cases hwi with
    | nil=>rw [List.zip_nil_right] at hz;cases hz
    | cons c u hwi' =>
     rw [UW] at hz
     injection hz with hyx hrest
     injection hyx with hy hx
     subst hy hx
     rw [nW] at hR
     simp only [SS] at hlen
     obtain ⟨e,he,hiff⟩:=D3 A.in1 ⟨hp,g,d,tk,os⟩ a t c u
     refine wpAny_bind (he prog w _ _ ?_)
     cases e with
     | true =>
      rw [if_pos (hiff.mp rfl)] at hR
      wp_walk
      exact ⟨rfl,rfl,_,_,_,_,hrest,hvi',hwi',by omega,hR⟩
     | false =>
      rw [if_neg (λq=>absurd (hiff.mpr q) SI)] at hR
      have hri:=Fx A.in1 ⟨hp,g,d,tk,os⟩ a t c u prog w
      wp_walk using hri
      exact ⟨_,rfl,by simpa using hR⟩
  case fin =>
   rintro ⟨b1,b2⟩ s' ⟨hb',rfl,vs,ws,ns',ms',hz,hvi,hwi,hlen,hR⟩
   simp only at hb'
   subst hb'
   have hv:lJ ns' ms'=decide (items.size < items2.size):=by
    cases hvi with
    | nil =>
     cases hwi with
     | nil =>
      simp only [T3] at hlen
      rw [mH]
      exact (decide_eq_false (by omega)).symm
     | cons c u hw =>
      simp only [T3,SS] at hlen
      rw [sP]
      exact (decide_eq_true (by omega)).symm
    | cons a t hv =>
     cases hwi with
     | nil =>
      simp only [T3,SS] at hlen
      rw [sO]
      exact (decide_eq_false (by omega)).symm
     | cons c u hw =>
      rw [UW] at hz
      cases hz
   rw [hv] at hR
   wp_walk
   exact ⟨_,rfl,by simpa [Builtin.Tuple.tupleCompareSizes] using hR⟩
  case h =>
   exact ⟨rfl,rfl,items.toList,items2.toList,ns,ms,rfl,hi,hj,by omega,h⟩
section
variable {prog:Program} {w:World} {A:Around} {E:Value→Shared→Prop} {s:Shared}
theorem zu {l b:Addr} {items items2:Array Value} {ns ms:List Str} {Q:Value→Shared→Prop} (hl:IsTup s.heap l items) (hb:IsTup s.heap b items2) (hi:StrsAre items.toList ns) (hj:StrsAre items2.toList ms)
  (hu:A.units < cLine) (h:Q (.bool (lJ ns ms)) s):wpAny (model prog w) A (compareOp .Lt (.ref l) (.ref b)) Q E s:=by
 obtain ⟨⟨cls,dd,data,sl⟩,ho,hc,n,hd⟩:=id hl
 obtain ⟨⟨cls2,dd2,data2,sl2⟩,ho2,hc2,n2,hd2⟩:=id hb
 simp only at hc hd hc2 hd2
 subst hc hd hc2 hd2
 exact richCompare_meets_room (op:=.Lt) ⟨_,ho,rfl⟩ ⟨_,ho2,rfl⟩ PySem.F.slot_tuple_lt PySem.F.entry_tuple_lt (PySem.F.args_tuple_lt_2 _ _) (tI l b items items2 n n2 dd dd2 sl sl2 ns ms hi hj)
  ⟨ho,ho2,show Value.bool (lJ ns ms)≠Value.notImplemented∧Q (.bool (lJ ns ms)) s from ⟨(λx=>nomatch x),h⟩⟩ hu
end
end
open L2 (V HO Hp Inv Cx VK XK TE TT TA TS TG pG TI TO ju Ends wN Loc Gl Rd RelV Vals eO w6 bT pE sH pF jt R2 upd aE aL cF gr Sp rT It bA cT bI Passes o8 aD Meth Mk Binds aH b7 av c7 fN d_)
section
variable {X:Cx} {K:PySem.W.Frag}
theorem Hv (hu:X.A.units < cLine):eO X (compareOp .Lt) (λx y H Q=>∃a b ns ms,x=.ref a∧y=.ref b∧gr X.K H a (ns.map V.str)∧gr X.K H b (ms.map V.str)∧Q (.bl (lJ ns ms)) H):=by
 intro pins s σ H x y v u Q I rx ry h
 obtain ⟨a,b,ns,ms,rfl,rfl,ha,hb,q⟩:=h
 cases rx;cases ry
 obtain ⟨is,r1,t1,_⟩:=I.tuple ha
 obtain ⟨js,r2,t2,_⟩:=I.tuple hb
 exact zu t1 t2 (by simpa using jb r1) (by simpa using jb r2) hu ⟨.bl _,H,I,rfl,q⟩
theorem rO {J:Hq} {H:Hp}:∀{ns:List Str} {vs:List V},aM K J H (ns.map PV.str) vs→vs=ns.map V.str
 | [],_,h=>h
 | n :: ns,_,⟨v,us,e,h,k⟩=>by subst e;cases h;rw [rO k];rfl
def Jt:ml:=λx y J Q=>∃ns ms,x=.tup (ns.map .str)∧y=.tup (ms.map .str)∧Q (.bl (lJ ns ms)) J
theorem Hy (hu:X.A.units < cLine):mj X (compareOp .Lt) Jt:=⟨_,Hv hu,λJ H x y v w Q2 Q rx ry r ⟨ns,ms,ex,ey,q⟩ k=>by
 subst ex ey
 obtain ⟨a,vs,rfl,h1,h2⟩:=rx
 obtain ⟨b,ws,rfl,h3,h4⟩:=ry
 cases rO h2;cases rO h4
 exact ⟨a,b,ns,ms,rfl,rfl,h1,h3,k (.bl _) J _ H rfl r .refl q⟩⟩
theorem Hu:eO X (binaryOp .Add) (λx y H Q=>∃l b xs zs,x=.ref l∧y=.ref b∧cF X.K H l xs∧cF X.K H b zs∧xs.length + zs.length≤sizeLine∧∀p,H p=none→Q (.ref p) (upd H p (.lst (xs ++ zs)))):=by
 intro pins s σ H x y v u Q I rx ry h
 obtain ⟨l,b,xs,zs,rfl,rfl,hH,hB,hz,q⟩:=h
 cases rx;cases ry
 obtain ⟨its,r,pl,_⟩:=I.list hH
 obtain ⟨its2,r2,pl2,_⟩:=I.list hB
 have l1:=r.length
 have l2:=r2.length
 obtain ⟨⟨c1,d1,da1,sl1⟩,n,e,hc,hd,hda⟩:=pl
 obtain ⟨⟨c2,d2,da2,sl2⟩,n2,e2,hc2,hd2,hda2⟩:=pl2
 simp only at hc hd hda hc2 hd2 hda2
 subst hc hd hda hc2 hd2 hda2
 refine concat_meets ⟨_,e,rfl⟩ ⟨_,e2,rfl⟩ noFill_list_add seq_list_add PySem.F.slot_list_add PySem.F.entry_list_add (PySem.F.args_list_add_2 _ _) (list_addW l b its.toArray its2.toArray n n2 none none sl1 sl2 (by simp only [Sv];omega)) ⟨e,e2,?_⟩
 have ea:its.toArray ++ its2.toArray=(its ++ its2).toArray:=by simp
 rw [ea]
 exact ⟨.ref _,_,I.Qd (t':=s.toks) (r.append r2) (by rw [SQ];omega),rfl,q _ I.fresh⟩
def Jr:ml:=λx y J Q=>∃xs ys,jG J x=some xs∧jG J y=some ys∧xs.length + ys.length≤sizeLine∧Q (.fl (xs ++ ys)) J
theorem Hx:mj X (binaryOp .Add) Jr:=⟨_,Hu,λJ H x y v w Q2 Q rx ry r ⟨xs,ys,ex,ey,hl,q⟩ k=>by
 obtain ⟨a,vs,rfl,h1,h2⟩:=mI rx r ex
 obtain ⟨b,ws,rfl,h3,h4⟩:=mI ry r ey
 refine ⟨a,b,vs,ws,rfl,rfl,h1,h3,by rw [← h2.length,← h4.length];exact hl,λp hp=>?_⟩
 obtain ⟨x1,x2,x3⟩:=uZ r (h2.append h4) hp
 exact k _ J _ _ x1 x2 x3 q⟩
end
def dm (K:PySem.W.Frag) (C:Addr) (m qual:Str) (st:Stmt):Prop:=∃f fd,Meth K C m f∧b7 K m qual st f fd
structure dj (K:PySem.W.Frag) (mg:Str→Option Value) (x:Str) (C:Addr):Prop where
 cl:o8 K C
 m:mg x=some (.ref C)
 mkz:PySem.W.makesIn K C=true
 kp:PySem.W.keepIn K (.ref C)=true
theorem bc {K:PySem.W.Frag} {C f:Addr} {m qual:Str} {st:Stmt} {od an:Option Addr} {sl:Array (Option Value)} {oc kV dc pm cd ct:Value} (a:PySem.W.findIn K (.ref C) m=some (some (.ref f))) (i:PySem.W.isFn K (.ref f)=true)
  (l:K.lookup f=some ⟨oc,od,.func (PySem.W.fnOf m qual (L2.cU st) (L2.bK st) (L2.ai st) .none kV dc pm an cd ct),sl⟩) (c:PySem.W.codeIn K cd qual=true) (k:PySem.W.keepIn K (.ref f)=true):dm K C m qual st :=
 ⟨f,_,⟨a,i,k⟩,L2.zh l c k⟩
theorem uS {K:PySem.W.Frag} {h:Heap} {mg:Str→Option Value} {x:Str} {C:Addr} (X:K.In h) (G:h.Ns mainGlobals mg) (aC:PySem.W.nsIn K mainGlobals x=some (some (.ref C)))
  (pg:PySem.W.plainGet K C Str.empty=true) (hd:PySem.W.hasDictIn K C=true) (po:PySem.W.plainOver K C=true) (sa:PySem.W.findIn K (.ref C) "__setattr__"=some (some (.builtin "object.__setattr__"))) (mk:PySem.W.makesIn K C=true) (kc:PySem.W.keepIn K (.ref C)=true):dj K mg x C :=
 ⟨⟨pg,hd,po,sa⟩,PySem.W.mg_of X G aC,mk,kc⟩
section
variable {P:Program} {w:World} {K:PySem.W.Frag} {mg:Str→Option Value} {base:Heap}
theorem dm.ph {C:Addr} {m qual:Str} {st:Stmt} {k:Nat} {ps:List Str} {sp:cx} (D:dm K C m qual st) (cl:o8 K C) (h:∀f fd,b7 K m qual st f fd→aH P w K mg base (cQ P w) k f fd ps (dk K sp))
  (hb:∀(kV doc pm:Value) (an:Option Addr) (cdv ct:Value) (us:List Value),us.length=ps.length→bindArgs (PySem.W.fnOf m qual (L2.cU st) (L2.bK st) (L2.ai st) .none kV doc pm an cdv ct) ⟨us,[]⟩=pure (ps.zip us)):cn P w K mg base C k m ps sp:=by
 obtain ⟨f,fd,hm,F⟩:=D
 exact ⟨cl,f,fd,hm,h f fd F,F.binds hb⟩
theorem dm.Qf {x:Str} {C:Addr} {qual:Str} {st:Stmt} {k:Nat} {ps:List Str} {sp:cx} (D:dm K C "__init__" qual st) (kd:dj K mg x C) (h:∀f fd,b7 K "__init__" qual st f fd→aH P w K mg base (cQ P w) k f fd ps (dk K sp))
  (hb:∀(kV doc pm:Value) (an:Option Addr) (cdv ct:Value) (us:List Value),us.length=ps.length→bindArgs (PySem.W.fnOf "__init__" qual (L2.cU st) (L2.bK st) (L2.ai st) .none kV doc pm an cdv ct) ⟨us,[]⟩=pure (ps.zip us)):uH P w K mg base C k x ps sp:=by
 obtain ⟨f,fd,hm,F⟩:=D
 exact ⟨kd.m,f,fd,⟨kd.mkz,hm.at_,hm.fn,kd.kp⟩,h f fd F,F.binds hb⟩
end
theorem Mx {n:Nat} {F:List Value→Prop} (h:∀a us,us.length=n→F (a :: us)) (us:List Value) (hu:us.length=n + 1):F us:=by
 cases us with
 | nil=>cases hu
 | cons a us=>exact h a us (Nat.succ.inj hu)
theorem R6 {F:List Value→Prop} (h:F []) (us:List Value) (hu:us.length=0):F us:=by
 cases us with
 | nil=>exact h
 | cons a us=>cases hu
theorem yH {F:List Value→Prop} (h:∀a,F [a]):∀us:List Value,us.length=1→F us:=Mx λa=>R6 (F:=λus=>F (a :: us)) (h a)
theorem ko {F:List Value→Prop} (h:∀a b,F [a,b]):∀us:List Value,us.length=2→F us:=Mx λa=>yH (F:=λus=>F (a :: us)) (h a)
theorem Ke {F:List Value→Prop} (h:∀a b c,F [a,b,c]):∀us:List Value,us.length=3→F us:=Mx λa=>ko (F:=λus=>F (a :: us)) (h a)
theorem Mw {F:List Value→Prop} (h:∀a b c d,F [a,b,c,d]):∀us:List Value,us.length=4→F us:=Mx λa=>Ke (F:=λus=>F (a :: us)) (h a)
theorem Px {F:List Value→Prop} (h:∀a b c d e,F [a,b,c,d,e]):∀us:List Value,us.length=5→F us:=Mx λa=>Mw (F:=λus=>F (a :: us)) (h a)
theorem R7 {F:List Value→Prop} (h:∀a b c d e f,F [a,b,c,d,e,f]):∀us:List Value,us.length=6→F us:=Mx λa=>Px (F:=λus=>F (a :: us)) (h a)
end Ov
namespace Ov
open PySem PySem.Spec PyProof.Rows
open L2 (V HO Hp Inv Cx VK XK Rd cF gr Sp bA bI Passes aH b7 av c7 upd aE aL)
def fr (q:Rat):PV:=.tup [.int q.num,.int (q.den:Int)]
theorem Kx (a b:Rat):(fr a=fr b)=(a=b):=by
 apply propext
 constructor
 ·intro h
  unfold fr at h
  simp only [PV.tup.injEq,List.cons.injEq,PV.int.injEq,and_true] at h
  exact Rat.ext h.1 (by have:=h.2;omega)
 ·intro h;rw [h]
theorem IQ (a:Rat):fr a=.tup [.int a.num,.int (a.den:Int)]:=rfl
theorem KD (J:Hq) (q:Rat):fJ J (fr q) (.int 0)=some (.int q.num):=dq _ _
theorem KG (J:Hq) (q:Rat):fJ J (fr q) (.int 1)=some (.int (q.den:Int)):=fQ _ _ _
theorem OU (J:Hq) (q:Rat):B_ J (fr q)=some "tuple":=rfl
theorem KP (J:Hq) (q:Rat):xC J (fr q)=some 2:=rfl
theorem vK (q:Rat):l_ (fr q)=true:=by simp [fr,l_,j1]
theorem qA (q:Rat):El (fr q)=false:=rfl
theorem Ks (q:Rat):dep (fm (fr q))=1:=by simp [fr,fm,eg,dep,cZ]
theorem M4 (q:Rat):GJ (fr q)=True:=eq_true ⟨vK q,by rw [Ks];decide⟩
theorem Kk (i:Int):GJ (.int i)=True:=eq_true ⟨by simp [l_],by simp [fm,dep]⟩
theorem Km (i:Str):GJ (.str i)=True:=eq_true ⟨by simp [l_],by simp [fm,dep]⟩
theorem M3 (i:Bool):GJ (.bl i)=True:=eq_true ⟨by simp [l_],by simp [fm,dep]⟩
theorem Kl:GJ .non=True:=eq_true ⟨by simp [l_],by simp [fm,dep]⟩
theorem Bu (i:Int):l_ (.int i)=true:=by simp [l_]
theorem vL (i:Str):l_ (.str i)=true:=by simp [l_]
theorem Lv (i:Bool):l_ (.bl i)=true:=by simp [l_]
theorem HP:l_ .non=true:=by simp [l_]
theorem Bv (xs:List PV):l_ (.tup xs)=j1 xs:=by simp [l_]
theorem kG (x:PV) (xs:List PV):j1 (x :: xs)=(l_ x && j1 xs):=by simp [j1]
theorem ya:j1 []=true:=by simp [j1]
theorem eq_int (a b:Int):eqQ (.int a) (.int b)=decide (a=b):=by unfold eqQ fm ku;rw [UK]
theorem eq_str (a b:Str):eqQ (.str a) (.str b)=decide (a=b):=by
 unfold eqQ fm ku
 cases h:a == b with
 | true=>simp at h;simp [h]
 | false=>simp at h;simp [h]
theorem M7 (a b:Bool):eqQ (.bl a) (.bl b)=decide (a=b):=by unfold eqQ fm ku;rw [UK]
def ze (xs ys:List PV):Bool:=jy (eg xs) (eg ys)
theorem uO (xs ys:List PV):eqQ (.tup xs) (.tup ys)=ze xs ys:=by unfold eqQ fm ku ze;rfl
theorem du (x y:PV) (xs ys:List PV):ze (x :: xs) (y :: ys)=(eqQ x y && ze xs ys):=by unfold ze eqQ;simp [eg,jy]
theorem pH:ze [] []=true:=by unfold ze;simp [eg,jy]
theorem eq_self (x:PV):eqQ x x=true:=xo _
theorem AU (a b:Rat):eqQ (fr a) (fr b)=decide (a=b):=by
 rw [IQ,IQ,uO,du,du,pH,eq_int,eq_int,Tz,← TL]
 exact decide_eq_decide.mpr (by rw [H0])
theorem Sk (a b c:PV):lG [a,b,c] (some 1) none=[b,c]:=rfl
theorem Mh:l7 "int" "int"=some true:=by simp [l7]
theorem IE:l7 "int" "bool"=some false:=by simp [l7]
theorem OW:l7 "bool" "bool"=some true:=by simp [l7]
theorem Mi:l7 "str" "str"=some true:=by simp [l7]
theorem Mj:l7 "tuple" "tuple"=some true:=by simp [l7]
theorem IF:l7 "list" "list"=some true:=by simp [l7]
theorem dC {n:Nat} (h:n≤1000):n≤sizeLine:=Ul (L2.ba h)
theorem Ja:(0≤sizeLine)=True:=eq_true (SY _)
theorem Nk:(1≤sizeLine)=True:=eq_true (dC (by decide))
theorem Nl:(2≤sizeLine)=True:=eq_true (dC (by decide))
theorem Nn:(3≤sizeLine)=True:=eq_true (dC (by decide))
theorem Np:(4≤sizeLine)=True:=eq_true (dC (by decide))
section
variable (J:Hq) (xs:List PV) (a:Addr) (i:Int) (b:Bool) (z:Str) (T:String)
theorem P5:fJ J (.tup xs) (.int i)=c7 xs i:=rfl
theorem P4:fJ J (.fl xs) (.int i)=c7 xs i:=rfl
theorem Nd:fJ J (.ref a) (.int i)=(match J a with | some (.lst xs)=>c7 xs i | _=>none):=rfl
theorem Qe:jG J (.fl xs)=some xs:=rfl
theorem zt:jG J (.ref a)=(match J a with | some (.lst xs)=>some xs | _=>none):=rfl
theorem Nj:xC J (.tup xs)=some xs.length:=rfl
theorem Ni:xC J (.fl xs)=some xs.length:=rfl
theorem I9:xC J (.ref a)=(match J a with | some (.lst xs)=>some xs | _=>none).map Tt:=rfl
theorem QY:B_ J .non=some "NoneType":=rfl
theorem OT:B_ J (.bl b)=some "bool":=rfl
theorem QX:B_ J (.int i)=some "int":=rfl
theorem QZ:B_ J (.str z)=some "str":=rfl
theorem Q1:B_ J (.tup xs)=some "tuple":=rfl
theorem QV:B_ J (.fl xs)=some "list":=rfl
theorem OV:B_ J (.ref a)=(match J a with | some (.lst _)=>some "list" | some (.dct _ _)=>some "dict" | _=>none):=rfl
theorem OP:wK J .non=some false:=rfl
theorem JM:wK J (.bl b)=some b:=rfl
theorem OO:wK J (.int i)=some (i != 0):=rfl
theorem OR:wK J (.tup xs)=some (!xs.isEmpty):=rfl
theorem ON:wK J (.fl xs)=some (!xs.isEmpty):=rfl
theorem OQ:wK J (.ref a)=(match J a with | some (.lst xs)=>some (!xs.isEmpty) | some (.dct kvs _)=>some (!kvs.isEmpty) | _=>none):=rfl
theorem P1:MB J (.fl xs)=some ⟨xs,λ_=>True⟩:=rfl
theorem P2:MB J (.ref a)=(match J a with | some (.lst xs)=>some ⟨xs,λJ'=>J' a=some (.lst xs)⟩ | _=>none):=rfl
theorem Na:El .non=true:=rfl
theorem PR:El (.bl b)=false:=rfl
theorem PX:El (.int i)=false:=rfl
theorem PZ:El (.str z)=false:=rfl
theorem P0:El (.tup xs)=false:=rfl
theorem PU:El (.fl xs)=false:=rfl
theorem PY:El (.ref a)=false:=rfl
theorem QP:MJ T J (.fl xs)=(T="list"):=rfl
theorem QR:MJ T J (.str z)=(T="str"):=rfl
theorem QQ:MJ T J (.ref a)=((T="list"∧∃xs,J a=some (.lst xs))∨(T="dict"∧∃kvs ep,J a=some (.dct kvs ep))):=rfl
end
def Fo (it:wR) (g:y0) (tb:iB) (D:En) (τ:Sr) (J1:Hq):Prop:=∃Pv:Nat→Sr→Hq→Prop,Pv 0 τ J1∧(∀i τ J,Pv i τ J→it.ok J) ∧
 (∀i x τ J,it.xs[i]?=some x→Pv i τ J→g x τ J λτ2 J2=>tb { D with nx:=Pv (i + 1),ct:=Pv (i + 1),bk:=D.nx } τ2 J2)∧∀τ J,Pv it.xs.length τ J→D.nx τ J
theorem HV (wi:sL) (g:y0) (tb:iB) (D:En) (τ:Sr) (J:Hq):Oe wi g tb D τ J=wi τ J λit J1=>Fo it g tb D τ J1:=rfl
theorem AX {lo:Int} {n:Nat} {g:y0} {tb:iB} {D:En} {τ:Sr} {J1:Hq} (Pv:Nat→Sr→Hq→Prop) (h0:Pv 0 τ J1)
  (hs:∀(i:Nat) τ J,i < n→Pv i τ J→g (.int (lo + (i:Int))) τ J λτ2 J2=>tb { D with nx:=Pv (i + 1),ct:=Pv (i + 1),bk:=D.nx } τ2 J2) (hd:∀τ J,Pv n τ J→D.nx τ J):Fo ⟨nR lo n,λ_=>True⟩ g tb D τ J1 :=
 ⟨Pv,h0,λ_ _ _ _=>trivial,λi x τ J e p=>by obtain ⟨a,b⟩:=(mD lo n i x).mp e;subst b;exact hs i τ J a p,λτ J p=>hd τ J (by simpa [e8] using p)⟩
structure bL (mg:Str→Option Value):Prop extends Dm mg where
 str:mg "str"=none
 dict:mg "dict"=none
 max:mg "max"=none
 zip:mg "zip"=none
 enumerate:mg "enumerate"=none
def nE (J' J:Hq):Prop:=∀a,J' a=J a∨J' a=none
def Fg (Q:PV→Hq→Prop) (v:PV) (J:Hq):Prop:=∃x J',nE J' J∧(x=v∨∃a xs,v=.ref a∧x=.fl xs∧J a=some (.lst xs)∧J' a=none)∧Q x J'
theorem Fg.same {Q:PV→Hq→Prop} {v:PV} {J:Hq} (h:Q v J):Fg Q v J:=⟨v,J,λ_=>.inl rfl,.inl rfl,h⟩
theorem Fg.less {Q:PV→Hq→Prop} {v:PV} {J J':Hq} (l:nE J' J) (h:Q v J'):Fg Q v J:=⟨v,J',l,.inl rfl,h⟩
theorem Fg.qp {Q:PV→Hq→Prop} {a:Addr} {xs:List PV} {J J':Hq} (l:nE J' J) (ha:J a=some (.lst xs)) (hn:J' a=none) (h:Q (.fl xs) J'):Fg Q (.ref a) J:=⟨.fl xs,J',l,.inr ⟨a,xs,rfl,rfl,ha,hn⟩,h⟩
section
variable {P:Program} {w:World} {K:PySem.W.Frag} {mg:Str→Option Value} {base:Heap}
theorem Fg.kn {J:Hq} {H:Hp} {Q2:PV→Hq→Prop} {Q:VK} (k:Kn K J H Q2 Q):Kn K J H (Fg Q2) Q:=λz J1 u H1 rz r1 e1 ⟨x,J',l,hx,q⟩=>by
 have el:=Ext.less (K:=K) (H:=H1) l
 rcases hx with rfl | ⟨a,xs,rfl,rfl,ha,hn⟩
 ·exact k x J' u H1 (el.rep rz) (r1.less l) (e1.trans el) q
 ·cases rz
  obtain ⟨vs,h1,h2⟩:=r1 _ _ ha
  exact k (.fl xs) J' _ H1 ⟨a,vs,rfl,.inl ⟨hn,.inl h1⟩,el.iW h2⟩ (r1.less l) (e1.trans el) q
theorem Se {x qual:Str} {st:Stmt} {f:Addr} {fd:FuncData} {N ps:List Str} {k:Nat} {sp:cx} (F:b7 K x qual st f fd) (S:av N ps (L2.ai st)) (len:∀xs J Q E,sp xs J Q E→xs.length=ps.length)
  (hbody:∀(cdv:Value) (A:Around) (outer:List Env) (s:Shared) (H:Hp) (E:XK) (G:G2) (xs:List PV) (J:Hq) (Q:PV→Hq→Prop) (E2:Addr→Hq→Prop),bI k (A.deeper (envOfC qual (L2.ai st) s.heap.objs.size f cdv))→sp xs J Q E2 →
   Dp (yI P w K mg base N qual (L2.ai st) f cdv A outer s H E) G E2 E →
   ∃t,RB (yI P w K mg base N qual (L2.ai st) f cdv A outer s H E) G (L2.bK st) t∧t { nx:=λ_ J'=>Fg Q .non J',rt:=Fg Q } (wH N xs) J):aH P w K mg base (cQ P w) (k + 1) f fd ps (dk K sp):=by
 have:=Ql (sp:=λxs J Q E=>∃Q0,Q=Fg Q0∧sp xs J Q0 E) F S (λxs J Q E ⟨Q0,_,h⟩=>len xs J Q0 E h) (λcdv A outer s H E G xs J Q E2 hr ⟨Q0,eq,h⟩ B=>by subst eq;exact hbody cdv A outer s H E G xs J Q0 E2 hr h B)
 exact this.imp λvs H Q E ⟨xs,J,Q2,E2,a,b,c,d,e⟩=>⟨xs,J,Fg Q2,E2,a,b,⟨Q2,rfl,c⟩,Fg.kn d,e⟩
end
section
variable {P:Program} {w:World} {K:PySem.W.Frag} {mg:Str→Option Value} {base:Heap}
theorem Qk {x qual:Str} {st:Stmt} {f:Addr} {fd:FuncData} {N ps:List Str} {k:Nat} {sp:cx} {t:(Addr→Hq→Prop)→iB} (F:b7 K x qual st f fd) (S:av N ps (L2.ai st)) (len:∀xs J Q E,sp xs J Q E→xs.length=ps.length)
  (rd:∀(cdv:Value) (A:Around) (outer:List Env) (s:Shared) (H:Hp) (E:XK) (G:G2) (E2:Addr→Hq→Prop),bI k (A.deeper (envOfC qual (L2.ai st) s.heap.objs.size f cdv)) →
   Dp (yI P w K mg base N qual (L2.ai st) f cdv A outer s H E) G E2 E→RB (yI P w K mg base N qual (L2.ai st) f cdv A outer s H E) G (L2.bK st) (t E2))
  (run:∀(xs:List PV) (J:Hq) (Q:PV→Hq→Prop) (E2:Addr→Hq→Prop),sp xs J Q E2→∀X:Prop,(t E2 { nx:=λ_ J'=>Fg Q .non J',rt:=Fg Q } (wH N xs) J→X)→X):aH P w K mg base (cQ P w) (k + 1) f fd ps (dk K sp) :=
 Se F S len λcdv A outer s H E G xs J Q E2 hr h B=>⟨_,rd cdv A outer s H E G E2 hr B,run xs J Q E2 h _ id⟩
end
theorem GQ {X:Cx} {G:G2}:Dp X G (λ_ _=>False) L2.E0:=⟨λ_ _ _ _ _ _ _ ⟨_,_,_,_,_,z⟩=>z.elim,λ_ _ _ _ _ z=>z.elim⟩
theorem oj {K:PySem.W.Frag} {J:Hq} {H:Hp}:∀ns:List Int,aM K J H (ns.map PV.int) (ns.map V.int)
 | []=>rfl
 | n :: ns=>⟨_,_,rfl,rfl,oj ns⟩
end Ov
namespace Ov
open PySem PySem.Spec PyProof.Rows L2
theorem MU {α:Type} (a b c d e:α) (xs:List α):c7 (a :: b :: c :: d :: e :: xs) 4=some e:=bx (j:=4) rfl
theorem MV {α:Type} (a b c d e f:α) (xs:List α):c7 (a :: b :: c :: d :: e :: f :: xs) 5=some f:=bx (j:=5) rfl
theorem MW {α:Type} (a b c d e f g:α) (xs:List α):c7 (a :: b :: c :: d :: e :: f :: g :: xs) 6=some g:=bx (j:=6) rfl
theorem MX {α:Type} (a b c d e f g h:α) (xs:List α):c7 (a :: b :: c :: d :: e :: f :: g :: h :: xs) 7=some h:=bx (j:=7) rfl
theorem MY {α:Type} (a b c d e f g h i:α) (xs:List α):c7 (a :: b :: c :: d :: e :: f :: g :: h :: i :: xs) 8=some i:=bx (j:=8) rfl
theorem MZ {α:Type} (a b c d e f g h i j:α) (xs:List α):c7 (a :: b :: c :: d :: e :: f :: g :: h :: i :: j :: xs) 9=some j:=bx (j:=9) rfl
theorem Kf {α:Type} (a b c d e f g h i j k:α) (xs:List α):c7 (a :: b :: c :: d :: e :: f :: g :: h :: i :: j :: k :: xs) 10=some k:=bx (j:=10) rfl
theorem Kg {α:Type} (a b c d e f g h i j k l:α) (xs:List α):c7 (a :: b :: c :: d :: e :: f :: g :: h :: i :: j :: k :: l :: xs) 11=some l:=bx (j:=11) rfl
theorem Nr:(5≤sizeLine)=True:=eq_true (dC (by decide))
theorem Nt:(6≤sizeLine)=True:=eq_true (dC (by decide))
theorem Nu:(7≤sizeLine)=True:=eq_true (dC (by decide))
theorem Nv:(8≤sizeLine)=True:=eq_true (dC (by decide))
theorem Nw:(9≤sizeLine)=True:=eq_true (dC (by decide))
theorem KQ:(10≤sizeLine)=True:=eq_true (dC (by decide))
theorem KR:(11≤sizeLine)=True:=eq_true (dC (by decide))
theorem KS:(12≤sizeLine)=True:=eq_true (dC (by decide))
theorem iz {ss:List Int} (h:ss.all (λs=>decide (0 < s) && decide (s < 2 ^ 63))=true):∀s∈ss,0 < s∧Bd 9000 s:=λs hs=>by
 have:=Ub.mp h s hs
 rw [SX,decide_eq_true_eq,decide_eq_true_eq] at this
 exact ⟨this.1,(Bd.small (by omega) (by omega)).mono (by decide)⟩
theorem Sz.div {n:Nat} {t b:Int} (ht:Bd n t) (hb:Bd n b) (h:b≠0):Sz n (Rat.divInt t b):=⟨ht.le (Bf t b),hb.le (uN h)⟩
theorem Qo:(10:Int) ^ Int.toNat 18=1000000000000000000:=by decide
end Ov
namespace Ov
open PySem PySem.Spec PyProof.Rows
open L2 (V HO Hp Inv Cx VK XK TE TT TA TS TG pG TI TO ju Ends wN Loc Gl Rd RelV Vals eO w6 bT pE sH pF jt R2 upd aE aL cF gr Sp rT It bA cT bI Passes o8 aD Meth Mk Binds aH b7 av c7 fN d_)
section
variable {X:Cx} {G:G2}
abbrev Co:=PV→PV→PV→Hq→(Hq→Prop)→Prop
def Pt (X:Cx) (q:Co):Prop:=∃r,jt X r∧∀J H o i y ov iv u R2 R,b_ X.K J H o ov→b_ X.K J H i iv→b_ X.K J H y u→Rep X.K J H→q o i y J R2→(∀J' H',Rep X.K J' H'→Ext X.K J H J' H'→R2 J'→R H')→r ov iv u H R
def PL (to ti:cW) (t:Co):y0:=λy τ J R=>to τ J λo J1=>ti τ J1 λi J2=>t o i y J2 λJ3=>R τ J3
theorem LP {o i:Expr} {to ti:cW} {t:Co} {pos:Pos} (hs:Pt X t) (ho:RE X G o to) (hi:RE X G i ti)
  (ha:∀v,assign (.Subscript o i pos) X.env v=(do
   let ov ← holding [v] (eval o X.env)
   let iv ← holding [v,ov] (eval i X.env)
   standAt pos
   holding [v,ov,iv] (setItem ov iv v)
   release [v,ov,iv] []):=by intro _;rfl):RG X G (.Subscript o i pos) (PL to ti t):=by
 obtain ⟨r,hr,lf⟩:=hs
 exact ⟨Qr (L2.vA ho.run hi.run hr ha) λv σ H Q ⟨y,τ,J,Q2,ry,a2,h,k⟩ =>
  ⟨τ,J,_,a2,h,λx J1 ov H1 rx r1 e1 h1=>⟨τ,J1,_,a2.go r1 e1,h1,λz J2 iv H2 rz r2 e2 h2 =>
   lf J2 H2 x z y ov iv v _ _ (e2.rep rx) rz (e2.rep (e1.rep ry)) r2 h2 λJ3 H3 r3 e3 q=>k τ J3 σ H3 ((((a2.sl.ext e1).ext e2).ext e3)) r3 ((e1.trans e2).trans e3) q⟩⟩⟩
def N_:Co:=λo i y J R=>∃p xs k j,o=.ref p∧i=.int k∧J p=some (.lst xs)∧L2.Ds xs.length k=some j∧R (put J p (.lst (xs.set j y)))
theorem vV {o i e:Expr} {to ti te:cW} {t:Co} {pos pos':Pos} (hs:Pt X t) (ho:RE X G o to) (hi:RE X G i ti) (he:RE X G e te)
  (ha:∀v,assign (.Subscript o i pos') X.env v=(do
   let ov ← holding [v] (eval o X.env)
   let iv ← holding [v,ov] (eval i X.env)
   standAt pos'
   holding [v,ov,iv] (setItem ov iv v)
   release [v,ov,iv] []):=by intro _;rfl)
  (hq:swapsWithSole [.Subscript o i pos'] e pos.line X.env=pure false:=by rfl) (hw:swappedStores [.Subscript o i pos'] e X.env=pure none:=by rfl)
  (h1:(assignEach [.Subscript o i pos'] X.env).map (·.2)=[assign (.Subscript o i pos') X.env]:=by rfl):RS X G (.Assign [.Subscript o i pos'] e pos) (vQ te (PL to ti t)):=ra he (LP hs ho hi ha) hq hw h1
def Rg (X:Cx) (op:Operator) (q:ml):Prop:=∃r,L2.Pq X op r∧LR X.K r q
def Ob (i:Nat) (te:cW) (q:ml):iB:=λD τ J=>MD τ[i]? λx=>te τ J λy J1=>q x y J1 λz J2=>D.nx (τ.set i (some z)) J2
theorem Fz {i:Nat} {x:Str} {e:Expr} {te:cW} {op:Operator} {q:ml} {pos pos':Pos} (hN:X.N.Nodup) (he:RE X G e te) (ho:Rg X op q) (hi:X.N[i]?=some x:=by rfl) (hx:Loc X.env.scope x:=by first | exact .inl rfl | exact .inr rfl) (hf:X.fn x=true∨X.env.scope.names.lookup x=some .local:=by first | exact .inl rfl | exact .inr rfl | assumption) :
  RS X G (.AugAssign (.Name x pos') op e pos) (Ob i te q):=by
 obtain ⟨r,hr,lf⟩:=ho
 exact ⟨zQ (L2.Lr hN hi hx he.run hr hf) λD σ H ⟨τ,J,D2,a2,hh,g⟩=>by
  obtain ⟨x,hx,h⟩:=EW hh
  obtain ⟨v,h1,h2⟩:=a2.sl.get _ _ hx
  exact ⟨v,h1,τ,J,_,a2,h,λy J1 u H1 ry r1 e1 q1=>lf J1 H1 x y v u _ _ (e1.rep h2) ry r1 q1 λz J2 u2 H2 rz r2 e2 q2=>g.nx _ J2 _ H2 (((a2.sl.ext e1).ext e2).set i rz) r2 (e1.trans e2) q2⟩⟩
theorem Ej:Rg X .Sub (HS λi j=>.int (i - j)):=⟨_,L2.KC,λJ H x y v w Q2 Q rx ry r h k=>by
 obtain ⟨i,ex,h⟩:=gQ h;obtain ⟨j,ey,q⟩:=gQ h
 subst ex ey;cases rx;cases ry;exact ⟨i,j,rfl,rfl,k (.int _) J _ H rfl r .refl q⟩⟩
end
theorem gM {xs:List PV} {ok:Hq→Prop} {g:y0} {tb:iB} {D:En} {τ:Sr} {J1:Hq} (Pv:Nat→Sr→Hq→Prop) (h0:Pv 0 τ J1) (hk:∀i τ J,Pv i τ J→ok J)
  (hs:∀(i:Nat) x τ J,xs[i]?=some x→Pv i τ J→g x τ J λτ2 J2=>tb { D with nx:=Pv (i + 1),ct:=Pv (i + 1),bk:=D.nx } τ2 J2) (hd:∀τ J,Pv xs.length τ J→D.nx τ J):Fo ⟨xs,ok⟩ g tb D τ J1:=⟨Pv,h0,hk,hs,hd⟩
theorem AE {α:Type} (xs:List α) (x:α):c7 (xs ++ [x]) (-1)=some x:=by
 unfold L2.c7 L2.Ds
 rw [if_neg (by decide),if_pos (by simp;omega)]
 have e:(-1 + ((xs ++ [x]).length:Int)).toNat=xs.length:=by simp only [SQ,SS,T3];omega
 rw [e]
 simp
theorem jQ {K:PySem.W.Frag} {h:Heap} {mg:Str→Option Value} {x:Str} {C:Addr} (X:K.In h) (G:h.Ns mainGlobals mg) (a:PySem.W.nsIn K mainGlobals x=some (some (.ref C))) (b:(PySem.W.excIn K C Pz "ValueError.__new__" && Ga K C)=true):Own K mg x C :=
 ⟨PySem.W.mg_of X G a,(UQ.mp b).1,II (UQ.mp b).2⟩
theorem il {J:Hq} {x:PV} {ys:List PV} (h:jG J x=some ys):x=.fl ys∨∃a,x=.ref a∧J a=some (.lst ys):=by
 cases x with
 | fl xs=>cases h;exact .inl rfl
 | ref a =>
  right
  refine ⟨a,rfl,?_⟩
  unfold jG at h
  simp only at h
  split at h
  ·rename_i e;cases h;exact e
  ·cases h
 | _=>cases h
theorem NB {J:Hq} {x:PV} {ys:List PV} (h:jG J x=some ys):B_ J x=some "list":=by
 rcases il h with rfl | ⟨a,rfl,ha⟩
 ·rfl
 ·rw [OV,ha]
theorem ED {J:Hq} {x:PV} {ys:List PV} (h:jG J x=some ys):xC J x=some ys.length:=by
 rcases il h with rfl | ⟨a,rfl,ha⟩
 ·rfl
 ·rw [I9,ha];rfl
theorem Jc {J:Hq} {x:PV} {ys:List PV} (h:jG J x=some ys) (i:Int):fJ J x (.int i)=c7 ys i:=by
 rcases il h with rfl | ⟨a,rfl,ha⟩
 ·rfl
 ·rw [Nd,ha]
def Ku (j:Nat):List PV:=.bl true :: (TJ 10).map λk=>.bl (decide (j=k))
def QH (c:Nat→Addr) (N n:Nat) (t:(Addr→Hq→Prop)→iB):iB:=λD τ J =>
 t (λa J'=>∃j,j < 10∧a=c j∧D.nx ((S9 N none).set n (some (.fl (Ku j)))) J') D τ J
section
variable {X:Cx} {G:G2}
end
theorem LZ {a b:iB} {D:En} {τ:Sr} {J:Hq} (h:∀N:Sr→Hq→Prop,(∀τ' J',b D τ' J'→N τ' J')→a { D with nx:=N } τ J):bR a b D τ J:=h _ λ_ _ z=>z
def MI (J:Hq):PV→Option (List PV)
 | .tup xs=>some xs
 | .fl xs=>some xs
 | .ref a=>match J a with
  | some (.lst xs)=>some xs
  | _=>none
 | _=>none
theorem FT {K:PySem.W.Frag} {J:Hq} {H:Hp} {y:PV} {u:V} {xs:List PV} (h:MI J y=some xs) (r:b_ K J H y u) (rr:Rep K J H):∃p vs,u=.ref p∧(cF K H p vs∨gr K H p vs)∧aM K J H xs vs:=by
 cases y with
 | tup ys=>cases h;obtain ⟨a,vs,rfl,h1,h2⟩:=r;exact ⟨a,vs,rfl,.inr h1,h2⟩
 | fl ys=>cases h;obtain ⟨a,vs,rfl,h1,h2⟩:=r;exact ⟨a,vs,rfl,.inl h1.sq,h2⟩
 | ref a =>
  cases r
  unfold MI at h
  simp only at h
  split at h
  ·rename_i e;cases h
   obtain ⟨vs,h1,h2⟩:=rr _ _ e
   exact ⟨a,vs,rfl,.inl (cF.of h1),h2⟩
  ·cases h
 | _=>cases h
theorem iX {K:PySem.W.Frag} {J:Hq} {H:Hp}:∀{ns:List Str} {vs:List V},aM K J H (ns.map PV.str) vs→vs=ns.map V.str
 | [],_,h=>h
 | n :: ns,_,⟨v,us,e,h,k⟩=>by subst e;cases h;rw [iX k];rfl
theorem m4 {K:PySem.W.Frag} {J:Hq} {H:Hp}:∀{ns:List Int} {vs:List V},aM K J H (ns.map PV.int) vs→vs=ns.map V.int
 | [],_,h=>h
 | n :: ns,_,⟨v,us,e,h,k⟩=>by subst e;cases h;rw [m4 k];rfl
theorem AF {α:Type} [BEq α] [LawfulBEq α] [DecidableEq α] (x y:α):(x == y)=decide (x=y):=by by_cases h:x=y <;> simp [h]
theorem GZ (s:Str) (ss:List Str):L2.MA (.str s) (ss.map V.str)=decide (s∈ss):=by
 unfold L2.MA
 induction ss with
 | nil=>rfl
 | cons x ss ih =>
  rw [Sx,TZ,ih,show L2.Gb (.str x) (.str s)=(x == s) from rfl,AF]
  by_cases h:x=s
  ·subst h;simp
  ·simp [h,show ¬ s=x from λe=>h e.symm]
theorem GY (s:Int) (ss:List Int):L2.MA (.int s) (ss.map V.int)=decide (s∈ss):=by
 unfold L2.MA
 induction ss with
 | nil=>rfl
 | cons x ss ih =>
  rw [Sx,TZ,ih,show L2.Gb (.int x) (.int s)=(x == s) from rfl,AF]
  by_cases h:x=s
  ·subst h;simp
  ·simp [h,show ¬ s=x from λe=>h e.symm]
section
variable {X:Cx} {G:G2}
def N3 (f:Bool→Bool):ml:=λx y J Q=>∃(s:Str) (ss:List Str),x=.str s∧MI J y=some (ss.map .str)∧Q (.bl (f (decide (s∈ss)))) J
def Qt (f:Bool→Bool):ml:=λx y J Q=>∃(s:Int) (ss:List Int),x=.int s∧MI J y=some (ss.map .int)∧Q (.bl (f (decide (s∈ss)))) J
theorem Cu (ss:List Str):(ss.map V.str).all L2.jg=true:=by simp [L2.jg]
theorem Ct (ss:List Int):(ss.map V.int).all L2.jg=true:=by simp [L2.jg]
theorem Bk:mj X (compareOp .NotIn) (N3 not):=⟨_,L2.vp,λJ H x y v w Q2 Q rx ry r ⟨s,ss,ex,hy,q⟩ k=>by
 subst ex;cases rx
 obtain ⟨p,vs,rfl,hq,h2⟩:=FT hy ry r
 cases iX h2
 exact ⟨p,_,rfl,hq,rfl,Cu ss,k (.bl _) J _ H (by rw [if_pos rfl,GZ];rfl) r .refl q⟩⟩
theorem Lj:mj X (compareOp .In) (Qt id):=⟨_,L2.C1,λJ H x y v w Q2 Q rx ry r ⟨s,ss,ex,hy,q⟩ k=>by
 subst ex;cases rx
 obtain ⟨p,vs,rfl,hq,h2⟩:=FT hy ry r
 cases m4 h2
 exact ⟨p,_,rfl,hq,rfl,Ct ss,k (.bl _) J _ H (by rw [if_neg (by decide),GY];rfl) r .refl q⟩⟩
end
end Ov
namespace L2
open PySem PySem.Spec PyProof.Rows
section
variable {X:Cx} {tg:Expr}
end
end L2
namespace Ov
open PySem PySem.Spec PyProof.Rows
open L2 (V HO Hp Inv Cx VK XK TE TT TA TS TG pG TI TO ju Ends wN Loc Gl Rd RelV Vals eO w6 bT pE sH pF jt R2 upd aE aL cF gr Sp rT It bA cT bI Passes o8 aD Meth Mk Binds aH b7 av c7 fN d_)
section
variable {X:Cx} {G:G2} {tg:Expr}
theorem nX {K:PySem.W.Frag} {J:Hq} {H:Hp} {y:PV} {u:V} {xs:List PV} (h:jG J y=some xs) (r:b_ K J H y u) (rr:Rep K J H):∃p vs,u=.ref p∧cF K H p vs∧aM K J H xs vs:=by
 rcases il h with rfl | ⟨a,rfl,ha⟩
 ·obtain ⟨a,vs,rfl,h1,h2⟩:=r;exact ⟨a,vs,rfl,h1.sq,h2⟩
 ·cases r
  obtain ⟨vs,h1,h2⟩:=rr _ _ ha
  exact ⟨a,vs,rfl,cF.of h1,h2⟩
theorem aM.flat {K:PySem.W.Frag} {J:Hq} {H:Hp} {xs:List PV} {vs:List V} (r:aM K J H xs vs):∀k:Nat,aM K J H (S9 k xs).flatten (S9 k vs).flatten
 | 0=>rfl
 | k + 1=>by rw [TX,TX,T6,T6];exact r.append (aM.flat r k)
end
end Ov
namespace L2
open PySem PySem.Spec PyProof.Rows
section
variable {X:Cx} {pins:List (Addr × Obj)} {σ:St} {H:Hp} {s:Shared} {h':Heap}
theorem Inv.pY {t':Nat} {ch:List Addr} (I:Inv X pins σ H s) (k:∀b o,b ∉ ch→s.heap.get? b=some o→h'.get? b=some o) (hf:∀b∈ch,kP X pins H b):Inv X pins σ H { s with heap:=h',toks:=t' }:=by
 have nit:∀b u,H b=some u→b ∉ ch:=λb u e z=>by rw [(hf b z).1] at e;cases e
 refine I.step (g':=s.gens) (d':=s.drawn) (ch:=ch) (λb hb=>?_) (λb o _ _ hc e _=>k b o hc e) (λb o _ _ hc e _=>⟨o.slots,k b o hc e⟩) (λ_ _ _ _ n=>n)
  (λb o hc e=>⟨o,k b o hc e⟩) (λ_ _ e=>e) (λ_ _ _ e=>e) (λb ps e=>⟨#[],by rw [e];simp⟩) (λm hm=>?_) (λb u e=>?_) I.bare
 ·obtain ⟨f0,f1,f2,f3,f4,f5⟩:=hf b hb
  exact ⟨f3,f1,f4,f5⟩
 ·obtain ⟨o,es,ep,ho,r⟩:=hm
  exact ⟨o,es,ep,k _ o (λz=>(hf _ z).2.1 rfl) ho,r⟩
 ·refine (I.hok b u e).rM (λc v hc q=>k c v ?_ q) (λ_ q=>q) λ_ _ q=>q
  rcases hc with z | z
  ·rw [z];exact nit b u e
  ·exact nit c _ z
end
def Rj (K:PySem.W.Frag) (a b:Addr):It :=
 ⟨λi H=>∃xs ys x y,cF K H a xs∧cF K H b ys∧xs[i]?=some x∧ys[i]?=some y,
  λi H z H'=>∃T x y,H T=none∧z=.ref T∧H'=upd H T (.tup [x,y])∧(∀xs,cF K H a xs→xs[i]?=some x)∧∀ys,cF K H b ys→ys[i]?=some y,
  λi H=>∃xs ys,cF K H a xs∧cF K H b ys∧(xs.length≤i∨ys.length≤i)⟩
theorem F8 {P:Program} {w:World} {K:PySem.W.Frag} {elts:List Expr} {x1} {pos:Pos} {z TI TO i1 i2 l1 l2:Addr} (D:ZipApart z TI TO i1 i2 l1 l2) :
  Turn P w K (.Tuple elts x1 pos) (Rj K l1 l2) [z,TI,TO,i1,i2] z (λi h=>IsZip h z TI TO .none∧IsPair h TI (.ref i1) (.ref i2)∧(∃a b,IsPair h TO a b)∧h.IsListIter i1 l1 i∧h.IsListIter i2 l2 i) where
 mem:=by simp
 obj:=λi h ⟨hz,hTI,⟨a,b,hTO⟩,h1,h2⟩ c hc=>by
  simp only [SH,SV,or_false] at hc
  rcases hc with rfl | rfl | rfl | rfl | rfl
  ·exact ⟨_,hz,λv z=>by cases z⟩
  ·exact ⟨_,hTI,λv z=>by cases z⟩
  ·exact ⟨_,hTO,λv z=>by cases z⟩
  ·obtain ⟨o,e,c,d⟩:=h1;exact ⟨o,e,λv z=>by rw [d] at z;cases z⟩
  ·obtain ⟨o,e,c,d⟩:=h2;exact ⟨o,e,λv z=>by rw [d] at z;cases z⟩
 keep:=λi h h' ⟨hz,hTI,⟨a,b,hTO⟩,h1,h2⟩ k=>⟨k z (by simp) _ hz,k TI (by simp) _ hTI,⟨a,b,k TO (by simp) _ hTO⟩,h1.at λo e=>k i1 (by simp) o e,h2.at λo e=>k i2 (by simp) o e⟩
 item:=by
  intro X hP hw hK hc i pins s σ H E I hf st hg
  subst hP hw hK
  obtain ⟨hz,hTI,⟨a,b,hTO⟩,h1,h2⟩:=st
  obtain ⟨xs,ys,x,y,hqx,hqy,hx,hy⟩:=hg
  obtain ⟨its,rv,p,hzx⟩:=I.list hqx
  obtain ⟨jts,ru,p',hzy⟩:=I.list hqy
  obtain ⟨u,hu,rx⟩:=rv.get hx
  obtain ⟨v,hv,ry⟩:=ru.get hy
  refine wpAny_pyNext_zip_item D hz hTI hTO h1 h2 p.isList p'.isList (x:=u) (y:=v) (by simpa using hu) (by simpa using hv) λh' a1 a2 a3 a4 a5 a6 hk=>?_
  refine ⟨_,rfl,wpAny_letOwnedTupleGo_zip a1 λh'' hz' hs'=>?_⟩
  have hT:H s.heap.objs.size=none:=I.hok.fresh (Ss _)
  have lt:∀{c o},s.heap.get? c=some o→c≠s.heap.objs.size:=λe=>SO (Heap.lt_size e)
  have nz:s.heap.objs.size≠z:=Ne.symm (lt hz)
  have I0:Inv X pins σ (upd H s.heap.objs.size (.tup [x,y])) { s with heap:=s.heap.push { cls:=.type "tuple",data:=.seq #[u,v] },toks:=s.toks }:=I.laid (t':=s.toks) (λb u e=>Heap.get?_push_of_some _ e) (Ss _) ⟨by simp [sizeLine],[u,v],.cons rx (.cons ry .nil),⟨_,Heap.get?_push_size _ rfl,rfl,_,rfl⟩⟩
  have fpn:∀b∈[z,TI,TO,i1,i2],b≠s.heap.objs.size:=λb hb=>by
   simp only [SH,SV,or_false] at hb
   rcases hb with rfl | rfl | rfl | rfl | rfl
   ·exact lt hz
   ·exact lt hTI
   ·exact lt hTO
   ·obtain ⟨o,e,_⟩:=h1;exact lt e
   ·obtain ⟨o,e,_⟩:=h2;exact lt e
  have fpu:∀b∈[z,TI,TO,i1,i2],kP X pins (upd H s.heap.objs.size (.tup [x,y])) b:=λb hb=>⟨by rw [aL (fpn b hb)];exact (hf b hb).1,(hf b hb).2⟩
  have I1:Inv X pins σ (upd H s.heap.objs.size (.tup [x,y])) { s with heap:=h'' }:=Inv.pY (s:={ s with heap:=s.heap.push { cls:=.type "tuple",data:=.seq #[u,v] },toks:=s.toks }) (t':=s.toks) (ch:=[z,TI,TO,i1,i2]) I0 (λb o hb e=>by
   simp only [SH,SV,or_false,not_or] at hb
   rcases Heap.get?_push_cases e with ⟨rfl,rfl⟩ | e'
   ·exact hs'.extBut _ _ hb.1 a5
   ·exact hs'.extBut _ _ hb.1 (hk b o hb.1 hb.2.2.1 hb.2.2.2.1 hb.2.2.2.2 e')) fpu
  refine ⟨.ref s.heap.objs.size,_,I1,rfl,⟨_,x,y,hT,rfl,rfl,λzs hq=>by rw [I.jE hq hqx];exact hx,λzs hq=>by rw [I.jE hq hqy];exact hy⟩,⟨hz',hs'.extBut _ _ D.TIz (hk _ _ D.TIz D.TITO D.TIi1 D.TIi2 hTI),⟨_,_,hs'.extBut _ _ D.TOz a2⟩,a3.extBut hs'.extBut D.i1z,a4.extBut hs'.extBut D.i2z⟩,λb hb=>(fpu b hb).1⟩
 done:=by
  intro X hP hw hK hc i pins s σ H E I hf st hg
  subst hP hw hK
  obtain ⟨hz,hTI,⟨a,b,hTO⟩,h1,h2⟩:=st
  obtain ⟨xs,ys,hqx,hqy,hl⟩:=hg
  obtain ⟨its,rv,p,hzx⟩:=I.list hqx
  obtain ⟨jts,ru,p',hzy⟩:=I.list hqy
  have e1:=rv.length
  have e2:=ru.length
  refine wpAny_pyNext_zip_end (I.ok.hd hc) D hz hTI hTO h1 h2 p.isList p'.isList ?_ λh' hk=>⟨rfl,I.pY (t':=s.toks) (ch:=[z,TI,TO,i1,i2]) (λb o hb e=>?_) hf⟩
  ·rcases hl with hl | hl
   ·exact .inl (by simp;omega)
   ·exact .inr (by simp;omega)
  ·simp only [SH,SV,or_false,not_or] at hb
   exact hk b o hb.1 hb.2.2.1 hb.2.2.2.1 hb.2.2.2.2 e
 self:=λ_ _ _ _ _ st h=>wpAny_pyIter_zip st.1 h
def PN (K:PySem.W.Frag) (ta:TA):TI:=λσ H R=>ta σ H λvs H1=>∃a b xs ys,vs=[.ref a,.ref b]∧cF K H1 a xs∧cF K H1 b ys∧R (Rj K a b) H1
section
variable {X:Cx}
theorem Lq {l m:Expr} {elts:List Expr} {x1} {tp:Pos} {ta:TA} {p pos:Pos} (hg:Gl X "zip") (hm:X.mg "zip"=none) (ha:PA X [l,m] ta) (hs:starEach [l,m] X.env=(false,eval l X.env) :: starEach [m] X.env:=by rfl) (hp:(backTo pos (starEach [m] X.env)).any (·.1)=false:=by rfl):PI X (.Tuple elts x1 tp) (.Call (.Name "zip" p) [l,m] [] pos) (PN X.K ta):=by
 intro pins s σ H R I h
 refine Call_ (lI I hg hm PyProof.Rows.Boot.«zip» (PyProof.Rows.callWith_type1 (b9 (ha pos pins s σ H _ I h) λus s1 ⟨vs,H1,I1,r1,q1⟩=>?_) hs hp))
 obtain ⟨a,b,xs,ys,e,hqa,hqb,q⟩:=q1
 subst e
 cases r1 with
 | cons r rr =>
  cases rr with
  | cons r' rr' =>
   cases rr'
   cases r
   cases r'
   obtain ⟨its,rv,pl,hz⟩:=I1.list hqa
   obtain ⟨jts,ru,pl',hz'⟩:=I1.list hqb
   refine call_zip_2 pl.isList pl'.isList λh' b1 b2 b3 b4 b5 b6 hk=>?_
   refine wpAny_pyIter_zip b1 ?_
   have la:a < s1.heap.objs.size:=by obtain ⟨o,e,_⟩:=pl.isList;exact Heap.lt_size e
   have lb:b < s1.heap.objs.size:=by obtain ⟨o,e,_⟩:=pl'.isList;exact Heap.lt_size e
   have D:ZipApart (s1.heap.objs.size + 4) (s1.heap.objs.size + 2) (s1.heap.objs.size + 3) s1.heap.objs.size (s1.heap.objs.size + 1) a b:=by
    have la':@LT.lt Nat _ a s1.heap.objs.size:=la
    have lb':@LT.lt Nat _ b s1.heap.objs.size:=lb
    constructor <;> (show @Ne Nat _ _;omega)
   refine ⟨_,_,_,_,H1,rfl,I1.kept (t':=s1.toks) hk,F8 D,⟨b1,b2,⟨_,_,b3⟩,b4,b5⟩,λc hc=>?_,q⟩
   have hc':s1.heap.objs.size≤c:=by
    simp only [SH,SV,or_false] at hc
    show @LE.le Nat _ _ _
    rcases hc with rfl | rfl | rfl | rfl | rfl
    ·exact TH _ _
    ·exact TH _ _
    ·exact TH _ _
    ·exact Ss _
    ·exact TH _ _
   exact I1.D_ hc' (I1.hok.fresh hc')
end
end L2
namespace Ov
open PySem PySem.Spec PyProof.Rows
open L2 (V HO Hp Inv Cx VK XK TE TT TA TS TG pG TI TO ju Ends wN Loc Gl Rd RelV Vals eO w6 bT pE sH pF jt R2 upd aE aL cF gr Sp rT It bA cT bI Passes o8 aD Meth Mk Binds aH b7 av c7 fN d_)
section
variable {X:Cx} {G:G2}
def Ry (ta:oJ):sL:=λτ J R=>ta τ J λvs J1=>La vs λx y=>vo (jG J1 x) λxs=>vo (jG J1 y) λys=>R ⟨(xs.zip ys).map λp=>.tup [p.1,p.2],λJ'=>jG J' x=some xs∧jG J' y=some ys⟩ J1
theorem LQ {l m:Expr} {elts:List Expr} {x1} {tp:Pos} {ta:oJ} {p pos:Pos} (hg:Gl X "zip") (hm:X.mg "zip"=none) (ha:RA X G [l,m] ta) (hs:starEach [l,m] X.env=(false,eval l X.env) :: starEach [m] X.env:=by rfl) (hp:(backTo pos (starEach [m] X.env)).any (·.1)=false:=by rfl) :
  RI X G (.Tuple elts x1 tp) (.Call (.Name "zip" p) [l,m] [] pos) (Ry ta):=⟨N0 (L2.Lq hg hm ha.run hs hp) λσ H R ⟨τ,J,R2,a2,h,k⟩=>⟨τ,J,_,a2,h,λvs J1 us H1 rs r1 e1 hh=>by
 obtain ⟨x,y,ev,hh⟩:=zF hh;obtain ⟨xs,hx,hh⟩:=dZ hh;obtain ⟨ys,hy,q⟩:=dZ hh
 subst ev
 obtain ⟨v,us',rfl,rv,v',us'',rfl,rv',e'⟩:=rs
 cases e'
 obtain ⟨a,ws,rfl,h1,h2⟩:=nX hx rv r1
 obtain ⟨b,ws',rfl,h1',h2'⟩:=nX hy rv' r1
 refine ⟨a,b,ws,ws',rfl,h1,h1',k _ J1 _ H1 ?_ r1 e1 q⟩
 have at_:∀J' H',Ext X.K J1 H1 J' H'→Rep X.K J' H'→jG J' x=some xs∧jG J' y=some ys→∃vs us,cF X.K H' a vs∧aM X.K J' H' xs vs∧cF X.K H' b us∧aM X.K J' H' ys us:=λJ' H' e r o=>by
  obtain ⟨c,vs,eb,g1,g2⟩:=nX o.1 (e.rep rv) r
  cases eb
  obtain ⟨c',us,eb,g1',g2'⟩:=nX o.2 (e.rep rv') r
  cases eb
  exact ⟨vs,us,g1,g2,g1',g2'⟩
 exact {
  go:=λJ' H' e r o i hi=>by
   obtain ⟨vs,us,s,rs,s',rs'⟩:=at_ J' H' e r o
   rw [Sm,Ui] at hi
   have i1:i < vs.length:=by rw [← rs.length];omega
   have i2:i < us.length:=by rw [← rs'.length];omega
   exact ⟨vs,us,vs[i],us[i],s,s',So i1,So i2⟩
  yl:=λJ' H' e r o i hi v H2 y=>by
   obtain ⟨vs,us,s,rs,s',rs'⟩:=at_ J' H' e r o
   obtain ⟨T,z,z',hT,rfl,rfl,y1,y2⟩:=y
   obtain ⟨c,ec,rc⟩:=rs.get' (y1 vs s)
   obtain ⟨c',ec',rc'⟩:=rs'.get' (y2 us s')
   have sm:=bA.new hT (.tup [z,z'])
   have e2:=Ext.same (K:=X.K) (J:=J') sm
   refine ⟨.tup [c,c'],?_,⟨T,[z,z'],rfl,.inl (.inl aE),e2.iW ⟨z,_,rfl,rc,z',_,rfl,rc',rfl⟩⟩,r.same sm,e2⟩
   rw [SA,(Tv (z:=(c,c'))).mpr ⟨ec,ec'⟩];rfl
  stop:=λJ' H' e r o=>by
   obtain ⟨vs,us,s,rs,s',rs'⟩:=at_ J' H' e r o
   refine ⟨vs,us,s,s',?_⟩
   rw [Sm,Ui,← rs.length,← rs'.length]
   omega }⟩⟩
end
end Ov
namespace L2
open PySem PySem.Spec PyProof.Rows
section
variable {α β:Type}
def nv (kvs:List (Str × α)) (k:Str):Option α:=(kvs.find? λkv=>decide (kv.1=k)).map (·.2)
def rW (kvs:List (Str × α)) (k:Str) (v:α):List (Str × α):=if kvs.any (λkv=>decide (kv.1=k)) then kvs.map (λkv=>if kv.1=k then (kv.1,v) else kv) else kvs ++ [(k,v)]
def Dr (kvs:List (Str × α)) (k:Str):List (Str × α):=kvs.filter λkv=>decide (kv.1≠k)
theorem nA (p:Str × α) (r:List (Str × α)) (k:Str):nv (p :: r) k=if p.1=k then some p.2 else nv r k:=by
 unfold nv
 rw [List.find?_cons]
 by_cases h:p.1=k <;> simp [h]
theorem Bt (kvs:List (Str × α)) (k:Str) (v:α):(rW kvs k v).length≤kvs.length + 1:=by
 unfold rW;split <;> simp
theorem GO (kvs:List (Str × α)) (k:Str):(Dr kvs k).length≤kvs.length:=Tg _ _
abbrev pe (R:α→β→Prop):List (Str × α)→List (Str × β)→Prop:=Paired λp q=>p.1=q.1∧R p.2 q.2
variable {R:α→β→Prop}
theorem pe.va {kvs:List (Str × α)} {vs:List (Str × β)} (h:pe R kvs vs) (k:Str):(∀x,nv kvs k=some x→∃y,nv vs k=some y∧R x y)∧(nv kvs k).isSome=(nv vs k).isSome:=by
 induction h with
 | nil=>exact ⟨λx e=>by simp [nv] at e,rfl⟩
 | @cons p q kvs vs r _ ih =>
  rw [nA,nA,← r.1]
  by_cases e:p.1=k
  ·rw [if_pos e,if_pos e];exact ⟨λx z=>by cases z;exact ⟨_,rfl,r.2⟩,rfl⟩
  ·rw [if_neg e,if_neg e];exact ih
theorem pe.any {kvs:List (Str × α)} {vs:List (Str × β)} (h:pe R kvs vs) (k:Str):(kvs.any λkv=>decide (kv.1=k))=vs.any λkv=>decide (kv.1=k):=by
 induction h with
 | nil=>rfl
 | cons r _ ih=>rw [TZ,TZ,ih,r.1]
theorem pe.snoc {kvs:List (Str × α)} {vs:List (Str × β)} (h:pe R kvs vs) {k:Str} {x:α} {y:β} (r:R x y):pe R (kvs ++ [(k,x)]) (vs ++ [(k,y)]):=by
 induction h with
 | nil=>exact .cons ⟨rfl,r⟩ .nil
 | cons q _ ih=>exact .cons q ih
theorem pe.pu {kvs:List (Str × α)} {vs:List (Str × β)} (h:pe R kvs vs) {k:Str} {x:α} {y:β} (r:R x y):pe R (rW kvs k x) (rW vs k y):=by
 unfold rW
 rw [h.any k]
 split
 ·rename_i hany;clear hany
  induction h with
  | nil=>exact .nil
  | @cons p q kvs vs z _ ih =>
   rw [Sx,Sx]
   refine .cons ?_ ih
   by_cases e:p.1=k
   ·rw [if_pos e,if_pos (z.1 ▸ e)];exact ⟨z.1,r⟩
   ·rw [if_neg e,if_neg (z.1 ▸ e)];exact z
 ·exact h.snoc r
theorem pe.dr {kvs:List (Str × α)} {vs:List (Str × β)} (h:pe R kvs vs) (k:Str):pe R (Dr kvs k) (Dr vs k):=by
 unfold Dr
 induction h with
 | nil=>exact .nil
 | @cons p q kvs vs z _ ih =>
  rw [S2,S2,z.1]
  split
  ·exact .cons z ih
  ·exact ih
theorem pe.len {kvs:List (Str × α)} {vs:List (Str × β)} (h:pe R kvs vs):kvs.length=vs.length:=Paired.length h
theorem pe.keys {kvs:List (Str × α)} {vs:List (Str × β)} (h:pe R kvs vs):kvs.map (·.1)=vs.map (·.1):=by
 induction h with
 | nil=>rfl
 | cons r _ ih=>rw [Sx,Sx,ih,r.1]
end
theorem uu (vs:List (Str × Value)) (k:Str):valueAt vs k=nv vs k:=rfl
theorem str_is {P:Program} {w:World} {k:Str} {u:Value} (r:RelV (.str k) u):(PySem.strKind P w).is k u=true:=by
 obtain ⟨t,rfl⟩:=r
 simp [PySem.strKind,Value.isStrOf]
theorem Eo {P:Program} {w:World} {k:Str} {u:Value} (h:(PySem.strKind P w).is k u=true):RelV (.str k) u:=Value.isStrOf_shape h
section
variable {X:Cx} {pins:List (Addr × Obj)} {σ:St} {H:Hp} {s:Shared} {a:Addr} {A:Around} {E:Value→Shared→Prop} {kvs:List (Str × V)} {ep:Nat}
theorem jv (I:Inv X pins σ H s) (e:H a=some (.dE kvs ep)):kvs.length≤sizeLine∧(a == sysModules)=false∧∃vs,pe RelV kvs vs∧s.heap.DictAt (PySem.strKind X.prog X.w) a vs ep:=I.hok a _ e
theorem qj {h':Heap} {t':Nat} {kvs':List (Str × V)} {vs':List (Str × Value)} (I:Inv X pins σ H s) (e:H a=some (.dE kvs ep)) (hs:Heap.SameBut a s.heap h') (hz:kvs'.length≤sizeLine) (hd:(a == sysModules)=false) (rel:pe RelV kvs' vs') (dd:h'.DictOf (PySem.strKind X.prog X.w) a vs') :
  ∃ep',Inv X pins σ (upd H a (.dE kvs' ep')) { s with heap:=h',toks:=t' }:=by
 obtain ⟨ep',da⟩:=dd.dictAt
 refine ⟨ep',I.write (x:=a) (e:=a) (by rw [e];exact True.intro) (.inl rfl) (λb q hb z=>(hs.2 b hb).trans z) (let ⟨q,_,_,hq,_⟩:=dd;⟨q,hq⟩) ⟨hz,hd,vs',rel,da⟩⟩
theorem Inv.Ki (I:Inv X pins σ H s):sysModules < s.heap.objs.size:=by
 have h:mainGlobals < s.heap.objs.size:=(I.mod.glob.keeps I.bk).lt
 exact Nat.lt_trans (by decide) h
end
theorem CA {P:Program} {w:World} {kvs:List (Str × V)} {vs:List (Str × Value)} (rel:pe RelV kvs vs):∀{us:List Value},us.length=kvs.length→(∀(j:Nat) (v:Value),us[j]?=some v→∃k x,vs[j]?=some (k,x)∧(PySem.strKind P w).is k v=true)→Vals (kvs.map λkv=>V.str kv.1) us:=by
 induction rel with
 | nil =>
  intro us hlen _
  cases us with
  | nil=>exact .nil
  | cons _ _=>cases hlen
 | @cons p q kvs vs z _ ih =>
  intro us hlen hget
  cases us with
  | nil=>cases hlen
  | cons u us =>
   rw [Sx]
   refine .cons ?_ (ih (by simpa using hlen) λj v e=>?_)
   ·obtain ⟨k,x,e1,e2⟩:=hget 0 u rfl
    rw [T1] at e1
    cases e1
    rw [z.1];exact Eo e2
   ·obtain ⟨k,x,e1,e2⟩:=hget (j + 1) v (by rw [S7];exact e)
    rw [S7] at e1
    exact ⟨k,x,e1,e2⟩
def Qz:R2:=λx y H Q=>∃a kvs ep k v,x=.ref a∧y=.str k∧H a=some (.dE kvs ep)∧nv kvs k=some v∧Q v H
def LH (f:Bool→Bool):R2:=λx y H Q=>∃a kvs ep k,x=.str k∧y=.ref a∧H a=some (.dE kvs ep)∧Q (.bl (f (nv kvs k).isSome)) H
def LK:List V→Hp→VK→Prop:=λxs H Q=>∃a kvs ep,xs=[.ref a]∧H a=some (.dE kvs ep)∧∀p,H p=none→Q (.ref p) (upd H p (.lst (kvs.map λkv=>.str kv.1)))
def Oq:V→List V→Hp→VK→Prop:=λx xs H Q=>∃a kvs ep k v,x=.ref a∧xs=[.str k]∧H a=some (.dE kvs ep)∧nv kvs k=some v∧∀ep',Q v (upd H a (.dE (Dr kvs k) ep'))
def Ou:ju:=λo i v H Q=>∃a kvs ep k,o=.ref a∧i=.str k∧H a=some (.dE kvs ep)∧kvs.length < sizeLine∧∀ep',Q (upd H a (.dE (rW kvs k v) ep'))
def OJ:TE:=λ_ H Q=>∀p,H p=none→∀ep,Q (.ref p) (upd H p (.dE [] ep))
section
variable {X:Cx}
theorem Nb:pE X Qz:=by
 intro value slice pins s σ H x y v u Q I rx ry q hs
 obtain ⟨a,kvs,ep,k,z,rfl,rfl,hp,hz,q⟩:=q
 cases rx
 obtain ⟨_,hd,vs,rel,da⟩:=jv I hp
 have hT:s.TypeIs (.ref a) "dict":=da.dictOf.typeIs
 obtain ⟨w',hw,rw'⟩:=(rel.va k).1 z hz
 unfold subscriptTail
 refine wpAny_bind ?_
 rw [getitemInPython_of_ne hT.not_modules]
 refine wpAny_bind (wpAny_specialOf hT PySem.F.slot_dict_getitem.lookup ?_)
 have fin:wpAny (model X.prog X.w) X.A (subscripted slice false (.ref a) u) (λr s₃=>wpAny (model X.prog X.w) X.A (letTemporaryGo value (.ref a) r >>= λ_=>pure r) (EP X pins σ Q) X.xe s₃) X.xe s:=by
  rw [hs]
  exact wpAny_operating (wpAny_getItem_of (str_is ry) da.dictOf.mapOf hw (wpAny_bind (wpAny_letTemporaryGo (wpAny_pure ⟨z,H,I.tok _,rw',q⟩))))
 first
  | exact wpAny_pure (wpAny_bind fin)
  | exact wpAny_bind (wpAny_pure (wpAny_bind fin))
  | exact wpAny_bind fin
theorem Le:eO X (compareOp .In) (LH id):=by
 intro pins s σ H x y v u Q I rx ry ⟨a,kvs,ep,k,ex,ey,hp,q⟩
 subst ex ey
 cases ry
 obtain ⟨_,hd,vs,rel,da⟩:=jv I hp
 refine wpAny_in_of (str_is rx) hd da.dictOf.mapOf ?_
 exact ⟨.bl _,H,I.tok _,by rw [uu,← (rel.va k).2];rfl,q⟩
theorem C3:eO X (compareOp .NotIn) (LH not):=by
 intro pins s σ H x y v u Q I rx ry ⟨a,kvs,ep,k,ex,ey,hp,q⟩
 subst ex ey
 cases ry
 obtain ⟨_,hd,vs,rel,da⟩:=jv I hp
 refine wpAny_notIn_of (str_is rx) hd da.dictOf.mapOf ?_
 exact ⟨.bl _,H,I.tok _,by rw [uu,← (rel.va k).2];rfl,q⟩
theorem xb (hc:X.calm=true):bT X (.type "list") LK:=by
 intro pins s σ H xs us Q I r ⟨a,kvs,ep,ex,hp,q⟩
 subst ex
 obtain ⟨u,rfl,ru⟩:=vals1 r
 cases ru
 obtain ⟨hz,hd,vs,rel,da⟩:=jv I hp
 have hl:=rel.len
 refine PySem.W.kdl_call (PySem.W.kdl_dict (knd:=PySem.strKind X.prog X.w) (kvs:=vs) (ep:=ep) hd) (I.ok.hd hc) da (by rw [← hl];exact hz) λh' tk acc c hk hS hacc=>?_
 have hkeys:Vals (kvs.map λkv=>V.str kv.1) acc.toList:=by
  have hlen:acc.toList.length=kvs.length:=by rw [Array.length_toList,hacc.1,hl]
  have hget:∀j v,acc.toList[j]?=some v→∃k x,vs[j]?=some (k,x)∧(PySem.strKind X.prog X.w).is k v=true:=λj v e=>hacc.2 j v (by rw [← Array.getElem?_toList];exact e)
  exact CA rel hlen hget
 have I2:Inv X pins σ (upd H s.heap.objs.size (.lst (kvs.map λkv=>V.str kv.1))) { s with heap:=h',toks:=tk } :=
  I.laid (t':=tk) hk (Ss _) (show cX X.prog X.w _ _ _ (.lst _) from ⟨by rw [Sm];exact hz,acc.toList,c,hkeys,by rw [Array.toArray_toList];exact hS⟩)
 exact ⟨.ref s.heap.objs.size,_,I2,rfl,q _ (I.hok.fresh (Ss _))⟩
theorem Hf:pF X "dict.pop" Oq:=by
 intro pins s σ H x xs v us Q I rx r ⟨a,kvs,ep,k,z,ex,exs,hp,hv,q⟩
 subst ex exs
 cases rx
 obtain ⟨u,rfl,ru⟩:=vals1 r
 obtain ⟨hz,hd,vs,rel,da⟩:=jv I hp
 obtain ⟨w',hw,rw'⟩:=(rel.va k).1 z hv
 have hpart:(keyPart u).isSome=true:=by obtain ⟨t,q⟩:=(show ∃t,u=Value.str k t from ru);subst q;rfl
 refine call_meetsIn PySem.F.slot_dict_pop da.dictOf.typeIs PySem.F.entry_dict_pop (PySem.F.args_dict_pop_2 _ _) (meets_dict_pop_there (PySem.strKind X.prog X.w) a (str_is ru) [] (.inl rfl) hpart)
  ⟨vs,w',da.dictOf,by rw [← rel.len];exact hz,hw,λh' dd' hs=>?_⟩
 obtain ⟨ep',I2⟩:=qj (t':=s.toks + 1) I hp hs (SM (GO kvs k) hz) hd (rel.dr k) dd'
 exact ⟨z,_,I2,rw',q ep'⟩
theorem L5:jt X Ou:=by
 intro pins s σ H o i v ov iv u Q I ro ri rv ⟨a,kvs,ep,k,eo,ei,hp,hl,q⟩
 subst eo ei
 cases ro
 obtain ⟨hz,hd,vs,rel,da⟩:=jv I hp
 refine wpAny_setItem_pairs (hsz:=by rw [← rel.len];exact hz) (str_is ri) da.dictOf λh' dd' hs=>?_
 obtain ⟨ep',I2⟩:=qj (t':=s.toks + 1) I hp hs (show (rW kvs k v).length≤sizeLine from SM (Bt kvs k v) hl) hd (rel.pu rv) dd'
 exact ⟨_,I2,q ep'⟩
theorem HG {pos:Pos}:PE X (.Dict [] [] pos) OJ:=λpins s σ H Q I h=>by
 have hd:(s.heap.push { cls:=.type "dict",data:=.dict #[] }).DictOf (PySem.strKind X.prog X.w) s.heap.objs.size []:=Heap.DictOf.new s.heap
 obtain ⟨ep,da⟩:=hd.dictAt
 exact wpAny_Dict_empty ⟨.ref s.heap.objs.size,_,I.laid (a:=s.heap.objs.size) (o:=.dE [] ep) (t':=s.toks) (λ_ _ q=>Heap.get?_push_of_some _ q) (Ss _)
  ⟨SY _,beq_eq_false_iff_ne.mpr (Ne.symm (SO I.Ki)),[],.nil,da⟩,rfl,h _ (I.hok.fresh (Ss _)) ep⟩
end
def Rh (a:Addr) (ks:List Str) (ep:Nat):It :=
 ⟨λi H=>(∃kvs,H a=some (.dE kvs ep)∧kvs.map (·.1)=ks)∧i < ks.length,
  λi H z H'=>H'=H∧∃k,ks[i]?=some k∧z=.str k,
  λi H=>(∃kvs,H a=some (.dE kvs ep)∧kvs.map (·.1)=ks)∧ks.length≤i⟩
theorem Dh {P:Program} {w:World} {K:PySem.W.Frag} {tg:Expr} (a it:Addr) (ks:List Str) (ep:Nat):Turn P w K tg (Rh a ks ep) [it] it (λi h=>h.IsKeyIter it a i ks.length ep) where
 mem:=by simp
 obj:=λi h st b hb=>by
  have e:b=it:=by simpa using hb
  subst e
  obtain ⟨o,e,c,d⟩:=st
  exact ⟨o,e,λv z=>by rw [d] at z;cases z⟩
 keep:=λi h h' st k=>st.at λo e=>k it (by simp) o e
 item:=by
  intro X hP hw hK hc i pins s σ H E I hf st hg
  subst hP hw hK
  obtain ⟨⟨kvs,hp,hks⟩,hi⟩:=hg
  obtain ⟨hz,hd,vs,rel,da⟩:=jv I hp
  have hl:ks.length=vs.length:=by rw [← hks,Sm];exact rel.len
  obtain ⟨f0,f1,f2,f3,f4,f5⟩:=hf it (by simp)
  obtain ⟨⟨k,x⟩,hx⟩:∃p,vs[i]?=some p:=⟨vs[i]'(by omega),So (by omega)⟩
  have hk:ks[i]?=some k:=by rw [← hks,rel.keys,SA,hx];rfl
  refine wpAny_pyNext_dict_item (by rw [← hl];exact st) da hx λkey h' hkey st' sb=>?_
  rw [← hl] at st'
  have I1:Inv X pins σ H { s with heap:=h' }:=I.turned (t':=s.toks) (λb o hb e=>(sb.2 b hb).trans e) f0 f1 f3 f4 f5
  obtain ⟨o,e,c,d⟩:=id st'
  exact ⟨key,rfl,Ee (s:={ s with heap:=h' }) e c d (by decide) ⟨.str k,H,I1,Eo hkey,⟨rfl,k,hk,rfl⟩,st',λb hb=>(hf b hb).1⟩⟩
 done:=by
  intro X hP hw hK hc i pins s σ H E I hf st hg
  subst hP hw hK
  obtain ⟨⟨kvs,hp,hks⟩,hi⟩:=hg
  obtain ⟨hz,hd,vs,rel,da⟩:=jv I hp
  have hl:ks.length=vs.length:=by rw [← hks,Sm];exact rel.len
  obtain ⟨f0,f1,f2,f3,f4,f5⟩:=hf it (by simp)
  refine wpAny_pyNext_dict_end (I.ok.hd hc) (by rw [← hl];exact st) da (by rw [Us];omega) λh' hk=>⟨rfl,I.turned (t':=s.toks) (λb o hb e=>hk b o hb e) f0 f1 f3 f4 f5⟩
 self:=λ_ _ _ _ _ st h=>wpAny_pyIter_keyiter st h
def M_ (td:TE):TI:=λσ H R=>td σ H λx H1=>∃a kvs ep,x=.ref a∧H1 a=some (.dE kvs ep)∧R (Rh a (kvs.map (·.1)) ep) H1
theorem HH {X:Cx} {tg l:Expr} {tl:TE} (hl:PE X l tl):PI X tg l (M_ tl):=by
 intro pins s σ H R I h
 refine b9 (hl pins s σ H _ I h) λv s1 ⟨x,H1,I1,r1,q1⟩=>?_
 obtain ⟨a,kvs,ep,e,hp,q⟩:=q1
 subst e
 cases r1
 obtain ⟨hz,hd,vs,rel,da⟩:=jv I1 hp
 refine wpAny_pyIter_dict hd da ?_
 refine ⟨s1.heap.objs.size,[s1.heap.objs.size],_,_,H1,rfl,I1.kept (t':=s1.toks) λb o e=>Heap.get?_push_of_some _ e,Dh a _ (kvs.map (·.1)) ep,⟨_,Heap.get?_push_size _ rfl,rfl,by rw [Sm,rel.len];rfl⟩,λb hb=>?_,q⟩
 have e:b=s1.heap.objs.size:=by simpa using hb
 subst e
 exact I1.D_ (Ss _) (I1.hok.fresh (Ss _))
end L2
namespace Ov
open PySem PySem.Spec PyProof.Rows L2
section
variable {prog:Program} {w:World} {A:Around} {R:Result→Shared→Prop} {s:Shared}
theorem zr {kx vx iter:Expr} {ifs:List Expr} {x:Str} {px:Pos} {sc:Scope} {pos:Pos} {it:Value} {D:Addr} {env:Env} (I:Nat→Shared→Prop)
  (turn:∀n s,I n s→wpAny (model prog w) A (pyNext it) (λr s₁=>match r with
   | none=>R (.ok .next) s₁
   | some v=>wpAny (model prog w) A (letOwnedTupleGo (.Name x px) it v) (λ_ s₂=>wpAny (model prog w) A (assign (.Name x px) env v) (λ_ s₃=>wpAny (model prog w) A (forIn ifs true λc r=>if r=true then do let ok ← isTrue c env (eval c env);pure (ForInStep.yield ok) else pure (ForInStep.yield r)) (λok s₃=>if ok=true then wpAny (model prog w) A (eval kx env) (λkv s₄ =>
     wpAny (model prog w) A (eval vx env) (λvv s₅=>wpAny (model prog w) A (dictSet D kv vv) (λ_ s₅=>∃m,m < n∧I m s₅) (λ_ _=>False) s₅) (λ_ _=>False) s₄) (λ_ _=>False) s₃ else ∃m,m < n∧I m s₃) (λ_ _=>False) s₃) (λ_ _=>False) s₂) (λ_ _=>False) s₁) (λ_ _=>False) s)
  (n:Nat) (h:I n s):codeAny (model prog w) A (.compLoop (.DictComp kx vx [⟨.Name x px,iter,ifs,0⟩] sc pos) 0 it (.ref D) env) R s:=by
 refine codeAny_loop rfl I (λn s hI=>?_) n h
 show wpAny _ _ ((compTurn (.DictComp kx vx [⟨.Name x px,iter,ifs,0⟩] sc pos) 0 it (.ref D) env).onRaise (λx=>do noteFrame x env;theTreesLotGoes x)) _ _ s
 refine wpAny_noted ?_
 rw [compTurn_dict]
 have no:∀(e:Value) (s':Shared),False→notedBy (model prog w) A env (λe s'=>R (.error e) s') e s':=λ_ _ z=>z.elim
 refine wpAny_bind (wpAny_standAt (wpAny_bind (wpAny_mono (turn n s hI) (λr s₁ h₁=>?_) no)))
 cases r with
 | none=>exact wpAny_pure h₁
 | some v =>
  refine wpAny_bind (wpAny_mono h₁ (λ_ s₂ h₂=>?_) no)
  refine wpAny_bind (wpAny_mono h₂ (λ_ s₃ h₃=>wpAny_bind (wpAny_mono h₃ (λok s₃' h₃'=>?_) no)) no)
  cases ok with
  | false=>exact wpAny_pure ⟨rfl,h₃'⟩
  | true =>
   exact wpAny_bind (wpAny_bind (wpAny_mono h₃' (λkv s₄ h₄=>wpAny_bind (wpAny_holding (wpAny_mono h₄ (λvv s₅ h₅=>wpAny_bind (wpAny_standAt (wpAny_holding (wpAny_mono h₅ (λ_ s₆ h₆=>wpAny_pure ⟨rfl,h₆⟩) no)))) no))) no))
end
def RZ (wi:TI) (ks:List (Str × Nat)) (tc:TT) (tk te:TE):TE:=λσ H Q=>wi σ H λJ H1=>∀D,H1 D=none→∀ep,∃W:Nat→Nat→Hp→Prop,(∃m,W 0 m (upd H1 D (.dE [] ep))) ∧
 ∀i m H2,W i m H2→(J.stop i H2∧Q (.ref D) H2)∨(J.go i H2∧∀v H3,J.yld i H2 v H3→tc (some v :: dB ks σ) H3 λb H4=>if b=true then tk (some v :: dB ks σ) H4 λy H5=>te (some v :: dB ks σ) H5 λz H6=>∃kvs ep k,y=.str k∧H6 D=some (.dE kvs ep)∧kvs.length < sizeLine∧∃m',m' < m∧∀ep',W (i + 1) m' (upd H6 D (.dE (L2.rW kvs k z) ep')) else ∃m',m' < m∧W (i + 1) m' H4)
section
variable {X:Cx}
theorem C_ {kx vx iter:Expr} {ifs:List Expr} {x:Str} {px:Pos} {sc:Scope} {pos:Pos} {tk te:TE} {tc:TT} {ks:List (Str × Nat)} {cl:List (Str × Addr)} {pins:List (Addr × Obj)} {σ:L2.St} {H:Hp} {s:Shared} {it:Addr} {fp:List Addr} {tn:Nat→Heap→Prop} {J:It} {Q:VK}
  {RR:Value→Addr→Result→Shared→Prop} {E:Value→Shared→Prop}
  (hc:X.calm=true) (ok:cR sc X.env.scope X.N x ks) (h1:∀y c,cl.lookup y=some c→X.env.cells.lookup y=some c) (h2:∀y∈sc.names,y.2=.free→∃c,cl.lookup y.1=some c)
  (hk:∀cl C s₀ H₀ fp pins,PE (gq X sc cl C x ks s₀ H₀ fp pins) kx tk) (he:∀cl C s₀ H₀ fp pins,PE (gq X sc cl C x ks s₀ H₀ fp pins) vx te) (hcn:∀cl C s₀ H₀ fp pins,GD (gq X sc cl C x ks s₀ H₀ fp pins) ifs tc)
  (I:Inv X pins σ H s) (T:Turn X.prog X.w X.K (.Name x px) J fp it tn) (st:tn 0 s.heap) (f:∀b∈fp,kP X pins H b)
  (hw:∀D,H D=none→∀ep,∃W:Nat→Nat→Hp→Prop,(∃m,W 0 m (upd H D (.dE [] ep)))∧∀i m H2,W i m H2→(J.stop i H2∧Q (.ref D) H2) ∨
   (J.go i H2∧∀v H3,J.yld i H2 v H3→tc (some v :: dB ks σ) H3 λb H4=>if b=true then tk (some v :: dB ks σ) H4 λy H5=>te (some v :: dB ks σ) H5 λz H6=>∃kvs ep k,y=.str k∧H6 D=some (.dE kvs ep)∧kvs.length < sizeLine∧∃m',m' < m∧∀ep',W (i + 1) m' (upd H6 D (.dE (L2.rW kvs k z) ep')) else ∃m',m' < m∧W (i + 1) m' H4))
  (hR:∀(D C:Addr) (s':Shared) (H':Hp) (m:Str→Option Value),Inv X pins σ H' s'→Q (.ref D) H'→s'.heap.Ns C m→H' C=none→C≠X.env.locals→X.s₀.heap.objs.size≤C→(∀y c,X.env.cells.lookup y=some c→c≠C)→(∀p∈X.pn ++ pins,p.1≠C)→RR (.ref D) C (.ok .next) s') :
  wpAny (model X.prog X.w) X.A newDict (λacc s₃=>wpAny (model X.prog X.w) X.A (newFunctionEnv sc X.env.globals cl [] X.env.qual none .none (some X.env)) (λcenv s₄ =>
   codeAny (model X.prog X.w) X.A (.compStart (.DictComp kx vx [⟨.Name x px,iter,ifs,0⟩] sc pos) 0 (.ref it) acc { cenv with scope:=relabel sc X.env }) (RR acc cenv.locals) s₄) E s₃) E s:=by
 have okk:=ok
 obtain ⟨kd,nc,lx,ll,fr,kk,nd⟩:=okk
 have hD0:H s.heap.objs.size=none:=I.hok.fresh (Ss _)
 have hdd:(s.heap.push { cls:=.type "dict",dict:=none,data:=.dict #[] }).DictOf (PySem.strKind X.prog X.w) s.heap.objs.size []:=Heap.DictOf.new s.heap
 obtain ⟨ep0,da⟩:=hdd.dictAt
 obtain ⟨W,⟨m0,w0⟩,turn⟩:=hw s.heap.objs.size hD0 ep0
 refine wpAny_newObj_type ?_
 have I3:Inv X pins σ (upd H s.heap.objs.size (.dE [] ep0)) { s with heap:=s.heap.push { cls:=.type "dict",dict:=none,data:=.dict #[] } } :=
  I.laid (t':=s.toks) (λb u e=>Heap.get?_push_of_some _ e) (Ss _) ⟨SY _,beq_eq_false_iff_ne.mpr (Ne.symm (SO I.Ki)),[],.nil,da⟩
 have st3:tn 0 (s.heap.push { cls:=.type "dict",dict:=none,data:=.dict #[] }):=T.keep 0 _ _ st λb hb o e=>Heap.get?_push_of_some _ e
 clear da hdd
 generalize hD:s.heap.objs.size=D at *
 generalize hH:upd H D (.dE [] ep0)=H3 at *
 generalize hs3:({ s with heap:=s.heap.push { cls:=.type "dict",dict:=none,data:=.dict #[] } }:Shared)=s3 at *
 have e3:s.heap.push { cls:=.type "dict",dict:=none,data:=.dict #[] }=s3.heap:=by rw [← hs3]
 rw [e3] at st3
 have fD:∀b∈fp,b≠D:=λb hb z=>by
  obtain ⟨o,ho,_⟩:=T.obj 0 _ st b hb
  have:=Heap.lt_size ho
  rw [z,← hD] at this
  exact Tr _ this
 have f3:∀b∈fp,kP X pins H3 b:=λb hb=>⟨by rw [← hH,aL (fD b hb)];exact (f b hb).1,(f b hb).2⟩
 have g3:∀b∈fp,∃o,s3.heap.get? b=some o:=λb hb=>by
  obtain ⟨o,ho,_⟩:=T.obj 0 _ st3 b hb
  exact ⟨o,ho⟩
 refine wpAny_newFunctionEnv nc (by intro y hy;simp at hy) (λh₁ hns hsb=>?_) kd
 have kp:∀b o,s3.heap.get? b=some o→h₁.get? b=some o:=λb o e=>hsb.extBut b o (SO (Heap.lt_size e)) (Heap.get?_push_of_some _ e)
 have J0:=xx (fp:=fp) (cl:=cl) (t':=s3.toks + ([]:List (Str × Value)).length) I3 ok h1 h2 (λb hb=>⟨f3 b hb,g3 b hb⟩) hns kp
 have st4:tn 0 h₁:=T.keep 0 _ _ st3 λb hb o e=>kp b o e
 have ltC:∀b o,s3.heap.get? b=some o→b≠s3.heap.objs.size:=λb o e=>SO (Heap.lt_size e)
 have cC:∀y c,X.env.cells.lookup y=some c→c≠s3.heap.objs.size:=λy c e=>by
  obtain ⟨v,o,ho,_⟩:=I3.cell y c e
  exact ltC c o ho
 have pC:∀p∈X.pn ++ pins,p.1≠s3.heap.objs.size:=λp hp=>ltC _ _ (I3.pin p hp).1
 have lC:s3.heap.objs.size≠X.env.locals:=UG I3.lt
 have fX:∀{H':Hp},(∀b∈fp,H' b=none)→∀b∈fp,kP (gq X sc cl s3.heap.objs.size x ks s3 H3 fp pins) [] H' b:=λhn b hb=>by
  obtain ⟨o,ho⟩:=g3 b hb
  obtain ⟨_,q1,q2,q3,q4,q5⟩:=f b hb
  refine ⟨hn b hb,ltC b o ho,λz=>?_,.inl hb,λy c e=>q4 y c (h1 y c e),λp hp=>q5 p (by simpa [gq] using hp)⟩
  rcases SH.mp (I3.oG b z) with e | e
  ·exact q1 e
  ·exact q2 e
 have back:∀{o:Option V} {H':Hp} {s':Shared},Inv (gq X sc cl s3.heap.objs.size x ks s3 H3 fp pins) [] (o :: dB ks σ) H' s'→Inv X pins σ H' s':=λ{o H' s'} J=>by
  obtain ⟨hh,g,d,t,os'⟩:=s'
  obtain rfl:os'=s3.os:=J.os
  exact I3.call (h':=hh) (g':=g) (d':=d) (t':=t) (ch:=fp) J.base J.hok J.bare λb hb=>⟨(f b hb).2.2.2.1,(f b hb).2.1,(f b hb).2.2.2.2.1,(f b hb).2.2.2.2.2⟩
 have lookX:(relabel sc X.env).names.lookup x=some .local:=lookup_relabel_local lx
 have loop:∀s',(∃(i:Nat) (o:Option V) (H':Hp),Inv (gq X sc cl s3.heap.objs.size x ks s3 H3 fp pins) [] (o :: dB ks σ) H' s'∧tn i s'.heap∧(∀b∈fp,H' b=none)∧W i m0 H') →
   codeAny (model X.prog X.w) X.A (.compLoop (.DictComp kx vx [⟨.Name x px,iter,ifs,0⟩] sc pos) 0 (.ref it) (.ref D) (compEnvC sc cl s3.heap.objs.size X.env)) (RR (.ref D) s3.heap.objs.size) s':=by
  intro s' hs'
  refine zr (λn s'=>∃(i:Nat) (o:Option V) (H':Hp),Inv (gq X sc cl s3.heap.objs.size x ks s3 H3 fp pins) [] (o :: dB ks σ) H' s'∧tn i s'.heap∧(∀b∈fp,H' b=none)∧W i n H') ?_ m0 hs'
  rintro n s5 ⟨i,o,H5,J5,t5,n5,w5⟩
  rcases turn i n H5 w5 with ⟨stop,hq⟩ | ⟨go,step⟩
  ·refine b9 (T.done (gq X sc cl s3.heap.objs.size x ks s3 H3 fp pins) rfl rfl rfl hc i [] s5 _ H5 _ J5 (fX n5) t5 stop) λr s6 ⟨hr,J6⟩=>?_
   subst hr
   obtain ⟨m,hm,_⟩:=J6.loc
   exact hR D _ s6 H5 m (back J6) hq hm J6.free lC I3.sz cC pC
  ·refine b9 (T.item (gq X sc cl s3.heap.objs.size x ks s3 H3 fp pins) rfl rfl rfl hc i [] s5 _ H5 _ J5 (fX n5) t5 go) λr s6 ⟨u,hr,h6⟩=>?_
   subst hr
   refine b9 h6 λ_ s7 ⟨v,H7,J7,r7,y7,t7,n7⟩=>?_
   have J7':=J7.pinned (fX n7) (T.obj _ _ t7)
   refine wpAny_assign_Name (gi (X:=gq X sc cl s3.heap.objs.size x ks s3 H3 fp pins) (i:=0) J7' nd rfl (.inl lookX) r7 (λs8 J8=>?_) (.inr lookX))
   refine b9 (hcn cl s3.heap.objs.size s3 H3 fp pins _ s8 _ H7 _ J8 (step v H7 y7)) λok s8' ⟨H8,J8',q8⟩=>?_
   cases ok with
   | false =>
    simp only [SJ,if_false] at q8 ⊢
    obtain ⟨m',hm,w'⟩:=q8
    refine ⟨m',hm,i + 1,_,_,J8'.gj,?_,?_,w'⟩
    ·exact T.keep _ _ _ t7 λb hb o e=>(J8'.pin (b,o) (SF _ (SF _ (cv hb e)))).1
    ·intro b hb
     obtain ⟨o,e,d⟩:=T.obj _ _ t7 b hb
     exact (J8'.pin (b,o) (SF _ (SF _ (cv hb e)))).2.1
   | true =>
    simp only [if_true] at q8 ⊢
    refine b9 (hk cl s3.heap.objs.size s3 H3 fp pins _ s8' _ H8 _ J8' q8) λky s8'' ⟨vk,H8',J8'',rk,q8'⟩=>?_
    refine b9 (he cl s3.heap.objs.size s3 H3 fp pins _ s8'' _ H8' _ J8'' q8') λy s9 ⟨vy,H9,J9,r9,kvs,ep,k,ek,hys,hz,m',hm,w'⟩=>?_
    subst ek
    obtain ⟨hz',hd',vs,rel,da⟩:=jv J9 hys
    refine wpAny_dictSet_pairs (hsz:=by rw [← rel.len];exact hz') (str_is rk) da.dictOf λh' dd' hsb=>?_
    obtain ⟨ep',J10⟩:=qj (t':=s9.toks + 1) J9 hys hsb (show (L2.rW kvs k vy).length≤sizeLine from SM (Bt kvs k vy) hz) hd' (rel.pu r9) dd'
    refine ⟨m',hm,i + 1,_,_,J10.gj,?_,?_,w' ep'⟩
    ·exact T.keep _ _ _ t7 λb hb o e=>(J10.pin (b,o) (SF _ (SF _ (cv hb e)))).1
    ·intro b hb
     obtain ⟨o,e,d⟩:=T.obj _ _ t7 b hb
     exact (J10.pin (b,o) (SF _ (SF _ (cv hb e)))).2.1
 have l0:=loop _ ⟨0,none,H3,J0,st4,λb hb=>(f3 b hb).1,w0⟩
 exact codeAny_compStart_dict l0 (T.self _ 0 _ _ _ st4 l0)
theorem NX {kx vx iter:Expr} {ifs:List Expr} {x:Str} {px:Pos} {sc:Scope} {pos:Pos} {wi:TI} {tk te:TE} {tc:TT} (osc:Scope) (N:List Str) (ks:List (Str × Nat)) (hc:X.calm=true) (ho:X.env.scope=osc) (hN:X.N=N) (hi:PI X (.Name x px) iter wi)
  (hk:∀cl C s₀ H₀ fp pins,PE (gq X sc cl C x ks s₀ H₀ fp pins) kx tk) (he:∀cl C s₀ H₀ fp pins,PE (gq X sc cl C x ks s₀ H₀ fp pins) vx te) (hcn:∀cl C s₀ H₀ fp pins,GD (gq X sc cl C x ks s₀ H₀ fp pins) ifs tc) (ok:cR sc osc N x ks:=by decide +kernel) (hs:∀x,foldedSetIterable iter X.env x=pure x:=by intro _;rfl) :
  PE X (.DictComp kx vx [⟨.Name x px,iter,ifs,0⟩] sc pos) (RZ wi ks tc tk te):=by
 intro pins s σ H Q I hw
 obtain ⟨cl,hcl,h1,h2⟩:=lE (qO ok I ho)
 have ok':cR sc X.env.scope X.N x ks:=by rw [ho,hN];exact ok
 rw [arm_eval_DictComp]
 refine wpAny_comprehension_free (use:=none) rfl hs hcl ok.1 ok.2.2.2.1 (b9 (hi pins s σ H _ I hw) λv s1 h3=>b9 h3 λitv s2 h4=>?_)
 obtain ⟨it,fp,tn,J,H2,rfl,I2,T,st2,f2,hR⟩:=h4
 refine C_ (RR:=λacc C=>compPost (model X.prog X.w) X.A X.xe none (EP X pins σ Q) acc C) hc ok' h1 h2 hk he hcn I2 T st2 f2 hR ?_
 intro D C s' H' m J' q hn hC cl' cs cc cp
 refine ⟨m,hn,λh' hsb=>⟨.ref D,H',?_,rfl,q⟩⟩
 exact J'.turned (t':=s'.toks) (it:=C) (λb o ne e=>hsb.extBut b o ne e) hC cl' (.inr cs) cc cp
end
end Ov
namespace Ov
open PySem PySem.Spec PyProof.Rows
open L2 (V HO Hp Inv Cx VK XK TE TT TA TS TG pG TI TO ju Ends wN Loc Gl Rd RelV Vals eO w6 bT pE sH pF jt R2 upd aE aL cF gr Sp rT It bA cT bI Passes o8 aD Meth Mk Binds aH b7 av c7 fN d_ nv rW Dr pe)
section
variable {K:PySem.W.Frag} {J:Hq} {H:Hp}
theorem d6:∀{kvs:List (Str × PV)} {gs:List (Str × V)},lA K J H kvs gs→pe (b_ K J H) kvs gs
 | [],[],_=>.nil
 | [],_ :: _,h=>by cases h.1
 | _ :: _,[],h=>by cases h.1
 | (k,y) :: fs,(k',w) :: gs,h=>by
  obtain ⟨h1,v',us,h2,h3,h4⟩:=h
  simp only [Sx,List.cons.injEq] at h1 h2
  obtain ⟨rfl,h1⟩:=h1
  obtain ⟨rfl,rfl⟩:=h2
  exact .cons ⟨rfl,h3⟩ (d6 ⟨h1,h4⟩)
theorem x9:∀{kvs:List (Str × PV)} {gs:List (Str × V)},pe (b_ K J H) kvs gs→lA K J H kvs gs
 | _,_,.nil=>⟨rfl,rfl⟩
 | _,_,.cons (a:=p) (b:=q) r t=>by
  obtain ⟨h1,h2⟩:=x9 t
  exact ⟨by rw [Sx,Sx,h1,r.1],q.2,_,rfl,r.2,h2⟩
theorem Ext.kg {p:Addr} {kvs kvs':List (Str × PV)} {gs gs':List (Str × V)} {ep ep':Nat} (h:J p=some (.dct kvs ep)) (k:H p=some (.dE gs ep)):Ext K J H (put J p (.dct kvs' ep')) (upd H p (.dE gs' ep')):=by
 have sm:∀a u,a≠p→Rd H a u→Rd (upd H p (.dE gs' ep')) a u:=λa u ne z=>by
  rcases z with z | ⟨o,z⟩
  ·exact .inl (by rw [aL ne];exact z)
  ·exact .inr ⟨o,by rw [aL ne];exact z⟩
 refine ⟨λa vs' z=>?_,λa o z q _=>?_⟩
 ·rcases z with z | z
  ·have ne:a≠p:=by
    intro e;subst e
    rcases z with z | ⟨o,z⟩
    ·rw [k] at z;cases z
    ·rw [k] at z;cases z
   exact .inl (sm a _ ne z)
  ·exact .inr z
 ·have ne:a≠p:=by intro e;subst e;rw [h] at z;cases z
  exact ⟨by rw [ak ne];exact z,by rw [aL ne];exact q⟩
theorem Rep.kg {p:Addr} {kvs kvs':List (Str × PV)} {gs gs':List (Str × V)} {ep ep':Nat} (r:Rep K J H) (h:J p=some (.dct kvs ep)) (k:H p=some (.dE gs ep)) (q:pe (b_ K J H) kvs' gs'):Rep K (put J p (.dct kvs' ep')) (upd H p (.dE gs' ep')):=by
 have e:=Ext.kg (K:=K) (kvs':=kvs') (gs':=gs') (ep':=ep') h k
 refine r.Av e p (λa ne=>ak ne) (λa o ne _ z=>by rw [aL ne];exact z) λu z=>?_
 rw [aq] at z;cases z
 exact ⟨gs',aE,e.vT (x9 q)⟩
theorem Rep.IZ {p:Addr} {ep:Nat} (r:Rep K J H) (n:H p=none):Rep K (put J p (.dct [] ep)) (upd H p (.dE [] ep)):=by
 have e:=Ext.laid (K:=K) (J:=J) (o:=.dE [] ep) (u:=.dct [] ep) n
 refine r.Av e p (λa ne=>ak ne) (λa o ne _ z=>by rw [aL ne];exact z) λu z=>?_
 rw [aq] at z;cases z
 exact ⟨[],aE,⟨rfl,rfl⟩⟩
end
def N5:ml:=λx y J Q=>Bi x λa=>Ji y λk=>EX (J a) λkvs _=>vo (nv kvs k) λv=>Q v J
def HU (f:Bool→Bool):ml:=λx y J Q=>Ji x λk=>Bi y λa=>EX (J a) λkvs _=>Q (.bl (f (nv kvs k).isSome)) J
def N7:yZ:=λxs J Q=>Bh xs λx=>Bi x λa=>EX (J a) λkvs _=>Q (.int kvs.length) J
def Fs:yZ:=λxs J Q=>Bh xs λx=>Bi x λa=>EX (J a) λkvs _=>Q (.fl (kvs.map λkv=>.str kv.1)) J
def Ju:Dq:=λx xs J Q=>Bi x λa=>Bh xs λy=>Ji y λk=>EX (J a) λkvs _=>vo (nv kvs k) λv=>∀ep',Q v (put J a (.dct (Dr kvs k) ep'))
def Jv:Co:=λo i y J R=>Bi o λa=>Ji i λk=>EX (J a) λkvs _=>kvs.length < sizeLine∧∀ep',R (put J a (.dct (rW kvs k y) ep'))
def Jz:cW:=λ_ J Q=>∀p,J p=none→∀ep,Q (.ref p) (put J p (.dct [] ep))
def Ru (te:cW):sL:=λτ J R=>te τ J λx J1=>Bi x λa=>EX (J1 a) λkvs ep=>R ⟨kvs.map λkv=>.str kv.1,λJ'=>J' a=some (.dct kvs ep)⟩ J1
section
variable {X:Cx} {G:G2}
theorem fT:Pn X N5:=⟨_,L2.Nb,λJ H x y v w Q2 Q rx ry r h kn=>by
 obtain ⟨a,ex,h⟩:=fY h;obtain ⟨k,ey,h⟩:=n8 h;obtain ⟨kvs,ep,ja,h⟩:=lO h;obtain ⟨z,hz,q⟩:=dZ h
 subst ex ey
 cases rx;cases ry
 obtain ⟨gs,h1,h2⟩:=r _ _ ja
 obtain ⟨u,hu,ru⟩:=((d6 h2).va k).1 z hz
 exact ⟨a,gs,ep,k,u,rfl,rfl,h1,hu,kn z J u H ru r .refl q⟩⟩
theorem EC (f:Bool→Bool):LR X.K (L2.LH f) (HU f):=λJ H x y v w Q2 Q rx ry r h kn=>by
 obtain ⟨k,ex,h⟩:=n8 h;obtain ⟨a,ey,h⟩:=fY h;obtain ⟨kvs,ep,ja,q⟩:=lO h
 subst ex ey
 cases rx;cases ry
 obtain ⟨gs,h1,h2⟩:=r _ _ ja
 exact ⟨a,gs,ep,k,rfl,rfl,h1,by rw [← ((d6 h2).va k).2];exact kn (.bl _) J _ H rfl r .refl q⟩
theorem Lh:mj X (compareOp .In) (HU id):=⟨_,L2.Le,EC id⟩
theorem Hz:mj X (compareOp .NotIn) (HU not):=⟨_,L2.C3,EC not⟩
theorem om {K:PySem.W.Frag} {J:Hq} {H:Hp}:∀{ks:List Str},aM K J H (ks.map PV.str) (ks.map V.str)
 | []=>rfl
 | k :: ks=>⟨_,_,rfl,rfl,om (ks:=ks)⟩
theorem xg (hc:X.calm=true):IJ X (.type "list") Fs:=⟨_,L2.xb hc,λJ H xs vs Q2 Q rs r h k=>by
 obtain ⟨x,ex,h⟩:=iO h;obtain ⟨a,ea,h⟩:=fY h;obtain ⟨kvs,ep,ja,q⟩:=lO h;subst ea
 subst ex;obtain ⟨v,us,rfl,rv,e⟩:=rs;cases e;cases rv
 obtain ⟨gs,h1,h2⟩:=r _ _ ja
 refine ⟨a,gs,ep,rfl,h1,λp hp=>?_⟩
 have hk:aM X.K J H (kvs.map λkv=>PV.str kv.1) (gs.map λkv=>V.str kv.1):=by
  have:=(d6 h2).keys
  rw [show (kvs.map λkv=>PV.str kv.1)=(kvs.map (·.1)).map PV.str by rw [Sy];rfl,show (gs.map λkv=>V.str kv.1)=(gs.map (·.1)).map V.str by rw [Sy];rfl,this]
  exact om
 obtain ⟨x1,x2,x3⟩:=uZ r hk hp
 exact k _ J _ _ x1 x2 x3 q⟩
theorem Hd:Kb X "dict" "dict.pop" Ju:=⟨_,L2.Hf,λJ H x xs v vs Q2 Q rx rs r h kn=>by
 obtain ⟨a,ex,h⟩:=fY h;obtain ⟨y,exs,h⟩:=iO h;obtain ⟨k,ek,h⟩:=n8 h;obtain ⟨kvs,ep,ja,h⟩:=lO h;obtain ⟨z,hz,q⟩:=dZ h;subst ek
 subst ex exs;cases rx
 obtain ⟨u,us,rfl,ru,e⟩:=rs;cases e;cases ru
 obtain ⟨gs,h1,h2⟩:=r _ _ ja
 have pk:=d6 h2
 obtain ⟨y,hy,ry⟩:=(pk.va k).1 z hz
 refine ⟨a,gs,ep,k,y,rfl,rfl,h1,hy,λep'=>?_⟩
 have e2:=Ext.kg (K:=X.K) (kvs':=Dr kvs k) (gs':=Dr gs k) (ep':=ep') ja h1
 exact kn z _ y _ (e2.rep ry) (r.kg ja h1 (pk.dr k)) e2 (q ep')⟩
theorem pV:Pt X Jv:=⟨_,L2.L5,λJ H o i y ov iv u R2 R ro ri ry r h kk=>by
 obtain ⟨a,eo,h⟩:=fY h;obtain ⟨k,ei,h⟩:=n8 h;obtain ⟨kvs,ep,ja,hl,q⟩:=lO h
 subst eo ei;cases ro;cases ri
 obtain ⟨gs,h1,h2⟩:=r _ _ ja
 have pk:=d6 h2
 refine ⟨a,gs,ep,k,rfl,rfl,h1,by rw [← pk.len];exact hl,λep'=>?_⟩
 exact kk _ _ (r.kg ja h1 (pk.pu ry)) (Ext.kg (K:=X.K) ja h1) (q ep')⟩
theorem BG {pos:Pos}:RE X G (.Dict [] [] pos) Jz:=⟨kW L2.HG λσ H Q ⟨τ,J,Q2,a2,q,k⟩ p hp ep=>k (.ref p) _ _ _ rfl (a2.hp.IZ hp) (.laid hp) (q p (a2.hp.free hp) ep)⟩
theorem BH {tg l:Expr} {tl:cW} (hl:RE X G l tl):RI X G tg l (Ru tl):=⟨N0 (L2.HH hl.run) λσ H R ⟨τ,J,R2,a2,h,k⟩=>⟨τ,J,_,a2,h,λx J1 v H1 rx r1 e1 h=>by
 obtain ⟨a,ex,h⟩:=fY h;obtain ⟨kvs,ep,ja,q⟩:=lO h
 subst ex;cases rx
 obtain ⟨gs,h1,h2⟩:=r1 _ _ ja
 have pk:=d6 h2
 have hl':=pk.len
 refine ⟨a,gs,ep,rfl,h1,k _ J1 _ H1 ?_ r1 e1 q⟩
 have hks:=pk.keys
 have key:∀J' H',Rep X.K J' H'→J' a=some (.dct kvs ep)→∃gs',H' a=some (.dE gs' ep)∧gs'.map (·.1)=gs.map (·.1):=λJ' H' r o=>by
  obtain ⟨gs',h1',h2'⟩:=r _ _ o
  exact ⟨gs',h1',by rw [← (d6 h2').keys,hks]⟩
 exact {
  go:=λJ' H' e r o i hi=>⟨key J' H' r o,by rw [Sm] at hi ⊢;omega⟩
  yl:=λJ' H' e r o i hi v H2 y=>by
   obtain ⟨rfl,k,hk,rfl⟩:=y
   rw [← hks,SA] at hk
   obtain ⟨kv,hkv,rfl⟩:=Option.map_eq_some_iff.mp hk
   exact ⟨.str kv.1,by rw [SA,hkv];rfl,rfl,r,.refl⟩
  stop:=λJ' H' e r o=>⟨key J' H' r o,by rw [Sm,Sm];omega⟩ }⟩⟩
def Pb (wi:sL) (ks:List (Str × Nat)) (tc:lD) (tk te:cW):cW:=λτ J Q=>wi τ J λit J1=>∀D,J1 D=none→∀ep,∃W:Nat→Hq→Prop,W 0 (put J1 D (.dct [] ep))∧(∀i J2,W i J2→it.ok J2) ∧
 (∀i x J2,it.xs[i]?=some x→W i J2→tc (some x :: pD ks τ) J2 λb J3=>if b=true then tk (some x :: pD ks τ) J3 λy J4=>te (some x :: pD ks τ) J4 λz J5 =>
  ∃kvs ep k,y=.str k∧J5 D=some (.dct kvs ep)∧kvs.length < sizeLine∧∀ep',W (i + 1) (put J5 D (.dct (rW kvs k z) ep')) else W (i + 1) J3)∧∀J2,W it.xs.length J2→Q (.ref D) J2
theorem GK {wi:sL} {ks:List (Str × Nat)} {tc:lD} {tk te:cW}:∀σ H Q,LE X.K G (Pb wi ks tc tk te) σ H Q→RZ (LI X.K G wi) ks (LT X.K G tc) (LE X.K G tk) (LE X.K G te) σ H Q:=λσ H Q ⟨τ,J,Q2,a2,h,k⟩ =>
 ⟨τ,J,_,a2,h,λit J1 I H1 ir r1 e1 w D hD ep=>by
  obtain ⟨W,w0,wok,step,fin⟩:=w D (r1.free hD) ep
  refine ⟨λi m H2=>m=it.xs.length - i∧i≤it.xs.length∧∃J2,Rep X.K J2 H2∧Ext X.K J1 H1 J2 H2∧W i J2,⟨_,rfl,SY _,_,r1.IZ hD,.laid hD,w0⟩,?_⟩
  rintro i m H2 ⟨rfl,hi,J2,r2,e2,w2⟩
  by_cases hlt:i < it.xs.length
  ·refine .inr ⟨ir.go J2 H2 e2 r2 (wok i J2 w2) i hlt,λv H3 y=>?_⟩
   obtain ⟨x,ex,rx,r3,e3⟩:=ir.yl J2 H2 e2 r2 (wok i J2 w2) i hlt v H3 y
   have a3:wM X.K G (some x :: pD ks τ) J2 (some v :: dB ks σ) H3:=⟨BJ (a2.sl.ext ((e1.trans e2).trans e3)) rx ks,r3,((a2.ext.trans e1).trans e2).trans e3⟩
   refine ⟨_,_,_,a3,step i x J2 ex w2,λb J4 H4 r4 e4 q=>?_⟩
   cases b with
   | false =>
    simp only [SJ,if_false] at q ⊢
    exact ⟨_,by omega,rfl,hlt,J4,r4,(e2.trans e3).trans e4,q⟩
   | true =>
    simp only [if_true] at q ⊢
    refine ⟨_,_,_,a3.go r4 e4,q,λyk J5 u H5 rk r5 e5 q5=>?_⟩
    refine ⟨_,_,_,(a3.go r4 e4).go r5 e5,q5,λz J6 vz H6 rz r6 e6 ⟨kvs,ep2,kk,ek,jD,hl,q6⟩=>?_⟩
    subst ek
    cases rk
    obtain ⟨gs,h1,h2⟩:=r6 _ _ jD
    have pk:=d6 h2
    refine ⟨gs,ep2,kk,rfl,h1,by rw [← pk.len];exact hl,it.xs.length - (i + 1),by omega,λep'=>⟨rfl,hlt,_,r6.kg jD h1 (pk.pu rz),?_,q6 ep'⟩⟩
    exact ((((e2.trans e3).trans e4).trans e5).trans e6).trans (Ext.kg (K:=X.K) jD h1)
  ·have ei:i=it.xs.length:=by omega
   subst ei
   exact .inl ⟨ir.stop J2 H2 e2 r2 (wok _ J2 w2),k (.ref D) J2 _ H2 rfl r2 (e1.trans e2) (fin J2 w2)⟩⟩
theorem Qs {X:Cx} {ifs:List Expr} {t t':TT} (h:GD X ifs t) (k:∀σ H Q,t' σ H Q→t σ H Q):GD X ifs t':=λpins s σ H Q I q=>h pins s σ H Q I (k _ _ _ q)
variable {kx vx iter cnd:Expr} {x y:Str} {px py:Pos} {sc:Scope} {pos spos:Pos} {wi:sL} {tk te:cW} {tc:lD} {i:Nat}
theorem JE (osc:Scope) (N:List Str) (ks:List (Str × Nat)) (hc:X.calm=true) (ho:X.env.scope=osc) (hN:X.N=N) (hi:RI X G (.Name x px) iter wi) (hk:∀cl C s₀ H₀ fp pins,RE (gq X sc cl C x ks s₀ H₀ fp pins) G kx tk) (he:∀cl C s₀ H₀ fp pins,RE (gq X sc cl C x ks s₀ H₀ fp pins) G vx te)
  (ok:cR sc osc N x ks:=by decide +kernel) (hs:∀x,foldedSetIterable iter X.env x=pure x:=by intro _;rfl):RE X G (.DictComp kx vx [⟨.Name x px,iter,[],0⟩] sc pos) (Pb wi ks BE tk te) :=
 ⟨kW (NX osc N ks hc ho hN hi.run (λcl C s₀ H₀ fp pins=>(hk cl C s₀ H₀ fp pins).run) (λcl C s₀ H₀ fp pins=>(he cl C s₀ H₀ fp pins).run) (λcl C s₀ H₀ fp pins=>Qs vJ λσ H Q ⟨τ,J,Q2,a2,q,k⟩=>k true J H a2.hp .refl q) ok hs) GK⟩
end
def An (tabs:List Addr):cx:=λxs J Q _=>∃ns:List Int,xs=[.fl (ns.map .int)]∧ns.length≤63∧(∀T∈tabs,J T=some .tab)∧(∀a,a ∉ tabs→J a=none)∧∀J',(∀T∈tabs,J' T=some .tab)→Q (.bl true) J'
def FK (tabs:List Addr) (K:PySem.W.Frag):Sp:=λvs H Q _=>∃(a:Addr) (ns:List Int),vs=[.ref a]∧cF K H a (ns.map V.int)∧ns.length≤63∧(∀T∈tabs,H T=some (.ext (dU T))) ∧
 (∀b,H b≠none→b=a∨b∈tabs)∧(∀u,H a=some u→∃o xs,u=.qp o (.lst xs))∧∀H',bA H H'→Q (.bl true) H'
theorem CC {P:Program} {w:World} {K:PySem.W.Frag} {mg:Str→Option Value} {base:Heap} {k:Nat} {f:Addr} {fd:FuncData} {ps:List Str} {tabs:List Addr} (F:aH P w K mg base (cQ P w) k f fd ps (dk K (An tabs))) :
  aH P w K mg base L2.pZ k f fd ps (FK tabs K) :=
 F.OX.imp λvs H Q E ⟨a,ns,e,hS,hl,hT,hA,hK,q⟩=>by
  subst e
  classical
  have na:∀u,H a=some u→a ∉ tabs:=λu hu hm=>by
   obtain ⟨o,xs,rfl⟩:=hK u hu
   rw [hT a hm] at hu;cases hu
  refine ⟨[.fl (ns.map .int)],λb=>if b∈tabs then some .tab else none,λx J'=>x=.bl true∧∀T∈tabs,J' T=some .tab,λ_ _=>False,⟨.ref a,[],rfl,⟨a,ns.map V.int,rfl,?_,oj ns⟩,rfl⟩,?_,⟨ns,rfl,hl,λT hT=>if_pos hT,λb hb=>if_neg hb,λJ' h=>⟨rfl,h⟩⟩,?_,?_⟩
  ·rcases hS with h | h
   ·refine .inl ⟨?_,h⟩
    have:a ∉ tabs:=by
     rcases h with h | ⟨o,h⟩
     ·exact na _ h
     ·exact na _ h
    exact if_neg this
   ·exact .inr h
  ·intro b o z
   by_cases hb:b∈tabs
   ·have z':=(if_pos hb).symm.trans z
    cases z'
    exact hT b hb
   ·have z':=(if_neg hb).symm.trans z
    cases z'
  ·rintro z J' u H' rz rr ee ⟨rfl,ht⟩
   cases rz
   refine q H' λb o hb=>?_
   rcases hA b (by rw [hb];simp) with rfl | hm
   ·obtain ⟨ob,xs,rfl⟩:=hK o hb
    exact (ee.ll b _ (if_neg (na _ hb)) hb (.inr ⟨_,_,rfl⟩)).2
   ·have:=hT b hm
    rw [hb] at this;cases this
    exact rr b _ (ht b hm)
  ·intro _ _ _ _ _ z;exact z.elim
end Ov
namespace L2
open PySem PySem.Spec PyProof.Rows
def PQ (k:Str):Value→Bool
 | .str y _=>y.cps.toList == k.cps.toList
 | _=>false
theorem Dl {ss:List Str} {us:List Value} (r:Vals (ss.map V.str) us):us.length=ss.length∧∀(j:Nat) (u:Value),us[j]?=some u→∃y t,ss[j]?=some y∧u=.str y t:=by
 induction ss generalizing us with
 | nil=>cases r;exact ⟨rfl,λj u e=>by simp at e⟩
 | cons y ss ih =>
  rw [Sx] at r
  cases r with
  | cons ru rr =>
   obtain ⟨t,rfl⟩:=ru
   obtain ⟨h1,h2⟩:=ih rr
   refine ⟨by simp [h1],λj u e=>?_⟩
   cases j with
   | zero=>cases e;exact ⟨y,t,rfl,rfl⟩
   | succ j=>exact h2 j u (by simpa using e)
theorem tX {α β:Type} (f:α→β):∀(l:List α) (j:Nat),(l.eraseIdx j).map f=(l.map f).eraseIdx j
 | [],_=>rfl
 | _ :: _,0=>rfl
 | x :: l,j + 1=>by simp only [Uy,Sx,tX f l j]
section
variable {X:Cx}
def Fv:V→List V→Hp→VK→Prop:=λx vs H Q=>∃(l:Addr) (ss:List Str) (k:Str) (j:Nat),x=.ref l∧vs=[.str k]∧H l=some (.lst (ss.map V.str))∧ss[j]?=some k∧(∀m:Nat,m < j→ss[m]?≠some k)∧Q .non (upd H l (.lst ((ss.eraseIdx j).map V.str)))
theorem zA:pF X "list.remove" Fv:=by
 intro pins s σ H x vs v us Q I rx rv h
 obtain ⟨l,ss,k,j,rfl,rfl,hH,hj,hno,q⟩:=h
 cases rx
 obtain ⟨u,rfl,ru⟩:=rv.one
 obtain ⟨t,rfl⟩:=ru
 obtain ⟨z,its,n,r,hl,e⟩:=I.G_ hH
 obtain ⟨h1,h2⟩:=Dl r
 obtain ⟨hjl,hje⟩:=Sq.mp hj
 have hz:ss.length≤sizeLine:=by simpa using z
 have at_:∀(m:Nat) (hm:m < its.toArray.size),PQ k its.toArray[m]=decide (ss[m]?=some k):=λm hm=>by
  obtain ⟨y,t',hy,hu⟩:=h2 m its[m] (So (by simpa using hm))
  show PQ k its[m]=_
  rw [hu,hy]
  show (y.cps.toList == k.cps.toList)=_
  by_cases hk:y=k
  ·subst hk;simp
  ·have:(y.cps.toList == k.cps.toList)=false:=by
    rw [beq_eq_false_iff_ne]
    intro z
    exact hk (by cases y;cases k;simp at z;rw [z])
   rw [this];symm;exact decide_eq_false λz=>hk (Option.some.inj z)
 refine call_meets PySem.F.slot_list_remove ⟨_,e,rfl⟩ PySem.F.entry_list_remove (PySem.F.args_list_remove_2 _ _)
  (MeetsSeq.list_remove l its.toArray n (.str k t) (PQ k) (λy hy=>?_) j (by simpa using (show j < its.length by omega)) ?_ (λm hm hlt=>?_) (by rw [Sv];omega)) ⟨e,?_⟩
 ·obtain ⟨m,hm⟩:=SN.mp (show y∈its by simpa using hy)
  obtain ⟨y',t',_,rfl⟩:=h2 m y hm
  exact SeqRoads2.EqGives.str _ _ _ _
 ·rw [at_];exact decide_eq_true hj
 ·rw [at_];exact decide_eq_false (hno m hlt)
 ·refine ⟨.non,_,I.G9 (its':=its.eraseIdx j) hH e (by rw [T7]) ?_ ?_,rfl,q⟩
  ·rw [tX];exact r.eraseIdx j
  ·rw [Sm];exact SM (List.length_eraseIdx_le _ _) hz
end
end L2
namespace Ov
open PySem PySem.Spec PyProof.Rows
open L2 (V HO Hp Inv Cx VK XK TE TT TA TS TG pG TI TO ju Ends wN Loc Gl Rd RelV Vals eO w6 bT pE sH pF jt R2 upd aE aL cF gr Sp rT It bA cT bI Passes o8 aD Meth Mk Binds aH b7 av c7 fN d_)
section
variable {X:Cx} {G:G2}
def LB:Dq:=λx xs J Q=>∃(a:Addr) (ss:List Str) (k:Str) (j:Nat),x=.ref a∧xs=[.str k]∧J a=some (.lst (ss.map .str))∧ss[j]?=some k∧(∀m:Nat,m < j→ss[m]?≠some k)∧Q (.int (j:Nat)) J
def Bz:Dq:=λx xs J Q=>∃(a:Addr) (ss:List Str) (k:Str) (j:Nat),x=.ref a∧xs=[.str k]∧J a=some (.lst (ss.map .str))∧ss[j]?=some k∧(∀m:Nat,m < j→ss[m]?≠some k)∧Q .non (put J a (.lst ((ss.eraseIdx j).map .str)))
theorem CL:Kb X "list" "list.remove" Bz:=⟨_,L2.zA,λJ H x xs v vs Q2 Q rx rs r ⟨a,ss,k,j,ex,exs,ja,hj,hno,q⟩ kn=>by
 subst ex exs;cases rx
 obtain ⟨w,us,rfl,rw',e⟩:=rs;cases e;cases rw'
 obtain ⟨ws,h1,h2⟩:=r _ _ ja
 cases iX h2
 exact ⟨a,ss,k,j,rfl,rfl,h1,hj,hno,kn .non _ _ _ rfl (r.wrote (ys:=(ss.eraseIdx j).map .str) ja h1 om) (.wrote ja h1) q⟩⟩
variable {a b c:Expr} {ta tb tc:cW} {pos:Pos}
def vR (q q':ml) (ta tb tc:cW):cW:=λτ J Q=>ta τ J λx J1=>tb τ J1 λy J2=>q x y J2 λz J3=>Jg z λk=>(if k=true then tc τ J3 λw J4=>q' y w J4 Q else Q (.bl false) J3)
theorem y_ {r r':R2} {q q':ml} (lr:LR X.K r q) (lr':LR X.K r' q'):∀σ H Q,LE X.K G (vR q q' ta tb tc) σ H Q→L2.F1 r r' (LE X.K G ta) (LE X.K G tb) (LE X.K G tc) σ H Q:=λσ H Q ⟨τ,J,Q2,a2,hh,k⟩=>⟨τ,J,_,a2,hh,λx J1 v H1 rx r1 e1 q1=>⟨τ,J1,_,a2.go r1 e1,q1,λy J2 w H2 ry r2 e2 q2 =>
  lr J2 H2 x y v w _ _ (e2.rep rx) ry r2 q2 λz J3 u H3 rz r3 e3 hz=>by
   obtain ⟨kk,ez,q3⟩:=n6 hz
   subst ez;cases rz
   refine ⟨kk,rfl,?_⟩
   cases kk with
   | false=>simp only [SJ,if_false] at q3 ⊢;exact k (.bl false) J3 _ H3 rfl r3 ((e1.trans e2).trans e3) q3
   | true =>
    simp only [if_true] at q3 ⊢
    exact ⟨τ,J3,_,((a2.go r1 e1).go r2 e2).go r3 e3,q3,λw2 J4 u4 H4 r4 rr4 e4 q4=>lr' J4 H4 y w2 w u4 Q2 Q ((e3.trans e4).rep ry) r4 rr4 q4 λz' J' u' H' rz' rr' ee' qq=>k z' J' u' H' rz' rr' ((((e1.trans e2).trans e3).trans e4).trans ee') qq⟩⟩⟩
theorem Fy {op op':CmpOp} {q q':ml} (ho:mj X (compareOp op) q) (ho':mj X (compareOp op') q') (ha:RE X G a ta) (hb:RE X G b tb) (hc:RE X G c tc) (hm:lastMarks [op,op'] [b,c]=false:=by with_unfolding_all rfl) :
  RE X G (.Compare a [op,op'] [b,c] pos) (vR q q' ta tb tc):=by
 obtain ⟨r,h,lr⟩:=ho
 obtain ⟨r',h',lr'⟩:=ho'
 exact ⟨kW (L2.Fb h h' ha.run hb.run hc.run hm) (y_ lr lr')⟩
end
end Ov
namespace L2
open PySem PySem.Spec PyProof.Rows
def Ri (K:PySem.W.Frag) (a:Addr):It :=
 ⟨λi H=>∃xs x,cF K H a xs∧xs[i]?=some x,
  λi H z H'=>∃T x,H T=none∧z=.ref T∧H'=upd H T (.tup [.int (i:Nat),x])∧(∀xs,cF K H a xs→xs[i]?=some x),
  λi H=>∃xs,cF K H a xs∧xs.length≤i⟩
theorem Di {P:Program} {w:World} {K:PySem.W.Frag} {elts:List Expr} {x1} {pos:Pos} {e it l:Addr} (ne:e≠it) :
  Turn P w K (.Tuple elts x1 pos) (Ri K l) [e,it] e (λi h=>(∃old,IsEnum h e it (i:Int) old)∧h.IsListIter it l i) where
 mem:=by simp
 obj:=λi h ⟨⟨old,he⟩,h1⟩ c hc=>by
  simp only [SH,SV,or_false] at hc
  rcases hc with rfl | rfl
  ·exact ⟨_,he,λv z=>by cases z⟩
  ·obtain ⟨o,e,c,d⟩:=h1;exact ⟨o,e,λv z=>by rw [d] at z;cases z⟩
 keep:=λi h h' ⟨⟨old,he⟩,h1⟩ k=>⟨⟨old,k e (by simp) _ he⟩,h1.at λo q=>k it (by simp) o q⟩
 item:=by
  intro X hP hw hK hc i pins s σ H E I hf st hg
  subst hP hw hK
  obtain ⟨⟨old,he⟩,h1⟩:=st
  obtain ⟨xs,x,hqx,hx⟩:=hg
  obtain ⟨its,rv,p,hzx⟩:=I.list hqx
  obtain ⟨u,hu,rx⟩:=rv.get hx
  refine wpAny_pyNext_enum_item he h1 p.isList (x:=u) (by simpa using hu) ne λh' a1 a3 a5 a6 hk=>?_
  refine ⟨_,rfl,wpAny_letOwnedTupleGo_enum a1 λh'' hz' hs'=>?_⟩
  have hT:H s.heap.objs.size=none:=I.hok.fresh (Ss _)
  have lt:∀{c o},s.heap.get? c=some o→c≠s.heap.objs.size:=λe=>SO (Heap.lt_size e)
  have I0:Inv X pins σ (upd H s.heap.objs.size (.tup [.int (i:Nat),x])) { s with heap:=s.heap.push { cls:=.type "tuple",data:=.seq #[.int i s.toks,u] },toks:=s.toks + 1 }:=I.laid (t':=s.toks + 1) (λb u e=>Heap.get?_push_of_some _ e) (Ss _) ⟨by simp [sizeLine],[.int i s.toks,u],.cons ⟨_,rfl⟩ (.cons rx .nil),⟨_,Heap.get?_push_size _ rfl,rfl,_,rfl⟩⟩
  have fpn:∀b∈[e,it],b≠s.heap.objs.size:=λb hb=>by
   simp only [SH,SV,or_false] at hb
   rcases hb with rfl | rfl
   ·exact lt he
   ·obtain ⟨o,e,_⟩:=h1;exact lt e
  have fpu:∀b∈[e,it],kP X pins (upd H s.heap.objs.size (.tup [.int (i:Nat),x])) b:=λb hb=>⟨by rw [aL (fpn b hb)];exact (hf b hb).1,(hf b hb).2⟩
  have I1:Inv X pins σ (upd H s.heap.objs.size (.tup [.int (i:Nat),x])) { s with heap:=h'',toks:=s.toks + 1 }:=Inv.pY (s:={ s with heap:=s.heap.push { cls:=.type "tuple",data:=.seq #[.int i s.toks,u] },toks:=s.toks + 1 }) (t':=s.toks + 1) (ch:=[e,it]) I0 (λb o hb eb=>by
   simp only [SH,SV,or_false,not_or] at hb
   rcases Heap.get?_push_cases eb with ⟨rfl,rfl⟩ | e'
   ·exact hs'.extBut _ _ hb.1 a5
   ·exact hs'.extBut _ _ hb.1 (hk b o hb.1 hb.2 e')) fpu
  refine ⟨.ref s.heap.objs.size,_,I1,rfl,⟨_,x,hT,rfl,rfl,λzs hq=>by rw [I.jE hq hqx];exact hx⟩,⟨⟨_,by rw [Int.natCast_add];exact hz'⟩,a3.extBut hs'.extBut (Ne.symm ne)⟩,λb hb=>(fpu b hb).1⟩
 done:=by
  intro X hP hw hK hc i pins s σ H E I hf st hg
  subst hP hw hK
  obtain ⟨⟨old,he⟩,h1⟩:=st
  obtain ⟨xs,hqx,hl⟩:=hg
  obtain ⟨its,rv,p,hzx⟩:=I.list hqx
  have e1:=rv.length
  refine wpAny_pyNext_enum_end (I.ok.hd hc) he h1 p.isList (by rw [List.getElem?_toArray,Us];omega) λh' hk=>⟨rfl,I.pY (t':=s.toks) (ch:=[e,it]) (λb o hb e=>?_) hf⟩
  simp only [SH,SV,or_false,not_or] at hb
  exact hk b o hb.2 e
 self:=λ_ _ _ _ _ st h=>let ⟨⟨_,he⟩,_⟩:=st;wpAny_pyIter_enum he h
def M' (K:PySem.W.Frag) (ta:TA):TI:=λσ H R=>ta σ H λvs H1=>∃a xs,vs=[.ref a]∧cF K H1 a xs∧R (Ri K a) H1
section
variable {X:Cx}
theorem HI {l:Expr} {elts:List Expr} {x1} {tp:Pos} {ta:TA} {p pos:Pos} (hg:Gl X "enumerate") (hm:X.mg "enumerate"=none) (ha:PA X [l] ta) (hs:starEach [l] X.env=(false,eval l X.env) :: starEach [] X.env:=by rfl) (hp:(backTo pos (starEach [] X.env)).any (·.1)=false:=by rfl):PI X (.Tuple elts x1 tp) (.Call (.Name "enumerate" p) [l] [] pos) (M' X.K ta):=by
 intro pins s σ H R I h
 refine Call_ (lI I hg hm PyProof.Rows.Boot.«enumerate» (PyProof.Rows.callWith_type1 (b9 (ha pos pins s σ H _ I h) λus s1 ⟨vs,H1,I1,r1,q1⟩=>?_) hs hp))
 obtain ⟨a,xs,e,hqa,q⟩:=q1
 subst e
 cases r1 with
 | cons r rr =>
  cases rr
  cases r
  obtain ⟨its,rv,pl,hz⟩:=I1.list hqa
  refine call_enumerate_list pl.isList ?_
  intro h' b1 b2 b6 hk
  refine wpAny_pyIter_enum b1 ?_
  have ne:s1.heap.objs.size + 1≠s1.heap.objs.size:=Nat.succ_ne_self _
  refine ⟨_,_,_,_,H1,rfl,I1.kept (t':=s1.toks) hk,Di ne,⟨⟨_,b1⟩,b2⟩,λc hc=>?_,q⟩
  have hc':s1.heap.objs.size≤c:=by
   simp only [SH,SV,or_false] at hc
   show @LE.le Nat _ _ _
   rcases hc with rfl | rfl
   ·exact TH _ _
   ·exact Ss _
  exact I1.D_ hc' (I1.hok.fresh hc')
end
end L2
namespace Ov
open PySem PySem.Spec PyProof.Rows
open L2 (V HO Hp Inv Cx VK XK TE TT TA TS TG pG TI TO ju Ends wN Loc Gl Rd RelV Vals eO w6 bT pE sH pF jt R2 upd aE aL cF gr Sp rT It bA cT bI Passes o8 aD Meth Mk Binds aH b7 av c7 fN d_)
def xm (xs:List PV):List PV:=(TJ xs.length).zipWith (λi x=>PV.tup [.int ((i:Nat):Int),x]) xs
theorem kr (xs:List PV):(xm xs).length=xs.length:=by unfold xm;simp
theorem tW (xs:List PV) (i:Nat) (x:PV) (h:xs[i]?=some x):(xm xs)[i]?=some (.tup [.int (i:Int),x]):=by
 unfold xm
 obtain ⟨hi,e⟩:=Sq.mp h
 rw [List.getElem?_zipWith,UT hi,h]
section
variable {X:Cx} {G:G2}
def Rv (ta:oJ):sL:=λτ J R=>ta τ J λvs J1=>Bh vs λx=>vo (jG J1 x) λxs=>R ⟨xm xs,λJ'=>jG J' x=some xs⟩ J1
theorem H_ {l:Expr} {elts:List Expr} {x1} {tp:Pos} {ta:oJ} {p pos:Pos} (hg:Gl X "enumerate") (hm:X.mg "enumerate"=none) (ha:RA X G [l] ta) (hs:starEach [l] X.env=(false,eval l X.env) :: starEach [] X.env:=by rfl) (hp:(backTo pos (starEach [] X.env)).any (·.1)=false:=by rfl) :
  RI X G (.Tuple elts x1 tp) (.Call (.Name "enumerate" p) [l] [] pos) (Rv ta):=⟨N0 (L2.HI hg hm ha.run hs hp) λσ H R ⟨τ,J,R2,a2,h,k⟩=>⟨τ,J,_,a2,h,λvs J1 us H1 rs r1 e1 hh=>by
 obtain ⟨x,ev,hh⟩:=iO hh;obtain ⟨xs,hx,q⟩:=dZ hh
 subst ev
 obtain ⟨v,us',rfl,rv,e'⟩:=rs
 cases e'
 obtain ⟨a,ws,rfl,h1,h2⟩:=nX hx rv r1
 refine ⟨a,ws,rfl,h1,k _ J1 _ H1 ?_ r1 e1 q⟩
 have at_:∀J' H',Ext X.K J1 H1 J' H'→Rep X.K J' H'→jG J' x=some xs→∃vs,cF X.K H' a vs∧aM X.K J' H' xs vs:=λJ' H' e r o=>by
  obtain ⟨c,vs,eb,g1,g2⟩:=nX o (e.rep rv) r
  cases eb
  exact ⟨vs,g1,g2⟩
 exact {
  go:=λJ' H' e r o i hi=>by
   obtain ⟨vs,s,rs⟩:=at_ J' H' e r o
   rw [kr] at hi
   exact ⟨vs,vs[i]'(by rw [← rs.length];exact hi),s,by simp⟩
  yl:=λJ' H' e r o i hi v H2 y=>by
   obtain ⟨vs,s,rs⟩:=at_ J' H' e r o
   obtain ⟨T,z,hT,rfl,rfl,y1⟩:=y
   obtain ⟨c,ec,rc⟩:=rs.get' (y1 vs s)
   have sm:=bA.new hT (.tup [.int (i:Nat),z])
   have e2:=Ext.same (K:=X.K) (J:=J') sm
   refine ⟨.tup [.int (i:Int),c],tW _ _ _ ec,⟨T,[.int (i:Nat),z],rfl,.inl (.inl aE),e2.iW ⟨.int (i:Nat),_,rfl,rfl,z,_,rfl,rc,rfl⟩⟩,r.same sm,e2⟩
  stop:=λJ' H' e r o=>by
   obtain ⟨vs,s,rs⟩:=at_ J' H' e r o
   exact ⟨vs,s,by rw [kr,← rs.length];exact Ss _⟩ }⟩⟩
end
section
variable {X:Cx} {pins:List (Addr × Obj)} {σ:L2.St} {H:Hp} {s:Shared}
open Classical in
def eT (K:PySem.W.Frag) (H:Hp) (zs:List Py) (y:Py) (u:Value):Bool:=decide (∃z∈zs,∃v,RelV v u∧At K H z v∧ku z y=true)
end
section
variable {X:Cx} {G:G2}
end
end Ov
namespace Ov
open PySem
structure aF where
 m:Rat
 h:Str
 f:Str
 deriving DecidableEq
def slt (a b:Str):Prop:=a.cps.toList < b.cps.toList
instance (a b:Str):Decidable (slt a b):=inferInstanceAs (Decidable (a.cps.toList < b.cps.toList))
def aF.lt (a b:aF):Bool:=if a.m=b.m then (if a.h=b.h then decide (slt a.f b.f) else decide (slt a.h b.h)) else decide (a.m < b.m)
theorem m_ (a:Str):¬ slt a a:=List.lt_irrefl _
theorem oB {a b c:Str} (h:slt a b) (k:slt b c):slt a c:=List.lt_trans h k
theorem EI:∀(a b:List Nat),a≠b→a < b∨b < a
 | [],[],h=>absurd rfl h
 | [],_ :: _,_=>.inl (U4 _ _)
 | _ :: _,[],_=>.inr (U4 _ _)
 | x :: a,y :: b,h=>by
  rcases UZ x y with z | z | z
  ·exact .inl (TM.mpr (.inl z))
  ·subst z
   rcases EI a b (λe=>h (by rw [e])) with q | q
   ·exact .inl (TM.mpr (.inr ⟨rfl,q⟩))
   ·exact .inr (TM.mpr (.inr ⟨rfl,q⟩))
  ·exact .inr (TM.mpr (.inl z))
theorem wo {a b:Str} (h:a≠b):slt a b∨slt b a:=by
 have ne:a.cps.toList≠b.cps.toList:=λe=>h (by cases a;cases b;simp at e;rw [e])
 exact EI _ _ ne
theorem L9 {a b:Str} (h:slt a b):a≠b:=λe=>by subst e;exact m_ _ h
theorem aF.lt_iff (a b:aF):a.lt b=true↔a.m < b.m∨(a.m=b.m∧(slt a.h b.h∨(a.h=b.h∧slt a.f b.f))):=by
 unfold aF.lt
 by_cases e:a.m=b.m
 ·rw [if_pos e]
  have n:¬ a.m < b.m:=by rw [e];exact Rat.lt_irrefl
  by_cases k:a.h=b.h
  ·rw [if_pos k]
   have n2:¬ slt a.h b.h:=λz=>L9 z k
   simp [e,k,n,n2]
   try (intro z;first | exact absurd z Rat.lt_irrefl | exact absurd z (m_ _))
  ·rw [if_neg k]
   simp [e,k]
   try (intro z;exact absurd z Rat.lt_irrefl)
 ·rw [if_neg e]
  simp [e]
theorem aF.KZ (a:aF):a.lt a=false:=by
 cases h:a.lt a with
 | false=>rfl
 | true =>
  rcases (aF.lt_iff a a).mp h with h | ⟨_,h | ⟨_,h⟩⟩
  ·exact absurd h Rat.lt_irrefl
  ·exact absurd h (m_ _)
  ·exact absurd h (m_ _)
theorem ug {a b c:Rat} (h:a < b) (k:b < c):a < c:=by grind
theorem aF.lt_trans {a b c:aF} (h:a.lt b=true) (k:b.lt c=true):a.lt c=true:=by
 rw [aF.lt_iff] at *
 rcases h with h | ⟨e,h⟩ <;> rcases k with k | ⟨e',k⟩
 ·exact .inl (ug h k)
 ·exact .inl (e' ▸ h)
 ·exact .inl (e ▸ k)
 ·refine .inr ⟨e.trans e',?_⟩
  rcases h with h | ⟨z,h⟩ <;> rcases k with k | ⟨z',k⟩
  ·exact .inl (oB h k)
  ·exact .inl (z' ▸ h)
  ·exact .inl (z ▸ k)
  ·exact .inr ⟨z.trans z',oB h k⟩
theorem aF.EE {a b:aF} (h:a≠b):a.lt b=true∨b.lt a=true:=by
 rw [aF.lt_iff,aF.lt_iff]
 by_cases e:a.m=b.m
 ·by_cases z:a.h=b.h
  ·have:a.f≠b.f:=λq=>h (by cases a;cases b;simp_all)
   rcases wo this with q | q
   ·exact .inl (.inr ⟨e,.inr ⟨z,q⟩⟩)
   ·exact .inr (.inr ⟨e.symm,.inr ⟨z.symm,q⟩⟩)
  ·rcases wo z with q | q
   ·exact .inl (.inr ⟨e,.inl q⟩)
   ·exact .inr (.inr ⟨e.symm,.inl q⟩)
 ·rcases (by grind:a.m < b.m∨b.m < a.m) with q | q
  ·exact .inl (.inl q)
  ·exact .inr (.inl q)
def ib (l:List aF):Prop:=l.Pairwise λa b=>a.lt b=true
def kQ (b:aF) (l:List aF):List aF:=l.filter (λx=>x.lt b) ++ b :: l.filter (λx=>!x.lt b)
def yi (h f:Str) (x:aF):Bool:=decide (x.h=h∧x.f=f)
def dt (h f:Str) (l:List aF):List aF:=l.filter λx=>!yi h f x
theorem tT {h f:Str} {l:List aF} (s:ib l):ib (dt h f l):=s.filter _
theorem xt {b:aF} {l:List aF} (s:ib l) (n:∀x∈l,x≠b):ib (kQ b l):=by
 unfold kQ ib
 rw [Ud]
 refine ⟨s.filter _,?_,?_⟩
 ·rw [T4]
  refine ⟨λy hy=>?_,s.filter _⟩
  rw [SE] at hy
  rcases aF.EE (n y hy.1) with q | q
  ·simp [q] at hy
  ·exact q
 ·intro x hx y hy
  rw [SE] at hx
  rcases SH.mp hy with rfl | hy
  ·exact hx.2
  ·rw [SE] at hy
   rcases aF.EE (n y hy.1) with q | q
   ·simp [q] at hy
   ·exact aF.lt_trans hx.2 q
theorem GP {h f:Str} {l:List aF} {m:Rat}:∀x∈dt h f l,x≠⟨m,h,f⟩:=λx hx e=>by
 subst e
 unfold dt at hx
 rw [SE] at hx
 simp [yi] at hx
theorem uc (p:aF→Bool):∀{l:List aF} {i:Nat},i≤l.length→(∀(j:Nat) x,j < i→l[j]?=some x→p x=true)→(∀(j:Nat) x,i≤j→l[j]?=some x→p x=false)→l.take i ++ l.drop i=l∧l.filter p=l.take i∧l.filter (λx=>!p x)=l.drop i
 | l,0,_,_,h=>by
  refine ⟨by simp,?_,?_⟩
  ·rw [List.take_zero]
   apply UE.mpr
   intro x hx
   obtain ⟨j,hj⟩:=SN.mp hx
   rw [h j x (SY _) hj];simp
  ·rw [T_]
   apply TB.mpr
   intro x hx
   obtain ⟨j,hj⟩:=SN.mp hx
   rw [h j x (SY _) hj];rfl
 | [],i + 1,hi,_,_=>by simp at hi
 | x :: l,i + 1,hi,h1,h2=>by
  obtain ⟨a,b,c⟩:=uc p (l:=l) (i:=i) (by simpa using hi) (λj y hj e=>h1 (j + 1) y (by omega) (by simpa using e)) (λj y hj e=>h2 (j + 1) y (by omega) (by simpa using e))
  have hx:p x=true:=h1 0 x (by omega) rfl
  refine ⟨by simp,?_,?_⟩
  ·rw [S2,hx];simp [b]
  ·rw [S2,hx];simp [c]
theorem G0 {b:aF} {l:List aF} {i:Nat} (hi:i≤l.length) (h1:∀(j:Nat) x,j < i→l[j]?=some x→x.lt b=true) (h2:∀(j:Nat) x,i≤j→l[j]?=some x→x.lt b=false):l.take i ++ b :: l.drop i=kQ b l:=by
 obtain ⟨_,e1,e2⟩:=uc (λx=>x.lt b) hi h1 h2
 unfold kQ
 rw [e1,e2]
theorem B2 {l:List aF} {b x y:aF} {i j:Nat} (s:ib l) (hx:l[i]?=some x) (hy:l[j]?=some y) (h:j≤i) (k:x.lt b=true):y.lt b=true:=by
 rcases Uo h with h | h
 ·obtain ⟨hi,ei⟩:=Sq.mp hx
  obtain ⟨hj,ej⟩:=Sq.mp hy
  have:=S_.mp s j i hj hi h
  rw [ei,ej] at this
  exact aF.lt_trans this k
 ·subst h;rw [hx] at hy;cases hy;exact k
theorem FV {l:List aF} {b x y:aF} {i j:Nat} (s:ib l) (hx:l[i]?=some x) (hy:l[j]?=some y) (h:i≤j) (k:x.lt b=false):y.lt b=false:=by
 cases q:y.lt b with
 | false=>rfl
 | true=>rw [B2 s hy hx h q] at k;cases k
theorem Eg {b x:aF} {l:List aF} (h:x∈kQ b l):x=b∨x∈l:=by
 unfold kQ at h
 rcases SD.mp h with h | h
 ·exact .inr (SE.mp h).1
 ·rcases SH.mp h with h | h
  ·exact .inl h
  ·exact .inr (SE.mp h).1
theorem mz (p:aF→Bool):∀l:List aF,(l.filter p).length + (l.filter λx=>!p x).length=l.length
 | []=>rfl
 | x :: l=>by
  have:=mz p l
  cases h:p x <;> simp [h] <;> omega
theorem xr (b:aF) (l:List aF):(kQ b l).length=l.length + 1:=by
 unfold kQ
 rw [SQ,SS]
 have:=mz (λx=>x.lt b) l
 omega
theorem nK (h f:Str) (l:List aF):(dt h f l).length≤l.length:=Tg _ _
structure aS where
 m:Rat
 p:Rat
 v:Int
 deriving DecidableEq
def aS.at (l:aS) (t:Rat):Rat:=l.p + (t - l.m) * l.v
def turned (rows:List aS) (t:Rat) (v:Int):List aS :=
 match rows.getLast? with
 | none=>[]
 | some l =>
  let rest:=if l.m=t then rows.dropLast else rows
  if rest.getLast?.map aS.v=some v then rest else rest ++ [⟨t,l.at t,v⟩]
theorem gJ (ls:List aS) (l:aS) (t:Rat) (v:Int):turned (ls ++ [l]) t v =
  if l.m=t then (if ls.getLast?.map aS.v=some v then ls else ls ++ [⟨t,l.at t,v⟩]) else (if l.v=v then ls ++ [l] else ls ++ [l] ++ [⟨t,l.at t,v⟩]):=by
 unfold turned
 simp only [S5,Ue]
 split
 ·rfl
 ·simp only [S5,UI,Option.some.injEq]
theorem ur {rows:List aS} {t:Rat} {v:Int} (h:rows≠[]):turned rows t v≠[]:=by
 obtain ⟨ls,l,rfl⟩:∃ls l,rows=ls ++ [l]:=⟨rows.dropLast,rows.getLast h,(Ta h).symm⟩
 rw [gJ]
 split
 ·split
  ·rename_i e
   intro z;subst z;cases e
  ·simp
 ·split <;> simp
theorem Au {rows:List aS} {t:Rat} {v:Int} {x:aS} (h:x∈turned rows t v):x∈rows∨∃l∈rows,x=⟨t,l.at t,v⟩:=by
 by_cases e:rows=[]
 ·subst e;cases h
 obtain ⟨ls,l,rfl⟩:∃ls l,rows=ls ++ [l]:=⟨rows.dropLast,rows.getLast e,(Ta e).symm⟩
 rw [gJ] at h
 have key:∀{y:List aS},(∀z∈y,z∈ls ++ [l])→x∈y ++ [⟨t,l.at t,v⟩]→x∈ls ++ [l]∨∃l'∈ls ++ [l],x=⟨t,l'.at t,v⟩:=λhy hx=>by
  rcases SD.mp hx with h | h
  ·exact .inl (hy _ h)
  ·exact .inr ⟨l,by simp,by simpa using h⟩
 split at h
 ·split at h
  ·exact .inl (SD.mpr (.inl h))
  ·exact key (λz hz=>SD.mpr (.inl hz)) h
 ·split at h
  ·exact .inl h
  ·exact key (λz hz=>hz) h
theorem l8 (rows:List aS) (t:Rat) (v:Int):(turned rows t v).length≤rows.length + 1:=by
 by_cases e:rows=[]
 ·subst e;simp [turned]
 obtain ⟨ls,l,rfl⟩:∃ls l,rows=ls ++ [l]:=⟨rows.dropLast,rows.getLast e,(Ta e).symm⟩
 rw [gJ]
 split <;> split <;> simp <;> omega
def xB (rows:List aS) (t:Rat):Option aS:=(rows.filter λl=>decide (l.m≤t)).getLast?
def lb (ms:List Rat) (t:Rat):Nat→Nat
 | 0=>0
 | k + 1=>if ms.getD k 0≤t then k + 1 else lb ms t k
theorem I8 (ms:List Rat) (t:Rat):∀k,lb ms t k≤k
 | 0=>Ss _
 | k + 1=>by unfold lb;split;exact Ss _;exact Nat.le_succ_of_le (I8 ms t k)
theorem Et {ms:List Rat} {t:Rat} {j:Nat} (h:ms.getD j 0≤t):∀{k},j < k→0 < lb ms t k
 | 0,hk=>absurd hk (Uh _)
 | k + 1,hk=>by
  unfold lb
  split
  ·exact Nat.succ_pos _
  ·rename_i c
   exact Et h (by rcases Nat.lt_succ_iff_lt_or_eq.mp hk with e | e;exact e;subst e;exact absurd h c)
theorem Bc (t:Rat) (rows:List aS):∀k,k≤rows.length→((rows.take k).filter λl=>decide (l.m≤t)).getLast?=if lb (rows.map aS.m) t k=0 then none else rows[lb (rows.map aS.m) t k - 1]?
 | 0,_=>rfl
 | k + 1,hk=>by
  have hk':k < rows.length:=by omega
  have e:rows.take (k + 1)=rows.take k ++ [rows[k]]:=by rw [S4,So hk'];rfl
  have em:(rows.map aS.m).getD k 0=rows[k].m:=by simp [Vw,hk']
  rw [e,T2]
  unfold lb
  rw [em]
  by_cases c:rows[k].m≤t
  ·rw [if_pos c,S2,if_pos (decide_eq_true c),UJ,S5,if_neg (Nat.succ_ne_zero _),Nat.add_sub_cancel,So hk']
  ·rw [if_neg c,S2,if_neg (by simp [c]),UJ,Tb]
   exact Bc t rows k (by omega)
theorem Ez (rows:List aS) (t:Rat):xB rows t=if lb (rows.map aS.m) t rows.length=0 then none else rows[lb (rows.map aS.m) t rows.length - 1]?:=by
 have:=Bc t rows rows.length (Ss _)
 rw [S3] at this
 exact this
def O4 (g:Option Rat) (t:Rat):Bool:=match g with | none=>true | some q=>decide (t < q)
def there (rows:List aS) (g:Option Rat) (t:Rat):Bool :=
 match rows.head? with
 | none=>false
 | some l=>!decide (t < l.m) && O4 g t
theorem F7 {rows:List aS} {g:Option Rat} {t:Rat} (h:there rows g t=true):∃l,xB rows t=some l∧l∈rows∧l.m≤t∧0 < lb (rows.map aS.m) t rows.length∧rows[lb (rows.map aS.m) t rows.length - 1]?=some l:=by
 cases rows with
 | nil=>cases h
 | cons l0 ls =>
  have h0:l0.m≤t:=by
   unfold there at h
   simp only [UL,SX,UY,decide_eq_false_iff_not] at h
   exact Rat.not_lt.mp h.1
  have hp:0 < lb ((l0 :: ls).map aS.m) t (l0 :: ls).length:=Et (j:=0) (by simpa using h0) (by simp)
  have hle:=I8 ((l0 :: ls).map aS.m) t (l0 :: ls).length
  have hx:=Ez (l0 :: ls) t
  rw [if_neg (by omega)] at hx
  obtain ⟨l,hl⟩:∃l,(l0 :: ls)[lb ((l0 :: ls).map aS.m) t (l0 :: ls).length - 1]?=some l:=⟨_,So (by omega)⟩
  rw [hl] at hx
  have hm:=List.mem_of_getLast? hx
  rw [SE] at hm
  exact ⟨l,hx,hm.1,of_decide_eq_true hm.2,hp,hl⟩
def Sc (D A:Nat) (q:Rat):Prop:=∃a:Int,q * (D:Rat)=(a:Rat)∧a.natAbs≤A
theorem Sc.mono {D A B:Nat} {q:Rat} (h:Sc D A q) (k:A≤B):Sc D B q:=let ⟨a,e,l⟩:=h;⟨a,e,SM l k⟩
theorem NF {D:Nat} (h:0 < D):(D:Rat)≠0:=by
 intro e
 have:D=0:=by exact_mod_cast e
 omega
theorem Sc.sz {D A n:Nat} {q:Rat} (h:Sc D A q) (hD:0 < D) (h1:D < 2 ^ n) (h2:A < 2 ^ n):Sz n q:=by
 obtain ⟨a,e,l⟩:=h
 have nz:=NF hD
 have:q=Rat.divInt a (D:Int):=by
  rw [Rat.divInt_eq_div,← e]
  have:((D:Int):Rat)=(D:Rat):=rfl
  rw [this]
  generalize (D:Rat)=d at nz ⊢
  grind
 rw [this]
 exact Sz.div ⟨Th l h2⟩ ⟨by simpa using h1⟩ (by omega)
theorem Sc.scale {D A E:Nat} {p:Rat} (h:Sc D A p):Sc (E * D) (E * A) p:=by
 obtain ⟨a,e,l⟩:=h
 refine ⟨E * a,?_,?_⟩
 ·rw [Rat.intCast_mul,← e]
  have h1:((E * D:Nat):Rat)=(E:Rat) * (D:Rat):=Rat.natCast_mul ..
  have h2:((E:Int):Rat)=(E:Rat):=rfl
  rw [h1,h2]
  grind
 ·rw [Int.natAbs_mul];exact Nat.mul_le_mul (by simp) l
theorem Sc.K3 {D A:Nat} {t:Int} {b:Nat} (hb:0 < b) (hd:b ∣ D) (hA:t.natAbs * (D / b)≤A):Sc D A (Rat.divInt t b):=by
 obtain ⟨c,rfl⟩:=hd
 rw [UA _ hb] at hA
 refine ⟨t * c,?_,by rw [Int.natAbs_mul];simpa using hA⟩
 have nb:=NF hb
 have e1:((b:Int):Rat)=(b:Rat):=rfl
 have e2:((c:Int):Rat)=(c:Rat):=rfl
 rw [Rat.divInt_eq_div,Rat.intCast_mul,e1,e2,Rat.natCast_mul]
 generalize (b:Rat)=b at nb ⊢
 grind
def gK:Nat:=9690712164777231700912800
theorem Rz:∀b:Nat,1≤b→b≤60→b ∣ gK:=by
 intro b h1 h2
 have:∀b:Fin 61,1≤b.val→b.val ∣ gK:=by decide
 exact this ⟨b,by omega⟩ h1
theorem uU:0 < gK:=by decide
def MM:Nat:=2097152 * gK
structure R4 (D k:Nat) (l:aS):Prop where
 m:Sc gK MM l.m
 p:Sc (D * gK) (gK * 2 ^ 101 + k * (2000 * (D * MM))) l.p
 v:l.v.natAbs≤1000
theorem ND:MM < 2 ^ 106:=by decide
theorem Be {q:Rat} (h:Sc gK MM q):Sz 106 q:=h.sz uU (by decide) ND
structure Gd (D k:Nat) (rows:List aS):Prop where
 ne:rows≠[]
 ok:∀l∈rows,R4 D k l
 len:rows.length≤k + 1
def Later (c q:Rat):Prop:=q=c∨∃u s:Nat,1≤u∧u≤60∧1≤s∧s≤500 * u∧q=Rat.divInt ((c.num * u).fdiv c.den + s) u
theorem Later.sc {c q:Rat} {A:Nat} (h:Later c q) (k:Sc gK A c):Sc gK (A + 501 * gK) q:=by
 rcases h with rfl | ⟨u,s,h1,h2,h3,h4,rfl⟩
 ·exact k.mono (TH _ _)
 obtain ⟨a,e,l⟩:=k
 obtain ⟨w,hw⟩:=Rz u h1 h2
 refine Sc.K3 (by omega) ⟨w,hw⟩ ?_
 have ew:gK / u=w:=by rw [hw,UA _ (by omega)]
 rw [ew]
 have hf:((c.num * u).fdiv c.den) * c.den≤c.num * u∧c.num * u < ((c.num * u).fdiv c.den + 1) * c.den:=by
  rw [Int.fdiv_eq_ediv_of_nonneg _ (by omega)]
  have:=lH c
  constructor
  ·exact Int.ediv_mul_le _ (by omega)
  ·have:=Int.lt_ediv_add_one_mul_self (c.num * u) this;exact this
 have ea:c.num * (gK:Int)=a * c.den:=by
  have h1:=cast_eq c
  have h2:=jw c
  have h3:((gK:Nat):Rat)=(((gK:Nat):Int):Rat):=rfl
  have:((c.num * (gK:Int):Int):Rat)=((a * c.den:Int):Rat):=by
   rw [Rat.intCast_mul,Rat.intCast_mul,h1,← e,h3]
   grind
  exact_mod_cast this
 have hL:(gK:Int)=u * w:=by rw [hw];simp
 have hw0:0 < w:=by
  rcases Nat.eq_zero_or_pos w with z | z
  ·rw [z,Nat.mul_zero] at hw;exact absurd hw (by decide)
  ·exact z
 rw [hL] at ea
 have hd:=lH c
 generalize hF:(c.num * u).fdiv c.den=F at hf ⊢
 generalize hN:c.num=N at *
 generalize hDD:(c.den:Int)=d at *
 have g1:F * w≤a:=by
  have:F * w * d≤a * d:=by
   rw [← ea]
   have:=Int.mul_le_mul_of_nonneg_right hf.1 (show (0:Int)≤w by omega)
   calc F * w * d=F * d * w:=by rw [Int.mul_right_comm]
    _≤N * u * w:=this
    _=N * (u * w):=Int.mul_assoc ..
  exact Int.le_of_mul_le_mul_right this hd
 have g2:a≤(F + 1) * w:=by
  have:a * d≤(F + 1) * w * d:=by
   rw [← ea]
   have:=Int.mul_le_mul_of_nonneg_right (Int.le_of_lt hf.2) (show (0:Int)≤w by omega)
   calc N * (u * w)=N * u * w:=(Int.mul_assoc ..).symm
    _≤(F + 1) * d * w:=this
    _=(F + 1) * w * d:=by rw [Int.mul_right_comm]
  exact Int.le_of_mul_le_mul_right this hd
 have hsw:s * w≤500 * (u * w):=by
  calc s * w≤500 * u * w:=Nat.mul_le_mul_right _ h4
   _=500 * (u * w):=Nat.mul_assoc ..
 have huw:w≤u * w:=Nat.le_mul_of_pos_left _ (by omega)
 rw [hw]
 have:(F + s).natAbs * w=((F + s) * w).natAbs:=by rw [Int.natAbs_mul];simp
 rw [this,Int.add_mul]
 rw [Int.add_mul,Int.one_mul] at g2
 have hsw':(s:Int) * w≤500 * ((u * w:Nat):Int):=by exact_mod_cast hsw
 generalize F * (w:Int)=x at *
 have hs0:(0:Int)≤(s:Int) * w:=Int.mul_nonneg (by omega) (by omega)
 generalize (s:Int) * w=y at *
 generalize u * w=z at *
 omega
theorem Later.le {c q:Rat} (h:Later c q):c≤q:=by
 rcases h with rfl | ⟨u,s,h1,h2,h3,h4,rfl⟩
 ·exact Rat.le_refl
 have hf:c.num * u < ((c.num * u).fdiv c.den + 1) * c.den:=by
  rw [Int.fdiv_eq_ediv_of_nonneg _ (by omega)]
  exact Int.lt_ediv_add_one_mul_self (c.num * u) (lH c)
 generalize (c.num * u).fdiv c.den=F at hf ⊢
 have h5:c.num * u≤(F + s) * c.den:=by
  have:(F + 1) * c.den≤(F + s) * c.den:=Int.mul_le_mul_of_nonneg_right (by omega) (by omega)
  omega
 have hu:(0:Rat) < (u:Rat):=by exact_mod_cast (show 0 < u by omega)
 have hd:(0:Rat) < ((c.den:Int):Rat):=by exact_mod_cast lH c
 refine Rat.not_lt.mp λhlt=>?_
 rw [Rat.divInt_eq_div] at hlt
 have e1:((u:Int):Rat)=(u:Rat):=rfl
 rw [e1,Rat.div_lt_iff hu] at hlt
 have h6:=Rat.mul_lt_mul_of_pos_right hlt hd
 have e2:c * (u:Rat) * ((c.den:Int):Rat)=((c.num * u:Int):Rat):=by
  rw [Rat.intCast_mul,cast_eq c,e1];grind
 rw [e2,← Rat.intCast_mul] at h6
 have h7:(F + s) * c.den < c.num * u:=by exact_mod_cast h6
 omega
section
variable {α:Type} {lt:α→α→Bool}
def qx (lt:α→α→Bool) (b:α) (l:List α):List α:=l.filter (λx=>lt x b) ++ b :: l.filter (λx=>!lt x b)
def sI (lt:α→α→Bool) (l:List α):Prop:=l.Pairwise λa b=>lt a b=true
theorem E9 (p:α→Bool):∀{l:List α} {i:Nat},i≤l.length→(∀(j:Nat) x,j < i→l[j]?=some x→p x=true)→(∀(j:Nat) x,i≤j→l[j]?=some x→p x=false)→l.filter p=l.take i∧l.filter (λx=>!p x)=l.drop i
 | l,0,_,_,h=>by
  refine ⟨?_,?_⟩
  ·rw [List.take_zero]
   apply UE.mpr
   intro x hx
   obtain ⟨j,hj⟩:=SN.mp hx
   rw [h j x (SY _) hj];simp
  ·rw [T_]
   apply TB.mpr
   intro x hx
   obtain ⟨j,hj⟩:=SN.mp hx
   rw [h j x (SY _) hj];rfl
 | [],i + 1,hi,_,_=>by simp at hi
 | x :: l,i + 1,hi,h1,h2=>by
  obtain ⟨b,c⟩:=E9 p (l:=l) (i:=i) (by simpa using hi) (λj y hj e=>h1 (j + 1) y (by omega) (by simpa using e)) (λj y hj e=>h2 (j + 1) y (by omega) (by simpa using e))
  have hx:p x=true:=h1 0 x (by omega) rfl
  refine ⟨?_,?_⟩
  ·rw [S2,hx];simp [b]
  ·rw [S2,hx];simp [c]
theorem G1 {b:α} {l:List α} {i:Nat} (hi:i≤l.length) (h1:∀(j:Nat) x,j < i→l[j]?=some x→lt x b=true) (h2:∀(j:Nat) x,i≤j→l[j]?=some x→lt x b=false):l.take i ++ b :: l.drop i=qx lt b l:=by
 obtain ⟨e1,e2⟩:=E9 (λx=>lt x b) hi h1 h2
 unfold qx
 rw [e1,e2]
theorem xu {b x:α} {l:List α}:x∈qx lt b l↔x=b∨x∈l:=by
 unfold qx
 rw [SD,SH,SE,SE]
 constructor
 ·rintro (h | h | h)
  ·exact .inr h.1
  ·exact .inl h
  ·exact .inr h.1
 ·rintro (h | h)
  ·exact .inr (.inl h)
  ·cases e:lt x b
   ·exact .inr (.inr ⟨h,by simp⟩)
   ·exact .inl ⟨h,rfl⟩
theorem Eh (b:α) (l:List α):(qx lt b l).length=l.length + 1:=by
 unfold qx
 rw [SQ,SS]
 have:∀l:List α,(l.filter λx=>lt x b).length + (l.filter λx=>!lt x b).length=l.length:=by
  intro l
  induction l with
  | nil=>rfl
  | cons x l ih=>cases h:lt x b <;> simp [h] <;> omega
 have:=this l
 omega
theorem Ei (tr:∀{a b c},lt a b=true→lt b c=true→lt a c=true) {b:α} {l:List α} (s:sI lt l) (OM:∀x∈l,lt x b=true∨lt b x=true):sI lt (qx lt b l):=by
 unfold qx sI
 rw [Ud]
 refine ⟨s.filter _,?_,?_⟩
 ·rw [T4]
  refine ⟨λy hy=>?_,s.filter _⟩
  rw [SE] at hy
  rcases OM y hy.1 with q | q
  ·simp [q] at hy
  ·exact q
 ·intro x hx y hy
  rw [SE] at hx
  rcases SH.mp hy with rfl | hy
  ·exact hx.2
  ·rw [SE] at hy
   rcases OM y hy.1 with q | q
   ·simp [q] at hy
   ·exact tr hx.2 q
theorem FU (tr:∀{a b c},lt a b=true→lt b c=true→lt a c=true) {l:List α} {b x y:α} {i j:Nat} (s:sI lt l) (hx:l[i]?=some x) (hy:l[j]?=some y) (h:j≤i) (k:lt x b=true):lt y b=true:=by
 rcases Uo h with h | h
 ·obtain ⟨hi,ei⟩:=Sq.mp hx
  obtain ⟨hj,ej⟩:=Sq.mp hy
  have:=S_.mp s j i hj hi h
  rw [ei,ej] at this
  exact tr this k
 ·subst h;rw [hx] at hy;cases hy;exact k
theorem ni (Gf:∀a,lt a a=false) (tr:∀{a b c},lt a b=true→lt b c=true→lt a c=true):∀{l k:List α},sI lt l→sI lt k→(∀x,x∈l↔x∈k)→l=k
 | [],[],_,_,_=>rfl
 | [],y :: k,_,_,h=>by have:=(h y).mpr S8;cases this
 | x :: l,[],_,_,h=>by have:=(h x).mp S8;cases this
 | x :: l,y :: k,hl,hk,h=>by
  obtain ⟨a1,a2⟩:=T4.mp hl
  obtain ⟨b1,b2⟩:=T4.mp hk
  have exy:x=y:=by
   rcases SH.mp ((h x).mp S8) with e | e
   ·exact e
   ·rcases SH.mp ((h y).mpr S8) with e' | e'
    ·exact e'.symm
    ·have:=tr (a1 y e') (b1 x e)
     rw [Gf] at this;cases this
  subst exy
  rw [ni Gf tr a2 b2 λz=>?_]
  constructor
  ·intro hz
   rcases SH.mp ((h z).mp (SU _ hz)) with e | e
   ·have:=a1 z hz;rw [e,Gf] at this;cases this
   ·exact e
  ·intro hz
   rcases SH.mp ((h z).mpr (SU _ hz)) with e | e
   ·have:=b1 z hz;rw [e,Gf] at this;cases this
   ·exact e
end
structure Ky where
 p:Rat
 v:Int
 n:Str
 deriving DecidableEq
def Ky.lt (a b:Ky):Bool:=if a.p=b.p then (if a.v=b.v then decide (slt a.n b.n) else decide (a.v < b.v)) else decide (a.p < b.p)
theorem Ky.lt_iff (a b:Ky):a.lt b=true↔a.p < b.p∨(a.p=b.p∧(a.v < b.v∨(a.v=b.v∧slt a.n b.n))):=by
 unfold Ky.lt
 by_cases e:a.p=b.p
 ·rw [if_pos e]
  have n:¬ a.p < b.p:=by rw [e];exact Rat.lt_irrefl
  by_cases k:a.v=b.v
  ·rw [if_pos k,decide_eq_true_eq]
   have n2:¬ a.v < b.v:=by omega
   exact ⟨λh=>.inr ⟨e,.inr ⟨k,h⟩⟩,λh=>by
    rcases h with h | ⟨_,h | h⟩
    ·exact absurd h n
    ·exact absurd h n2
    ·exact h.2⟩
  ·rw [if_neg k,decide_eq_true_eq]
   exact ⟨λh=>.inr ⟨e,.inl h⟩,λh=>by
    rcases h with h | ⟨_,h | h⟩
    ·exact absurd h n
    ·exact h
    ·exact absurd h.1 k⟩
 ·rw [if_neg e,decide_eq_true_eq]
  exact ⟨.inl,λh=>by
   rcases h with h | h
   ·exact h
   ·exact absurd h.1 e⟩
theorem Ky.Gf (a:Ky):a.lt a=false:=by
 cases h:a.lt a with
 | false=>rfl
 | true =>
  rcases (Ky.lt_iff a a).mp h with h | ⟨_,h | ⟨_,h⟩⟩
  ·exact absurd h Rat.lt_irrefl
  ·omega
  ·exact absurd h (m_ _)
theorem Ky.tr {a b c:Ky} (h:a.lt b=true) (k:b.lt c=true):a.lt c=true:=by
 rw [Ky.lt_iff] at *
 rcases h with h | ⟨e,h⟩ <;> rcases k with k | ⟨e',k⟩
 ·exact .inl (ug h k)
 ·exact .inl (e' ▸ h)
 ·exact .inl (e ▸ k)
 ·refine .inr ⟨e.trans e',?_⟩
  rcases h with h | ⟨z,h⟩ <;> rcases k with k | ⟨z',k⟩
  ·exact .inl (by omega)
  ·exact .inl (by omega)
  ·exact .inl (by omega)
  ·exact .inr ⟨z.trans z',oB h k⟩
theorem Ky.OM {a b:Ky} (h:a.n≠b.n):a.lt b=true∨b.lt a=true:=by
 rw [Ky.lt_iff,Ky.lt_iff]
 by_cases e:a.p=b.p
 ·by_cases z:a.v=b.v
  ·rcases wo h with q | q
   ·exact .inl (.inr ⟨e,.inr ⟨z,q⟩⟩)
   ·exact .inr (.inr ⟨e.symm,.inr ⟨z.symm,q⟩⟩)
  ·rcases (by omega:a.v < b.v∨b.v < a.v) with q | q
   ·exact .inl (.inr ⟨e,.inl q⟩)
   ·exact .inr (.inr ⟨e.symm,.inl q⟩)
 ·rcases (by grind:a.p < b.p∨b.p < a.p) with q | q
  ·exact .inl (.inl q)
  ·exact .inr (.inl q)
theorem Ky.MT {a b:Ky} (h:a.lt b=true):b.lt a=false:=by
 cases k:b.lt a with
 | false=>rfl
 | true=>have:=Ky.tr h k;rw [Ky.Gf] at this;cases this
def cD (ks:List Ky):List Ky:=ks.foldl (λacc x=>qx Ky.lt x acc) []
theorem kB (ks:List Ky) (x:Ky):cD (ks ++ [x])=qx Ky.lt x (cD ks):=by unfold cD;rw [Uw];rfl
theorem snoc_ind {α:Type} {p:List α→Prop} (h0:p []) (h1:∀l x,p l→p (l ++ [x])) (l:List α):p l:=by
 have:∀l:List α,p l.reverse:=by
  intro l
  induction l with
  | nil=>exact h0
  | cons x l ih=>rw [Uu];exact h1 _ _ ih
 have:=this l.reverse
 rwa [List.reverse_reverse] at this
theorem fW {α:Type} {l:List α} {x:α} (h:(l ++ [x]).Nodup):l.Nodup∧x ∉ l:=by
 rw [Tj] at h
 exact ⟨h.1,λhm=>h.2.2 x hm x (by simp) rfl⟩
theorem bF:∀(ks:List Ky) (x:Ky),x∈cD ks↔x∈ks:=by
 intro ks
 refine snoc_ind (p:=λks=>∀x:Ky,x∈cD ks↔x∈ks) (λx=>by simp [cD]) (λks y ih x=>?_) ks
 rw [kB,xu,ih,SD,SG]
 exact Or.comm
theorem dw {ks:List Ky} (h:(ks.map Ky.n).Nodup):sI Ky.lt (cD ks):=by
 revert h
 refine snoc_ind (p:=λks=>(ks.map Ky.n).Nodup→sI Ky.lt (cD ks)) (λ_=>List.Pairwise.nil) (λks y ih h=>?_) ks
 ·rw [Sw,Sx,Ts] at h
  obtain ⟨h1,h2⟩:=fW h
  rw [kB]
  refine Ei (lt:=Ky.lt) Ky.tr (ih h1) λx hx=>Ky.OM λe=>h2 ?_
  rw [← e]
  exact Uj ((bF ks x).mp hx)
theorem qM (ks:List Ky):(cD ks).length=ks.length:=by
 refine snoc_ind (p:=λks=>(cD ks).length=ks.length) rfl (λks y ih=>?_) ks
 rw [kB,Eh,ih,SQ];rfl
theorem E5 {ks js:List Ky} (h:(ks.map Ky.n).Nodup) (k:(js.map Ky.n).Nodup) (e:∀x,x∈ks↔x∈js):cD ks=cD js :=
 ni (lt:=Ky.lt) Ky.Gf Ky.tr (dw h) (dw k) λx=>by rw [bF,bF];exact e x
def key (t:Rat) (x:Str × aS):Ky:=⟨x.2.at t,x.2.v,x.1⟩
def cg (t:Rat) (fs:List (Str × aS)):List Str:=(cD (fs.map (key t))).map Ky.n
theorem dR (t:Rat) (fs:List (Str × aS)):(fs.map (key t)).map Ky.n=fs.map (·.1):=by rw [Sy];rfl
theorem x4 {t:Rat} {fs:List (Str × aS)} {n:Str}:n∈cg t fs↔n∈fs.map (·.1):=by
 rw [← dR t fs]
 unfold cg
 rw [Sn,Sn]
 exact ⟨λ⟨x,h,e⟩=>⟨x,(bF _ _).mp h,e⟩,λ⟨x,h,e⟩=>⟨x,(bF _ _).mpr h,e⟩⟩
theorem xZ (t:Rat) (fs:List (Str × aS)):(cg t fs).length=fs.length:=by unfold cg;rw [Sm,qM,Sm]
theorem oF {l:List Ky} (s:sI Ky.lt l) (h:∀x∈l,∀y∈l,x.n=y.n→x=y):(l.map Ky.n).Nodup:=by
 refine List.pairwise_map.mpr (s.imp_of_mem λ{a b} ha hb hab e=>?_)
 have:=h a ha b hb e
 subst this
 rw [Ky.Gf] at hab;cases hab
theorem jP {ks:List Ky} (h:(ks.map Ky.n).Nodup):∀x∈ks,∀y∈ks,x.n=y.n→x=y:=by
 intro x hx y hy e
 obtain ⟨i,hi,rfl⟩:=S6 hx
 obtain ⟨j,hj,rfl⟩:=S6 hy
 have:=(TC (xs:=ks.map Ky.n) (i:=i) (j:=j) (h₀:=by simpa using hi) (h₁:=by simpa using hj) h).mp (by rw [Ti,Ti];exact e)
 subst this;rfl
theorem qN {t:Rat} {fs:List (Str × aS)} (h:(fs.map (·.1)).Nodup):(cg t fs).Nodup:=by
 rw [← dR t fs] at h
 exact oF (dw h) λx hx y hy e=>jP h x ((bF _ _).mp hx) y ((bF _ _).mp hy) e
theorem E6 {t:Rat} {fs gs:List (Str × aS)} (h:(fs.map (·.1)).Nodup) (k:(gs.map (·.1)).Nodup) (e:∀x,x∈fs.map (key t)↔x∈gs.map (key t)):cg t fs=cg t gs:=by
 unfold cg
 rw [E5 (by rw [dR];exact h) (by rw [dR];exact k) e]
theorem oI {α β:Type} {fs:List (Str × α)} {f:α→β} (h:(fs.map (·.1)).Nodup) {n:Str} {l:α} (hm:(n,l)∈fs):L2.nv (fs.map λx=>(x.1,f x.2)) n=some (f l):=by
 induction fs with
 | nil=>cases hm
 | cons x fs ih =>
  rw [Sx,Tx] at h
  rw [Sx,L2.nA]
  rcases SH.mp hm with e | e
  ·subst e;rw [if_pos rfl]
  ·have ne:x.1≠n:=λz=>h.1 (by rw [z];exact Uj (f:=λx:Str × α=>x.1) e)
   rw [if_neg ne];exact ih h.2 e
theorem wL {α β:Type} {fs:List (Str × α)} {f:α→β} (h:(fs.map (·.1)).Nodup) {n:Str} (hm:n∈fs.map (·.1)):∃l,(n,l)∈fs∧L2.nv (fs.map λx=>(x.1,f x.2)) n=some (f l):=by
 obtain ⟨⟨m,l⟩,hx,rfl⟩:=Sn.mp hm
 exact ⟨l,hx,oI h hx⟩
theorem IH {α β:Type} {fs:List (Str × α)} {f:α→β} {n:Str} (hm:n ∉ fs.map (·.1)):L2.nv (fs.map λx=>(x.1,f x.2)) n=none:=by
 induction fs with
 | nil=>rfl
 | cons x fs ih =>
  rw [Sx,L2.nA]
  rw [Sx,SH,not_or] at hm
  rw [if_neg (λe=>hm.1 e.symm)];exact ih hm.2
theorem Dk {α β:Type} {fs:List (Str × α)} {f:α→β} {n:Str} (h:(fs.map (·.1)).Nodup):(L2.nv (fs.map λx=>(x.1,f x.2)) n).isSome=decide (n∈fs.map (·.1)):=by
 by_cases hm:n∈fs.map (·.1)
 ·obtain ⟨l,_,e⟩:=wL (f:=f) h hm
  rw [e,decide_eq_true hm];rfl
 ·rw [IH hm,decide_eq_false hm];rfl
theorem zU {α β:Type} {fs:List (Str × α)} {f:α→β} {n:Str} {l:α} (hm:n ∉ fs.map (·.1)):L2.rW (fs.map λx=>(x.1,f x.2)) n (f l)=(fs ++ [(n,l)]).map λx=>(x.1,f x.2):=by
 unfold L2.rW
 rw [if_neg,Sw]
 ·rfl
 ·intro h
  rw [UB] at h
  obtain ⟨y,hy,e⟩:=h
  obtain ⟨x,hx,rfl⟩:=Sn.mp hy
  exact hm (by rw [← of_decide_eq_true e];exact Uj (f:=λx:Str × α=>x.1) hx)
def PP:Nat:=1000000 * gK + 1000 * MM
structure rY (l:aS):Prop where
 m0:0≤l.m
 m:Sc gK MM l.m
 p:∃a:Int,l.p * (gK:Rat)=(a:Rat)
 b0:-(1000000 + 1000 * l.m)≤l.p
 b1:l.p≤1000000 + 1000 * l.m
 v:l.v.natAbs≤1000
theorem Ng:(0:Rat) < (gK:Rat):=by
 have:((0:Nat):Rat) < ((gK:Nat):Rat):=Rat.natCast_lt_natCast.mpr uU
 simpa using this
theorem rY.sc {l:aS} (h:rY l):Sc gK PP l.p:=by
 obtain ⟨a,ha⟩:=h.p
 obtain ⟨k,hk,hk1⟩:=h.m
 have hL:=Ng
 have b0:=h.b0
 have b1:=h.b1
 have e1:(a:Rat)≤(((1000000 * gK + 1000 * k:Int)):Rat):=by
  rw [← ha,Rat.intCast_add,Rat.intCast_mul,Rat.intCast_mul,← hk]
  have:l.p * (gK:Rat)≤(1000000 + 1000 * l.m) * (gK:Rat):=Rat.mul_le_mul_of_nonneg_right b1 (Rat.le_of_lt hL)
  have e:(((gK:Nat):Int):Rat)=(gK:Rat):=rfl
  rw [e]
  grind
 have e2:(((-(1000000 * gK + 1000 * k):Int)):Rat)≤(a:Rat):=by
  rw [← ha,Rat.intCast_neg,Rat.intCast_add,Rat.intCast_mul,Rat.intCast_mul,← hk]
  have:-(1000000 + 1000 * l.m) * (gK:Rat)≤l.p * (gK:Rat):=Rat.mul_le_mul_of_nonneg_right b0 (Rat.le_of_lt hL)
  have e:(((gK:Nat):Int):Rat)=(gK:Rat):=rfl
  rw [e]
  grind
 have e1:=Rat.intCast_le_intCast.mp e1
 have e2:=Rat.intCast_le_intCast.mp e2
 refine ⟨a,ha,?_⟩
 unfold PP
 have:(k:Int)≤MM:=by omega
 have:-(MM:Int)≤k:=by omega
 omega
theorem N1:PP < 2 ^ 120:=by decide
theorem rY.RK {l:aS} (h:rY l):Sz 120 l.p:=h.sc.sz uU (by decide) N1
theorem rY.RD {l:aS} (h:rY l):Sz 120 l.m:=(Be h.m).mono (by decide)
theorem rY.at {l:aS} {t:Rat} {v:Int} (h:rY l) (h0:l.m≤t) (ht:Sc gK MM t) (hv:v.natAbs≤1000):rY ⟨t,l.at t,v⟩:=by
 have hm:=h.m0
 have t0:0≤t:=Rat.le_trans hm h0
 have d0:0≤t - l.m:=by grind
 have v1:(l.v:Rat)≤1000:=by
  have:((l.v:Int):Rat)≤((1000:Int):Rat):=Rat.intCast_le_intCast.mpr (by have:=h.v;omega)
  exact this
 have v2:-1000≤(l.v:Rat):=by
  have:((-1000:Int):Rat)≤((l.v:Int):Rat):=Rat.intCast_le_intCast.mpr (by have:=h.v;omega)
  exact this
 have m1:(t - l.m) * (l.v:Rat)≤(t - l.m) * 1000:=Rat.mul_le_mul_of_nonneg_left v1 d0
 have m2:(t - l.m) * (-1000)≤(t - l.m) * (l.v:Rat):=Rat.mul_le_mul_of_nonneg_left v2 d0
 have b0:=h.b0
 have b1:=h.b1
 refine ⟨t0,ht,?_,?_,?_,hv⟩
 ·obtain ⟨a,ha⟩:=h.p
  obtain ⟨k,hk,_⟩:=h.m
  obtain ⟨j,hj,_⟩:=ht
  refine ⟨a + (j - k) * l.v,?_⟩
  unfold aS.at
  dsimp only
  rw [Rat.intCast_add,Rat.intCast_mul,Rat.intCast_sub,← ha,← hk,← hj]
  grind
 ·show -(1000000 + 1000 * t)≤l.p + (t - l.m) * (l.v:Rat)
  grind
 ·show l.p + (t - l.m) * (l.v:Rat)≤1000000 + 1000 * t
  grind
theorem rY.new {t:Rat} {p v:Int} (t0:0≤t) (ht:Sc gK MM t) (hp:p.natAbs≤1000000) (hv:v.natAbs≤1000):rY ⟨t,(p:Rat),v⟩:=by
 have p1:(p:Rat)≤1000000:=by
  have:((p:Int):Rat)≤((1000000:Int):Rat):=Rat.intCast_le_intCast.mpr (by omega)
  exact this
 have p2:-1000000≤(p:Rat):=by
  have:((-1000000:Int):Rat)≤((p:Int):Rat):=Rat.intCast_le_intCast.mpr (by omega)
  exact this
 refine ⟨t0,ht,⟨p * gK,by rw [Rat.intCast_mul];rfl⟩,?_,?_,hv⟩
 ·show -(1000000 + 1000 * t)≤(p:Rat)
  grind
 ·show (p:Rat)≤1000000 + 1000 * t
  grind
def Cp (b:aF) (l:List aF):List aF:=if b∈l then l else kQ b l
theorem tZ {b x:aF} {l:List aF}:x∈kQ b l↔x=b∨x∈l:=xu (lt:=aF.lt)
theorem DJ {b x:aF} {l:List aF}:x∈Cp b l↔x=b∨x∈l:=by
 unfold Cp
 split
 ·rename_i h
  exact ⟨.inr,λz=>by rcases z with rfl | z;exact h;exact z⟩
 ·exact tZ
theorem DK {b:aF} {l:List aF} (s:ib l):ib (Cp b l):=by
 unfold Cp
 split
 ·exact s
 ·rename_i h
  exact xt s λx hx e=>h (e ▸ hx)
def tu (bs:List aF):List aF:=bs.foldl (λacc b=>Cp b acc) []
theorem ub (bs:List aF) (b:aF):tu (bs ++ [b])=Cp b (tu bs):=by unfold tu;rw [Uw];rfl
theorem xV (bs:List aF) (x:aF):x∈tu bs↔x∈bs:=by
 refine snoc_ind (p:=λbs=>∀x:aF,x∈tu bs↔x∈bs) (λx=>by simp [tu]) (λbs y ih x=>?_) bs x
 rw [ub,DJ,ih,SD,SG]
 exact Or.comm
theorem xW (bs:List aF):ib (tu bs):=by
 refine snoc_ind (p:=λbs=>ib (tu bs)) List.Pairwise.nil (λbs y ih=>?_) bs
 rw [ub];exact DK ih
theorem nj {l k:List aF} (h:ib l) (h':ib k) (e:∀x,x∈l↔x∈k):l=k:=ni (lt:=aF.lt) aF.KZ aF.lt_trans h h' e
def dY (t:Rat) (a b:Ky):Rat:=t + (b.p - a.p) / ((a.v - b.v:Int):Rat)
def jf (t:Rat) (a b:Ky):aF:=⟨dY t a b,a.n,b.n⟩
def ed (t:Rat) (ks:List Ky) (m:Rat):List aF:=tu (((ks.flatMap λa=>ks.map λb=>(a,b)).filter λp=>decide (p.2.v < p.1.v∧p.1.p < p.2.p∧dY t p.1 p.2≤m)).map λp=>jf t p.1 p.2)
theorem kC {t m:Rat} {ks:List Ky} {x:aF}:x∈ed t ks m↔∃a∈ks,∃b∈ks,b.v < a.v∧a.p < b.p∧dY t a b≤m∧x=jf t a b:=by
 unfold ed
 rw [xV,Sn]
 constructor
 ·rintro ⟨⟨a,b⟩,h,rfl⟩
  rw [SE,UC] at h
  obtain ⟨⟨c,hc,h1⟩,h2⟩:=h
  obtain ⟨d,hd,e⟩:=Sn.mp h1
  cases e
  have h2:=of_decide_eq_true h2
  exact ⟨_,hc,_,hd,h2.1,h2.2.1,h2.2.2,rfl⟩
 ·rintro ⟨a,ha,b,hb,h1,h2,h3,rfl⟩
  exact ⟨(a,b),SE.mpr ⟨UC.mpr ⟨a,ha,Sn.mpr ⟨b,hb,rfl⟩⟩,decide_eq_true ⟨h1,h2,h3⟩⟩,rfl⟩
theorem iq (t m:Rat) (ks:List Ky):ib (ed t ks m):=xW _
def iF (t:Rat) (ks:List Ky):List aF:=tu ((((cD ks).zip (cD ks).tail).filter λp=>decide (p.2.v < p.1.v)).map λp=>jf t p.1 p.2)
theorem di {α:Type} {l:List α} {a b:α}:(a,b)∈l.zip l.tail↔∃i:Nat,l[i]?=some a∧l[i + 1]?=some b:=by
 constructor
 ·intro h
  obtain ⟨i,hi⟩:=SN.mp h
  obtain ⟨h1,h2⟩:=Tv.mp hi
  exact ⟨i,h1,by rw [Up] at h2;exact h2⟩
 ·rintro ⟨i,h1,h2⟩
  exact SN.mpr ⟨i,Tv.mpr ⟨h1,by rw [Up];exact h2⟩⟩
theorem y6 {t:Rat} {ks:List Ky} {x:aF}:x∈iF t ks↔∃(i:Nat) (a b:Ky),(cD ks)[i]?=some a∧(cD ks)[i + 1]?=some b∧b.v < a.v∧x=jf t a b:=by
 unfold iF
 rw [xV,Sn]
 constructor
 ·rintro ⟨⟨a,b⟩,h,rfl⟩
  rw [SE] at h
  obtain ⟨i,h1,h2⟩:=di.mp h.1
  exact ⟨i,a,b,h1,h2,of_decide_eq_true h.2,rfl⟩
 ·rintro ⟨i,a,b,h1,h2,h3,rfl⟩
  exact ⟨(a,b),SE.mpr ⟨di.mpr ⟨i,h1,h2⟩,decide_eq_true h3⟩,rfl⟩
theorem y8 (t:Rat) (ks:List Ky):ib (iF t ks):=xW _
def jM (l l':aS):Rat:=(l'.at 0 - l.at 0) / ((l.v - l'.v:Int):Rat)
theorem FX {a b:Int} (h:a≠b):((a - b:Int):Rat)≠0:=by
 intro e
 have:(a - b:Int)=0:=by exact_mod_cast (show ((a - b:Int):Rat)=((0:Int):Rat) from e)
 omega
theorem mK {t:Rat} {n n':Str} {l l':aS} (h:l.v≠l'.v):jM l l'=dY t (key t (n,l)) (key t (n',l')):=by
 have k:=FX h
 unfold jM dY key aS.at
 dsimp only
 rw [Rat.intCast_sub] at *
 grind
theorem yd {a b:Rat} (ha:0 < a) (hb:0 < b):0 < a / b:=by
 have e:a / b * b=a:=by grind
 rcases Rat.le_total (a:=a / b) (b:=0) with h | h
 ·have:=Rat.mul_le_mul_of_nonneg_right h (Rat.le_of_lt hb)
  rw [e,Rat.zero_mul] at this
  exact absurd ha (Rat.not_lt.mpr this)
 ·rcases (by grind:a / b=0∨0 < a / b) with h | h
  ·rw [h,Rat.zero_mul] at e;rw [← e] at ha;exact absurd ha Rat.lt_irrefl
  ·exact h
def Ha (t:Rat) (l l':aS):Option Rat:=if l.v≠l'.v∧t < jM l l' then some (jM l l') else none
theorem Hb {t:Rat} {n n':Str} {l l':aS} (h:(key t (n,l)).lt (key t (n',l'))=true):(l.v≠l'.v∧t < jM l l')↔(l'.v < l.v∧l.at t < l'.at t):=by
 rw [Ky.lt_iff] at h
 unfold key at h
 dsimp only at h
 constructor
 ·rintro ⟨h1,h2⟩
  rw [mK (t:=t) (n:=n) (n':=n') h1] at h2
  unfold dY key at h2
  dsimp only at h2
  have k:=FX h1
  have h3:0 < (l'.at t - l.at t) / ((l.v - l'.v:Int):Rat):=by grind
  have hp:l.at t≠l'.at t:=by
   intro e
   rw [e] at h3
   have:(l'.at t - l'.at t) / ((l.v - l'.v:Int):Rat)=0:=by grind
   rw [this] at h3
   exact absurd h3 Rat.lt_irrefl
  have hlt:l.at t < l'.at t:=by
   rcases h with h | ⟨h,_⟩
   ·exact h
   ·exact absurd h hp
  refine ⟨?_,hlt⟩
  rcases (by omega:l'.v < l.v∨l.v < l'.v) with q | q
  ·exact q
  ·exfalso
   have hn:((l.v - l'.v:Int):Rat) < 0:=by
    have:((l.v - l'.v:Int):Rat) < ((0:Int):Rat):=Rat.intCast_lt_intCast.mpr (by omega)
    exact this
   have hd:0 < l'.at t - l.at t:=by grind
   have e:(l'.at t - l.at t) / ((l.v - l'.v:Int):Rat) * ((l.v - l'.v:Int):Rat)=l'.at t - l.at t:=by grind
   generalize (l'.at t - l.at t) / ((l.v - l'.v:Int):Rat)=z at h3 e
   have:z * ((l.v - l'.v:Int):Rat) < 0:=by
    have:=Rat.mul_lt_mul_of_pos_left hn h3
    rwa [Rat.mul_zero] at this
   grind
 ·rintro ⟨h1,h2⟩
  have hne:l.v≠l'.v:=by omega
  refine ⟨hne,?_⟩
  rw [mK (t:=t) (n:=n) (n':=n') hne]
  unfold dY key
  dsimp only
  have hpos:0 < ((l.v - l'.v:Int):Rat):=by
   have:((0:Int):Rat) < ((l.v - l'.v:Int):Rat):=Rat.intCast_lt_intCast.mpr (by omega)
   exact this
  have hd:0 < l'.at t - l.at t:=by grind
  have:0 < (l'.at t - l.at t) / ((l.v - l'.v:Int):Rat):=yd hd hpos
  grind
end Ov
namespace Ov
def kS (t:Rat) (c:Ky × Ky→Bool) (rows:List aF) (p:Ky × Ky):List aF:=if c p=true then kQ (jf t p.1 p.2) (dt p.1.n p.2.n rows) else rows
def cj (t:Rat) (c:Ky × Ky→Bool) (ps:List (Ky × Ky)):List aF:=ps.foldl (kS t c) []
theorem eu (t:Rat) (c:Ky × Ky→Bool) (ps:List (Ky × Ky)) (p:Ky × Ky):cj t c (ps ++ [p])=kS t c (cj t c ps) p:=by unfold cj;rw [Uw];rfl
theorem ij (t:Rat) (c:Ky × Ky→Bool) (ps:List (Ky × Ky)):ib (cj t c ps):=by
 refine snoc_ind (p:=λps=>ib (cj t c ps)) List.Pairwise.nil (λl x ih=>?_) ps
 rw [eu]
 unfold kS
 split
 ·exact xt (tT ih) GP
 ·exact ih
theorem nM (t:Rat) (c:Ky × Ky→Bool) (ps:List (Ky × Ky)):(cj t c ps).length≤ps.length:=by
 refine snoc_ind (p:=λps=>(cj t c ps).length≤ps.length) (Ss _) (λl x ih=>?_) ps
 rw [eu,SQ]
 unfold kS
 split
 ·rw [xr]
  have:=nK x.1.n x.2.n (cj t c l)
  simp only [SS,T3];omega
 ·omega
theorem nO {t:Rat} {c:Ky × Ky→Bool} {x:aF} (ps:List (Ky × Ky)):x∈cj t c ps→∃p∈ps,c p=true∧x=jf t p.1 p.2:=by
 refine snoc_ind (p:=λps=>x∈cj t c ps→∃p∈ps,c p=true∧x=jf t p.1 p.2) (λh=>by cases h) (λl y ih h=>?_) ps
 rw [eu] at h
 unfold kS at h
 split at h
 ·rename_i hc
  rcases Eg h with e | h
  ·exact ⟨y,by simp,hc,e⟩
  ·obtain ⟨p,hp,k⟩:=ih (SE.mp h).1
   exact ⟨p,SD.mpr (.inl hp),k⟩
 ·obtain ⟨p,hp,k⟩:=ih h
  exact ⟨p,SD.mpr (.inl hp),k⟩
def yY (ps:List (Ky × Ky)):Prop:=∀p∈ps,∀q∈ps,p.1.n=q.1.n→p.2.n=q.2.n→p=q
theorem nN {t:Rat} {c:Ky × Ky→Bool} {x:aF} (ps:List (Ky × Ky)):yY ps→(x∈cj t c ps↔∃p∈ps,c p=true∧x=jf t p.1 p.2):=by
 refine snoc_ind (p:=λps=>yY ps→(x∈cj t c ps↔∃p∈ps,c p=true∧x=jf t p.1 p.2)) (λ_=>Iff.intro (λh=>nomatch h) (λh=>by obtain ⟨_,h,_⟩:=h;cases h)) (λl y ih inj=>?_) ps
 have ih:=ih λp hp q hq=>inj p (SD.mpr (.inl hp)) q (SD.mpr (.inl hq))
 refine ⟨nO _,?_⟩
 rintro ⟨p,hp,hc,rfl⟩
 rw [eu]
 unfold kS
 have hold:p∈l→jf t p.1 p.2∈cj t c l:=λh=>ih.mpr ⟨p,h,hc,rfl⟩
 split
 ·rename_i hy
  rw [tZ]
  by_cases e:p=y
  ·left;rw [e]
  ·right
   have hl:p∈l:=by
    rcases SD.mp hp with h | h
    ·exact h
    ·exact absurd (by simpa using h) e
   refine SE.mpr ⟨hold hl,?_⟩
   unfold yi
   have:¬ ((jf t p.1 p.2).h=y.1.n∧(jf t p.1 p.2).f=y.2.n):=λz=>e (inj p hp y (by simp) z.1 z.2)
   rw [decide_eq_false this];rfl
 ·rename_i hy
  rcases SD.mp hp with h | h
  ·exact hold h
  ·have:p=y:=by simpa using h
   subst this;exact absurd hc hy
theorem yY.of {ks:List Ky} (h:(ks.map Ky.n).Nodup) {ps:List (Ky × Ky)} (hp:∀p∈ps,p.1∈ks∧p.2∈ks):yY ps:=λp h1 q h2 e1 e2=>by
 have a:=jP h p.1 (hp p h1).1 q.1 (hp q h2).1 e1
 have b:=jP h p.2 (hp p h1).2 q.2 (hp q h2).2 e2
 cases p;cases q;simp only at a b;rw [a,b]
def yJ (ks:List Ky):Nat→List (Ky × Ky)
 | 0=>[]
 | i + 1=>yJ ks i ++ (match ks[i]? with | some a=>(ks.drop (i + 1)).map λb=>(a,b) | none=>[])
theorem nu {ks:List Ky} {p:Ky × Ky}:∀{i:Nat},p∈yJ ks i↔∃i' j,i' < i∧i' < j∧ks[i']?=some p.1∧ks[j]?=some p.2
 | 0=>⟨λh=>(by cases h),λ⟨_,_,h,_⟩=>by omega⟩
 | i + 1=>by
  unfold yJ
  rw [SD,nu (i:=i)]
  constructor
  ·rintro (⟨i',j,h1,h⟩ | h)
   ·exact ⟨i',j,by omega,h⟩
   ·cases e:ks[i]? with
    | none=>rw [e] at h;cases h
    | some a =>
     rw [e] at h
     obtain ⟨b,hb,rfl⟩:=Sn.mp h
     obtain ⟨j,hj⟩:=SN.mp hb
     rw [Uq] at hj
     exact ⟨i,_,by omega,by omega,e,hj⟩
  ·rintro ⟨i',j,h1,h2,h3,h4⟩
   by_cases e:i' < i
   ·exact .inl ⟨i',j,e,h2,h3,h4⟩
   ·have:i'=i:=by omega
    subst this
    right
    rw [h3]
    refine Sn.mpr ⟨p.2,SN.mpr ⟨j - (i' + 1),?_⟩,rfl⟩
    rw [Uq,show i' + 1 + (j - (i' + 1))=j by omega];exact h4
def eY (t m:Rat) (p:Ky × Ky):Bool:=decide (p.2.v < p.1.v∧p.1.p < p.2.p∧dY t p.1 p.2≤m)
def gx (p:Ky × Ky):Bool:=decide (p.2.v < p.1.v)
theorem IG {t m:Rat} {ks:List Ky} (h:(ks.map Ky.n).Nodup):cj t (eY t m) (yJ (cD ks) (cD ks).length)=ed t ks m:=by
 have hs:=dw h
 have hn:((cD ks).map Ky.n).Nodup:=oF hs (λx hx y hy e=>jP h x ((bF _ _).mp hx) y ((bF _ _).mp hy) e)
 refine nj (ij _ _ _) (iq _ _ _) λx=>?_
 rw [nN _ (yY.of hn λp hp=>by
  obtain ⟨i,j,_,_,h3,h4⟩:=nu.mp hp
  exact ⟨Su h3,Su h4⟩),kC]
 constructor
 ·rintro ⟨p,hp,hc,rfl⟩
  obtain ⟨i,j,_,_,h3,h4⟩:=nu.mp hp
  have hc:=of_decide_eq_true hc
  exact ⟨p.1,(bF _ _).mp (Su h3),p.2,(bF _ _).mp (Su h4),hc.1,hc.2.1,hc.2.2,rfl⟩
 ·rintro ⟨a,ha,b,hb,h1,h2,h3,rfl⟩
  obtain ⟨i,hi⟩:=SN.mp ((bF _ _).mpr ha)
  obtain ⟨j,hj⟩:=SN.mp ((bF _ _).mpr hb)
  have hab:a.lt b=true:=(Ky.lt_iff a b).mpr (.inl h2)
  have hij:i < j:=by
   obtain ⟨hil,ei⟩:=Sq.mp hi
   obtain ⟨hjl,ej⟩:=Sq.mp hj
   rcases UZ i j with z | z | z
   ·exact z
   ·subst z;rw [ei] at ej;subst ej;rw [Ky.Gf] at hab;cases hab
   ·have:=S_.mp hs j i hjl hil z
    rw [ei,ej] at this
    rw [Ky.MT this] at hab;cases hab
  exact ⟨(a,b),nu.mpr ⟨i,j,(Sq.mp hi).1,hij,hi,hj⟩,decide_eq_true ⟨h1,h2,h3⟩,rfl⟩
theorem DM {t m:Rat} {ks:List Ky} (h:(ks.map Ky.n).Nodup):cj t (eY t m) (ks.flatMap λa=>ks.map λb=>(a,b))=ed t ks m:=by
 have hm:∀p:Ky × Ky,p∈(ks.flatMap λa=>ks.map λb=>(a,b))↔p.1∈ks∧p.2∈ks:=λp=>by
  rw [UC]
  constructor
  ·rintro ⟨a,ha,hb⟩
   obtain ⟨b,hb',rfl⟩:=Sn.mp hb
   exact ⟨ha,hb'⟩
  ·rintro ⟨ha,hb⟩
   exact ⟨p.1,ha,Sn.mpr ⟨p.2,hb,rfl⟩⟩
 refine nj (ij _ _ _) (iq _ _ _) λx=>?_
 rw [nN _ (yY.of h λp hp=>(hm p).mp hp),kC]
 constructor
 ·rintro ⟨p,hp,hc,rfl⟩
  have hc:=of_decide_eq_true hc
  exact ⟨p.1,((hm p).mp hp).1,p.2,((hm p).mp hp).2,hc.1,hc.2.1,hc.2.2,rfl⟩
 ·rintro ⟨a,ha,b,hb,h1,h2,h3,rfl⟩
  exact ⟨(a,b),(hm _).mpr ⟨ha,hb⟩,decide_eq_true ⟨h1,h2,h3⟩,rfl⟩
theorem yG {t:Rat} {ks:List Ky} (h:(ks.map Ky.n).Nodup):cj t gx ((cD ks).zip (cD ks).tail)=iF t ks:=by
 have hs:=dw h
 have hn:((cD ks).map Ky.n).Nodup:=oF hs (λx hx y hy e=>jP h x ((bF _ _).mp hx) y ((bF _ _).mp hy) e)
 refine nj (ij _ _ _) (y8 _ _) λx=>?_
 rw [nN _ (yY.of hn λp hp=>by
  obtain ⟨i,h3,h4⟩:=di.mp (show (p.1,p.2)∈_ from hp)
  exact ⟨Su h3,Su h4⟩),y6]
 constructor
 ·rintro ⟨p,hp,hc,rfl⟩
  obtain ⟨i,h3,h4⟩:=di.mp (show (p.1,p.2)∈_ from hp)
  exact ⟨i,p.1,p.2,h3,h4,of_decide_eq_true hc,rfl⟩
 ·rintro ⟨i,a,b,h1,h2,h3,rfl⟩
  exact ⟨(a,b),di.mpr ⟨i,h1,h2⟩,decide_eq_true h3,rfl⟩
end Ov
namespace L2
open PySem PySem.Spec PyProof.Rows
theorem y9 {X:Cx}:bT X (.type "dict") (λxs H Q=>∃a kvs ep,xs=[.ref a]∧H a=some (.dE kvs ep)∧∀p,H p=none→∀ep',Q (.ref p) (upd H p (.dE kvs ep'))):=by
 intro pins s σ H xs us Q I r h
 obtain ⟨a,kvs,ep,rfl,hp,q⟩:=h
 obtain ⟨u,rfl,rx⟩:=vals1 r
 cases rx
 obtain ⟨hz,hd,vs,rel,da⟩:=jv I hp
 refine kt_call_dict hd da.dictOf (by rw [← rel.len];exact hz) λh' hm hs=>?_
 obtain ⟨ep',da'⟩:=hm.dictAt
 exact ⟨.ref s.heap.objs.size,_,I.laid (a:=s.heap.objs.size) (o:=.dE kvs ep') (t':=s.toks) (λb o e=>hs.extBut b o (SO (Heap.lt_size e)) (Heap.get?_push_of_some _ e)) (Ss _)
  ⟨hz,beq_eq_false_iff_ne.mpr (Ne.symm (SO I.Ki)),vs,rel,da'⟩,rfl,q _ (I.hok.fresh (Ss _)) ep'⟩
end L2
namespace Ov
open PySem PySem.Spec PyProof.Rows
open L2 (V HO Hp Inv Cx VK XK TE TT TA TS TG pG TI TO ju Ends wN Loc Gl Rd RelV Vals eO w6 bT pE sH pF jt R2 upd aE aL cF gr Sp rT It bA cT bI Passes o8 aD Meth Mk Binds aH b7 av c7 fN d_ nv rW Dr pe)
def Fp:yZ:=λxs J Q=>Bh xs λx=>Bi x λa=>EX (J a) λkvs _=>∀p,J p=none→∀ep',Q (.ref p) (put J p (.dct kvs ep'))
theorem DT {X:Cx}:IJ X (.type "dict") Fp:=⟨_,L2.y9,λJ H xs vs Q2 Q rs r h k=>by
 obtain ⟨x,ex,h⟩:=iO h;obtain ⟨a,ea,h⟩:=fY h;obtain ⟨kvs,ep,ja,q⟩:=lO h;subst ea
 subst ex;obtain ⟨v,us,rfl,rv,e⟩:=rs;cases e;cases rv
 obtain ⟨gs,h1,h2⟩:=r _ _ ja
 refine ⟨a,gs,ep,rfl,h1,λp hp ep'=>?_⟩
 have e:=Ext.laid (K:=X.K) (J:=J) (o:=.dE gs ep') (u:=.dct kvs ep') hp
 refine k (.ref p) _ (.ref p) _ rfl (r.Av e p (λa ne=>ak ne) (λa o ne _ z=>by rw [aL ne];exact z) λu z=>?_) e (q p (r.free hp) ep')
 rw [aq] at z;cases z
 exact ⟨gs,aE,e.vT h2⟩⟩
end Ov
set_option maxHeartbeats 4000000
namespace Ov
open PySem PySem.Spec PyProof.Rows L2
def top (i:Nat):Stmt:=PySem.Challenge.pw_overhaul_k35_whole_one_going_or_many.main.body.getD i (.Pass ⟨0,0,0,0⟩)
set_option compiler.extract_closed false
set_option hygiene false
local macro_rules | `(tactic| dsimp! [$ls,*])=>`(tactic| simp only [IA,B5,Ap,qr,Iz,B8,Ir,B9,F5,Pg,Df,tC,rI,Gg,rU,RN,RV,Il,Ik,Im,Int.reduceLT,Iy,yE,Ar,JL,rQ,IB,F2,Iv,B6,B3,Iw,F0,OK,tB,Pd,B4,Pc,BA,GU,AZ,GR,A6,A7,IT,Of,Oh,Jy,Oi,Si,dq,fQ,kT,DP,HO.lst.injEq,HO.tup.injEq,List.set_cons_zero,List.set_cons_succ,List.getElem?_cons_zero,List.getElem?_cons_succ,Option.some.injEq,exists_eq_left',exists_eq_left,exists_and_left,exists_eq,exists_eq',V.int.injEq,V.bl.injEq,V.ref.injEq,V.str.injEq,V.ty.injEq,decide_eq_true_eq,true_and,and_true,List.cons.injEq,List.append_nil,List.cons_append,List.nil_append,reduceCtorEq,Bool.not_eq_true',decide_eq_false_iff_not,and_assoc,ite_not,if_true,if_false,Bool.false_eq_true,decide_true,decide_false,L2.start,List.map_cons,List.map_nil,List.length_cons,List.length_nil,Nat.reduceAdd,Nat.reduceSub,List.replicate,uM,Cx.K2,Cx.rS,false_and,and_false,exists_false,false_or,or_false,id,dB,Option.getD_some,Og,Pf,B7,pW,Ow,Mc,GS,JD,$ls,*])
local macro_rules | `(tactic| simp_arith [$t:term])=>`(tactic| refine Ql F $t (fun xs J Q E h=>?_) (fun cdv A outer s H E G xs J Q E2 hr h B=>?_))
local macro_rules | `(tactic| simp_arith [$t:term,$r:term])=>`(tactic| refine Sg F $t (fun xs J Q E h=>?_) (fun cdv A outer s H E G E2 hr B=>$r) (fun xs J Q E2 h X hX=>?_))
local macro_rules | `(tactic| simp_arith [$t:term,$r:term,$u:term])=>`(tactic| refine Qk F $t (fun xs J Q E h=>?_) (fun cdv A outer s H E G E2 hr B=>$r) (fun xs J Q E2 h X hX=>?_))
local macro_rules | `(tactic| simp_arith! [$ls,*])=>`(tactic| simp only [HV,QH,PL,N_,Ob,oi,rC,zY,RY,rB,Ox,LF,QC,Ol,Jw,Om,JA,RQ,yc,oV,Oy,Oj,RP,BD,JB,RX,Pa,Qw,Oc,BB,Od,HY,HX,qZ,BC,Ot,JC,zW,IS,Rr,Rq,Rt,vQ,Oo,Jx,j2,BE,Rw,R',Rx,R_,Qx,Qy,HS,qI,qU,N8,RM,Fq,LC,Oa,N',Qv,N2,N6,N4,Lz,Fn,Qu,vO,N9,Ly,By,Jr,P5,P4,Nd,Qe,zt,Nj,Ni,I9,QY,OT,QX,QZ,Q1,QV,OV,OP,JM,OO,OR,ON,OQ,P1,P2,Na,PR,PX,PZ,P0,PU,PY,QP,QR,QQ,Js,Kk,Km,M3,Kl,M4,Bu,vL,Lv,HP,vK,eq_int,eq_str,M7,AU,KD,KG,OU,KP,qA,Kx,wH,Mr,Ms,Mp,Mq,Nat.reduceAdd,Nat.reduceSub,Nat.reduceLeDiff,Q_,Ra,Mn,Mo,List.append_nil,Q4,Q5,Rb,Rc,Option.some.injEq,exists_eq_left',exists_eq_left,exists_and_left,exists_eq,exists_eq',PV.int.injEq,PV.bl.injEq,PV.ref.injEq,PV.str.injEq,PV.ty.injEq,PV.tup.injEq,PV.fl.injEq,HQ.lst.injEq,HQ.ins.injEq,HQ.dct.injEq,decide_eq_true_eq,true_and,and_true,List.cons.injEq,reduceCtorEq,Bool.not_eq_true',decide_eq_false_iff_not,and_assoc,ite_not,if_true,if_false,Bool.false_eq_true,decide_true,decide_false,false_and,and_false,exists_false,false_or,or_false,id,dq,fQ,kT,DP,MU,MV,MW,MX,MY,MZ,Kf,Kg,Sk,Q7,Q6,Q9,aq,Bool.and_true,Rf,Bool.and_false,Q3,Ja,Nk,Nl,Nn,Np,Nr,Nt,Nu,Nv,Nw,KQ,KR,KS,OW,Mh,IE,Mi,Mj,IF,String.reduceEq,OY,OZ,pD,Q8,List.not_mem_nil,exists_const,NQ,NI,NL,NJ,NR,NP,NS,NH,NM,NK,Jh,NN,K9,NO,NT,N5,HU,N7,Fs,Ju,Jv,Jz,Ru,LB,Bz,vR,Rv,$ls,*])
local macro_rules | `(tactic| simp_all! [$ls,*])=>`(tactic| repeat (first | (with_reducible refine hNq _ _ ?_;clear hNq Nq) | with_reducible refine LZ fun Nq hNq=>?_ | simp_arith! [$ls,*]))
section
variable {P:Program} {w:World} {K:PySem.W.Frag} {mg:Str→Option Value} {base:Heap}
abbrev rj:Stmt:=(top 12)
abbrev iw:List Str:=["one","two"]
theorem oz:L2.av ["one","two"] ["one","two"] (L2.ai rj):=dI
def rJ:Sp:=λvs H Q _=>∃a b:Int,vs=[.int a,.int b]∧Q (.int (Int.gcd a b:Nat)) H
theorem CT {f:Addr} {fd:FuncData} (F:b7 K "shared" "shared" rj f fd) (Z:Dm mg):aH P w K mg base pZ 1 f fd iw rJ:=by
 refine F.ok oz (λvs H Q E h=>?_) (λcdv A outer s H vs Q E hr h=>?_)
 ·obtain ⟨a,b,rfl,_⟩:=h
  rfl
 obtain ⟨a,b,rfl,q⟩:=h
 refine ⟨_,(QB.run (aV (og (i:=0) (j:=1) rfl oz.nd rfl rfl (by decide) rfl rfl (aT (dy mw rfl Z.abs boot_abs (aT (pv 0) bG)) (aT (dy mw rfl Z.abs boot_abs (aT (pv 1) bG)) bG)) rfl)
   (aV (j0 PassesOwn.never (c_ Jm (pv 1) aJ (eD _)) (bH (og (i:=0) (j:=1) rfl oz.nd rfl rfl (by decide) rfl rfl (aT (pv 1) (aT (bj f6 (pv 0) (pv 1)) bG)) rfl)))
   (bH (dn (pv 0)))))),?_⟩
 refine ⟨_,rfl,a,rfl,_,rfl,b,rfl,_,_,rfl,?_⟩
 refine yF (λσ H'=>∃x y:Int,σ=[some (.int x),some (.int y)]∧H=H'∧0≤x∧0≤y∧Int.gcd x y=Int.gcd a b) (λσ _=>match σ with | [_,some (.int y)]=>y.toNat | _=>0)
  ⟨_,_,rfl,rfl,by split <;> omega,by split <;> omega,GV a b⟩ ?_ (λσ H Q Q' m h=>?_)
 ·rintro σ H' ⟨x,y,rfl,rfl,hx,hy,hg⟩
  dsimp! [rJoin]
  split
  ·rename_i hy0
   subst hy0
   rw [← hg,A2 hx] at q
   exact q
  ·rename_i hy0
   have h1:=Int.emod_lt_of_pos x (show 0 < y by omega)
   have h2:=Int.emod_nonneg x hy0
   exact ⟨by omega,hy,h2,(xp hy0).trans hg,by omega⟩
 ·obtain ⟨v,e,hs,k,ek,hq⟩:=h
  exact ⟨v,e,hs,k,ek,m _ _ hq⟩
def Dig:List Int→List Int→Prop
 | [],[]=>True
 | d :: ds,s :: ss=>(0≤d∧d < s)∧Dig ds ss
 | _,_=>False
theorem Dig.snoc:∀{ds ss:List Int} {d s:Int},Dig ds ss→0≤d→d < s→Dig (ds ++ [d]) (ss ++ [s])
 | [],[],_,_,_,h0,h1=>⟨⟨h0,h1⟩,trivial⟩
 | _ :: _,_ :: _,_,_,h,h0,h1=>⟨h.1,Dig.snoc h.2 h0 h1⟩
 | [],_ :: _,_,_,h,_,_=>h.elim
 | _ :: _,[],_,_,h,_,_=>h.elim
theorem Dig.cons:∀{ds ss:List Int} {s:Int},Dig ds (s :: ss)→∃d r,ds=d :: r∧0≤d∧d < s∧Dig r ss
 | [],_,_,h=>h.elim
 | d :: r,_,_,h=>⟨d,r,rfl,h.1.1,h.1.2,h.2⟩
theorem Dig.nil:∀{ds:List Int},Dig ds []→ds=[]
 | [],_=>rfl
 | _ :: _,h=>h.elim
theorem Dig.len:∀{ds ss:List Int},Dig ds ss→ds.length=ss.length
 | [],[],_=>rfl
 | _ :: _,_ :: _,h=>congrArg Nat.succ (Dig.len h.2)
 | [],_ :: _,h=>h.elim
 | _ :: _,[],h=>h.elim
theorem take_snoc {xs:List Int} {i:Nat} {x:Int} (h:xs[i]?=some x):xs.take (i + 1)=xs.take i ++ [x]:=by
 rw [S4,h]
 rfl
theorem qy {ns:List Int} {i:Nat} {y:V} (h:(ns.map V.int)[i]?=some y):∃z,y=V.int z∧ns[i]?=some z:=by
 rw [SA] at h
 cases e:ns[i]? with
 | none=>rw [e] at h;cases h
 | some z=>rw [e] at h;exact ⟨z,(Option.some.inj h).symm,rfl⟩
abbrev Ab:Stmt:=(top 44)
abbrev mT:List Str:=["_law_script","_law_k"]
theorem Ie:L2.av ["_law_script","_law_k"] ["_law_script","_law_k"] (L2.ai Ab):=dI
def qk:Int→List Int→List Int
 | _,[]=>[]
 | r,s :: ss=>r % s :: qk (r.fdiv s) ss
def jx:Int→Int→List Int→List Int
 | _,_,[]=>[]
 | one,k,s :: ss=>(((one * 48271 + 10007 * (k + 1)) % 2147483629 * ((one * 48271 + 10007 * (k + 1)) % 2147483629) + 69621 * ((one * 48271 + 10007 * (k + 1)) % 2147483629) + k) % 2147483563).fdiv 11 % s :: jx ((one * 48271 + 10007 * (k + 1)) % 2147483629) (k + 1) ss
def xj (c:Int) (ss:List Int):List Int:=if 1000000000000000000≤c then qk (c - 1000000000000000000) ss else jx (c % 2147483647) 0 ss
abbrev rg:Stmt:=(top 45)
abbrev bX:List Str:=["_law_cell_here","_law_sizes"]
theorem dg:L2.av ["_law_cell_here","_law_sizes","_law_out","_law_rest","_law_size","_law_one","_law_k","_law_two"] ["_law_cell_here","_law_sizes"] (L2.ai rg):=dI
def rF (K:PySem.W.Frag):Sp:=λvs H Q _=>∃(c:Int) (a:Addr) (ss:List Int),vs=[.int c,.ref a]∧cF K H a (ss.map V.int)∧(∀s∈ss,0 < s∧Bd 9000 s)∧ss.length≤1000 ∧
 ∀(r:Addr) (H':Hp) (ds:List Int),H r=none→bA H H'→H' r=some (.lst (ds.map V.int))→Dig ds ss→ds=xj c ss→Q (.ref r) H'
theorem CS {f:Addr} {fd:FuncData} (F:b7 K "_law_digits" "_law_digits" rg f fd) (Z:Dm mg):aH P w K mg base pZ 1 f fd bX (rF K):=by
 refine F.ok dg (λvs H Q E h=>?_) (λcdv A outer s H vs Q E hr h=>?_)
 ·obtain ⟨c,a,ss,rfl,_⟩:=h
  rfl
 obtain ⟨c,a,ss,rfl,hS,hs,hl,q⟩:=h
 refine ⟨_,(QB.run (aV (cJ (i:=2) dg.nd rfl (Or.inl rfl) (jR bG))
   (aV (mW (c_ Jj (pv 0) (bj E3 aJ aJ) (eD _)) (aV (cJ (i:=3) dg.nd rfl (Or.inl rfl) (bj zH (pv 0) (bj E3 aJ aJ)))
   (aV (oa PassesOwn.never rfl (mM (pv 1)) (kD (i:=4) dg.nd rfl (Or.inl rfl)) (aV (kF (qR PySem.F.plainAttrs_list PySem.F.slot_list_append PySem.F.type_list_append ip (pv 2) (aT (bj f6 (pv 3) (pv 4)) bG)))
   (bH (cJ (i:=3) dg.nd rfl (Or.inl rfl) (bj fZ (pv 3) (pv 4))))))
   (bH (dn (pv 2))))) fF)
   (aV (cJ (i:=5) dg.nd rfl (Or.inl rfl) (bj f6 (pv 0) aJ))
   (aV (oa PassesOwn.never rfl (fK rfl Z.range (aT (dy iG rfl Z.len boot_len (aT (pv 1) bG)) bG)) (kD (i:=6) dg.nd rfl (Or.inl rfl)) (aV (cJ (i:=5) dg.nd rfl (Or.inl rfl) (bj f6 (bj iP (bj cy (pv 5) aJ) (bj cy aJ (bj iP (pv 6) aJ))) aJ))
   (aV (cJ (i:=7) dg.nd rfl (Or.inl rfl) (bj f6 (bj iP (bj iP (bj cy (pv 5) (pv 5)) (bj cy aJ (pv 5))) (pv 6)) aJ))
   (bH (kF (qR PySem.F.plainAttrs_list PySem.F.slot_list_append PySem.F.type_list_append ip (pv 2) (aT (bj f6 (bj fZ (pv 7) aJ) (bW uR (pv 1) (pv 6) (λ_ _=>rfl))) bG)))))))
   (bH (dn (pv 2)))))))),?_⟩
 refine ⟨SY _,λr hr'=>?_⟩
 have g0:=bA.new hr' (.lst [])
 refine ⟨_,rfl,_,_,rfl,rfl,⟨by decide,by decide,by decide⟩,_,_,rfl,rfl,_,rfl,?_⟩
 have Qo:(10:Int) ^ (18:Int).toNat=1000000000000000000:=by decide +kernel
 refine Ep (λcc=>?_) (λcc=>?_)
 ·have cc:(10:Int) ^ (18:Int).toNat≤c:=of_decide_eq_true cc
  have eE:xj c ss=qk (c - 10 ^ (18:Int).toNat) ss:=by rw [Qo] at cc ⊢;unfold xj;rw [if_pos cc]
  refine ⟨_,rfl,_,_,rfl,rfl,⟨by decide,by decide,by decide⟩,_,_,rfl,rfl,?_⟩
  refine ⟨_,rfl,a,rfl,⟨_,g0.seq hS⟩,D9 (K:=K) (a:=a) (xs:=ss.map V.int) (λi σ H2=>∃(ds:List Int) (rest:Int) (u:Option V),σ=[some (.int c),some (.ref a),some (.ref r),some (.int rest),u,none,none,none] ∧
   bA H H2∧H2 r=some (.lst (ds.map V.int))∧Dig ds (ss.take i)∧ds ++ qk rest (ss.drop i)=qk (c - 10 ^ (18:Int).toNat) ss) ⟨[],_,none,rfl,g0,aE,trivial,rfl⟩ (λi σ H2 _ ⟨_,_,_,_,s2,_⟩=>s2.seq hS) ?_ ?_⟩
  ·rintro i y σ H2 hi ⟨ds,rest,u,rfl,s2,hd,hD,hx⟩
   obtain ⟨z,rfl,hz⟩:=qy hi
   obtain ⟨z0,zb⟩:=hs z (Su hz)
   have hil:i < ss.length:=(Sq.mp hz).1
   have dl:=hD.len
   rw [SW] at dl
   refine ⟨_,rfl,.inl ⟨rfl,_,cF.of hd⟩,_,rfl,_,rfl,_,_,rfl,rfl,z0,r,_,_,rfl,rfl,hd,?_,?_⟩
   ·rw [Sm]
    exact ba (by omega)
   refine ⟨_,rfl,_,rfl,_,_,rfl,rfl,⟨by omega,zb⟩,?_⟩
   refine ⟨ds ++ [rest % z],_,_,rfl,s2.MG hr' _,?_,?_,?_⟩
   ·rw [aE,Sw]
    rfl
   ·rw [take_snoc hz]
    exact hD.snoc (Int.emod_nonneg _ (by omega)) (Int.emod_lt_of_pos _ z0)
   ·have e:ss.drop i=z :: ss.drop (i + 1):=by
     rw [Tf hil]
     exact congrArg (· :: _) (Option.some.inj ((So hil).symm.trans hz))
    rw [e] at hx
    rw [← hx,T8]
    rfl
  ·rintro σ H2 ⟨ds,rest,u,rfl,s2,hd,hD,hx⟩
   rw [Sm,S3] at hD
   rw [Sm,UD] at hx
   refine ⟨_,rfl,q r H2 ds hr' s2 hd hD ?_⟩
   rw [eE,← hx]
   exact (Tb _).symm
 ·have cc:¬ (10:Int) ^ (18:Int).toNat≤c:=λz=>cc (decide_eq_true z)
  have eE:xj c ss=jx (c % 2147483647) 0 ss:=by rw [Qo] at cc;unfold xj;rw [if_neg cc]
  refine ⟨_,rfl,_,_,rfl,rfl,(show (0:Int) < 2147483647 by decide),?_⟩
  refine ⟨_,rfl,a,_,rfl,.inl (g0.seq hS),_,rfl,?_,?_,tY (lo:=0) (n:=(ss.map V.int).length) (λi σ H2=>∃(ds:List Int) (one:Int) (u v:Option V),σ=[some (.int c),some (.ref a),some (.ref r),none,none,some (.int one),u,v] ∧
   0≤one∧one < 2147483647∧bA H H2∧H2 r=some (.lst (ds.map V.int))∧Dig ds (ss.take i)∧ds ++ jx one (i:Int) (ss.drop i)=jx (c % 2147483647) 0 ss) ⟨[],_,none,none,rfl,Int.emod_nonneg _ (by decide),Int.emod_lt_of_pos _ (by decide),g0,aE,trivial,rfl⟩ ?_ ?_⟩
  ·omega
  ·rw [Sm];omega
  ·rintro i σ H2 hi ⟨ds,one,u,v,rfl,o0,o1,s2,hd,hD,hx⟩
   rw [Sm] at hi
   have hz:ss[i]?=some ss[i]:=So hi
   obtain ⟨z0,zb⟩:=hs ss[i] (Td hi)
   have dl:=hD.len
   rw [SW] at dl
   have e1:c7 (ss.map V.int) (0 + (i:Int))=some (.int ss[i]):=by
    rw [Int.zero_add]
    exact bx (by rw [SA,hz];rfl)
   have hx2:ds ++ jx one (0 + (i:Int)) (ss[i] :: ss.drop (i + 1))=jx (c % 2147483647) 0 ss:=by
    rw [Int.zero_add,← Tf hi];exact hx
   rw [jx] at hx2
   dsimp! [rJoin]
   have A0:0≤(one * 48271 + 10007 * (0 + (i:Int) + 1)) % 2147483629:=Int.emod_nonneg _ (by decide)
   have A1:(one * 48271 + 10007 * (0 + (i:Int) + 1)) % 2147483629 < 2147483629:=Int.emod_lt_of_pos _ (by decide)
   generalize (one * 48271 + 10007 * (0 + (i:Int) + 1)) % 2147483629=A at A0 A1 hx2 ⊢
   generalize ((A * A + 69621 * A + (0 + (i:Int))) % 2147483563).fdiv 11=B at hx2 ⊢
   have small:∀x:Int,0≤x→x < 2147483648→Bd 64 x:=λx h1 h2=>Bd.small (by omega) (by omega)
   refine ⟨.of (small _ o0 (by omega)) (small _ (by decide) (by decide)),.of (small _ (by decide) (by decide)) (small _ (by omega) (by omega)),.of (small _ A0 (by omega)) (small _ A0 (by omega)),
    .of (small _ (by decide) (by decide)) (small _ A0 (by omega)),.inl ⟨rfl,_,cF.of hd⟩,⟨by decide,(small _ (by decide) (by decide)).mono (by decide)⟩,_,s2.seq hS,_,e1,_,rfl,z0,_,hd,?_,A0,by omega,s2.MG hr' _,ds ++ [B % ss[i]],?_,?_,?_⟩
   ·rw [Sm]
    exact ba (by omega)
   ·rw [aE,Sw]
    rfl
   ·rw [take_snoc hz]
    exact hD.snoc (Int.emod_nonneg _ (by omega)) (Int.emod_lt_of_pos _ z0)
   ·rw [← hx2,T8,Int.zero_add]
    rfl
  ·rintro σ H2 ⟨ds,one,u,v,rfl,o0,o1,s2,hd,hD,hx⟩
   rw [Sm,S3] at hD
   rw [Sm,UD] at hx
   refine ⟨_,rfl,q r H2 ds hr' s2 hd hD ?_⟩
   rw [eE,← hx]
   exact (Tb _).symm
def MP (H:Hp) (q:Rat) (Q:VK):Prop:=∀(r:Addr) (H':Hp),bA H H'→H' r=some (.tup [.int q.num,.int q.den])→Q (.ref r) H'
abbrev lU:Stmt:=(top 13)
abbrev c5:List Str:=["top","bottom"]
theorem j_:L2.av ["top","bottom","divisor"] ["top","bottom"] (L2.ai lU):=dI
def gh:Sp:=λvs H Q _=>∃t b:Int,vs=[.int t,.int b]∧b≠0∧Bd 9000 b∧MP H (Rat.divInt t b) Q
theorem Eb {n:Nat} {t b:Int} (h:b≠0) (hb:Bd n b):Bd n ((Int.gcd t b:Nat):Int):=hb.le (by have:=KA (t:=t) h;omega)
theorem xQ {f:Addr} {fd:FuncData} (F:b7 K "fraction" "fraction" lU f fd) (Z:Dm mg) (hZ:rV P w K mg base 1 "shared" iw rJ):aH P w K mg base pZ 2 f fd c5 gh:=by
 refine F.ok j_ (λvs H Q E h=>?_) (λcdv A outer s H vs Q E hr h=>?_)
 ·obtain ⟨t,b,rfl,_⟩:=h
  rfl
 obtain ⟨t,b,rfl,hb,bb,q⟩:=h
 have hg:=A3 (t:=t) hb
 have gb:=Eb (t:=t) hb bb
 refine ⟨_,(QB.run (aV (mW (c_ E1 (pv 1) aJ (eD _)) oh fF)
   (aV (cJ (i:=2) j_.nd rfl (Or.inl rfl) (x6 hZ hr (by decide) rfl (aT (pv 0) (aT (pv 1) bG))))
   (x_ (mW (c_ Bj (pv 1) aJ (eD _)) (bH (cJ (i:=2) j_.nd rfl (Or.inl rfl) (Bn F_ (pv 2)))) fF)
   (bH (dn (qT (aT (bj fZ (pv 0) (pv 2)) (aT (bj fZ (pv 1) (pv 2)) bG))))))))),?_⟩
 refine ⟨_,rfl,rfl,_,rfl,?_⟩
 refine Ep (λc=>absurd (V.int.inj (of_decide_eq_true c)) hb) (λ_=>?_)
 refine ⟨_,rfl,_,rfl,t,b,rfl,?_⟩
 refine ⟨λσ' H'=>∃d:Int,σ'=[some (.int t),some (.int b),some (.int d)]∧H=H'∧d≠0∧Bd 9000 d∧t.fdiv d=(Rat.divInt t b).num∧b.fdiv d=(Rat.divInt t b).den,?_,?_⟩
 ·refine ⟨_,rfl,_,_,rfl,rfl,_,rfl,Ep (λc=>?_) (λc=>?_)⟩
  ·have c':b < 0:=of_decide_eq_true c
   exact ⟨_,rfl,_,rfl,_,rfl,rfl,by omega,gb.neg,Bg c',GN c'⟩
  ·have c':0 < b:=by
    have:=of_decide_eq_false (Ux.mpr c)
    omega
   exact ⟨_,rfl,rfl,by omega,gb,u_ c',den_pos c'⟩
 rintro _ _ ⟨d,rfl,rfl,hd,bd,e1,e2⟩
 refine ⟨_,rfl,_,rfl,_,_,rfl,rfl,⟨hd,bd⟩,_,rfl,_,rfl,_,_,rfl,rfl,⟨hd,bd⟩,(by show 2≤sizeLine;decide),λp hp=>?_⟩
 exact q p _ (bA.new hp _) (by rw [aE];show some (HO.tup [V.int (t.fdiv d),V.int (b.fdiv d)])=_;rw [e1,e2])
abbrev FC:Stmt:=(top 47)
abbrev fb:List Str:=["_law_top","_law_bottom"]
theorem wg:L2.av ["_law_top","_law_bottom","_law_one","_law_two"] ["_law_top","_law_bottom"] (L2.ai FC):=dI
def JG:Sp:=λvs H Q _=>∃t b:Int,vs=[.int t,.int b]∧0 < b∧Bd 9000 b∧MP H (Rat.divInt t b) Q
theorem K4 {f:Addr} {fd:FuncData} (F:b7 K "_law_low" "_law_low" FC f fd) (Z:Dm mg):aH P w K mg base pZ 1 f fd fb JG:=by
 refine F.ok wg (λvs H Q E h=>?_) (λcdv A outer s H vs Q E hr h=>?_)
 ·obtain ⟨t,b,rfl,_⟩:=h
  rfl
 obtain ⟨t,b,rfl,hb,bb,q⟩:=h
 have hg:=A3 (t:=t) (show b≠0 by omega)
 have gb:=Eb (t:=t) (show b≠0 by omega) bb
 refine ⟨_,(QB.run (aV (cJ (i:=2) wg.nd rfl (Or.inl rfl) (dy mw rfl Z.abs boot_abs (aT (pv 0) bG)))
   (aV (cJ (i:=3) wg.nd rfl (Or.inl rfl) (pv 1))
   (aV (j0 PassesOwn.never (c_ Jm (pv 3) aJ (eD _)) (bH (og (i:=2) (j:=3) rfl wg.nd rfl rfl (by decide) rfl rfl (aT (pv 3) (aT (bj f6 (pv 2) (pv 3)) bG)) rfl)))
   (bH (dn (qT (aT (bj fZ (pv 0) (pv 2)) (aT (bj fZ (pv 1) (pv 2)) bG))))))))),?_⟩
 refine ⟨_,rfl,t,rfl,_,rfl,?_⟩
 refine yF (λσ H'=>∃x y:Int,σ=[some (.int t),some (.int b),some (.int x),some (.int y)]∧H=H'∧0≤x∧0≤y∧Int.gcd x y=Int.gcd t b) (λσ _=>match σ with | [_,_,_,some (.int y)]=>y.toNat | _=>0)
  ⟨_,_,rfl,rfl,by split <;> omega,by omega,Ea t b⟩ ?_ (λσ H Q Q' m h=>?_)
 ·rintro σ H' ⟨x,y,rfl,rfl,hx,hy,hg'⟩
  dsimp! [rJoin]
  split
  ·rename_i hy0
   subst hy0
   have ex:x=((Int.gcd t b:Nat):Int):=by rw [← hg',A2 hx]
   subst ex
   refine ⟨⟨by omega,gb⟩,⟨by omega,gb⟩,(by show 2≤sizeLine;decide),λp hp=>?_⟩
   exact q p _ (bA.new hp _) (by rw [aE,u_ hb,den_pos hb])
  ·rename_i hy0
   have h1:=Int.emod_lt_of_pos x (show 0 < y by omega)
   have h2:=Int.emod_nonneg x hy0
   exact ⟨by omega,hy,h2,(xp hy0).trans hg',by omega⟩
 ·obtain ⟨v,e,hs,k,ek,hq⟩:=h
  exact ⟨v,e,hs,k,ek,m _ _ hq⟩
theorem FY {m n:Nat} {t b:Int} (hb:b≠0) (h1:Bd m t) (h2:Bd n b) (k:Nat) (hm:m≤k) (hn:n≤k):Sz k (Rat.divInt t b) :=
 ⟨(h1.le (Bf t b)).mono hm,(h2.le (uN hb)).mono hn⟩
theorem uY (p q:Rat):(p.den:Int) * (q.den:Int)≠0:=Int.mul_ne_zero (er p) (er q)
theorem Sz.add {m n k:Nat} {p q:Rat} (h:Sz m p) (g:Sz n q) (hk:m + n + 1≤k:=by decide):Sz k (p + q):=by
 rw [← add_eq]
 exact FY (uY p q) (.add (.mul h.num g.den (Ss _)) (.mul g.num h.den (Ss _)) (Ss _)) (.mul h.den g.den (Ss _)) k (by omega) (by omega)
theorem Sz.sub {m n k:Nat} {p q:Rat} (h:Sz m p) (g:Sz n q) (hk:m + n + 1≤k:=by decide):Sz k (p - q):=by
 rw [← sub_eq]
 exact FY (uY p q) (.sub (.mul h.num g.den (Ss _)) (.mul g.num h.den (Ss _)) (Ss _)) (.mul h.den g.den (Ss _)) k (by omega) (by omega)
theorem Sz.mul {m n k:Nat} {p:Rat} {i:Int} (h:Sz m p) (g:Bd n i) (hk:m + n≤k:=by decide):Sz k (p * i):=by
 rw [← mul_eq]
 exact FY (er p) (.mul h.num g (Ss _)) h.den k hk (by omega)
def OE (K:PySem.W.Frag) (g:Rat→Rat→Rat):Sp:=λvs H Q _=>∃(a b:Addr) (p q:Rat),vs=[.ref a,.ref b]∧Mt K H a p∧Mt K H b q∧Sz 4000 p∧Sz 4000 q∧MP H (g p q) Q
abbrev Ag:Stmt:=(top 14)
abbrev pP:List Str:=["one","two"]
theorem Ij:L2.av ["one","two"] ["one","two"] (L2.ai Ag):=dI
theorem Ho {f:Addr} {fd:FuncData} (F:b7 K "plus" "plus" Ag f fd) (Z:Dm mg) (bM:rV P w K mg base 2 "fraction" c5 gh):aH P w K mg base pZ 3 f fd pP (OE K λp q=>p + q):=by
 refine F.ok Ij (λvs H Q E h=>?_) (λcdv A outer s H vs Q E hr h=>?_)
 ·obtain ⟨a,b,p,q,rfl,_⟩:=h
  rfl
 obtain ⟨a,b,p,q,rfl,ha,hb,sp,sq,k⟩:=h
 refine ⟨_,(QB.run (bH (dn (x6 bM hr (by decide) rfl (aT (bj iP (bj cy (bW cH (pv 0) aJ (λ_ _=>rfl)) (bW cH (pv 1) aJ (λ_ _=>rfl))) (bj cy (bW cH (pv 1) aJ (λ_ _=>rfl)) (bW cH (pv 0) aJ (λ_ _=>rfl)))) (aT (bj cy (bW cH (pv 0) aJ (λ_ _=>rfl)) (bW cH (pv 1) aJ (λ_ _=>rfl))) bG)))))),?_⟩
 refine ⟨_,rfl,_,_,_,_,rfl,rfl,ha,rfl,_,rfl,_,_,_,_,rfl,rfl,hb,rfl,_,_,rfl,rfl,.of sp.num sq.den,_,rfl,_,_,_,_,rfl,rfl,hb,rfl,_,rfl,_,_,_,_,rfl,rfl,ha,rfl,_,_,rfl,rfl,.of sq.num sp.den,_,_,rfl,rfl,_,rfl,_,_,_,_,rfl,rfl,ha,rfl,_,rfl,_,_,_,_,rfl,rfl,hb,rfl,_,_,rfl,rfl,.of sp.den sq.den,_,_,rfl,uY p q,.mul sp.den sq.den,?_⟩
 rw [add_eq]
 exact k
abbrev v7:Stmt:=(top 15)
abbrev jY:List Str:=["one","two"]
theorem FD:L2.av ["one","two"] ["one","two"] (L2.ai v7):=dI
theorem EL {f:Addr} {fd:FuncData} (F:b7 K "minus" "minus" v7 f fd) (Z:Dm mg) (bM:rV P w K mg base 2 "fraction" c5 gh):aH P w K mg base pZ 3 f fd jY (OE K λp q=>p - q):=by
 refine F.ok FD (λvs H Q E h=>?_) (λcdv A outer s H vs Q E hr h=>?_)
 ·obtain ⟨a,b,p,q,rfl,_⟩:=h
  rfl
 obtain ⟨a,b,p,q,rfl,ha,hb,sp,sq,k⟩:=h
 refine ⟨_,(QB.run (bH (dn (x6 bM hr (by decide) rfl (aT (bj zH (bj cy (bW cH (pv 0) aJ (λ_ _=>rfl)) (bW cH (pv 1) aJ (λ_ _=>rfl))) (bj cy (bW cH (pv 1) aJ (λ_ _=>rfl)) (bW cH (pv 0) aJ (λ_ _=>rfl)))) (aT (bj cy (bW cH (pv 0) aJ (λ_ _=>rfl)) (bW cH (pv 1) aJ (λ_ _=>rfl))) bG)))))),?_⟩
 refine ⟨_,rfl,_,_,_,_,rfl,rfl,ha,rfl,_,rfl,_,_,_,_,rfl,rfl,hb,rfl,_,_,rfl,rfl,.of sp.num sq.den,_,rfl,_,_,_,_,rfl,rfl,hb,rfl,_,rfl,_,_,_,_,rfl,rfl,ha,rfl,_,_,rfl,rfl,.of sq.num sp.den,_,_,rfl,rfl,_,rfl,_,_,_,_,rfl,rfl,ha,rfl,_,rfl,_,_,_,_,rfl,rfl,hb,rfl,_,_,rfl,rfl,.of sp.den sq.den,_,_,rfl,uY p q,.mul sp.den sq.den,?_⟩
 rw [sub_eq]
 exact k
abbrev v9:Stmt:=(top 16)
abbrev mY:List Str:=["one","many"]
theorem FF:L2.av ["one","many"] ["one","many"] (L2.ai v9):=dI
def B0 (K:PySem.W.Frag):Sp:=λvs H Q _=>∃(a:Addr) (p:Rat) (m:Int),vs=[.ref a,.int m]∧Mt K H a p∧Sz 9000 p∧Bd 9000 m∧MP H (p * m) Q
theorem EN {f:Addr} {fd:FuncData} (F:b7 K "times" "times" v9 f fd) (Z:Dm mg) (bM:rV P w K mg base 2 "fraction" c5 gh):aH P w K mg base pZ 3 f fd mY (B0 K):=by
 refine F.ok FF (λvs H Q E h=>?_) (λcdv A outer s H vs Q E hr h=>?_)
 ·obtain ⟨a,p,m,rfl,_⟩:=h
  rfl
 obtain ⟨a,p,m,rfl,ha,sp,bm,k⟩:=h
 refine ⟨_,(QB.run (bH (dn (x6 bM hr (by decide) rfl (aT (bj cy (bW cH (pv 0) aJ (λ_ _=>rfl)) (pv 1)) (aT (bW cH (pv 0) aJ (λ_ _=>rfl)) bG)))))),?_⟩
 refine ⟨_,rfl,_,_,_,_,rfl,rfl,ha,rfl,_,rfl,_,_,rfl,rfl,.of sp.num bm,_,rfl,_,_,_,_,rfl,rfl,ha,rfl,_,_,rfl,er p,sp.den,?_⟩
 rw [mul_eq]
 exact k
abbrev Ad:Stmt:=(top 17)
abbrev fE:List Str:=["one","two"]
theorem Ih:L2.av ["one","two"] ["one","two"] (L2.ai Ad):=dI
def FL (K:PySem.W.Frag):Sp:=λvs H Q _=>∃(a b:Addr) (p q:Rat),vs=[.ref a,.ref b]∧Mt K H a p∧Mt K H b q∧Sz 9000 p∧Sz 9000 q∧Q (.bl (decide (p < q))) H
theorem G7 (p q:Rat):decide (p.num * q.den < q.num * p.den)=decide (p < q):=decide_eq_decide.mpr (Rat.lt_iff p q).symm
theorem Hn {f:Addr} {fd:FuncData} (F:b7 K "less" "less" Ad f fd) (Z:Dm mg):aH P w K mg base pZ 1 f fd fE (FL K):=by
 refine F.ok Ih (λvs H Q E h=>?_) (λcdv A outer s H vs Q E hr h=>?_)
 ·obtain ⟨a,b,p,q,rfl,_⟩:=h
  rfl
 obtain ⟨a,b,p,q,rfl,ha,hb,sp,sq,k⟩:=h
 refine ⟨_,(QB.run (bH (dn (pM Bj (bj cy (bW cH (pv 0) aJ (λ_ _=>rfl)) (bW cH (pv 1) aJ (λ_ _=>rfl))) (bj cy (bW cH (pv 1) aJ (λ_ _=>rfl)) (bW cH (pv 0) aJ (λ_ _=>rfl))) (eD _))))),?_⟩
 refine ⟨_,rfl,_,_,_,_,rfl,rfl,ha,rfl,_,rfl,_,_,_,_,rfl,rfl,hb,rfl,_,_,rfl,rfl,.of sp.num sq.den,_,rfl,_,_,_,_,rfl,rfl,hb,rfl,_,rfl,_,_,_,_,rfl,rfl,ha,rfl,_,_,rfl,rfl,.of sq.num sp.den,_,_,rfl,rfl,?_⟩
 show Q (.bl (decide (p.num * q.den < q.num * p.den))) H
 rw [G7]
 exact k
theorem A8 {K:PySem.W.Frag} {J:Hq} {H:Hp}:∀{ns:List Int} {vs:List V},aM K J H (ns.map PV.int) vs→vs=ns.map V.int
 | [],_,h=>h
 | n :: ns,_,⟨v,us,e,h,k⟩=>by subst e;cases h;rw [A8 k];rfl
theorem Lc {K:PySem.W.Frag} {J:Hq} {H:Hp} {x:PV} {vs:List V} (h:aM K J H [x] vs):∃v,vs=[v]∧b_ K J H x v:=by
 obtain ⟨v,us,rfl,h1,h2⟩:=h;cases h2;exact ⟨v,rfl,h1⟩
theorem je {K:PySem.W.Frag} {J:Hq} {H:Hp} {x y:PV} {vs:List V} (h:aM K J H [x,y] vs):∃v u,vs=[v,u]∧b_ K J H x v∧b_ K J H y u:=by
 obtain ⟨v,us,rfl,h1,u,us',rfl,h2,h3⟩:=h;cases h3;exact ⟨v,u,rfl,h1,h2⟩
theorem qo {K:PySem.W.Frag} {J:Hq} {H:Hp} {q:Rat} {v:V} (h:b_ K J H (fr q) v):∃a,v=.ref a∧Mt K H a q:=by
 obtain ⟨a,vs,rfl,h1,h2⟩:=h
 obtain ⟨x,y,rfl,r1,r2⟩:=je h2
 cases r1;cases r2
 exact ⟨a,rfl,h1⟩
theorem vU {K:PySem.W.Frag} {J:Hq} {H:Hp} {q:Rat} {Q2:PV→Hq→Prop} {Q:VK} (r:Rep K J H) (k:Kn K J H Q2 Q) (h:Q2 (fr q) J):MP H q Q:=λa H' s e =>
 k (fr q) J (.ref a) H' ⟨a,_,rfl,gr.of e,⟨_,_,rfl,rfl,_,_,rfl,rfl,rfl⟩⟩ (r.same s) (.same s) h
def wx:cx:=λxs J Q _=>∃(c:Int) (ss:List Int),xs=[.int c,.fl (ss.map .int)]∧(∀s∈ss,0 < s∧Bd 9000 s)∧ss.length≤1000∧∀ds,Dig ds ss→ds=xj c ss→Q (.fl (ds.map .int)) J
theorem xD (C:rV P w K mg base 1 "_law_digits" bX (rF K)):bz P w K mg base 1 "_law_digits" bX wx:=C.lift λxs J vs H Q2 E2 Q E rs r ⟨c,ss,ex,h0,h1,q⟩ kn=>by
 subst ex
 obtain ⟨v,u,rfl,r1,⟨a,ws,rfl,h2,h3⟩⟩:=je rs
 cases r1;cases A8 h3
 refine ⟨c,a,ss,rfl,h2.sq,h0,h1,λp H' ds hp s e D x=>kn (.fl (ds.map .int)) J (.ref p) H' ⟨p,_,rfl,.inl ⟨r.free hp,.inl e⟩,oj ds⟩ (r.same s) (.same s) (q ds D x)⟩
def rG:cx:=λxs J Q _=>∃t b:Int,xs=[.int t,.int b]∧0 < b∧Bd 9000 b∧Q (fr (Rat.divInt t b)) J
theorem EA (C:rV P w K mg base 1 "_law_low" fb JG):bz P w K mg base 1 "_law_low" fb rG:=C.lift λxs J vs H Q2 E2 Q E rs r ⟨t,b,ex,h0,h1,q⟩ kn=>by
 subst ex
 obtain ⟨v,u,rfl,r1,r2⟩:=je rs
 cases r1;cases r2
 exact ⟨t,b,rfl,h0,h1,vU r kn q⟩
def dh:cx:=λxs J Q _=>∃p q:Rat,xs=[fr p,fr q]∧Sz 9000 p∧Sz 9000 q∧Q (.bl (decide (p < q))) J
theorem CF (C:rV P w K mg base 1 "less" fE (FL K)):bz P w K mg base 1 "less" fE dh:=C.lift λxs J vs H Q2 E2 Q E rs r ⟨p,q,ex,h0,h1,z⟩ kn=>by
 subst ex
 obtain ⟨v,u,rfl,r1,r2⟩:=je rs
 obtain ⟨a,rfl,f1⟩:=qo r1
 obtain ⟨b,rfl,f2⟩:=qo r2
 exact ⟨a,b,p,q,rfl,f1,f2,h0,h1,kn (.bl _) J _ H rfl r .refl z⟩
def Ak (g:Rat→Rat→Rat):cx:=λxs J Q _=>∃p q:Rat,xs=[fr p,fr q]∧Sz 4000 p∧Sz 4000 q∧Q (fr (g p q)) J
theorem I_ {x:Str} {ps:List Str} {k:Nat} {g:Rat→Rat→Rat} (C:rV P w K mg base k x ps (OE K g)):bz P w K mg base k x ps (Ak g):=C.lift λxs J vs H Q2 E2 Q E rs r ⟨p,q,ex,h0,h1,z⟩ kn=>by
 subst ex
 obtain ⟨v,u,rfl,r1,r2⟩:=je rs
 obtain ⟨a,rfl,f1⟩:=qo r1
 obtain ⟨b,rfl,f2⟩:=qo r2
 exact ⟨a,b,p,q,rfl,f1,f2,h0,h1,vU r kn z⟩
theorem CG (C:rV P w K mg base 3 "plus" pP (OE K λp q=>p + q)):bz P w K mg base 3 "plus" pP (Ak λp q=>p + q):=I_ C
theorem zo (C:rV P w K mg base 3 "minus" jY (OE K λp q=>p - q)):bz P w K mg base 3 "minus" jY (Ak λp q=>p - q):=I_ C
def rK:cx:=λxs J Q _=>∃(p:Rat) (m:Int),xs=[fr p,.int m]∧Sz 9000 p∧Bd 9000 m∧Q (fr (p * m)) J
theorem zq (C:rV P w K mg base 3 "times" mY (B0 K)):bz P w K mg base 3 "times" mY rK:=C.lift λxs J vs H Q2 E2 Q E rs r ⟨p,m,ex,h0,h1,z⟩ kn=>by
 subst ex
 obtain ⟨v,u,rfl,r1,r2⟩:=je rs
 obtain ⟨a,rfl,f1⟩:=qo r1
 cases r2
 exact ⟨a,p,m,rfl,f1,h0,h1,vU r kn z⟩
def aS.V (l:aS):PV:=.tup [fr l.m,fr l.p,.int l.v]
theorem uq (m p:Rat) (v:Int):PV.tup [fr m,fr p,.int v]=(aS.mk m p v).V:=rfl
theorem Ba (J:Hq) (l:aS):fJ J l.V (.int 0)=some (fr l.m):=dq _ _
theorem Nc (J:Hq) (l:aS):fJ J l.V (.int 1)=some (fr l.p):=fQ _ _ _
theorem qB (J:Hq) (l:aS):fJ J l.V (.int 2)=some (.int l.v):=kT _ _ _ _
theorem PJ (a b:aS):eqQ a.V b.V=decide (a=b):=by
 unfold aS.V
 rw [uO,du,du,du,pH,AU,AU,eq_int,Tz,← TL,← TL]
 apply decide_eq_decide.mpr
 cases a;cases b
 simp [aS.mk.injEq]
theorem MS (a b:aS):(a.V=b.V)=(a=b):=by
 apply propext
 constructor
 ·intro e
  have:=PJ a b
  rw [e,eq_self] at this
  exact of_decide_eq_true this.symm
 ·intro e;rw [e]
def uk:cx:=λxs J Q _=>∃(l:aS) (t:Rat),xs=[l.V,fr t]∧Sz 900 l.m∧Sz 900 l.p∧Sz 900 t∧Bd 64 l.v∧Q (fr (l.at t)) J
abbrev lX:Stmt:=(top 25)
abbrev gA:List Str:=["leg","moment"]
theorem gG:L2.av ["leg","moment","begun","place","pace"] ["leg","moment"] (L2.ai lX):=dI
theorem vn {f:Addr} {fd:FuncData} (F:b7 K "place_on" "place_on" lX f fd) (Z:bL mg) (yO:bz P w K mg base 3 "plus" pP (Ak λp q=>p + q)) (md:bz P w K mg base 3 "minus" jY (Ak λp q=>p - q)) (uA:bz P w K mg base 3 "times" mY rK) :
  aH P w K mg base (cQ P w) 4 f fd gA (dk K uk):=by
 simp_arith [gG,(aj (ra (rv 0) (oq (n:=3) rfl (bY (bB (i:=2) gG.nd) (bY (bB (i:=3) gG.nd) (bY (bB (i:=4) gG.nd) kH)))))
   (ar (aB (aR yO B hr (af (rv 3) (af (aR uA B hr (af (aR md B hr (af (rv 1) (af (rv 2) ag))) (af (rv 4) ag))) ag))))))]
 ·obtain ⟨l,t,rfl,_⟩:=h;rfl
 obtain ⟨l,t,rfl,sb,sp,sm,bv,q⟩:=h
 have s1:Sz 1801 (t - l.m):=sm.sub sb
 have s2:Sz 1900 ((t - l.m) * (l.v:Rat)):=s1.mul bv
 refine hX ?_
 simp_arith! [bR,aS.V,Ak,rK]
 exact ⟨sm.mono (by decide),sb.mono (by decide),s1.mono (by decide),bv.mono (by decide),sp.mono (by decide),s2.mono (by decide),q⟩
theorem Kz (n:Int):PV.tup [.int n,.int 1]=fr (n:Rat):=rfl
def gv:Option Rat→PV
 | none=>.non
 | some q=>fr q
structure wU (cL:Addr) (J:Hq) (p r:Addr) (rows:List aS) (g:Option Rat):Prop where
 o:J p=some (.ins cL [("rows",.ref r),("gone",gv g)])
 l:J r=some (.lst (rows.map aS.V))
theorem wU.ne {cL:Addr} {J:Hq} {p r:Addr} {rows:List aS} {g:Option Rat} (h:wU cL J p r rows g):r≠p:=by
 intro e;subst e;have:=h.o;rw [h.l] at this;cases this
structure tL (n:Nat) (l:aS):Prop where
 m:Sz n l.m
 p:Sz n l.p
 v:Bd 64 l.v
theorem tL.mono {n k:Nat} {l:aS} (h:tL n l) (e:n≤k):tL k l:=⟨h.m.mono e,h.p.mono e,h.v⟩
theorem EB (a b:PV):([("rows",a),("gone",b)]:List (Str × PV)).lookup ("rows":Str)=some a:=rfl
theorem RC (a b:PV):([("rows",a),("gone",b)]:List (Str × PV)).lookup ("gone":Str)=some b:=rfl
theorem CH {m:Str} (a b:PV) (h:(m == ("rows":Str))=false) (k:(m == ("gone":Str))=false):([("rows",a),("gone",b)]:List (Str × PV)).lookup m=none:=by rw [S1,h];simp only;rw [S1,k];rfl
theorem NA (a b:PV):([("rows",a),("gone",b)]:List (Str × PV)).lookup ("turn":Str)=none:=CH a b (by decide +kernel) (by decide +kernel)
theorem P9 (a b:PV):([("rows",a),("gone",b)]:List (Str × PV)).lookup ("leave":Str)=none:=CH a b (by decide +kernel) (by decide +kernel)
theorem P_ (a b:PV):([("rows",a),("gone",b)]:List (Str × PV)).lookup ("legs":Str)=none:=CH a b (by decide +kernel) (by decide +kernel)
theorem Qa (a b:PV):([("rows",a),("gone",b)]:List (Str × PV)).lookup ("there":Str)=none:=CH a b (by decide +kernel) (by decide +kernel)
theorem Qb (a b:PV):([("rows",a),("gone",b)]:List (Str × PV)).lookup ("leg_at":Str)=none:=CH a b (by decide +kernel) (by decide +kernel)
theorem Qc (a b:PV):([("rows",a),("gone",b)]:List (Str × PV)).lookup ("twin":Str)=none:=CH a b (by decide +kernel) (by decide +kernel)
theorem EH:(("rows":Str)=("gone":Str))=False:=eq_false (by decide +kernel)
theorem mG {J:Hq} {l:Addr} {o:HQ} (h:J l=none):nE J (put J l o):=λa=>by
 by_cases e:a=l
 ·subst e;exact .inr h
 ·rw [ak e];exact .inl rfl
theorem HL (x z:PV):j2 ("gone":Str) z (j2 ("rows":Str) x [])=([("rows",x),("gone",z)]:List (Str × PV)):=by simp only [j2,EH,if_false]
abbrev gd:Stmt:=(L2.inClass (top 29) 0)
abbrev fk:List Str:=["self","moment","place","pace"]
theorem pB:L2.av ["self","moment","place","pace"] ["self","moment","place","pace"] (L2.ai gd):=dI
def wz (cL:Addr):cx:=λxs J Q _=>∃(p:Addr) (l:aS),xs=[.ref p,fr l.m,fr l.p,.int l.v]∧J p=some (.ins cL [])∧∀r,J r=none→Q .non (put (put J r (.lst [l.V])) p (.ins cL [("rows",.ref r),("gone",.non)]))
theorem xM {cL f:Addr} {fd:FuncData} (F:b7 K "__init__" "Log.__init__" gd f fd) (a7:dj K mg "Log" cL) (aG:aD K cL "rows") (bt:aD K cL "gone"):aH P w K mg base (cQ P w) 1 f fd fk (dk K (wz cL)):=by
 simp_arith [pB,(aj (dM a7.cl aG (rv 0) (q9 (af (cA (af (rv 1) (af (rv 2) (af (rv 3) ag)))) ag)))
   (ar (dM a7.cl bt (rv 0) lQ)))]
 ·obtain ⟨p,l,rfl,_⟩:=h;rfl
 obtain ⟨p,l,rfl,hp,q⟩:=h
 refine hX ?_
 simp_arith! [bR,uq]
 intro r hr'
 have ne:p≠r:=by intro e;subst e;rw [hp] at hr';cases hr'
 refine fi (by rw [ak ne];exact hp) ⟨by decide,fi aq ⟨by show (1:Nat) < 1000;decide,?_⟩⟩
 rw [eR,HL]
 exact q r hr'
abbrev lS:Stmt:=(L2.inClass (top 29) 1)
abbrev jU:List Str:=["self","moment","pace"]
theorem oY:L2.av ["self","moment","pace","place"] ["self","moment","pace"] (L2.ai lS):=dI
def wA (cL:Addr):cx:=λxs J Q _=>∃p r rows g t v,xs=[.ref p,fr t,.int v]∧wU cL J p r rows g∧rows≠[]∧rows.length≤900∧Sz 900 t∧(∀l∈rows,tL 900 l)∧Q .non (put J r (.lst ((turned rows t v).map aS.V)))
theorem xO {cL f:Addr} {fd:FuncData} (F:b7 K "turn" "Log.turn" lS f fd) (Z:bL mg) (a7:dj K mg "Log" cL) (aG:aD K cL "rows") (dH:bz P w K mg base 4 "place_on" gA uk):aH P w K mg base (cQ P w) 5 f fd jU (dk K (wA cL)):=by
 simp_arith [oY,(aj (aK (i:=3) oY.nd (aR dH B hr (af (aw ax (aP a7.cl aG (rv 0)) (ud oH ah)) (af (rv 1) ag))))
   (dF (a8 (aI (cP hr.aY) (aw ax (aw ax (aP a7.cl aG (rv 0)) (ud oH ah)) ah) (rv 1)) (ar (a_ (LM PySem.F.plainAttrs_list PySem.F.slot_list_pop PySem.F.type_list_pop K0 (aP a7.cl aG (rv 0))))) aO)
   (aj (a8 (dT (gY (LW (aP a7.cl aG (rv 0))) (fH (aI (cP hr.aY) (aw ax (aw ax (aP a7.cl aG (rv 0)) (ud oH ah)) ah) (rv 2))))) (ar Ic) aO)
   (ar (a_ (oW PySem.F.plainAttrs_list PySem.F.slot_list_append PySem.F.type_list_append kA (aP a7.cl aG (rv 0)) (af (cA (af (rv 1) (af (rv 3) (af (rv 2) ag)))) ag)))))))]
 ·obtain ⟨p,r,rows,g,t,v,rfl,_⟩:=h;rfl
 obtain ⟨p,r,rows,g,t,v,rfl,b,hne,hl,st,sl,q⟩:=h
 obtain ⟨ls,l,rfl⟩:∃ls l,rows=ls ++ [l]:=⟨rows.dropLast,rows.getLast hne,(Ta hne).symm⟩
 have bo:=b.o
 have bl:=b.l
 have npr:=b.ne
 have sl':=sl l (by simp)
 have hla:c7 ((ls ++ [l]).map aS.V) (-1)=some l.V:=by rw [Sw];exact AE _ _
 refine hX ?_
 simp_arith! [bR,bo,bl,EB]
 refine fj hla ⟨l,t,rfl,sl'.m,sl'.p,st,sl'.v,?_⟩
 obtain ⟨M,hM⟩:∃M:Sr→Hq→Prop,∀τ' J',M τ' J'↔τ'=[some (.ref p),some (fr t),some (.int v),some (fr (l.at t))]∧J'=put J r (.lst ((if l.m=t then ls else ls ++ [l]).map aS.V)):=⟨_,λ_ _=>Iff.rfl⟩
 refine ⟨M,?_,?_⟩
 ·simp_arith! [bR,bo,bl,EB,hla,Ba]
  split
  ·rename_i e
   refine ⟨l.V,by simp,(hM _ _).mpr ⟨rfl,?_⟩⟩
   rw [if_pos e,Sw,Sx,Ts,Ue]
  ·rename_i e
   exact (hM _ _).mpr ⟨rfl,by rw [if_neg e,zV bl]⟩
 ·intro τ' J' hm
  obtain ⟨rfl,rfl⟩:=(hM _ _).mp hm
  clear hm hM M
  have et:turned (ls ++ [l]) t v=if (if l.m=t then ls else ls ++ [l]).getLast?.map aS.v=some v then (if l.m=t then ls else ls ++ [l]) else (if l.m=t then ls else ls ++ [l]) ++ [⟨t,l.at t,v⟩]:=by
   unfold turned
   simp only [S5,Ue]
  have hrl:(if l.m=t then ls else ls ++ [l]).length≤900:=by
   split
   ·rw [SQ] at hl;omega
   ·exact hl
  rw [et] at q
  generalize (if l.m=t then ls else ls ++ [l])=rest at q hrl ⊢
  simp_arith! [bR,ak (Ne.symm npr),bo,EB,eR,uq]
  rcases List.eq_nil_or_concat rest with rfl | ⟨ks,k,rfl⟩
  ·simp only [List.getLast?_nil,Option.map_none,reduceCtorEq,if_false,List.nil_append] at q
   simpa [Ja,sizeLine] using q
  ·rw [List.concat_eq_append] at *
   rw [S5,UI] at q
   have hk:c7 ((ks ++ [k]).map aS.V) (-1)=some k.V:=by rw [Sw];exact AE _ _
   rw [if_pos (by simp)]
   simp_arith! [bR,ak (Ne.symm npr),bo,EB,hk,qB,Sm]
   by_cases e:k.v=v
   ·rw [if_pos e];rw [if_pos (congrArg some e)] at q;exact q
   ·rw [if_neg e];rw [if_neg (λz=>e (Option.some.inj z))] at q
    simp_arith! [bR,ak (Ne.symm npr),bo,EB,eR,uq,Sm]
    refine ⟨ba (by omega),?_⟩
    rw [Sw] at q
    exact q
abbrev lR:Stmt:=(L2.inClass (top 29) 3)
abbrev oS:List Str:=["self"]
theorem yj:L2.av ["self"] ["self"] (L2.ai lR):=dI
def BQ (cL:Addr):cx:=λxs J Q _=>∃p r rows g,xs=[.ref p]∧wU cL J p r rows g∧(Q (.fl (rows.map aS.V)) J∨∀l,J l=none→Q (.ref l) (put J l (.lst (rows.map aS.V))))
theorem xN {cL f:Addr} {fd:FuncData} (F:b7 K "legs" "Log.legs" lR f fd) (Z:bL mg) (a7:dj K mg "Log" cL) (aG:aD K cL "rows"):aH P w K mg base (cQ P w) 1 f fd oS (dk K (BQ cL)):=by
 simp_arith [yj,(ar (aB (de ig rfl Z.list boot_list (af (aP a7.cl aG (rv 0)) ag)))),F]
 ·obtain ⟨p,r,rows,g,rfl,_⟩:=h;rfl
 obtain ⟨p,r,rows,g,rfl,b,q⟩:=h
 have bo:=b.o
 have bl:=b.l
 refine hX ?_
 simp_arith! [bR,bo,bl,EB]
 intro l hl
 rcases q with q | q
 ·exact Fg.qp (mG hl) aq hl q
 ·exact Fg.same (q l hl)
theorem R8 {rows:List aS} {i:Nat} {b:aS} (h:rows[i]?=some b):c7 (rows.map aS.V) (i:Int)=some b.V:=bx (by rw [SA,h];rfl)
abbrev ot:Stmt:=(top 19)
abbrev qX:List Str:=["rows","moment"]
theorem lZ:L2.av ["rows","moment","at"] ["rows","moment"] (L2.ai ot):=dI
def yu:cx:=λxs J Q _=>∃(x:PV) (t:Rat) (ys:List PV) (ms:List Rat),xs=[x,fr t]∧jG J x=some ys∧ys.length=ms.length∧ms.length≤900∧(∀(i:Nat) y m,ys[i]?=some y→ms[i]?=some m→fJ J y (.int 0)=some (fr m))∧Sz 9000 t∧(∀m∈ms,Sz 9000 m)∧Q (.int ((lb ms t ms.length:Int) - 1)) J
theorem xR {f:Addr} {fd:FuncData} (F:b7 K "last_by" "last_by" ot f fd) (Z:bL mg) (dG:bz P w K mg base 1 "less" fE dh):aH P w K mg base (cQ P w) 2 f fd qX (dk K yu):=by
 simp_arith [lZ,(aj (aK (i:=2) lZ.nd (aZ f7 (aQ cb rfl Z.len boot_len (af (rv 0) ag)) ah))
   (aj (rb cG (dT (gY (aI E4 (rv 2) ah) (fH (bO (aR dG B hr (af (rv 1) (af (aw ax (aw ax (rv 0) (rv 2)) ah) ag))))))) (ar (Fz (i:=2) lZ.nd ah Ej)))
   (ar (aB (rv 2)))))]
 ·obtain ⟨x,t,ys,ms,rfl,_⟩:=h;rfl
 obtain ⟨x,t,ys,ms,rfl,hx,hlen,hl,h0,st,sm,q⟩:=h
 refine hX ?_
 simp_arith! [bR,ED hx,hlen]
 refine ⟨λk τ J'=>∃j:Nat,τ=[some x,some (fr t),some (.int ((j:Int) - 1))]∧J'=J∧j≤ms.length∧k=j∧lb ms t ms.length=lb ms t j,⟨_,ms.length,rfl,rfl,Ss _,rfl,rfl⟩,?_⟩
 rintro k τ J' ⟨j,rfl,rfl,hj,rfl,hb⟩
 simp_arith! [bR,Jc hx,dh]
 cases k with
 | zero =>
  rw [if_neg (by omega)]
  rw [hb] at q
  exact q
 | succ k =>
  rw [if_pos (by omega)]
  obtain ⟨y,hy⟩:∃y,ys[k]?=some y:=⟨_,So (by omega)⟩
  obtain ⟨m,hm⟩:∃m,ms[k]?=some m:=⟨_,So (by omega)⟩
  have ha:c7 ys (((k + 1:Nat):Int) - 1)=some y:=by
   have:((k + 1:Nat):Int) - 1=(k:Int):=by omega
   rw [this];exact bx hy
  have em:ms.getD k 0=m:=by simp [Vw,hm]
  have hu:lb ms t (k + 1)=if m≤t then k + 1 else lb ms t k:=by
   show (if ms.getD k 0≤t then k + 1 else lb ms t k)=_
   rw [em]
  refine fj ha (fj (h0 k y m hy hm) ?_)
  simp_arith! [bR]
  refine ⟨st,sm m (Su hm),?_⟩
  by_cases c:t < m
  ·rw [if_pos c]
   have hn:¬ m≤t:=Rat.not_le.mpr c
   rw [if_neg hn] at hu
   refine ⟨λτ J''=>τ=[some x,some (fr t),some (.int ((k:Int) - 1))]∧J''=J',λτ' J'' ⟨e1,e2⟩=>⟨k,TU _,k,e1,e2,by omega,rfl,by rw [hb,hu]⟩,?_⟩
   simp_arith! [bR]
   have:((k + 1:Nat):Int) - 1 - 1=(k:Int) - 1:=by omega
   exact this
  ·rw [if_neg c]
   rw [if_pos (Rat.not_lt.mp c)] at hu
   rw [hb,hu] at q
   exact q
abbrev j9:Stmt:=(L2.inClass (top 29) 5)
abbrev mS:List Str:=["self","moment"]
theorem m8:L2.av ["self","moment","joined"] ["self","moment"] (L2.ai j9):=dI
def yt (cL:Addr):cx:=λxs J Q _=>∃p r rows g t,xs=[.ref p,fr t]∧wU cL J p r rows g∧rows≠[]∧Sz 900 t∧(∀l∈rows,tL 900 l)∧(∀q,g=some q→Sz 900 q)∧Q (.bl (there rows g t)) J
theorem vh {cL f:Addr} {fd:FuncData} (F:b7 K "there" "Log.there" j9 f fd) (Z:bL mg) (a7:dj K mg "Log" cL) (aG:aD K cL "rows") (bt:aD K cL "gone") (dG:bz P w K mg base 1 "less" fE dh):aH P w K mg base (cQ P w) 2 f fd mS (dk K (yt cL)):=by
 simp_arith [m8,(aj (aK (i:=2) m8.nd (aw ax (aw ax (aP a7.cl aG (rv 0)) ah) ah))
   (aj (a8 (bO (aR dG B hr (af (rv 1) (af (rv 2) ag)))) (ar (aB gB)) aO)
   (ar (aB (OA (gX NV (aP a7.cl bt (rv 0)) lQ) (vS (aR dG B hr (af (rv 1) (af (aP a7.cl bt (rv 0)) ag)))))))))]
 ·obtain ⟨p,r,rows,g,t,rfl,_⟩:=h;rfl
 obtain ⟨p,r,rows,g,t,rfl,b,hne,st,sl,sg,q⟩:=h
 have bo:=b.o
 have bl:=b.l
 obtain ⟨l,ls,rfl⟩:∃l ls,rows=l :: ls:=TQ hne
 have sl':=(sl l (by simp)).m
 refine hX ?_
 simp_arith! [bR,bo,bl,EB,RC,Ba,dh]
 refine ⟨st.mono (by decide),sl'.mono (by decide),?_⟩
 unfold there at q
 simp only [UL] at q
 by_cases c:t < l.m
 ·rw [if_pos c]
  rw [decide_eq_true c] at q
  exact q
 ·rw [if_neg c]
  rw [decide_eq_false c] at q
  cases g with
  | none=>simpa [gv,Na,JM,O4] using q
  | some u =>
   simp only [gv,qA,SJ,if_false]
   simp only [O4] at q
   refine ⟨u,rfl,st.mono (by decide),(sg u rfl).mono (by decide),?_⟩
   simpa using q
abbrev i_:Stmt:=(L2.inClass (top 29) 6)
abbrev k8:List Str:=["self","moment"]
theorem tG:L2.av ["self","moment"] ["self","moment"] (L2.ai i_):=dI
def yr (cL eN:Addr):cx:=λxs J Q E=>∃p r rows g t,xs=[.ref p,fr t]∧wU cL J p r rows g∧rows≠[]∧rows.length≤900∧Sz 900 t∧(∀l∈rows,tL 900 l)∧(∀q,g=some q→Sz 900 q)∧(there rows g t=true→∀l,xB rows t=some l→Q l.V J)∧(there rows g t=false→E eN J)
theorem tq {cL eN f:Addr} {fd:FuncData} (F:b7 K "leg_at" "Log.leg_at" i_ f fd) (Z:bL mg) (a7:dj K mg "Log" cL) (aG:aD K cL "rows") (fM:Own K mg "NotThere" eN) (jL:cn P w K mg base cL 2 "there" mS (yt cL))
  (Cb:bz P w K mg base 2 "last_by" qX yu):aH P w K mg base (cQ P w) 3 f fd k8 (dk K (yr cL eN)):=by
 simp_arith [tG,(aj (a8 (cK (bO (bp (pl:=_) jL B hr (rv 0) (af (rv 1) ag)))) (ar (dz fM rfl cu B.kn rfl (af bJ ag))) aO)
   (ar (aB (aw ax (aP a7.cl aG (rv 0)) (aR Cb B hr (af (aP a7.cl aG (rv 0)) (af (rv 1) ag)))))))]
 ·obtain ⟨p,r,rows,g,t,rfl,_⟩:=h;rfl
 obtain ⟨p,r,rows,g,t,rfl,b,hne,hl,st,sl,sg,q,qe⟩:=h
 have bo:=b.o
 have bl:=b.l
 refine hX ?_
 simp_arith! [bR,bo,bl,EB]
 refine ⟨Qa _ _,p,r,rows,g,t,rfl,b,hne,st,sl,sg,?_⟩
 simp_arith! [bR,fo,bo,bl,EB]
 cases hc:there rows g t with
 | false=>rw [if_pos rfl];exact qe hc
 | true =>
  rw [if_neg (by decide)]
  obtain ⟨l,h1,h2,h3,h4,h5⟩:=F7 hc
  refine ⟨_,t,rows.map aS.V,rows.map aS.m,rfl,by simp_arith! [bR,bl],by simp,by simpa using hl,?_,st.mono (by decide),?_,?_⟩
  ·intro i y m hy hm
   rw [SA] at hy hm
   cases e:rows[i]? with
   | none=>rw [e] at hy;cases hy
   | some z=>rw [e] at hy hm;cases hy;cases hm;exact Ba _ _
  ·intro m hm
   obtain ⟨z,hz,rfl⟩:=Sn.mp hm
   exact (sl z hz).m.mono (by decide)
  ·rw [Sm]
   simp_arith! [bR,bl]
   refine fj (x:=l.V) ?_ (q hc l h1)
   have:((lb (rows.map aS.m) t rows.length:Nat):Int) - 1=((lb (rows.map aS.m) t rows.length - 1:Nat):Int):=by omega
   rw [this]
   exact R8 h5
abbrev j8:Stmt:=(L2.inClass (top 29) 2)
abbrev mR:List Str:=["self","moment"]
theorem wd:L2.av ["self","moment"] ["self","moment"] (L2.ai j8):=dI
def yq (cL:Addr):cx:=λxs J Q _=>∃p r rows g t,xs=[.ref p,fr t]∧wU cL J p r rows g∧Q .non (put J p (.ins cL [("rows",.ref r),("gone",fr t)]))
theorem HK (a b z:PV):j2 ("gone":Str) z ([("rows",a),("gone",b)]:List (Str × PV))=([("rows",a),("gone",z)]:List (Str × PV)):=by simp only [j2,EH,if_false,if_true]
theorem Bq (a b z:PV):j2 ("rows":Str) z ([("rows",a),("gone",b)]:List (Str × PV))=([("rows",z),("gone",b)]:List (Str × PV)):=by simp only [j2,if_true]
theorem vg {cL f:Addr} {fd:FuncData} (F:b7 K "leave" "Log.leave" j8 f fd) (Z:bL mg) (a7:dj K mg "Log" cL) (bt:aD K cL "gone"):aH P w K mg base (cQ P w) 1 f fd mR (dk K (yq cL)):=by
 simp_arith [wd,(ar (dM a7.cl bt (rv 0) (rv 1)))]
 ·obtain ⟨p,r,rows,g,t,rfl,_⟩:=h;rfl
 obtain ⟨p,r,rows,g,t,rfl,b,q⟩:=h
 have bo:=b.o
 refine hX ?_
 simp_arith! [bR,bo,EH]
 exact ⟨by decide,q⟩
theorem nI {l:aS} {t:Rat} (h:tL 900 l) (sm:Sz 900 t):Sz 3000 (l.at t):=by
 have s1:Sz 1801 (t - l.m):=sm.sub h.m
 have s2:Sz 1900 ((t - l.m) * (l.v:Rat)):=s1.mul h.v
 exact h.p.add s2
abbrev g8:Stmt:=(top 27)
abbrev jX:List Str:=["name","leg","other_name","other_leg","moment"]
theorem gg:L2.av ["name","leg","other_name","other_leg","moment","place","other_place"] ["name","leg","other_name","other_leg","moment"] (L2.ai g8):=dI
def FN:cx:=λxs J Q _=>∃(n n':Str) (l l':aS) (t:Rat),xs=[.str n,l.V,.str n',l'.V,fr t]∧tL 900 l∧tL 900 l'∧Sz 900 t∧Q (.bl ((key t (n,l)).lt (key t (n',l')))) J
theorem pw {f:Addr} {fd:FuncData} (F:b7 K "lies_behind" "lies_behind" g8 f fd) (Z:bL mg) (dH:bz P w K mg base 4 "place_on" gA uk) (dG:bz P w K mg base 1 "less" fE dh):aH P w K mg base (cQ P w) 5 f fd jX (dk K FN):=by
 simp_arith [gg,(aj (aK (i:=5) gg.nd (aR dH B hr (af (rv 1) (af (rv 4) ag))))
   (aj (aK (i:=6) gg.nd (aR dH B hr (af (rv 3) (af (rv 4) ag))))
   (aj (a8 (aI (mL hr.aY) (rv 5) (rv 6)) (ar (aB (aR dG B hr (af (rv 5) (af (rv 6) ag))))) aO)
   (aj (a8 (aI (mL hr.aY) (aw ax (rv 1) ah) (aw ax (rv 3) ah)) (ar (aB (gX kU (aw ax (rv 1) ah) (aw ax (rv 3) ah)))) aO)
   (ar (aB (gX Lk (rv 0) (rv 2))))))))]
 ·obtain ⟨n,n',l,l',t,rfl,_⟩:=h;rfl
 obtain ⟨n,n',l,l',t,rfl,sl,sl',st,q⟩:=h
 refine hX ?_
 simp_all! []
 refine ⟨l,t,rfl,sl.m,sl.p,st,sl.v,?_⟩
 simp_all! []
 refine ⟨l',t,rfl,sl'.m,sl'.p,st,sl'.v,?_⟩
 have a1:=nI sl st
 have a2:=nI sl' st
 simp_all! []
 unfold Ky.lt key at q
 dsimp only at q
 by_cases e:l.at t=l'.at t
 ·rw [if_pos e] at q
  rw [if_pos e]
  simp_all! [qB]
  by_cases e2:l.v=l'.v
  ·rw [if_pos e2] at q
   rw [if_pos e2]
   simp_all! []
   exact q
  ·rw [if_neg e2] at q
   rw [if_neg e2]
   simp_all! [qB]
   exact q
 ·rw [if_neg e] at q
  rw [if_neg e]
  simp_all! [dh]
  exact ⟨a1.mono (by decide),a2.mono (by decide),q⟩
abbrev lV:Stmt:=(top 41)
abbrev oU:List Str:=["legs","moment"]
theorem ff:L2.av ["legs","moment","names","name","at"] ["legs","moment"] (L2.ai lV):=dI
def bU (fs:List (Str × aS)):List (Str × PV):=fs.map λx=>(x.1,x.2.V)
def uj:cx:=λxs J Q _=>∃(D:Addr) (fs:List (Str × aS)) (ep:Nat) (t:Rat),xs=[.ref D,fr t]∧J D=some (.dct (bU fs) ep)∧(fs.map (·.1)).Nodup∧fs.length≤100∧Sz 900 t∧(∀x∈fs,tL 900 x.2)∧∀p,J p=none→Q (.ref p) (put J p (.lst ((cg t fs).map .str)))
theorem vj {f:Addr} {fd:FuncData} (F:b7 K "in_order" "in_order" lV f fd) (Z:bL mg) (r8:bz P w K mg base 5 "lies_behind" jX FN):aH P w K mg base (cQ P w) 6 f fd oU (dk K uj):=by
 simp_arith [ff,(aj (aK (i:=2) ff.nd (q9 ag))
   (aj (fq cG rfl (BH (rv 0)) (bB (i:=3) ff.nd) (aj (aK (i:=4) ff.nd (aQ cb rfl Z.len boot_len (af (rv 2) ag)))
   (aj (rb cG (dT (gY (aI oR (rv 4) ah) (fH (bO (aR r8 B hr (af (rv 3) (af (aw fT (rv 0) (rv 3)) (af (aw ax (rv 2) (aZ f7 (rv 4) ah)) (af (aw fT (rv 0) (aw ax (rv 2) (aZ f7 (rv 4) ah))) (af (rv 1) ag)))))))))) (ar (Fz (i:=4) ff.nd ah Ej)))
   (ar (a_ (oW PySem.F.plainAttrs_list PySem.F.slot_list_insert PySem.F.type_list_insert ua (rv 2) (af (rv 4) (af (rv 3) ag))))))))
   (ar (aB (rv 2)))))]
 ·obtain ⟨D,fs,ep,t,rfl,_⟩:=h;rfl
 obtain ⟨D,fs,ep,t,rfl,hD,hnd,hlen,st,sl,q⟩:=h
 refine hX ?_
 simp_all! []
 intro r hr'
 have nDr:D≠r:=by intro e;subst e;rw [hD] at hr';cases hr'
 simp_all! [ak nDr,hD]
 have hkv:(bU fs).map (λkv=>PV.str kv.1)=fs.map λx=>PV.str x.1:=by unfold bU;rw [Sy];rfl
 rw [hkv]
 obtain ⟨Inv,hInv⟩:∃Inv:Nat→Sr→Hq→Prop,∀i τ J',Inv i τ J'↔∃(u3 u4:Option PV),τ=[some (.ref D),some (fr t),some (.ref r),u3,u4]∧J'=put J r (.lst ((cg t (fs.take i)).map .str)):=⟨_,λ_ _ _=>Iff.rfl⟩
 refine gM Inv ((hInv _ _ _).mpr ⟨_,_,rfl,rfl⟩) (λi τ J' h=>?_) ?_ ?_
 ·obtain ⟨_,_,_,rfl⟩:=(hInv _ _ _).mp h
  rw [ak nDr];exact hD
 ·intro i x τ J' hx hv
  obtain ⟨u3,u4,rfl,rfl⟩:=(hInv _ _ _).mp hv
  clear hv
  have hi:i < fs.length:=by have:=(Sq.mp hx).1;simpa using this
  rw [SA,So hi] at hx
  cases hx
  rcases hfi:fs[i] with ⟨n,l⟩
  have hmem:(n,l)∈fs:=by rw [← hfi];exact Td hi
  have et:fs.take (i + 1)=fs.take i ++ [(n,l)]:=by rw [S4,So hi,hfi];rfl
  have hndt:((fs.take (i + 1)).map (·.1)).Nodup:=by rw [Ug];exact hnd.sublist (TN _ _)
  rw [et,Sw,Sx,Ts] at hndt
  obtain ⟨hnd1,hnew⟩:=fW hndt
  obtain ⟨ys,hys⟩:∃ys,cD ((fs.take i).map (key t))=ys:=⟨_,rfl⟩
  have srt:sI Ky.lt ys:=by rw [← hys];exact dw (by rw [dR];exact hnd1)
  have hyl:ys.length=i:=by rw [← hys,qM,Sm,SW];omega
  have hym:∀y∈ys,∃l',(y.n,l')∈fs∧y=key t (y.n,l')∧y.n≠n:=λy hy=>by
   rw [← hys,bF,Sn] at hy
   obtain ⟨x',hx',rfl⟩:=hy
   exact ⟨x'.2,TR hx',rfl,λe=>hnew (Sn.mpr ⟨x',hx',e⟩)⟩
  have eo:(cg t (fs.take i)).map PV.str=ys.map λy=>PV.str y.n:=by unfold cg;rw [hys,Sy];rfl
  have en:(cg t (fs.take (i + 1))).map PV.str=(qx Ky.lt (key t (n,l)) ys).map λy=>PV.str y.n:=by
   unfold cg;rw [et,Sw,Sx,Ts,kB,hys,Sy];rfl
  rw [eo]
  have hvn:nv (bU fs) n=some l.V:=oI (f:=aS.V) hnd hmem
  have sll:=sl _ hmem
  simp_all! [aq,Sm]
  refine ⟨λm τ' J'=>m≤ys.length∧τ'=[some (.ref D),some (fr t),some (.ref r),some (.str n),some (.int (m:Nat))]∧J'=put J r (.lst (ys.map λy=>PV.str y.n))∧∀(j:Nat) y,m≤j→ys[j]?=some y→(key t (n,l)).lt y=true,⟨ys.length,Ss _,rfl,rfl,λj y hj e=>by rw [TK hj] at e;cases e⟩,?_⟩
  rintro m τ' J' ⟨hm,rfl,rfl,hall⟩
  have fin:(∀(j:Nat) y,j < m→ys[j]?=some y→y.lt (key t (n,l))=true)→Inv (i + 1) [some (.ref D),some (fr t),some (.ref r),some (.str n),some (.int (m:Nat))] (put J r (.lst ((ys.map λy=>PV.str y.n).take m ++ .str n :: (ys.map λy=>PV.str y.n).drop m))):=λhlow=>by
   refine (hInv _ _ _).mpr ⟨_,_,rfl,?_⟩
   rw [en,← G1 hm hlow λj y hj e=>Ky.MT (hall j y hj e),Sw,Sx,Ug,UX]
   rfl
  simp_all! [aq,ak nDr,hD,hvn]
  by_cases c0:0 < m
  ·rw [if_pos (by omega)]
   obtain ⟨m',rfl⟩:∃m',m=m' + 1:=⟨m - 1,by omega⟩
   obtain ⟨y,hy⟩:∃y,ys[m']?=some y:=⟨_,So (by omega)⟩
   obtain ⟨l',hl',ey,ny⟩:=hym y (Su hy)
   have ha:c7 (ys.map λy=>PV.str y.n) (((m' + 1:Nat):Int) - 1)=some (.str y.n):=by
    rw [show ((m' + 1:Nat):Int) - 1=((m':Nat):Int) by omega]
    exact bx (by rw [SA,hy];rfl)
   have hvy:nv (bU fs) y.n=some l'.V:=oI (f:=aS.V) hnd hl'
   simp_all! [ha,aq,ak nDr,hD,hvn,hvy]
   refine ⟨n,y.n,l,l',t,rfl,sll,sl _ hl',st,?_⟩
   rw [← ey]
   cases hc:(key t (n,l)).lt y with
   | true =>
    simp_all! []
    refine ⟨_,λτ'' J'' h=>⟨m',TU _,h⟩,⟨by omega,?_,rfl,λj z hj e=>?_⟩⟩
    ·rw [show ((m' + 1:Nat):Int) - 1=((m':Nat):Int) by omega]
    ·rcases Uo hj with h | h
     ·exact hall j z (by omega) e
     ·subst h;rw [hy] at e;cases e;exact hc
   | false =>
    simp_all! [aq]
    refine ⟨_,m' + 1,rfl,rfl,by rw [Sm];omega,ba (by rw [Sm];omega),by omega,?_⟩
    rw [eR]
    refine fin λj z hj e=>?_
    have hyx:y.lt (key t (n,l))=true:=by
     rcases Ky.OM (a:=y) (b:=key t (n,l)) ny with h | h
     ·exact h
     ·rw [hc] at h;cases h
    exact FU (lt:=Ky.lt) Ky.tr srt hy e (by omega) hyx
  ·rw [if_neg (by omega)]
   simp_all! [aq]
   refine ⟨_,m,rfl,rfl,by rw [Sm];omega,ba (by rw [Sm];omega),by omega,?_⟩
   rw [eR]
   exact fin λj z hj e=>by omega
 ·intro τ J' hv
  obtain ⟨u3,u4,rfl,rfl⟩:=(hInv _ _ _).mp hv
  rw [Sm,S3]
  simp_all! []
  exact q r hr'
def p_ (K:PySem.W.Frag) (mg:Str→Option Value):Prop:=∃a:Addr,mg "NOUGHT"=some (.ref a)∧∀H:Hp,gr K H a [.int 0,.int 1]
theorem CO {K:PySem.W.Frag} {h:Heap} {mg:Str→Option Value} (X:K.In h) (G:h.Ns mainGlobals mg) {a:Addr} {od:Option Addr} {n:Nat} {sl:Array (Option Value)} {t u:Tok}
  (e:PySem.W.nsIn K mainGlobals "NOUGHT"=some (some (.ref a))) (l:K.lookup a=some ⟨.type "tuple",od,.seq #[.int 0 t,.int 1 u] n,sl⟩):p_ K mg :=
 ⟨a,PySem.W.mg_of X G e,λ_=>.inr ⟨_,_,_,l,rfl,rfl,(by show 2≤sizeLine;decide),.cons ⟨t,rfl⟩ (.cons ⟨u,rfl⟩ .nil)⟩⟩
structure Cf where
 n:Str
 a:Addr
 r:Addr
 w:List aS
 g:Option Rat
structure Ln where
 t:Rat
 d:Addr
 e:Nat
 o:Addr
 cs:List Cf
 row:List Str
def Cf.cur (c:Cf):aS:=c.w.getLast?.getD ⟨0,0,0⟩
def Ln.Br (L:Ln):List Cf:=L.cs.filter λc=>c.g.isNone
def Ln.fs (L:Ln):List (Str × aS):=L.Br.map λc=>(c.n,c.cur)
structure aW (cN cL:Addr) (J:Hq) (p:Addr) (L:Ln):Prop where
 ob:J p=some (.ins cN [("now",fr L.t),("logs",.ref L.d),("row",.ref L.o)])
 dc:J L.d=some (.dct (L.cs.map λc=>(c.n,PV.ref c.a)) L.e)
 rw:J L.o=some (.lst (L.row.map .str))
 lg:∀c∈L.cs,wU cL J c.a c.r c.w c.g
 ap:(L.cs.map Cf.r).Nodup
 ao:∀c∈L.cs,c.r≠L.o
structure a9 (L:Ln):Prop where
 nd:(L.cs.map Cf.n).Nodup
 ne:∀c∈L.cs,c.w≠[]
 le:∀c∈L.cs,∀l∈c.w,l.m≤L.t
 ck:∀c∈L.cs,∀l∈c.w,rY l
 len:∀c∈L.cs,c.w.length≤200
 gz:∀c∈L.cs,∀q,c.g=some q→Sc gK MM q∧q≤L.t
 t0:0≤L.t
 ts:Sc gK MM L.t
 many:L.cs.length≤100
 rm:∀n,n∈L.row↔n∈L.fs.map (·.1)
 rn:L.row.Nodup
 rl:L.row.length≤12
structure bN (L:Ln):Prop extends a9 L where
 row:L.row=cg L.t L.fs
def Ln.own (L:Ln) (p a:Addr):Prop:=a=p∨a=L.d∨a=L.o∨∃c∈L.cs,a=c.a∨a=c.r
structure Mv (J J':Hq) (S S':Addr→Prop):Prop where
 keep:∀a o,J a=some o→¬ S a→J' a=some o
 own:∀a,S' a→S a∨J a=none
 mono:∀a,J' a=none→J a=none
theorem Mv.refl (J:Hq) (S:Addr→Prop):Mv J J S S:=⟨λ_ _ h _=>h,λ_ h=>.inl h,λ_ h=>h⟩
theorem Mv.trans {J J' J'':Hq} {S S' S'':Addr→Prop} (h:Mv J J' S S') (k:Mv J' J'' S' S''):Mv J J'' S S'':=by
 refine ⟨λa o e n=>k.keep a o (h.keep a o e n) λz=>?_,λa z=>?_,λa z=>h.mono a (k.mono a z)⟩
 ·rcases h.own a z with q | q
  ·exact n q
  ·rw [q] at e;cases e
 ·rcases k.own a z with q | q
  ·exact h.own a q
  ·exact .inr (h.mono a q)
theorem Mv.new {J:Hq} {S:Addr→Prop} {x:Addr} {o:HQ} (h:J x=none):Mv J (put J x o) S S:=by
 refine ⟨λa u e _=>?_,λ_ z=>.inl z,λa z=>?_⟩
 ·rw [ak (λq=>by subst q;rw [h] at e;cases e)];exact e
 ·by_cases q:a=x
  ·subst q;rw [aq] at z;cases z
  ·rw [ak q] at z;exact z
theorem Mv.sS {J:Hq} {S:Addr→Prop} {x:Addr} {o:HQ} (h:J x=none):Mv J (put J x o) S (λa=>S a∨a=x) :=
 ⟨(Mv.new (S:=S) h).keep,λa z=>z.elim .inl λe=>.inr (by rw [e];exact h),(Mv.new (S:=S) h).mono⟩
theorem aW.keep {cN cL:Addr} {J J':Hq} {p:Addr} {L:Ln} (h:aW cN cL J p L) (k:∀a o,L.own p a→J a=some o→J' a=some o):aW cN cL J' p L :=
 ⟨k _ _ (.inl rfl) h.ob,k _ _ (.inr (.inl rfl)) h.dc,k _ _ (.inr (.inr (.inl rfl))) h.rw,λc hc=>⟨k _ _ (.inr (.inr (.inr ⟨c,hc,.inl rfl⟩))) (h.lg c hc).o,k _ _ (.inr (.inr (.inr ⟨c,hc,.inr rfl⟩))) (h.lg c hc).l⟩,h.ap,h.ao⟩
theorem aW.some {cN cL:Addr} {J:Hq} {p:Addr} {L:Ln} (h:aW cN cL J p L) {a:Addr} (o:L.own p a):J a≠none:=by
 rcases o with rfl | rfl | rfl | ⟨c,hc,rfl | rfl⟩
 ·rw [h.ob];exact λz=>nomatch z
 ·rw [h.dc];exact λz=>nomatch z
 ·rw [h.rw];exact λz=>nomatch z
 ·rw [(h.lg c hc).o];exact λz=>nomatch z
 ·rw [(h.lg c hc).l];exact λz=>nomatch z
theorem aW.fresh {cN cL:Addr} {J:Hq} {p x:Addr} {L:Ln} {o:HQ} (h:aW cN cL J p L) (hx:J x=none):aW cN cL (put J x o) p L :=
 h.keep λa u ow e=>by rw [ak (λq=>by subst q;rw [hx] at e;cases e)];exact e
theorem zj {J:Hq} {a b C C':Addr} {fs gs:List (Str × PV)} (h:J a=Te (.ins C fs)) (k:J b=Te (.ins C' gs)) (n:fs.map (·.1)≠gs.map (·.1)):a≠b:=by
 intro e;subst e;rw [h] at k
 have:=HQ.ins.inj (Option.some.inj k)
 exact n (by rw [this.2])
theorem aW.Hg {cN cL:Addr} {J:Hq} {p:Addr} {L:Ln} (h:aW cN cL J p L):L.d≠p:=by intro e;have:=h.ob;rw [← e,h.dc] at this;cases this
theorem aW.Hi {cN cL:Addr} {J:Hq} {p:Addr} {L:Ln} (h:aW cN cL J p L):L.o≠p:=by intro e;have:=h.ob;rw [← e,h.rw] at this;cases this
theorem aW.Qh {cN cL:Addr} {J:Hq} {p:Addr} {L:Ln} (h:aW cN cL J p L):L.d≠L.o:=by intro e;have:=h.rw;rw [← e,h.dc] at this;cases this
theorem qG:([("rows":Str),("gone":Str)]:List Str)≠[("now":Str),("logs":Str),("row":Str)]:=by decide +kernel
theorem aW.O7 {cN cL:Addr} {J:Hq} {p:Addr} {L:Ln} (h:aW cN cL J p L) {c:Cf} (hc:c∈L.cs):c.a≠p:=zj (h.lg c hc).o h.ob qG
theorem aW.MC {cN cL:Addr} {J:Hq} {p:Addr} {L:Ln} (h:aW cN cL J p L) {c:Cf} (hc:c∈L.cs):c.r≠p:=by intro e;have:=h.ob;rw [← e,(h.lg c hc).l] at this;cases this
theorem aW.RF {cN cL:Addr} {J:Hq} {p:Addr} {L:Ln} (h:aW cN cL J p L) {c:Cf} (hc:c∈L.cs):c.a≠L.d:=by intro e;have:=h.dc;rw [← e,(h.lg c hc).o] at this;cases this
theorem aW.RH {cN cL:Addr} {J:Hq} {p:Addr} {L:Ln} (h:aW cN cL J p L) {c:Cf} (hc:c∈L.cs):c.r≠L.d:=by intro e;have:=h.dc;rw [← e,(h.lg c hc).l] at this;cases this
theorem aW.Qg {cN cL:Addr} {J:Hq} {p:Addr} {L:Ln} (h:aW cN cL J p L) {c:Cf} (hc:c∈L.cs):c.a≠L.o:=by intro e;have:=h.rw;rw [← e,(h.lg c hc).o] at this;cases this
theorem aW.Sd {cN cL:Addr} {J:Hq} {p:Addr} {L:Ln} (h:aW cN cL J p L) {c c':Cf} (hc:c∈L.cs) (hc':c'∈L.cs):c.a≠c'.r:=by intro e;have:=(h.lg c' hc').l;rw [← e,(h.lg c hc).o] at this;cases this
theorem aW.L4 {cN cL:Addr} {J:Hq} {p o':Addr} {L:Ln} {row:List Str} (h:aW cN cL J p L) (ho:J o'=Te (.lst (row.map .str))) (nc:∀c∈L.cs,c.r≠o'):aW cN cL (put J p (.ins cN [("now",fr L.t),("logs",.ref L.d),("row",.ref o')])) p { L with o:=o',row:=row } :=
 ⟨aq,by show put J p _ L.d=_;rw [ak h.Hg];exact h.dc,by show put J p _ o'=_;rw [ak (λe=>by rw [e,h.ob] at ho;cases ho)];exact ho,
  λc hc=>⟨by rw [ak (h.O7 hc)];exact (h.lg c hc).o,by rw [ak (h.MC hc)];exact (h.lg c hc).l⟩,h.ap,nc⟩
theorem fV {J:Hq} {S S':Addr→Prop} {x:Addr} {o:HQ} (hx:S x) (hS:∀a,S' a→S a∨J a=none):Mv J (put J x o) S S':=by
 refine ⟨λa u e n=>?_,hS,λa z=>?_⟩
 ·rw [ak (λq=>by subst q;exact n hx)];exact e
 ·by_cases q:a=x
  ·subst q;rw [aq] at z;cases z
  ·rw [ak q] at z;exact z
theorem a9.Mg {L:Ln} (h:a9 L):Sz 900 L.t:=(Be h.ts).mono (by decide)
theorem rY.NC {l:aS} (h:rY l):tL 900 l:=⟨h.RD.mono (by decide),h.RK.mono (by decide),.small (by have:=h.v;omega) (by have:=h.v;omega)⟩
theorem Cf.iI {c:Cf} (h:c.w≠[]):c.w.getLast?=Te c.cur∧c.cur∈c.w:=by
 unfold Cf.cur
 rw [List.getLast?_eq_some_getLast h]
 exact ⟨rfl,List.getLast_mem h⟩
theorem a9.Sb {L:Ln} (h:a9 L) {c:Cf} (hc:c∈L.cs):xB c.w L.t=Te c.cur:=by
 unfold xB
 rw [TB.mpr λl hl=>decide_eq_true (h.le c hc l hl)]
 exact (Cf.iI (h.ne c hc)).1
theorem a9.there {L:Ln} (h:a9 L) {c:Cf} (hc:c∈L.cs) (hg:c.g=none):there c.w c.g L.t=true:=by
 obtain ⟨l,ls,e⟩:=TQ (h.ne c hc)
 have:=h.le c hc l (by rw [e];simp)
 rw [hg,e]
 unfold Ov.there
 simp only [UL,O4,Tz]
 rw [decide_eq_false (Rat.not_lt.mpr this)];rfl
theorem Ln.dD {L:Ln} {c:Cf}:c∈L.Br↔c∈L.cs∧c.g=none:=by
 unfold Ln.Br
 rw [SE]
 cases c.g <;> simp
theorem eZ (L:Ln):L.fs.map (·.1)=L.Br.map Cf.n:=by unfold Ln.fs;rw [Sy];rfl
theorem a9.Kw {L:Ln} (h:a9 L):(L.fs.map (·.1)).Nodup:=by
 rw [eZ]
 unfold Ln.Br
 exact h.nd.sublist (List.Sublist.map _ Uk)
theorem a9.found {L:Ln} (h:a9 L) {n:Str} (hn:n∈L.row):∃c∈L.cs,c.n=n∧c.g=none:=by
 have:=(h.rm n).mp hn
 rw [eZ,Sn] at this
 obtain ⟨c,hc,e⟩:=this
 exact ⟨c,(Ln.dD.mp hc).1,e,(Ln.dD.mp hc).2⟩
theorem a9.va {L:Ln} (h:a9 L) {c:Cf} (hc:c∈L.cs):nv (L.cs.map λc=>(c.n,PV.ref c.a)) c.n=Te (.ref c.a):=by
 have e:(L.cs.map λc=>(c.n,PV.ref c.a))=((L.cs.map λc=>(c.n,c.a)).map λx=>(x.1,PV.ref x.2)):=by rw [Sy];rfl
 rw [e]
 exact oI (f:=PV.ref) (by rw [Sy];exact h.nd) (Sn.mpr ⟨c,hc,rfl⟩)
theorem a9.R0 {L:Ln} (h:a9 L) {n:Str}:(nv (L.cs.map λc=>(c.n,PV.ref c.a)) n).isSome=decide (n∈L.cs.map Cf.n):=by
 have e:(L.cs.map λc=>(c.n,PV.ref c.a))=((L.cs.map λc=>(c.n,c.a)).map λx=>(x.1,PV.ref x.2)):=by rw [Sy];rfl
 rw [e,Dk (f:=PV.ref) (by rw [Sy];exact h.nd)]
 rw [Sy];rfl
theorem a9.uniq {L:Ln} (h:a9 L) {c c':Cf} (hc:c∈L.cs) (hc':c'∈L.cs) (e:c.n=c'.n):c=c':=by
 obtain ⟨i,hi,rfl⟩:=S6 hc
 obtain ⟨j,hj,rfl⟩:=S6 hc'
 have:=(TC (xs:=L.cs.map Cf.n) (i:=i) (j:=j) (h₀:=by simpa using hi) (h₁:=by simpa using hj) h.nd).mp (by rw [Ti,Ti];exact e)
 subst this;rfl
theorem qE (a b c:PV):([("now",a),("logs",b),("row",c)]:List (Str × PV)).lookup ("now":Str)=Te a:=rfl
theorem sR (a b c:PV):([("now",a),("logs",b),("row",c)]:List (Str × PV)).lookup ("logs":Str)=Te b:=rfl
theorem qF (a b c:PV):([("now",a),("logs",b),("row",c)]:List (Str × PV)).lookup ("row":Str)=Te c:=rfl
theorem dJ (m:Str) (a b c:PV) (h:(m == ("now":Str))=false:=by decide +kernel) (k:(m == ("logs":Str))=false:=by decide +kernel) (l:(m == ("row":Str))=false:=by decide +kernel):([("now",a),("logs",b),("row",c)]:List (Str × PV)).lookup m=none:=by
 rw [S1,h];simp only;rw [S1,k];simp only;rw [S1,l];rfl
theorem Je:(("now":Str)=("logs":Str))=False:=eq_false (by decide +kernel)
theorem Jf:(("now":Str)=("row":Str))=False:=eq_false (by decide +kernel)
theorem Jd:(("logs":Str)=("row":Str))=False:=eq_false (by decide +kernel)
theorem Bp (a b c z:PV):j2 ("row":Str) z ([("now",a),("logs",b),("row",c)]:List (Str × PV))=([("now",a),("logs",b),("row",z)]:List (Str × PV)):=by simp only [j2,Jf,Jd,if_false,if_true]
theorem L_ {J:Hq} {a:Addr} {xs:List PV} (h:J a=Te (.lst xs)):MI J (.ref a)=Te xs:=by unfold MI;simp only [h]
abbrev ft:Stmt:=(L2.inClass (top 42) 0)
abbrev eJ:List Str:=["self"]
theorem oy:L2.av ["self"] ["self"] (L2.ai ft):=dI
def wC (cN cL:Addr):cx:=λxs J Q _=>∃p,xs=[.ref p]∧J p=some (.ins cN [])∧∀J' d e o,aW cN cL J' p ⟨0,d,e,o,[],[]⟩→Mv J J' (λa=>a=p) (Ln.own ⟨0,d,e,o,[],[]⟩ p)→Q .non J'
theorem vc {cN cL f:Addr} {fd:FuncData} (F:b7 K "__init__" "Lane.__init__" ft f fd) (N:p_ K mg) (au:dj K mg "Lane" cN) (ay:aD K cN "now") (aA:aD K cN "logs") (az:aD K cN "row"):aH P w K mg base (cQ P w) 1 f fd eJ (dk K (wC cN cL)):=by
 simp_arith [oy]
 ·obtain ⟨p,rfl,_⟩:=h;rfl
 obtain ⟨p,rfl,hp,q⟩:=h
 obtain ⟨aN,gN,sN⟩:=N
 have rN:∀(J:Hq) (H:Hp),b_ K J H (fr 0) (.ref aN):=λJ H=>⟨aN,_,rfl,sN H,⟨_,_,rfl,rfl,_,_,rfl,rfl,rfl⟩⟩
 refine ⟨_,(aj (dM au.cl ay (rv 0) (fG (v:=.ref aN) (fr 0) rfl gN rfl rN))
   (aj (dM au.cl aA (rv 0) BG)
   (ar (dM au.cl az (rv 0) (q9 ag))))),?_⟩
 simp_all! [hp]
 refine ⟨by decide,?_⟩
 simp_all! []
 intro d hd ep
 have Hg:d≠p:=by intro e;subst e;rw [aq] at hd;cases hd
 simp_all! [ak (Ne.symm Hg),aq]
 simp only [Je,if_false]
 refine ⟨by decide,?_⟩
 simp_all! []
 intro o ho
 have jd:J d=none:=by rw [ak Hg] at hd;exact hd
 have Hi:o≠p:=by intro e;subst e;rw [aq] at ho;cases ho
 have nod:o≠d:=by intro e;subst e;rw [ak Hi,aq] at ho;cases ho
 have jo:J o=none:=by rw [ak Hi,ak nod,ak Hi] at ho;exact ho
 refine fi (by rw [ak (Ne.symm Hi)];exact aq) ⟨by show (2:Nat) < 1000;decide,?_⟩
 have pr:j2 ("row":Str) (PV.ref o) ([("now",fr 0),("logs",.ref d)]:List (Str × PV))=([("now",fr 0),("logs",.ref d),("row",.ref o)]:List (Str × PV)):=by simp only [j2,Jf,Jd,if_false]
 rw [pr]
 refine q _ d ep o ⟨aq,by rw [ak Hg,ak (Ne.symm nod),ak Hg];exact aq,by rw [ak Hi];exact aq,(by simp),(by simp),(by simp)⟩ ⟨λa u e na=>?_,λa ow=>?_,λa z=>?_⟩
 ·have na1:a≠d:=λz=>by subst z;rw [jd] at e;cases e
  have na2:a≠o:=λz=>by subst z;rw [jo] at e;cases e
  rw [ak na,ak na2,ak na,ak na1,ak na];exact e
 ·rcases ow with rfl | rfl | rfl | ⟨c,hc,_⟩
  ·exact .inl rfl
  ·exact .inr jd
  ·exact .inr jo
  ·cases hc
 ·by_cases z1:a=p
  ·subst z1;rw [aq] at z;cases z
  by_cases z2:a=o
  ·subst z2;exact jo
  by_cases z3:a=d
  ·subst z3;exact jd
  rw [ak z1,ak z2,ak z1,ak z3,ak z1] at z;exact z
abbrev c6:Stmt:=(L2.inClass (top 42) 22)
abbrev bZ:List Str:=["self","name"]
theorem jm:L2.av ["self","name"] ["self","name"] (L2.ai c6):=dI
def pT (cN cL eC:Addr):cx:=λxs J Q E=>∃p L n,xs=[.ref p,.str n]∧aW cN cL J p L∧(n∈L.row→Q .non J)∧(n ∉ L.row→E eC J)
theorem jl {cN cL eC f:Addr} {fd:FuncData} (F:b7 K "must_be_there" "Lane.must_be_there" c6 f fd) (Z:bL mg) (au:dj K mg "Lane" cN) (az:aD K cN "row") (dP:Own K mg "NoCraft" eC):aH P w K mg base (cQ P w) 1 f fd bZ (dk K (pT cN cL eC)):=by
 simp_arith [jm,(ar (a8 (aI Bk (rv 1) (aP au.cl az (rv 0))) (ar (dz dP rfl cu B.kn rfl (af bJ ag))) aO))]
 ·obtain ⟨p,L,n,rfl,_⟩:=h;rfl
 obtain ⟨p,L,n,rfl,b,q,qe⟩:=h
 have bo:=b.ob
 refine hX ?_
 simp_all! [bo,qF,N3,L_ b.rw]
 refine ⟨L.row,rfl,?_⟩
 by_cases c:n∈L.row
 ·rw [if_pos (by simp [c])]
  exact q c
 ·rw [if_neg (by simp [c])]
  simp_all! [fo]
  exact qe c
abbrev gZ:Stmt:=(L2.inClass (top 42) 23)
abbrev d5:List Str:=["self","name"]
theorem rp:L2.av ["self","name"] ["self","name"] (L2.ai gZ):=dI
def nh (cN cL eC:Addr):cx:=λxs J Q E=>∃p L n,xs=[.ref p,.str n]∧aW cN cL J p L∧a9 L∧(∀c∈L.cs,c.n=n→c.g=none→Q c.cur.V J)∧(n ∉ L.row→E eC J)
theorem qH {cN cL eC eN f:Addr} {fd:FuncData} (F:b7 K "leg_of" "Lane.leg_of" gZ f fd) (Z:bL mg) (au:dj K mg "Lane" cN) (aA:aD K cN "logs") (ay:aD K cN "now") (aX:cn P w K mg base cN 1 "must_be_there" bZ (pT cN cL eC)) (iN:cn P w K mg base cL 3 "leg_at" k8 (yr cL eN)) :
  aH P w K mg base (cQ P w) 4 f fd d5 (dk K (nh cN cL eC)):=by
 simp_arith [rp,(aj (a_ (bp (pl:=_) aX B hr (rv 0) (af (rv 1) ag)))
   (ar (aB (bp (pl:=_) iN B hr (aw fT (aP au.cl aA (rv 0)) (rv 1)) (af (aP au.cl ay (rv 0)) ag)))))]
 ·obtain ⟨p,L,n,rfl,_⟩:=h;rfl
 obtain ⟨p,L,n,rfl,b,ok,q,qe⟩:=h
 have bo:=b.ob
 have bd:=b.dc
 refine hX ?_
 simp_all! [bo]
 refine ⟨dJ _ _ _ _,p,L,n,rfl,b,λhn=>?_,qe⟩
 obtain ⟨c,hc,rfl,hg⟩:=ok.found hn
 have lo:=(b.lg c hc).o
 simp_all! [bo,sR,bd,ok.va hc,lo]
 refine ⟨Qb _ _,?_⟩
 simp_all! [bo,qE]
 refine ⟨c.a,c.r,c.w,c.g,L.t,rfl,b.lg c hc,ok.ne c hc,SM (ok.len c hc) (by decide),ok.Mg,λl hl=>(ok.ck c hc l hl).NC,λq' hq=>(Be (ok.gz c hc q' hq).1).mono (by decide),λ_ l hl=>?_,λz=>?_⟩
 ·rw [ok.Sb hc] at hl;cases hl
  exact q c hc rfl hg
 ·rw [ok.there hc hg] at z;cases z
abbrev eV:Stmt:=(L2.inClass (top 42) 24)
abbrev c4:List Str:=["self"]
theorem rA:L2.av ["self"] ["self"] (L2.ai eV):=dI
theorem E7 {L:Ln} (ok:a9 L) {f:Str→aS} (hf:∀c∈L.cs,c.g=none→f c.n=c.cur):cg L.t (L.row.map λn=>(n,f n))=cg L.t L.fs:=by
 refine E6 (by rw [Sy];show (L.row.map λn=>n).Nodup;rw [UM];exact ok.rn) ok.Kw λx=>?_
 rw [Sn,Sn]
 constructor
 ·rintro ⟨y,hy,rfl⟩
  obtain ⟨n,hn,rfl⟩:=Sn.mp hy
  obtain ⟨c,hc,rfl,hg⟩:=ok.found hn
  exact ⟨(c.n,c.cur),Sn.mpr ⟨c,Ln.dD.mpr ⟨hc,hg⟩,rfl⟩,by rw [hf c hc hg]⟩
 ·rintro ⟨y,hy,rfl⟩
  obtain ⟨c,hc,rfl⟩:=Sn.mp hy
  obtain ⟨hc,hg⟩:=Ln.dD.mp hc
  refine ⟨(c.n,f c.n),Sn.mpr ⟨c.n,(ok.rm c.n).mpr ?_,rfl⟩,by rw [hf c hc hg]⟩
  rw [eZ];exact Sn.mpr ⟨c,Ln.dD.mpr ⟨hc,hg⟩,rfl⟩
def Ln.uX (L:Ln) (n:Str):aS:=((L.cs.find? λc=>decide (c.n=n)).map Cf.cur).getD ⟨0,0,0⟩
theorem a9.uX {L:Ln} (ok:a9 L) {c:Cf} (hc:c∈L.cs):L.uX c.n=c.cur:=by
 unfold Ln.uX
 cases h:L.cs.find? λd=>decide (d.n=c.n) with
 | none=>have:=List.find?_eq_none.mp h c hc;simp at this
 | some d =>
  have h1:=List.mem_of_find?_eq_some h
  have h2:d.n=c.n:=by simpa using List.find?_some h
  rw [ok.uniq h1 hc h2];rfl
def iA (cN cL:Addr):cx:=λxs J Q E=>∃p L,xs=[.ref p]∧aW cN cL J p L∧a9 L∧∀J' o',aW cN cL J' p { L with o:=o',row:=cg L.t L.fs }→Mv J J' (L.own p) (Ln.own { L with o:=o',row:=cg L.t L.fs } p)→Q .non J'
theorem qK {cN cL eC f:Addr} {fd:FuncData} (F:b7 K "settle" "Lane.settle" eV f fd) (Z:bL mg) (au:dj K mg "Lane" cN) (az:aD K cN "row") (ay:aD K cN "now") (bE:cn P w K mg base cN 4 "leg_of" d5 (nh cN cL eC)) (yM:bz P w K mg base 6 "in_order" oU uj) :
  aH P w K mg base (cQ P w) 7 f fd c4 (dk K (iA cN cL)):=by
 simp_arith [rA,(ar (dM au.cl az (rv 0) (aR yM B hr (af (JE (L2.ai eV) ["self"] [("self",0)] rfl rfl rfl (eS (aP au.cl az (rv 0))) (λ_ _ _ _ _ _=>(rv 0)) (λ_ _ _ _ _ _=>(bp (pl:=_) bE GQ hr (rv 1) (af (rv 0) ag)))) (af (aP au.cl ay (rv 0)) ag)))))]
 ·obtain ⟨p,L,rfl,_⟩:=h;rfl
 obtain ⟨p,L,rfl,b,ok,q⟩:=h
 have bo:=b.ob
 have br:=b.rw
 refine hX ?_
 simp_all! [Pb,bo,qF,br]
 intro D hD ep
 have bf:∀e2 kvs,aW cN cL (put J D (.dct kvs e2)) p L:=λe2 kvs=>b.fresh hD
 have hrl:=ok.rl
 refine ⟨λi J2=>∃e2,J2=put J D (.dct (bU ((L.row.take i).map λn=>(n,L.uX n))) e2),⟨ep,rfl⟩,?_,?_,?_⟩
 ·rintro i J2 ⟨e2,rfl⟩;exact (bf e2 _).rw
 ·rintro i x J2 hx ⟨e2,rfl⟩
  have hi:i < L.row.length:=by have:=(Sq.mp hx).1;simpa using this
  rw [SA,So hi] at hx
  cases hx
  have hn:L.row[i]∈L.row:=Td hi
  refine fi (bf e2 _).ob ⟨dJ _ _ _ _,p,L,L.row[i],rfl,bf e2 _,ok,λc hc e hg=>?_,λz=>absurd hn z⟩
  refine ⟨_,e2,L.row[i],rfl,aq,ba (by simp only [bU,Sm,SW];omega),λep'=>⟨ep',?_⟩⟩
  rw [eR]
  congr 2
  have et:L.row.take (i + 1)=L.row.take i ++ [L.row[i]]:=by rw [S4,So hi];rfl
  rw [et,Sw,Sx,Ts,← e,ok.uX hc]
  refine zU (f:=aS.V) (l:=c.cur) λz=>?_
  rw [Sy] at z
  obtain ⟨m,hm,e3⟩:=Sn.mp z
  have hnd:(L.row.take (i + 1)).Nodup:=ok.rn.sublist (TN _ _)
  rw [et] at hnd
  exact (fW hnd).2 (by rw [← e,← e3];exact hm)
 ·rintro J2 ⟨e2,rfl⟩
  rw [Sm,S3]
  refine fi (bf e2 _).ob (fj (qE _ _ _) ⟨D,_,e2,L.t,rfl,aq,?_,by rw [Sm];omega,ok.Mg,?_,λo' ho'=>?_⟩)
  ·rw [Sy];show (L.row.map λn=>n).Nodup;rw [UM];exact ok.rn
  ·intro x hx
   obtain ⟨n,hn,rfl⟩:=Sn.mp hx
   obtain ⟨c,hc,rfl,hg⟩:=ok.found hn
   show tL 900 (L.uX c.n)
   rw [ok.uX hc]
   exact (ok.ck c hc _ (Cf.iI (ok.ne c hc)).2).NC
  ·rw [E7 ok λc hc _=>ok.uX hc]
   have b2:aW cN cL (put (put J D (.dct (bU (L.row.map λn=>(n,L.uX n))) e2)) o' (.lst ((cg L.t L.fs).map .str))) p L:=(bf e2 _).fresh ho'
   have jo:J o'=none:=by
    by_cases z:o'=D
    ·subst z;exact hD
    ·rw [ak z] at ho';exact ho'
   refine fi b2.ob ⟨by show (3:Nat) < 1000;decide,?_⟩
   rw [Bp]
   refine q _ o' (b2.L4 aq λc hc e=>?_) ?_
   ·have:=(b.lg c hc).l;rw [e,jo] at this;cases this
   ·refine ((Mv.new hD).trans (Mv.sS ho')).trans (fV (.inl (.inl rfl)) λa ow=>.inl ?_)
    rcases ow with h | h | h | h
    ·exact .inl (.inl h)
    ·exact .inl (.inr (.inl h))
    ·exact .inr h
    ·exact .inl (.inr (.inr (.inr h)))
abbrev gE:Stmt:=(top 33)
abbrev fC:List Str:=["text"]
theorem we:L2.av ["text"] ["text"] (L2.ai gE):=dI
def cq:Str:="abcdefghijklmnopqrstuvwxyz0123456789"
def good (y:Str):Bool:=decide (1≤y.cps.size) && decide (y.cps.size≤8) && y.cps.toList.all (dO cq)
def FJ (T:Addr):Sp:=λvs H Q _=>∃y:Str,vs=[.str y]∧y.length≤sizeLine∧H T=some (.ext (dU T))∧Q (.bl (good y)) H
theorem vi {T f c:Addr} {fd:FuncData} (F:Gv K mg "good_name" gE T f fd c) (Z:Dm mg) (Bm:BMain mg base) {kO pX:Tok} (ik:mg "LONGEST"=some (.int 8 kO)) (mB:mg "SIGNS"=some (.str "abcdefghijklmnopqrstuvwxyz0123456789" pX)) :
  aH P w K mg base pZ 1 f fd fC (FJ T):=by
 refine Sf F we (λvs H Q E h=>?_) (λA outer s H vs Q E hr h=>?_)
 ·obtain ⟨y,rfl,_⟩:=h
  rfl
 obtain ⟨y,rfl,hz,hT,q⟩:=h
 refine ⟨_,(aV (mW (Jq (Bx (c_ Bj (dy mx rfl Z.len boot_len (aT (pv 0) bG)) aJ (eD _)) (vN (c_ Jk (dy mx rfl Z.len boot_len (aT (pv 0) bG)) (pN (v:=.int 8) rfl ik ⟨_,rfl⟩) (eD _))))) (bH (dn x5)) fF)
   (bH (dn (E_ rfl Bm rfl F.tab hr rfl Z.all mB (pv 0))))),?_⟩
 have el:y.cps.size=y.length:=rfl
 refine ⟨_,rfl,y,rfl,hz,_,_,rfl,rfl,_,rfl,Ep (λe=>?_) (λe=>⟨_,rfl,y,rfl,hz,_,_,rfl,rfl,_,rfl,Ep (λe2=>?_) (λe2=>?_)⟩)⟩
 ·have e:(y.length:Int) < 1:=of_decide_eq_true e
  have z:good y=false:=by
   unfold good
   rw [decide_eq_false (show ¬ 1≤y.cps.size by omega)]
   rfl
  show Q (.bl false) H
  rw [← z]
  exact q
 ·have e2:(8:Int) < (y.length:Int):=of_decide_eq_true e2
  have z:good y=false:=by
   unfold good
   rw [decide_eq_false (show ¬ y.cps.size≤8 by omega),Ur]
   rfl
  show Q (.bl false) H
  rw [← z]
  exact q
 ·have e:¬ (y.length:Int) < 1:=of_decide_eq_false (Ux.mpr e)
  have e2:¬ (8:Int) < (y.length:Int):=of_decide_eq_false (Ux.mpr e2)
  have z:good y=y.cps.toList.all (dO cq):=by
   unfold good
   rw [decide_eq_true (show 1≤y.cps.size by omega),decide_eq_true (show y.cps.size≤8 by omega)]
   rfl
  refine ⟨_,rfl,y,rfl,hT,?_⟩
  show Q (.bl (y.cps.toList.all (dO cq))) H
  rw [← z]
  exact q
def BP (T:Addr):cx:=λxs J Q _=>∃y:Str,xs=[.str y]∧y.length≤sizeLine∧J T=some .tab∧Q (.bl (good y)) J
theorem qD {T:Addr} (C:rV P w K mg base 1 "good_name" fC (FJ T)):bz P w K mg base 1 "good_name" fC (BP T):=C.lift λxs J vs H Q2 E2 Q E rs r ⟨y,ex,hl,hT,q⟩ kn=>by
 subst ex
 obtain ⟨v,rfl,r1⟩:=Lc rs
 cases r1
 exact ⟨y,rfl,hl,r _ _ hT,kn (.bl _) J _ H rfl r .refl q⟩
theorem AY (L:Ln) {L':Ln} {c:Cf} (h:L'.cs=L.cs ++ [c]) (hg:c.g=none):L'.fs=L.fs ++ [(c.n,c.cur)]:=by
 unfold Ln.fs Ln.Br
 rw [h,T2,Sw]
 simp [hg]
def Ln.joined (L:Ln) (n:Str) (x v:Int) (L':Ln):Prop:=∃a r,L'.cs=L.cs ++ [⟨n,a,r,[⟨L.t,(x:Rat),v⟩],none⟩]∧L'.t=L.t
def Mz (x v:Int):Prop:=x.natAbs≤1000000∧v.natAbs≤1000
def BW (cN cL T eB eF eT eU:Addr):cx:=λxs J Q E=>∃p L n x v,xs=[.ref p,.str n,.int x,.int v]∧aW cN cL J p L∧bN L∧J T=some .tab∧n.length≤sizeLine∧L.cs.length < 100∧(good n=false→E eB J)∧(good n=true→¬ Mz x v→E eF J) ∧
 (good n=true→Mz x v→n∈L.cs.map Cf.n→E eT J)∧(good n=true→Mz x v→n ∉ L.cs.map Cf.n→12≤L.row.length→E eU J) ∧
 (good n=true→Mz x v→n ∉ L.cs.map Cf.n→L.row.length < 12→∀J' L',aW cN cL J' p L'→bN L'→L.joined n x v L'→Mv J J' (L.own p) (L'.own p)→Q .non J')
abbrev j6:Stmt:=(L2.inClass (top 42) 1)
abbrev mO:List Str:=["self","name","place","pace"]
theorem wb:L2.av ["self","name","place","pace"] ["self","name","place","pace"] (L2.ai j6):=dI
theorem aW.add {cN cL:Addr} {J:Hq} {p:Addr} {L:Ln} {c:Cf} {ep:Nat} (h:aW cN cL J p L) (hc:wU cL J c.a c.r c.w c.g) (h1:c.r ∉ L.cs.map Cf.r) (h2:c.r≠L.o) :
  aW cN cL (put (put J L.d (.dct ((L.cs ++ [c]).map λc=>(c.n,PV.ref c.a)) ep)) L.o (.lst ((L.row ++ [c.n]).map .str))) p ⟨L.t,L.d,ep,L.o,L.cs ++ [c],L.row ++ [c.n]⟩:=by
 have n1:c.a≠L.d:=by intro e;have:=h.dc;rw [← e,hc.o] at this;cases this
 have n2:c.a≠L.o:=by intro e;have:=h.rw;rw [← e,hc.o] at this;cases this
 have n3:c.r≠L.d:=by intro e;have:=h.dc;rw [← e,hc.l] at this;cases this
 refine ⟨?_,?_,aq,λx hx=>?_,?_,λx hx=>?_⟩
 ·rw [ak (Ne.symm h.Hi),ak (Ne.symm h.Hg)];exact h.ob
 ·show put (put J L.d _) L.o _ L.d=_
  rw [ak h.Qh];exact aq
 ·rcases SD.mp hx with hx | hx
  ·exact ⟨by rw [ak (h.Qg hx),ak (h.RF hx)];exact (h.lg x hx).o,by rw [ak (h.ao x hx),ak (h.RH hx)];exact (h.lg x hx).l⟩
  ·rw [SG] at hx;subst hx
   exact ⟨by rw [ak n2,ak n1];exact hc.o,by rw [ak h2,ak n3];exact hc.l⟩
 ·show ((L.cs ++ [c]).map Cf.r).Nodup
  rw [Sw,Sx,Ts,Tj]
  exact ⟨h.ap,by simp,λx hx y hy e=>by rw [SG] at hy;subst hy;subst e;exact h1 hx⟩
 ·show x.r≠L.o
  rcases SD.mp hx with hx | hx
  ·exact h.ao x hx
  ·rw [SG] at hx;subst hx;exact h2
theorem a9.add {L:Ln} (h:a9 L) {c:Cf} {l:aS} {ep:Nat} (hw:c.w=[l]) (hg:c.g=none) (hl:rY l) (hm:l.m=L.t) (hn:c.n ∉ L.cs.map Cf.n) (hr:L.row.length < 12) (hs:L.cs.length < 100):a9 ⟨L.t,L.d,ep,L.o,L.cs ++ [c],L.row ++ [c.n]⟩:=by
 have hf:Ln.fs ⟨L.t,L.d,ep,L.o,L.cs ++ [c],L.row ++ [c.n]⟩=L.fs ++ [(c.n,c.cur)]:=AY L rfl hg
 have all:∀{P:Cf→Prop},(∀x∈L.cs,P x)→P c→∀x∈L.cs ++ [c],P x:=λh1 h2 x hx=>by
  rcases SD.mp hx with hx | hx
  ·exact h1 x hx
  ·rw [SG] at hx;subst hx;exact h2
 refine ⟨?_,all h.ne (by rw [hw];simp),all h.le (by rw [hw];simp [hm]),all h.ck (by rw [hw];simpa using hl),all h.len (by rw [hw];show (1:Nat)≤200;decide),all h.gz (by rw [hg];intro q e;cases e),h.t0,h.ts,by show (L.cs ++ [c]).length≤100;rw [SQ];simp;omega,λn=>?_,?_,by show (L.row ++ [c.n]).length≤12;rw [SQ];simp;omega⟩
 ·show ((L.cs ++ [c]).map Cf.n).Nodup
  rw [Sw,Sx,Ts,Tj]
  exact ⟨h.nd,by simp,λx hx y hy e=>by rw [SG] at hy;subst hy;subst e;exact hn hx⟩
 ·rw [hf,Sw,SD,SD,h.rm n];simp
 ·show (L.row ++ [c.n]).Nodup
  rw [Tj]
  refine ⟨h.rn,by simp,λx hx y hy e=>?_⟩
  rw [SG] at hy
  rw [e,hy] at hx
  have:=(h.rm _).mp hx
  rw [eZ,Sn] at this
  obtain ⟨d,hd,e⟩:=this
  exact hn (Sn.mpr ⟨d,(Ln.dD.mp hd).1,e⟩)
theorem bN.settled {L:Ln} (h:a9 L) (o':Addr):bN { L with o:=o',row:=cg L.t L.fs }:=by
 have hl:(cg L.t L.fs).length≤12:=by
  have h1:(cg L.t L.fs).Perm L.row:=(List.perm_ext_iff_of_nodup (qN h.Kw) h.rn).mpr λn=>by rw [x4];exact (h.rm n).symm
  rw [h1.length_eq];exact h.rl
 exact ⟨⟨h.nd,h.ne,h.le,h.ck,h.len,h.gz,h.t0,h.ts,h.many,λn=>x4,qN h.Kw,hl⟩,rfl⟩
theorem vd {cN cL T eB eF eT eU f:Addr} {fd:FuncData} (F:b7 K "join" "Lane.join" j6 f fd) (Z:bL mg) (au:dj K mg "Lane" cN) (az:aD K cN "row") (ay:aD K cN "now") (aA:aD K cN "logs") {jc fL wJ:Tok} (fR:mg "FARTHEST"=some (.int 1000000 jc)) (dQ:mg "FASTEST"=some (.int 1000 fL)) (qs:mg "MOST"=some (.int 12 wJ))
  (h_:Own K mg "BadName" eB) (eX:Own K mg "TooFar" eF) (mi:Own K mg "Taken" eT) (qa:Own K mg "Full" eU) (jq:bz P w K mg base 1 "good_name" fC (BP T)) (tM:uH P w K mg base cL 1 "Log" fk (wz cL)) (bh:cn P w K mg base cN 7 "settle" c4 (iA cN cL)) :
  aH P w K mg base (cQ P w) 8 f fd mO (dk K (BW cN cL T eB eF eT eU)):=by
 simp_arith [wb,(aj (a8 (cK (bO (aR jq B hr (af (rv 1) ag)))) (ar (dz h_ rfl cu B.kn rfl (af bJ ag))) aO)
   (aj (a8 (dT (j4 (aI oR (aQ za rfl Z.abs boot_abs (af (rv 2) ag)) (fG (v:=.int 1000000) (.int 1000000) rfl fR ⟨_,rfl⟩ (λ_ _=>rfl))) (f_ (aI oR (aQ za rfl Z.abs boot_abs (af (rv 3) ag)) (fG (v:=.int 1000) (.int 1000) rfl dQ ⟨_,rfl⟩ (λ_ _=>rfl)))))) (ar (dz eX rfl cu B.kn rfl (af bJ ag))) aO)
   (aj (a8 (aI Lh (rv 1) (aP au.cl aA (rv 0))) (ar (dz mi rfl cu B.kn rfl (af bJ ag))) aO)
   (aj (a8 (aI E4 (aQ cb rfl Z.len boot_len (af (aP au.cl az (rv 0)) ag)) (fG (v:=.int 12) (.int 12) rfl qs ⟨_,rfl⟩ (λ_ _=>rfl))) (ar (dz qa rfl cu B.kn rfl (af bJ ag))) aO)
   (aj (vV pV (aP au.cl aA (rv 0)) (rv 1) (BF tM B hr (af (aP au.cl ay (rv 0)) (af (cA (af (rv 2) (af ah ag))) (af (rv 3) ag)))))
   (aj (a_ (oW PySem.F.plainAttrs_list PySem.F.slot_list_append PySem.F.type_list_append kA (aP au.cl az (rv 0)) (af (rv 1) ag)))
   (ar (a_ (bP (pl:=_) bh B hr (rv 0))))))))))]
 ·obtain ⟨p,L,n,x,v,rfl,_⟩:=h;rfl
 obtain ⟨p,L,n,x,v,rfl,b,ok,hT,hnl,hcs,qb,qf,qt,qu,q⟩:=h
 have bo:=b.ob
 have bd:=b.dc
 have br:=b.rw
 refine hX ?_
 simp_all! []
 refine ⟨n,rfl,hnl,hT,?_⟩
 cases hg:good n with
 | false =>
  simp_all! [fo]
  exact qb hg
 | true =>
 simp_all! []
 by_cases hB:Mz x v
 ·obtain ⟨hx,hv⟩:=id hB
  rw [if_neg (by split <;> omega),if_neg (by split <;> omega)]
  simp_all! [bo,sR,bd,ok.R0]
  by_cases hm:n∈L.cs.map Cf.n
  ·rw [if_pos hm]
   simp_all! [fo]
   exact qt hg hB hm
  rw [if_neg hm]
  simp_all! [bo,qF,br,Sm]
  by_cases hr12:12≤L.row.length
  ·rw [if_pos (by omega)]
   simp_all! [fo]
   exact qu hg hB hm hr12
  rw [if_neg (by omega)]
  simp_all! [bo,qE]
  intro a ha
  refine ⟨a,⟨L.t,(x:Rat),v⟩,rfl,aq,λr hr'=>?_⟩
  have nra:r≠a:=by intro e;subst e;rw [aq] at hr';cases hr'
  have jr:J r=none:=by rw [ak nra] at hr';exact hr'
  have b1:aW cN cL (put (put (put J a (.ins cL [])) r (.lst [(aS.mk L.t (x:Rat) v).V])) a (.ins cL [("rows",.ref r),("gone",.non)])) p L:=b.keep λc u ow e=>by
   have n1:c≠a:=λz=>by subst z;rw [ha] at e;cases e
   have n2:c≠r:=λz=>by subst z;rw [jr] at e;cases e
   rw [ak n1,ak n2,ak n1];exact e
  have l1:wU cL (put (put (put J a (.ins cL [])) r (.lst [(aS.mk L.t (x:Rat) v).V])) a (.ins cL [("rows",.ref r),("gone",.non)])) a r [⟨L.t,(x:Rat),v⟩] none:=⟨aq,by rw [ak nra];exact aq⟩
  have mv1:Mv J (put (put (put J a (.ins cL [])) r (.lst [(aS.mk L.t (x:Rat) v).V])) a (.ins cL [("rows",.ref r),("gone",.non)])) (L.own p) (λc=>(L.own p c∨c=a)∨c=r) :=
   ((Mv.sS ha).trans (Mv.sS hr')).trans (fV (.inl (.inr rfl)) λc h=>.inl h)
  generalize (put (put (put J a (.ins cL [])) r (.lst [(aS.mk L.t (x:Rat) v).V])) a (.ins cL [("rows",.ref r),("gone",.non)]))=J1 at b1 l1 mv1 ⊢
  have bo1:=b1.ob
  have bd1:=b1.dc
  simp_all! [bo1,sR,bd1]
  refine ⟨ba (by rw [Sm];omega),λep'=>?_⟩
  have epu:rW (L.cs.map λc=>(c.n,PV.ref c.a)) n (PV.ref a)=(L.cs ++ [Cf.mk n a r [⟨L.t,(x:Rat),v⟩] none]).map λc=>(c.n,PV.ref c.a):=by
   have e:(L.cs.map λc=>(c.n,PV.ref c.a))=((L.cs.map λc=>(c.n,c.a)).map λx=>(x.1,PV.ref x.2)):=by rw [Sy];rfl
   rw [e,zU (f:=PV.ref) (l:=a) (by rw [Sy];exact hm),Sw,Sw,Sy];rfl
  rw [epu]
  have hrs:r ∉ L.cs.map Cf.r:=λh=>by
   obtain ⟨c,hc,e⟩:=Sn.mp h
   have:=(b.lg c hc).l;rw [e,jr] at this;cases this
  have hro:r≠L.o:=λe=>by have:=b.rw;rw [← e,jr] at this;cases this
  have b2:=b1.add (c:=Cf.mk n a r [⟨L.t,(x:Rat),v⟩] none) (ep:=ep') l1 hrs hro
  have ok2:a9 ⟨L.t,L.d,ep',L.o,L.cs ++ [Cf.mk n a r [⟨L.t,(x:Rat),v⟩] none],L.row ++ [n]⟩:=ok.toa9.add (c:=Cf.mk n a r [⟨L.t,(x:Rat),v⟩] none) rfl rfl (rY.new ok.t0 ok.ts hx hv) rfl hm (by omega) hcs
  have bo2:(put J1 L.d (HQ.dct ((L.cs ++ [Cf.mk n a r [⟨L.t,(x:Rat),v⟩] none]).map λc=>(c.n,PV.ref c.a)) ep')) p=some (.ins cN [("now",fr L.t),("logs",.ref L.d),("row",.ref L.o)]):=by rw [ak (Ne.symm b1.Hg)];exact b1.ob
  have br2:(put J1 L.d (HQ.dct ((L.cs ++ [Cf.mk n a r [⟨L.t,(x:Rat),v⟩] none]).map λc=>(c.n,PV.ref c.a)) ep')) L.o=some (.lst (L.row.map .str)):=by rw [ak (Ne.symm b1.Qh)];exact b1.rw
  have mv2:Mv J1 (put (put J1 L.d (HQ.dct ((L.cs ++ [Cf.mk n a r [⟨L.t,(x:Rat),v⟩] none]).map λc=>(c.n,PV.ref c.a)) ep')) L.o (.lst ((L.row ++ [n]).map .str))) (λc=>(L.own p c∨c=a)∨c=r) (Ln.own ⟨L.t,L.d,ep',L.o,L.cs ++ [Cf.mk n a r [⟨L.t,(x:Rat),v⟩] none],L.row ++ [n]⟩ p):=by
   refine (fV (S':=λc=>(L.own p c∨c=a)∨c=r) (.inl (.inl (.inr (.inl rfl)))) λc h=>.inl h).trans (fV (.inl (.inl (.inr (.inr (.inl rfl))))) λc h=>.inl ?_)
   rcases h with h | h | h | ⟨d,hd,h⟩
   ·exact .inl (.inl (.inl h))
   ·exact .inl (.inl (.inr (.inl h)))
   ·exact .inl (.inl (.inr (.inr (.inl h))))
   ·rcases SD.mp hd with hd | hd
    ·exact .inl (.inl (.inr (.inr (.inr ⟨d,hd,h⟩))))
    ·rw [SG] at hd;subst hd
     rcases h with h | h
     ·exact .inl (.inr h)
     ·exact .inr h
  have mv3:=mv1.trans mv2
  simp_all! [bo2,qF,br2]
  refine ⟨ba (by rw [Sm];omega),?_⟩
  rw [show L.row.map PV.str ++ [PV.str n]=(L.row ++ [n]).map .str by rw [Sw];rfl]
  have bo3:=b2.ob
  generalize (put (put J1 L.d (HQ.dct ((L.cs ++ [Cf.mk n a r [⟨L.t,(x:Rat),v⟩] none]).map λc=>(c.n,PV.ref c.a)) ep')) L.o (.lst ((L.row ++ [n]).map .str)))=J2 at b2 mv3 bo3 ⊢
  simp_all! [bo3]
  refine ⟨dJ _ _ _ _,p,_,rfl,b2,ok2,λJ' o' b' mv'=>?_⟩
  exact q hg hB hm (by omega) J' _ b' (bN.settled ok2 o') ⟨a,r,rfl,rfl⟩ (mv3.trans mv')
 ·have hf:=qf hg hB
  by_cases h1:x.natAbs≤1000000
  ·have h2:¬ v.natAbs≤1000:=λh=>hB ⟨h1,h⟩
   rw [if_neg (by split <;> omega),if_pos (by split <;> omega)]
   simp_all! [fo]
   exact hf
  ·rw [if_pos (by split <;> omega)]
   simp_all! [fo]
   exact hf
abbrev i5:Stmt:=(L2.inClass (top 42) 7)
abbrev k4:List Str:=["self"]
theorem tD:L2.av ["self"] ["self"] (L2.ai i5):=dI
def yy (cN cL:Addr):cx:=λxs J Q _=>∃p L,xs=[.ref p]∧aW cN cL J p L∧Q (fr L.t) J
theorem sY {cN cL f:Addr} {fd:FuncData} (F:b7 K "clock" "Lane.clock" i5 f fd) (Z:bL mg) (au:dj K mg "Lane" cN) (ay:aD K cN "now"):aH P w K mg base (cQ P w) 1 f fd k4 (dk K (yy cN cL)):=by
 simp_arith [tD,(ar (aB (aP au.cl ay (rv 0))))]
 ·obtain ⟨p,L,rfl,_⟩:=h;rfl
 obtain ⟨p,L,rfl,b,q⟩:=h
 have bo:=b.ob
 refine hX ?_
 simp_all! [bo,qE]
 exact q
abbrev i9:Stmt:=(L2.inClass (top 42) 8)
abbrev k7:List Str:=["self"]
theorem tF:L2.av ["self"] ["self"] (L2.ai i9):=dI
def yB (cN cL:Addr):cx:=λxs J Q _=>∃p L,xs=[.ref p]∧aW cN cL J p L∧(Q (.fl (L.row.map .str)) J∨∀l,J l=none→Q (.ref l) (put J l (.lst (L.row.map .str))))
theorem tm {cN cL f:Addr} {fd:FuncData} (F:b7 K "order" "Lane.order" i9 f fd) (Z:bL mg) (au:dj K mg "Lane" cN) (az:aD K cN "row"):aH P w K mg base (cQ P w) 1 f fd k7 (dk K (yB cN cL)):=by
 simp_arith [tF,(ar (aB (de ig rfl Z.list boot_list (af (aP au.cl az (rv 0)) ag)))),F]
 ·obtain ⟨p,L,rfl,_⟩:=h;rfl
 obtain ⟨p,L,rfl,b,q⟩:=h
 have bo:=b.ob
 have br:=b.rw
 refine hX ?_
 simp_all! [bo,br,qF]
 intro l hl
 rcases q with q | q
 ·exact Fg.qp (mG hl) aq hl q
 ·exact Fg.same (q l hl)
def aF.v (b:aF):PV:=.tup [fr b.m,.str b.h,.str b.f]
theorem IU (J:Hq) (b:aF):fJ J b.v (.int 0)=some (fr b.m):=dq _ _
theorem IV (J:Hq) (b:aF):fJ J b.v (.int 1)=some (.str b.h):=fQ _ _ _
theorem IW (J:Hq) (b:aF):fJ J b.v (.int 2)=some (.str b.f):=kT _ _ _ _
theorem QU (J:Hq) (b:aF):B_ J b.v=some "tuple":=rfl
theorem Nh (J:Hq) (b:aF):xC J b.v=some 3:=rfl
theorem Jp (b:aF):l_ b.v=true:=by simp [aF.v,Bv,kG,ya,vK,vL]
theorem PD (b:aF):GJ b.v=True:=eq_true ⟨Jp b,by simp [aF.v,fr,fm,eg,dep,cZ]⟩
theorem PH (a b:aF):eqQ a.v b.v=decide (a=b):=by
 unfold aF.v
 rw [uO,du,du,du,pH,AU,eq_str,eq_str,Tz,← TL,← TL]
 apply decide_eq_decide.mpr
 cases a;cases b
 simp [aF.mk.injEq]
theorem OS (a:Rat) (h f:Str):PV.tup [fr a,.str h,.str f]=(aF.mk a h f).v:=rfl
theorem DU (J:Hq) (b:aF):∃xs,b.v=.tup xs∧¬ (HT.dN xs.length 0 (some 1)=0∧HT.dN xs.length xs.length none=xs.length)∧lG xs (some 1) none=[b.h,b.f].map .str:=⟨_,rfl,λh=>absurd h.1 (show HT.dN 3 0 (some 1)≠0 by decide),rfl⟩
abbrev g9:Stmt:=(top 21)
abbrev jZ:List Str:=["one","other"]
theorem rD:L2.av ["one","other"] ["one","other"] (L2.ai g9):=dI
def wq:cx:=λxs J Q _=>∃a b:aF,xs=[a.v,b.v]∧Sz 9000 a.m∧Sz 9000 b.m∧Q (.bl (a.lt b)) J
theorem P7 (a b c d:Str):lJ [a,b] [c,d]=if a=c then decide (slt b d) else decide (slt a c):=by
 rw [nW]
 by_cases h:a=c
 ·rw [if_pos h,if_pos h,nW]
  by_cases k:b=d
  ·rw [if_pos k,mH];subst k;exact (decide_eq_false (by unfold slt;exact List.lt_irrefl _)).symm
  ·rw [if_neg k];rfl
 ·rw [if_neg h,if_neg h];rfl
theorem pz {f:Addr} {fd:FuncData} (F:b7 K "rings_ahead" "rings_ahead" g9 f fd) (Z:bL mg) (dG:bz P w K mg base 1 "less" fE dh):aH P w K mg base (cQ P w) 2 f fd jZ (dk K wq):=by
 simp_arith [rD,(aj (a8 (aI (mL hr.aY) (aw ax (rv 0) ah) (aw ax (rv 1) ah)) (ar (aB (aR dG B hr (af (aw ax (rv 0) ah) (af (aw ax (rv 1) ah) ag))))) aO)
   (ar (aB (gX (Hy hr.Ml) (iy Ao (rv 0) (kK ah) kJ) (iy Ao (rv 1) (kK ah) kJ)))))]
 ·obtain ⟨a,b,rfl,_⟩:=h;rfl
 obtain ⟨a,b,rfl,sa,sb,q⟩:=h
 refine hX ?_
 simp_arith! [bR,IU,IV,IW,dh,Jt]
 unfold aF.lt at q
 by_cases e:a.m=b.m
 ·rw [if_pos e] at q ⊢
  obtain ⟨xs,h1,h2,h3⟩:=DU J a
  obtain ⟨ys,h4,h5,h6⟩:=DU J b
  refine zG h1 ⟨h2,?_⟩
  refine zG h4 ⟨h5,?_⟩
  exact ⟨[a.h,a.f],[b.h,b.f],congrArg PV.tup h3,congrArg PV.tup h6,by rw [P7];exact q⟩
 ·rw [if_neg e] at q ⊢
  exact ⟨sa,sb,q⟩
theorem Nx (v:PV):([("rows",v)]:List (Str × PV)).lookup ("rows":Str)=some v:=rfl
theorem KU {m:Str} (v:PV) (h:(m == ("rows":Str))=false):([("rows",v)]:List (Str × PV)).lookup m=none:=by rw [S1,h];rfl
theorem P8 (v:PV):([("rows",v)]:List (Str × PV)).lookup ("drop":Str)=none:=KU v (by decide +kernel)
theorem Ny (v:PV):([("rows",v)]:List (Str × PV)).lookup ("put":Str)=none:=KU v (by decide +kernel)
theorem Nz (v:PV):([("rows",v)]:List (Str × PV)).lookup ("told":Str)=none:=KU v (by decide +kernel)
theorem HR {J:Hq} {r p:Addr} {a b c:HQ} (h:r≠p):put (put (put J r a) p b) r c=put (put J r c) p b:=by
 rw [Fm (Ne.symm h),eR]
structure Gh (cB:Addr) (J:Hq) (p r:Addr) (rows:List aF):Prop where
 o:J p=some (.ins cB [("rows",.ref r)])
 l:J r=some (.lst (rows.map aF.v))
abbrev eL:Stmt:=(L2.inClass (top 22) 0)
abbrev d4:List Str:=["self"]
theorem m6:L2.av ["self"] ["self"] (L2.ai eL):=dI
def wt (cB:Addr):cx:=λxs J Q _=>∃p,xs=[.ref p]∧J p=some (.ins cB [])∧∀r,J r=none→Q .non (put (put J r (.lst [])) p (.ins cB [("rows",.ref r)]))
theorem sU {cB f:Addr} {fd:FuncData} (F:b7 K "__init__" "Bells.__init__" eL f fd) (bC:dj K mg "Bells" cB) (aU:aD K cB "rows"):aH P w K mg base (cQ P w) 1 f fd d4 (dk K (wt cB)):=by
 simp_arith [m6,(ar (dM bC.cl aU (rv 0) (q9 ag)))]
 ·obtain ⟨p,rfl,_⟩:=h;rfl
 obtain ⟨p,rfl,hp,q⟩:=h
 refine hX ?_
 simp_arith! [bR]
 intro r hr'
 have ne:p≠r:=by intro e;subst e;rw [hp] at hr';cases hr'
 exact fi (x:=[]) (by rw [ak ne];exact hp) ⟨by decide,q r hr'⟩
abbrev fI:Stmt:=(L2.inClass (top 22) 2)
abbrev kX:List Str:=["self","hind","fore"]
theorem g_:L2.av ["self","hind","fore","kept","found"] ["self","hind","fore"] (L2.ai fI):=dI
def BL (cB:Addr):cx:=λxs J Q _=>∃p r rows h f,xs=[.ref p,.str h,.str f]∧Gh cB J p r rows∧rows.length≤900∧∀r',J r'=none→Q (.bl (decide ((dt h f rows).length < rows.length))) (put (put J r' (.lst ((dt h f rows).map aF.v))) p (.ins cB [("rows",.ref r')]))
def tail3:PV→PV
 | .tup xs=>.tup (lG xs (some 1) none)
 | _=>.non
def Bb (h f:Str) (x:PV):Bool:=!eqQ (tail3 x) (.tup [.str h,.str f])
theorem KH (h f:Str) (b:aF):Bb h f b.v=!yi h f b:=by
 show (!eqQ (.tup [.str b.h,.str b.f]) (.tup [.str h,.str f]))=_
 rw [uO,du,du,pH,eq_str,eq_str,Tz,← TL]
 rfl
theorem D5 (h f:Str):∀rows:List aF,((rows.map aF.v).filter (Bb h f)).map (λx=>x)=(dt h f rows).map aF.v
 | []=>rfl
 | b :: rows=>by
  have ih:=D5 h f rows
  unfold dt at ih ⊢
  rw [Sx,S2,S2,KH]
  cases yi h f b <;> simp at ih ⊢ <;> exact ih
theorem sT {cB f:Addr} {fd:FuncData} (F:b7 K "drop" "Bells.drop" fI f fd) (Z:bL mg) (bC:dj K mg "Bells" cB) (aU:aD K cB "rows"):aH P w K mg base (cQ P w) 1 f fd kX (dk K (BL cB)):=by
 simp_arith [g_,(aj (Ib (i:=3) (L2.ai fI) ["self","hind","fore","kept","found"] [("hind",1),("fore",2)] rfl rfl rfl g_.nd rfl (Or.inl rfl) (eS (aP bC.cl aU (rv 0))) (λ_ _ _ _ _ _=>(rv 0)) (λ_ _ _ _ _ _=>(aI (mL hr.aY) (iy Ao (rv 0) (kK ah) kJ) (cA (af (rv 1) (af (rv 2) ag))))))
   (aj (aK (i:=4) g_.nd (gX kU (aQ cb rfl Z.len boot_len (af (rv 3) ag)) (aQ cb rfl Z.len boot_len (af (aP bC.cl aU (rv 0)) ag))))
   (aj (dM bC.cl aU (rv 0) (rv 3))
   (ar (aB (rv 4))))))]
 ·obtain ⟨p,r,rows,h,f,rfl,_⟩:=h;rfl
 obtain ⟨p,r,rows,h,f,rfl,b,hl,q⟩:=h
 have bo:=b.o
 have bl:=b.l
 refine hX ?_
 simp_arith! [bR,LJ,bo,bl,Nx]
 refine ⟨Bb h f,λx=>x,⟨by rw [Sm];exact ba (by omega),λJ' sub=>⟨sub _ _ bl,λx hx=>?_⟩⟩,λr' hr'=>?_⟩
 ·obtain ⟨b,_,rfl⟩:=Sn.mp hx
  obtain ⟨xs,h1,h2,h3⟩:=DU J' b
  have hk:Bb h f b.v=!eqQ (.tup (lG xs (some 1) none)) (.tup [.str h,.str f]):=by rw [h1];rfl
  simp_arith! [bR]
  refine ⟨zG h1 ⟨h2,?_⟩,λ_=>trivial⟩
  simp_arith! [bR]
  rw [hk,h3]
  refine ⟨⟨by simp [l_,j1],by simp [fm,eg,dep,cZ]⟩,by simp [l_,j1],rfl⟩
 ·have ne:p≠r':=by intro e;subst e;rw [bo] at hr';cases hr'
  have nr:r≠r':=by intro e;subst e;rw [bl] at hr';cases hr'
  simp_arith! [bR,ak ne,ak nr,bo,bl,Nx,D5,Sm,Int.ofNat_lt]
  exact ⟨by decide,q r' hr'⟩
abbrev j5:Stmt:=(L2.inClass (top 22) 1)
abbrev iQ:List Str:=["self","moment","hind","fore"]
theorem df:L2.av ["self","moment","hind","fore","bell","low","high","middle"] ["self","moment","hind","fore"] (L2.ai j5):=dI
def Al (cB:Addr):cx:=λxs J Q _=>∃p r rows m h f,xs=[.ref p,fr m,.str h,.str f]∧Gh cB J p r rows∧ib rows∧rows.length≤800∧Sz 9000 m∧(∀x∈rows,Sz 9000 x.m) ∧
 ∀r',J r'=none→Q .non (put (put J r' (.lst ((kQ ⟨m,h,f⟩ (dt h f rows)).map aF.v))) p (.ins cB [("rows",.ref r')]))
theorem IP (a b:Nat):((a:Int) + (b:Int)).fdiv 2=(((a + b) / 2:Nat):Int):=by rw [Int.fdiv_eq_ediv_of_nonneg _ (by decide)];omega
theorem Rp (a:Int):CQ a 2=True:=eq_true ⟨by decide,Bd.mono (Bd.small (by decide) (by decide)) (by decide)⟩
theorem DQ {rows:List aF} {i:Nat} {b:aF} (h:rows[i]?=some b):c7 (rows.map aF.v) (i:Int)=some b.v:=bx (by rw [SA,h];rfl)
theorem vb {cB f:Addr} {fd:FuncData} (F:b7 K "put" "Bells.put" j5 f fd) (Z:bL mg) (bC:dj K mg "Bells" cB) (aU:aD K cB "rows") (iJ:cn P w K mg base cB 1 "drop" kX (BL cB))
  (r_:bz P w K mg base 2 "rings_ahead" jZ wq):aH P w K mg base (cQ P w) 3 f fd iQ (dk K (Al cB)):=by
 simp_arith [df,(aj (a_ (bp (pl:=_) iJ B hr (rv 0) (af (rv 2) (af (rv 3) ag))))
   (aj (aK (i:=4) df.nd (cA (af (rv 1) (af (rv 2) (af (rv 3) ag)))))
   (aj (LV (i:=5) (j:=6) rfl df.nd rfl rfl (by decide) rfl rfl (af ah (af (aQ cb rfl Z.len boot_len (af (aP bC.cl aU (rv 0)) ag)) ag)) rfl)
   (aj (rb cG (aI kU (rv 5) (rv 6)) (aj (aK (i:=7) df.nd (aZ pL (aZ d3 (rv 5) (rv 6)) ah))
   (ar (a8 (bO (aR r_ B hr (af (aw ax (aP bC.cl aU (rv 0)) (rv 7)) (af (rv 4) ag)))) (ar (aK (i:=5) df.nd (aZ d3 (rv 7) ah))) (ar (aK (i:=6) df.nd (rv 7)))))))
   (ar (a_ (oW PySem.F.plainAttrs_list PySem.F.slot_list_insert PySem.F.type_list_insert ua (aP bC.cl aU (rv 0)) (af (rv 5) (af (rv 4) ag)))))))))]
 ·obtain ⟨p,r,rows,m,h,f,rfl,_⟩:=h;rfl
 obtain ⟨p,r,rows,m,h,f,rfl,b,srt,hl,sm,sr,q⟩:=h
 have bo:=b.o
 refine hX ?_
 simp_arith! [bR,bo,P8]
 refine ⟨p,r,rows,h,f,rfl,b,by omega,λr' hr'=>?_⟩
 have MC:r'≠p:=by intro e;subst e;rw [bo] at hr';cases hr'
 have b1:Gh cB (put (put J r' (.lst ((dt h f rows).map aF.v))) p (.ins cB [("rows",.ref r')])) p r' (dt h f rows):=⟨aq,by rw [ak MC];exact aq⟩
 have kl:(dt h f rows).length≤800:=SM (nK _ _ _) hl
 have ks:ib (dt h f rows):=tT srt
 have kz:∀x∈dt h f rows,Sz 9000 x.m:=λx hx=>sr x (SE.mp hx).1
 have q:=q r' hr'
 generalize hJ:put (put J r' (.lst ((dt h f rows).map aF.v))) p (.ins cB [("rows",.ref r')])=J1 at b1 ⊢
 have hq:put J1 r' (.lst ((kQ ⟨m,h,f⟩ (dt h f rows)).map aF.v))=put (put J r' (.lst ((kQ ⟨m,h,f⟩ (dt h f rows)).map aF.v))) p (.ins cB [("rows",.ref r')]):=by rw [← hJ,HR MC]
 rw [← hq] at q
 clear hq hJ hr'
 have bo:=b1.o
 have bl:=b1.l
 generalize dt h f rows=ks' at *
 simp_arith! [bR,bo,bl,Nx,OS,Sm]
 refine ⟨λk τ J'=>∃(lo hi:Nat) (u:Option PV),τ=[some (.ref p),some (fr m),some (.str h),some (.str f),some (aF.mk m h f).v,some (.int lo),some (.int hi),u]∧J'=J1∧k=hi - lo∧lo≤hi∧hi≤ks'.length ∧
  (∀(j:Nat) x,j < lo→ks'[j]?=some x→x.lt ⟨m,h,f⟩=true)∧(∀(j:Nat) x,hi≤j→ks'[j]?=some x→x.lt ⟨m,h,f⟩=false),⟨_,0,ks'.length,none,rfl,rfl,rfl,SY _,Ss _,λj x hj=>absurd hj (Uh _),λj x hj e=>by rw [TK hj] at e;cases e⟩,?_⟩
 rintro k τ J' ⟨lo,hi,u,rfl,rfl,rfl,h1,h2,hlo,hhi⟩
 simp_arith! [bR,bo,bl,Nx,Rp,IP,Int.ofNat_lt,wq]
 by_cases hlt:lo < hi
 ·rw [if_pos hlt]
  have hm:(lo + hi) / 2 < ks'.length:=by omega
  obtain ⟨x,hx⟩:∃x,ks'[(lo + hi) / 2]?=some x:=⟨_,So hm⟩
  obtain ⟨N,hN⟩:∃N:Sr→Hq→Prop,∀τ' J'',N τ' J''↔∃(lo' hi':Nat) (u:Option PV),τ'=[some (.ref p),some (fr m),some (.str h),some (.str f),some (aF.mk m h f).v,some (.int lo'),some (.int hi'),u]∧J''=J'∧lo'≤hi'∧hi'≤ks'.length∧hi' - lo' < hi - lo ∧
   (∀(j:Nat) x,j < lo'→ks'[j]?=some x→x.lt ⟨m,h,f⟩=true)∧(∀(j:Nat) x,hi'≤j→ks'[j]?=some x→x.lt ⟨m,h,f⟩=false):=⟨_,λ_ _=>Iff.rfl⟩
  refine ⟨N,λτ' J'' hn=>by obtain ⟨lo',hi',u,e1,e2,e3,e4,e5,e6,e7⟩:=(hN _ _).mp hn;exact ⟨_,e5,lo',hi',u,e1,e2,rfl,e3,e4,e6,e7⟩,fj (DQ hx) ⟨x,⟨m,h,f⟩,rfl,kz x (Su hx),sm,?_⟩⟩
  simp_arith! [bR,Rp,IP,Int.ofNat_lt]
  cases hc:x.lt ⟨m,h,f⟩ with
  | true =>
   rw [if_pos rfl]
   exact (hN _ _).mpr ⟨(lo + hi) / 2 + 1,hi,_,rfl,rfl,by omega,h2,by omega,λj y hj e=>B2 ks hx e (by omega) hc,hhi⟩
  | false =>
   rw [if_neg SI]
   exact (hN _ _).mpr ⟨lo,(lo + hi) / 2,_,rfl,rfl,by omega,by omega,by omega,hlo,λj y hj e=>FV ks hx e hj hc⟩
 ·rw [if_neg hlt]
  have e:lo=hi:=by omega
  subst e
  refine ⟨_,lo,rfl,rfl,by rw [Sm];exact h2,by rw [Sm];exact ba (by omega),Th h2 (Th kl (by decide)),?_⟩
  rw [← G0 h2 hlo hhi,Sw,Sx,Ug,UX] at q
  exact q
abbrev iY:Stmt:=(L2.inClass (top 22) 5)
abbrev gR:List Str:=["self"]
theorem tw:L2.av ["self"] ["self"] (L2.ai iY):=dI
def wu (cB:Addr):cx:=λxs J Q _=>∃p r rows,xs=[.ref p]∧Gh cB J p r rows∧(Q (.fl (rows.map aF.v)) J∨∀l,J l=none→Q (.ref l) (put J l (.lst (rows.map aF.v))))
theorem sV {cB f:Addr} {fd:FuncData} (F:b7 K "told" "Bells.told" iY f fd) (Z:bL mg) (bC:dj K mg "Bells" cB) (aU:aD K cB "rows"):aH P w K mg base (cQ P w) 1 f fd gR (dk K (wu cB)):=by
 simp_arith [tw,(ar (aB (de ig rfl Z.list boot_list (af (aP bC.cl aU (rv 0)) ag)))),F]
 ·obtain ⟨p,r,rows,rfl,_⟩:=h;rfl
 obtain ⟨p,r,rows,rfl,b,q⟩:=h
 have bo:=b.o
 have bl:=b.l
 refine hX ?_
 simp_arith! [bR,bo,bl,Nx]
 intro l hl
 rcases q with q | q
 ·exact Fg.qp (mG hl) aq hl q
 ·exact Fg.same (q l hl)
def BN:cx:=λxs J Q _=>∃t b:Int,xs=[.int t,.int b]∧b≠0∧Bd 9000 b∧Q (fr (Rat.divInt t b)) J
theorem sQ (C:rV P w K mg base 2 "fraction" c5 gh):bz P w K mg base 2 "fraction" c5 BN:=C.lift λxs J vs H Q2 E2 Q E rs r ⟨t,b,ex,h0,h1,q⟩ kn=>by
 subst ex
 obtain ⟨v,u,rfl,r1,r2⟩:=je rs
 cases r1;cases r2
 exact ⟨t,b,rfl,h0,h1,vU r kn q⟩
theorem xG (l l':aS) (h:l.v≠l'.v):Rat.divInt ((l'.at 0 - l.at 0).num) (((l'.at 0 - l.at 0).den:Int) * (l.v - l'.v))=jM l l':=by
 rw [LD _ _ (by omega)];rfl
abbrev ou:Stmt:=(top 26)
abbrev qY:List Str:=["one","other"]
theorem l5:L2.av ["one","other","gain","gap"] ["one","other"] (L2.ai ou):=dI
def BS:cx:=λxs J Q _=>∃l l':aS,xs=[l.V,l'.V]∧tL 900 l∧tL 900 l'∧(l.v=l'.v→Q .non J)∧(l.v≠l'.v→Q (fr (jM l l')) J)
theorem xS {f:Addr} {fd:FuncData} (F:b7 K "meeting" "meeting" ou f fd) (Z:bL mg) (N:p_ K mg) (dH:bz P w K mg base 4 "place_on" gA uk) (md:bz P w K mg base 3 "minus" jY (Ak λp q=>p - q)) (bM:bz P w K mg base 2 "fraction" c5 BN) :
  aH P w K mg base (cQ P w) 5 f fd qY (dk K BS):=by
 obtain ⟨aN,gN,sN⟩:=N
 have rN:∀(J:Hq) (H:Hp),b_ K J H (fr 0) (.ref aN):=λJ H=>⟨aN,_,rfl,sN H,⟨_,_,rfl,rfl,_,_,rfl,rfl,rfl⟩⟩
 simp_arith [l5,(aj (aK (i:=2) l5.nd (aZ f7 (aw ax (rv 0) ah) (aw ax (rv 1) ah)))
   (aj (a8 (aI (cP hr.aY) (rv 2) ah) (ar (aB lQ)) aO)
   (aj (aK (i:=3) l5.nd (aR md B hr (af (aR dH B hr (af (rv 1) (af (fG (v:=.ref aN) (fr 0) rfl gN rfl rN) ag))) (af (aR dH B hr (af (rv 0) (af (fG (v:=.ref aN) (fr 0) rfl gN rfl rN) ag))) ag))))
   (ar (aB (aR bM B hr (af (aw ax (rv 3) ah) (af (aZ eI (aw ax (rv 3) ah) (rv 2)) ag))))))))]
 ·obtain ⟨l,l',rfl,_⟩:=h;rfl
 obtain ⟨l,l',rfl,sl,sl',q0,q1⟩:=h
 refine hX ?_
 have z1:Sz 900 (0:Rat):=⟨⟨by decide⟩,⟨by decide⟩⟩
 have s3:=nI sl z1
 have s3':=nI sl' z1
 have s4:Sz 6001 (l'.at 0 - l.at 0):=s3'.sub s3
 have bg:Bd 65 (l.v - l'.v):=sl.v.sub sl'.v
 simp_all! [qB]
 split
 ·rename_i e;simp_all! [];exact q0 (by omega)
 rename_i e
 have hv:l.v≠l'.v:=by omega
 simp_all! []
 refine ⟨l',0,rfl,sl'.m,sl'.p,z1,sl'.v,l,0,rfl,sl.m,sl.p,z1,sl.v,l'.at 0,l.at 0,rfl,s3'.mono (by decide),s3.mono (by decide),?_⟩
 simp_all! []
 refine ⟨.of s4.den bg,_,_,rfl,Int.mul_ne_zero (er _) e,(Bd.mul s4.den bg (k:=6100)).mono (by decide),?_⟩
 rw [xG l l' hv]
 exact q1 hv
theorem xH {l l':aS} (sl:tL 900 l) (sl':tL 900 l') (h:l.v≠l'.v):Sz 8000 (jM l l'):=by
 rw [← xG l l' h]
 have z1:Sz 900 (0:Rat):=⟨⟨by decide⟩,⟨by decide⟩⟩
 have s4:Sz 6001 (l'.at 0 - l.at 0):=(nI sl' z1).sub (nI sl z1)
 have bg:Bd 65 (l.v - l'.v):=sl.v.sub sl'.v
 exact Sz.div (s4.num.mono (by decide)) ((Bd.mul s4.den bg (k:=6100)).mono (by decide)) (Int.mul_ne_zero (er _) (by omega))
theorem a9.O6 {L:Ln} (h:a9 L) {c:Cf} (hc:c∈L.cs):tL 900 c.cur:=(h.ck c hc _ (Cf.iI (h.ne c hc)).2).NC
abbrev i8:Stmt:=(L2.inClass (top 42) 13)
abbrev gT:List Str:=["self","name","other"]
theorem lq:L2.av ["self","name","other","met"] ["self","name","other"] (L2.ai i8):=dI
def rH (cN cL eC:Addr):cx:=λxs J Q E=>∃p L n n',xs=[.ref p,.str n,.str n']∧aW cN cL J p L∧a9 L∧(∀c∈L.cs,∀c'∈L.cs,c.n=n→c'.n=n'→c.g=none→c'.g=none→Q (gv (Ha L.t c.cur c'.cur)) J)∧(n ∉ L.row∨n' ∉ L.row→E eC J)
theorem tj {cN cL eC f:Addr} {fd:FuncData} (F:b7 K "meets" "Lane.meets" i8 f fd) (Z:bL mg) (au:dj K mg "Lane" cN) (ay:aD K cN "now") (bE:cn P w K mg base cN 4 "leg_of" d5 (nh cN cL eC)) (Cc:bz P w K mg base 5 "meeting" qY BS) (dG:bz P w K mg base 1 "less" fE dh):aH P w K mg base (cQ P w) 6 f fd gT (dk K (rH cN cL eC)):=by
 simp_arith [lq,(aj (aK (i:=3) lq.nd (aR Cc B hr (af (bp (pl:=_) bE B hr (rv 0) (af (rv 1) ag)) (af (bp (pl:=_) bE B hr (rv 0) (af (rv 2) ag)) ag))))
   (ar (aB (Oz (dT (gY (aI qL (rv 3) lQ) (fH (bO (aR dG B hr (af (aP au.cl ay (rv 0)) (af (rv 3) ag))))))) (rv 3) lQ))))]
 ·obtain ⟨p,L,n,n',rfl,_⟩:=h;rfl
 obtain ⟨p,L,n,n',rfl,b,ok,q,qe⟩:=h
 have bo:=b.ob
 refine hX ?_
 simp_all! [bo]
 refine ⟨dJ _ _ _ _,p,L,n,rfl,b,ok,λc hc e hg=>?_,λz=>qe (.inl z)⟩
 simp_all! [bo]
 refine ⟨dJ _ _ _ _,p,L,n',rfl,b,ok,λc' hc' e' hg'=>?_,λz=>qe (.inr z)⟩
 have q:=q c hc c' hc' e e' hg hg'
 have sl:=ok.O6 hc
 have sl':=ok.O6 hc'
 unfold Ha at q
 refine ⟨c.cur,c'.cur,rfl,sl,sl',λhv=>?_,λhv=>?_⟩
 ·rw [if_neg (λz=>z.1 hv)] at q
  simp_all! []
  exact q
 ·simp_all! [qA,bo,qE,dh]
  refine ⟨ok.Mg.mono (by decide),(xH sl sl' hv).mono (by decide),?_⟩
  split
  ·rename_i c1
   rw [if_pos ⟨hv,c1⟩] at q
   simp_all! []
   exact q
  ·rename_i c1
   rw [if_neg (λz=>c1 z.2)] at q
   exact q
theorem Sj (A:Nat):Sc gK A 0:=⟨0,by rw [Rat.zero_mul];rfl,SY _⟩
theorem aW.zB {cN cL:Addr} {J:Hq} {p T:Addr} {L:Ln} (h:aW cN cL J p L) (hT:J T=Te .tab):¬ L.own p T:=by
 rintro (rfl | rfl | rfl | ⟨c,hc,rfl | rfl⟩)
 ·rw [h.ob] at hT;cases hT
 ·rw [h.dc] at hT;cases hT
 ·rw [h.rw] at hT;cases hT
 ·rw [(h.lg c hc).o] at hT;cases hT
 ·rw [(h.lg c hc).l] at hT;cases hT
theorem M8 {L:Ln} {n:Str} {l:aS} (h:(n,l)∈L.fs):∃c∈L.cs,c.n=n∧c.g=none∧c.cur=l:=by
 obtain ⟨c,hc,e⟩:=Sn.mp h
 have:=Ln.dD.mp hc
 cases e
 exact ⟨c,this.1,rfl,this.2,rfl⟩
def oE:cx:=λxs J Q _=>∃a b:Int,xs=[.int a,.int b]∧Q (.int (Int.gcd a b:Nat)) J
theorem xE (C:rV P w K mg base 1 "shared" iw rJ):bz P w K mg base 1 "shared" iw oE:=C.lift λxs J vs H Q2 E2 Q E rs r ⟨a,b,ex,q⟩ kn=>by
 subst ex
 obtain ⟨v,u,rfl,r1,r2⟩:=je rs
 cases r1;cases r2
 exact ⟨a,b,rfl,kn (.int _) J _ H rfl r .refl q⟩
abbrev d7:Stmt:=(top 18)
abbrev f9:List Str:=["pair"]
theorem lY:L2.av ["pair"] ["pair"] (L2.ai d7):=dI
def yv:cx:=λxs J Q _=>∃a b:Int,xs=[.tup [.int a,.int b]]∧Q (.bl (decide (1≤b∧Int.gcd a b=1))) J
theorem kR {f:Addr} {fd:FuncData} (F:b7 K "in_lowest_terms" "in_lowest_terms" d7 f fd) (Z:bL mg) (hZ:bz P w K mg base 1 "shared" iw oE):aH P w K mg base (cQ P w) 2 f fd f9 (dk K yv):=by
 simp_arith [lY,(ar (aB (z_ (gX E4 (aw ax (rv 0) ah) ah) (vS (gX (cP hr.aY) (aR hZ B hr (af (aw ax (rv 0) ah) (af (aw ax (rv 0) ah) ag))) ah)))))]
 ·obtain ⟨a,b,rfl,_⟩:=h;rfl
 obtain ⟨a,b,rfl,q⟩:=h
 refine hX ?_
 simp_all! []
 by_cases c:1≤b
 ·simp only [c,decide_true,true_and,if_true] at q ⊢
  simp_all! [oE]
  have:decide (((Int.gcd a b:Nat):Int)=1)=decide (Int.gcd a b=1):=decide_eq_decide.mpr (by omega)
  rw [this];exact q
 ·simp only [c,decide_false,false_and] at q ⊢
  rw [if_neg (λz=>z)]
  exact q
abbrev g7:Stmt:=(top 40)
abbrev jW:List Str:=["moment"]
theorem gf:L2.av ["moment","top","bottom"] ["moment"] (L2.ai g7):=dI
def fS (a b:Int):Bool:=decide (b≤60∧1≤b∧Int.gcd a b=1∧0≤a∧a≤1000000 * b)
def BO:cx:=λxs J Q _=>∃a b:Int,xs=[.tup [.int a,.int b]]∧Q (.bl (fS a b)) J
theorem pq {f:Addr} {fd:FuncData} (F:b7 K "good_moment" "good_moment" g7 f fd) (Z:bL mg) {nk nq:Tok} (jA:mg "FINEST"=some (.int 60 nk)) (jB:mg "LATEST"=some (.int 1000000 nq)) (ma:bz P w K mg base 2 "in_lowest_terms" f9 yv):aH P w K mg base (cQ P w) 3 f fd jW (dk K BO):=by
 simp_arith [gf,(aj (ra (rv 0) (oq (n:=2) rfl (bY (bB (i:=1) gf.nd) (bY (bB (i:=2) gf.nd) kH))))
   (aj (a8 (dT (j4 (aI oR (rv 2) (fG (v:=.int 60) (.int 60) rfl jA ⟨_,rfl⟩ (λ_ _=>rfl))) (f_ (cK (bO (aR ma B hr (af (rv 0) ag))))))) (ar (aB gB)) aO)
   (ar (aB (Fy Jn Jn ah (rv 1) (aZ eI (fG (v:=.int 1000000) (.int 1000000) rfl jB ⟨_,rfl⟩ (λ_ _=>rfl)) (rv 2)))))))]
 ·obtain ⟨a,b,rfl,_⟩:=h;rfl
 obtain ⟨a,b,rfl,q⟩:=h
 refine hX ?_
 unfold fS at q
 simp_all! []
 simp_all! []
 by_cases c1:60 < b
 ·rw [if_pos c1]
  rw [decide_eq_false (λz=>by omega)] at q
  exact q
 rw [if_neg c1]
 simp_all! []
 refine ⟨a,b,rfl,?_⟩
 by_cases c2:1≤b∧Int.gcd a b=1
 ·rw [decide_eq_true c2]
  simp_all! [vR]
  by_cases c3:0≤a
  ·simp only [c3,decide_true,if_true]
   refine ⟨.of (.small (x:=1000000) (by decide) (by decide)) (.small (x:=b) (by omega) (by omega)),?_⟩
   have:decide (a≤1000000 * b)=decide (b≤60∧1≤b∧Int.gcd a b=1∧0≤a∧a≤1000000 * b):=decide_eq_decide.mpr ⟨λz=>⟨by omega,c2.1,c2.2,c3,z⟩,λz=>z.2.2.2.2⟩
   rw [this];exact q
  ·rw [decide_eq_false (λz=>c3 z.2.2.2.1)] at q
   simp only [c3,decide_false]
   rw [if_neg (λz=>z)]
   exact q
 ·rw [decide_eq_false c2]
  rw [decide_eq_false (λz=>c2 ⟨z.2.1,z.2.2.1⟩)] at q
  simp_all! []
  exact q
theorem aW.less {cN cL:Addr} {J J':Hq} {p:Addr} {L:Ln} (h:aW cN cL J p L) (l:nE J J'):aW cN cL J' p L:=h.keep λa o _ e=>by
 rcases l a with z | z
 ·rw [← z];exact e
 ·rw [z] at e;cases e
theorem nV {J J':Hq} {p r:Addr} {x y:HQ} (l:nE J J') (hp:J p=none) (hr:J' r=none):nE J (put (put J' r x) p y):=λa=>by
 by_cases e:a=p
 ·exact .inr (by rw [e];exact hp)
 by_cases e2:a=r
 ·rcases l a with z | z
  ·right;rw [z,e2];exact hr
  ·exact .inr z
 ·rw [ak e,ak e2];exact l a
theorem t8 {J:Hq} {p r:Addr} {x y z:HQ} (hp:J p=none) (hr:put J p x r=none):nE J (put (put (put J p x) r y) p z):=nV (mG hp) hp hr
theorem xi (xs:List PV) (k:Nat) (h:k≤xs.length):lG xs (some (k:Int)) none=xs.drop k:=by
 unfold lG HT.dN
 simp only [Int.toNat_natCast]
 rw [if_neg (by omega),U_ h]
 rw [To (by rw [TF];exact Ss _)]
theorem bN.keys {L:Ln} (ok:bN L):L.row.map PV.str=(cD (L.fs.map (key L.t))).map λk=>PV.str k.n:=by rw [ok.row];unfold cg;rw [Sy];rfl
theorem uT {L:Ln} (ok:a9 L) {a:Ky} (ha:a∈cD (L.fs.map (key L.t))) {c:Cf} (hc:c∈L.cs) (hg:c.g=none) (e:c.n=a.n):a=key L.t (c.n,c.cur):=by
 obtain ⟨x,hx,rfl⟩:=Sn.mp ((bF _ _).mp ha)
 obtain ⟨c0,hc0,h1,h2,h3⟩:=M8 (n:=x.1) (l:=x.2) hx
 have:c0=c:=ok.uniq hc0 hc (h1.trans e.symm)
 subst this
 show key L.t (x.1,x.2)=_
 rw [← h3,← h1]
theorem kL {L:Ln} (ok:bN L) {a:Ky} (ha:a∈cD (L.fs.map (key L.t))):a.n∈L.row:=by
 rw [ok.row];unfold cg;exact Sn.mpr ⟨a,ha,rfl⟩
theorem mJ {L:Ln} (ok:bN L) {a b:Ky} (ha:a∈cD (L.fs.map (key L.t))) (hb:b∈cD (L.fs.map (key L.t))) (h:b.v < a.v):Sz 9000 (dY L.t a b):=by
 obtain ⟨c,hc,hcn,hcg⟩:=ok.found (kL ok ha)
 obtain ⟨c',hc',hcn',hcg'⟩:=ok.found (kL ok hb)
 have ea:=uT ok.toa9 ha hc hcg hcn
 have eb:=uT ok.toa9 hb hc' hcg' hcn'
 have hv:c.cur.v≠c'.cur.v:=by rw [ea,eb] at h;exact λz=>by have:c'.cur.v < c.cur.v:=h;omega
 rw [ea,eb,← mK hv]
 exact (xH (ok.O6 hc) (ok.O6 hc') hv).mono (by decide)
theorem bN.knd {L:Ln} (ok:bN L):((L.fs.map (key L.t)).map Ky.n).Nodup:=by rw [dR];exact ok.Kw
theorem bN.Nf {L:Ln} (ok:bN L):(cD (L.fs.map (key L.t))).length≤12:=by
 have h1:=ok.rl
 have h2:=congrArg Tt ok.keys
 rw [Sm,Sm] at h2
 omega
theorem xI {L:Ln} (ok:bN L) {i j:Nat} {a b:Ky} (ha:(cD (L.fs.map (key L.t)))[i]?=some a) (hb:(cD (L.fs.map (key L.t)))[j]?=some b) (hij:i < j) {c c':Cf} (hc:c∈L.cs) (hc':c'∈L.cs) (hg:c.g=none) (hg':c'.g=none) (e:c.n=a.n) (e':c'.n=b.n) :
  Ha L.t c.cur c'.cur=if b.v < a.v∧a.p < b.p then some (dY L.t a b) else none:=by
 have ea:=uT ok.toa9 (Su ha) hc hg e
 have eb:=uT ok.toa9 (Su hb) hc' hg' e'
 have hlt:a.lt b=true:=by
  obtain ⟨hil,ei⟩:=Sq.mp ha
  obtain ⟨hjl,ej⟩:=Sq.mp hb
  have:=S_.mp (dw ok.knd) i j hil hjl hij
  rw [ei,ej] at this;exact this
 rw [ea,eb] at hlt ⊢
 have key:=Hb hlt
 unfold Ha
 by_cases z:c.cur.v≠c'.cur.v∧L.t < jM c.cur c'.cur
 ·rw [if_pos z,if_pos (show (Ov.key L.t (c'.n,c'.cur)).v < (Ov.key L.t (c.n,c.cur)).v∧(Ov.key L.t (c.n,c.cur)).p < (Ov.key L.t (c'.n,c'.cur)).p from key.mp z),mK z.1]
 ·rw [if_neg z,if_neg (show ¬ ((Ov.key L.t (c'.n,c'.cur)).v < (Ov.key L.t (c.n,c.cur)).v∧(Ov.key L.t (c.n,c.cur)).p < (Ov.key L.t (c'.n,c'.cur)).p) from λy=>z (key.mpr y))]
theorem Ia {L:Ln} (ok:bN L) {i j:Nat} {a b:Ky} (ha:(cD (L.fs.map (key L.t)))[i]?=some a) (hb:(cD (L.fs.map (key L.t)))[j]?=some b) (hij:i < j) (h:b.v < a.v):a.p < b.p:=by
 obtain ⟨hil,ei⟩:=Sq.mp ha
 obtain ⟨hjl,ej⟩:=Sq.mp hb
 have:=S_.mp (dw ok.knd) i j hil hjl hij
 rw [ei,ej,Ky.lt_iff] at this
 rcases this with z | ⟨_,z | ⟨z,_⟩⟩
 ·exact z
 ·omega
 ·omega
abbrev fu:Stmt:=(L2.inClass (top 42) 6)
abbrev iu:List Str:=["self","moment"]
theorem bS:L2.av ["self","moment","passings","at","hind","fore","met"] ["self","moment"] (L2.ai fu):=dI
theorem t9 {J J':Hq} {l:Addr} {o:HQ} (h:nE J J'):nE (put J l o) (put J' l o):=λa=>by
 by_cases e:a=l
 ·subst e;rw [aq,aq];exact .inl rfl
 ·rw [ak e,ak e];exact h a
def BU (cN cL eM eP:Addr):cx:=λxs J Q E=>∃p L a b,xs=[.ref p,.tup [.int a,.int b]]∧aW cN cL J p L∧bN L∧(fS a b=false→E eM J)∧(∀m:Rat,m.num=a→(m.den:Int)=b→fS a b=true→(m < L.t→E eP J)∧(L.t≤m→Q (.fl ((ed L.t (L.fs.map (key L.t)) m).map aF.v)) J∨∀l,J l=none→Q (.ref l) (put J l (.lst ((ed L.t (L.fs.map (key L.t)) m).map aF.v)))))
theorem nZ {cN cL cB eM eP eC f:Addr} {fd:FuncData} (F:b7 K "foretold" "Lane.foretold" fu f fd) (Z:bL mg) (au:dj K mg "Lane" cN) (ay:aD K cN "now") (az:aD K cN "row") (eW:Own K mg "BadMoment" eM) (qd:Own K mg "Past" eP) (rZ:bz P w K mg base 3 "good_moment" jW BO) (dG:bz P w K mg base 1 "less" fE dh) (ki:uH P w K mg base cB 1 "Bells" d4 (wt cB)) (c9:cn P w K mg base cN 6 "meets" gT (rH cN cL eC)) (dS:cn P w K mg base cB 3 "put" iQ (Al cB)) (c8:cn P w K mg base cB 1 "told" gR (wu cB)):aH P w K mg base (cQ P w) 7 f fd iu (dk K (BU cN cL eM eP)):=by
 simp_arith [bS,(aj (a8 (cK (bO (aR rZ B hr (af (rv 1) ag)))) (ar (dz eW rfl cu B.kn rfl (af bJ ag))) aO)
   (aj (a8 (bO (aR dG B hr (af (rv 1) (af (aP au.cl ay (rv 0)) ag)))) (ar (dz qd rfl cu B.kn rfl (af bJ ag))) aO)
   (aj (aK (i:=2) bS.nd (mZ ki B hr))
   (aj (fq cG rfl (H_ rfl Z.enumerate (af (aP au.cl az (rv 0)) ag)) (oq (n:=2) rfl (bY (bB (i:=3) bS.nd) (bY (bB (i:=4) bS.nd) kH))) (ar (fq cG rfl (eS (iy FR (aP au.cl az (rv 0)) (kK (aZ d3 (rv 3) ah)) kJ)) (bB (i:=5) bS.nd) (aj (aK (i:=6) bS.nd (bp (pl:=_) c9 B hr (rv 0) (af (rv 4) (af (rv 5) ag))))
   (ar (a8 (dT (gY (aI qL (rv 6) lQ) (fH (cK (bO (aR dG B hr (af (rv 1) (af (rv 6) ag)))))))) (ar (a_ (bp (pl:=_) dS B hr (rv 2) (af (rv 6) (af (rv 4) (af (rv 5) ag)))))) aO))))))
   (ar (aB (bP (pl:=_) c8 B hr (rv 2)))))))),F]
 ·obtain ⟨p,L,a,b,rfl,_⟩:=h;rfl
 obtain ⟨p,L,a,bb,rfl,b,ok,qe,q⟩:=h
 have bo:=b.ob
 refine hX ?_
 simp_all! []
 refine ⟨a,bb,rfl,?_⟩
 cases hg:fS a bb with
 | false =>
  simp_all! [fo]
  exact qe hg
 | true =>
  have hgm:=of_decide_eq_true hg
  obtain ⟨m,hm1,hm2⟩:∃m:Rat,m.num=a∧(m.den:Int)=bb:=⟨⟨a,bb.toNat,by omega,by
   have:=hgm.2.2.1
   unfold Int.gcd at this
   show Nat.gcd a.natAbs bb.toNat=1
   rw [show bb.toNat=bb.natAbs by omega];exact this⟩,rfl,by show ((bb.toNat:Nat):Int)=bb;omega⟩
  obtain ⟨q1,q2⟩:=q m hm1 hm2 hg
  have ef:PV.tup [.int a,.int bb]=fr m:=by rw [← hm1,← hm2];rfl
  have sm:Sz 900 m:=⟨(Bd.small (x:=m.num) (by omega) (by omega)).mono (by decide),(Bd.small (x:=(m.den:Int)) (by omega) (by omega)).mono (by decide)⟩
  simp_all! [bo,qE,ef]
  refine ⟨_,_,rfl,sm.mono (by decide),ok.Mg.mono (by decide),?_⟩
  by_cases c1:m < L.t
  ·rw [decide_eq_true c1]
   simp_all! [fo]
   exact q1 c1
  rw [decide_eq_false c1]
  have q:=q2 (by grind)
  simp_all! []
  intro pb hpb
  refine ⟨pb,rfl,aq,λr0 hr0=>⟨rfl,?_⟩⟩
  have l0:=t8 (y:=.lst []) (z:=.ins cB [("rows",.ref r0)]) hpb hr0
  have nr0:r0≠pb:=by intro e;subst e;rw [aq] at hr0;cases hr0
  have b0:Gh cB (put (put (put J pb (.ins cB [])) r0 (.lst [])) pb (.ins cB [("rows",.ref r0)])) pb r0 []:=⟨aq,by rw [ak nr0];exact aq⟩
  generalize put (put (put J pb (.ins cB [])) r0 (.lst [])) pb (.ins cB [("rows",.ref r0)])=J0 at l0 b0 ⊢
  simp_all! [(b.less l0).ob,(b.less l0).rw,qF]
  obtain ⟨ks,hks⟩:∃ks,cD (L.fs.map (key L.t))=ks:=⟨_,rfl⟩
  have hrow:L.row.map PV.str=ks.map λk=>PV.str k.n:=by rw [← hks];exact ok.keys
  have hkl:ks.length≤12:=by rw [← hks];exact ok.Nf
  have hup:∀{ps:List (Ky × Ky)},(∀p∈ps,p.1∈ks∧p.2∈ks)→∀x∈cj L.t (eY L.t m) ps,Sz 9000 x.m:=λhp x hx=>by
   obtain ⟨p,hp',hc,rfl⟩:=nO _ hx
   have:=of_decide_eq_true hc
   exact mJ ok (by rw [hks];exact (hp p hp').1) (by rw [hks];exact (hp p hp').2) this.1
  rw [hrow]
  obtain ⟨Inv,hInv⟩:∃Inv:Nat→Sr→Hq→Prop,∀i τ J',Inv i τ J'↔∃(r:Addr) (u3 u4 u5 u6:Option PV),τ=[some (.ref p),some (fr m),some (.ref pb),u3,u4,u5,u6]∧nE J J'∧Gh cB J' pb r (cj L.t (eY L.t m) (yJ ks i))∧(cj L.t (eY L.t m) (yJ ks i)).length≤12 * i:=⟨_,λ_ _ _=>Iff.rfl⟩
  refine gM Inv ((hInv _ _ _).mpr ⟨r0,_,_,_,_,rfl,l0,b0,Ss _⟩) (λi τ J' h=>?_) ?_ ?_
  ·obtain ⟨r,_,_,_,_,_,l',_⟩:=(hInv _ _ _).mp h
   rw [(b.less l').rw,hrow]
  ·intro i x τ J' hx hv
   obtain ⟨r,u3,u4,u5,u6,rfl,l',bb,hle⟩:=(hInv _ _ _).mp hv
   clear hv
   have hi:i < ks.length:=by have:=(Sq.mp hx).1;rw [kr,Sm] at this;exact this
   have ha:ks[i]?=some ks[i]:=So hi
   rw [tW _ i (.str (ks[i]).n) (by rw [SA,ha];rfl)] at hx
   cases hx
   generalize ks[i]=a at ha ⊢
   simp_all! [(b.less l').ob,(b.less l').rw,qF]
   rw [hrow,show (i:Int) + 1=((i + 1:Nat):Int) by omega,xi _ _ (by rw [Sm];omega),← UX]
   have eup:yJ ks (i + 1)=yJ ks i ++ (ks.drop (i + 1)).map λb=>(a,b):=by show yJ ks i ++ _=_;rw [ha]
   have mup:∀j,∀p∈yJ ks i ++ ((ks.drop (i + 1)).take j).map (λb=>(a,b)),p.1∈ks∧p.2∈ks:=λj p hp=>by
    rcases SD.mp hp with hp | hp
    ·obtain ⟨_,_,_,_,h3,h4⟩:=nu.mp hp
     exact ⟨Su h3,Su h4⟩
    ·obtain ⟨y,hy,rfl⟩:=Sn.mp hp
     exact ⟨Su ha,List.mem_of_mem_drop (TR hy)⟩
   obtain ⟨In2,hIn2⟩:∃In2:Nat→Sr→Hq→Prop,∀j τ J',In2 j τ J'↔∃(r:Addr) (u5 u6:Option PV),τ=[some (.ref p),some (fr m),some (.ref pb),some (.int (i:Int)),some (.str a.n),u5,u6]∧nE J J'∧Gh cB J' pb r (cj L.t (eY L.t m) (yJ ks i ++ ((ks.drop (i + 1)).take j).map λb=>(a,b)))∧(cj L.t (eY L.t m) (yJ ks i ++ ((ks.drop (i + 1)).take j).map λb=>(a,b))).length≤12 * i + j:=⟨_,λ_ _ _=>Iff.rfl⟩
   refine gM In2 ((hIn2 _ _ _).mpr ⟨r,_,_,rfl,l',by simpa using bb,by simpa using hle⟩) (λ_ _ _ _=>trivial) ?_ ?_
   ·intro j x τ J2 hx hv
    obtain ⟨r2,u5,u6,rfl,l2,bb2,hle2⟩:=(hIn2 _ _ _).mp hv
    clear hv
    have hj:j < (ks.drop (i + 1)).length:=by have:=(Sq.mp hx).1;rw [Sm] at this;exact this
    have hb:(ks.drop (i + 1))[j]?=some (ks.drop (i + 1))[j]:=So hj
    rw [SA,hb] at hx
    cases hx
    generalize (ks.drop (i + 1))[j]=y at hb ⊢
    have hb':ks[i + 1 + j]?=some y:=by rw [Uq] at hb;exact hb
    have hjl:j < 12:=by rw [TF] at hj;omega
    have ej:(ks.drop (i + 1)).take (j + 1)=(ks.drop (i + 1)).take j ++ [y]:=by rw [S4,hb];rfl
    have ef2:cj L.t (eY L.t m) (yJ ks i ++ ((ks.drop (i + 1)).take (j + 1)).map λb=>(a,b))=kS L.t (eY L.t m) (cj L.t (eY L.t m) (yJ ks i ++ ((ks.drop (i + 1)).take j).map λb=>(a,b))) (a,y):=by
     rw [ej,Sw,← T8];exact eu _ _ _ _
    have srt:=ij L.t (eY L.t m) (yJ ks i ++ ((ks.drop (i + 1)).take j).map λb=>(a,b))
    have szs:=hup (mup j)
    generalize cj L.t (eY L.t m) (yJ ks i ++ ((ks.drop (i + 1)).take j).map λb=>(a,b))=rows at bb2 hle2 ef2 srt szs
    have rM:eY L.t m (a,y)=false→∀{v5 v6},In2 (j + 1) [some (.ref p),some (fr m),some (.ref pb),some (.int (i:Int)),some (.str a.n),v5,v6] J2:=λhc v5 v6=>by
     have e:kS L.t (eY L.t m) rows (a,y)=rows:=by unfold kS;rw [if_neg (by rw [hc];decide)]
     exact (hIn2 _ _ _).mpr ⟨r2,_,_,rfl,l2,by rw [ef2,e];exact bb2,by rw [ef2,e];omega⟩
    have b2:=b.less l2
    simp_all! [b2.ob]
    refine ⟨dJ _ _ _ _,p,L,a.n,y.n,rfl,b2,ok.toa9,λc hc c' hc' e e' hg hg'=>?_,λz=>?_⟩
    ·have hmet:=xI ok (by rw [hks];exact ha) (by rw [hks];exact hb') (by omega) hc hc' hg hg' e e'
     rw [hmet]
     by_cases c2:y.v < a.v∧a.p < y.p
     ·rw [if_pos c2]
      have smk:=mJ ok (by rw [hks];exact Su ha) (by rw [hks];exact Su hb') c2.1
      simp_all! [gv,qA,dh]
      refine ⟨sm.mono (by decide),smk,?_⟩
      by_cases c3:m < dY L.t a y
      ·rw [if_pos c3]
       exact rM (decide_eq_false (λz=>by have:=z.2.2;grind))
      ·rw [if_neg c3]
       have hcp:eY L.t m (a,y)=true:=decide_eq_true ⟨c2.1,c2.2,by grind⟩
       have e:kS L.t (eY L.t m) rows (a,y)=kQ ⟨dY L.t a y,a.n,y.n⟩ (dt a.n y.n rows):=by unfold kS;rw [if_pos hcp];rfl
       simp_all! [bb2.o]
       refine ⟨Ny _,pb,r2,rows,dY L.t a y,a.n,y.n,rfl,bb2,srt,by omega,smk,szs,λr' hr'=>?_⟩
       have nr:r'≠pb:=by intro z;subst z;rw [bb2.o] at hr';cases hr'
       refine (hIn2 _ _ _).mpr ⟨r',_,_,rfl,nV l2 hpb hr',⟨aq,by rw [ak nr,aq,ef2,e]⟩,?_⟩
       rw [ef2,e,xr]
       have:=nK a.n y.n rows
       omega
     ·rw [if_neg c2]
      simp_all! [gv]
      exact rM (decide_eq_false (λz=>c2 ⟨z.1,z.2.1⟩))
    ·rcases z with z | z
     ·exact absurd (kL ok (by rw [hks];exact Su ha)) z
     ·exact absurd (kL ok (by rw [hks];exact Su hb')) z
   ·intro τ J2 hv
    obtain ⟨r2,u5,u6,rfl,l2,bb2,hle2⟩:=(hIn2 _ _ _).mp hv
    rw [Sm,S3,← eup] at bb2 hle2
    rw [TF] at hle2
    exact (hInv _ _ _).mpr ⟨r2,_,_,_,_,rfl,l2,bb2,by omega⟩
  ·intro τ J' hv
   obtain ⟨r,u3,u4,u5,u6,rfl,l',bb,hle⟩:=(hInv _ _ _).mp hv
   rw [kr,Sm,← hks,IG ok.knd] at bb
   simp_all! [bb.o]
   exact ⟨Nz _,pb,r,_,rfl,bb,q.imp (λq=>Fg.less l' q) λq l hl=>Fg.less (t9 l') (q l ((l' l).elim (λe=>e.trans hl) id))⟩
theorem xq {m:Rat} (h:fS m.num m.den=true):Sc gK MM m∧0≤m:=by
 have h:=of_decide_eq_true h
 have hd:m.den≤60:=by omega
 constructor
 ·have h1:Sc m.den m.num.natAbs m:=⟨m.num,by have:=cast_eq m;rw [this];rfl,Ss _⟩
  obtain ⟨k,hk⟩:=Rz m.den m.den_pos hd
  have h2:=h1.scale (E:=k)
  rw [show k * m.den=gK by rw [hk,Nat.mul_comm]] at h2
  refine h2.mono ?_
  have h3:m.num.natAbs≤1000000 * m.den:=by omega
  have h4:k * m.num.natAbs≤k * (1000000 * m.den):=Nat.mul_le_mul_left _ h3
  have h5:k * (1000000 * m.den)=1000000 * gK:=by rw [hk];rw [Nat.mul_left_comm,Nat.mul_comm k]
  unfold MM
  omega
 ·exact Rat.num_nonneg.mp h.2.2.2.1
theorem a9.M9 {L:Ln} (h:a9 L) {m:Rat} (hm:L.t≤m) (hg:fS m.num m.den=true):a9 { L with t:=m } :=
 ⟨h.nd,h.ne,λc hc l hl=>Rat.le_trans (h.le c hc l hl) hm,h.ck,h.len,λc hc q e=>⟨(h.gz c hc q e).1,Rat.le_trans (h.gz c hc q e).2 hm⟩,(xq hg).2,(xq hg).1,h.many,h.rm,h.rn,h.rl⟩
abbrev i6:Stmt:=(L2.inClass (top 42) 5)
abbrev gS:List Str:=["self","moment"]
theorem lp:L2.av ["self","moment","passings"] ["self","moment"] (L2.ai i6):=dI
def FP (cN cL eM eP:Addr):cx:=λxs J Q E=>∃p L a b,xs=[.ref p,.tup [.int a,.int b]]∧aW cN cL J p L∧bN L∧(fS a b=false→E eM J)∧(∀m:Rat,m.num=a→(m.den:Int)=b→fS a b=true→(m < L.t→E eP J)∧(L.t≤m→∀J' o',aW cN cL J' p { L with t:=m,o:=o',row:=cg m L.fs }→bN { L with t:=m,o:=o',row:=cg m L.fs }→Mv J J' (L.own p) (Ln.own { L with t:=m,o:=o',row:=cg m L.fs } p)→Q (.fl ((ed L.t (L.fs.map (key L.t)) m).map aF.v)) J'))
theorem sZ {cN cL eM eP f:Addr} {fd:FuncData} (F:b7 K "go_to" "Lane.go_to" i6 f fd) (Z:bL mg) (au:dj K mg "Lane" cN) (ay:aD K cN "now") (fh:cn P w K mg base cN 7 "foretold" iu (BU cN cL eM eP)) (bh:cn P w K mg base cN 7 "settle" c4 (iA cN cL)):aH P w K mg base (cQ P w) 8 f fd gS (dk K (FP cN cL eM eP)):=by
 simp_arith [lp,(aj (aK (i:=2) lp.nd (bp (pl:=_) fh B hr (rv 0) (af (rv 1) ag)))
   (aj (dM au.cl ay (rv 0) (rv 1))
   (aj (a_ (bP (pl:=_) bh B hr (rv 0)))
   (ar (aB (rv 2))))))]
 ·obtain ⟨p,L,a,b,rfl,_⟩:=h;rfl
 obtain ⟨p,L,a,bb,rfl,b,ok,qe,q⟩:=h
 have bo:=b.ob
 refine hX ?_
 simp_all! [bo]
 refine ⟨dJ _ _ _ _,p,L,a,bb,rfl,b,ok,qe,λm h1 h2 hg=>⟨(q m h1 h2 hg).1,λhm=>.inl ?_⟩⟩
 have q:=(q m h1 h2 hg).2 hm
 have ef:PV.tup [.int a,.int bb]=fr m:=by rw [← h1,← h2];rfl
 have hgm:fS m.num m.den=true:=by rw [h1,h2];exact hg
 have ok1:=ok.toa9.M9 hm hgm
 simp_all! [bo,ef]
 refine ⟨by show (3:Nat) < 1000;decide,?_⟩
 have b1:aW cN cL (put J p (.ins cN [("now",fr m),("logs",.ref L.d),("row",.ref L.o)])) p { L with t:=m } :=
  ⟨aq,by show put J p _ L.d=_;rw [ak b.Hg];exact b.dc,by show put J p _ L.o=_;rw [ak b.Hi];exact b.rw,λc hc=>⟨by rw [ak (b.O7 hc)];exact (b.lg c hc).o,by rw [ak (b.MC hc)];exact (b.lg c hc).l⟩,b.ap,b.ao⟩
 have mv1:Mv J (put J p (.ins cN [("now",fr m),("logs",.ref L.d),("row",.ref L.o)])) (L.own p) (L.own p):=fV (.inl rfl) λa h=>.inl h
 generalize put J p (.ins cN [("now",fr m),("logs",.ref L.d),("row",.ref L.o)])=J1 at b1 mv1 ⊢
 simp_all! [b1.ob]
 refine ⟨dJ _ _ _ _,p,{ L with t:=m },rfl,b1,ok1,λJ2 o' b2 mv2=>?_⟩
 simp_all! []
 exact q J2 o' b2 (bN.settled ok1 o') (mv1.trans mv2)
abbrev i4:Stmt:=(L2.inClass (top 42) 9)
abbrev kZ:List Str:=["self"]
theorem dA:L2.av ["self","ringing","hind","fore","met"] ["self"] (L2.ai i4):=dI
def yx (cN cL:Addr):cx:=λxs J Q E=>∃p L,xs=[.ref p]∧aW cN cL J p L∧bN L∧(Q (.fl ((iF L.t (L.fs.map (key L.t))).map aF.v)) J∨∀l,J l=none→Q (.ref l) (put J l (.lst ((iF L.t (L.fs.map (key L.t))).map aF.v))))
theorem sX {cN cL cB eC f:Addr} {fd:FuncData} (F:b7 K "bells" "Lane.bells" i4 f fd) (Z:bL mg) (au:dj K mg "Lane" cN) (az:aD K cN "row") (ki:uH P w K mg base cB 1 "Bells" d4 (wt cB)) (c9:cn P w K mg base cN 6 "meets" gT (rH cN cL eC)) (dS:cn P w K mg base cB 3 "put" iQ (Al cB)) (c8:cn P w K mg base cB 1 "told" gR (wu cB)):aH P w K mg base (cQ P w) 7 f fd kZ (dk K (yx cN cL)):=by
 simp_arith [dA,(aj (aK (i:=1) dA.nd (mZ ki B hr))
   (aj (fq cG rfl (LQ rfl Z.zip (af (aP au.cl az (rv 0)) (af (iy FR (aP au.cl az (rv 0)) (kK ah) kJ) ag))) (oq (n:=2) rfl (bY (bB (i:=2) dA.nd) (bY (bB (i:=3) dA.nd) kH))) (aj (aK (i:=4) dA.nd (bp (pl:=_) c9 B hr (rv 0) (af (rv 2) (af (rv 3) ag))))
   (ar (a8 (aI qL (rv 4) lQ) (ar (a_ (bp (pl:=_) dS B hr (rv 1) (af (rv 4) (af (rv 2) (af (rv 3) ag)))))) aO))))
   (ar (aB (bP (pl:=_) c8 B hr (rv 1)))))),F]
 ·obtain ⟨p,L,rfl,_⟩:=h;rfl
 obtain ⟨p,L,rfl,b,ok,q⟩:=h
 refine hX ?_
 simp_all! []
 intro pb hpb
 refine ⟨pb,rfl,aq,λr0 hr0=>⟨rfl,?_⟩⟩
 have l0:=t8 (y:=.lst []) (z:=.ins cB [("rows",.ref r0)]) hpb hr0
 have nr0:r0≠pb:=by intro e;subst e;rw [aq] at hr0;cases hr0
 have b0:Gh cB (put (put (put J pb (.ins cB [])) r0 (.lst [])) pb (.ins cB [("rows",.ref r0)])) pb r0 []:=⟨aq,by rw [ak nr0];exact aq⟩
 generalize put (put (put J pb (.ins cB [])) r0 (.lst [])) pb (.ins cB [("rows",.ref r0)])=J0 at l0 b0 ⊢
 obtain ⟨ks,hks⟩:∃ks,cD (L.fs.map (key L.t))=ks:=⟨_,rfl⟩
 have hrow:L.row.map PV.str=ks.map λk=>PV.str k.n:=by rw [← hks];exact ok.keys
 have hkl:ks.length≤12:=by rw [← hks];exact ok.Nf
 have hct:lG (ks.map λk=>PV.str k.n) (some 1) none=ks.tail.map λk=>PV.str k.n:=by
  cases ks with
  | nil=>rfl
  | cons x ks=>exact xi (((x :: ks).map λk=>PV.str k.n)) 1 (by simp)
 have hup:∀{ps:List (Ky × Ky)},(∀p∈ps,p.1∈ks∧p.2∈ks)→∀x∈cj L.t gx ps,Sz 9000 x.m:=λhp x hx=>by
  obtain ⟨p,hp',hc,rfl⟩:=nO _ hx
  exact mJ ok (by rw [hks];exact (hp p hp').1) (by rw [hks];exact (hp p hp').2) (of_decide_eq_true hc)
 simp_all! [Ry,(b.less l0).ob,(b.less l0).rw,qF,hrow,hct]
 have ez:((ks.map λk=>PV.str k.n).zip (ks.tail.map λk=>PV.str k.n)).map (λp=>PV.tup [p.1,p.2])=(ks.zip ks.tail).map λp=>PV.tup [.str p.1.n,.str p.2.n]:=by rw [List.zip_map,Sy];rfl
 rw [ez]
 generalize hps:ks.zip ks.tail=ps
 have hpl:ps.length≤12:=by rw [← hps,Ui];omega
 have hpm:∀x∈ps,x.1∈ks∧x.2∈ks:=λx hx=>by
  rw [← hps] at hx
  obtain ⟨i,h3,h4⟩:=di.mp (show (x.1,x.2)∈_ from hx)
  exact ⟨Su h3,Su h4⟩
 obtain ⟨Inv,hInv⟩:∃Inv:Nat→Sr→Hq→Prop,∀i τ J',Inv i τ J'↔∃(r:Addr) (u2 u3 u4:Option PV),τ=[some (.ref p),some (.ref pb),u2,u3,u4]∧nE J J'∧Gh cB J' pb r (cj L.t gx (ps.take i)):=⟨_,λ_ _ _=>Iff.rfl⟩
 refine gM Inv ((hInv _ _ _).mpr ⟨r0,_,_,_,rfl,l0,b0⟩) (λi τ J' h=>?_) ?_ ?_
 ·obtain ⟨r,_,_,_,_,l',_⟩:=(hInv _ _ _).mp h
  rw [(b.less l').rw,hrow]
 ·intro i x τ J' hx hv
  obtain ⟨r,u2,u3,u4,rfl,l',bb⟩:=(hInv _ _ _).mp hv
  clear hv
  have hi:i < ps.length:=by have:=(Sq.mp hx).1;rw [Sm] at this;exact this
  have hpi:ps[i]?=some ps[i]:=So hi
  rw [SA,hpi] at hx
  cases hx
  have et:ps.take (i + 1)=ps.take i ++ [ps[i]]:=by rw [S4,hpi];rfl
  have szs:=hup (ps:=ps.take i) (λp hp=>hpm p (TR hp))
  have srt:=ij L.t gx (ps.take i)
  have hle:=nM L.t gx (ps.take i)
  rw [SW] at hle
  rcases hab:ps[i] with ⟨a,y⟩
  rw [hab] at hpi et
  have ef2:cj L.t gx (ps.take (i + 1))=kS L.t gx (cj L.t gx (ps.take i)) (a,y):=by rw [et];exact eu _ _ _ _
  generalize cj L.t gx (ps.take i)=rows at bb szs srt hle ef2
  rw [← hps] at hpi
  obtain ⟨ha,hb⟩:=Tv.mp hpi
  rw [Up] at hb
  simp only at ha hb
  have b2:=b.less l'
  simp_all! [b2.ob]
  refine ⟨dJ _ _ _ _,p,L,a.n,y.n,rfl,b2,ok.toa9,λc hc c' hc' e e' hg hg'=>?_,λz=>?_⟩
  ·have hmet:=xI ok (by rw [hks];exact ha) (by rw [hks];exact hb) (by omega) hc hc' hg hg' e e'
   rw [hmet]
   by_cases c2:y.v < a.v
   ·have c3:=Ia ok (by rw [hks];exact ha) (by rw [hks];exact hb) (by omega) c2
    rw [if_pos ⟨c2,c3⟩]
    have smk:=mJ ok (by rw [hks];exact Su ha) (by rw [hks];exact Su hb) c2
    have hcp:gx (a,y)=true:=decide_eq_true c2
    have e:kS L.t gx rows (a,y)=kQ ⟨dY L.t a y,a.n,y.n⟩ (dt a.n y.n rows):=by unfold kS;rw [if_pos hcp];rfl
    simp_all! [gv,qA,bb.o]
    refine ⟨Ny _,pb,r,rows,dY L.t a y,a.n,y.n,rfl,bb,srt,by omega,smk,szs,λr' hr'=>?_⟩
    have nr:r'≠pb:=by intro z;subst z;rw [bb.o] at hr';cases hr'
    exact (hInv _ _ _).mpr ⟨r',_,_,_,rfl,nV l' hpb hr',⟨aq,by rw [ak nr,aq,ef2,e]⟩⟩
   ·rw [if_neg (λz=>c2 z.1)]
    have e:kS L.t gx rows (a,y)=rows:=by
     have hcf:gx (a,y)=false:=decide_eq_false c2
     unfold kS;rw [if_neg (by rw [hcf];decide)]
    simp_all! [gv]
    exact (hInv _ _ _).mpr ⟨r,_,_,_,rfl,l',by rw [ef2,e];exact bb⟩
  ·rcases z with z | z
   ·exact absurd (kL ok (by rw [hks];exact Su ha)) z
   ·exact absurd (kL ok (by rw [hks];exact Su hb)) z
 ·intro τ J' hv
  obtain ⟨r,u2,u3,u4,rfl,l',bb⟩:=(hInv _ _ _).mp hv
  rw [Sm,S3,← hps,← hks,yG ok.knd] at bb
  simp_all! [bb.o]
  exact ⟨Nz _,pb,r,_,rfl,bb,q.imp (λq=>Fg.less l' q) λq l hl=>Fg.less (t9 l') (q l ((l' l).elim (λe=>e.trans hl) id))⟩
def Cf.turn (c:Cf) (t:Rat) (v:Int):Cf:={ c with w:=turned c.w t v }
def cE (n:Str) (t:Rat) (v:Int) (c:Cf):Cf:=if c.n=n then c.turn t v else c
theorem nt (n:Str) (t:Rat) (v:Int) (c:Cf):(cE n t v c).n=c.n∧(cE n t v c).a=c.a∧(cE n t v c).r=c.r∧(cE n t v c).g=c.g:=by unfold cE;split <;> exact ⟨rfl,rfl,rfl,rfl⟩
theorem dX {α β:Type} {f:α→β} {g:α→α} (h:∀x,f (g x)=f x) (l:List α):(l.map g).map f=l.map f:=by rw [Sy];exact SR λx _=>h x
theorem a9.map {L:Ln} (h:a9 L) {f:Cf→Cf} (hn:∀c,(f c).n=c.n∧(f c).a=c.a∧(f c).r=c.r∧(f c).g=c.g) (hw:∀c∈L.cs,(f c).w≠[]∧(∀l∈(f c).w,l.m≤L.t∧rY l)∧(f c).w.length≤200):a9 { L with cs:=L.cs.map f }:=by
 have mem:∀c∈L.cs.map f,∃c0∈L.cs,f c0=c:=λc hc=>by obtain ⟨c0,h0,e⟩:=Sn.mp hc;exact ⟨c0,h0,e⟩
 have hfs:(Ln.fs { L with cs:=L.cs.map f }).map (·.1)=L.fs.map (·.1):=by
  rw [eZ,eZ]
  unfold Ln.Br
  show ((L.cs.map f).filter _).map Cf.n=_
  rw [Tc,Sy]
  have e1:(λc:Cf=>c.g.isNone) ∘ f=λc=>c.g.isNone:=by funext c;show (f c).g.isNone=_;rw [(hn c).2.2.2]
  rw [e1]
  exact SR λc _=>(hn c).1
 refine ⟨?_,?_,?_,?_,?_,?_,h.t0,h.ts,by show (L.cs.map f).length≤100;rw [Sm];exact h.many,λn=>by rw [hfs];exact h.rm n,h.rn,h.rl⟩
 ·show ((L.cs.map f).map Cf.n).Nodup
  rw [dX (λc=>(hn c).1)];exact h.nd
 ·intro c hc;obtain ⟨c0,h0,rfl⟩:=mem c hc;exact (hw c0 h0).1
 ·intro c hc l hl;obtain ⟨c0,h0,rfl⟩:=mem c hc;exact ((hw c0 h0).2.1 l hl).1
 ·intro c hc l hl;obtain ⟨c0,h0,rfl⟩:=mem c hc;exact ((hw c0 h0).2.1 l hl).2
 ·intro c hc;obtain ⟨c0,h0,rfl⟩:=mem c hc;exact (hw c0 h0).2.2
 ·intro c hc q e;obtain ⟨c0,h0,rfl⟩:=mem c hc;exact h.gz c0 h0 q (by rw [← (hn c0).2.2.2];exact e)
theorem a9.IX {L:Ln} (h:a9 L) {c:Cf} (hc:c∈L.cs):c.w≠[]∧(∀l∈c.w,l.m≤L.t∧rY l)∧c.w.length≤200:=⟨h.ne c hc,λl hl=>⟨h.le c hc l hl,h.ck c hc l hl⟩,h.len c hc⟩
theorem a9.JN {L:Ln} (h:a9 L) {c:Cf} (hc:c∈L.cs) (hl:c.w.length < 200) {v:Int} (hv:v.natAbs≤1000):(c.turn L.t v).w≠[]∧(∀l∈(c.turn L.t v).w,l.m≤L.t∧rY l)∧(c.turn L.t v).w.length≤200:=by
 refine ⟨ur (h.ne c hc),λl hl'=>?_,?_⟩
 ·rcases Au hl' with k | ⟨l0,k,rfl⟩
  ·exact ⟨h.le c hc l k,h.ck c hc l k⟩
  ·exact ⟨Rat.le_refl,(h.ck c hc l0 k).at (h.le c hc l0 k) h.ts hv⟩
 ·have:=l8 c.w L.t v
  show (turned c.w L.t v).length≤200
  omega
theorem aW.turn {cN cL:Addr} {J:Hq} {p:Addr} {L:Ln} (h:aW cN cL J p L) (ok:a9 L) {c:Cf} (hc:c∈L.cs) {t:Rat} {v:Int}:aW cN cL (put J c.r (.lst ((turned c.w t v).map aS.V))) p { L with cs:=L.cs.map (cE c.n t v) }:=by
 have hcs:=nt c.n t v
 refine ⟨by rw [ak (Ne.symm (h.MC hc))];exact h.ob,?_,?_,λx hx=>?_,?_,λx hx=>?_⟩
 ·show put J c.r _ L.d=_
  rw [ak (Ne.symm (h.RH hc)),h.dc]
  show _=Te (HQ.dct ((L.cs.map (cE c.n t v)).map λc=>(c.n,PV.ref c.a)) L.e)
  rw [dX (f:=λc:Cf=>(c.n,PV.ref c.a)) (λx=>by rw [(hcs x).1,(hcs x).2.1])]
 ·show put J c.r _ L.o=_
  rw [ak (Ne.symm (h.ao c hc))];exact h.rw
 ·obtain ⟨x0,h0,rfl⟩:=Sn.mp hx
  have hl:=h.lg x0 h0
  refine ⟨?_,?_⟩
  ·rw [(hcs x0).2.1,(hcs x0).2.2.1,(hcs x0).2.2.2,ak (h.Sd h0 hc)];exact hl.o
  ·rw [(hcs x0).2.2.1]
   by_cases e:x0.n=c.n
   ·have:x0=c:=ok.uniq h0 hc e
    subst this
    rw [aq]
    unfold cE;rw [if_pos rfl];rfl
   ·have hr:x0.r≠c.r:=λz=>e (by
     obtain ⟨i,hi,rfl⟩:=S6 h0
     obtain ⟨j,hj,rfl⟩:=S6 hc
     have:=(TC (xs:=L.cs.map Cf.r) (i:=i) (j:=j) (h₀:=by simpa using hi) (h₁:=by simpa using hj) h.ap).mp (by rw [Ti,Ti];exact z)
     subst this;rfl)
    rw [ak hr]
    unfold cE;rw [if_neg e];exact hl.l
 ·show ((L.cs.map (cE c.n t v)).map Cf.r).Nodup
  rw [dX (λx=>(hcs x).2.2.1)];exact h.ap
 ·obtain ⟨x0,h0,rfl⟩:=Sn.mp hx
  rw [(hcs x0).2.2.1];exact h.ao x0 h0
theorem vq {L:Ln} {p:Addr} {f:Cf→Cf} (hn:∀c,(f c).n=c.n∧(f c).a=c.a∧(f c).r=c.r∧(f c).g=c.g) (a:Addr):Ln.own { L with cs:=L.cs.map f } p a↔L.own p a:=by
 unfold Ln.own
 constructor
 ·rintro (h | h | h | ⟨c,hc,h⟩)
  ·exact .inl h
  ·exact .inr (.inl h)
  ·exact .inr (.inr (.inl h))
  ·obtain ⟨c0,h0,rfl⟩:=Sn.mp hc
   rw [(hn c0).2.1,(hn c0).2.2.1] at h
   exact .inr (.inr (.inr ⟨c0,h0,h⟩))
 ·rintro (h | h | h | ⟨c,hc,h⟩)
  ·exact .inl h
  ·exact .inr (.inl h)
  ·exact .inr (.inr (.inl h))
  ·exact .inr (.inr (.inr ⟨f c,Sn.mpr ⟨c,hc,rfl⟩,by rw [(hn c).2.1,(hn c).2.2.1];exact h⟩))
abbrev j7:Stmt:=(L2.inClass (top 42) 3)
abbrev mP:List Str:=["self","name","pace"]
theorem wc:L2.av ["self","name","pace"] ["self","name","pace"] (L2.ai j7):=dI
def BX (cN cL eC eF:Addr):cx:=λxs J Q E=>∃p L n v,xs=[.ref p,.str n,.int v]∧aW cN cL J p L∧bN L∧(∀c∈L.cs,c.w.length < 200)∧(n ∉ L.row→E eC J)∧(n∈L.row→¬ v.natAbs≤1000→E eF J)∧(n∈L.row→v.natAbs≤1000→∀J' L',aW cN cL J' p L'→bN L'→L'.cs=L.cs.map (cE n L.t v)→L'.t=L.t→Mv J J' (L.own p) (L'.own p)→Q .non J')
theorem ve {cN cL eC eF f:Addr} {fd:FuncData} (F:b7 K "turn" "Lane.turn" j7 f fd) (Z:bL mg) (au:dj K mg "Lane" cN) (aA:aD K cN "logs") (ay:aD K cN "now") {fL:Tok} (dQ:mg "FASTEST"=some (.int 1000 fL)) (eX:Own K mg "TooFar" eF) (aX:cn P w K mg base cN 1 "must_be_there" bZ (pT cN cL eC)) (eA:cn P w K mg base cL 5 "turn" jU (wA cL)) (bh:cn P w K mg base cN 7 "settle" c4 (iA cN cL)):aH P w K mg base (cQ P w) 8 f fd mP (dk K (BX cN cL eC eF)):=by
 simp_arith [wc,(aj (a_ (bp (pl:=_) aX B hr (rv 0) (af (rv 1) ag)))
   (aj (a8 (aI oR (aQ za rfl Z.abs boot_abs (af (rv 2) ag)) (fG (v:=.int 1000) (.int 1000) rfl dQ ⟨_,rfl⟩ (λ_ _=>rfl))) (ar (dz eX rfl cu B.kn rfl (af bJ ag))) aO)
   (aj (a_ (bp (pl:=_) eA B hr (aw fT (aP au.cl aA (rv 0)) (rv 1)) (af (aP au.cl ay (rv 0)) (af (rv 2) ag))))
   (ar (a_ (bP (pl:=_) bh B hr (rv 0)))))))]
 ·obtain ⟨p,L,n,v,rfl,_⟩:=h;rfl
 obtain ⟨p,L,n,v,rfl,b,ok,hlen,qc,qf,q⟩:=h
 have bo:=b.ob
 have bd:=b.dc
 refine hX ?_
 simp_all! [bo]
 refine ⟨dJ _ _ _ _,p,L,n,rfl,b,λhn=>?_,qc⟩
 simp_all! []
 have habs:(1000 < if v < 0 then -v else v)↔¬ v.natAbs≤1000:=by split <;> omega
 by_cases hv:v.natAbs≤1000
 ·rw [if_neg (λz=>habs.mp z hv)]
  obtain ⟨c,hc,rfl,hg⟩:=ok.found hn
  have lo:=(b.lg c hc).o
  have ok1:a9 { L with cs:=L.cs.map (cE c.n L.t v) }:=ok.toa9.map (nt c.n L.t v) λx hx=>by
   unfold cE
   split
   ·exact ok.toa9.JN hx (hlen x hx) hv
   ·exact ok.toa9.IX hx
  have b1:=b.turn ok.toa9 hc (t:=L.t) (v:=v)
  have mv1:Mv J (put J c.r (.lst ((turned c.w L.t v).map aS.V))) (L.own p) (Ln.own { L with cs:=L.cs.map (cE c.n L.t v) } p):=fV (.inr (.inr (.inr ⟨c,hc,.inr rfl⟩))) λa h=>.inl ((vq (nt c.n L.t v) a).mp h)
  simp_all! [bo,qE,sR,bd,ok.va hc,lo]
  refine ⟨NA _ _,c.a,c.r,c.w,c.g,L.t,v,rfl,b.lg c hc,ok.ne c hc,SM (ok.len c hc) (by decide),ok.Mg,λl hl=>(ok.ck c hc l hl).NC,?_⟩
  generalize put J c.r (.lst ((turned c.w L.t v).map aS.V))=J1 at b1 mv1 ⊢
  simp_all! [b1.ob]
  refine ⟨dJ _ _ _ _,p,_,rfl,b1,ok1,λJ2 o' b2 mv2=>?_⟩
  exact q hn hv J2 _ b2 (bN.settled ok1 o') rfl rfl (mv1.trans mv2)
 ·rw [if_pos (habs.mpr hv)]
  simp_all! [fo]
  exact qf hn hv
def cY (t:Rat) (c:Cf):Cf:=if c.g.isNone=true then c.turn t (-c.cur.v) else c
def bQ (t:Rat) (row:List Str) (c:Cf):Cf:=if c.n∈row then c.turn t (-c.cur.v) else c
theorem mn (t:Rat) (row:List Str) (c:Cf):(bQ t row c).n=c.n∧(bQ t row c).a=c.a∧(bQ t row c).r=c.r∧(bQ t row c).g=c.g:=by unfold bQ;split <;> exact ⟨rfl,rfl,rfl,rfl⟩
theorem kj {L:Ln} (ok:a9 L):L.cs.map (bQ L.t L.row)=L.cs.map (cY L.t):=by
 refine SR λc hc=>?_
 have h:c.n∈L.row↔c.g.isNone=true:=by
  rw [ok.rm,eZ,Sn]
  constructor
  ·rintro ⟨c',hc',e⟩
   have h':=Ln.dD.mp hc'
   rw [ok.uniq h'.1 hc e] at h'
   rw [h'.2];rfl
  ·intro e
   exact ⟨c,Ln.dD.mpr ⟨hc,by cases hg:c.g with | none=>rfl | some q=>rw [hg] at e;cases e⟩,rfl⟩
 unfold bQ cY
 by_cases e:c.n∈L.row
 ·rw [if_pos e,if_pos (h.mp e)]
 ·rw [if_neg e,if_neg (λz=>e (h.mpr z))]
theorem a9.bQ {L:Ln} (ok:a9 L) (hlen:∀c∈L.cs,c.w.length < 200) (row:List Str):a9 { L with cs:=L.cs.map (bQ L.t row) }:=ok.map (mn L.t row) λx hx=>by
 unfold Ov.bQ
 split
 ·exact ok.JN hx (hlen x hx) (by have:=(ok.ck x hx _ (Cf.iI (ok.ne x hx)).2).v;omega)
 ·exact ok.IX hx
abbrev iZ:Stmt:=(L2.inClass (top 42) 4)
abbrev kY:List Str:=["self"]
theorem hE:L2.av ["self","name","pace"] ["self"] (L2.ai iZ):=dI
def yw (cN cL:Addr):cx:=λxs J Q E=>∃p L,xs=[.ref p]∧aW cN cL J p L∧bN L∧(∀c∈L.cs,c.w.length < 200)∧(∀J' L',aW cN cL J' p L'→bN L'→L'.cs=L.cs.map (cY L.t)→L'.t=L.t→Mv J J' (L.own p) (L'.own p)→Q .non J')
theorem sW {cN cL eC f:Addr} {fd:FuncData} (F:b7 K "about" "Lane.about" iZ f fd) (Z:bL mg) (au:dj K mg "Lane" cN) (az:aD K cN "row") (aA:aD K cN "logs") (ay:aD K cN "now") (bE:cn P w K mg base cN 4 "leg_of" d5 (nh cN cL eC)) (eA:cn P w K mg base cL 5 "turn" jU (wA cL)) (bh:cn P w K mg base cN 7 "settle" c4 (iA cN cL)):aH P w K mg base (cQ P w) 8 f fd kY (dk K (yw cN cL)):=by
 simp_arith [hE,(aj (fq cG rfl (eS (aP au.cl az (rv 0))) (bB (i:=1) hE.nd) (aj (aK (i:=2) hE.nd (aw ax (bp (pl:=_) bE B hr (rv 0) (af (rv 1) ag)) ah))
   (ar (a_ (bp (pl:=_) eA B hr (aw fT (aP au.cl aA (rv 0)) (rv 1)) (af (aP au.cl ay (rv 0)) (af (ud oH (rv 2)) ag)))))))
   (ar (a_ (bP (pl:=_) bh B hr (rv 0)))))]
 ·obtain ⟨p,L,rfl,_⟩:=h;rfl
 obtain ⟨p,L,rfl,b,ok,hlen,q⟩:=h
 refine hX ?_
 simp_all! [b.ob,b.rw,qF]
 have hid:L.cs.map (bQ L.t (L.row.take 0))=L.cs:=by
  have:∀c∈L.cs,bQ L.t (L.row.take 0) c=c:=λc _=>by unfold bQ;rw [if_neg (by simp)]
  rw [SR this,UM]
 obtain ⟨Inv,hInv⟩:∃Inv:Nat→Sr→Hq→Prop,∀i τ J',Inv i τ J'↔∃(u1 u2:Option PV),τ=[some (.ref p),u1,u2]∧aW cN cL J' p { L with cs:=L.cs.map (bQ L.t (L.row.take i)) }∧Mv J J' (L.own p) (L.own p):=⟨_,λ_ _ _=>Iff.rfl⟩
 refine gM Inv ((hInv _ _ _).mpr ⟨_,_,rfl,by rw [hid];exact b,Mv.refl _ _⟩) (λi τ J' h=>?_) ?_ ?_
 ·obtain ⟨_,_,_,b',_⟩:=(hInv _ _ _).mp h
  have:=b'.rw
  simp only at this
  rw [this]
 ·intro i x τ J' hx hv
  obtain ⟨u1,u2,rfl,b',mv'⟩:=(hInv _ _ _).mp hv
  clear hv
  have hi:i < L.row.length:=by have:=(Sq.mp hx).1;simpa using this
  have hget:L.row[i]?=some L.row[i]:=So hi
  rw [SA,hget] at hx
  cases hx
  have hn:L.row[i]∈L.row:=Td hi
  have et:L.row.take (i + 1)=L.row.take i ++ [L.row[i]]:=by rw [S4,hget];rfl
  have hnd:(L.row.take (i + 1)).Nodup:=ok.rn.sublist (TN _ _)
  rw [et] at hnd
  have hnew:=(fW hnd).2
  generalize L.row[i]=n at hn et hnew ⊢
  obtain ⟨c,hc,rfl,hg⟩:=ok.found hn
  have oki:=ok.toa9.bQ hlen (L.row.take i)
  have ecc:bQ L.t (L.row.take i) c=c:=by unfold bQ;rw [if_neg hnew]
  have hci:c∈L.cs.map (bQ L.t (L.row.take i)):=Sn.mpr ⟨c,hc,ecc⟩
  simp_all! [b'.ob]
  refine ⟨dJ _ _ _ _,p,_,c.n,rfl,b',oki,λc' hc' e' hg'=>?_,λz=>absurd hn z⟩
  have ec':c'=c:=oki.uniq hc' hci e'
  subst ec'
  have hcv:=(ok.ck c' hc _ (Cf.iI (ok.ne c' hc)).2).v
  have lo:=(b'.lg c' hci).o
  have bo':=b'.ob
  have bd':=b'.dc
  simp only at bo' bd'
  simp_all! [qB,bo',qE,sR,bd',lo]
  have hva:=oki.va hci
  simp only at hva
  simp_all! [hva,lo,bo',qE]
  refine ⟨NA _ _,c'.a,c'.r,c'.w,c'.g,L.t,-c'.cur.v,rfl,b'.lg c' hci,ok.ne c' hc,SM (ok.len c' hc) (by decide),ok.Mg,λl hl=>(ok.ck c' hc l hl).NC,?_⟩
  have b1:=b'.turn oki hci (t:=L.t) (v:=-c'.cur.v)
  have em:(L.cs.map (bQ L.t (L.row.take i))).map (cE c'.n L.t (-c'.cur.v))=L.cs.map (bQ L.t (L.row.take (i + 1))):=by
   rw [Sy]
   refine SR λx hx=>?_
   show cE c'.n L.t (-c'.cur.v) (bQ L.t (L.row.take i) x)=_
   by_cases e:x.n=c'.n
   ·have:x=c':=ok.uniq hx hc e
    subst this
    rw [ecc]
    unfold cE Ov.bQ
    rw [if_pos rfl,if_pos (by rw [et];simp)]
   ·unfold cE
    rw [if_neg (by rw [(mn L.t (L.row.take i) x).1];exact e)]
    unfold Ov.bQ
    rw [et]
    by_cases e2:x.n∈L.row.take i
    ·rw [if_pos e2,if_pos (SD.mpr (.inl e2))]
    ·rw [if_neg e2,if_neg (λz=>by
      rcases SD.mp z with z | z
      ·exact e2 z
      ·exact e (by simpa using z))]
  simp only [em] at b1
  refine (hInv _ _ _).mpr ⟨_,_,rfl,b1,mv'.trans (fV (.inr (.inr (.inr ⟨c',hc,.inr rfl⟩))) λa h=>.inl h)⟩
 ·intro τ J' hv
  obtain ⟨u1,u2,rfl,b',mv'⟩:=(hInv _ _ _).mp hv
  rw [Sm,S3,kj ok.toa9] at b'
  have oki:a9 { L with cs:=L.cs.map (cY L.t) }:=by rw [← kj ok.toa9];exact ok.toa9.bQ hlen L.row
  simp_all! [b'.ob]
  refine ⟨dJ _ _ _ _,p,_,rfl,b',oki,λJ2 o' b2 mv2=>?_⟩
  refine q J2 _ b2 (bN.settled oki o') rfl rfl (mv'.trans ⟨λa o e n=>mv2.keep a o e λz=>n ?_,λa h=>?_,mv2.mono⟩)
  ·rw [← kj ok.toa9] at z;exact (vq (mn L.t L.row) a).mp z
  ·rcases mv2.own a h with h' | h'
   ·rw [← kj ok.toa9] at h';exact .inl ((vq (mn L.t L.row) a).mp h')
   ·exact .inr h'
def bD (n:Str) (t:Rat) (c:Cf):Cf:=if c.n=n then { c with g:=some t } else c
theorem e_ (n:Str) (t:Rat) (c:Cf):(bD n t c).n=c.n∧(bD n t c).a=c.a∧(bD n t c).r=c.r∧(bD n t c).w=c.w:=by unfold bD;split <;> exact ⟨rfl,rfl,rfl,rfl⟩
theorem xA {L L':Ln} {n:Str} {t:Rat} (e:L'.cs=L.cs.map (bD n t)):L'.fs=L.fs.filter λx=>decide (x.1≠n):=by
 unfold Ln.fs Ln.Br
 rw [e,Tc,Sy,Tc,List.filter_filter]
 have e1:(λc:Cf=>c.g.isNone) ∘ bD n t=λc=>((λx:Str × aS=>decide (x.1≠n)) ∘ λc:Cf=>(c.n,c.cur)) c && c.g.isNone:=by
  funext c
  show (bD n t c).g.isNone=(decide (c.n≠n) && c.g.isNone)
  unfold bD
  by_cases z:c.n=n
  ·rw [if_pos z];simp [z]
  ·rw [if_neg z];simp [z]
 rw [e1]
 refine SR λc hc=>?_
 show ((bD n t c).n,(bD n t c).cur)=_
 unfold Cf.cur
 rw [(e_ n t c).1,(e_ n t c).2.2.2]
theorem xX {ks:List Ky} (h:(ks.map Ky.n).Nodup) (f:Ky→Bool):cD (ks.filter f)=(cD ks).filter f:=by
 have hs:((ks.filter f).map Ky.n).Nodup:=h.sublist (List.Sublist.map _ Uk)
 refine ni (lt:=Ky.lt) Ky.Gf Ky.tr (dw hs) ((dw h).filter _) λx=>?_
 rw [bF,SE,SE,bF]
theorem xY {t:Rat} {fs:List (Str × aS)} (h:(fs.map (·.1)).Nodup) (n:Str):cg t (fs.filter λx=>decide (x.1≠n))=(cg t fs).filter λx=>decide (x≠n):=by
 unfold cg
 have e:(fs.filter λx=>decide (x.1≠n)).map (key t)=(fs.map (key t)).filter λk=>decide (k.n≠n):=by rw [Tc];rfl
 rw [e,xX (by rw [dR];exact h),Tc]
 rfl
theorem erase_filter {l:List Str} (h:l.Nodup) {j:Nat} {n:Str} (hj:l[j]?=some n):l.eraseIdx j=l.filter λx=>decide (x≠n):=by
 obtain ⟨hl,e⟩:=Sq.mp hj
 rw [List.eraseIdx_eq_take_drop_succ]
 have hd:l=l.take j ++ n :: l.drop (j + 1):=by rw [← e,← Tf hl,Ua]
 have hn:=h
 rw [hd,Tj] at hn
 have k1:∀x∈l.take j,x≠n:=λx hx=>hn.2.2 x hx n (by simp)
 have k2:∀x∈l.drop (j + 1),x≠n:=λx hx z=>(Tx.mp hn.2.1).1 (by rw [← z];exact hx)
 conv=>rhs;rw [hd]
 rw [T2,S2,if_neg (by simp),TB.mpr λx hx=>decide_eq_true (k1 x hx),TB.mpr λx hx=>decide_eq_true (k2 x hx)]
theorem bN.leave {L:Ln} (ok:bN L) (n:Str):bN { L with cs:=L.cs.map (bD n L.t),row:=L.row.filter λx=>decide (x≠n) }:=by
 have hfs:Ln.fs { L with cs:=L.cs.map (bD n L.t),row:=L.row.filter λx=>decide (x≠n) }=L.fs.filter λx=>decide (x.1≠n):=xA (L:=L) (t:=L.t) rfl
 have mem:∀c∈L.cs.map (bD n L.t),∃c0∈L.cs,bD n L.t c0=c:=λc hc=>by obtain ⟨c0,h0,e⟩:=Sn.mp hc;exact ⟨c0,h0,e⟩
 have hw:∀c,(bD n L.t c).w=c.w:=λc=>(e_ n L.t c).2.2.2
 refine ⟨⟨?_,?_,?_,?_,?_,?_,ok.t0,ok.ts,?_,?_,?_,?_⟩,?_⟩
 ·show ((L.cs.map (bD n L.t)).map Cf.n).Nodup
  rw [dX (λc=>(e_ n L.t c).1)];exact ok.nd
 ·intro c hc;obtain ⟨c0,h0,rfl⟩:=mem c hc;rw [hw];exact ok.ne c0 h0
 ·intro c hc l hl;obtain ⟨c0,h0,rfl⟩:=mem c hc;rw [hw] at hl;exact ok.le c0 h0 l hl
 ·intro c hc l hl;obtain ⟨c0,h0,rfl⟩:=mem c hc;rw [hw] at hl;exact ok.ck c0 h0 l hl
 ·intro c hc;obtain ⟨c0,h0,rfl⟩:=mem c hc;rw [hw];exact ok.len c0 h0
 ·intro c hc q e
  obtain ⟨c0,h0,rfl⟩:=mem c hc
  unfold bD at e
  split at e
  ·cases e;exact ⟨ok.ts,Rat.le_refl⟩
  ·exact ok.gz c0 h0 q e
 ·show (L.cs.map (bD n L.t)).length≤100
  rw [Sm];exact ok.many
 ·intro m
  rw [hfs]
  show m∈L.row.filter _↔_
  rw [SE,ok.rm,Sn,Sn]
  constructor
  ·rintro ⟨⟨x,hx,rfl⟩,k⟩;exact ⟨x,SE.mpr ⟨hx,k⟩,rfl⟩
  ·rintro ⟨x,hx,rfl⟩;exact ⟨⟨x,(SE.mp hx).1,rfl⟩,(SE.mp hx).2⟩
 ·exact ok.rn.sublist Uk
 ·exact SM (Tg _ _) ok.rl
 ·rw [hfs]
  show L.row.filter _=_
  rw [xY ok.Kw,← ok.row]
theorem AV {α:Type} [DecidableEq α]:∀{l:List α} {x:α},x∈l→∃j:Nat,l[j]?=some x∧∀m:Nat,m < j→l[m]?≠some x
 | y :: l,x,h=>by
  by_cases e:y=x
  ·exact ⟨0,by rw [e];rfl,λm hm=>by omega⟩
  ·rcases SH.mp h with h | h
   ·exact absurd h.symm e
   ·obtain ⟨j,h1,h2⟩:=AV h
    refine ⟨j + 1,h1,λm hm=>?_⟩
    cases m with
    | zero=>intro z;exact e (Option.some.inj z)
    | succ m=>exact h2 m (by omega)
abbrev i7:Stmt:=(L2.inClass (top 42) 2)
abbrev k6:List Str:=["self","name"]
theorem tE:L2.av ["self","name"] ["self","name"] (L2.ai i7):=dI
def yz (cN cL eC:Addr):cx:=λxs J Q E=>∃p L n,xs=[.ref p,.str n]∧aW cN cL J p L∧bN L∧(n ∉ L.row→E eC J)∧(n∈L.row→∀J' L',aW cN cL J' p L'→bN L'→L'.cs=L.cs.map (bD n L.t)→L'.t=L.t→Mv J J' (L.own p) (L'.own p)→Q .non J')
theorem s_ {cN cL eC f:Addr} {fd:FuncData} (F:b7 K "leave" "Lane.leave" i7 f fd) (Z:bL mg) (au:dj K mg "Lane" cN) (aA:aD K cN "logs") (ay:aD K cN "now") (az:aD K cN "row") (aX:cn P w K mg base cN 1 "must_be_there" bZ (pT cN cL eC)) (jK:cn P w K mg base cL 1 "leave" mR (yq cL)):aH P w K mg base (cQ P w) 2 f fd k6 (dk K (yz cN cL eC)):=by
 simp_arith [tE,(aj (a_ (bp (pl:=_) aX B hr (rv 0) (af (rv 1) ag)))
   (aj (a_ (bp (pl:=_) jK B hr (aw fT (aP au.cl aA (rv 0)) (rv 1)) (af (aP au.cl ay (rv 0)) ag)))
   (ar (a_ (oW PySem.F.plainAttrs_list PySem.F.slot_list_remove PySem.F.type_list_remove CL (aP au.cl az (rv 0)) (af (rv 1) ag))))))]
 ·obtain ⟨p,L,n,rfl,_⟩:=h;rfl
 obtain ⟨p,L,n,rfl,b,ok,qc,q⟩:=h
 have bo:=b.ob
 have bd:=b.dc
 refine hX ?_
 simp_all! [bo]
 refine ⟨dJ _ _ _ _,p,L,n,rfl,b,λhn=>?_,qc⟩
 obtain ⟨c,hc,rfl,hg⟩:=ok.found hn
 have lo:=(b.lg c hc).o
 simp_all! [bo,qE,sR,bd,ok.va hc,lo]
 refine ⟨P9 _ _,c.a,c.r,c.w,c.g,L.t,rfl,b.lg c hc,?_⟩
 simp_all! [ak (Ne.symm (b.O7 hc)),bo,qF,ak (Ne.symm (b.Qg hc)),b.rw]
 obtain ⟨j,h1,h2⟩:=AV hn
 refine ⟨L.row,rfl,j,h1,h2,?_⟩
 rw [erase_filter ok.rn h1]
 have hn':=e_ c.n L.t
 have ok1:=ok.leave c.n
 refine q hn _ { L with cs:=L.cs.map (bD c.n L.t),row:=L.row.filter λx=>decide (x≠c.n) } ⟨?_,?_,aq,λx hx=>?_,?_,λx hx=>?_⟩ ok1 rfl rfl ?_
 ·rw [ak (Ne.symm b.Hi),ak (Ne.symm (b.O7 hc))];exact bo
 ·show put (put J c.a _) L.o _ L.d=_
  rw [ak b.Qh,ak (Ne.symm (b.RF hc)),bd]
  show _=some (HQ.dct ((L.cs.map (bD c.n L.t)).map λc=>(c.n,PV.ref c.a)) L.e)
  rw [dX (f:=λc:Cf=>(c.n,PV.ref c.a)) (λx=>by rw [(hn' x).1,(hn' x).2.1])]
 ·obtain ⟨x0,h0,rfl⟩:=Sn.mp hx
  have hl:=b.lg x0 h0
  refine ⟨?_,?_⟩
  ·rw [(hn' x0).2.1,(hn' x0).2.2.1,ak (b.Qg h0)]
   by_cases e:x0.n=c.n
   ·have:x0=c:=ok.uniq h0 hc e
    subst this
    rw [aq]
    unfold bD;rw [if_pos rfl];rfl
   ·have ha:x0.a≠c.a:=λz=>by
     have hh:=hl.o
     have hh2:=(b.lg c hc).o
     rw [z,hh2] at hh
     have hrr:c.r=x0.r:=by
      have h3:=(HQ.ins.inj (Option.some.inj hh)).2
      have h4:=(List.cons.inj h3).1
      have h5:=(Prod.mk.inj h4).2
      exact PV.ref.inj h5
     obtain ⟨i,hi,rfl⟩:=S6 h0
     obtain ⟨j',hj',rfl⟩:=S6 hc
     have:=(TC (xs:=L.cs.map Cf.r) (i:=i) (j:=j') (h₀:=by simpa using hi) (h₁:=by simpa using hj') b.ap).mp (by rw [Ti,Ti];exact hrr.symm)
     subst this;exact e rfl
    rw [ak ha]
    unfold bD;rw [if_neg e];exact hl.o
  ·rw [(hn' x0).2.2.1,(hn' x0).2.2.2,ak (b.ao x0 h0),ak (λz=>by have h3:=hl.l;rw [z,lo] at h3;cases h3)];exact hl.l
 ·show ((L.cs.map (bD c.n L.t)).map Cf.r).Nodup
  rw [dX (λx=>(hn' x).2.2.1)];exact b.ap
 ·obtain ⟨x0,h0,rfl⟩:=Sn.mp hx
  rw [(hn' x0).2.2.1];exact b.ao x0 h0
 ·have own':∀a,Ln.own { L with cs:=L.cs.map (bD c.n L.t),row:=L.row.filter λx=>decide (x≠c.n) } p a→L.own p a:=λa h=>by
   rcases h with h | h | h | ⟨x,hx,h⟩
   ·exact .inl h
   ·exact .inr (.inl h)
   ·exact .inr (.inr (.inl h))
   ·obtain ⟨c0,h0,rfl⟩:=Sn.mp hx
    rw [(hn' c0).2.1,(hn' c0).2.2.1] at h
    exact .inr (.inr (.inr ⟨c0,h0,h⟩))
  refine (fV (S':=L.own p) (.inr (.inr (.inr ⟨c,hc,.inl rfl⟩))) λa h=>.inl h).trans (fV (.inr (.inr (.inl rfl))) λa h=>.inl (own' a h))
theorem Sub.trans {J J' J'':Hq} (h:Sub J J') (k:Sub J' J''):Sub J J'':=λa o e=>k a o (h a o e)
abbrev lT:Stmt:=(L2.inClass (top 29) 8)
abbrev oT:List Str:=["self"]
theorem fe:L2.av ["self","moment","place","pace","other"] ["self"] (L2.ai lT):=dI
def BR (cL:Addr):cx:=λxs J Q _=>∃p r rows g,xs=[.ref p]∧wU cL J p r rows g∧rows≠[]∧∀J' a' r',Sub J J'→J a'=none→J r'=none→wU cL J' a' r' rows g→Q (.ref a') J'
theorem xP {cL f:Addr} {fd:FuncData} (F:b7 K "twin" "Log.twin" lT f fd) (Z:bL mg) (a7:dj K mg "Log" cL) (aG:aD K cL "rows") (bt:aD K cL "gone") (tM:uH P w K mg base cL 1 "Log" fk (wz cL)):aH P w K mg base (cQ P w) 3 f fd oT (dk K (BR cL)):=by
 simp_arith [fe,(aj (ra (aw ax (aP a7.cl aG (rv 0)) ah) (oq (n:=3) rfl (bY (bB (i:=1) fe.nd) (bY (bB (i:=2) fe.nd) (bY (bB (i:=3) fe.nd) kH)))))
   (aj (aK (i:=4) fe.nd (BF tM B hr (af (rv 1) (af (rv 2) (af (rv 3) ag)))))
   (aj (dM a7.cl aG (rv 4) (de ig rfl Z.list boot_list (af (aP a7.cl aG (rv 0)) ag)))
   (aj (dM a7.cl bt (rv 4) (aP a7.cl bt (rv 0)))
   (ar (aB (rv 4)))))))]
 ·obtain ⟨p,r,rows,g,rfl,_⟩:=h;rfl
 obtain ⟨p,r,rows,g,rfl,b,hne,q⟩:=h
 have bo:=b.o
 have bl:=b.l
 obtain ⟨l,ls,rfl⟩:∃l ls,rows=l :: ls:=TQ hne
 refine hX ?_
 simp_arith! [bR,bo,bl,EB,aS.V]
 intro a ha
 refine ⟨a,l,rfl,aq,λr0 hr0=>⟨rfl,?_⟩⟩
 have ne1:∀{b u},J b=some u→b≠a:=λe z=>by subst z;rw [ha] at e;cases e
 have ne2:∀{b u},J b=some u→b≠r0:=λe z=>by subst z;rw [ak (ne1 e)] at hr0;rw [hr0] at e;cases e
 have nra:r0≠a:=by intro e;subst e;rw [aq] at hr0;cases hr0
 have sub:Sub J (put (put (put J a (.ins cL [])) r0 (.lst [l.V])) a (.ins cL [("rows",.ref r0),("gone",.non)])):=λb o e=>by rw [ak (ne1 e),ak (ne2 e),ak (ne1 e)];exact e
 have ho:(put (put (put J a (.ins cL [])) r0 (.lst [l.V])) a (.ins cL [("rows",.ref r0),("gone",.non)])) a=some (.ins cL [("rows",.ref r0),("gone",.non)]):=aq
 generalize (put (put (put J a (.ins cL [])) r0 (.lst [l.V])) a (.ins cL [("rows",.ref r0),("gone",.non)]))=J1 at sub ho ⊢
 refine fi (sub _ _ bo) (fj (EB _ _) (fj (show jG J1 (.ref r)=some ((l :: ls).map aS.V) by rw [zt,sub _ _ bl]) λr1 hr1=>?_))
 have n1:a≠r1:=by intro e;subst e;rw [ho] at hr1;cases hr1
 have n2:∀{b u},J b=some u→b≠r1:=λe z=>by subst z;rw [sub _ _ e] at hr1;cases hr1
 have hr:J r1=none:=by
  cases e:J r1 with
  | none=>rfl
  | some u=>exact absurd rfl (n2 e)
 refine fi (by rw [ak n1];exact ho) ⟨by show (2:Nat) < 1000;decide,?_⟩
 refine fi (by rw [ak (ne1 bo),ak (n2 bo)];exact sub _ _ bo) (fj (RC _ _) (fi aq ⟨by rw [Bq];show (2:Nat) < 1000;decide,?_⟩))
 rw [eR,Bq,HK]
 refine q _ a r1 (λb o e=>by rw [ak (ne1 e),ak (n2 e)];exact sub _ _ e) ha hr ⟨aq,by rw [ak (Ne.symm n1)];exact aq⟩
abbrev gC:Stmt:=(L2.inClass (top 42) 20)
abbrev mQ:List Str:=["self"]
theorem m7:L2.av ["self","other"] ["self"] (L2.ai gC):=dI
def Cf.face (c:Cf):Str × List aS × Option Rat:=(c.n,c.w,c.g)
structure Ln.alike (L L':Ln):Prop where
 t:L'.t=L.t
 row:L'.row=L.row
 cs:L'.cs.map Cf.face=L.cs.map Cf.face
theorem pI (L:Ln):L.fs=((L.cs.map Cf.face).filter λf=>f.2.2.isNone).map λf=>(f.1,f.2.1.getLast?.getD ⟨0,0,0⟩):=by
 unfold Ln.fs Ln.Br
 rw [Tc,Sy];rfl
theorem Ln.alike.fs {L L':Ln} (h:L.alike L'):L'.fs=L.fs:=by rw [pI,pI,h.cs]
theorem Ln.alike.ex {L L':Ln} (h:L.alike L') {c':Cf} (hc:c'∈L'.cs):∃c∈L.cs,c.n=c'.n∧c.w=c'.w∧c.g=c'.g:=by
 have:c'.face∈L.cs.map Cf.face:=by rw [← h.cs];exact Sn.mpr ⟨c',hc,rfl⟩
 obtain ⟨c,hc,e⟩:=Sn.mp this
 unfold Cf.face at e
 exact ⟨c,hc,congrArg (·.1) e,congrArg (·.2.1) e,congrArg (·.2.2) e⟩
theorem Ln.alike.nm {L L':Ln} (h:L.alike L'):L'.cs.map Cf.n=L.cs.map Cf.n:=by
 have:=congrArg (UN (·.1)) h.cs
 rw [Sy,Sy] at this;exact this
theorem Ln.alike.ok {L L':Ln} (h:L.alike L') (o:bN L):bN L':=by
 refine ⟨⟨by rw [h.nm];exact o.nd,λc hc=>?_,λc hc=>?_,λc hc=>?_,λc hc=>?_,λc hc=>?_,by rw [h.t];exact o.t0,by rw [h.t];exact o.ts,?_,by rw [h.row,h.fs];exact o.rm,by rw [h.row];exact o.rn,by rw [h.row];exact o.rl⟩,by rw [h.row,h.t,h.fs];exact o.row⟩
 ·obtain ⟨c0,h0,_,e,_⟩:=h.ex hc;rw [← e];exact o.ne c0 h0
 ·obtain ⟨c0,h0,_,e,_⟩:=h.ex hc;rw [← e,h.t];exact o.le c0 h0
 ·obtain ⟨c0,h0,_,e,_⟩:=h.ex hc;rw [← e];exact o.ck c0 h0
 ·obtain ⟨c0,h0,_,e,_⟩:=h.ex hc;rw [← e];exact o.len c0 h0
 ·obtain ⟨c0,h0,_,_,e⟩:=h.ex hc;rw [← e,h.t];exact o.gz c0 h0
 ·have:=congrArg Tt h.nm;rw [Sm,Sm] at this;rw [this];exact o.many
theorem wU.OF {cL:Addr} {J J':Hq} {p r:Addr} {rows:List aS} {g:Option Rat} (h:wU cL J p r rows g) (s:Sub J J'):wU cL J' p r rows g:=⟨s _ _ h.o,s _ _ h.l⟩
def BY (cN cL:Addr):cx:=λxs J Q _=>∃p L,xs=[.ref p]∧aW cN cL J p L∧bN L∧∀J' p' L',Sub J J'→aW cN cL J' p' L'→bN L'→L.alike L'→(∀a,L'.own p' a→J a=none)→Q (.ref p') J'
theorem vf {cN cL f:Addr} {fd:FuncData} (F:b7 K "twin" "Lane.twin" gC f fd) (Z:bL mg) (au:dj K mg "Lane" cN) (ay:aD K cN "now") (aA:aD K cN "logs") (az:aD K cN "row") (nH:uH P w K mg base cN 1 "Lane" eJ (wC cN cL)) (lM:cn P w K mg base cL 3 "twin" oT (BR cL)):aH P w K mg base (cQ P w) 4 f fd mQ (dk K (BY cN cL)):=by
 simp_arith [m7,(aj (aK (i:=1) m7.nd (mZ nH B hr))
   (aj (dM au.cl ay (rv 1) (aP au.cl ay (rv 0)))
   (aj (dM au.cl aA (rv 1) (JE (L2.ai gC) ["self","other"] [("self",0)] rfl rfl rfl (BH (aP au.cl aA (rv 0))) (λ_ _ _ _ _ _=>(rv 0)) (λ_ _ _ _ _ _=>(bP (pl:=_) lM GQ hr (aw fT (aP au.cl aA (rv 1)) (rv 0))))))
   (aj (dM au.cl az (rv 1) (de ig rfl Z.list boot_list (af (aP au.cl az (rv 0)) ag)))
   (ar (aB (rv 1)))))))]
 ·obtain ⟨p,L,rfl,_⟩:=h;rfl
 obtain ⟨p,L,rfl,b,ok,q⟩:=h
 refine hX ?_
 simp_all! []
 intro p' hp'
 refine ⟨p',rfl,aq,λJ1 d e o b1 mv1=>?_⟩
 have jp:∀{a u},J a=some u→a≠p':=λe z=>by subst z;rw [hp'] at e;cases e
 have sub:Sub J J1:=λa u e=>mv1.keep a u (by rw [ak (jp e)];exact e) (jp e)
 have sS:∀a,Ln.own ⟨0,d,e,o,[],[]⟩ p' a→J a=none:=λa z=>by
  rcases mv1.own a z with z | z
  ·rw [z];exact hp'
  ·by_cases y:a=p'
   ·rw [y];exact hp'
   ·rw [ak y] at z;exact z
 have ob1:J1 p'=some (.ins cN [("now",fr 0),("logs",.ref d),("row",.ref o)]):=b1.ob
 clear b1 mv1
 have hbo:=sub _ _ b.ob
 refine ⟨rfl,hNq _ _ ?_⟩
 clear hNq Nq
 simp_all! [hbo,ob1,qE]
 refine ⟨by show (3:Nat) < 1000;decide,?_⟩
 have sub2:Sub J (put J1 p' (.ins cN [("now",fr L.t),("logs",.ref d),("row",.ref o)])):=λa u e=>by rw [ak (jp e)];exact sub _ _ e
 have ob2:put J1 p' (.ins cN [("now",fr L.t),("logs",.ref d),("row",.ref o)]) p'=some (.ins cN [("now",fr L.t),("logs",.ref d),("row",.ref o)]):=aq
 refine hNq _ _ ?_
 clear hNq Nq hbo sub ob1
 generalize put J1 p' (.ins cN [("now",fr L.t),("logs",.ref d),("row",.ref o)])=J2 at sub2 ob2 ⊢
 clear J1 sS
 have hbo:=sub2 _ _ b.ob
 have hbd:=sub2 _ _ b.dc
 simp_all! [Pb,hbo,sR,hbd]
 intro D hD ep
 have n2:∀{a u},J2 a=some u→a≠D:=λe z=>by subst z;rw [hD] at e;cases e
 have jD:J D=none:=by
  cases e:J D with
  | none=>rfl
  | some u=>exact absurd rfl (n2 (sub2 _ _ e))
 obtain ⟨W,hW⟩:∃W:Nat→Hq→Prop,∀i J3,W i J3↔∃(cs:List Cf) (ep2:Nat),Sub J J3∧J3 D=some (.dct (cs.map λc=>(c.n,PV.ref c.a)) ep2)∧J3 p'=some (.ins cN [("now",fr L.t),("logs",.ref d),("row",.ref o)])∧cs.map Cf.face=(L.cs.take i).map Cf.face ∧
   (∀c∈cs,wU cL J3 c.a c.r c.w c.g∧J c.a=none∧J c.r=none)∧(cs.map Cf.r).Nodup:=⟨_,λ_ _=>Iff.rfl⟩
 refine ⟨W,(hW _ _).mpr ⟨[],ep,λa u e=>by rw [ak (n2 (sub2 _ _ e))];exact sub2 _ _ e,aq,by rw [ak (n2 ob2)];exact ob2,rfl,(by simp),US⟩,?_,?_,?_⟩
 ·intro i J3 hw
  obtain ⟨cs,ep2,s3,hd3,ob3,fc,la,nd⟩:=(hW _ _).mp hw
  exact s3 _ _ b.dc
 ·intro i x J3 hx hw
  obtain ⟨cs,ep2,s3,hd3,ob3,fc,la,nd⟩:=(hW _ _).mp hw
  have hi:i < L.cs.length:=by have:=(Sq.mp hx).1;simpa using this
  have hc:L.cs[i]∈L.cs:=Td hi
  have et:L.cs.take (i + 1)=L.cs.take i ++ [L.cs[i]]:=by rw [S4,So hi];rfl
  rw [SA,SA,So hi] at hx
  cases hx
  have hcd:=ok.toa9.nd
  have hnot:L.cs[i].n ∉ cs.map Cf.n:=by
   have e1:cs.map Cf.n=(L.cs.take i).map Cf.n:=by
    have:=congrArg (UN (·.1)) fc
    rw [Sy,Sy] at this;exact this
   have e2:((L.cs.take (i + 1)).map Cf.n).Nodup:=hcd.sublist ((TN _ _).map _)
   rw [et,Sw] at e2
   rw [e1]
   exact (fW e2).2
  generalize L.cs[i]=c at hc et hnot
  have b3o:=s3 _ _ b.ob
  have b3d:=s3 _ _ b.dc
  have hva:=ok.toa9.va hc
  have lg:=(b.lg c hc).OF s3
  have lo:=lg.o
  simp_all! [b3o,sR,b3d,hva,lo]
  refine ⟨Qc _ _,c.a,c.r,c.w,c.g,rfl,lg,ok.ne c hc,λJ4 a' r' s4 na nr l4=>?_⟩
  have hlen:cs.length≤100:=by
   have e1:=congrArg Tt fc
   rw [Sm,Sm,SW] at e1
   have:=ok.many;omega
  have s34:Sub J J4:=s3.trans s4
  have n4:∀{a u},J3 a=some u→a≠a'∧a≠r':=λ{a u} e=>⟨λz=>by subst z;exact absurd (na.symm.trans e) (λy=>nomatch y),λz=>by subst z;exact absurd (nr.symm.trans e) (λy=>nomatch y)⟩
  have jn:∀{a},J3 a=none→J a=none:=λ{a} e=>by
   cases z:J a with
   | none=>rfl
   | some u=>have:=s3 _ _ z;rw [e] at this;cases this
  have nD':=n4 hd3
  have epu:rW (cs.map λc=>(c.n,PV.ref c.a)) c.n (PV.ref a')=(cs ++ [Cf.mk c.n a' r' c.w c.g]).map λc=>(c.n,PV.ref c.a):=by
   unfold L2.rW
   rw [if_neg,Sw]
   ·rfl
   ·intro z
    obtain ⟨kv,hkv,e⟩:=UB.mp z
    obtain ⟨c0,h0,rfl⟩:=Sn.mp hkv
    exact hnot (Sn.mpr ⟨c0,h0,of_decide_eq_true e⟩)
  refine ⟨_,ep2,s4 _ _ hd3,ba (by rw [Sm];omega),λep'=>(hW _ _).mpr ⟨cs ++ [⟨c.n,a',r',c.w,c.g⟩],ep',λa u e=>?_,?_,?_,?_,?_,?_⟩⟩
  ·rw [ak (λz=>by subst z;rw [jD] at e;cases e)];exact s34 _ _ e
  ·rw [epu];exact aq
  ·rw [ak (n2 ob2)];exact s4 _ _ ob3
  ·rw [et,Sw,Sw,fc];rfl
  ·intro c0 h0
   rcases SD.mp h0 with h0 | h0
   ·obtain ⟨l1,l2,l3⟩:=la c0 h0
    have l1':=l1.OF s4
    exact ⟨⟨by rw [ak (λz=>by have:=l1.o;rw [z,hd3] at this;cases this)];exact l1'.o,by rw [ak (λz=>by have:=l1.l;rw [z,hd3] at this;cases this)];exact l1'.l⟩,l2,l3⟩
   ·rw [SG] at h0;subst h0
    exact ⟨⟨by rw [ak (Ne.symm nD'.1)];exact l4.o,by rw [ak (Ne.symm nD'.2)];exact l4.l⟩,jn na,jn nr⟩
  ·rw [Sw,Sx,Ts,Tj]
   refine ⟨nd,by simp,λx hx y hy e=>?_⟩
   rw [SG] at hy;subst hy;subst e
   obtain ⟨c0,h0,rfl⟩:=Sn.mp hx
   exact (n4 (la c0 h0).1.l).2 rfl
 ·intro J3 hw
  obtain ⟨cs,ep2,s3,hd3,ob3,fc,la,nd⟩:=(hW _ _).mp hw
  rw [Sm,Sm,S3] at fc
  have np:p'≠D:=n2 ob2
  simp_all! [ob3,Je,if_false]
  refine ⟨by show (3:Nat) < 1000;decide,?_⟩
  have sub4:Sub J (put J3 p' (.ins cN [("now",fr L.t),("logs",.ref D),("row",.ref o)])):=λa u e=>by rw [ak (jp e)];exact s3 _ _ e
  have ob4:put J3 p' (.ins cN [("now",fr L.t),("logs",.ref D),("row",.ref o)]) p'=some (.ins cN [("now",fr L.t),("logs",.ref D),("row",.ref o)]):=aq
  have hd4:put J3 p' (.ins cN [("now",fr L.t),("logs",.ref D),("row",.ref o)]) D=some (.dct (cs.map λc=>(c.n,PV.ref c.a)) ep2):=by rw [ak (Ne.symm np)];exact hd3
  have la4:∀c∈cs,wU cL (put J3 p' (.ins cN [("now",fr L.t),("logs",.ref D),("row",.ref o)])) c.a c.r c.w c.g∧J c.a=none∧J c.r=none:=λc hc=>by
   obtain ⟨l1,l2,l3⟩:=la c hc
   refine ⟨⟨?_,?_⟩,l2,l3⟩
   ·rw [ak (zj l1.o ob3 qG)];exact l1.o
   ·rw [ak (λz=>by have:=l1.l;rw [z,ob3] at this;cases this)];exact l1.l
  refine hNq _ _ ?_
  clear hNq Nq hw
  generalize put J3 p' (.ins cN [("now",fr L.t),("logs",.ref D),("row",.ref o)])=J4 at sub4 ob4 hd4 la4 ⊢
  clear la hd3 ob3 s3 J3 hW W
  have b4o:=sub4 _ _ b.ob
  have b4r:=sub4 _ _ b.rw
  simp_all! [b4o,qF,b4r]
  intro O hO
  have n4:∀{a u},J4 a=some u→a≠O:=λe z=>by subst z;rw [hO] at e;cases e
  refine fi (by rw [ak (n4 ob4)];exact ob4) ⟨by show (3:Nat) < 1000;decide,?_⟩
  rw [Bp]
  refine hNq _ _ ?_
  clear hNq Nq
  simp_all! []
  have jO:J O=none:=by
   cases z:J O with
   | none=>rfl
   | some u=>exact absurd rfl (n4 (sub4 _ _ z))
  have al:L.alike ⟨L.t,D,ep2,O,cs,L.row⟩:=⟨rfl,rfl,fc⟩
  refine q _ p' ⟨L.t,D,ep2,O,cs,L.row⟩ (λa u e=>by rw [ak (jp e),ak (n4 (sub4 _ _ e))];exact sub4 _ _ e) ⟨aq,?_,?_,λc hc=>?_,nd,λc hc=>?_⟩ (al.ok ok) al ?_
  ·show put (put J4 O _) p' _ D=_
   rw [ak (Ne.symm np),ak (n4 hd4)];exact hd4
  ·show put (put J4 O _) p' _ O=_
   rw [ak (Ne.symm (n4 ob4))];exact aq
  ·obtain ⟨l1,l2,l3⟩:=la4 c hc
   exact ⟨by rw [ak (zj l1.o ob4 qG),ak (n4 l1.o)];exact l1.o,by rw [ak (λz=>by have:=l1.l;rw [z,ob4] at this;cases this),ak (n4 l1.l)];exact l1.l⟩
  ·exact n4 (la4 c hc).1.l
  ·rintro a (rfl | rfl | rfl | ⟨c,hc,rfl | rfl⟩)
   ·exact hp'
   ·exact jD
   ·exact jO
   ·exact (la4 c hc).2.1
   ·exact (la4 c hc).2.2
abbrev m5:Stmt:=(top 52)
abbrev eQ:List Str:=["_law_cell_here","_law_many"]
theorem d8:L2.av ["_law_cell_here","_law_many","_law_signs","_law_row","_law_some","_law_body","_law_at_here","_law_out","_law_k"] ["_law_cell_here","_law_many"] (L2.ai m5):=dI
def BZ:Sp:=λvs H Q _=>∃c m:Int,vs=[.int c,.int m]∧0≤m∧m≤36∧∀(r:Addr) (H':Hp) (xs:List Str),H r=none→bA H H'→H' r=some (.lst (xs.map V.str))→(xs.length:Int)=m→xs.Nodup→(∀x∈xs,good x=true)→Q (.ref r) H'
def menu:List Str:=["m","ab","a","zebra9","b0","0","abc","9zz","q7q7q7q7","aa","z","a1b2c3d4"]
def cO:Str:="abcdefghijklmnopqrstuvwxyz0123456789"
theorem G':menu.Nodup:=by decide +kernel
theorem DN:cO.cps.toList.Nodup:=by decide +kernel
theorem km:cO.cps.toList.length=36:=by decide +kernel
theorem Kh {α:Type} {xs:List α} {j:Int} (h0:0≤j) (h1:j < xs.length):c7 xs j=some (xs[j.toNat]'(by omega)):=by
 have h:=bx (xs:=xs) (j:=j.toNat) (So (by omega))
 rw [show ((j.toNat:Nat):Int)=j by omega] at h
 exact h
def IM {α:Type} (xs:List α) (z:α) (d:Int) (k:Nat):α:=xs.getD ((d + 5 * (k:Int)) % (xs.length:Int)).toNat z
section
variable {α:Type} {xs:List α} {z:α} (d:Int)
theorem qi (h:0 < xs.length) (k:Nat):0≤(d + 5 * (k:Int)) % (xs.length:Int)∧(d + 5 * (k:Int)) % (xs.length:Int) < (xs.length:Int):=⟨Int.emod_nonneg _ (by omega),Int.emod_lt_of_pos _ (by omega)⟩
theorem my (h:0 < xs.length) (k:Nat):xs[((d + 5 * (k:Int)) % (xs.length:Int)).toNat]?=some (IM xs z d k):=by
 have:=qi d h k
 unfold IM
 rw [List.getD_eq_getElem?_getD,So (by omega)]
 rfl
theorem Kq (h:0 < xs.length) (k:Nat):c7 xs ((d + 5 * (k:Int)) % (xs.length:Int))=some (IM xs z d k):=by
 have:=bx (my (z:=z) d h k)
 rwa [Int.toNat_of_nonneg (qi d h k).1] at this
theorem AL (h:0 < xs.length) (k:Nat):IM xs z d k∈xs:=Su (my d h k)
theorem PK {M a b d u v:Int} (g:5 * u=1 + M * v) (a0:0≤a) (a1:a < M) (b0:0≤b) (b1:b < M) (e:(d + 5 * a) % M=(d + 5 * b) % M):a=b:=by
 have h:M ∣ 5 * (a - b):=by
  have:=Int.dvd_of_emod_eq_zero (Int.emod_eq_emod_iff_emod_sub_eq_zero.mp e)
  rwa [show d + 5 * a - (d + 5 * b)=5 * (a - b) by omega] at this
 obtain ⟨c,hc⟩:M ∣ a - b:=by
  obtain ⟨c,hc⟩:=h
  refine ⟨u * c - v * (a - b),?_⟩
  have h1:5 * u * (a - b)=u * (M * c):=by rw [← hc];grind
  rw [g] at h1
  grind
 rcases Int.lt_trichotomy c 0 with k | k | k
 ·have:M * c≤M * (-1):=Int.mul_le_mul_of_nonneg_left (by omega) (by omega)
  omega
 ·subst k;omega
 ·have:M * 1≤M * c:=Int.mul_le_mul_of_nonneg_left (by omega) (by omega)
  omega
theorem AK (u v:Int) (hn:xs.Nodup) (g:5 * u=1 + (xs.length:Int) * v) {i j:Nat} (hi:i < xs.length) (hj:j < xs.length) (e:IM xs z d i=IM xs z d j):i=j:=by
 have h:0 < xs.length:=by omega
 have a:=my (z:=z) d h i
 have b:=my (z:=z) d h j
 rw [e] at a
 obtain ⟨a1,a2⟩:=Sq.mp a
 obtain ⟨b1,b2⟩:=Sq.mp b
 have e1:=(TC hn).mp (a2.trans b2.symm)
 have:=qi d h i
 have:=qi d h j
 exact Int.ofNat.inj (PK g (Int.natCast_nonneg i) (Int.ofNat_lt.mpr hi) (Int.natCast_nonneg j) (Int.ofNat_lt.mpr hj) (show (d + 5 * (i:Int)) % _=(d + 5 * (j:Int)) % _ by omega))
end
theorem EG:menu.length=12:=by decide +kernel
abbrev pick:Int→Nat→Str:=IM menu ""
theorem HJ (d:Int) (k:Nat):c7 (menu.map V.str) ((d + 5 * (k:Int)) % 12)=some (.str (pick d k)):=by
 have h:=qi (xs:=menu) d (by decide +kernel) k
 have g:=bx (xs:=menu.map V.str) (j:=((d + 5 * (k:Int)) % (menu.length:Int)).toNat) (by rw [SA,my (xs:=menu) (z:="") d (by decide +kernel) k];rfl)
 rw [Int.toNat_of_nonneg h.1,EG] at g
 exact g
theorem Fh (d:Int) {m:Nat} (hm:m≤12):((TJ m).map (pick d)).Nodup:=by
 refine List.Pairwise.map (R:=λi j=>i < 12∧j < 12∧i≠j) _ (λi j ⟨a,b,c⟩ e=>c (AK d 5 2 G' (by decide +kernel) a b e)) ?_
 refine List.Pairwise.imp_of_mem (R:=λi j=>i≠j) (λ{i j} hi hj ne=>?_) (List.nodup_range)
 rw [T9] at hi hj
 exact ⟨by omega,by omega,ne⟩
theorem CK:∀x∈menu,good x=true:=by decide +kernel
theorem qg:∀c∈cO.cps.toList,dO cq c=true:=by decide +kernel
theorem C7 (d:Int) (k:Nat):good (pick d k)=true:=CK _ (AL d (by decide +kernel) k)
theorem GW {cs:List Nat} (h0:0 < cs.length) (h1:cs.length≤8) (h:∀c∈cs,dO cq c=true):good ⟨cs.toArray⟩=true:=by
 unfold good
 rw [SX,SX]
 refine ⟨⟨decide_eq_true ?_,decide_eq_true ?_⟩,Ub.mpr λc hc=>h c (by simpa using hc)⟩
 ·show 1≤cs.toArray.size;rw [Sv];omega
 ·show cs.toArray.size≤8;rw [Sv];omega
abbrev sign:Int→Nat→Nat:=IM cO.cps.toList 0
theorem Ip (d:Int) (k:Nat):c7 cO.cps.toList ((d + 5 * (k:Int)) % 36)=some (sign d k):=by
 have h:=Kq (xs:=cO.cps.toList) (z:=0) d (by decide +kernel) k
 rw [km] at h
 exact h
theorem De (d:Int) (k:Nat):dO cq (sign d k)=true:=qg _ (AL d (by decide +kernel) k)
theorem FI (d:Int) {i j:Nat} (hi:i < 36) (hj:j < 36) (e:sign d i=sign d j):i=j:=AK d (-7) (-1) DN (by decide +kernel) (by rw [km];exact hi) (by rw [km];exact hj) e
theorem F6 {d:Int} {n:Nat} {xs:List Str} (hl:xs.length≤36) (h:∀k x,xs[k]?=some x→x.cps.toList[n]?=some (sign d k)):xs.Nodup:=by
 refine S_.mpr λi j hi hj hij e=>?_
 have a:=h i _ (So hi)
 have b:=h j _ (So hj)
 rw [e] at a
 rw [a] at b
 have:=FI d (by omega) (by omega) (Option.some.inj b)
 omega
theorem DW {xs:List V} {k:Int} (h:0≤k):nJ xs none (some k)=xs.take k.toNat:=by
 obtain ⟨j,rfl⟩:∃j:Nat,k=(j:Int):=⟨k.toNat,by omega⟩
 unfold nJ
 rw [HT.yh,HT.vW,T_,Int.toNat_natCast]
 rcases Nat.le_total j xs.length with e | e
 ·rw [U_ e]
  rfl
 ·rw [Nat.min_eq_right e,Nat.sub_zero,To (Ss _),To e]
theorem EZ (cs:List Nat):((cs.map one).map (·.length)).sum=cs.length:=by
 induction cs with
 | nil=>rfl
 | cons c cs ih =>
  rw [Sx,Sx,List.sum_cons,ih,SS]
  show 1 + cs.length=cs.length + 1
  omega
theorem OC {ds:List Int} (hD:Dig ds [3,36,8,36,36,36,36,36,36,36,36,840]):∃(d0 d1 d2 d11:Int) (es:List Int),c7 (ds.map V.int) 0=some (.int d0)∧c7 (ds.map V.int) 1=some (.int d1)∧c7 (ds.map V.int) 2=some (.int d2)∧c7 (ds.map V.int) 11=some (.int d11) ∧
  nJ (ds.map V.int) (some 3) (some 11)=es.map V.int∧es.length=8∧(∀e∈es,0≤e∧e < 36)∧0≤d2∧d2 < 8:=by
 obtain ⟨d0,ds,rfl,_,_,hD⟩:=hD.cons
 obtain ⟨d1,ds,rfl,_,_,hD⟩:=hD.cons
 obtain ⟨d2,ds,rfl,d20,d21,hD⟩:=hD.cons
 have key:∀(n:Nat) {ds:List Int},Dig ds (S9 n 36 ++ [840])→∃es d,ds=es ++ [d]∧es.length=n∧∀e∈es,0≤e∧e < 36:=by
  intro n
  induction n with
  | zero=>intro ds h;obtain ⟨d,ds,rfl,_,_,h⟩:=h.cons;cases h.nil;exact ⟨[],d,rfl,rfl,λe he=>by cases he⟩
  | succ n ih =>
   intro ds h
   obtain ⟨d,ds,rfl,h0,h1,h⟩:=h.cons
   obtain ⟨es,x,rfl,hl,he⟩:=ih h
   exact ⟨d :: es,x,rfl,congrArg Nat.succ hl,List.forall_mem_cons.mpr ⟨⟨h0,h1⟩,he⟩⟩
 obtain ⟨es,d11,rfl,hl,he⟩:=key 8 hD
 refine ⟨d0,d1,d2,d11,es,bx (j:=0) rfl,bx (j:=1) rfl,bx (j:=2) rfl,bx (j:=11) ?_,?_,hl,he,d20,d21⟩
 ·rw [SA,S7,S7,S7,Tq (by omega),hl];rfl
 ·have h11:((d0 :: d1 :: d2 :: (es ++ [d11])).map V.int).length=12:=by simp [hl]
  unfold nJ
  rw [show (some (3:Int))=some ((3:Nat):Int) from rfl,show (some (11:Int))=some ((11:Nat):Int) from rfl,HT.vW,HT.vW,h11]
  show List.take 8 ((es ++ [d11]).map V.int)=_
  rw [Sw,List.take_append_of_le_length (by simp [hl]),To (by simp [hl])]
theorem G4 {p q a b:Prop} [Decidable p] [Decidable q]:(if p then if q then a else b else b)=if p∧q then a else b:=by by_cases hp:p <;> by_cases hq:q <;> simp [hp,hq]
theorem EM {f:Addr} {fd:FuncData} (F:b7 K "_law_names" "_law_names" m5 f fd) (Z:Dm mg) (cM:rV P w K mg base 1 "_law_digits" bX (rF K)):aH P w K mg base pZ 2 f fd eQ BZ:=by
 refine F.ok d8 (λvs H Q E h=>?_) (λcdv A outer s H vs Q E hr h=>?_)
 ·obtain ⟨c,m,rfl,_⟩:=h
  rfl
 obtain ⟨c,m,rfl,m0,m1,q⟩:=h
 refine ⟨_,(QB.run (aV (cJ (i:=2) d8.nd rfl (Or.inr rfl) n_)
   (aV (cJ (i:=3) d8.nd rfl (Or.inr rfl) (x6 cM hr (by decide) rfl (aT (pv 0) (aT (jR (E8 [.int 3,.int 36,.int 8,.int 36,.int 36,.int 36,.int 36,.int 36,.int 36,.int 36,.int 36,.int 840] rfl)) bG))))
   (aV (mW (Jq (vM (c_ E1 (bW fU (pv 3) aJ (λ_ _=>rfl)) aJ (eD _)) (pQ (c_ Jl (pv 1) aJ (eD _))))) (aV (cJ (i:=4) d8.nd rfl (Or.inr rfl) (jR (E8 [.str "m",.str "ab",.str "a",.str "zebra9",.str "b0",.str "0",.str "abc",.str "9zz",.str "q7q7q7q7",.str "aa",.str "z",.str "a1b2c3d4"] rfl)))
   (bH (dn (HD (ai m5) ["_law_cell_here","_law_many","_law_signs","_law_row","_law_some","_law_body","_law_at_here","_law_out","_law_k"] [("_law_row",3),("_law_some",4)] rfl rfl rfl (fK rfl Z.range (aT (pv 1) bG)) (λ_ _ _ _ _ _=>(bW fU (pv 2) (bj f6 (bj iP (bW fU (pv 1) aJ (λ_ _=>rfl)) (bj cy aJ (pv 0))) aJ) (λ_ _=>rfl))))))) fF)
   (aV (HM (i:=5) (ai m5) ["_law_cell_here","_law_many","_law_signs","_law_row","_law_some","_law_body","_law_at_here","_law_out","_law_k"] [("_law_signs",2)] rfl rfl rfl d8.nd rfl (Or.inl rfl) (mM (jS wj (pv 3) (kE aJ) (kE aJ))) (λ_ _ _ _ _ _=>(bW Er (pv 1) (pv 0) (λ_ _=>rfl))))
   (x_ (mW (c_ E1 (bW fU (pv 3) aJ (λ_ _=>rfl)) aJ (eD _)) (bH (cJ (i:=5) d8.nd rfl (Or.inl rfl) (jS wj (pv 5) pO (kE (bj iP (bW fU (pv 3) aJ (λ_ _=>rfl)) aJ))))) fF)
   (aV (cJ (i:=6) d8.nd rfl (Or.inl rfl) (bj f6 (bW fU (pv 3) aJ (λ_ _=>rfl)) (dy iG rfl Z.len boot_len (aT (pv 5) bG))))
   (aV (cJ (i:=7) d8.nd rfl (Or.inl rfl) (jR bG))
   (aV (oa PassesOwn.never rfl (fK rfl Z.range (aT (pv 1) bG)) (kD (i:=8) d8.nd rfl (Or.inl rfl)) (aV (vF (bW Er (pv 2) (bj f6 (bj iP (bW fU (pv 3) aJ (λ_ _=>rfl)) (bj cy aJ (pv 8))) aJ) (λ_ _=>rfl)) (vA (pv 5) (pv 6) set_list))
   (bH (kF (qR PySem.F.plainAttrs_list PySem.F.slot_list_append PySem.F.type_list_append ip (pv 7) (aT (qR PySem.F.plainAttrs_str PySem.F.slot_str_join PySem.F.type_str_join He n_ (aT (pv 5) bG)) bG))))))
   (bH (dn (pv 7)))))))))))),?_⟩
 refine ⟨_,rfl,(by show 12≤sizeLine;decide),λp hp=>?_⟩
 have ss:=iz (ss:=[3,36,8,36,36,36,36,36,36,36,36,840]) (by decide)
 refine ⟨c,p,[3,36,8,36,36,36,36,36,36,36,36,840],rfl,cF.of aE,ss,by decide,λr H1 ds _ g1 hr1 hD _=>?_⟩
 obtain ⟨d0,d1,d2,d11,es,at0,at1,at2,at11,hcut,el,be,d20,d21⟩:=OC hD
 clear hD
 generalize ds.map V.int=row at hr1 at0 at1 at2 at11 hcut
 have g1:=(bA.new hp _).trans g1
 dsimp! [rJoin,hr1,at0,at1]
 rw [G4]
 split
 ·refine ⟨(by show 12≤sizeLine;decide),λp2 hp2=>?_⟩
  have g2:=bA.new hp2 (.lst (menu.map V.str))
  have h2:(upd H1 p2 (.lst (menu.map V.str))) p2=some (.lst (menu.map V.str)):=aE
  have hr2:=g2 _ _ hr1
  refine ⟨_,rfl,m,rfl,by omega,by omega,λD hD=>?_⟩
  refine Ey (lo:=0) (n:=m.toNat) (λi H'=>bA (upd H1 p2 (.lst (menu.map V.str))) H'∧H' D=some (.lst (((TJ i).map (pick d1)).map V.str))) ⟨bA.new hD _,aE⟩ ?_ ?_
  ·rintro i H' R hi ⟨g,hd⟩ k
   have hr3:=g _ _ hr2
   have h3:=g _ _ h2
   dsimp! [rJoin,hr3,h3,at1,Int.zero_add]
   refine ⟨.of (Bd.small (by decide) (by decide)) (Bd.small (x:=(i:Int)) (by omega) (by omega)),_,HJ d1 i,?_⟩
   refine k _ _ _ hd (by rw [Sm,Sm,Uv];exact ba (by omega)) ⟨g.MG hD _,?_⟩
   rw [aE]
   simp [List.range_succ]
  ·rintro H' ⟨g,hd⟩
   exact q D H' _ (g1.free (g2.free hD)) (g1.trans (g2.trans g)) hd (by rw [Sm,Uv];omega) (Fh d1 (by omega)) (λx hx=>by obtain ⟨k,_,rfl⟩:=Sn.mp hx;exact C7 d1 k)
 refine ⟨_,rfl,3,rfl,11,rfl,r,_,rfl,cF.of hr1,λp2 hp2=>⟨p2,rfl,⟨_,cF.of aE⟩,λD hD=>?_⟩⟩
 rw [hcut] at hD ⊢
 have g2:=bA.new hp2 (.lst (es.map V.int))
 have hr2:=g2 _ _ hr1
 have h2:(upd H1 p2 (.lst (es.map V.int))) p2=some (.lst (es.map V.int)):=aE
 have al:=km
 have al2:cO.length≤sizeLine:=by decide +kernel
 refine G6 (K:=K) (a:=p2) (xs:=es.map V.int) (λi H'=>bA (upd H1 p2 (.lst (es.map V.int))) H'∧∃cs:List Nat,cs.length=i∧(∀c∈cs,dO cq c=true)∧H' D=some (.lst ((cs.map one).map V.str)))
  ⟨bA.new hD _,[],rfl,(λc hc=>by cases hc),aE⟩ (λi H' _ ⟨g,_⟩=>cF.of (g _ _ h2)) ?_ ?_
 ·rintro i y H' R hi ⟨g,cs,hcs,hca,hd⟩ k
  have hil:=(Sq.mp hi).1
  obtain ⟨z,rfl,hz⟩:=qy hi
  obtain ⟨z0,z1⟩:=be z (Su hz)
  have at1:=Kh (xs:=cO.cps.toList) z0 (by rw [al];exact z1)
  dsimp! [rJoin]
  refine ⟨al2,_,at1,?_⟩
  refine k _ _ _ hd (by rw [Sm,Sm,hcs];rw [Sm] at hil;exact ba (by omega)) ⟨g.MG hD _,cs ++ [cO.cps.toList[z.toNat]'(by rw [al];omega)],by rw [SQ,hcs];rfl,?_,?_⟩
  ·intro c hc
   rcases SD.mp hc with hc | hc
   ·exact hca c hc
   ·rw [SG] at hc;subst hc;exact qg _ (Td _)
  rw [aE,Sw,Sw]
  rfl
 rintro H2 ⟨g,cs,hcs,hca,hd⟩
 have hr3:=g _ _ hr2
 have g:=g1.trans (g2.trans g)
 have hcs:cs.length=8:=hcs.trans ((Sm _).trans el)
 obtain ⟨M,hM⟩:∃M:L2.St→Hp→Prop,∀σ' H',M σ' H'↔∃(D:Addr) (cs:List Nat),σ'=[some (.int c),some (.int m),some (.str cO),some (.ref r),none,some (.ref D),none,none,none]∧bA H H'∧H D=none∧H' r=some (.lst row)∧D≠r∧0 < cs.length∧cs.length≤8∧(∀c∈cs,dO cq c=true)∧H' D=some (.lst ((cs.map one).map V.str)):=⟨_,λ_ _=>Iff.rfl⟩
 have fD:H D=none:=g1.free (g2.free hD)
 have nDr:D≠r:=(bV hr2 hD).symm
 refine ⟨M,?_,?_⟩
 ·dsimp! [rJoin,hr3,at0,at2]
  split
  ·refine ⟨_,cF.of hd,λp4 hp4=>(hM _ _).mpr ⟨p4,cs.take (d2 + 1).toNat,rfl,g.trans (bA.new hp4 _),g.free hp4,?_,?_,?_,?_,(λc hc=>hca c (TR hc)),?_⟩⟩
   ·exact (bA.new hp4 _) _ _ hr3
   ·exact (bV hr3 hp4).symm
   ·rw [SW];omega
   ·rw [SW];omega
   ·rw [aE,DW (by omega),Ug,Ug]
  ·exact (hM _ _).mpr ⟨D,cs,rfl,g,fD,hr3,nDr,by omega,by omega,hca,hd⟩
 clear hca hd hr3 g fD nDr hcs
 intro σ5 H5 hm
 obtain ⟨D,cs,rfl,g,fD,hr3,nDr,l0,l1,hca,hd⟩:=(hM _ _).mp hm
 clear hm hM M
 have e0s:(Str.ofString "").length=0:=by decide +kernel
 have hl:((cs.map one).map V.str).length=cs.length:=by rw [Sm,Sm]
 have hlp:(0:Int) < (((cs.map one).map V.str).length:Nat):=by rw [hl];omega
 have a0:=Int.emod_nonneg d11 (show (((cs.map one).map V.str).length:Int)≠0 by omega)
 have a1:=Int.emod_lt_of_pos d11 hlp
 refine ⟨_,rfl,r,_,11,_,rfl,rfl,hr3,at11,_,rfl,D,rfl,_,.inl (cF.of hd),_,_,rfl,rfl,hlp,?_⟩
 generalize hat:d11 % (((cs.map one).map V.str).length:Int)=at' at a0 a1
 rw [hl] at a1
 refine ⟨SY _,λO hO=>?_⟩
 have gO:=bA.new hO (.lst [])
 have nOD:O≠D:=(bV hd hO).symm
 have nOr:O≠r:=(bV hr3 hO).symm
 have fO:H O=none:=g.free hO
 refine ⟨_,rfl,m,rfl,by omega,by omega,tY (lo:=0) (n:=m.toNat) (λi σ H'=>∃(v:Option V) (cs':List Nat) (xs:List Str),σ=[some (.int c),some (.int m),some (.str cO),some (.ref r),none,some (.ref D),some (.int at'),some (.ref O),v] ∧
  bA H H'∧H' r=some (.lst row)∧cs'.length=cs.length∧(∀c∈cs',dO cq c=true)∧H' D=some (.lst ((cs'.map one).map V.str))∧H' O=some (.lst (xs.map V.str))∧xs.length=i∧(∀x∈xs,good x=true)∧∀k x,xs[k]?=some x→x.cps.toList[at'.toNat]?=some (sign d1 k)) ?_ ?_ ?_⟩
 ·exact ⟨none,cs,[],by rw [← hat];rfl,g.trans gO,gO _ _ hr3,rfl,hca,gO _ _ hd,aE,rfl,(λx hx=>by cases hx),λk x e=>by cases e⟩
 ·rintro i σ H' hi ⟨v,cs',xs,rfl,g',hr',hl',hca',hd',ho',hx,hxl,hs⟩
  have al2:cO.length≤sizeLine:=by decide +kernel
  have sg:=Ip d1 i
  refine ⟨_,rfl,_,rfl,r,_,1,_,rfl,rfl,hr',at1,_,rfl,_,_,rfl,rfl,.of (Bd.small (by decide) (by decide)) (Bd.small (x:=0 + (i:Int)) (by omega) (by omega)),_,_,rfl,rfl,_,_,rfl,rfl,(show (0:Int) < 36 by decide),_,_,_,rfl,rfl,al2,(by rw [Int.zero_add];exact sg),?_⟩
  have ix:Ds ((cs'.map one).map V.str).length at'=some at'.toNat:=by
   unfold Ds
   rw [if_pos a0,if_pos (by rw [Sm,Sm,hl'];exact a1)]
  refine ⟨_,rfl,_,rfl,D,_,at',_,rfl,rfl,hd',ix,?_⟩
  have es:((cs'.map one).map V.str).set at'.toNat (.str ⟨#[sign d1 i]⟩)=((cs'.set at'.toNat (sign d1 i)).map one).map V.str:=by
   rw [List.map_set,List.map_set]
   rfl
  have gD:=bA.MG fD g' (.lst (((cs'.map one).map V.str).set at'.toNat (.str ⟨#[sign d1 i]⟩)))
  have hD2:(upd H' D (.lst (((cs'.map one).map V.str).set at'.toNat (.str ⟨#[sign d1 i]⟩)))) D=some (.lst (((cs'.set at'.toNat (sign d1 i)).map one).map V.str)):=by rw [aE,es]
  have hr2:(upd H' D (.lst (((cs'.map one).map V.str).set at'.toNat (.str ⟨#[sign d1 i]⟩)))) r=_:=(aL nDr.symm).trans hr'
  have ho2:(upd H' D (.lst (((cs'.map one).map V.str).set at'.toNat (.str ⟨#[sign d1 i]⟩)))) O=_:=(aL nOD).trans ho'
  have lc:(cs'.set at'.toNat (sign d1 i)).length=cs.length:=by rw [TY,hl']
  have hcn:∀c∈cs'.set at'.toNat (sign d1 i),dO cq c=true:=λc hc=>by
   rcases List.mem_or_eq_of_mem_set hc with h | h
   ·exact hca' c h
   ·rw [h];exact De d1 i
  refine ⟨_,rfl,.inl ⟨rfl,_,cF.of ho2⟩,rfl,_,rfl,_,D,(cs'.set at'.toNat (sign d1 i)).map one,rfl,rfl,cF.of hD2,?_,O,_,_,rfl,rfl,ho2,?_,?_⟩
  ·rw [EZ,Sm,lc,e0s]
   omega
  ·rw [Sm,hx]
   exact ba (by omega)
  ·rw [join_ones]
   refine ⟨_,cs'.set at'.toNat (sign d1 i),xs ++ [⟨(cs'.set at'.toNat (sign d1 i)).toArray⟩],rfl,gD.MG fO _,(aL nOr.symm).trans hr2,lc,hcn,(aL nOD.symm).trans hD2,?_,by rw [SQ,hx];rfl,?_,?_⟩
   ·rw [aE,Sw]
    rfl
   ·intro x hx2
    rcases SD.mp hx2 with h | h
    ·exact hxl x h
    ·simp only [SH,SV,or_false] at h
     subst h
     exact GW (by rw [lc];exact l0) (by rw [lc];exact l1) hcn
   ·intro k x e
    rcases Nat.lt_or_ge k xs.length with hk | hk
    ·rw [Tu hk] at e
     exact hs k x e
    ·rw [Tq hk] at e
     have ek:k=i:=by
      cases hz:k - xs.length with
      | zero=>omega
      | succ z=>rw [hz] at e;cases e
     rw [show k - xs.length=0 by omega] at e
     have ex:=Option.some.inj e
     subst ex
     rw [ek]
     show (cs'.set at'.toNat (sign d1 i))[at'.toNat]?=some (sign d1 i)
     rw [Tn (by omega)]
 ·rintro σ H' ⟨v,cs',xs,rfl,g',hr',hl',hca',hd',ho',hx,hxl,hs⟩
  exact ⟨_,rfl,q O H' xs fO g' ho' (by omega) (F6 (by omega) hs) hxl⟩
def yC:cx:=λxs J Q _=>∃c m:Int,xs=[.int c,.int m]∧0≤m∧m≤36∧∀ns:List Str,(ns.length:Int)=m→ns.Nodup→(∀x∈ns,good x=true)→Q (.fl (ns.map .str)) J
theorem uf {K:PySem.W.Frag} {J:Hq} {H:Hp}:∀ns:List Str,aM K J H (ns.map PV.str) (ns.map V.str)
 | []=>rfl
 | n :: ns=>⟨_,_,rfl,rfl,uf ns⟩
theorem zp (C:rV P w K mg base 2 "_law_names" eQ BZ):bz P w K mg base 2 "_law_names" eQ yC:=C.lift λxs J vs H Q2 E2 Q E rs r ⟨c,m,ex,h0,h1,q⟩ kn=>by
 subst ex
 obtain ⟨v,u,rfl,r1,r2⟩:=je rs
 cases r1;cases r2
 exact ⟨c,m,rfl,h0,h1,λp H' ns hp s e hl nd lx=>kn (.fl (ns.map .str)) J (.ref p) H' ⟨p,_,rfl,.inl ⟨r.free hp,.inl e⟩,uf ns⟩ (r.same s) (.same s) (q ns hl nd lx)⟩
abbrev v_:Stmt:=(top 46)
abbrev lh:List Str:=["_law_found"]
theorem FG:L2.av ["_law_found"] ["_law_found"] (L2.ai v_):=dI
def rL:cx:=λxs J Q _=>∃i:Int,xs=[.int i]∧Q (.bl true) J
theorem CZ {f:Addr} {fd:FuncData} (F:b7 K "_law_whole" "_law_whole" v_ f fd) (Z:bL mg):aH P w K mg base (cQ P w) 1 f fd lh (dk K rL):=by
 simp_arith [FG,(ar (aB (z_ (aQ iH rfl Z.isinstance boot_isinstance (af (rv 0) (af (m3 rfl Z.int boot_int) ag))) (vS (LN (aQ iH rfl Z.isinstance boot_isinstance (af (rv 0) (af (m3 rfl Z.bool boot_bool) ag))))))))]
 ·obtain ⟨i,rfl,_⟩:=h;rfl
 obtain ⟨i,rfl,q⟩:=h
 refine hX ?_
 simp_arith! [bR]
 exact q
abbrev Af:Stmt:=(top 48)
abbrev iT:List Str:=["_law_found","_law_due"]
theorem Ii:L2.av ["_law_found","_law_due"] ["_law_found","_law_due"] (L2.ai Af):=dI
def pU:cx:=λxs J Q _=>∃a:Rat,xs=[fr a,fr a]∧Q (.bl true) J
theorem EU {f:Addr} {fd:FuncData} (F:b7 K "_law_part" "_law_part" Af f fd) (Z:bL mg) (Ay:bz P w K mg base 1 "_law_whole" lh rL):aH P w K mg base (cQ P w) 2 f fd iT (dk K pU):=by
 simp_arith [Ii,(aj (a8 (dT (j4 (cK (bO (aQ iH rfl Z.isinstance boot_isinstance (af (rv 0) (af (m3 rfl Z.tuple boot_tuple) ag))))) (f_ (aI (mL hr.aY) (aQ cb rfl Z.len boot_len (af (rv 0) ag)) ah)))) (ar (aB gB)) aO)
   (aj (a8 (dT (j4 (cK (bO (aR Ay B hr (af (aw ax (rv 0) ah) ag)))) (f_ (cK (bO (aR Ay B hr (af (aw ax (rv 0) ah) ag))))))) (ar (aB gB)) aO)
   (ar (aB (gX (cP hr.aY) (rv 0) (rv 1))))))]
 ·obtain ⟨a,rfl,_⟩:=h;rfl
 obtain ⟨a,rfl,q⟩:=h
 refine hX ?_
 simp_arith! [bR,rL]
 exact q
def vE (n m:Int):Int:=if m < 2 then n % 19 - 9 else if m=2 then n % 121 - 60 else n % 2000001 - 1000000
def vt (n m:Int):Int:=if m < 2 then n % 7 - 3 else if m=2 then n % 25 - 12 else n % 2001 - 1000
abbrev rh:Stmt:=(top 53)
abbrev jV:List Str:=["_law_number","_law_mode"]
theorem Dc:L2.av ["_law_number","_law_mode"] ["_law_number","_law_mode"] (L2.ai rh):=dI
def um:cx:=λxs J Q _=>∃n m:Int,xs=[.int n,.int m]∧0≤n∧(∀v:Int,v.natAbs≤1000000→v=vE n m→Q (.int v) J)
theorem zC {f:Addr} {fd:FuncData} (F:b7 K "_law_placed" "_law_placed" rh f fd) (Z:bL mg):aH P w K mg base (cQ P w) 1 f fd jV (dk K um):=by
 simp_arith [Dc,(aj (a8 (aI kU (rv 1) ah) (ar (aB (aZ f7 (aZ eG (rv 0) ah) ah))) aO)
   (aj (a8 (aI (cP hr.aY) (rv 1) ah) (ar (aB (aZ f7 (aZ eG (rv 0) ah) ah))) aO)
   (ar (aB (aZ f7 (aZ eG (rv 0) ah) ah)))))]
 ·obtain ⟨n,m,rfl,_⟩:=h;rfl
 obtain ⟨n,m,rfl,n0,q⟩:=h
 refine hX ?_
 unfold vE at q
 simp_all! []
 split
 ·rename_i h;simp_all! [];exact ⟨by decide,q _ (by omega) (by rw [if_pos h])⟩
 rename_i h
 simp_all! []
 split
 ·rename_i h2;simp_all! [];exact ⟨by decide,q _ (by omega) (by rw [if_neg h,if_pos h2])⟩
 ·rename_i h2;simp_all! [];exact ⟨by decide,q _ (by omega) (by rw [if_neg h,if_neg h2])⟩
abbrev v8:Stmt:=(top 54)
abbrev k_:List Str:=["_law_number","_law_mode"]
theorem FE:L2.av ["_law_number","_law_mode"] ["_law_number","_law_mode"] (L2.ai v8):=dI
def yD:cx:=λxs J Q _=>∃n m:Int,xs=[.int n,.int m]∧0≤n∧n < 2001∧(∀v:Int,v.natAbs≤1000→v=vt n m→Q (.int v) J)
theorem CY {f:Addr} {fd:FuncData} (F:b7 K "_law_paced" "_law_paced" v8 f fd) (Z:bL mg):aH P w K mg base (cQ P w) 1 f fd k_ (dk K yD):=by
 simp_arith [FE,(aj (a8 (aI kU (rv 1) ah) (ar (aB (aZ f7 (aZ eG (rv 0) ah) ah))) aO)
   (aj (a8 (aI (cP hr.aY) (rv 1) ah) (ar (aB (aZ f7 (aZ eG (rv 0) ah) ah))) aO)
   (ar (aB (aZ f7 (aZ eG (rv 0) ah) ah)))))]
 ·obtain ⟨n,m,rfl,_⟩:=h;rfl
 obtain ⟨n,m,rfl,n0,n1,q⟩:=h
 refine hX ?_
 unfold vt at q
 simp_all! []
 split
 ·rename_i h;simp_all! [];exact ⟨by decide,q _ (by omega) (by rw [if_pos h])⟩
 rename_i h
 simp_all! []
 split
 ·rename_i h2;simp_all! [];exact ⟨by decide,q _ (by omega) (by rw [if_neg h,if_pos h2])⟩
 ·rename_i h2;simp_all! [];exact ⟨by decide,q _ (by omega) (by rw [if_neg h,if_neg h2])⟩
abbrev LY:Stmt:=(top 57)
abbrev qW:List Str:=["_law_leg","_law_moment"]
theorem yo:L2.av ["_law_leg","_law_moment","_law_begun","_law_place","_law_way","_law_under"] ["_law_leg","_law_moment"] (L2.ai LY):=dI
theorem K5 {f:Addr} {fd:FuncData} (F:b7 K "_law_at" "_law_at" LY f fd) (Z:bL mg) (wO:bz P w K mg base 1 "_law_low" fb rG):aH P w K mg base (cQ P w) 2 f fd qW (dk K uk):=by
 simp_arith [yo,(aj (aK (i:=2) yo.nd (aw ax (rv 0) ah))
   (aj (aK (i:=3) yo.nd (aw ax (rv 0) ah))
   (aj (aK (i:=4) yo.nd (aZ eI (aw ax (rv 0) ah) (aZ f7 (aZ eI (aw ax (rv 1) ah) (aw ax (rv 2) ah)) (aZ eI (aw ax (rv 2) ah) (aw ax (rv 1) ah)))))
   (aj (aK (i:=5) yo.nd (aZ eI (aw ax (rv 1) ah) (aw ax (rv 2) ah)))
   (ar (aB (aR wO B hr (af (aZ d3 (aZ eI (aw ax (rv 3) ah) (rv 5)) (aZ eI (rv 4) (aw ax (rv 3) ah))) (af (aZ eI (aw ax (rv 3) ah) (rv 5)) ag)))))))))]
 ·obtain ⟨l,t,rfl,_⟩:=h;rfl
 obtain ⟨l,m,rfl,sb,sp,sm,bv,q⟩:=h
 refine hX ?_
 simp_all! [Ba,Nc,qB]
 have bn:Bd 1801 (m.num * l.m.den - l.m.num * m.den):=.sub (.mul sm.num sb.den (Ss _)) (.mul sb.num sm.den (Ss _))
 have bu:Bd 1800 ((m.den:Int) * l.m.den):=.mul sm.den sb.den
 have bw:Bd 1900 (l.v * (m.num * l.m.den - l.m.num * m.den)):=.mul bv bn
 refine ⟨.of sm.num sb.den,.of sb.num sm.den,.of bv bn,?_⟩
 simp_all! []
 refine ⟨.of sm.den sb.den,?_⟩
 simp_all! [rG]
 refine ⟨.of sp.num bu,.of bw sp.den,.of sp.den bu,Int.mul_pos (lH _) (Int.mul_pos (lH _) (lH _)),.mul sp.den bu,?_⟩
 rw [M0]
 exact q
def rR (b m:Int):Int:=1 + b % (if m=0 then 4 else if m=1 then 6 else 60)
def wF (n u m:Int):Int:=if m=3 then 1 + n.fdiv 8 % (500 * u) else 1 + n.fdiv 8 % (2 * u)
def uV (c:Rat) (n b m:Int):Rat:=if n % 8=0 then c else Rat.divInt ((c.num * rR b m).fdiv c.den + wF n (rR b m) m) (rR b m)
abbrev v3:Stmt:=(top 55)
abbrev gW:List Str:=["_law_clock","_law_number","_law_bottom","_law_mode"]
theorem m9:L2.av ["_law_clock","_law_number","_law_bottom","_law_mode","_law_under","_law_steps"] ["_law_clock","_law_number","_law_bottom","_law_mode"] (L2.ai v3):=dI
def wB:cx:=λxs J Q _=>∃(c:Rat) (n b m:Int),xs=[fr c,.int n,.int b,.int m]∧0≤n∧0≤b∧0≤m∧m < 4∧n < 2 ^ 60∧Sz 900 c∧∀q,Later c q→q=uV c n b m→Q (fr q) J
theorem CW {f:Addr} {fd:FuncData} (F:b7 K "_law_later" "_law_later" v3 f fd) (Z:bL mg) (wO:bz P w K mg base 1 "_law_low" fb rG):aH P w K mg base (cQ P w) 2 f fd gW (dk K wB):=by
 simp_arith [m9,(aj (a8 (aI (cP hr.aY) (aZ eG (rv 1) ah) ah) (ar (aB (rv 0))) aO)
   (aj (aK (i:=4) m9.nd (aZ d3 ah (aZ eG (rv 2) (aw ax (oX (zZ [.int 4,.int 6,.int 60,.int 60] rfl [.int 4,.int 6,.int 60,.int 60] rfl)) (rv 3)))))
   (aj (aK (i:=5) m9.nd (aZ d3 ah (aZ eG (aZ pL (rv 1) ah) (aZ eI ah (rv 4)))))
   (dF (a8 (aI (cP hr.aY) (rv 3) ah) (ar (aK (i:=5) m9.nd (aZ d3 ah (aZ eG (aZ pL (rv 1) ah) (aZ eI ah (rv 4)))))) aO)
   (ar (aB (aR wO B hr (af (aZ d3 (aZ pL (aZ eI (aw ax (rv 0) ah) (rv 4)) (aw ax (rv 0) ah)) (rv 5)) (af (rv 4) ag)))))))))]
 ·obtain ⟨c,n,b,m,rfl,_⟩:=h;rfl
 obtain ⟨c,n,b,m,rfl,n0,b0,m0,m1,n2,sc,q⟩:=h
 refine hX ?_
 simp_all! []
 refine ⟨by decide,?_⟩
 split
 ·rename_i h8
  simp_all! []
  exact q c (.inl rfl) (by unfold uV;rw [if_pos h8])
 rename_i h8
 obtain ⟨x,hx,x0,x1,xe⟩:∃x:Int,c7 [PV.int 4,PV.int 6,PV.int 60,PV.int 60] m=some (.int x)∧1≤x∧x≤60∧x=(if m=0 then 4 else if m=1 then 6 else 60):=by
  rcases (by omega:m=0∨m=1∨m=2∨m=3) with e | e | e | e <;> subst e
  ·exact ⟨4,dq _ _,by decide,by decide,rfl⟩
  ·exact ⟨6,fQ _ _ _,by decide,by decide,rfl⟩
  ·exact ⟨60,kT _ _ _ _,by decide,by decide,rfl⟩
  ·exact ⟨60,DP _ _ _ _ _,by decide,by decide,rfl⟩
 have u0:0≤b % x:=Int.emod_nonneg _ (by omega)
 have u1:b % x < x:=Int.emod_lt_of_pos _ (by omega)
 have bu:Bd 64 (1 + b % x):=.small (by omega) (by omega)
 have b8:Bd 9000 8:=(Bd.small (x:=8) (by decide) (by decide)).mono (by decide)
 simp_all! [hx]
 refine ⟨by omega,?_⟩
 simp_all! []
 refine ⟨⟨by decide,b8⟩,.of (.small (x:=2) (by decide) (by decide)) bu,by omega,?_⟩
 have ue:1 + b % x=rR b m:=by unfold rR;rw [xe]
 generalize hu:1 + b % x=u at *
 have k0:0≤n.fdiv 8:=by rw [Int.fdiv_eq_ediv_of_nonneg _ (by decide)];exact Int.ediv_nonneg n0 (by decide)
 obtain ⟨M,hM⟩:∃M:Sr→Hq→Prop,∀τ' J',M τ' J'↔∃s:Int,τ'=[some (fr c),some (.int n),some (.int b),some (.int m),some (.int u),some (.int s)]∧J'=J∧1≤s∧s≤500 * u∧s=wF n u m:=⟨_,λ_ _=>Iff.rfl⟩
 simp_all! []
 refine ⟨M,?_,?_⟩
 ·simp_arith! [bR]
  have h2:0≤n.fdiv 8 % (2 * u):=Int.emod_nonneg _ (by omega)
  have h3:n.fdiv 8 % (2 * u) < 2 * u:=Int.emod_lt_of_pos _ (by omega)
  have h4:0≤n.fdiv 8 % (500 * u):=Int.emod_nonneg _ (by omega)
  have h5:n.fdiv 8 % (500 * u) < 500 * u:=Int.emod_lt_of_pos _ (by omega)
  split
  ·rename_i h3'
   refine ⟨⟨by decide,b8⟩,.of (.small (x:=500) (by decide) (by decide)) bu,by omega,(hM _ _).mpr ⟨_,rfl,rfl,by omega,by omega,by unfold wF;rw [if_pos h3']⟩⟩
  ·rename_i h3'
   exact (hM _ _).mpr ⟨_,rfl,rfl,by omega,by omega,by unfold wF;rw [if_neg h3']⟩
 ·intro τ' J' hm
  obtain ⟨s,rfl,rfl,s0,s1,se⟩:=(hM _ _).mp hm
  clear hm hM M
  simp_arith! [bR,rG]
  refine ⟨.of sc.num bu,⟨er c,sc.den.mono (by decide)⟩,by omega,bu.mono (by decide),?_⟩
  obtain ⟨u',rfl⟩:=Int.eq_ofNat_of_zero_le (show 0≤u by omega)
  obtain ⟨s',rfl⟩:=Int.eq_ofNat_of_zero_le (show 0≤s by omega)
  exact q _ (.inr ⟨u',s',by omega,by omega,by omega,by omega,rfl⟩) (by unfold uV;rw [if_neg h8,← ue,← se])
section
variable {X:Cx}
theorem mj.or {f:Value→Value→Sem Value} {q q':ml} (h:mj X f q) (h':mj X f q'):mj X f (λx y J Q=>q x y J Q∨q' x y J Q):=by
 obtain ⟨r,a,lr⟩:=h
 obtain ⟨r',a',lr'⟩:=h'
 refine ⟨λx y H Q=>r x y H Q∨r' x y H Q,λpins s σ H x y v u Q I rx ry h=>?_,λJ H x y v w Q2 Q rx ry rr h k=>?_⟩
 ·rcases h with h | h
  ·exact a pins s σ H x y v u Q I rx ry h
  ·exact a' pins s σ H x y v u Q I rx ry h
 ·rcases h with h | h
  ·exact .inl (lr J H x y v w Q2 Q rx ry rr h k)
  ·exact .inr (lr' J H x y v w Q2 Q rx ry rr h k)
end
def Ky.V (k:Ky):PV:=.tup [fr k.p,.int k.v,.str k.n]
abbrev wa:Stmt:=(top 49)
abbrev lj:List Str:=["_law_found","_law_due"]
theorem yp:L2.av ["_law_found","_law_due","_law_one"] ["_law_found","_law_due"] (L2.ai wa):=dI
def B1:cx:=λxs J Q _=>∃ss:List Str,xs=[.fl (ss.map .str),.fl (ss.map .str)]∧ss.length≤900∧Q (.bl true) J
theorem Fl (ss:List Str):j1 (ss.map PV.str)=true:=by
 induction ss with
 | nil=>rfl
 | cons x ss ih=>rw [Sx,kG,vL,ih];rfl
theorem DY (ss:List Str):cZ (eg (ss.map PV.str))≤1:=by
 induction ss with
 | nil=>simp [eg,cZ]
 | cons x ss ih=>simp only [Sx,eg,fm,cZ,dep];omega
theorem AI (ss:List Str):GJ (.fl (ss.map .str)):=⟨by unfold l_;exact Fl ss,by
 have:=DY ss
 simp only [fm,dep];omega⟩
theorem C0 {f:Addr} {fd:FuncData} (F:b7 K "_law_words" "_law_words" wa f fd) (Z:bL mg):aH P w K mg base (cQ P w) 1 f fd lj (dk K B1):=by
 simp_arith [yp,(aj (a8 (dT (j4 (cK (bO (aQ iH rfl Z.isinstance boot_isinstance (af (rv 0) (af (m3 rfl Z.list boot_list) ag))))) (f_ (aI (mL hr.aY) (aQ cb rfl Z.len boot_len (af (rv 0) ag)) (aQ cb rfl Z.len boot_len (af (rv 1) ag)))))) (ar (aB gB)) aO)
   (aj (fq cG rfl (eS (rv 0)) (bB (i:=2) yp.nd) (ar (a8 (cK (bO (aQ iH rfl Z.isinstance boot_isinstance (af (rv 2) (af (m3 rfl Z.str boot_str) ag))))) (ar (aB gB)) aO)))
   (ar (aB (gX (cP hr.aY) (rv 0) (rv 1))))))]
 ·obtain ⟨ss,rfl,_⟩:=h;rfl
 obtain ⟨ss,rfl,hl,q⟩:=h
 refine hX ?_
 simp_all! [Sm]
 obtain ⟨Inv,hInv⟩:∃Inv:Nat→Sr→Hq→Prop,∀i τ J',Inv i τ J'↔∃u:Option PV,τ=[some (.fl (ss.map .str)),some (.fl (ss.map .str)),u]∧J'=J:=⟨_,λ_ _ _=>Iff.rfl⟩
 refine gM Inv ((hInv _ _ _).mpr ⟨_,rfl,rfl⟩) (λ_ _ _ _=>trivial) ?_ ?_
 ·intro i x τ J' hx hv
  obtain ⟨u,rfl,rfl⟩:=(hInv _ _ _).mp hv
  obtain ⟨y,_,rfl⟩:=Sn.mp (Su hx)
  simp_all! []
  exact (hInv _ _ _).mpr ⟨_,rfl,rfl⟩
 ·intro τ J' hv
  obtain ⟨u,rfl,rfl⟩:=(hInv _ _ _).mp hv
  simp_all! []
  refine ⟨AI ss,(AI ss).1,?_⟩
  rw [eq_self];exact q
abbrev ox:Stmt:=(top 50)
abbrev ji:List Str:=["_law_found","_law_due"]
theorem Ai:L2.av ["_law_found","_law_due"] ["_law_found","_law_due"] (L2.ai ox):=dI
def oC:cx:=λxs J Q _=>∃a:aF,xs=[a.v,a.v]∧Q (.bl true) J
theorem xT {f:Addr} {fd:FuncData} (F:b7 K "_law_passrow" "_law_passrow" ox f fd) (Z:bL mg) (yN:bz P w K mg base 2 "_law_part" iT pU):aH P w K mg base (cQ P w) 3 f fd ji (dk K oC):=by
 simp_arith [Ai,(aj (a8 (dT (j4 (cK (bO (aQ iH rfl Z.isinstance boot_isinstance (af (rv 0) (af (m3 rfl Z.tuple boot_tuple) ag))))) (f_ (aI (mL hr.aY) (aQ cb rfl Z.len boot_len (af (rv 0) ag)) ah)))) (ar (aB gB)) aO)
   (aj (a8 (dT (j4 (cK (bO (aQ iH rfl Z.isinstance boot_isinstance (af (aw ax (rv 0) ah) (af (m3 rfl Z.str boot_str) ag))))) (f_ (cK (bO (aQ iH rfl Z.isinstance boot_isinstance (af (aw ax (rv 0) ah) (af (m3 rfl Z.str boot_str) ag)))))))) (ar (aB gB)) aO)
   (ar (aB (z_ (aR yN B hr (af (aw ax (rv 0) ah) (af (aw ax (rv 1) ah) ag))) (vS (gX (cP hr.aY) (rv 0) (rv 1))))))))]
 ·obtain ⟨a,rfl,_⟩:=h;rfl
 obtain ⟨a,rfl,q⟩:=h
 refine hX ?_
 simp_arith! [bR,pU,IU,IV,IW,QU,Nh,PD,Jp,PH]
 exact q
abbrev lW:Stmt:=(top 51)
abbrev eK:List Str:=["_law_found","_law_due"]
theorem oZ:L2.av ["_law_found","_law_due","_law_k"] ["_law_found","_law_due"] (L2.ai lW):=dI
def l6:cx:=λxs J Q _=>∃(rows:List aF) (x:PV),xs=[x,.fl (rows.map aF.v)]∧jG J x=some (rows.map aF.v)∧rows.length≤900∧Q (.bl true) J
theorem vm {f:Addr} {fd:FuncData} (F:b7 K "_law_passrows" "_law_passrows" lW f fd) (Z:bL mg) (Cd:bz P w K mg base 3 "_law_passrow" ji oC):aH P w K mg base (cQ P w) 4 f fd eK (dk K l6):=by
 simp_arith [oZ,(aj (a8 (dT (j4 (cK (bO (aQ iH rfl Z.isinstance boot_isinstance (af (rv 0) (af (m3 rfl Z.list boot_list) ag))))) (f_ (aI (mL hr.aY) (aQ cb rfl Z.len boot_len (af (rv 0) ag)) (aQ cb rfl Z.len boot_len (af (rv 1) ag)))))) (ar (aB gB)) aO)
   (aj (fq cG rfl (kI rfl Z.range (af (aQ cb rfl Z.len boot_len (af (rv 1) ag)) ag)) (bB (i:=2) oZ.nd) (ar (a8 (cK (bO (aR Cd B hr (af (aw ax (rv 0) (rv 2)) (af (aw ax (rv 1) (rv 2)) ag))))) (ar (aB gB)) aO)))
   (ar (aB gB))))]
 ·obtain ⟨rows,x,rfl,_⟩:=h;rfl
 obtain ⟨rows,x,rfl,hx,hl,q⟩:=h
 refine hX ?_
 simp_arith! [bR,Sm,NB hx,ED hx]
 refine ⟨by omega,by omega,AX (λi τ J'=>∃u:Option PV,τ=[some x,some (.fl (rows.map aF.v)),u]∧J'=J) ⟨none,rfl,rfl⟩ ?_ ?_⟩
 ·rintro i τ J' hi ⟨u,rfl,rfl⟩
  have hi:i < rows.length:=by omega
  have ha:c7 (rows.map aF.v) (0 + (i:Int))=some (rows[i].v):=by rw [Int.zero_add];exact DQ (So hi)
  simp_arith! [bR,Jc hx,ha,oC]
  exact ⟨_,rfl,rfl⟩
 ·rintro τ J' ⟨u,rfl,rfl⟩
  exact q
theorem bN.Kv {L:Ln} (ok:bN L):L.fs.length≤12:=by
 have:=ok.rl
 rw [ok.row,xZ] at this;exact this
theorem y4 (t:Rat) (ks:List Ky) (h:(ks.map Ky.n).Nodup):(iF t ks).length≤ks.length:=by
 rw [← yG h]
 have h1:=nM t gx ((cD ks).zip (cD ks).tail)
 rw [Ui,qM] at h1
 omega
def MQ (t:Rat) (fs gs:List (Str × aS)):Prop:=∀x,x∈fs.map (key t)↔x∈gs.map (key t)
def wQ:List aS→Prop
 | a :: b :: r=>b.p=a.at b.m∧wQ (b :: r)
 | _=>True
theorem kq:∀(ls:List aS) (l:aS),wQ (ls ++ [l])↔wQ ls∧∀k,ls.getLast?=some k→l.p=k.at l.m
 | [],l=>⟨λ_=>⟨trivial,λk h=>nomatch h⟩,λ_=>trivial⟩
 | [a],l=>⟨λh=>⟨trivial,λk e=>by cases e;exact h.1⟩,λh=>⟨h.2 a rfl,trivial⟩⟩
 | a :: b :: r,l=>by
  have ih:=kq (b :: r) l
  show (b.p=a.at b.m∧wQ ((b :: r) ++ [l]))↔_
  rw [ih,List.getLast?_cons_cons]
  constructor
  ·rintro ⟨h1,h2,h3⟩;exact ⟨⟨h1,h2⟩,h3⟩
  ·rintro ⟨⟨h1,h2⟩,h3⟩;exact ⟨h1,h2,h3⟩
def ia (l l':aS):Prop:=l.v=l'.v∧∀t,l.at t=l'.at t
theorem ia.key {l l':aS} (h:ia l l') (n:Str) (t:Rat):key t (n,l)=key t (n,l'):=by unfold Ov.key;simp only;rw [h.1,h.2 t]
theorem GH (l:aS):l.at l.m=l.p:=by unfold aS.at;grind
theorem BI {l l':aS} {t:Rat} (hv:l.v=l'.v) (h:l.at t=l'.at t):ia l l':=⟨hv,λs=>by
 unfold aS.at at h ⊢
 rw [hv] at h ⊢
 generalize (l'.v:Rat)=x at h ⊢
 grind⟩
theorem ka {rows:List aS} {t:Rat} {v:Int} (h:wQ rows) (ne:rows≠[]):wQ (turned rows t v)∧∀l,rows.getLast?=some l→∀l',(turned rows t v).getLast?=some l'→ia ⟨t,l.at t,v⟩ l':=by
 obtain ⟨ls,l,rfl⟩:∃ls l,rows=ls ++ [l]:=⟨rows.dropLast,rows.getLast ne,(Ta ne).symm⟩
 obtain ⟨h1,h2⟩:=(kq ls l).mp h
 have new:∀{q:List aS},(q ++ [aS.mk t (l.at t) v]).getLast?=some (aS.mk t (l.at t) v):=λ{q}=>S5 ..
 rw [gJ]
 simp only [S5,Option.some.injEq]
 split
 ·rename_i e
  have el:l.at t=l.p:=by rw [← e];exact GH l
  split
  ·rename_i ev
   refine ⟨h1,λl0 h0 l' h'=>?_⟩
   subst h0
   rw [h'] at ev
   have hv:l'.v=v:=Option.some.inj ev
   have hp:=h2 l' h'
   rw [e] at hp
   refine BI (t:=t) hv.symm ?_
   show l.at t + (t - t) * (v:Rat)=_
   rw [← hp,el];grind
  ·refine ⟨(kq _ _).mpr ⟨h1,λk hk=>?_⟩,λl0 h0 l' h'=>?_⟩
   ·show l.at t=k.at t
    rw [el,h2 k hk,e]
   ·subst h0
    rw [new] at h';cases h';exact ⟨rfl,λ_=>rfl⟩
 ·split
  ·rename_i ev
   refine ⟨h,λl0 h0 l' h'=>?_⟩
   subst h0
   rw [S5] at h';cases h'
   refine BI (t:=t) ev.symm ?_
   show l.at t + (t - t) * (v:Rat)=_
   grind
  ·refine ⟨(kq _ _).mpr ⟨h,λk hk=>?_⟩,λl0 h0 l' h'=>?_⟩
   ·rw [S5] at hk;cases hk;rfl
   ·subst h0
    rw [new] at h';cases h';exact ⟨rfl,λ_=>rfl⟩
structure Rl (L:Ln) (gs:List (Str × aS)):Prop where
 nm:gs.map (·.1)=L.fs.map (·.1)
 ln:∀n l l',(n,l)∈gs→(n,l')∈L.fs→ia l l'
 ck:∀x∈gs,rY x.2
 le:∀x∈gs,x.2.m≤L.t
 ct:∀c∈L.cs,wQ c.w
theorem Rl.same {L:Ln} {gs:List (Str × aS)} (h:Rl L gs) (t:Rat):MQ t L.fs gs:=λx=>by
 have other:∀{as bs:List (Str × aS)},as.map (·.1)=bs.map (·.1)→∀{n l},(n,l)∈as→∃l',(n,l')∈bs:=λ{as bs} e {n l} hm=>by
  have:n∈bs.map (·.1):=by rw [← e];exact Sn.mpr ⟨_,hm,rfl⟩
  obtain ⟨y,hy,e'⟩:=Sn.mp this
  exact ⟨y.2,by rw [← e'];exact hy⟩
 rw [Sn,Sn]
 constructor
 ·rintro ⟨⟨n,l⟩,hm,rfl⟩
  obtain ⟨l',hl'⟩:=other h.nm.symm hm
  exact ⟨(n,l'),hl',(h.ln n l' l hl' hm).key n t⟩
 ·rintro ⟨⟨n,l⟩,hm,rfl⟩
  obtain ⟨l',hl'⟩:=other h.nm hm
  exact ⟨(n,l'),hl',((h.ln n l l' hm hl').key n t).symm⟩
theorem Rl.sz {L:Ln} {gs:List (Str × aS)} (h:Rl L gs):∀x∈gs,tL 240 x.2:=λx hx=>by
 have hk:=h.ck x hx
 exact ⟨hk.RD.mono (by decide),hk.RK.mono (by decide),.small (by have:=hk.v;omega) (by have:=hk.v;omega)⟩
theorem Rl.nd {L:Ln} {gs:List (Str × aS)} (h:Rl L gs) (ok:a9 L):(gs.map (·.1)).Nodup:=by rw [h.nm];exact ok.Kw
theorem Rl.len {L:Ln} {gs:List (Str × aS)} (h:Rl L gs):gs.length=L.fs.length:=by have:=congrArg Tt h.nm;rw [Sm,Sm] at this;exact this
theorem Fj {fs:List (Str × aS)} {n:Str} {l:aS} (hm:n∈fs.map (·.1)):rW (bU fs) n l.V=bU (fs.map λx=>if x.1=n then (x.1,l) else x):=by
 unfold rW bU
 rw [if_pos,Sy,Sy]
 ·refine SR λx _=>?_
  show (if x.1=n then (x.1,l.V) else (x.1,x.2.V))=_
  show _=((if x.1=n then (x.1,l) else x).1,(if x.1=n then (x.1,l) else x).2.V)
  split <;> rfl
 ·obtain ⟨x,hx,e⟩:=Sn.mp hm
  rw [UB]
  exact ⟨(x.1,x.2.V),Sn.mpr ⟨x,hx,rfl⟩,decide_eq_true e⟩
def o7 (n:Str) (t:Rat) (v:Int) (gs:List (Str × aS)):List (Str × aS):=gs.map λx=>if x.1=n then (x.1,⟨t,x.2.at t,v⟩) else x
def gL (t:Rat) (gs:List (Str × aS)):List (Str × aS):=gs.map λx=>(x.1,⟨t,x.2.at t,-x.2.v⟩)
theorem D' {L:Ln} {f:Cf→Cf} (hn:∀c,(f c).n=c.n∧(f c).a=c.a∧(f c).r=c.r∧(f c).g=c.g) {L':Ln} (e:L'.cs=L.cs.map f):L'.fs=L.Br.map λc=>(c.n,(f c).cur):=by
 unfold Ln.fs Ln.Br
 rw [e,Tc,Sy]
 have e1:(λc:Cf=>c.g.isNone) ∘ f=λc=>c.g.isNone:=by funext c;show (f c).g.isNone=_;rw [(hn c).2.2.2]
 rw [e1]
 exact SR λc _=>by show ((f c).n,(f c).cur)=_;rw [(hn c).1]
theorem xh {c:Cf} {t:Rat} {v:Int} (h:wQ c.w) (ne:c.w≠[]):ia ⟨t,c.cur.at t,v⟩ (c.turn t v).cur:=by
 have h1:=(Cf.iI ne).1
 have h2:=(Cf.iI (c:=c.turn t v) (ur ne)).1
 exact (ka h ne).2 _ h1 _ h2
theorem ia.turn {l l':aS} (h:ia l l') (t:Rat) (v:Int):ia ⟨t,l.at t,v⟩ ⟨t,l'.at t,v⟩:=by rw [h.2 t];exact ⟨rfl,λ_=>rfl⟩
theorem ia.trans {l l' l'':aS} (h:ia l l') (k:ia l' l''):ia l l'':=⟨h.1.trans k.1,λt=>(h.2 t).trans (k.2 t)⟩
theorem Rl.turn {L L':Ln} {gs:List (Str × aS)} (h:Rl L gs) (ok:a9 L) {n:Str} {v:Int} (hv:v.natAbs≤1000) (e:L'.cs=L.cs.map (cE n L.t v)) (et:L'.t=L.t):Rl L' (o7 n L.t v gs):=by
 have hn:=nt n L.t v
 have hfs:=D' hn e
 have nm:(o7 n L.t v gs).map (·.1)=gs.map (·.1):=by
  unfold o7;rw [Sy];exact SR λx _=>by show (if x.1=n then (x.1,_) else x).1=x.1;split <;> rfl
 refine ⟨?_,?_,?_,?_,?_⟩
 ·rw [nm,h.nm,hfs];unfold Ln.fs;rw [Sy,Sy];rfl
 ·intro m l l' hl hl'
  obtain ⟨x,hx,ex⟩:=Sn.mp hl
  rw [hfs] at hl'
  obtain ⟨c,hc,ec⟩:=Sn.mp hl'
  have hcs:=(Ln.dD.mp hc).1
  have hold:(c.n,c.cur)∈L.fs:=Sn.mpr ⟨c,hc,rfl⟩
  cases ec
  by_cases z:x.1=n
  ·rw [if_pos z] at ex
   have ex1:x.1=c.n:=(Prod.mk.inj ex).1
   have ex2:aS.mk L.t (x.2.at L.t) v=l:=(Prod.mk.inj ex).2
   subst ex2
   have hs:=h.ln x.1 x.2 c.cur hx (by rw [ex1];exact hold)
   have zc:c.n=n:=by rw [← z];exact ex1.symm
   unfold cE
   rw [if_pos zc]
   exact (hs.turn L.t v).trans (xh (h.ct c hcs) (ok.ne c hcs))
  ·rw [if_neg z] at ex
   subst ex
   have zc:¬ c.n=n:=z
   unfold cE
   rw [if_neg zc]
   exact h.ln c.n l c.cur hx hold
 ·intro x hx
  obtain ⟨y,hy,rfl⟩:=Sn.mp hx
  split
  ·exact (h.ck y hy).at (h.le y hy) ok.ts hv
  ·exact h.ck y hy
 ·intro x hx
  rw [et]
  obtain ⟨y,hy,rfl⟩:=Sn.mp hx
  split
  ·exact Rat.le_refl
  ·exact h.le y hy
 ·intro c hc
  rw [e] at hc
  obtain ⟨c0,h0,rfl⟩:=Sn.mp hc
  unfold cE
  split
  ·exact (ka (h.ct c0 h0) (ok.ne c0 h0)).1
  ·exact h.ct c0 h0
theorem w8 (t:Rat) (c:Cf):(cY t c).n=c.n∧(cY t c).a=c.a∧(cY t c).r=c.r∧(cY t c).g=c.g:=by unfold cY;split <;> exact ⟨rfl,rfl,rfl,rfl⟩
theorem Rl.about {L L':Ln} {gs:List (Str × aS)} (h:Rl L gs) (ok:a9 L) (e:L'.cs=L.cs.map (cY L.t)) (et:L'.t=L.t):Rl L' (gL L.t gs):=by
 have hn:=w8 L.t
 have hfs:=D' hn e
 have nm:(gL L.t gs).map (·.1)=gs.map (·.1):=by
  unfold gL;rw [Sy];rfl
 refine ⟨?_,?_,?_,?_,?_⟩
 ·rw [nm,h.nm,hfs];unfold Ln.fs;rw [Sy,Sy];rfl
 ·intro m l l' hl hl'
  obtain ⟨x,hx,ex⟩:=Sn.mp hl
  rw [hfs] at hl'
  obtain ⟨c,hc,ec⟩:=Sn.mp hl'
  have hcs:=Ln.dD.mp hc
  have hold:(c.n,c.cur)∈L.fs:=Sn.mpr ⟨c,hc,rfl⟩
  cases ec
  obtain ⟨xn,xl⟩:=x
  cases ex
  have hs:=h.ln c.n xl c.cur hx hold
  have ea:cY L.t c=c.turn L.t (-c.cur.v):=by unfold cY;rw [if_pos (by rw [hcs.2];rfl)]
  rw [ea,hs.1]
  exact (hs.turn L.t _).trans (xh (h.ct c hcs.1) (ok.ne c hcs.1))
 ·intro x hx
  obtain ⟨y,hy,rfl⟩:=Sn.mp hx
  exact (h.ck y hy).at (h.le y hy) ok.ts (by have:=(h.ck y hy).v;omega)
 ·intro x hx
  rw [et]
  obtain ⟨y,hy,rfl⟩:=Sn.mp hx
  exact Rat.le_refl
 ·intro c hc
  rw [e] at hc
  obtain ⟨c0,h0,rfl⟩:=Sn.mp hc
  unfold cY
  split
  ·exact (ka (h.ct c0 h0) (ok.ne c0 h0)).1
  ·exact h.ct c0 h0
theorem Rl.join {L L':Ln} {gs:List (Str × aS)} (h:Rl L gs) (ok':a9 L') {n:Str} {x v:Int} (hv:v.natAbs≤1000) (hx:x.natAbs≤1000000) (j:L.joined n x v L') (t0:0≤L.t) (ts:Sc gK MM L.t) (hnew:n ∉ L.fs.map (·.1)):Rl L' (gs ++ [(n,⟨L.t,(x:Rat),v⟩)]):=by
 obtain ⟨a,r,ecs,et⟩:=j
 have efs:L'.fs=L.fs ++ [(n,⟨L.t,(x:Rat),v⟩)]:=AY L ecs rfl
 refine ⟨?_,?_,?_,?_,?_⟩
 ·rw [efs,Sw,Sw,h.nm]
 ·intro m l l' hl hl'
  rw [efs] at hl'
  have h1:∀{k},(n,k)∈gs→False:=λhk=>hnew (by rw [← h.nm];exact Sn.mpr ⟨_,hk,rfl⟩)
  have h2:∀{k},(n,k)∈L.fs→False:=λhk=>hnew (Sn.mpr ⟨_,hk,rfl⟩)
  rcases SD.mp hl with hl | hl <;> rcases SD.mp hl' with hl' | hl'
  ·exact h.ln m l l' hl hl'
  ·rw [SG] at hl';cases hl';exact (h1 hl).elim
  ·rw [SG] at hl;cases hl;exact (h2 hl').elim
  ·rw [SG] at hl hl';cases hl;cases hl';exact ⟨rfl,λ_=>rfl⟩
 ·intro y hy
  rcases SD.mp hy with hy | hy
  ·exact h.ck y hy
  ·rw [SG] at hy;subst hy;exact rY.new t0 ts hx hv
 ·intro y hy
  rw [et]
  rcases SD.mp hy with hy | hy
  ·exact h.le y hy
  ·rw [SG] at hy;subst hy;exact Rat.le_refl
 ·intro c hc
  rw [ecs] at hc
  rcases SD.mp hc with hc | hc
  ·exact h.ct c hc
  ·rw [SG] at hc;subst hc;exact trivial
def jC (n:Str) (gs:List (Str × aS)):List (Str × aS):=gs.filter λx=>decide (x.1≠n)
theorem Rl.leave {L L':Ln} {gs:List (Str × aS)} (h:Rl L gs) {n:Str} (e:L'.cs=L.cs.map (bD n L.t)) (et:L'.t=L.t):Rl L' (jC n gs):=by
 have hfs:L'.fs=L.fs.filter λx=>decide (x.1≠n):=xA e
 have hf:∀l:List (Str × aS),(l.filter λx=>decide (x.1≠n)).map (·.1)=(l.map (·.1)).filter λy=>decide (y≠n):=λl=>by rw [Tc];rfl
 refine ⟨?_,?_,?_,?_,?_⟩
 ·unfold jC;rw [hf,hfs,hf,h.nm]
 ·intro m l l' hl hl'
  rw [hfs] at hl'
  exact h.ln m l l' (SE.mp hl).1 (SE.mp hl').1
 ·intro x hx;exact h.ck x (SE.mp hx).1
 ·intro x hx;rw [et];exact h.le x (SE.mp hx).1
 ·intro c hc
  rw [e] at hc
  obtain ⟨c0,h0,rfl⟩:=Sn.mp hc
  rw [(e_ n L.t c0).2.2.2];exact h.ct c0 h0
abbrev vX:Stmt:=(top 58)
abbrev gU:List Str:=["_law_legs","_law_clock","_law_deed_here"]
theorem ym:L2.av ["_law_legs","_law_clock","_law_deed_here","_law_name"] ["_law_legs","_law_clock","_law_deed_here"] (L2.ai vX):=dI
def e9 (n:Str) (x v:Int):PV:=.tup [.str "join",.str n,.int x,.int v]
def gI (n:Str) (v:Int):PV:=.tup [.str "turn",.str n,.int v]
def fP:PV:=.tup [.str "about"]
def fg (n:Str):PV:=.tup [.str "leave",.str n]
def Ge (m:Rat):PV:=.tup [.str "go",fr m]
def pS:cx:=λxs J Q _=>∃(D:Addr) (gs:List (Str × aS)) (ep:Nat) (t:Rat) (dv:PV),xs=[.ref D,fr t,dv]∧J D=some (.dct (bU gs) ep)∧(gs.map (·.1)).Nodup∧gs.length≤100∧Sz 900 t∧(∀x∈gs,tL 900 x.2) ∧
 ((∃n x v,dv=e9 n x v∧n ∉ gs.map (·.1)∧∀ep',Q (fr t) (put J D (.dct (bU (gs ++ [(n,⟨t,(x:Rat),v⟩)])) ep'))) ∨
  (∃n v,dv=gI n v∧n∈gs.map (·.1)∧∀ep',Q (fr t) (put J D (.dct (bU (o7 n t v gs)) ep'))) ∨
  (dv=fP∧∀ep',Q (fr t) (put J D (.dct (bU (gL t gs)) ep'))) ∨
  (∃n,dv=fg n∧n∈gs.map (·.1)∧∀ep',Q (fr t) (put J D (.dct (bU (jC n gs)) ep'))) ∨
  (∃m,dv=Ge m∧Q (fr m) J))
theorem JI:(("join":Str)="go")=False:=eq_false (by decide +kernel)
theorem JK:(("turn":Str)="go")=False:=eq_false (by decide +kernel)
theorem JH:(("about":Str)="go")=False:=eq_false (by decide +kernel)
theorem Kp {c:lD} {a u:iB} {D:En} {τ:Sr} {J:Hq} (hc:∀R:Bool→Hq→Prop,R false J→c τ J R) (hu:u D τ J):Fu (zW c a qZ) u D τ J :=
 ⟨λτ' J'=>τ'=τ∧J'=J,hc _ (by rw [if_neg (by decide)];exact ⟨rfl,rfl⟩),λτ' J' h=>by obtain ⟨rfl,rfl⟩:=h;exact hu⟩
theorem fw {c:lD} {a u:iB} {D:En} {τ:Sr} {J:Hq} (M:Sr→Hq→Prop) (hc:∀R:Bool→Hq→Prop,R true J→c τ J R) (ha:a { D with nx:=M } τ J) (hu:∀τ' J',M τ' J'→u D τ' J'):Fu (zW c a qZ) u D τ J :=
 ⟨M,hc _ (by rw [if_pos rfl];exact ha),hu⟩
theorem Ca {x y:Str} {i:Nat} {dv:PV} {τ:Sr} {J:Hq} (h:τ[i]?=some (some dv)) (h0:fJ J dv (.int 0)=some (.str x)) (R:Bool→Hq→Prop) (hr:R (decide (x=y)) J):rB (zY (Js id) (zY LC (oi i) (rC (.int 0))) (rC (.str y))) τ J R :=
 K6 h (fj h0 ⟨⟨rfl,by simp [fm,dep]⟩,rfl,zD rfl (by rw [eq_str];exact hr)⟩)
theorem cV {x y:Str} {i:Nat} {dv:PV} {τ:Sr} {J:Hq} {a u:iB} {D:En} (h:τ[i]?=some (some dv)) (h0:fJ J dv (.int 0)=some (.str x)) (n:decide (x=y)=false) (hu:u D τ J):Fu (zW (rB (zY (Js id) (zY LC (oi i) (rC (.int 0))) (rC (.str y)))) a qZ) u D τ J:=Kp (λR hr'=>Ca h h0 R (by rw [n];exact hr')) hu
theorem uQ {x:Str} {i:Nat} {dv:PV} {τ:Sr} {J:Hq} (h:τ[i]?=some (some dv)) (h0:fJ J dv (.int 0)=some (.str x)) (R:Bool→Hq→Prop) (hr:R true J):rB (zY (Js id) (zY LC (oi i) (rC (.int 0))) (rC (.str x))) τ J R:=Ca h h0 R (by rw [decide_eq_true rfl];exact hr)
def eh (t:Rat) (gs:List (Str × aS)) (i:Nat):List (Str × aS):=gL t (gs.take i) ++ gs.drop i
theorem tO (t:Rat) (gs:List (Str × aS)) (i:Nat):(eh t gs i).map (·.1)=gs.map (·.1):=by
 unfold eh gL
 rw [Sw,Sy]
 have:((gs.take i).map ((λx:Str × aS=>x.1) ∘ λx=>(x.1,(⟨t,x.2.at t,-x.2.v⟩:aS))))=(gs.take i).map (·.1):=SR λ_ _=>rfl
 rw [this,← Sw,Ua]
theorem w9 (t:Rat) (gs:List (Str × aS)) (hnd:(gs.map (·.1)).Nodup) (i:Nat) (h:i < gs.length):(eh t gs i).map (λx=>if x.1=gs[i].1 then (x.1,(⟨t,gs[i].2.at t,-gs[i].2.v⟩:aS)) else x)=eh t gs (i + 1):=by
 have hd:gs.drop i=gs[i] :: gs.drop (i + 1):=Tf h
 have ht:gs.take (i + 1)=gs.take i ++ [gs[i]]:=by rw [S4,So h];rfl
 have hn2:(gs.map (·.1))=(gs.take i).map (·.1) ++ (gs[i].1 :: (gs.drop (i + 1)).map (·.1)):=by
  rw [← Sx (f:=λx:Str × aS=>x.1),← hd,← Sw,Ua]
 rw [hn2,Tj] at hnd
 unfold eh gL
 rw [hd,ht,Sw,Sw,Sx,if_pos rfl,T8]
 congr 1
 ·rw [Sy]
  refine SR λx hx=>?_
  show (if x.1=gs[i].1 then _ else _)=_
  rw [if_neg (hnd.2.2 x.1 (Sn.mpr ⟨x,hx,rfl⟩) gs[i].1 (by simp))]
 ·show _ :: _=_ :: _
  congr 1
  have hno:=(Tx.mp hnd.2.1).1
  have:∀x∈gs.drop (i + 1),(if x.1=gs[i].1 then (x.1,(⟨t,gs[i].2.at t,-gs[i].2.v⟩:aS)) else x)=x:=λx hx=>if_neg λz=>hno (by rw [← z];exact Sn.mpr ⟨x,hx,rfl⟩)
  rw [SR this,UM]
  rfl
theorem JJ:(("leave":Str)="go")=False:=eq_false (by decide +kernel)
theorem CU {f:Addr} {fd:FuncData} (F:b7 K "_law_acted" "_law_acted" vX f fd) (Z:bL mg) (MK:bz P w K mg base 2 "_law_at" qW uk):aH P w K mg base (cQ P w) 3 f fd gU (dk K pS):=by
 simp_arith [ym,(dF (a8 (aI (cP hr.aY) (aw ax (rv 2) ah) bJ) (ar (vV pV (rv 0) (aw ax (rv 2) ah) (cA (af (rv 1) (af (cA (af (aw ax (rv 2) ah) (af ah ag))) (af (aw ax (rv 2) ah) ag)))))) aO)
   (dF (a8 (aI (cP hr.aY) (aw ax (rv 2) ah) bJ) (ar (a_ (oW PySem.F.plainAttrs_dict PySem.F.slot_dict_pop PySem.F.type_dict_pop Hd (rv 0) (af (aw ax (rv 2) ah) ag)))) aO)
   (dF (a8 (aI (cP hr.aY) (aw ax (rv 2) ah) bJ) (ar (vV pV (rv 0) (aw ax (rv 2) ah) (cA (af (rv 1) (af (aR MK B hr (af (aw fT (rv 0) (aw ax (rv 2) ah)) (af (rv 1) ag))) (af (aw ax (rv 2) ah) ag)))))) aO)
   (dF (a8 (aI (cP hr.aY) (aw ax (rv 2) ah) bJ) (ar (fq cG rfl (eS (de (xg rfl) rfl Z.list boot_list (af (rv 0) ag))) (bB (i:=3) ym.nd) (ar (vV pV (rv 0) (rv 3) (cA (af (rv 1) (af (aR MK B hr (af (aw fT (rv 0) (rv 3)) (af (rv 1) ag))) (af (ud oH (aw ax (aw fT (rv 0) (rv 3)) ah)) ag)))))))) aO)
   (aj (a8 (aI (cP hr.aY) (aw ax (rv 2) ah) bJ) (ar (aB (aw ax (rv 2) ah))) aO)
   (ar (aB (rv 1))))))))]
 ·obtain ⟨D,gs,ep,t,dv,rfl,_⟩:=h;rfl
 obtain ⟨D,gs,ep,t,dv,rfl,hD,hnd,hlen,st,sl,h⟩:=h
 refine hX ?_
 rcases h with ⟨n,x,v,rfl,hn,q⟩ | ⟨n,v,rfl,hn,q⟩ | ⟨rfl,q⟩ | ⟨n,rfl,hn,q⟩ | ⟨m,rfl,q⟩
 ·have i0:∀J,fJ J (e9 n x v) (.int 0)=some (.str "join"):=λJ=>dq _ _
  have i1:∀J,fJ J (e9 n x v) (.int 1)=some (.str n):=λJ=>fQ _ _ _
  have i2:∀J,fJ J (e9 n x v) (.int 2)=some (.int x):=λJ=>kT _ _ _ _
  have i3:∀J,fJ J (e9 n x v) (.int 3)=some (.int v):=λJ=>rfl
  refine fw (λτ' J'=>∃ep',τ'=[some (.ref D),some (fr t),some (e9 n x v),none]∧J'=put J D (.dct (bU (gs ++ [(n,⟨t,(x:Rat),v⟩)])) ep')) (uQ rfl (i0 _)) ?_ ?_
  ·simp_all! [i1,i2,i3,hD,Kz,uq]
   refine ⟨ba (by unfold bU;rw [Sm];omega),λep'=>⟨ep',?_⟩⟩
   have epu:rW (bU gs) n (aS.mk t (x:Rat) v).V=bU (gs ++ [(n,⟨t,(x:Rat),v⟩)]):=zU (f:=aS.V) (l:=⟨t,(x:Rat),v⟩) hn
   rw [epu]
  rintro τ' J' ⟨ep',rfl,rfl⟩
  refine cV rfl (i0 _) (by decide +kernel) ?_
  refine cV rfl (i0 _) (by decide +kernel) ?_
  refine cV rfl (i0 _) (by decide +kernel) ?_
  simp_all! [i0,JI,if_false]
  exact q ep'
 ·have i0:∀J,fJ J (gI n v) (.int 0)=some (.str "turn"):=λJ=>dq _ _
  have i1:∀J,fJ J (gI n v) (.int 1)=some (.str n):=λJ=>fQ _ _ _
  have i2:∀J,fJ J (gI n v) (.int 2)=some (.int v):=λJ=>kT _ _ _ _
  refine cV rfl (i0 _) (by decide +kernel) ?_
  refine cV rfl (i0 _) (by decide +kernel) ?_
  refine fw (λτ' J'=>∃ep',τ'=[some (.ref D),some (fr t),some (gI n v),none]∧J'=put J D (.dct (bU (o7 n t v gs)) ep')) (uQ rfl (i0 _)) ?_ ?_
  ·obtain ⟨l,hl,hvl⟩:=wL (f:=aS.V) hnd hn
   have hvl:nv (bU gs) n=some l.V:=hvl
   have sll:=sl _ hl
   simp_all! [i1,i2,hD,hvl]
   refine ⟨l,t,rfl,sll.m,sll.p,st,sll.v,?_⟩
   simp_all! [i1,i2,hD,uq]
   refine ⟨ba (by unfold bU;rw [Sm];omega),λep'=>⟨ep',?_⟩⟩
   rw [Fj hn]
   have:(gs.map λx=>if x.1=n then (x.1,(⟨t,l.at t,v⟩:aS)) else x)=o7 n t v gs:=SR λx hx=>by
    by_cases z:x.1=n
    ·have hx':nv (bU gs) n=some x.2.V:=oI (f:=aS.V) hnd (by rw [← z];exact hx)
     rw [hvl] at hx'
     have ex:l=x.2:=by have:=Option.some.inj hx';rw [MS] at this;exact this
     rw [if_pos z,if_pos z,ex]
    ·rw [if_neg z,if_neg z]
   rw [this]
  rintro τ' J' ⟨ep',rfl,rfl⟩
  refine cV rfl (i0 _) (by decide +kernel) ?_
  simp_all! [i0,JK,if_false]
  exact q ep'
 ·have i0:∀J,fJ J fP (.int 0)=some (.str "about"):=λJ=>dq _ _
  refine cV rfl (i0 _) (by decide +kernel) ?_
  refine cV rfl (i0 _) (by decide +kernel) ?_
  refine cV rfl (i0 _) (by decide +kernel) ?_
  refine fw (λτ' J'=>∃u ep',τ'=[some (.ref D),some (fr t),some fP,u]∧J'=put J D (.dct (bU (gL t gs)) ep')) (uQ rfl (i0 _)) ?_ ?_
  ·simp_all! [hD]
   have hkv:(bU gs).map (λkv=>PV.str kv.1)=gs.map λx=>PV.str x.1:=by unfold bU;rw [Sy];rfl
   rw [hkv]
   obtain ⟨Inv,hInv⟩:∃Inv:Nat→Sr→Hq→Prop,∀i τ J',Inv i τ J'↔∃(u:Option PV) (ep':Nat),τ=[some (.ref D),some (fr t),some fP,u]∧J'=put J D (.dct (bU (eh t gs i)) ep'):=⟨_,λ_ _ _=>Iff.rfl⟩
   refine gM Inv ((hInv _ _ _).mpr ⟨_,ep,rfl,by show J=put J D (.dct (bU gs) ep);rw [zV hD]⟩) (λ_ _ _ _=>trivial) ?_ ?_
   ·intro i x τ J' hx hv
    obtain ⟨u,ep',rfl,rfl⟩:=(hInv _ _ _).mp hv
    clear hv
    have hi:i < gs.length:=by have:=(Sq.mp hx).1;simpa using this
    rw [SA,So hi] at hx
    cases hx
    have hnd':((eh t gs i).map (·.1)).Nodup:=by rw [tO];exact hnd
    have hmem:gs[i]∈eh t gs i:=by unfold eh;rw [Tf hi];exact SD.mpr (.inr S8)
    have hva:nv (bU (eh t gs i)) gs[i].1=some gs[i].2.V:=oI (f:=aS.V) hnd' hmem
    have hstep:=w9 t gs hnd i hi
    have hin:gs[i].1∈(eh t gs i).map (·.1):=Sn.mpr ⟨_,hmem,rfl⟩
    have hlen':(eh t gs i).length=gs.length:=by have:=congrArg Tt (tO t gs i);rw [Sm,Sm] at this;exact this
    have sll:=sl _ (Td hi)
    generalize gs[i]=y at hva hstep hin sll ⊢
    simp_all! [aq,hva]
    refine ⟨y.2,t,rfl,sll.m,sll.p,st,sll.v,?_⟩
    simp_all! [aq,hva,qB,uq]
    refine ⟨ba (by unfold bU;rw [Sm];omega),λep2=>(hInv _ _ _).mpr ⟨_,ep2,rfl,?_⟩⟩
    rw [eR,Fj hin,hstep]
   ·intro τ J' hv
    obtain ⟨u,ep',rfl,rfl⟩:=(hInv _ _ _).mp hv
    refine ⟨u,rfl,ep',?_⟩
    rw [Sm]
    unfold eh
    rw [S3,UD,Tb]
  rintro τ' J' ⟨u,ep',rfl,rfl⟩
  simp_all! [i0,JH,if_false]
  exact q ep'
 ·have i0:∀J,fJ J (fg n) (.int 0)=some (.str "leave"):=λJ=>dq _ _
  have i1:∀J,fJ J (fg n) (.int 1)=some (.str n):=λJ=>fQ _ _ _
  refine cV rfl (i0 _) (by decide +kernel) ?_
  refine fw (λτ' J'=>∃ep',τ'=[some (.ref D),some (fr t),some (fg n),none]∧J'=put J D (.dct (bU (jC n gs)) ep')) (uQ rfl (i0 _)) ?_ ?_
  ·obtain ⟨l,hl,hvl⟩:=wL (f:=aS.V) hnd hn
   have hvl:nv (bU gs) n=some l.V:=hvl
   simp_all! [i1,hD,hvl]
   have edr:Dr (bU gs) n=bU (jC n gs):=by unfold Dr bU jC;rw [Tc];rfl
   intro ep'
   exact ⟨ep',by rw [edr]⟩
  rintro τ' J' ⟨ep',rfl,rfl⟩
  refine cV rfl (i0 _) (by decide +kernel) ?_
  refine cV rfl (i0 _) (by decide +kernel) ?_
  simp_all! [i0,JJ,if_false]
  exact q ep'
 ·have i0:∀J,fJ J (Ge m) (.int 0)=some (.str "go"):=λJ=>dq _ _
  have i1:∀J,fJ J (Ge m) (.int 1)=some (fr m):=λJ=>fQ _ _ _
  refine cV rfl (i0 _) (by decide +kernel) ?_
  refine cV rfl (i0 _) (by decide +kernel) ?_
  refine cV rfl (i0 _) (by decide +kernel) ?_
  refine cV rfl (i0 _) (by decide +kernel) ?_
  simp_all! [i0,i1,if_true]
  exact q
abbrev Ac:Stmt:=(top 59)
abbrev iS:List Str:=["_law_lane","_law_deed_here"]
theorem Ig:L2.av ["_law_lane","_law_deed_here"] ["_law_lane","_law_deed_here"] (L2.ai Ac):=dI
def wy (cN cL T:Addr):cx:=λxs J Q _=>∃p L dv,xs=[.ref p,dv]∧aW cN cL J p L∧bN L ∧
 ((∃n x v,dv=e9 n x v∧J T=some .tab∧good n=true∧Mz x v∧n ∉ L.cs.map Cf.n∧L.row.length < 12∧L.cs.length < 100∧n.length≤sizeLine∧∀J' L',aW cN cL J' p L'→bN L'→L.joined n x v L'→Mv J J' (L.own p) (L'.own p)→Q (.fl []) J') ∨
  (∃n v,dv=gI n v∧n∈L.row∧v.natAbs≤1000∧(∀c∈L.cs,c.w.length < 200)∧∀J' L',aW cN cL J' p L'→bN L'→L'.cs=L.cs.map (cE n L.t v)→L'.t=L.t→Mv J J' (L.own p) (L'.own p)→Q (.fl []) J') ∨
  (dv=fP∧(∀c∈L.cs,c.w.length < 200)∧∀J' L',aW cN cL J' p L'→bN L'→L'.cs=L.cs.map (cY L.t)→L'.t=L.t→Mv J J' (L.own p) (L'.own p)→Q (.fl []) J') ∨
  (∃n,dv=fg n∧n∈L.row∧∀J' L',aW cN cL J' p L'→bN L'→L'.cs=L.cs.map (bD n L.t)→L'.t=L.t→Mv J J' (L.own p) (L'.own p)→Q (.fl []) J') ∨
  (∃m:Rat,dv=Ge m∧fS m.num m.den=true∧L.t≤m∧∀J' o',aW cN cL J' p { L with t:=m,o:=o',row:=cg m L.fs }→bN { L with t:=m,o:=o',row:=cg m L.fs }→Mv J J' (L.own p) (Ln.own { L with t:=m,o:=o',row:=cg m L.fs } p)→Q (.fl ((ed L.t (L.fs.map (key L.t)) m).map aF.v)) J'))
theorem ES {cN cL T eB eF eT eU eC eM eP f:Addr} {fd:FuncData} (F:b7 K "_law_done" "_law_done" Ac f fd) (Z:bL mg) (jH:cn P w K mg base cN 8 "join" mO (BW cN cL T eB eF eT eU)) (iM:cn P w K mg base cN 2 "leave" k6 (yz cN cL eC)) (jI:cn P w K mg base cN 8 "turn" mP (BX cN cL eC eF)) (iK:cn P w K mg base cN 8 "about" kY (yw cN cL)) (cI:cn P w K mg base cN 8 "go_to" gS (FP cN cL eM eP)):aH P w K mg base (cQ P w) 9 f fd iS (dk K (wy cN cL T)):=by
 simp_arith [Ig,(dF (a8 (aI (cP hr.aY) (aw ax (rv 1) ah) bJ) (ar (a_ (bp (pl:=_) jH B hr (rv 0) (af (aw ax (rv 1) ah) (af (aw ax (rv 1) ah) (af (aw ax (rv 1) ah) ag)))))) aO)
   (dF (a8 (aI (cP hr.aY) (aw ax (rv 1) ah) bJ) (ar (a_ (bp (pl:=_) iM B hr (rv 0) (af (aw ax (rv 1) ah) ag)))) aO)
   (dF (a8 (aI (cP hr.aY) (aw ax (rv 1) ah) bJ) (ar (a_ (bp (pl:=_) jI B hr (rv 0) (af (aw ax (rv 1) ah) (af (aw ax (rv 1) ah) ag))))) aO)
   (dF (a8 (aI (cP hr.aY) (aw ax (rv 1) ah) bJ) (ar (a_ (bP (pl:=_) iK B hr (rv 0)))) aO)
   (aj (a8 (aI (cP hr.aY) (aw ax (rv 1) ah) bJ) (ar (aB (bp (pl:=_) cI B hr (rv 0) (af (aw ax (rv 1) ah) ag)))) aO)
   (ar (aB (oX ag))))))))]
 ·obtain ⟨p,L,dv,rfl,_⟩:=h;rfl
 obtain ⟨p,L,dv,rfl,b,ok,h⟩:=h
 have bo:=b.ob
 refine hX ?_
 rcases h with ⟨n,x,v,rfl,hT,hg,hb,hn,hr12,hc,hl,q⟩ | ⟨n,v,rfl,hn,hv,hw,q⟩ | ⟨rfl,hw,q⟩ | ⟨n,rfl,hn,q⟩ | ⟨m,rfl,hg,hm,q⟩
 ·have i0:∀J,fJ J (e9 n x v) (.int 0)=some (.str "join"):=λJ=>dq _ _
  have i1:∀J,fJ J (e9 n x v) (.int 1)=some (.str n):=λJ=>fQ _ _ _
  have i2:∀J,fJ J (e9 n x v) (.int 2)=some (.int x):=λJ=>kT _ _ _ _
  have i3:∀J,fJ J (e9 n x v) (.int 3)=some (.int v):=λJ=>rfl
  refine fw (λτ' J'=>τ'=[some (.ref p),some (e9 n x v)]∧Q (.fl []) J') (uQ rfl (i0 _)) ?_ ?_
  ·simp_all! [bo,i1,i2,i3]
   exact ⟨dJ _ _ _ _,p,L,n,x,v,rfl,b,ok,hT,hl,hc,(λz=>by rw [hg] at z;cases z),(λ_ z=>absurd hb z),(λ_ _ z=>absurd z hn),(λ_ _ _ z=>by omega),λ_ _ _ _ J1 L1 b1 ok1 jn mv=>q J1 L1 b1 ok1 jn mv⟩
  rintro τ' J' ⟨rfl,hq⟩
  refine cV rfl (i0 _) (by decide +kernel) ?_
  refine cV rfl (i0 _) (by decide +kernel) ?_
  refine cV rfl (i0 _) (by decide +kernel) ?_
  simp_all! [i0,JI,if_false]
  exact hq
 ·have i0:∀J,fJ J (gI n v) (.int 0)=some (.str "turn"):=λJ=>dq _ _
  have i1:∀J,fJ J (gI n v) (.int 1)=some (.str n):=λJ=>fQ _ _ _
  have i2:∀J,fJ J (gI n v) (.int 2)=some (.int v):=λJ=>kT _ _ _ _
  refine cV rfl (i0 _) (by decide +kernel) ?_
  refine cV rfl (i0 _) (by decide +kernel) ?_
  refine fw (λτ' J'=>τ'=[some (.ref p),some (gI n v)]∧Q (.fl []) J') (uQ rfl (i0 _)) ?_ ?_
  ·simp_all! [bo,i1,i2]
   exact ⟨dJ _ _ _ _,p,L,n,v,rfl,b,ok,hw,λz=>absurd hn z,λ_ z=>absurd hv z,λ_ _ J1 L1 b1 ok1 e t1 mv=>q J1 L1 b1 ok1 e t1 mv⟩
  rintro τ' J' ⟨rfl,hq⟩
  refine cV rfl (i0 _) (by decide +kernel) ?_
  simp_all! [i0,JK,if_false]
  exact hq
 ·have i0:∀J,fJ J fP (.int 0)=some (.str "about"):=λJ=>dq _ _
  refine cV rfl (i0 _) (by decide +kernel) ?_
  refine cV rfl (i0 _) (by decide +kernel) ?_
  refine cV rfl (i0 _) (by decide +kernel) ?_
  refine fw (λτ' J'=>τ'=[some (.ref p),some (fP)]∧Q (.fl []) J') (uQ rfl (i0 _)) ?_ ?_
  ·simp_all! [bo]
   exact ⟨dJ _ _ _ _,p,L,rfl,b,ok,hw,λJ1 L1 b1 ok1 e t1 mv=>q J1 L1 b1 ok1 e t1 mv⟩
  rintro τ' J' ⟨rfl,hq⟩
  simp_all! [i0,JH,if_false]
  exact hq
 ·have i0:∀J,fJ J (fg n) (.int 0)=some (.str "leave"):=λJ=>dq _ _
  have i1:∀J,fJ J (fg n) (.int 1)=some (.str n):=λJ=>fQ _ _ _
  refine cV rfl (i0 _) (by decide +kernel) ?_
  refine fw (λτ' J'=>τ'=[some (.ref p),some (fg n)]∧Q (.fl []) J') (uQ rfl (i0 _)) ?_ ?_
  ·simp_all! [bo,i1]
   exact ⟨dJ _ _ _ _,p,L,n,rfl,b,ok,λz=>absurd hn z,λ_ J1 L1 b1 ok1 e t1 mv=>q J1 L1 b1 ok1 e t1 mv⟩
  rintro τ' J' ⟨rfl,hq⟩
  refine cV rfl (i0 _) (by decide +kernel) ?_
  refine cV rfl (i0 _) (by decide +kernel) ?_
  simp_all! [i0,JJ,if_false]
  exact hq
 ·have i0:∀J,fJ J (Ge m) (.int 0)=some (.str "go"):=λJ=>dq _ _
  have i1:∀J,fJ J (Ge m) (.int 1)=some (fr m):=λJ=>fQ _ _ _
  refine cV rfl (i0 _) (by decide +kernel) ?_
  refine cV rfl (i0 _) (by decide +kernel) ?_
  refine cV rfl (i0 _) (by decide +kernel) ?_
  refine cV rfl (i0 _) (by decide +kernel) ?_
  simp_all! [i0,i1,if_true,bo]
  refine ⟨dJ _ _ _ _,p,L,m.num,m.den,rfl,b,ok,(λz=>by rw [hg] at z;cases z),λm' e1 e2 _=>?_⟩
  obtain rfl:m'=m:=Rat.ext e1 (by omega)
  exact ⟨λz=>absurd z (Rat.not_lt.mpr hm),λ_ J1 o1 b1 ok1 mv1=>q J1 o1 b1 ok1 mv1⟩
abbrev vZ:Stmt:=(top 56)
abbrev iR:List Str:=["_law_row","_law_mode","_law_names_here","_law_used","_law_legs","_law_clock"]
theorem pR:L2.av ["_law_row","_law_mode","_law_names_here","_law_used","_law_legs","_law_clock","_law_there","_law_fresh","_law_name"] ["_law_row","_law_mode","_law_names_here","_law_used","_law_legs","_law_clock"] (L2.ai vZ):=dI
def DA (names used:List Str) (gs:List (Str × aS)) (t:Rat) (dv:PV):Prop :=
 (∃n x v,dv=e9 n x v∧n∈names∧n ∉ used∧gs.length < 12∧x.natAbs≤1000000∧v.natAbs≤1000) ∨
 (∃n v,dv=gI n v∧n∈gs.map (·.1)∧v.natAbs≤1000)∨dv=fP∨(∃n,dv=fg n∧n∈gs.map (·.1))∨∃m,dv=Ge m∧Later t m
def x8 (xs:List Str) (r:Int):Str:=(xs[(r % (xs.length:Int)).toNat]?).getD ""
def AQ (r0 r1 r2 r3 r4 r5 m:Int) (names used gn:List Str) (t:Rat):PV :=
 if 0 < (names.filter λx=>!decide (x∈used)).length∧gn.length < 12∧(r0 < 3∨gn.length < 2∧r0 < 8) then e9 (x8 (names.filter λx=>!decide (x∈used)) r1) (vE r2 m) (vt r3 m)
 else if (r0=3∨r0=4)∧0 < gn.length then gI (x8 gn r1) (vt r3 m)
 else if r0=5∧2 < gn.length then fg (x8 gn r1)
 else if r0=6 then fP else Ge (uV t r4 r5 m)
def Am:cx:=λxs J Q _=>∃(r0 r1 r2 r3 r4 r5 m:Int) (names used:List Str) (U D:Addr) (gs:List (Str × aS)) (ep:Nat) (t:Rat),xs=[.fl [.int r0,.int r1,.int r2,.int r3,.int r4,.int r5],.int m,.fl (names.map .str),.ref U,.ref D,fr t]∧J U=some (.lst (used.map .str))∧J D=some (.dct (bU gs) ep)∧names.length≤40∧gs.length≤100 ∧
 0≤r1∧0≤r2∧0≤r3∧r3 < 2001∧0≤r4∧r4 < 2 ^ 60∧0≤r5∧0≤m∧m < 4∧Sz 900 t∧∀dv,DA names used gs t dv→dv=AQ r0 r1 r2 r3 r4 r5 m names used (gs.map (·.1)) t→Q dv J
theorem uP {c:lD} {a u:iB} {D:En} {τ:Sr} {J:Hq} (b:Prop) [Decidable b] (hc:∀R:Bool→Hq→Prop,R (decide b) J→c τ J R) (h1:b→∀N,a { D with nx:=N } τ J) (h2:¬ b→u D τ J):bR (zW c a qZ) u D τ J:=by
 refine hc _ ?_
 by_cases h:b
 ·rw [decide_eq_true h,if_pos rfl];exact h1 h _
 ·rw [decide_eq_false h,if_neg (by decide)];exact h2 h
theorem HZ {R:Bool→Hq→Prop} {b c:Bool} {J:Hq} (h:R b J) (e:b=true↔c=true):R c J:=by rw [← Tw.mpr e];exact h
theorem vC {xs:List Str} {r:Int} (h0:0≤r) (hl:0 < xs.length):∃n∈xs,c7 (xs.map PV.str) (r % (xs.length:Int))=some (.str n)∧n=x8 xs r:=by
 obtain ⟨j,hj⟩:∃j:Nat,r % (xs.length:Int)=j:=⟨(r % (xs.length:Int)).toNat,by have:=Int.emod_nonneg r (b:=(xs.length:Int)) (by omega);omega⟩
 have hjl:j < xs.length:=by have:=Int.emod_lt_of_pos r (b:=(xs.length:Int)) (by omega);omega
 exact ⟨xs[j],Td hjl,by rw [hj];exact bx (by rw [SA,So hjl];rfl),by unfold x8;rw [hj,Int.toNat_natCast,So hjl];rfl⟩
theorem ER {f:Addr} {fd:FuncData} (F:b7 K "_law_deed" "_law_deed" vZ f fd) (Z:bL mg) (Dv:bz P w K mg base 1 "_law_placed" jV um) (Ax:bz P w K mg base 1 "_law_paced" k_ yD) (uy:bz P w K mg base 2 "_law_later" gW wB):aH P w K mg base (cQ P w) 3 f fd iR (dk K Am):=by
 simp_arith [pR,(aj (aK (i:=6) pR.nd (de (xg rfl) rfl Z.list boot_list (af (rv 4) ag)))
   (aj (LU (i:=7) (L2.ai vZ) ["_law_row","_law_mode","_law_names_here","_law_used","_law_legs","_law_clock","_law_there","_law_fresh","_law_name"] [("_law_used",3)] rfl rfl rfl pR.nd rfl (Or.inl rfl) (eS (rv 2)) (λ_ _ _ _ _ _=>(rv 0)) (λ_ _ _ _ _ _=>(aI Bk (rv 0) (rv 1))))
   (aj (a8 (dT (gY (aI oR (aQ cb rfl Z.len boot_len (af (rv 7) ag)) ah) (gY (aI kU (aQ cb rfl Z.len boot_len (af (rv 6) ag)) ah) (fH (dT (j4 (aI kU (aw ax (rv 0) ah) ah) (f_ (dT (gY (aI kU (aQ cb rfl Z.len boot_len (af (rv 6) ag)) ah) (fH (aI kU (aw ax (rv 0) ah) ah))))))))))) (aj (aK (i:=8) pR.nd (aw ax (rv 7) (aZ eG (aw ax (rv 0) ah) (aQ cb rfl Z.len boot_len (af (rv 7) ag)))))
   (ar (aB (cA (af bJ (af (rv 8) (af (aR Dv B hr (af (aw ax (rv 0) ah) (af (rv 1) ag))) (af (aR Ax B hr (af (aw ax (rv 0) ah) (af (rv 1) ag))) ag)))))))) aO)
   (aj (a8 (dT (gY (aI Lj (aw ax (rv 0) ah) (cA (af ah (af ah ag)))) (fH (aI oR (aQ cb rfl Z.len boot_len (af (rv 6) ag)) ah)))) (ar (aB (cA (af bJ (af (aw ax (rv 6) (aZ eG (aw ax (rv 0) ah) (aQ cb rfl Z.len boot_len (af (rv 6) ag)))) (af (aR Ax B hr (af (aw ax (rv 0) ah) (af (rv 1) ag))) ag)))))) aO)
   (aj (a8 (dT (gY (aI (cP hr.aY) (aw ax (rv 0) ah) ah) (fH (aI oR (aQ cb rfl Z.len boot_len (af (rv 6) ag)) ah)))) (ar (aB (cA (af bJ (af (aw ax (rv 6) (aZ eG (aw ax (rv 0) ah) (aQ cb rfl Z.len boot_len (af (rv 6) ag)))) ag))))) aO)
   (aj (a8 (aI (cP hr.aY) (aw ax (rv 0) ah) ah) (ar (aB (cA (af bJ ag)))) aO)
   (ar (aB (cA (af bJ (af (aR uy B hr (af (rv 5) (af (aw ax (rv 0) ah) (af (aw ax (rv 0) ah) (af (rv 1) ag))))) ag)))))))))))]
 ·obtain ⟨r0,r1,r2,r3,r4,r5,m,names,used,U,D,gs,ep,t,rfl,_⟩:=h;rfl
 obtain ⟨r0,r1,r2,r3,r4,r5,m,names,used,U,D,gs,ep,t,rfl,hU,hD,hnl,hgl,r10,r20,r30,r31,r40,r41,r50,m0,m1,st,q⟩:=h
 have hkv:(bU gs).map (λkv=>PV.str kv.1)=(gs.map (·.1)).map PV.str:=by unfold bU;rw [Sy,Sy];rfl
 refine hX ?_
 simp_all! [hD,hkv,zX]
 obtain ⟨pn,hpn⟩:∃pn:Str→Bool,∀x,pn x=!decide (x∈used):=⟨_,λ_=>rfl⟩
 refine ⟨λx=>match x with | .str s=>pn s | _=>false,id,⟨by rw [Sm];exact Th hnl (by decide),λJ' sub=>⟨trivial,λx hx=>?_⟩⟩,?_⟩
 ·obtain ⟨s,hs,rfl⟩:=Sn.mp hx
  have hU':=sub _ _ hU
  simp_all! [pD]
  refine ⟨⟨s,used,rfl,by show (match J' U with | some (.lst xs)=>some xs | _=>none)=_;rw [hU'],zD rfl ⟨(hpn s).symm,rfl⟩⟩,λ_=>trivial⟩
 have ef:((names.map PV.str).filter λx=>match x with | .str s=>pn s | _=>false).map id=(names.filter pn).map PV.str:=by rw [List.map_id,Tc];rfl
 rw [ef]
 have hfr:∀n∈names.filter pn,n∈names∧n ∉ used:=λn hn=>by
  obtain ⟨h1,h2⟩:=SE.mp hn
  rw [hpn] at h2
  exact ⟨h1,by simpa using h2⟩
 have epn:pn=λx=>!decide (x∈used):=funext hpn
 unfold AQ at q
 rw [← epn] at q
 generalize names.filter pn=fresh at hfr q ⊢
 have gl:(gs.map (·.1)).length=gs.length:=Sm _
 generalize hgn:gs.map (·.1)=gn at gl q ⊢
 rw [gl] at q
 refine hNq _ _ ?_
 clear hNq Nq
 refine uP (0 < fresh.length∧gs.length < 12∧(r0 < 3∨gs.length < 2∧r0 < 8)) (λR hR=>?_) (λhb N=>?_) (λhb=>?_)
 ·simp_arith! [bR,Sm]
  (repeat' (first | split | simp_arith! [bR,Sm])) <;> exact HZ hR (by simp only [decide_eq_true_eq,SJ,eq_self,iff_true,iff_false];omega)
 ·obtain ⟨n,hn,ha,en⟩:=vC r10 hb.1
  rw [if_pos hb] at q
  simp_all! [Sm,ha]
  refine ⟨by omega,?_⟩
  simp_all! []
  refine ⟨r2,m,rfl,r20,λx hx ex=>⟨r3,m,rfl,r30,r31,λv hv ev=>?_⟩⟩
  exact q _ (.inl ⟨n,x,v,rfl,(hfr n hn).1,(hfr n hn).2,hb.2.1,hx,hv⟩) (by rw [en,ex,ev];rfl)
 rw [if_neg hb] at q
 clear hb
 refine uP ((r0=3∨r0=4)∧0 < gs.length) (λR hR=>?_) (λhb N=>?_) (λhb=>?_)
 ·simp_all! [Sm]
  refine ⟨r0,[3,4],rfl,rfl,zD rfl ?_⟩
  (repeat' (first | split | simp_arith! [bR,Sm])) <;> exact HZ hR (by simp only [decide_eq_true_eq,SJ,id_eq,SH,SV,or_false,eq_self,iff_true,iff_false] at *;omega)
 ·obtain ⟨n,hn,ha,en⟩:=vC (xs:=gn) r10 (by omega)
  rw [if_pos hb] at q
  simp_all! [Sm,ha]
  refine ⟨by omega,?_⟩
  simp_all! []
  refine ⟨r3,m,rfl,r30,r31,λv hv ev=>?_⟩
  exact q _ (.inr (.inl ⟨n,v,rfl,by rw [hgn];exact hn,hv⟩)) (by rw [en,ev];rfl)
 rw [if_neg hb] at q
 clear hb
 refine uP (r0=5∧2 < gs.length) (λR hR=>?_) (λhb N=>?_) (λhb=>?_)
 ·simp_arith! [bR,Sm]
  (repeat' (first | split | simp_arith! [bR,Sm])) <;> exact HZ hR (by simp only [decide_eq_true_eq,SJ,eq_self,iff_true,iff_false];omega)
 ·obtain ⟨n,hn,ha,en⟩:=vC (xs:=gn) r10 (by omega)
  rw [if_pos hb] at q
  simp_all! [Sm,ha]
  exact ⟨by omega,q _ (.inr (.inr (.inr (.inl ⟨n,rfl,by rw [hgn];exact hn⟩)))) (by rw [en];rfl)⟩
 rw [if_neg hb] at q
 clear hb
 refine uP (r0=6) (λR hR=>?_) (λhb N=>?_) (λhb=>?_)
 ·simp_arith! [bR]
  exact HZ hR (by simp only [decide_eq_true_eq,SJ])
 ·simp_all! []
  rw [if_pos hb] at q
  exact q _ (.inr (.inr (.inl rfl))) rfl
 rw [if_neg hb] at q
 simp_all! []
 exact ⟨t,r4,r5,m,rfl,r40,r50,m0,m1,r41,st,λm' hm' em'=>q _ (.inr (.inr (.inr (.inr ⟨m',rfl,hm'⟩)))) (by rw [em'];rfl)⟩
theorem C5 (t m:Rat) (ks:List Ky) (h:(ks.map Ky.n).Nodup) (hl:ks.length≤12):(ed t ks m).length≤900:=by
 rw [← DM h]
 have h1:=nM t (eY t m) (ks.flatMap λa=>ks.map λb=>(a,b))
 have h2:(ks.flatMap λa=>ks.map λb=>(a,b)).length=ks.length * ks.length:=by
  rw [List.length_flatMap]
  have:(ks.map λa=>(ks.map λb=>(a,b)).length)=S9 ks.length ks.length:=by
   rw [List.eq_replicate_iff]
   refine ⟨by rw [Sm],λb hb=>?_⟩
   obtain ⟨_,_,rfl⟩:=Sn.mp hb
   rw [Sm]
  rw [this,List.sum_replicate_nat]
 have h3:ks.length * ks.length≤12 * 12:=Nat.mul_le_mul hl hl
 omega
theorem qw {m:Rat} (h0:0≤m) (hd:m.den≤60) (h1:m.num≤1000000 * (m.den:Int)):fS m.num m.den=true:=by
 refine decide_eq_true ⟨by omega,by have:=m.den_pos;omega,?_,Rat.num_nonneg.mpr h0,h1⟩
 have:=m.reduced
 unfold Int.gcd
 exact this
theorem t6 {c q:Rat} (h:Later c q) (hc:c.den≤60):q.den≤60:=by
 rcases h with rfl | ⟨u,s,u0,u1,s0,s1,rfl⟩
 ·exact hc
 ·have:=uN (t:=(c.num * (u:Int)).fdiv (c.den:Int) + (s:Int)) (b:=(u:Int)) (by omega)
  omega
theorem zm {q:Rat}:q.num≤1000000 * (q.den:Int)↔q≤1000000:=by
 rw [Rat.le_iff]
 have h3:(1000000:Rat).num=1000000:=rfl
 have h4:((1000000:Rat).den:Int)=1:=rfl
 rw [h3,h4]
 omega
theorem lP {t m:Rat} {ks:List Ky} {x:aF} (h:x∈ed t ks m):t < x.m∧x.m≤m:=by
 obtain ⟨a,ha,b,hb,h1,h2,h3,rfl⟩:=kC.mp h
 refine ⟨?_,h3⟩
 show t < dY t a b
 unfold dY
 have:0 < (b.p - a.p) / ((a.v - b.v:Int):Rat):=yd (by grind) (by exact_mod_cast (show (0:Int) < a.v - b.v by omega))
 grind
abbrev Ah:Stmt:=(top 60)
abbrev mV:List Str:=["_law_lane","_law_names_here","_law_cells","_law_mode"]
theorem gH:L2.av ["_law_lane","_law_names_here","_law_cells","_law_mode","_law_legs","_law_used","_law_clock","_law_cell_here","_law_row","_law_deed_here"] ["_law_lane","_law_names_here","_law_cells","_law_mode"] (L2.ai Ah):=dI
structure Wk (cN cL:Addr) (J0:Hq) (S0:Addr→Prop) (J:Hq) (p:Addr) (L:Ln) (D U:Addr) (gs:List (Str × aS)) (ep:Nat) (used:List Str) (k:Nat):Prop where
 b:aW cN cL J p L
 ok:bN L
 rl:Rl L gs
 hD:J D=some (.dct (bU gs) ep)
 hU:J U=some (.lst (used.map .str))
 nD:¬ L.own p D
 nU:¬ L.own p U
 mv:Mv J0 J S0 (λa=>L.own p a∨a=D∨a=U)
 td:L.t.den≤60
 tl:L.t≤((500 * k:Nat):Rat)
 wl:∀c∈L.cs,c.w.length≤1 + k
theorem Rl.go {L:Ln} {gs:List (Str × aS)} (h:Rl L gs) {m:Rat} (hm:L.t≤m) {o:Addr} {row:List Str}:Rl { L with t:=m,o:=o,row:=row } gs:=⟨h.nm,h.ln,h.ck,λx hx=>Rat.le_trans (h.le x hx) hm,h.ct⟩
theorem xy {c q:Rat} (h:Later c q) (c0:0≤c):q≤c + 500:=by
 rcases h with rfl | ⟨u,s,u0,u1,s0,s1,rfl⟩
 ·grind
 rw [Rat.divInt_eq_div]
 have hu:(0:Rat) < ((u:Int):Rat):=by exact_mod_cast (show (0:Int) < u by omega)
 have h1:((s:Int):Rat)≤500 * ((u:Int):Rat):=by exact_mod_cast (show (s:Int)≤500 * u by omega)
 have hd:(0:Rat) < ((c.den:Int):Rat):=by exact_mod_cast (show (0:Int) < c.den by have:=c.den_pos;omega)
 have h2:((((c.num * (u:Int)).fdiv (c.den:Int)):Int):Rat)≤c * ((u:Int):Rat):=by
  have e1:(c.num * (u:Int)).fdiv (c.den:Int) * (c.den:Int)≤c.num * u:=by
   rw [Int.fdiv_eq_ediv_of_nonneg _ (by omega)]
   exact Int.ediv_mul_le _ (by have:=c.den_pos;omega)
  have e2:((((c.num * (u:Int)).fdiv (c.den:Int)):Int):Rat) * ((c.den:Int):Rat)≤(c.num:Rat) * ((u:Int):Rat):=by
   rw [← Rat.intCast_mul,← Rat.intCast_mul];exact Rat.intCast_le_intCast.mpr e1
  have e3:(c.num:Rat)=c * ((c.den:Int):Rat):=cast_eq c
  rw [e3] at e2
  generalize ((((c.num * (u:Int)).fdiv (c.den:Int)):Int):Rat)=x at e2 ⊢
  generalize ((c.den:Int):Rat)=y at e2 hd
  generalize ((u:Int):Rat)=z at e2 ⊢
  by_cases k:c * z < x
  ·have:0 < (x - c * z) * y:=Rat.mul_pos (by grind) hd
   grind
  ·grind
 rw [Rat.intCast_add]
 generalize ((((c.num * (u:Int)).fdiv (c.den:Int)):Int):Rat)=a at h2 ⊢
 generalize ((s:Int):Rat)=x at h1 ⊢
 generalize ((u:Int):Rat)=y at h1 h2 hu ⊢
 have e:(a + x) / y * y=a + x:=by grind
 generalize (a + x) / y=z at e ⊢
 by_cases k:c + 500 < z
 ·have:0 < (z - (c + 500)) * y:=Rat.mul_pos (by grind) hu
  grind
 ·grind
section
variable {cN cL:Addr} {J0 J:Hq} {S0:Addr→Prop} {p:Addr} {L:Ln} {D U:Addr} {gs:List (Str × aS)} {ep:Nat} {used:List Str} {k:Nat}
theorem Wk.ne (h:Wk cN cL J0 S0 J p L D U gs ep used k):U≠D:=λe=>by have:=h.hU;rw [e,h.hD] at this;cases this
theorem Wk.kept (h:Wk cN cL J0 S0 J p L D U gs ep used k) {T:Addr} {o:HQ} (hT:J0 T=some o) (nT:¬ S0 T):J T=some o:=h.mv.keep _ _ hT nT
theorem Wk.next (h:Wk cN cL J0 S0 J p L D U gs ep used k) {J1:Hq} {L1:Ln} {gs1:List (Str × aS)} {k1:Nat} (b1:aW cN cL J1 p L1) (ok1:bN L1) (mv:Mv J J1 (L.own p) (L1.own p)) (rl1:Rl L1 gs1) (td:L1.t.den≤60) (tl:L1.t≤((500 * k1:Nat):Rat)) (wl:∀c∈L1.cs,c.w.length≤1 + k1) (ep':Nat):Wk cN cL J0 S0 (put J1 D (.dct (bU gs1) ep')) p L1 D U gs1 ep' used k1:=by
 have new:∀{x o},J x=some o→¬ L.own p x→¬ L1.own p x:=λhx nx z=>by
  rcases mv.own _ z with q | q
  ·exact nx q
  ·rw [hx] at q;cases q
 have nD1:=new h.hD h.nD
 have hD1:=mv.keep _ _ h.hD h.nD
 have hU1:=mv.keep _ _ h.hU h.nU
 have mv1:Mv J J1 (λa=>L.own p a∨a=D∨a=U) (λa=>L1.own p a∨a=D∨a=U) :=
  ⟨λa o e n=>mv.keep a o e λz=>n (.inl z),λa z=>z.elim (λz=>(mv.own a z).imp .inl id) (λz=>.inl (.inr z)),mv.mono⟩
 refine ⟨b1.keep λa u ow e=>?_,ok1,rl1,aq,?_,nD1,new h.hU h.nU,(h.mv.trans mv1).trans (fV (.inr (.inl rfl)) λa z=>.inl z),td,tl,wl⟩
 ·rw [ak (λz=>by subst z;exact nD1 ow)];exact e
 ·rw [ak h.ne];exact hU1
theorem Wk.push (h:Wk cN cL J0 S0 J p L D U gs ep used k) (n:Str):Wk cN cL J0 S0 (put J U (.lst ((used ++ [n]).map .str))) p L D U gs ep (used ++ [n]) k:=by
 refine ⟨h.b.keep λa u ow e=>?_,h.ok,h.rl,?_,aq,h.nD,h.nU,h.mv.trans (fV (.inr (.inr rfl)) λa z=>.inl z),h.td,h.tl,h.wl⟩
 ·rw [ak (λz=>by subst z;exact h.nU ow)];exact e
 ·rw [ak (λe=>h.ne e.symm)];exact h.hD
theorem Wk.up (h:Wk cN cL J0 S0 J p L D U gs ep used k):Sz 900 L.t∧(gs.map (·.1)).Nodup∧gs.length≤12∧∀x∈gs,tL 900 x.2 :=
 ⟨h.ok.Mg,h.rl.nd h.ok.toa9,by rw [h.rl.len];exact h.ok.Kv,λx hx=>(h.rl.sz x hx).mono (by decide)⟩
end
theorem lN {q:Rat} {k:Nat} (hk:k≤2000) (h:q≤((500 * k:Nat):Rat)):q≤1000000:=by
 refine Rat.le_trans h ?_
 have:((500 * k:Nat):Rat)≤((1000000:Nat):Rat):=by exact_mod_cast (show 500 * k≤1000000 by omega)
 exact this
theorem wD {a b:Rat} {k:Nat} (h:b≤a + 500) (ha:a≤((500 * k:Nat):Rat)):b≤((500 * (k + 1):Nat):Rat):=by
 have e:((500 * (k + 1):Nat):Rat)=((500 * k:Nat):Rat) + 500:=by
  rw [show 500 * (k + 1)=500 * k + 500 by omega];exact Rat.natCast_add _ _
 rw [e];grind
theorem Iq {a:Rat} {k:Nat} (ha:a≤((500 * k:Nat):Rat)):a≤((500 * (k + 1):Nat):Rat):=wD (a:=a) (by grind) ha
abbrev Face:=Str × List aS × Option Rat
structure sJ where
 t:Rat
 fc:List Face
 gs:List (Str × aS)
 us:List Str
def d9 (L:Ln) (gs:List (Str × aS)) (us:List Str):sJ:=⟨L.t,L.cs.map Cf.face,gs,us⟩
def oQ (dv:PV) (s:sJ):sJ :=
 match dv with
 | .tup [.str _,.str n,.int x,.int v]=>⟨s.t,s.fc ++ [(n,[⟨s.t,(x:Rat),v⟩],none)],s.gs ++ [(n,⟨s.t,(x:Rat),v⟩)],s.us ++ [n]⟩
 | .tup [.str _,.str n,.int v]=>⟨s.t,s.fc.map λf=>if f.1=n then (f.1,turned f.2.1 s.t v,f.2.2) else f,o7 n s.t v s.gs,s.us⟩
 | .tup [.str _]=>⟨s.t,s.fc.map λf=>if f.2.2.isNone=true then (f.1,turned f.2.1 s.t (-(f.2.1.getLast?.getD ⟨0,0,0⟩).v),f.2.2) else f,gL s.t s.gs,s.us⟩
 | .tup [.str _,.str n]=>⟨s.t,s.fc.map λf=>if f.1=n then (f.1,f.2.1,some s.t) else f,jC n s.gs,s.us⟩
 | .tup [.str _,.tup [.int a,.int b]]=>⟨Rat.divInt a b,s.fc,s.gs,s.us⟩
 | _=>s
section
variable {L L1:Ln} {gs:List (Str × aS)} {us:List Str} {n:Str} {v:Int}
theorem Hj {x:Int} (j:L.joined n x v L1):d9 L1 (gs ++ [(n,⟨L.t,(x:Rat),v⟩)]) (us ++ [n])=oQ (e9 n x v) (d9 L gs us):=by
 obtain ⟨a,r,ecs,et⟩:=j
 show sJ.mk _ _ _ _=sJ.mk _ _ _ _
 rw [et,ecs,Sw];rfl
theorem nY {f:Cf→Cf} {F:Face→Face} (h:∀c,(f c).face=F c.face) (cs:List Cf):(cs.map f).map Cf.face=(cs.map Cf.face).map F:=by
 rw [Sy,Sy];exact SR λc _=>h c
theorem Hk (e:L1.cs=L.cs.map (cE n L.t v)) (t1:L1.t=L.t):d9 L1 (o7 n L.t v gs) us=oQ (gI n v) (d9 L gs us):=by
 show sJ.mk _ _ _ _=sJ.mk _ _ _ _
 rw [t1,e,nY (F:=λf=>if f.1=n then (f.1,turned f.2.1 L.t v,f.2.2) else f) (λc=>by unfold cE Cf.face;by_cases h:c.n=n <;> simp [h,Cf.turn])];rfl
theorem EJ (e:L1.cs=L.cs.map (cY L.t)) (t1:L1.t=L.t):d9 L1 (gL L.t gs) us=oQ fP (d9 L gs us):=by
 show sJ.mk _ _ _ _=sJ.mk _ _ _ _
 rw [t1,e,nY (F:=λf=>if f.2.2.isNone=true then (f.1,turned f.2.1 L.t (-(f.2.1.getLast?.getD ⟨0,0,0⟩).v),f.2.2) else f) (λc=>by unfold cY Cf.face;by_cases h:c.g.isNone=true <;> simp [h,Cf.turn,Cf.cur])];rfl
theorem EK (e:L1.cs=L.cs.map (bD n L.t)) (t1:L1.t=L.t):d9 L1 (jC n gs) us=oQ (fg n) (d9 L gs us):=by
 show sJ.mk _ _ _ _=sJ.mk _ _ _ _
 rw [t1,e,nY (F:=λf=>if f.1=n then (f.1,f.2.1,some L.t) else f) (λc=>by unfold bD Cf.face;by_cases h:c.n=n <;> simp [h])];rfl
theorem NG {m:Rat} {o:Addr} {row:List Str}:d9 { L with t:=m,o:=o,row:=row } gs us=oQ (Ge m) (d9 L gs us):=by
 show sJ.mk m _ _ _=sJ.mk (Rat.divInt m.num m.den) _ _ _
 rw [Rat.num_divInt_den];rfl
end
def ye (m:Int) (names:List Str):List Int→sJ→sJ
 | [],s=>s
 | c :: cs,s=>ye m names cs (match xj c [10,97,2000001,2001,400000,60] with
  | [r0,r1,r2,r3,r4,r5]=>oQ (AQ r0 r1 r2 r3 r4 r5 m names s.us (s.gs.map (·.1)) s.t) s
  | _=>s)
theorem uh (m:Int) (names:List Str) (c:Int):∀(cs:List Int) (s:sJ),ye m names (cs ++ [c]) s=ye m names [c] (ye m names cs s)
 | [],_=>rfl
 | x :: cs,s=>uh m names c cs _
theorem FA {m c r0 r1 r2 r3 r4 r5:Int} {names:List Str} {s:sJ} (h:[r0,r1,r2,r3,r4,r5]=xj c [10,97,2000001,2001,400000,60]):ye m names [c] s=oQ (AQ r0 r1 r2 r3 r4 r5 m names s.us (s.gs.map (·.1)) s.t) s:=by
 simp only [ye]
 rw [← h]
theorem GX {n:Str} (hg:good n=true):n.length≤sizeLine:=by
 have h8:n.cps.size≤8:=by
  unfold good at hg
  rw [SX,SX] at hg
  exact of_decide_eq_true hg.1.2
 exact SM h8 (by decide)
theorem uw {cN cL T p D U:Addr} {J0 J:Hq} {S0:Addr→Prop} {L:Ln} {gs:List (Str × aS)} {ep:Nat} {used names:List Str} {i:Nat} {dv:PV} {E2:Addr→Hq→Prop} {Dn:En} {τ:Sr} {iL iU iD iC iV:Nat}
  (hL:τ[iL]?=some (some (.ref p))) (hU:τ[iU]?=some (some (.ref U))) (hDt:τ[iD]?=some (some (.ref D))) (hC:τ[iC]?=some (some (fr L.t))) (hV:τ[iV]?=some (some dv))
  (wk:Wk cN cL J0 S0 J p L D U gs ep used i) (hun:L.cs.map Cf.n=used) (hus:∀n∈used,n∈names) (hul:used.length≤i) (hi:i < 90) (hng:∀n∈names,good n=true) (hT:J0 T=some .tab) (nT:¬ S0 T) (hdv:DA names used gs L.t dv)
  (fin:∀J1 L1 gs1 ep1 used1 t1,L1.t=t1→Wk cN cL J0 S0 J1 p L1 D U gs1 ep1 used1 (i + 1)→L1.cs.map Cf.n=used1→(∀n∈used1,n∈names)→used1.length≤i + 1→d9 L1 gs1 used1=oQ dv (d9 L gs used)→Dn.nx (τ.set iC (some (fr t1))) J1) :
  Fu (zW (rB (zY (Js id) (zY LC (oi iV) (rC (.int 0))) (rC (.str "join")))) (BC (Qw "list" vO (oi iU) (oV (zY LC (oi iV) (rC (.int 1))) yc))) qZ)
   (bR (BC (BB (wy cN cL T) E2 (oV (oi iL) (oV (oi iV) yc)))) (vQ (BB pS E2 (oV (oi iD) (oV (oi iC) (oV (oi iV) yc)))) (IS iC))) Dn τ J:=by
 obtain ⟨st,gnd,gl,gsz⟩:=wk.up
 have hT':∀{J1:Hq} {L1 gs1 ep1 us k1},Wk cN cL J0 S0 J1 p L1 D U gs1 ep1 us k1→J1 T=some .tab:=λwk'=>wk'.kept hT nT
 have hw200:∀c∈L.cs,c.w.length < 200:=λc hc=>by have:=wk.wl c hc;omega
 have tl1:L.t≤((500 * (i + 1):Nat):Rat):=Iq wk.tl
 have hfl:L.fs.length=gs.length:=wk.rl.len.symm
 have hrow:∀n,n∈gs.map (·.1)→n∈L.row:=λn hn=>(wk.ok.rm n).mpr (by rw [← wk.rl.nm];exact hn)
 rcases hdv with ⟨n,x,v,rfl,hn,hnu,hgl,hx,hv⟩ | ⟨n,v,rfl,hn,hv⟩ | rfl | ⟨n,rfl,hn⟩ | ⟨m',rfl,hm'⟩
 ·have i0:∀J,fJ J (e9 n x v) (.int 0)=some (.str "join"):=λJ=>dq _ _
  have i1:∀J,fJ J (e9 n x v) (.int 1)=some (.str n):=λJ=>fQ _ _ _
  refine fw (λτ' J2=>τ'=τ∧J2=put J U (.lst ((used ++ [n]).map .str))) (uQ hV (i0 _)) ?_ ?_
  ·simp_all! [hU,hV,i1,wk.hU,Sm]
   exact ⟨SK (show used.length < 100 by omega) (by decide),by rw [Sw];rfl⟩
  rintro τ' J2 ⟨rfl,rfl⟩
  have wk2:=wk.push n
  generalize put J U (.lst ((used ++ [n]).map .str))=J2 at wk2 ⊢
  have hnc:n ∉ L.cs.map Cf.n:=by rw [hun];exact hnu
  have hcl':L.cs.length < 100:=by have:=congrArg Tt hun;rw [Sm] at this;omega
  have hnf:n ∉ L.fs.map (·.1):=λz=>hnc (by
   rw [eZ,Sn] at z
   obtain ⟨c',hc',e'⟩:=z
   exact Sn.mpr ⟨c',(Ln.dD.mp hc').1,e'⟩)
  simp_all! [hL,hDt,hC,hV]
  refine ⟨p,L,_,rfl,wk2.b,wk2.ok,.inl ⟨n,x,v,rfl,hT' wk2,hng n hn,⟨hx,hv⟩,hnc,by rw [wk.ok.row,xZ];omega,hcl',GX (hng n hn),λJ3 L3 b3 ok3 jn mv3=>?_⟩⟩
  have rl3:=wk2.rl.join ok3.toa9 hv hx jn wk.ok.t0 wk.ok.ts hnf
  have nxj:=Hj (gs:=gs) (us:=used) jn
  obtain ⟨a,r,ecs,et⟩:=jn
  simp_all! [hL,hDt,hC,hV]
  refine ⟨D,gs,ep,L.t,_,rfl,mv3.keep _ _ wk2.hD wk2.nD,gnd,by omega,st,gsz,.inl ⟨n,x,v,rfl,by rw [wk.rl.nm];exact hnf,λep'=>?_⟩⟩
  refine fin _ L3 _ ep' (used ++ [n]) _ et (wk2.next b3 ok3 mv3 rl3 (by rw [et];exact wk.td) (by rw [et];exact tl1) (λc hc=>?_) ep') ?_ (λy hy=>?_) (by rw [SQ];show used.length + 1≤_;omega) nxj
  ·rw [ecs] at hc
   rcases SD.mp hc with hc | hc
   ·have:=wk.wl c hc;omega
   ·rw [SG] at hc;subst hc;show 1≤_;omega
  ·rw [ecs,Sw,hun];rfl
  ·rcases SD.mp hy with hy | hy
   ·exact hus y hy
   ·rw [SG] at hy;subst hy;exact hn
 ·have i0:∀J,fJ J (gI n v) (.int 0)=some (.str "turn"):=λJ=>dq _ _
  refine cV hV (i0 _) (by decide +kernel) ?_
  simp_all! [hL,hDt,hC,hV]
  refine ⟨p,L,_,rfl,wk.b,wk.ok,.inr (.inl ⟨n,v,rfl,hrow n hn,hv,hw200,λJ3 L3 b3 ok3 e t1 mv3=>?_⟩)⟩
  simp_all! [hL,hDt,hC,hV]
  refine ⟨D,gs,ep,L.t,_,rfl,mv3.keep _ _ wk.hD wk.nD,gnd,by omega,st,gsz,.inr (.inl ⟨n,v,rfl,hn,λep'=>?_⟩)⟩
  refine fin _ L3 _ ep' used _ t1 (wk.next b3 ok3 mv3 (wk.rl.turn wk.ok.toa9 hv e t1) (by rw [t1];exact wk.td) (by rw [t1];exact tl1) (λc hc=>?_) ep') (by rw [e,dX (λc=>(nt n L.t v c).1)];exact hun) hus (by omega) (Hk e t1)
  rw [e] at hc
  obtain ⟨c0,h0,rfl⟩:=Sn.mp hc
  have h1:=wk.wl c0 h0
  unfold cE
  split
  ·have:=l8 c0.w L.t v
   show (turned c0.w L.t v).length≤_
   omega
  ·omega
 ·have i0:∀J,fJ J fP (.int 0)=some (.str "about"):=λJ=>dq _ _
  refine cV hV (i0 _) (by decide +kernel) ?_
  simp_all! [hL,hDt,hC,hV]
  refine ⟨p,L,_,rfl,wk.b,wk.ok,.inr (.inr (.inl ⟨rfl,hw200,λJ3 L3 b3 ok3 e t1 mv3=>?_⟩))⟩
  simp_all! [hL,hDt,hC,hV]
  refine ⟨D,gs,ep,L.t,_,rfl,mv3.keep _ _ wk.hD wk.nD,gnd,by omega,st,gsz,.inr (.inr (.inl ⟨rfl,λep'=>?_⟩))⟩
  refine fin _ L3 _ ep' used _ t1 (wk.next b3 ok3 mv3 (wk.rl.about wk.ok.toa9 e t1) (by rw [t1];exact wk.td) (by rw [t1];exact tl1) (λc hc=>?_) ep') (by rw [e,dX (λc=>(w8 L.t c).1)];exact hun) hus (by omega) (EJ e t1)
  rw [e] at hc
  obtain ⟨c0,h0,rfl⟩:=Sn.mp hc
  have h1:=wk.wl c0 h0
  unfold cY
  split
  ·have:=l8 c0.w L.t (-c0.cur.v)
   show (turned c0.w L.t (-c0.cur.v)).length≤_
   omega
  ·omega
 ·have i0:∀J,fJ J (fg n) (.int 0)=some (.str "leave"):=λJ=>dq _ _
  refine cV hV (i0 _) (by decide +kernel) ?_
  simp_all! [hL,hDt,hC,hV]
  refine ⟨p,L,_,rfl,wk.b,wk.ok,.inr (.inr (.inr (.inl ⟨n,rfl,hrow n hn,λJ3 L3 b3 ok3 e t1 mv3=>?_⟩)))⟩
  simp_all! [hL,hDt,hC,hV]
  refine ⟨D,gs,ep,L.t,_,rfl,mv3.keep _ _ wk.hD wk.nD,gnd,by omega,st,gsz,.inr (.inr (.inr (.inl ⟨n,rfl,hn,λep'=>?_⟩)))⟩
  refine fin _ L3 _ ep' used _ t1 (wk.next b3 ok3 mv3 (wk.rl.leave e t1) (by rw [t1];exact wk.td) (by rw [t1];exact tl1) (λc hc=>?_) ep') (by rw [e,dX (λc=>(e_ n L.t c).1)];exact hun) hus (by omega) (EK e t1)
  rw [e] at hc
  obtain ⟨c0,h0,rfl⟩:=Sn.mp hc
  have h1:=wk.wl c0 h0
  rw [(e_ n L.t c0).2.2.2];omega
 ·have i0:∀J,fJ J (Ge m') (.int 0)=some (.str "go"):=λJ=>dq _ _
  refine cV hV (i0 _) (by decide +kernel) ?_
  have tl3:=wD (xy hm' wk.ok.t0) wk.tl
  have td3:=t6 hm' wk.td
  have hg:fS m'.num m'.den=true:=qw (Rat.le_trans wk.ok.t0 (hm'.le)) td3 (zm.mpr (lN (by omega) tl3))
  simp_all! [hL,hDt,hC,hV]
  refine ⟨p,L,_,rfl,wk.b,wk.ok,.inr (.inr (.inr (.inr ⟨m',rfl,hg,hm'.le,λJ3 o3 b3 ok3 mv3=>?_⟩)))⟩
  simp_all! [hL,hDt,hC,hV]
  have hD3:=mv3.keep _ _ wk.hD wk.nD
  refine ⟨D,gs,ep,L.t,_,rfl,hD3,gnd,by omega,st,gsz,.inr (.inr (.inr (.inr ⟨m',rfl,?_⟩)))⟩
  have w3:=wk.next b3 ok3 mv3 (wk.rl.go hm'.le) td3 tl3 (λc hc=>by have:=wk.wl c hc;omega) ep
  rw [zV hD3] at w3
  exact fin _ _ _ ep used _ rfl w3 hun hus (by omega) NG
def FQ (cN cL T:Addr):cx:=λxs J Q _=>∃(p:Addr) (L0:Ln) (names:List Str) (cells:List Int) (m:Int),xs=[.ref p,.fl (names.map .str),.fl (cells.map .int),.int m]∧aW cN cL J p L0∧bN L0∧L0.cs=[]∧L0.t=0∧J T=some .tab∧names.length≤40∧(∀n∈names,good n=true)∧cells.length≤40∧0≤m∧m < 4 ∧
 ∀J' L D U gs ep used,Wk cN cL J (L0.own p) J' p L D U gs ep used cells.length→L.cs.map Cf.n=used→(∀n∈used,n∈names)→used.length≤cells.length→Q (.tup [.ref D,fr L.t,.ref U]) J'
theorem EV {cN cL T f:Addr} {fd:FuncData} (F:b7 K "_law_walk" "_law_walk" Ah f fd) (Z:bL mg) (cM:bz P w K mg base 1 "_law_digits" bX wx) (yK:bz P w K mg base 3 "_law_deed" iR Am) (yL:bz P w K mg base 9 "_law_done" iS (wy cN cL T)) (ux:bz P w K mg base 3 "_law_acted" gU pS):aH P w K mg base (cQ P w) 10 f fd mV (dk K (FQ cN cL T)):=by
 simp_arith [gH,(aj (aK (i:=4) gH.nd BG)
   (aj (aK (i:=5) gH.nd (q9 ag))
   (aj (aK (i:=6) gH.nd (cA (af ah (af ah ag))))
   (aj (fq cG rfl (eS (rv 2)) (bB (i:=7) gH.nd) (aj (aK (i:=8) gH.nd (aR cM B hr (af (rv 7) (af (oX (zZ [.int 10,.int 97,.int 2000001,.int 2001,.int 400000,.int 60] rfl [.int 10,.int 97,.int 2000001,.int 2001,.int 400000,.int 60] rfl)) ag))))
   (aj (aK (i:=9) gH.nd (aR yK B hr (af (rv 8) (af (rv 3) (af (rv 1) (af (rv 5) (af (rv 4) (af (rv 6) ag))))))))
   (dF (a8 (aI (cP hr.aY) (aw ax (rv 9) ah) bJ) (ar (a_ (oW PySem.F.plainAttrs_list PySem.F.slot_list_append PySem.F.type_list_append kA (rv 5) (af (aw ax (rv 9) ah) ag)))) aO)
   (aj (a_ (aR yL B hr (af (rv 0) (af (rv 9) ag))))
   (ar (aK (i:=6) gH.nd (aR ux B hr (af (rv 4) (af (rv 6) (af (rv 9) ag)))))))))))
   (ar (aB (cA (af (rv 4) (af (rv 6) (af (rv 5) ag))))))))))]
 ·obtain ⟨p,L0,names,cells,m,rfl,_⟩:=h;rfl
 obtain ⟨p,L0,names,cells,m,rfl,b,ok,cs0,t0,hT,hnl,hng,hcl,m0,m1,q⟩:=h
 refine hX ?_
 simp_all! []
 intro D hD ep
 simp_all! []
 intro U hU
 have nDU:D≠U:=λe=>by subst e;rw [aq] at hU;cases hU
 have hU0:J U=none:=by rw [ak (λe=>nDU e.symm)] at hU;exact hU
 have w0:Wk cN cL J (L0.own p) (put (put J D (.dct [] ep)) U (.lst [])) p L0 D U [] ep [] 0:=by
  refine ⟨(b.fresh hD).fresh hU,ok,⟨by unfold Ln.fs Ln.Br;rw [cs0];rfl,(by simp),(by simp),(by simp),(by rw [cs0];simp)⟩,by rw [ak nDU];exact aq,aq,λz=>b.some z hD,λz=>b.some z hU0,?_,by rw [t0];decide,by rw [t0];decide,by rw [cs0];simp⟩
  have hh:=(Mv.sS (S:=L0.own p) (o:=.dct [] ep) hD).trans (Mv.sS (o:=.lst []) hU)
  exact ⟨hh.keep,λa z=>hh.own a (z.elim (λz=>.inl (.inl z)) λz=>z.elim (λz=>.inl (.inr z)) .inr),hh.mono⟩
 generalize put (put J D (.dct [] ep)) U (.lst [])=J1 at w0 ⊢
 clear hU hU0
 simp_all! []
 obtain ⟨Inv,hInv⟩:∃Inv:Nat→Sr→Hq→Prop,∀i τ J',Inv i τ J'↔∃(L:Ln) (gs:List (Str × aS)) (ep:Nat) (used:List Str) (u7 u8 u9:Option PV),τ=[some (.ref p),some (.fl (names.map .str)),some (.fl (cells.map .int)),some (.int m),some (.ref D),some (.ref U),some (fr L.t),u7,u8,u9]∧Wk cN cL J (L0.own p) J' p L D U gs ep used i∧L.cs.map Cf.n=used∧(∀n∈used,n∈names)∧used.length≤i:=⟨_,λ_ _ _=>Iff.rfl⟩
 refine gM Inv ((hInv _ _ _).mpr ⟨L0,[],ep,[],_,_,_,by rw [t0];rfl,w0,by rw [cs0];rfl,(by simp),Ss _⟩) (λ_ _ _ _=>trivial) ?_ ?_
 ·intro i x τ J' hx hv
  obtain ⟨L,gs,ep,used,u7,u8,u9,rfl,wk,hun,hus,hul⟩:=(hInv _ _ _).mp hv
  clear hv
  have hi:i < cells.length:=by have:=(Sq.mp hx).1;simpa using this
  rw [SA,So hi] at hx
  cases hx
  generalize cells[i]=c
  simp_all! []
  refine ⟨c,[10,97,2000001,2001,400000,60],rfl,iz (by decide),by decide,λds hG _=>?_⟩
  obtain ⟨r0,ds,rfl,_,_,hG⟩:=hG.cons
  obtain ⟨r1,ds,rfl,r10,_,hG⟩:=hG.cons
  obtain ⟨r2,ds,rfl,r20,_,hG⟩:=hG.cons
  obtain ⟨r3,ds,rfl,r30,r31,hG⟩:=hG.cons
  obtain ⟨r4,ds,rfl,r40,r41,hG⟩:=hG.cons
  obtain ⟨r5,ds,rfl,r50,_,hG⟩:=hG.cons
  cases hG.nil
  obtain ⟨st,gnd,gl,gsz⟩:=wk.up
  simp_all! []
  refine ⟨r0,r1,r2,r3,r4,r5,m,names,used,U,D,gs,ep,L.t,rfl,wk.hU,wk.hD,hnl,by omega,r10,r20,r30,r31,r40,by omega,r50,m0,m1,st,λdv hdv _=>?_⟩
  refine hNq _ _ ?_
  clear hNq Nq
  refine uw (iL:=0) (iU:=5) (iD:=4) (iC:=6) (iV:=9) rfl rfl rfl rfl rfl wk hun hus hul (by omega) hng hT (b.zB hT) hdv λJ1 L1 gs1 ep1 used1 t1 e1 wk1 h1 h2 h3 _=>?_
  subst e1
  exact (hInv _ _ _).mpr ⟨L1,gs1,ep1,used1,_,_,_,rfl,wk1,h1,h2,h3⟩
 ·intro τ J' hv
  obtain ⟨L,gs,ep,used,u7,u8,u9,rfl,wk,hun,hus,hul⟩:=(hInv _ _ _).mp hv
  simp_all! []
  rw [Sm] at wk hul
  exact q J' L D U gs ep used wk hun hus hul
def oK (ns:List Int) (k:Int):Int:=if k < (ns.length:Int) then ns.getD k.toNat 0 else 5 + 17 * k
def BM:cx:=λxs J Q _=>∃(ns:List Int) (k:Int),xs=[.fl (ns.map .int),.int k]∧0≤k∧k < 1000∧Q (.int (oK ns k)) J
theorem EO {f:Addr} {fd:FuncData} (F:b7 K "_law_cell" "_law_cell" Ab f fd) (Z:bL mg):aH P w K mg base (cQ P w) 1 f fd mT (dk K BM):=by
 simp_arith [Ie,(aj (a8 (aI kU (rv 1) (aQ cb rfl Z.len boot_len (af (rv 0) ag))) (ar (aB (aw ax (rv 0) (rv 1)))) aO)
   (ar (aB (aZ d3 ah (aZ eI ah (rv 1))))))]
 ·obtain ⟨ns,k,rfl,_⟩:=h;rfl
 obtain ⟨ns,k,rfl,h0,h1,q⟩:=h
 unfold oK at q
 refine hX ?_
 simp_arith! [bR,Sm]
 split
 ·rename_i c
  rw [if_pos c] at q
  obtain ⟨j,rfl⟩:=Int.eq_ofNat_of_zero_le h0
  have hj:j < ns.length:=by omega
  refine fj (x:=.int ns[j]) (bx (by rw [SA,So hj];rfl)) ?_
  simpa [Vw,hj] using q
 ·rename_i c
  rw [if_neg c] at q
  exact ⟨.of (.small (x:=17) (by decide) (by decide)) (.small (x:=k) (by omega) (by omega)),q⟩
def My:PV→Int
 | .int i=>i
 | _=>0
theorem DV (ss:List Str):lG (ss.map .str) none (some (-1))=(ss.dropLast).map PV.str:=by
 unfold lG
 rw [HT.yh,T_,Nat.sub_zero,List.map_dropLast,T']
 have e:HT.dN (ss.map PV.str).length (ss.map PV.str).length (some (-1))=(ss.map PV.str).length - 1:=by
  show (if (-1:Int) < 0 then (-1 + ((ss.map PV.str).length:Int)).toNat else min (-1:Int).toNat (ss.map PV.str).length)=_
  rw [if_pos (by decide)];omega
 rw [e]
abbrev g6:Stmt:=(L2.inClass (top 42) 21)
abbrev jT:List Str:=["self","name"]
theorem rq:L2.av ["self","name"] ["self","name"] (L2.ai g6):=dI
def yA (cN cL eC:Addr):cx:=λxs J Q E=>∃p L n,xs=[.ref p,.str n]∧aW cN cL J p L∧a9 L∧(∀c∈L.cs,c.n=n→Q (.ref c.a) J)∧(n ∉ L.cs.map Cf.n→E eC J)
theorem qJ {cN cL eC f:Addr} {fd:FuncData} (F:b7 K "log_of" "Lane.log_of" g6 f fd) (Z:bL mg) (au:dj K mg "Lane" cN) (aA:aD K cN "logs") (dP:Own K mg "NoCraft" eC):aH P w K mg base (cQ P w) 1 f fd jT (dk K (yA cN cL eC)):=by
 simp_arith [rq,(aj (a8 (aI Hz (rv 1) (aP au.cl aA (rv 0))) (ar (dz dP rfl cu B.kn rfl (af bJ ag))) aO)
   (ar (aB (aw fT (aP au.cl aA (rv 0)) (rv 1)))))]
 ·obtain ⟨p,L,n,rfl,_⟩:=h;rfl
 obtain ⟨p,L,n,rfl,b,ok,q,qe⟩:=h
 have bo:=b.ob
 have bd:=b.dc
 refine hX ?_
 simp_all! [bo,sR,bd,ok.R0]
 by_cases c:n∈L.cs.map Cf.n
 ·rw [if_pos (by simpa using c)]
  obtain ⟨c0,hc,rfl⟩:=Sn.mp c
  simp_all! [bo,sR,bd,ok.va hc]
  exact q c0 hc rfl
 ·rw [if_neg (by simpa using c)]
  simp_all! [fo]
  exact qe c
abbrev f':Stmt:=(L2.inClass (top 42) 16)
abbrev jh:List Str:=["self","name"]
theorem pA:L2.av ["self","name"] ["self","name"] (L2.ai f'):=dI
def BV (cN cL eC:Addr):cx:=λxs J Q E=>∃p L n,xs=[.ref p,.str n]∧aW cN cL J p L∧a9 L∧(∀c∈L.cs,c.n=n→Q (.fl (c.w.map aS.V)) J∨∀l,J l=none→Q (.ref l) (put J l (.lst (c.w.map aS.V))))∧(n ∉ L.cs.map Cf.n→E eC J)
theorem pj {cN cL eC f:Addr} {fd:FuncData} (F:b7 K "history" "Lane.history" f' f fd) (Z:bL mg) (au:dj K mg "Lane" cN) (gP:cn P w K mg base cN 1 "log_of" jT (yA cN cL eC)) (lL:cn P w K mg base cL 1 "legs" oS (BQ cL)):aH P w K mg base (cQ P w) 2 f fd jh (dk K (BV cN cL eC)):=by
 simp_arith [pA,(ar (aB (bP (pl:=_) lL B hr (bp (pl:=_) gP B hr (rv 0) (af (rv 1) ag)))))]
 ·obtain ⟨p,L,n,rfl,_⟩:=h;rfl
 obtain ⟨p,L,n,rfl,b,ok,q,qe⟩:=h
 have bo:=b.ob
 refine hX ?_
 simp_all! [bo]
 refine ⟨dJ _ _ _ _,p,L,n,rfl,b,ok,λc hc e=>?_,qe⟩
 have lo:=(b.lg c hc).o
 simp_all! [lo]
 exact ⟨P_ _ _,c.a,c.r,c.w,c.g,rfl,b.lg c hc,q c hc e⟩
abbrev Ae:Stmt:=(top 61)
abbrev mU:List Str:=["_law_lane","_law_state","_law_names_here","_law_cells","_law_mode"]
theorem gF:L2.av ["_law_lane","_law_state","_law_names_here","_law_cells","_law_mode","_law_legs","_law_clock","_law_used","_law_cell_here","_law_row","_law_deed_here"] ["_law_lane","_law_state","_law_names_here","_law_cells","_law_mode"] (L2.ai Ae):=dI
theorem G8 {J:Hq} {D:Addr} {o:HQ} {x:PV} {ys:List PV} (h:jG J x=some ys) (hD:J D=none):jG (put J D o) x=some ys:=by
 rcases il h with rfl | ⟨a,rfl,ha⟩
 ·rfl
 ·rw [zt,ak (λz=>by subst z;rw [hD] at ha;cases ha),ha]
def FO (cN cL T:Addr):cx:=λxs J Q _=>∃(p:Addr) (L0:Ln) (D0:Addr) (xU:PV) (gs0:List (Str × aS)) (ep0:Nat) (used0 names:List Str) (cells:List Int) (m:Int) (k0:Nat),xs=[.ref p,.tup [.ref D0,fr L0.t,xU],.fl (names.map .str),.fl (cells.map .int),.int m]∧aW cN cL J p L0∧bN L0∧Rl L0 gs0∧J D0=some (.dct (bU gs0) ep0)∧jG J xU=some (used0.map .str) ∧
 L0.cs.map Cf.n=used0∧(∀n∈used0,n∈names)∧used0.length≤k0∧L0.t.den≤60∧L0.t≤((500 * k0:Nat):Rat)∧(∀c∈L0.cs,c.w.length≤1 + k0)∧J T=some .tab∧names.length≤40∧(∀n∈names,good n=true)∧k0 + cells.length≤80∧0≤m∧m < 4 ∧
 ∀J' L D U gs ep used,Wk cN cL J (L0.own p) J' p L D U gs ep used (k0 + cells.length)→L.cs.map Cf.n=used→(∀n∈used,n∈names)→used.length≤k0 + cells.length→d9 L gs used=ye m names cells (d9 L0 gs0 used0)→Q (.tup [.ref D,fr L.t,.ref U]) J'
theorem ET {cN cL T f:Addr} {fd:FuncData} (F:b7 K "_law_more" "_law_more" Ae f fd) (Z:bL mg) (cM:bz P w K mg base 1 "_law_digits" bX wx) (yK:bz P w K mg base 3 "_law_deed" iR Am) (yL:bz P w K mg base 9 "_law_done" iS (wy cN cL T)) (ux:bz P w K mg base 3 "_law_acted" gU pS):aH P w K mg base (cQ P w) 10 f fd mU (dk K (FO cN cL T)):=by
 simp_arith [gF,(aj (aK (i:=5) gF.nd (de DT rfl Z.dict boot_dict (af (aw ax (rv 1) ah) ag)))
   (aj (aK (i:=6) gF.nd (aw ax (rv 1) ah))
   (aj (aK (i:=7) gF.nd (de ig rfl Z.list boot_list (af (aw ax (rv 1) ah) ag)))
   (aj (fq cG rfl (eS (rv 3)) (bB (i:=8) gF.nd) (aj (aK (i:=9) gF.nd (aR cM B hr (af (rv 8) (af (oX (zZ [.int 10,.int 97,.int 2000001,.int 2001,.int 400000,.int 60] rfl [.int 10,.int 97,.int 2000001,.int 2001,.int 400000,.int 60] rfl)) ag))))
   (aj (aK (i:=10) gF.nd (aR yK B hr (af (rv 9) (af (rv 4) (af (rv 2) (af (rv 7) (af (rv 5) (af (rv 6) ag))))))))
   (dF (a8 (aI (cP hr.aY) (aw ax (rv 10) ah) bJ) (ar (a_ (oW PySem.F.plainAttrs_list PySem.F.slot_list_append PySem.F.type_list_append kA (rv 7) (af (aw ax (rv 10) ah) ag)))) aO)
   (aj (a_ (aR yL B hr (af (rv 0) (af (rv 10) ag))))
   (ar (aK (i:=6) gF.nd (aR ux B hr (af (rv 5) (af (rv 6) (af (rv 10) ag)))))))))))
   (ar (aB (cA (af (rv 5) (af (rv 6) (af (rv 7) ag))))))))))]
 ·obtain ⟨p,L0,D0,xU,gs0,ep0,used0,names,cells,m,k0,rfl,_⟩:=h;rfl
 obtain ⟨p,L0,D0,xU,gs0,ep0,used0,names,cells,m,k0,rfl,b,ok,rl0,hD0,hU0,hun0,hus0,hul0,td0,tl0,wl0,hT,hnl,hng,hcl,m0,m1,q⟩:=h
 refine hX ?_
 simp_all! [Fp,hD0]
 intro D hD ep
 refine hNq _ _ ?_
 clear hNq Nq
 simp_all! []
 have hU1:=G8 (o:=.dct (bU gs0) ep) hU0 hD
 simp only [hU1]
 refine fj rfl λU hU=>?_
 have nDU:D≠U:=λe=>by subst e;rw [aq] at hU;cases hU
 have hUn:J U=none:=by rw [ak (λe=>nDU e.symm)] at hU;exact hU
 have w0:Wk cN cL J (L0.own p) (put (put J D (.dct (bU gs0) ep)) U (.lst (used0.map .str))) p L0 D U gs0 ep used0 k0:=by
  refine ⟨(b.fresh hD).fresh hU,ok,rl0,by rw [ak nDU];exact aq,aq,λz=>b.some z hD,λz=>b.some z hUn,?_,td0,tl0,wl0⟩
  have hh:=(Mv.sS (S:=L0.own p) (o:=.dct (bU gs0) ep) hD).trans (Mv.sS (o:=.lst (used0.map .str)) hU)
  exact ⟨hh.keep,λa z=>hh.own a (z.elim (λz=>.inl (.inl z)) λz=>z.elim (λz=>.inl (.inr z)) .inr),hh.mono⟩
 generalize put (put J D (.dct (bU gs0) ep)) U (.lst (used0.map .str))=J1 at w0 ⊢
 clear hU hUn hU1
 refine hNq _ _ ?_
 clear hNq Nq
 simp_all! []
 obtain ⟨Inv,hInv⟩:∃Inv:Nat→Sr→Hq→Prop,∀i τ J',Inv i τ J'↔∃(L:Ln) (gs:List (Str × aS)) (ep:Nat) (used:List Str) (u7 u8 u9:Option PV),τ=[some (.ref p),some (.tup [.ref D0,fr L0.t,xU]),some (.fl (names.map .str)),some (.fl (cells.map .int)),some (.int m),some (.ref D),some (fr L.t),some (.ref U),u7,u8,u9]∧Wk cN cL J (L0.own p) J' p L D U gs ep used (k0 + i)∧L.cs.map Cf.n=used∧(∀n∈used,n∈names)∧used.length≤k0 + i∧d9 L gs used=ye m names (cells.take i) (d9 L0 gs0 used0):=⟨_,λ_ _ _=>Iff.rfl⟩
 refine gM Inv ((hInv _ _ _).mpr ⟨L0,gs0,ep,used0,_,_,_,rfl,w0,hun0,hus0,hul0,rfl⟩) (λ_ _ _ _=>trivial) ?_ ?_
 ·intro i x τ J' hx hv
  obtain ⟨L,gs,ep,used,u7,u8,u9,rfl,wk,hun,hus,hul,hrun⟩:=(hInv _ _ _).mp hv
  clear hv
  have hi:i < cells.length:=by have:=(Sq.mp hx).1;simpa using this
  rw [SA,So hi] at hx
  cases hx
  have et:cells.take (i + 1)=cells.take i ++ [cells[i]]:=by rw [S4,So hi];rfl
  generalize cells[i]=c at et
  simp_all! []
  refine ⟨c,[10,97,2000001,2001,400000,60],rfl,iz (by decide),by decide,λds hG hds=>?_⟩
  obtain ⟨r0,ds,rfl,_,_,hG⟩:=hG.cons
  obtain ⟨r1,ds,rfl,r10,_,hG⟩:=hG.cons
  obtain ⟨r2,ds,rfl,r20,_,hG⟩:=hG.cons
  obtain ⟨r3,ds,rfl,r30,r31,hG⟩:=hG.cons
  obtain ⟨r4,ds,rfl,r40,r41,hG⟩:=hG.cons
  obtain ⟨r5,ds,rfl,r50,_,hG⟩:=hG.cons
  cases hG.nil
  obtain ⟨st,gnd,gl,gsz⟩:=wk.up
  simp_all! []
  refine ⟨r0,r1,r2,r3,r4,r5,m,names,used,U,D,gs,ep,L.t,rfl,wk.hU,wk.hD,hnl,by omega,r10,r20,r30,r31,r40,by omega,r50,m0,m1,st,λdv hdv hde=>?_⟩
  refine hNq _ _ ?_
  clear hNq Nq
  refine uw (iL:=0) (iU:=7) (iD:=5) (iC:=6) (iV:=10) rfl rfl rfl rfl rfl wk hun hus hul (by omega) hng hT (b.zB hT) hdv λJ1 L1 gs1 ep1 used1 t1 e1 wk1 h1 h2 h3 h4=>?_
  subst e1
  refine (hInv _ _ _).mpr ⟨L1,gs1,ep1,used1,_,_,_,rfl,wk1,h1,h2,h3,?_⟩
  rw [h4,et,uh,← hrun,hde]
  exact (FA (s:=d9 L gs used) (names:=names) (m:=m) hds).symm
 ·intro τ J' hv
  obtain ⟨L,gs,ep,used,u7,u8,u9,rfl,wk,hun,hus,hul,hrun⟩:=(hInv _ _ _).mp hv
  simp_all! []
  rw [Sm] at wk hul hrun
  rw [S3] at hrun
  exact q J' L D U gs ep used wk hun hus hul hrun
theorem ie (l:aS) (t m:Rat):l.at m=l.at t + (m - t) * (l.v:Rat):=by unfold aS.at;grind
def MF (t m:Rat) (x y:Str × aS):Prop:=y.2.v < x.2.v∧x.2.at t < y.2.at t∧dY t (key t x) (key t y)≤m
theorem vI {t m:Rat} {x y:Str × aS} (htm:t≤m):MF t m x y↔y.2.v < x.2.v∧x.2.at t < y.2.at t∧y.2.at m≤x.2.at m:=by
 unfold MF
 refine and_congr_right λhv=>and_congr_right λ_=>?_
 have hp:(0:Rat) < ((x.2.v - y.2.v:Int):Rat):=by exact_mod_cast (show (0:Int) < x.2.v - y.2.v by omega)
 show t + (y.2.at t - x.2.at t) / ((x.2.v - y.2.v:Int):Rat)≤m↔_
 rw [ie x.2 t m,ie y.2 t m]
 rw [Rat.intCast_sub] at hp ⊢
 generalize (x.2.v:Rat)=v at hp ⊢
 generalize (y.2.v:Rat)=w at hp ⊢
 generalize x.2.at t=p
 generalize y.2.at t=q
 have e:(q - p) / (v - w) * (v - w)=q - p:=by grind
 generalize (q - p) / (v - w)=z at e ⊢
 constructor
 ·intro h
  have:0≤(m - t - z) * (v - w):=Rat.mul_nonneg (by grind) (Rat.le_of_lt hp)
  grind
 ·intro h
  by_cases c:m - t < z
  ·have:0 < (z - (m - t)) * (v - w):=Rat.mul_pos (by grind) hp
   grind
  ·grind
theorem qQ {fs:List (Str × aS)} {t m:Rat} {x:aF}:x∈ed t (fs.map (key t)) m↔∃a∈fs,∃b∈fs,MF t m a b∧x=⟨jM a.2 b.2,a.1,b.1⟩:=by
 rw [kC]
 have mq:∀{a b:Str × aS},b.2.v < a.2.v→jM a.2 b.2=dY t (key t a) (key t b):=λh=>mK (n:=_) (n':=_) (by omega)
 constructor
 ·rintro ⟨a,ha,b,hb,h1,h2,h3,rfl⟩
  obtain ⟨a,ha2,rfl⟩:=Sn.mp ha
  obtain ⟨b,hb2,rfl⟩:=Sn.mp hb
  have h1:b.2.v < a.2.v:=h1
  exact ⟨a,ha2,b,hb2,⟨h1,h2,h3⟩,by rw [mq h1];rfl⟩
 ·rintro ⟨a,ha,b,hb,⟨h1,h2,h3⟩,rfl⟩
  exact ⟨_,Sn.mpr ⟨a,ha,rfl⟩,_,Sn.mpr ⟨b,hb,rfl⟩,h1,h2,h3,by rw [mq h1];rfl⟩
theorem vH {t m m':Rat} {a b:Str × aS} (h1:t≤m) (h2:m≤m'):MF t m' a b↔MF t m a b∨MF m m' a b:=by
 rw [vI (Rat.le_trans h1 h2),vI h1,vI h2]
 have hx:=ie a.2 t m
 have hy:=ie b.2 t m
 have hx':=ie a.2 m m'
 have hy':=ie b.2 m m'
 constructor
 ·rintro ⟨hv,p,q⟩
  by_cases c:b.2.at m≤a.2.at m
  ·exact .inl ⟨hv,p,c⟩
  ·exact .inr ⟨hv,Rat.not_le.mp c,q⟩
 ·have grow:∀{x y d:Rat} {v w:Int},w < v→0≤d→y≤x→y + d * (w:Rat)≤x + d * (v:Rat):=λ{x y d v w} hv hd h=>by
   have h2:d * (w:Rat)≤d * (v:Rat):=Rat.mul_le_mul_of_nonneg_left (by exact_mod_cast (show w≤v by omega)) hd
   grind
  rintro (⟨hv,p,q⟩ | ⟨hv,p,q⟩)
  ·refine ⟨hv,p,?_⟩
   rw [hx',hy']
   exact grow hv (by grind) q
  ·refine ⟨hv,?_,q⟩
   by_cases c:a.2.at t < b.2.at t
   ·exact c
   ·have:=grow (d:=m - t) hv (by grind) (Rat.not_lt.mp c)
    rw [← hx,← hy] at this
    exact absurd p (Rat.not_lt.mpr this)
theorem C4 {fs:List (Str × aS)} {t m m':Rat} (h1:t≤m) (h2:m≤m'):ed t (fs.map (key t)) m ++ ed m (fs.map (key m)) m'=ed t (fs.map (key t)) m':=by
 refine nj ?_ (iq _ _ _) λx=>?_
 ·unfold ib
  rw [Ud]
  refine ⟨iq _ _ _,iq _ _ _,λa ha b hb=>?_⟩
  have h3:=(lP ha).2
  have h4:=(lP hb).1
  have h5:a.m < b.m:=Std.lt_of_le_of_lt h3 h4
  exact (aF.lt_iff a b).mpr (.inl h5)
 ·rw [SD,qQ,qQ,qQ]
  constructor
  ·rintro (⟨a,ha,b,hb,p,e⟩ | ⟨a,ha,b,hb,p,e⟩)
   ·exact ⟨a,ha,b,hb,(vH h1 h2).mpr (.inl p),e⟩
   ·exact ⟨a,ha,b,hb,(vH h1 h2).mpr (.inr p),e⟩
  ·rintro ⟨a,ha,b,hb,p,e⟩
   rcases (vH h1 h2).mp p with p | p
   ·exact .inl ⟨a,ha,b,hb,p,e⟩
   ·exact .inr ⟨a,ha,b,hb,p,e⟩
theorem zI (t:Rat) (ks:List Ky):ed t ks t=[]:=by
 refine List.eq_nil_iff_forall_not_mem.mpr λx hx=>?_
 have h:=lP hx
 exact absurd h.1 (Rat.not_lt.mpr h.2)
theorem Ln.alike.OD {L L':Ln} (h:L.alike L'):iF L'.t (L'.fs.map (key L'.t))=iF L.t (L.fs.map (key L.t)):=by rw [h.t,h.fs]
theorem Lw (l:aS):l_ l.V=true:=by simp [aS.V,Bv,kG,ya,Bu,vK]
theorem Bw:∀ls:List aS,j1 (ls.map aS.V)=true
 | []=>rfl
 | l :: ls=>by rw [Sx,kG,Lw,Bw ls];rfl
theorem AR:∀ls:List aS,cZ (eg (ls.map aS.V))≤2
 | []=>by simp [eg,cZ]
 | l :: ls=>by
  have:=AR ls
  rw [Sx]
  simp only [eg,cZ]
  have h1:dep (fm l.V)≤2:=by simp [aS.V,fr,fm,eg,dep,cZ]
  omega
theorem M5 (ls:List aS):GJ (.fl (ls.map aS.V)):=⟨by simpa [l_] using Bw ls,by have:=AR ls;simp only [fm,dep];omega⟩
abbrev vY:Stmt:=(top 62)
abbrev k9:List Str:=["_law_lane","_law_other","_law_used"]
theorem yn:L2.av ["_law_lane","_law_other","_law_used","_law_name"] ["_law_lane","_law_other","_law_used"] (L2.ai vY):=dI
def BK (cN cL:Addr):cx:=λxs J Q _=>∃(p o:Addr) (L O:Ln) (xU:PV) (used:List Str),xs=[.ref p,.ref o,xU]∧jG J xU=some (used.map .str)∧aW cN cL J p L∧aW cN cL J o O∧bN L∧bN O∧L.alike O∧L.cs.map Cf.n=used∧Q (.bl true) J
theorem CV {cN cL eC f:Addr} {fd:FuncData} (F:b7 K "_law_alike" "_law_alike" vY f fd) (Z:bL mg) (yN:bz P w K mg base 2 "_law_part" iT pU) (Gi:bz P w K mg base 1 "_law_words" lj B1) (ly:bz P w K mg base 4 "_law_passrows" eK l6) (fA:cn P w K mg base cN 1 "clock" k4 (yy cN cL)) (fB:cn P w K mg base cN 1 "order" k7 (yB cN cL)) (dW:cn P w K mg base cN 2 "history" jh (BV cN cL eC)) (fz:cn P w K mg base cN 7 "bells" kZ (yx cN cL)):aH P w K mg base (cQ P w) 8 f fd k9 (dk K (BK cN cL)):=by
 simp_arith [yn,(aj (a8 (dT (j4 (cK (bO (aR yN B hr (af (bP (pl:=_) fA B hr (rv 1)) (af (bP (pl:=_) fA B hr (rv 0)) ag))))) (f_ (cK (bO (aR Gi B hr (af (bP (pl:=_) fB B hr (rv 1)) (af (bP (pl:=_) fB B hr (rv 0)) ag)))))))) (ar (aB gB)) aO)
   (aj (fq cG rfl (eS (rv 2)) (bB (i:=3) yn.nd) (ar (a8 (aI (mL hr.aY) (bp (pl:=_) dW B hr (rv 1) (af (rv 3) ag)) (bp (pl:=_) dW B hr (rv 0) (af (rv 3) ag))) (ar (aB gB)) aO)))
   (ar (aB (aR ly B hr (af (bP (pl:=_) fz B hr (rv 1)) (af (bP (pl:=_) fz B hr (rv 0)) ag)))))))]
 ·obtain ⟨p,o,L,O,xU,used,rfl,_⟩:=h;rfl
 obtain ⟨p,o,L,O,xU,used,rfl,hU,b,c,okL,okO,al,hun,q⟩:=h
 have bo:=b.ob
 have co:=c.ob
 refine hX ?_
 simp_all! [bo,co]
 refine ⟨dJ _ _ _ _,o,O,rfl,c,?_⟩
 simp_all! [bo]
 refine ⟨dJ _ _ _ _,p,L,rfl,b,L.t,by rw [al.t],?_⟩
 simp_all! [bo,co]
 refine ⟨dJ _ _ _ _,o,O,rfl,c,.inl ?_⟩
 simp_all! [bo]
 refine ⟨dJ _ _ _ _,p,L,rfl,b,.inl ⟨L.row,by rw [al.row],SM okL.rl (by decide),?_⟩⟩
 refine hNq _ _ ?_
 clear hNq Nq
 simp_all! []
 obtain ⟨it,hit,hxs,hok⟩:∃it:wR,MB J xU=some it∧it.xs=used.map .str∧it.ok J:=by
  rcases il hU with rfl | ⟨a,rfl,ha⟩
  ·exact ⟨_,rfl,rfl,trivial⟩
  ·exact ⟨⟨used.map .str,λJ'=>J' a=some (.lst (used.map .str))⟩,by unfold MB;simp only [ha],rfl,ha⟩
 rw [hit]
 obtain ⟨Inv,hInv⟩:∃Inv:Nat→Sr→Hq→Prop,∀i τ J',Inv i τ J'↔∃(u3:Option PV),τ=[some (.ref p),some (.ref o),some xU,u3]∧J'=J:=⟨_,λ_ _ _=>Iff.rfl⟩
 refine gM Inv ((hInv _ _ _).mpr ⟨_,rfl,rfl⟩) (λi τ J' hv=>?_) ?_ ?_
 ·obtain ⟨u3,rfl,rfl⟩:=(hInv _ _ _).mp hv;exact hok
 ·intro i x τ J' hx hv
  obtain ⟨u3,rfl,rfl⟩:=(hInv _ _ _).mp hv
  clear hv
  rw [hxs] at hx
  obtain ⟨n,hn,rfl⟩:=Sn.mp (Su hx)
  rw [← hun] at hn
  obtain ⟨c0,h0,rfl⟩:=Sn.mp hn
  have hnO:c0.n∈O.cs.map Cf.n:=by
   have e:O.cs.map Cf.n=L.cs.map Cf.n:=by
    have:=congrArg (UN (·.1)) al.cs
    rw [Sy,Sy] at this
    exact this
   rw [e];exact hn
  simp_all! [bo,co]
  refine ⟨dJ _ _ _ _,o,O,c0.n,rfl,c,okO.toa9,λc1 h1 e1=>.inl ?_,λz=>absurd hnO z⟩
  obtain ⟨c2,h2,en,ew,_⟩:=al.ex h1
  obtain rfl:c2=c0:=okL.uniq h2 h0 (en.trans e1)
  simp_all! [bo]
  refine ⟨dJ _ _ _ _,p,L,c2.n,rfl,b,okL.toa9,λc3 h3 e3=>.inl ?_,λz=>absurd hn z⟩
  obtain rfl:c3=c2:=okL.uniq h3 h2 e3
  rw [ew]
  have cf:=M5 c1.w
  simp_all! [cf,cf.1,eq_self]
  exact (hInv _ _ _).mpr ⟨_,rfl,rfl⟩
 intro τ J' hv
 obtain ⟨u3,rfl,rfl⟩:=(hInv _ _ _).mp hv
 clear hv
 refine hNq _ _ ?_
 clear hNq Nq
 simp_all! [bo,co]
 refine ⟨dJ _ _ _ _,o,O,rfl,c,okO,.inl ?_⟩
 simp_all! [bo]
 refine ⟨dJ _ _ _ _,p,L,rfl,b,okL,.inl ?_⟩
 rw [al.OD]
 have hbl:=y4 L.t (L.fs.map (key L.t)) okL.knd
 have hfl:=okL.Kv
 rw [Sm] at hbl
 exact ⟨_,_,rfl,rfl,by omega,q⟩
theorem Mv.fresh {J J':Hq} {S S':Addr→Prop} (mv:Mv J J' S S') {x:Addr} {o:HQ} (hx:J x=some o) (nx:¬ S x):¬ S' x:=λz=>by
 rcases mv.own _ z with q | q
 ·exact nx q
 ·rw [hx] at q;cases q
theorem aW.off {cN cL:Addr} {J J':Hq} {p:Addr} {L:Ln} {S S':Addr→Prop} (h:aW cN cL J p L) (mv:Mv J J' S S') (n:∀a,L.own p a→¬ S a):aW cN cL J' p L:=h.keep λa o ow e=>mv.keep a o e (n a ow)
theorem aW.sub {cN cL:Addr} {J J':Hq} {p:Addr} {L:Ln} (h:aW cN cL J p L) (s:Sub J J'):aW cN cL J' p L:=h.keep λa o _ e=>s a o e
theorem Rl.alike {L L':Ln} {gs:List (Str × aS)} (h:Rl L gs) (al:L.alike L'):Rl L' gs:=⟨by rw [al.fs];exact h.nm,λn l l' a b=>h.ln n l l' a (by rw [al.fs] at b;exact b),h.ck,λx hx=>by rw [al.t];exact h.le x hx,λc hc=>by obtain ⟨c0,h0,_,e,_⟩:=al.ex hc;rw [← e];exact h.ct c0 h0⟩
abbrev ui:Stmt:=(top 63)
abbrev Lu:List Str:=["_law_script"]
theorem cS:L2.av ["_law_script","_law_head","_law_names_here","_law_lane","_law_cells","_law_legs","_law_clock","_law_used","_law_row","_law_other","_law_told","_law_moment","_law_k","_law_step","_law_more_here","_law_ones"] ["_law_script"] (L2.ai ui):=dI
theorem Hr {cN cL T eM eP f:Addr} {fd:FuncData} (F:b7 K "law" "law" ui f fd) (Z:bL mg) (nB:bz P w K mg base 1 "_law_cell" mT BM) (cM:bz P w K mg base 1 "_law_digits" bX wx) (uz:bz P w K mg base 2 "_law_names" eQ yC) (JO:bz P w K mg base 10 "_law_walk" mV (FQ cN cL T)) (nH:uH P w K mg base cN 1 "Lane" eJ (wC cN cL)) (jJ:cn P w K mg base cN 4 "twin" mQ (BY cN cL)) (uy:bz P w K mg base 2 "_law_later" gW wB) (cI:cn P w K mg base cN 8 "go_to" gS (FP cN cL eM eP)) (ly:bz P w K mg base 4 "_law_passrows" eK l6) (Aw:bz P w K mg base 8 "_law_alike" k9 (BK cN cL)) (Du:bz P w K mg base 10 "_law_more" mU (FO cN cL T)) :
  aH P w K mg base (cQ P w) 11 f fd Lu (dk K (An [T])):=by
 simp_arith [cS,(aj (aK (i:=1) cS.nd (aR cM B hr (af (aR nB B hr (af (rv 0) (af ah ag))) (af (oX (af ah (af ah (af ah ag)))) ag))))
   (aj (aK (i:=2) cS.nd (aR uz B hr (af (aR nB B hr (af (rv 0) (af ah ag))) (af (aZ d3 ah (aw ax (rv 1) ah)) ag))))
   (aj (aK (i:=3) cS.nd (mZ nH B hr))
   (aj (JF (i:=4) (L2.ai ui) ["_law_script","_law_head","_law_names_here","_law_lane","_law_cells","_law_legs","_law_clock","_law_used","_law_row","_law_other","_law_told","_law_moment","_law_k","_law_step","_law_more_here","_law_ones"] [("_law_script",0)] rfl rfl rfl cS.nd rfl (Or.inl rfl) (kI rfl Z.range (af (aw ax (rv 1) ah) ag)) (λ_ _ _ _ _ _=>(aR nB GQ hr (af (rv 1) (af (aZ d3 ah (rv 0)) ag)))))
   (aj (ra (aR JO B hr (af (rv 3) (af (iy FR (rv 2) kJ (kK (ud oH ah))) (af (rv 4) (af (aw ax (rv 1) ah) ag))))) (oq (n:=3) rfl (bY (bB (i:=5) cS.nd) (bY (bB (i:=6) cS.nd) (bY (bB (i:=7) cS.nd) kH)))))
   (aj (aK (i:=8) cS.nd (aR cM B hr (af (aR nB B hr (af (rv 0) (af ah ag))) (af (oX (af ah (af ah ag))) ag))))
   (aj (aK (i:=9) cS.nd (bP (pl:=_) jJ B hr (rv 3)))
   (aj (aK (i:=10) cS.nd (oX ag))
   (aj (aK (i:=11) cS.nd (rv 6))
   (aj (fq cG rfl (kI rfl Z.range (af (aZ d3 ah (aw ax (rv 8) ah)) ag)) (bB (i:=12) cS.nd) (aj (aK (i:=13) cS.nd (aR cM B hr (af (aR nB B hr (af (rv 0) (af (aZ d3 ah (rv 12)) ag))) (af (oX (af ah (af ah ag))) ag))))
   (aj (aK (i:=11) cS.nd (aR uy B hr (af (rv 11) (af (aw ax (rv 13) ah) (af (aw ax (rv 13) ah) (af (aw ax (rv 1) ah) ag))))))
   (ar (aK (i:=10) cS.nd (aZ Hx (rv 10) (bp (pl:=_) cI B hr (rv 3) (af (rv 11) ag))))))))
   (aj (a8 (dT (j4 (cK (bO (aR ly B hr (af (bp (pl:=_) cI B hr (rv 9) (af (rv 11) ag)) (af (rv 10) ag))))) (f_ (cK (bO (aR Aw B hr (af (rv 3) (af (rv 9) (af (rv 7) ag))))))))) (ar (aB gB)) aO)
   (aj (JF (i:=14) (L2.ai ui) ["_law_script","_law_head","_law_names_here","_law_lane","_law_cells","_law_legs","_law_clock","_law_used","_law_row","_law_other","_law_told","_law_moment","_law_k","_law_step","_law_more_here","_law_ones"] [("_law_script",0)] rfl rfl rfl cS.nd rfl (Or.inl rfl) (kI rfl Z.range (af (aw ax (rv 8) ah) ag)) (λ_ _ _ _ _ _=>(aR nB GQ hr (af (rv 1) (af (aZ d3 ah (rv 0)) ag)))))
   (aj (aK (i:=15) cS.nd (aR Du B hr (af (rv 3) (af (cA (af (rv 5) (af (rv 11) (af (rv 7) ag)))) (af (rv 2) (af (rv 14) (af (aw ax (rv 1) ah) ag)))))))
   (aj (a_ (aR Du B hr (af (rv 9) (af (cA (af (rv 5) (af (rv 11) (af (rv 7) ag)))) (af (rv 2) (af (rv 14) (af (aw ax (rv 1) ah) ag)))))))
   (ar (aB (aR Aw B hr (af (rv 3) (af (rv 9) (af (aw ax (rv 15) ah) ag))))))))))))))))))))]
 ·obtain ⟨ns,rfl,_⟩:=h;rfl
 obtain ⟨ns,rfl,hl,hT,hJ,q⟩:=h
 have hT:J T=some .tab:=hT T (by simp)
 refine hX ?_
 simp_all! []
 refine ⟨ns,0,rfl,by decide,by decide,_,[21,7,4],rfl,iz (by decide),by decide,λds hD _=>?_⟩
 obtain ⟨d0,ds,rfl,d00,d01,hD⟩:=hD.cons
 obtain ⟨d1,ds,rfl,d10,d11,hD⟩:=hD.cons
 obtain ⟨d2,ds,rfl,d20,d21,hD⟩:=hD.cons
 cases hD.nil
 simp_all! []
 refine ⟨ns,1,rfl,by decide,by decide,_,3 + d1,rfl,by omega,by omega,λnames nl nd ng=>?_⟩
 simp_all! []
 intro p hp
 refine ⟨p,rfl,aq,λJ1 d e o b mv=>?_⟩
 have mvJ:Mv J J1 (λ_=>False) (Ln.own ⟨0,d,e,o,[],[]⟩ p):=by
  refine (Mv.sS (S:=λ_=>False) hp).trans ⟨λa u h n=>mv.keep a u h λz=>n (.inr z),λa z=>(mv.own a z).imp .inr id,mv.mono⟩
 have okN:∀d e o,bN ⟨0,d,e,o,[],[]⟩:=λd e o=>⟨⟨US,(by simp),(by simp),(by simp),(by simp),(by simp),Rat.le_refl,Sj _,(by show 0≤100;decide),(by intro n;simp [Ln.fs,Ln.Br]),US,(by show 0≤12;decide)⟩,rfl⟩
 have hT1:J1 T=some .tab:=mvJ.keep _ _ hT λz=>z
 simp_all! [zX]
 refine ⟨by omega,by omega,λ_=>true,λx=>.int (oK ns (8 + My x)),⟨by rw [e8];exact ba (by omega),λJ' _=>⟨trivial,λx hx=>⟨⟨rfl,rfl⟩,λ_=>?_⟩⟩⟩,?_⟩
 ·obtain ⟨i,hi⟩:=SN.mp hx
  obtain ⟨i1,rfl⟩:=(mD _ _ _ _).mp hi
  simp_all! []
  exact ⟨ns,_,rfl,by omega,by omega,rfl,rfl⟩
 obtain ⟨cs,hcs,hcl⟩:∃cs:List Int,((nR 0 d0.toNat).filter λ_=>true).map (λx=>PV.int (oK ns (8 + My x)))=cs.map .int∧cs.length≤21:=⟨((nR 0 d0.toNat).filter λ_=>true).map (λx=>oK ns (8 + My x)),by rw [Sy];rfl,by
  rw [Sm]
  exact SM (Tg _ _) (by rw [e8];omega)⟩
 rw [hcs]
 simp_all! [DV]
 have hnl:names.dropLast.length≤40:=by rw [UP];omega
 refine ⟨p,_,names.dropLast,cs,d2,rfl,b,okN _ _ _,rfl,rfl,hT1,hnl,(λn hn=>ng n (UR _ hn)),by omega,d20,d21,λJ2 L D U gs ep used wk hun hus hul=>?_⟩
 have hT2:J2 T=some .tab:=wk.kept hT1 (b.zB hT1)
 have hus:∀n∈used,n∈names:=λn hn=>UR _ (hus n hn)
 obtain ⟨st,gnd,gl,gsz⟩:=wk.up
 clear mvJ mv hcs b hT1
 simp_all! []
 refine ⟨ns,2,rfl,by decide,by decide,_,[7,7],rfl,iz (by decide),by decide,λds hQ _=>?_⟩
 obtain ⟨e0,ds,rfl,e00,e01,hQ⟩:=hQ.cons
 obtain ⟨e1,ds,rfl,e10,e11,hQ⟩:=hQ.cons
 cases hQ.nil
 have bo:=wk.b.ob
 simp_all! [bo]
 refine ⟨dJ _ _ _ _,p,L,rfl,wk.b,wk.ok,λJ3 p2 L2 s3 b2 ok2 al own2=>?_⟩
 refine hNq _ _ ?_
 clear hNq Nq
 simp_all! []
 have hfs:∀{Lx:Ln},Lx.cs=L.cs→Lx.fs=L.fs:=λe=>by unfold Ln.fs Ln.Br;rw [e]
 have plen:∀(t m:Rat),(ed t (L.fs.map (key t)) m).length≤900:=λt m=>C5 t m _ (by rw [dR];exact wk.ok.Kw) (by rw [Sm];exact wk.ok.Kv)
 have b1:=wk.b.sub s3
 refine ⟨by omega,by omega,?_⟩
 obtain ⟨Inv,hInv⟩:∃Inv:Nat→Sr→Hq→Prop,∀i τ J',Inv i τ J'↔∃(Li:Ln) (u12 u13:Option PV),τ=[some (.fl (ns.map .int)),some (.fl [.int d0,.int d1,.int d2]),some (.fl (names.map .str)),some (.ref p),some (.fl (cs.map .int)),some (.ref D),some (fr L.t),some (.ref U),some (.fl [.int e0,.int e1]),some (.ref p2),some (.fl ((ed L.t (L.fs.map (key L.t)) Li.t).map aF.v)),some (fr Li.t),u12,u13,none,none]∧Li.cs=L.cs∧aW cN cL J' p Li∧bN Li∧L.t≤Li.t∧Li.t.den≤60∧Li.t≤((500 * (cs.length + i):Nat):Rat)∧aW cN cL J' p2 L2∧(∀a,L2.own p2 a→¬ Li.own p a)∧J' D=some (.dct (bU gs) ep)∧J' U=some (.lst (used.map .str))∧J' T=some .tab∧¬ Li.own p D∧¬ Li.own p U:=⟨_,λ_ _ _=>Iff.rfl⟩
 refine AX Inv ((hInv _ _ _).mpr ⟨L,none,none,by rw [zI];rfl,rfl,b1,wk.ok,Rat.le_refl,wk.td,wk.tl,b2,λa z y=>by
  have h:=own2 _ z
  exact wk.b.some y h,s3 _ _ wk.hD,s3 _ _ wk.hU,s3 _ _ hT2,wk.nD,wk.nU⟩) ?_ ?_
 ·intro i τ J' hi hv
  obtain ⟨Li,u12,u13,rfl,ecs,bi,oki,tle,tdi,tli,b2i,sep,hDi,hUi,hTi,nDi,nUi⟩:=(hInv _ _ _).mp hv
  clear hv
  simp_all! []
  refine ⟨ns,29 + (0 + (i:Int)),rfl,by omega,by omega,_,[400000,60],rfl,iz (by decide),by decide,λds hQ _=>?_⟩
  obtain ⟨r0,ds,rfl,r00,r01,hQ⟩:=hQ.cons
  obtain ⟨r1,ds,rfl,r10,r11,hQ⟩:=hQ.cons
  cases hQ.nil
  refine hNq _ _ ?_
  clear hNq Nq
  simp_all! []
  refine ⟨Li.t,r0,r1,d2,rfl,r00,r10,d20,d21,by omega,(Be oki.ts).mono (by decide),λm hm _=>?_⟩
  refine hNq _ _ ?_
  clear hNq Nq
  have tl1:=wD (xy hm oki.t0) tli
  have td1:=t6 hm tdi
  have m0:0≤m:=Rat.le_trans oki.t0 hm.le
  have g1:fS m.num m.den=true:=qw m0 td1 (zm.mpr (lN (by omega) tl1))
  simp_all! [bi.ob]
  refine ⟨dJ _ _ _ _,p,Li,m.num,m.den,rfl,bi,oki,(λz=>by rw [g1] at z;cases z),λm' h1 h2 _=>?_⟩
  obtain rfl:m'=m:=Rat.ext h1 (by omega)
  refine ⟨λz=>absurd z (Rat.not_lt.mpr hm.le),λ_ J4 o4 b4 ok4 mv4=>?_⟩
  rw [hfs ecs]
  have keep:∀{a u},J' a=some u→¬ Li.own p a→J4 a=some u∧¬ Ln.own { Li with t:=m',o:=o4,row:=cg m' Li.fs } p a:=λ{a u} e n=>⟨mv4.keep _ _ e n,mv4.fresh e n⟩
  refine ⟨_,rfl,SM (Nat.add_le_add (by rw [Sm];exact plen _ _) (by rw [Sm];exact plen _ _)) (by decide),?_⟩
  rw [← Sw,C4 tle hm.le]
  rw [hfs ecs] at b4 ok4 keep
  refine (hInv _ _ _).mpr ⟨{ Li with t:=m',o:=o4,row:=cg m' L.fs },_,_,rfl,ecs,b4,ok4,Rat.le_trans tle hm.le,td1,tl1,b2i.off mv4 sep,λa z y=>?_,(keep hDi nDi).1,(keep hUi nUi).1,mv4.keep _ _ hTi (bi.zB hTi),(keep hDi nDi).2,(keep hUi nUi).2⟩
  have h:=b2i.some z
  obtain ⟨u,hu⟩:=Option.ne_none_iff_exists'.mp h
  exact (keep hu (sep a z)).2 y
 intro τ J' hv
 obtain ⟨Li,u12,u13,rfl,ecs,bi,oki,tle,tdi,tli,b2i,sep,hDi,hUi,hTi,nDi,nUi⟩:=(hInv _ _ _).mp hv
 clear hv hInv Inv
 refine hNq _ _ ?_
 clear hNq Nq
 simp_all! [b2i.ob]
 have g1:fS Li.t.num Li.t.den=true:=qw oki.t0 tdi (zm.mpr (lN (by omega) tli))
 refine ⟨dJ _ _ _ _,p2,L2,Li.t.num,Li.t.den,rfl,b2i,ok2,(λz=>by rw [g1] at z;cases z),λm' h1 h2 _=>?_⟩
 obtain rfl:m'=Li.t:=Rat.ext h1 (by omega)
 refine ⟨λz=>absurd z (Rat.not_lt.mpr (by rw [al.t];exact tle)),λ_ J5 o5 b5 ok5 mv5=>?_⟩
 rw [al.t,al.fs]
 refine ⟨_,_,rfl,rfl,plen _ _,?_⟩
 have sep':∀a,Li.own p a→¬ L2.own p2 a:=λa z y=>sep a y z
 have bi5:=bi.off mv5 sep'
 have isJ:∀{a u},J2 a=some u→J2 a≠none:=λh z=>by rw [z] at h;cases h
 have nD2:¬ L2.own p2 D:=λz=>isJ wk.hD (own2 _ z)
 have nU2:¬ L2.own p2 U:=λz=>isJ wk.hU (own2 _ z)
 have hD5:=mv5.keep _ _ hDi nD2
 have hU5:=mv5.keep _ _ hUi nU2
 have hT5:=mv5.keep _ _ hTi (b2i.zB hTi)
 have al5:Li.alike { L2 with t:=Li.t,o:=o5,row:=cg Li.t L2.fs }:=⟨rfl,by rw [oki.row,hfs ecs];show cg Li.t L2.fs=_;rw [al.fs],by rw [ecs];exact al.cs⟩
 have cnI:Li.cs.map Cf.n=used:=by rw [ecs];exact hun
 refine ⟨p,p2,Li,_,.ref U,used,rfl,by rw [zt,hU5],bi5,b5,oki,ok5,al5,cnI,?_⟩
 refine hNq _ _ ?_
 clear hNq Nq
 simp_all! [zX]
 refine ⟨by omega,by omega,λ_=>true,λx=>.int (oK ns (36 + My x)),⟨by rw [e8];exact ba (by omega),λJ' _=>⟨trivial,λx hx=>⟨⟨rfl,rfl⟩,λ_=>?_⟩⟩⟩,?_⟩
 ·obtain ⟨i,hi⟩:=SN.mp hx
  obtain ⟨i1,rfl⟩:=(mD _ _ _ _).mp hi
  simp_all! []
  exact ⟨ns,_,rfl,by omega,by omega,rfl,rfl⟩
 obtain ⟨ms,hms,hml⟩:∃ms:List Int,((nR 0 e1.toNat).filter λ_=>true).map (λx=>PV.int (oK ns (36 + My x)))=ms.map .int∧ms.length≤7:=⟨((nR 0 e1.toNat).filter λ_=>true).map (λx=>oK ns (36 + My x)),by rw [Sy];rfl,by
  rw [Sm]
  exact SM (Tg _ _) (by rw [e8];omega)⟩
 rw [hms]
 refine hNq _ _ ?_
 clear hNq Nq hms
 have hnl4:names.length≤40:=by omega
 have rlI:Rl Li gs:=⟨by rw [hfs ecs];exact wk.rl.nm,λn l l' h1 h2=>wk.rl.ln n l l' h1 (by rw [hfs ecs] at h2;exact h2),wk.rl.ck,λx hx=>Rat.le_trans (wk.rl.le x hx) tle,λc hc=>wk.rl.ct c (by rw [← ecs];exact hc)⟩
 have rlO:Rl { L2 with t:=Li.t,o:=o5,row:=cg Li.t L2.fs } gs:=rlI.alike al5
 have wlI:∀c∈Li.cs,c.w.length≤1 + (cs.length + 8):=λc hc=>by have:=wk.wl c (by rw [← ecs];exact hc);omega
 have wlO:∀c∈({ L2 with t:=Li.t,o:=o5,row:=cg Li.t L2.fs }:Ln).cs,c.w.length≤1 + (cs.length + 8):=λc hc=>by
  obtain ⟨c0,h0,_,ew,_⟩:=al5.ex hc
  rw [← ew];exact wlI c0 h0
 have tl8:Li.t≤((500 * (cs.length + 8):Nat):Rat):=Rat.le_trans tli (by exact_mod_cast (show 500 * (cs.length + (1 + e0).toNat)≤500 * (cs.length + 8) by omega))
 simp_all! []
 refine ⟨p,Li,D,.ref U,gs,ep,used,names,ms,d2,cs.length + 8,rfl,bi5,oki,rlI,hD5,by rw [zt,hU5],cnI,hus,by omega,tdi,tl8,wlI,hT5,hnl4,ng,by omega,d20,d21,λJ6 L6 D6 U6 gs6 ep6 used6 wk6 hun6 hus6 hul6 run6=>?_⟩
 refine hNq _ _ ?_
 clear hNq Nq
 have sepO:∀a,Ln.own { L2 with t:=Li.t,o:=o5,row:=cg Li.t L2.fs } p2 a→¬ Li.own p a:=λa z y=>by
  rcases mv5.own _ z with z | z
  ·exact sep a z y
  ·exact bi.some y z
 have sep6:∀a,(L6.own p a∨a=D6∨a=U6)→¬ Ln.own { L2 with t:=Li.t,o:=o5,row:=cg Li.t L2.fs } p2 a:=λa z y=>by
  rcases wk6.mv.own _ z with z | z
  ·exact sepO a y z
  ·exact b5.some y z
 have b56:=b5.off wk6.mv λa z=>sepO a z
 have hD6:=wk6.mv.keep _ _ hD5 nDi
 have hU6:=wk6.mv.keep _ _ hU5 nUi
 have hT6:=wk6.mv.keep _ _ hT5 (bi5.zB hT5)
 have cnO:({ L2 with t:=Li.t,o:=o5,row:=cg Li.t L2.fs }:Ln).cs.map Cf.n=used:=by
  have:=congrArg (UN (·.1)) al5.cs
  rw [Sy,Sy] at this
  exact this.trans cnI
 simp_all! []
 refine ⟨p2,{ L2 with t:=Li.t,o:=o5,row:=cg Li.t L2.fs },D,.ref U,gs,ep,used,names,ms,d2,cs.length + 8,rfl,b56,ok5,rlO,hD6,by rw [zt,hU6],cnO,hus,by omega,tdi,tl8,wlO,hT6,hnl4,ng,by omega,d20,d21,λJ7 L7 D7 U7 gs7 ep7 used7 wk7 hun7 hus7 hul7 run7=>?_⟩
 refine hNq _ _ ?_
 clear hNq Nq
 have e0:d9 { L2 with t:=Li.t,o:=o5,row:=cg Li.t L2.fs } gs used=d9 Li gs used:=by
  show sJ.mk _ _ _ _=sJ.mk _ _ _ _
  rw [al5.cs]
 rw [e0,← run6] at run7
 have et:=congrArg sJ.t run7
 have ef:L7.cs.map Cf.face=L6.cs.map Cf.face:=congrArg sJ.fc run7
 have et:L7.t=L6.t:=et
 have efs:L7.fs=L6.fs:=by rw [pI,pI,ef]
 have al7:L6.alike L7:=⟨et,by rw [wk7.ok.row,wk6.ok.row,et,efs],ef⟩
 have b67:=wk6.b.off wk7.mv λa z=>sep6 a (.inl z)
 have hU67:=wk7.mv.keep _ _ wk6.hU (sep6 U6 (.inr (.inr rfl)))
 have hT7:=wk7.mv.keep _ _ hT6 (b56.zB hT6)
 have a2:c7 [PV.ref D6,fr L6.t,PV.ref U6] 2=some (.ref U6):=kT _ _ _ _
 simp_all! [a2]
 exact ⟨p,p2,L6,L7,.ref U6,used6,rfl,by rw [zt,hU67],b67,wk7.b,wk6.ok,wk7.ok,al7,hun6,q J7 (by simpa using hT7)⟩
end
theorem Kd {P:Program} {w:World} {K:PySem.W.Frag} {mg:Str→Option Value} (Z:bL mg) (N:p_ K mg) {jc:Tok} (fR:mg "FARTHEST"=some (.int 1000000 jc)) {fL:Tok} (dQ:mg "FASTEST"=some (.int 1000 fL)) {nk:Tok} (jA:mg "FINEST"=some (.int 60 nk)) {nq:Tok} (jB:mg "LATEST"=some (.int 1000000 nq)) {kO:Tok} (ik:mg "LONGEST"=some (.int 8 kO)) {wJ:Tok} (qs:mg "MOST"=some (.int 12 wJ)) {pX:Tok} (mB:mg "SIGNS"=some (.str "abcdefghijklmnopqrstuvwxyz0123456789" pX)) {oN:Addr} (eW:Own K mg "BadMoment" oN) {tU:Addr} (h_:Own K mg "BadName" tU) {DZ:Addr} (qa:Own K mg "Full" DZ) {tV:Addr} (dP:Own K mg "NoCraft" tV) {ql:Addr} (fM:Own K mg "NotThere" ql) {D1:Addr} (qd:Own K mg "Past" D1) {AS:Addr} (mi:Own K mg "Taken" AS) {xk:Addr} (eX:Own K mg "TooFar" xk) (X_Log:∃C,dj K mg "Log" C∧aD K C "rows"∧aD K C "gone"∧dm K C "__init__" "Log.__init__" gd∧dm K C "turn" "Log.turn" lS∧dm K C "leave" "Log.leave" j8∧dm K C "legs" "Log.legs" lR∧dm K C "twin" "Log.twin" lT∧dm K C "there" "Log.there" j9∧dm K C "leg_at" "Log.leg_at" i_) (X_Lane:∃C,dj K mg "Lane" C∧aD K C "now"∧aD K C "logs"∧aD K C "row"∧dm K C "__init__" "Lane.__init__" ft∧dm K C "twin" "Lane.twin" gC∧dm K C "must_be_there" "Lane.must_be_there" c6∧dm K C "leg_of" "Lane.leg_of" gZ∧dm K C "settle" "Lane.settle" eV∧dm K C "join" "Lane.join" j6∧dm K C "clock" "Lane.clock" i5∧dm K C "order" "Lane.order" i9∧dm K C "log_of" "Lane.log_of" g6∧dm K C "history" "Lane.history" f'∧dm K C "meets" "Lane.meets" i8∧dm K C "foretold" "Lane.foretold" fu∧dm K C "go_to" "Lane.go_to" i6∧dm K C "bells" "Lane.bells" i4∧dm K C "turn" "Lane.turn" j7∧dm K C "about" "Lane.about" iZ∧dm K C "leave" "Lane.leave" i7) (X_Bells:∃C,dj K mg "Bells" C∧aD K C "rows"∧dm K C "__init__" "Bells.__init__" eL∧dm K C "drop" "Bells.drop" fI∧dm K C "put" "Bells.put" j5∧dm K C "told" "Bells.told" iY) (JP:Def K mg "_law_cell" Ab) (Dx:Def K mg "_law_digits" rg) (Dz:Def K mg "shared" rj) (yP:Def K mg "fraction" lU) (MN:Def K mg "_law_low" FC) (JS:Def K mg "less" Ad) (JV:Def K mg "plus" Ag) (Gn:Def K mg "minus" v7) (Gr:Def K mg "times" v9) {gw:Addr} (gu:yT K mg "good_name" gE gw) (Gp:Def K mg "_law_names" m5) (yS:Def K mg "place_on" lX) (Ce:Def K mg "last_by" ot) (sf:Def K mg "lies_behind" g8) (yQ:Def K mg "in_order" lV) (sh:Def K mg "rings_ahead" g9) (Cg:Def K mg "meeting" ou) (me:Def K mg "in_lowest_terms" d7) (sd:Def K mg "good_moment" g7) (Gs:Def K mg "_law_whole" v_) (JU:Def K mg "_law_part" Af) (Gu:Def K mg "_law_words" wa) (Ci:Def K mg "_law_passrow" ox) (yR:Def K mg "_law_passrows" lW) (Dy:Def K mg "_law_placed" rh) (Gq:Def K mg "_law_paced" v8) (Pl:Def K mg "_law_at" LY) (Gm:Def K mg "_law_later" v3) (Gj:Def K mg "_law_acted" vX) (JR:Def K mg "_law_done" Ac) (JQ:Def K mg "_law_deed" vZ) (JW:Def K mg "_law_walk" Ah) (JT:Def K mg "_law_more" Ae) (Gk:Def K mg "_law_alike" vY) {f:Addr} {fd:FuncData} (F:b7 K "law" "law" ui f fd) (base:Heap) (Bm:BMain mg base) :
  aH P w K mg base (cQ P w) 11 f fd ["_law_script"] (dk K (An [gw])):=by
 obtain ⟨xa,a7,aG,bt,pd,wX,uF,wW,wY,uG,sF⟩:=X_Log
 obtain ⟨PB,au,ay,aA,az,nF,uE,jj,p7,p9,uC,sy,sE,p8,o_,sD,nG,sA,sx,uD,sv,sC⟩:=X_Lane
 obtain ⟨O5,bC,aU,mh,so,uB,su⟩:=X_Bells
 have JY:=JP.fv (P:=P) (w:=w) (base:=base) (λ_ _ F=>EO F Z) λ_ _ _ _ _ _=>ko λ_ _=>rfl
 have cM:=Dx.DR (P:=P) (w:=w) (base:=base) (λ_ _ F=>CS F Z.toDm) λ_ _ _ _ _ _=>ko λ_ _=>rfl
 have p5:=xD cM
 have hZ:=Dz.DR (P:=P) (w:=w) (base:=base) (λ_ _ F=>CT F Z.toDm) λ_ _ _ _ _ _=>ko λ_ _=>rfl
 have DH:=xE hZ
 have bM:=yP.DR (λ_ _ F=>xQ F Z.toDm hZ) λ_ _ _ _ _ _=>ko λ_ _=>rfl
 have yV:=sQ bM
 have wO:=MN.DR (P:=P) (w:=w) (base:=base) (λ_ _ F=>K4 F Z.toDm) λ_ _ _ _ _ _=>ko λ_ _=>rfl
 have IK:=EA wO
 have dG:=JS.DR (P:=P) (w:=w) (base:=base) (λ_ _ F=>Hn F Z.toDm) λ_ _ _ _ _ _=>ko λ_ _=>rfl
 have nC:=CF dG
 have yO:=JV.DR (λ_ _ F=>Ho F Z.toDm bM) λ_ _ _ _ _ _=>ko λ_ _=>rfl
 have md:=Gn.DR (λ_ _ F=>EL F Z.toDm bM) λ_ _ _ _ _ _=>ko λ_ _=>rfl
 have uA:=Gr.DR (λ_ _ F=>EN F Z.toDm bM) λ_ _ _ _ _ _=>ko λ_ _=>rfl
 have J_:=CG yO
 have AD:=zo md
 have GA:=zq uA
 have jq:=gu.DR (P:=P) (w:=w) (base:=base) (λ_ _ _ F=>vi F Z.toDm Bm ik mB) λ_ _ _ _ _ _=>yH λ_=>rfl
 have wV:=qD jq
 have uz:=Gp.DR (λ_ _ F=>EM F Z.toDm cM) λ_ _ _ _ _ _=>ko λ_ _=>rfl
 have Gy:=zp uz
 have lz:=yS.fv (λ_ _ F=>vn F Z J_ AD GA) λ_ _ _ _ _ _=>ko λ_ _=>rfl
 have Cj:=Ce.fv (λ_ _ F=>xR F Z nC) λ_ _ _ _ _ _=>ko λ_ _=>rfl
 have sj:=sf.fv (λ_ _ F=>pw F Z lz nC) λ_ _ _ _ _ _=>Px λ_ _ _ _ _=>rfl
 have yW:=yQ.fv (λ_ _ F=>vj F Z sj) λ_ _ _ _ _ _=>ko λ_ _=>rfl
 have tM:=pd.Qf (P:=P) (w:=w) (base:=base) a7 (λ_ _ F=>xM F a7 aG bt) λ_ _ _ _ _ _=>Mw λ_ _ _ _=>rfl
 have eA:=wX.ph (mg:=mg) a7.cl (λ_ _ F=>xO F Z a7 aG lz) λ_ _ _ _ _ _=>Ke λ_ _ _=>rfl
 have jK:=uF.ph (P:=P) (w:=w) (base:=base) (mg:=mg) a7.cl (λ_ _ F=>vg F Z a7 bt) λ_ _ _ _ _ _=>ko λ_ _=>rfl
 have lL:=wW.ph (P:=P) (w:=w) (base:=base) (mg:=mg) a7.cl (λ_ _ F=>xN F Z a7 aG) λ_ _ _ _ _ _=>yH λ_=>rfl
 have lM:=wY.ph (mg:=mg) a7.cl (λ_ _ F=>xP F Z a7 aG bt tM) λ_ _ _ _ _ _=>yH λ_=>rfl
 have jL:=uG.ph (mg:=mg) a7.cl (λ_ _ F=>vh F Z a7 aG bt nC) λ_ _ _ _ _ _=>ko λ_ _=>rfl
 have iN:=sF.ph (mg:=mg) a7.cl (λ_ _ F=>tq F Z a7 aG fM jL Cj) λ_ _ _ _ _ _=>ko λ_ _=>rfl
 have nH:=nF.Qf (P:=P) (w:=w) (base:=base) au (λ_ _ F=>vc F (cL:=xa) N au ay aA az) λ_ _ _ _ _ _=>yH λ_=>rfl
 have jJ:=uE.ph (mg:=mg) au.cl (λ_ _ F=>vf F Z au ay aA az nH lM) λ_ _ _ _ _ _=>yH λ_=>rfl
 have aX:=jj.ph (P:=P) (w:=w) (base:=base) (mg:=mg) au.cl (λ_ _ F=>jl F Z (cL:=xa) au az dP) λ_ _ _ _ _ _=>ko λ_ _=>rfl
 have bE:=p7.ph (mg:=mg) au.cl (λ_ _ F=>qH F Z au aA ay aX iN) λ_ _ _ _ _ _=>ko λ_ _=>rfl
 have bh:=p9.ph (mg:=mg) au.cl (λ_ _ F=>qK F Z au az ay bE yW) λ_ _ _ _ _ _=>yH λ_=>rfl
 have jH:=uC.ph (mg:=mg) au.cl (λ_ _ F=>vd F Z au az ay aA fR dQ qs h_ eX mi qa wV tM bh) λ_ _ _ _ _ _=>Mw λ_ _ _ _=>rfl
 have fA:=sy.ph (P:=P) (w:=w) (base:=base) (mg:=mg) au.cl (λ_ _ F=>sY F Z (cL:=xa) au ay) λ_ _ _ _ _ _=>yH λ_=>rfl
 have fB:=sE.ph (P:=P) (w:=w) (base:=base) (mg:=mg) au.cl (λ_ _ F=>tm F Z (cL:=xa) au az) λ_ _ _ _ _ _=>yH λ_=>rfl
 have gP:=p8.ph (P:=P) (w:=w) (base:=base) (mg:=mg) au.cl (λ_ _ F=>qJ F Z (cL:=xa) au aA dP) λ_ _ _ _ _ _=>ko λ_ _=>rfl
 have dW:=o_.ph (mg:=mg) au.cl (λ_ _ F=>pj F Z au gP lL) λ_ _ _ _ _ _=>ko λ_ _=>rfl
 have sk:=sh.fv (λ_ _ F=>pz F Z nC) λ_ _ _ _ _ _=>ko λ_ _=>rfl
 have ki:=mh.Qf (P:=P) (w:=w) (base:=base) bC (λ_ _ F=>sU F bC aU) λ_ _ _ _ _ _=>yH λ_=>rfl
 have iJ:=so.ph (P:=P) (w:=w) (base:=base) (mg:=mg) bC.cl (λ_ _ F=>sT F Z bC aU) λ_ _ _ _ _ _=>Ke λ_ _ _=>rfl
 have dS:=uB.ph (mg:=mg) bC.cl (λ_ _ F=>vb F Z bC aU iJ sk) λ_ _ _ _ _ _=>Mw λ_ _ _ _=>rfl
 have c8:=su.ph (P:=P) (w:=w) (base:=base) (mg:=mg) bC.cl (λ_ _ F=>sV F Z bC aU) λ_ _ _ _ _ _=>yH λ_=>rfl
 have Ck:=Cg.fv (λ_ _ F=>xS F Z N lz AD yV) λ_ _ _ _ _ _=>ko λ_ _=>rfl
 have c9:=sD.ph (mg:=mg) au.cl (λ_ _ F=>tj F Z au ay bE Ck nC) λ_ _ _ _ _ _=>Ke λ_ _ _=>rfl
 have mf:=me.fv (λ_ _ F=>kR F Z DH) λ_ _ _ _ _ _=>yH λ_=>rfl
 have si:=sd.fv (λ_ _ F=>pq F Z jA jB mf) λ_ _ _ _ _ _=>yH λ_=>rfl
 have fh:=nG.ph (mg:=mg) au.cl (λ_ _ F=>nZ F Z au ay az eW qd si nC ki c9 dS c8) λ_ _ _ _ _ _=>ko λ_ _=>rfl
 have cI:=sA.ph (mg:=mg) au.cl (λ_ _ F=>sZ F Z au ay fh bh) λ_ _ _ _ _ _=>ko λ_ _=>rfl
 have fz:=sx.ph (mg:=mg) au.cl (λ_ _ F=>sX F Z au az ki c9 dS c8) λ_ _ _ _ _ _=>yH λ_=>rfl
 have jI:=uD.ph (mg:=mg) au.cl (λ_ _ F=>ve F Z au aA ay dQ eX aX eA bh) λ_ _ _ _ _ _=>Ke λ_ _ _=>rfl
 have iK:=sv.ph (mg:=mg) au.cl (λ_ _ F=>sW F Z au az aA ay bE eA bh) λ_ _ _ _ _ _=>yH λ_=>rfl
 have iM:=sC.ph (mg:=mg) au.cl (λ_ _ F=>s_ F Z au aA ay az aX jK) λ_ _ _ _ _ _=>ko λ_ _=>rfl
 have GB:=Gs.fv (P:=P) (w:=w) (base:=base) (λ_ _ F=>CZ F Z) λ_ _ _ _ _ _=>yH λ_=>rfl
 have DF:=JU.fv (λ_ _ F=>EU F Z GB) λ_ _ _ _ _ _=>ko λ_ _=>rfl
 have GC:=Gu.fv (P:=P) (w:=w) (base:=base) (λ_ _ F=>C0 F Z) λ_ _ _ _ _ _=>ko λ_ _=>rfl
 have Cm:=Ci.fv (λ_ _ F=>xT F Z DF) λ_ _ _ _ _ _=>ko λ_ _=>rfl
 have p6:=yR.fv (λ_ _ F=>vm F Z Cm) λ_ _ _ _ _ _=>ko λ_ _=>rfl
 have DG:=Dy.fv (P:=P) (w:=w) (base:=base) (λ_ _ F=>zC F Z) λ_ _ _ _ _ _=>ko λ_ _=>rfl
 have Gz:=Gq.fv (P:=P) (w:=w) (base:=base) (λ_ _ F=>CY F Z) λ_ _ _ _ _ _=>ko λ_ _=>rfl
 have Pp:=Pl.fv (λ_ _ F=>K5 F Z IK) λ_ _ _ _ _ _=>ko λ_ _=>rfl
 have AB:=Gm.fv (λ_ _ F=>CW F Z IK) λ_ _ _ _ _ _=>Mw λ_ _ _ _=>rfl
 have AA:=Gj.fv (λ_ _ F=>CU F Z Pp) λ_ _ _ _ _ _=>Ke λ_ _ _=>rfl
 have DE:=JR.fv (λ_ _ F=>ES F Z jH iM jI iK cI) λ_ _ _ _ _ _=>ko λ_ _=>rfl
 have DD:=JQ.fv (λ_ _ F=>ER F Z DG Gz AB) λ_ _ _ _ _ _=>R7 λ_ _ _ _ _ _=>rfl
 have Ka:=JW.fv (λ_ _ F=>EV F Z p5 DD DE AA) λ_ _ _ _ _ _=>Mw λ_ _ _ _=>rfl
 have JZ:=JT.fv (λ_ _ F=>ET F Z p5 DD DE AA) λ_ _ _ _ _ _=>Px λ_ _ _ _ _=>rfl
 have Gx:=Gk.fv (λ_ _ F=>CV F Z DF GC p6 fA fB dW fz) λ_ _ _ _ _ _=>Ke λ_ _ _=>rfl
 exact Hr F Z JY p5 Gy Ka nH jJ AB cI p6 Gx JZ
end Ov
namespace PySem.W.Fast
def tw7087462892211153215:=0
def tw2225892955592082957:=0
def tw10021575201185745420:=0
def tw14422195091856317758:=0
def tw13163963689550639611:=0
def tw159285584134730399:=0
def tw9231599259830206664:=0
def tw11117655300386915911:=0
def tw226783705344993483:=0
def tw780713184991842369:=0
def tw11312188156612090611:=0
def tw13006231695303685358:=0
def tw8939373472262309121:=0
def tw1548148879763399695:=0
def tw17722726409403516055:=0
def tw3410654455158473996:=0
def tw16011760399656024597:=0
def tw1883720452290156686:=0
def tw11155436531823210051:=0
def tw14260024815211847805:=0
def tw13634511074261901692:=0
def tw1944365265492148039:=0
def tw10186062065849276732:=0
def tw7680993871515521976:=0
def tw14306400669696678500:=0
def tw13870646755710569494:=0
def tw3732036166422291934:=0
def tw8510508434078041201:=0
def tw16164477725991874813:=0
def tw13698476976195704647:=0
def tw14875851239498365308:=0
def tw6107463640683530694:=0
def tw4899631613029746426:=0
def tw9978973009118067039:=0
def tw8393979447875977818:=0
def tw2548205071060913732:=0
def tw10143751517371541974:=0
def tw1217686001870885268:=0
def tw3320987709290737794:=0
def tw7689931016819683134:=0
def tw7350583145907213587:=0
def tw13381757342525180648:=0
def tw4645684367108758105:=0
def tw18379110713708518939:=0
def tw12528606104544189279:=0
def tw14664896953257332349:=0
def tw8705683197391062515:=0
def tw4172010112140358637:=0
def tw16544853118821765940:=0
def tw9479799692399576006:=0
def tw13574314938705655814:=0
def tw1178993826152881773:=0
def tw11755903149909398184:=0
def tw9607540343329557260:=0
def tw11714495488157359458:=0
def tw4939279609157332600:=0
def tw10478037561511009063:=0
def tw15183572007130403001:=0
def tw17481300316339668412:=0
def tw9121014001447034510:=0
def tw4101976895009242242:=0
def tw1419477962491853786:=0
def tw18357101296014095758:=0
def tw9937769790379952386:=0
def tw3844038738995318914:=0
def tw2265791715804714379:=0
def tw6847855552960984719:=0
def tw7141424961475070886:=0
def tw4869688915793714806:=0
def tw10306233174965357661:=0
def tw13507226865321079673:=0
def tw2588273899302689101:=0
def tw17875564270694341388:=0
def tw7951623427648037832:=0
def tw14142020977994401511:=0
def tw2583521524281003276:=0
def tw10625905228558541464:=0
def tw10540987220511758716:=0
def tw14551924148654084101:=0
def tw11740042454819565117:=0
def tw10141833357034445695:=0
def tw8906002112106079169:=0
def tw1856142770189138216:=0
def tw9051661221565576626:=0
def tw12137411637294085677:=0
def tw1696271292898693526:=0
def tw11455280763360912861:=0
def tw15098595886447505671:=0
def tw11268439884469304533:=0
def tw422174249195381210:=0
def tw14167130210108944277:=0
def tw5592412017772199624:=0
def tw13165060127684175041:=0
def tw5281804455545325734:=0
def tw2023450693413596960:=0
def tw18047307326790488731:=0
def tw8972826656117619181:=0
def tw10149484303702276618:=0
def tw4083460533895053762:=0
def tw7165374835771520510:=0
def tw9315427208161659728:=0
def tw4576355111253876691:=0
def tw15100724797636861665:=0
def tw233083208265897582:=0
def tw13130379717742648979:=0
def tw6469504605115839011:=0
def tw900898545112822152:=0
def tw10715355823797673457:=0
def tw8064131840099132470:=0
def tw15179254006848948280:=0
def tw14777290369172990433:=0
def tw10186894506418369825:=0
def tw3257132031856267714:=0
def tw9577460932898130682:=0
def tw10409290903082366576:=0
def tw7253394946927894363:=0
def tw4371715017691738962:=0
def tw8366976224450015595:=0
def tw12986313085382235463:=0
def tw53324449415087650:=0
def tw10932238231585991993:=0
def tw15529272172879336156:=0
def tw12326242580774133288:=0
def tw9122569268017496213:=0
def tw11748142600474418552:=0
def tw9509423707552336525:=0
def tw3494436279381529454:=0
def tw111482733536275257:=0
def tw4138374201589547529:=0
def tw10469129722601361784:=0
def tw16877800903272281644:=0
def tw13758810862053234754:=0
def tw14607523782231311352:=0
def tw6711858984585836945:=0
def tw2456653881180198197:=0
def tw1880542854723470712:=0
def tw2788719100285701478:=0
def tw10805874574091871637:=0
def tw3801808834202078197:=0
def tw43070208300578601:=0
def tw17397868097711425138:=0
def tw941842325369785174:=0
def tw7916397097630631634:=0
def tw6952233120765756549:=0
def tw9666229598178596641:=0
def tw9837093221182692663:=0
def tw18220507422118635521:=0
def tw2665688142962060962:=0
def tw12758681024399707323:=0
def tw5217676896206118603:=0
def tw8590622856147457489:=0
def tw8532680292247091861:=0
def tw10758351518711821849:=0
def tw11884369758360908394:=0
def tw6299695886398807214:=0
def tw12833168316325736315:=0
def tw15608468669484177688:=0
def tw14581159598066447602:=0
def tw7999055665003564972:=0
def tw5609988167232253966:=0
def tw5947311358324872365:=0
def tw823388472565359251:=0
def tw1675170233933035764:=0
def tw4239187469693958536:=0
def tw1836720101912778555:=0
def tw1742380371287267847:=0
def tw13422740715080040409:=0
def tw5752269273884067149:=0
def tw4809089541501049956:=0
def tw7906002394623364799:=0
def tw12081839757104029321:=0
def tw15695930441640113010:=0
def tw3740907100276150348:=0
def tw5010191043386642570:=0
def tw16620616470406627403:=0
def tw1298014168203485841:=0
def tw9468787610135234786:=0
def tw2381864756569874935:=0
def tw15819232676241487990:=0
def tw14668157660126353519:=0
def tw12731925246851908951:=0
def tw4564777980739430025:=0
def tw13295092858399907108:=0
def tw13454953544674960120:=0
def tw672357099197409614:=0
def tw7195650137256296681:=0
def tw15443659056050066883:=0
def tw3291038661622839642:=0
def tw5139283411270734966:=0
def tw18082665423157630144:=0
def tw10106929802095623939:=0
def tw17936872623271701326:=0
def tw6677733119920499518:=0
def tw17834116389484796353:=0
def tw3534408499399577457:=0
def tw16843450269864877471:=0
def tw13607362726305791923:=0
def tw3624166306538557939:=0
def tw10957027916919021961:=0
def tw14021838273533152226:=0
def tw1587299335077654875:=0
def tw11838551921255738103:=0
def tw9062685977971434983:=0
def tw8410119362929957976:=0
def tw296911093558057089:=0
def tw17310640669682934431:=0
def tw13208543553752622637:=0
def tw9141807202300681164:=0
def tw14206974304654643689:=0
def tw14459188528148312872:=0
def tw9171989879714162230:=0
def tw11483734124974654664:=0
def tw159238048149992739:=0
def tw8705818319362352252:=0
def tw1506868752258496792:=0
def tw9801222482216729432:=0
def tw17178027647095931033:=0
def tw1334582376450428349:=0
def tw10467052791641226361:=0
def tw18371647105317773655:=0
def tw1944862506149741373:=0
def tw11551723661555529864:=0
def tw1742215820168230762:=0
def tw796147521045756928:=0
def tw195810816985697936:=0
def tw5333822565785503493:=0
def tw5203013466634735297:=0
def tw8215355933205277469:=0
def tw16346585939442172958:=0
def tw17225122337521954510:=0
def tw6868511674366857851:=0
def tw5379802325928419641:=0
def tw9276553556725202639:=0
def tw1649241208264425361:=0
def tw7367796542158538849:=0
def tw3257660402144516878:=0
def tw3071517719529379264:=0
def tw3001831715621156965:=0
def tw1500768655293575062:=0
def tw14438476537053027856:=0
def tw12372271341536001804:=0
def tw11927510257631822604:=0
def tw549165999381195747:=0
def tw2935276739174830884:=0
def tw4653262014576219900:=0
def tw17885078106708702317:=0
def tw5178648236238120478:=0
def tw8601210507639843692:=0
def tw10348081986268475431:=0
def tw11533190559618521083:=0
def tw13227729097741160553:=0
def tw5776084388685194723:=0
def tw8140504771580931493:=0
def tw9889124387562424830:=0
def tw12012166394140940987:=0
def tw15113438377680302264:=0
def tw5202441814888259673:=0
def tw12850485770995449551:=0
def tw3412607113313535343:=0
def tw18309778421376595497:=0
def tw10196353297798636187:=0
def tw14453880076510764737:=0
def tw4839515003428379570:=0
def tw8591023467663056705:=0
def tw2209035167373992176:=0
def tw423120259781227518:=0
def tw15821325699372096097:=0
def tw5748699604087088916:=0
def tw2469858773331552560:=0
def tw827762582680712202:=0
def tw9254793194413335074:=0
end PySem.W.Fast
open PySem PySem.W PyProof.Rows
set_option hygiene false
local macro_rules | `(tactic| simp_arith)=>`(tactic| (dsimp only [L2.o9];refine' Ov.Kr KX G ?a ?l ?c ?k;(case a=>k_is);(case l=>k_is);(case c=>k_is);(case k=>k_is)))
set_option maxRecDepth 100000 in
set_option maxHeartbeats 0 in
theorem PySem.Challenge.cw_overhaul_k35_whole_one_going_or_many_holds : PySem.Challenge.rw_overhaul_k35_whole_one_going_or_many.Holds := by
 w_on;o_law;k_head;(case hw=>w_witness2)
 k_fill
 refine Ov.F' (l:=PySem.Challenge.rw_overhaul_k35_whole_one_going_or_many) (n:=63) (k:=11) (x:="_law_script") (sp:=Ov.FK) ["good_name"] rfl (by decide) rfl ⟨rfl,by decide,by decide⟩ (λw h Y=>PySem.W.kIn_of Y) ?Nm ?F (λtabs K H a ns hl hT hS hA hK=>⟨a,ns,rfl,hS,hl,hT,hA,hK,λ_ e=>⟨rfl,e⟩⟩)
 case Nm=>decide +kernel
 case F =>
  intro w mg fa h KX G hmg
  obtain ⟨gw,gu⟩:∃T,Ov.yT (L2.o9 KX) mg "good_name" Ov.gE T:=by
   dsimp only [L2.o9]
   refine' ⟨_,Ov.GL KX G ?ga ?gl ?gc ?gk ?gt ?gp ?gb ?ge ?go⟩
   (case ga=>k_is);(case gl=>k_is);(case gc=>k_is);(case gk=>k_is);(case gt=>k_is);(case gp=>rfl);(case gb=>kernel_rfl);(case ge=>decide);(case go=>kernel_rfl)
  have ML:Ov.Def (L2.o9 KX) mg "law" Ov.ui:=by simp_arith
  have Z:Ov.bL mg:=by
   refine' ⟨Ov.Dm.mk (PySem.W.mg_none_of KX G ?z0) (PySem.W.mg_none_of KX G ?z1) (PySem.W.mg_none_of KX G ?z2) (PySem.W.mg_none_of KX G ?z3) (PySem.W.mg_none_of KX G ?z4) (PySem.W.mg_none_of KX G ?z5) (PySem.W.mg_none_of KX G ?z6) (PySem.W.mg_none_of KX G ?z7) (PySem.W.mg_none_of KX G ?z8) (PySem.W.mg_none_of KX G ?z9),PySem.W.mg_none_of KX G ?w0,PySem.W.mg_none_of KX G ?w1,PySem.W.mg_none_of KX G ?w2,PySem.W.mg_none_of KX G ?w3,PySem.W.mg_none_of KX G ?w4⟩
   (case z0=>k_is);(case z1=>k_is);(case z2=>k_is);(case z3=>k_is);(case z4=>k_is);(case z5=>k_is);(case z6=>k_is);(case z7=>k_is);(case z8=>k_is);(case z9=>k_is);(case w0=>k_is);(case w1=>k_is);(case w2=>k_is);(case w3=>k_is);(case w4=>k_is)
  have N:Ov.p_ (L2.o9 KX) mg:=by
   dsimp only [L2.o9]
   refine' Ov.CO KX G ?a ?l
   (case a=>k_is);(case l=>k_is)
  obtain ⟨oN,eW⟩:∃C,Ov.Own (L2.o9 KX) mg "BadMoment" C:=by
   dsimp only [L2.o9]
   refine' ⟨_,Ov.jQ KX G ?a ?b⟩
   (case a=>k_is);(case b=>kernel_rfl)
  obtain ⟨tU,h_⟩:∃C,Ov.Own (L2.o9 KX) mg "BadName" C:=by
   dsimp only [L2.o9]
   refine' ⟨_,Ov.jQ KX G ?a ?b⟩
   (case a=>k_is);(case b=>kernel_rfl)
  obtain ⟨DZ,qa⟩:∃C,Ov.Own (L2.o9 KX) mg "Full" C:=by
   dsimp only [L2.o9]
   refine' ⟨_,Ov.jQ KX G ?a ?b⟩
   (case a=>k_is);(case b=>kernel_rfl)
  obtain ⟨tV,dP⟩:∃C,Ov.Own (L2.o9 KX) mg "NoCraft" C:=by
   dsimp only [L2.o9]
   refine' ⟨_,Ov.jQ KX G ?a ?b⟩
   (case a=>k_is);(case b=>kernel_rfl)
  obtain ⟨ql,fM⟩:∃C,Ov.Own (L2.o9 KX) mg "NotThere" C:=by
   dsimp only [L2.o9]
   refine' ⟨_,Ov.jQ KX G ?a ?b⟩
   (case a=>k_is);(case b=>kernel_rfl)
  obtain ⟨D1,qd⟩:∃C,Ov.Own (L2.o9 KX) mg "Past" C:=by
   dsimp only [L2.o9]
   refine' ⟨_,Ov.jQ KX G ?a ?b⟩
   (case a=>k_is);(case b=>kernel_rfl)
  obtain ⟨AS,mi⟩:∃C,Ov.Own (L2.o9 KX) mg "Taken" C:=by
   dsimp only [L2.o9]
   refine' ⟨_,Ov.jQ KX G ?a ?b⟩
   (case a=>k_is);(case b=>kernel_rfl)
  obtain ⟨xk,eX⟩:∃C,Ov.Own (L2.o9 KX) mg "TooFar" C:=by
   dsimp only [L2.o9]
   refine' ⟨_,Ov.jQ KX G ?a ?b⟩
   (case a=>k_is);(case b=>kernel_rfl)
  obtain ⟨jc,fR⟩:∃t,mg "FARTHEST"=some (.int 1000000 t):=by
   refine' Ov.const_int KX G ?cz ?cw
   (case cz=>k_is);(case cw=>kernel_rfl)
  obtain ⟨fL,dQ⟩:∃t,mg "FASTEST"=some (.int 1000 t):=by
   refine' Ov.const_int KX G ?cz ?cw
   (case cz=>k_is);(case cw=>kernel_rfl)
  obtain ⟨nk,jA⟩:∃t,mg "FINEST"=some (.int 60 t):=by
   refine' Ov.const_int KX G ?cz ?cw
   (case cz=>k_is);(case cw=>kernel_rfl)
  obtain ⟨nq,jB⟩:∃t,mg "LATEST"=some (.int 1000000 t):=by
   refine' Ov.const_int KX G ?cz ?cw
   (case cz=>k_is);(case cw=>kernel_rfl)
  obtain ⟨kO,ik⟩:∃t,mg "LONGEST"=some (.int 8 t):=by
   refine' Ov.const_int KX G ?cz ?cw
   (case cz=>k_is);(case cw=>kernel_rfl)
  obtain ⟨wJ,qs⟩:∃t,mg "MOST"=some (.int 12 t):=by
   refine' Ov.const_int KX G ?cz ?cw
   (case cz=>k_is);(case cw=>kernel_rfl)
  obtain ⟨pX,mB⟩:∃t,mg "SIGNS"=some (.str "abcdefghijklmnopqrstuvwxyz0123456789" t):=by
   refine' Ov.Cr KX G ?cz ?cw
   (case cz=>k_is);(case cw=>kernel_rfl)
  obtain ⟨fd,F,hb⟩:=Ov.KO ML hmg (λ_ _ _ _ _ _ _=>rfl)
  exact ⟨fd,[gw],hb,(λT hT=>by simp only [SH,SV,or_false] at hT;rcases hT with rfl <;> first | exact ⟨_,by simp,_,gu⟩),λbase _ _ Bm=>Ov.CC (Ov.Kd Z N fR dQ jA jB ik qs mB eW h_ qa dP fM qd mi eX (by dsimp only [L2.o9];refine' ⟨_,Ov.uS KX G ?a ?pg ?hd ?po ?sa ?mk ?kc,?n0,?n1,Ov.bc ?m0a ?m0i ?m0l ?m0c ?m0k,Ov.bc ?m1a ?m1i ?m1l ?m1c ?m1k,Ov.bc ?m2a ?m2i ?m2l ?m2c ?m2k,Ov.bc ?m3a ?m3i ?m3l ?m3c ?m3k,Ov.bc ?m4a ?m4i ?m4l ?m4c ?m4k,Ov.bc ?m5a ?m5i ?m5l ?m5c ?m5k,Ov.bc ?m6a ?m6i ?m6l ?m6c ?m6k⟩;(case a=>k_is);(case pg=>k_is);(case hd=>k_is);(case po=>k_is);(case sa=>k_is);(case mk=>k_is);(case kc=>k_is);(case n0=>(show PySem.W.findIn _ _ _=_;k_is));(case n1=>(show PySem.W.findIn _ _ _=_;k_is));(case m0a=>k_is);(case m0i=>k_is);(case m0l=>k_is);(case m0c=>k_is);(case m0k=>k_is);(case m1a=>k_is);(case m1i=>k_is);(case m1l=>k_is);(case m1c=>k_is);(case m1k=>k_is);(case m2a=>k_is);(case m2i=>k_is);(case m2l=>k_is);(case m2c=>k_is);(case m2k=>k_is);(case m3a=>k_is);(case m3i=>k_is);(case m3l=>k_is);(case m3c=>k_is);(case m3k=>k_is);(case m4a=>k_is);(case m4i=>k_is);(case m4l=>k_is);(case m4c=>k_is);(case m4k=>k_is);(case m5a=>k_is);(case m5i=>k_is);(case m5l=>k_is);(case m5c=>k_is);(case m5k=>k_is);(case m6a=>k_is);(case m6i=>k_is);(case m6l=>k_is);(case m6c=>k_is);(case m6k=>k_is)) (by dsimp only [L2.o9];refine' ⟨_,Ov.uS KX G ?a ?pg ?hd ?po ?sa ?mk ?kc,?n0,?n1,?n2,Ov.bc ?m0a ?m0i ?m0l ?m0c ?m0k,Ov.bc ?m1a ?m1i ?m1l ?m1c ?m1k,Ov.bc ?m2a ?m2i ?m2l ?m2c ?m2k,Ov.bc ?m3a ?m3i ?m3l ?m3c ?m3k,Ov.bc ?m4a ?m4i ?m4l ?m4c ?m4k,Ov.bc ?m5a ?m5i ?m5l ?m5c ?m5k,Ov.bc ?m6a ?m6i ?m6l ?m6c ?m6k,Ov.bc ?m7a ?m7i ?m7l ?m7c ?m7k,Ov.bc ?m8a ?m8i ?m8l ?m8c ?m8k,Ov.bc ?m9a ?m9i ?m9l ?m9c ?m9k,Ov.bc ?m10a ?m10i ?m10l ?m10c ?m10k,Ov.bc ?m11a ?m11i ?m11l ?m11c ?m11k,Ov.bc ?m12a ?m12i ?m12l ?m12c ?m12k,Ov.bc ?m13a ?m13i ?m13l ?m13c ?m13k,Ov.bc ?m14a ?m14i ?m14l ?m14c ?m14k,Ov.bc ?m15a ?m15i ?m15l ?m15c ?m15k,Ov.bc ?m16a ?m16i ?m16l ?m16c ?m16k⟩;(case a=>k_is);(case pg=>k_is);(case hd=>k_is);(case po=>k_is);(case sa=>k_is);(case mk=>k_is);(case kc=>k_is);(case n0=>(show PySem.W.findIn _ _ _=_;k_is));(case n1=>(show PySem.W.findIn _ _ _=_;k_is));(case n2=>(show PySem.W.findIn _ _ _=_;k_is));(case m0a=>k_is);(case m0i=>k_is);(case m0l=>k_is);(case m0c=>k_is);(case m0k=>k_is);(case m1a=>k_is);(case m1i=>k_is);(case m1l=>k_is);(case m1c=>k_is);(case m1k=>k_is);(case m2a=>k_is);(case m2i=>k_is);(case m2l=>k_is);(case m2c=>k_is);(case m2k=>k_is);(case m3a=>k_is);(case m3i=>k_is);(case m3l=>k_is);(case m3c=>k_is);(case m3k=>k_is);(case m4a=>k_is);(case m4i=>k_is);(case m4l=>k_is);(case m4c=>k_is);(case m4k=>k_is);(case m5a=>k_is);(case m5i=>k_is);(case m5l=>k_is);(case m5c=>k_is);(case m5k=>k_is);(case m6a=>k_is);(case m6i=>k_is);(case m6l=>k_is);(case m6c=>k_is);(case m6k=>k_is);(case m7a=>k_is);(case m7i=>k_is);(case m7l=>k_is);(case m7c=>k_is);(case m7k=>k_is);(case m8a=>k_is);(case m8i=>k_is);(case m8l=>k_is);(case m8c=>k_is);(case m8k=>k_is);(case m9a=>k_is);(case m9i=>k_is);(case m9l=>k_is);(case m9c=>k_is);(case m9k=>k_is);(case m10a=>k_is);(case m10i=>k_is);(case m10l=>k_is);(case m10c=>k_is);(case m10k=>k_is);(case m11a=>k_is);(case m11i=>k_is);(case m11l=>k_is);(case m11c=>k_is);(case m11k=>k_is);(case m12a=>k_is);(case m12i=>k_is);(case m12l=>k_is);(case m12c=>k_is);(case m12k=>k_is);(case m13a=>k_is);(case m13i=>k_is);(case m13l=>k_is);(case m13c=>k_is);(case m13k=>k_is);(case m14a=>k_is);(case m14i=>k_is);(case m14l=>k_is);(case m14c=>k_is);(case m14k=>k_is);(case m15a=>k_is);(case m15i=>k_is);(case m15l=>k_is);(case m15c=>k_is);(case m15k=>k_is);(case m16a=>k_is);(case m16i=>k_is);(case m16l=>k_is);(case m16c=>k_is);(case m16k=>k_is)) (by dsimp only [L2.o9];refine' ⟨_,Ov.uS KX G ?a ?pg ?hd ?po ?sa ?mk ?kc,?n0,Ov.bc ?m0a ?m0i ?m0l ?m0c ?m0k,Ov.bc ?m1a ?m1i ?m1l ?m1c ?m1k,Ov.bc ?m2a ?m2i ?m2l ?m2c ?m2k,Ov.bc ?m3a ?m3i ?m3l ?m3c ?m3k⟩;(case a=>k_is);(case pg=>k_is);(case hd=>k_is);(case po=>k_is);(case sa=>k_is);(case mk=>k_is);(case kc=>k_is);(case n0=>(show PySem.W.findIn _ _ _=_;k_is));(case m0a=>k_is);(case m0i=>k_is);(case m0l=>k_is);(case m0c=>k_is);(case m0k=>k_is);(case m1a=>k_is);(case m1i=>k_is);(case m1l=>k_is);(case m1c=>k_is);(case m1k=>k_is);(case m2a=>k_is);(case m2i=>k_is);(case m2l=>k_is);(case m2c=>k_is);(case m2k=>k_is);(case m3a=>k_is);(case m3i=>k_is);(case m3l=>k_is);(case m3c=>k_is);(case m3k=>k_is)) (by simp_arith) (by simp_arith) (by simp_arith) (by simp_arith) (by simp_arith) (by simp_arith) (by simp_arith) (by simp_arith) (by simp_arith) gu (by simp_arith) (by simp_arith) (by simp_arith) (by simp_arith) (by simp_arith) (by simp_arith) (by simp_arith) (by simp_arith) (by simp_arith) (by simp_arith) (by simp_arith) (by simp_arith) (by simp_arith) (by simp_arith) (by simp_arith) (by simp_arith) (by simp_arith) (by simp_arith) (by simp_arith) (by simp_arith) (by simp_arith) (by simp_arith) (by simp_arith) (by simp_arith) F base Bm)⟩
