import PyProof.Rows.All
import Wide.All
import OpenK.AllK
import Wide.FinOn
import Lean
import PyProof.EqAt
import PyProof.EqKinds
import PyProof.TupleCall
import PyProof.NeKinds
import PyProof.CompFree
import PyProof.CompMap
import PyProof.ListRange
import PyProof.Rows.SortWalk
import PyProof.ExcArgsOwn
import PyProof.ExcAttrAll.ValueError
import KE.KTryMore
import PyProof.GenCompD
import PyProof.StrWalks
import PyProof.ConsumeS
import PyProof.StrOps2
import KE.KRevIter
import PyProof.Rows.FStr
import PyProof.ZipIter
import PyProof.DictWalks
import PyProof.DictCompW
import PyProof.DictRoads
import PyProof.MeetsDictList
import KE.KDictList
import PyProof.EnumFor
import PyProof.EnumMake
import PyProof.WalksEnum
import KE.KIntText
import PyProof.Rows.StrNews
import PyProof.StrLawsReplace
import PyProof.StrLawsIdx
import KE.KDictOf
import KE.KxMul
import KE.IntTextText
import PySem.Challenge.RW_overhaul_k53_lines_refused
noncomputable section
set_option compiler.extract_closed false
set_option Elab.async false
set_option linter.all false
set_option maxRecDepth 100000
open List renaming length_map→D0,size_toArray→D3,mem_cons→D6,mem_append_right→D7,mem_cons_of_mem→D8,getElem?_eq_getElem→D9,map_cons→D_,getElem?_eq_some_iff→D',replicate→Ea,getElem?_map→Eb,mem_of_getElem?→Ed,length_cons→Ee,getElem?_set_self→Eg,not_mem_nil→Ei,length_take→Ek,map_append→El,all_eq_true→Em,getElem?_cons_succ→Eo,mem_cons_self→Ep,mem_singleton→Es,eq_nil_of_length_eq_zero→Et,take_add_one→Eu,range→Ey,take_length→Ez,getElem?_set_ne→EA,mem_map→EB,mem_append→EC,replicate_succ→ED,getElem?_append_right→EE,length_append→EF,getElem?_eq_none→EG,getElem?_append_left→EH,filterMap_cons→EJ,lookup_cons→EK,getElem_mem→EL,mem_range→EM,take_of_length_le→EO,length_replicate→ES,mem_append_left→ET,mem_of_mem_take→EV,mem_filterMap→EX,append_nil→EY,length_set→EZ,flatten_cons→E3,length_range→E4,nodup_cons→E6,map_nil→E8,length→Fc,getElem?_replicate→Fd,lookup_eq_some_iff→Fe,getElem?_cons_zero→Ff,any_cons→Fh,map_take→Fi,filter_cons→Fj,head?_eq_some_iff→Fl,of_mem_zip→Fn,foldl_cons→Fp,dropLast_eq_take→Fq,map_map→Fu,length_pos_iff→Fw,map_congr_left→Fx,take_sublist→Fz,reverse_cons→FA,getElem_inj→FE,length_drop→FF,any_eq_true→FJ,cons_append→FK,mem_filter→FL,forIn_cons→FN,map_id→FR,all_append→FT,map→FZ
open Nat renaming le_trans→D1,lt_of_lt_of_le→D4,le_refl→D5,ne_of_lt→Ej,lt_irrefl→Ew,zero_le→Ex,mul_le_mul_right→EU,add_le_add_right→EW,pow_le_pow_right→E5,le_of_lt→E7,lt_of_le_of_lt→E9,ne_of_gt→Fm,lt_or_ge→Ft,min_self→FD,not_lt_zero→FO
open Bool renaming false_ne_true→Ec,false_eq_true→Ef,and_eq_true→Eh,eq_iff_iff→EI,and_false→EN,and_true→E1,eq_false_iff→Fb,beq_eq_decide_eq→Fs,false_and→Fv,not_eq_false'→Fy,not_eq_true'→FC,decide_and→FP
open Option renaming map_eq_some_iff→ER,isSome_iff_exists→E_,getD_none→FG
namespace L2
open PySem PySem.Spec PyProof.Rows
abbrev Key:=Sum Int Str
def wz:Key→Value→Bool
 | .inl k,v=>Value.isInt k v
 | .inr x,v=>Value.isStrOf x v
def Cb (w:World):Key→Int
 | .inl k=>hashInt k
 | .inr x=>hashStr w x
theorem bu:∀{k:Key} {v:Value},wz k v=true→(∃i t,k=Sum.inl i∧v=Value.int i t)∨(∃x t,k=Sum.inr x∧v=Value.str x t)
 | .inl i,v,h=>by
  obtain ⟨t,e⟩:=Value.isInt_shape (k:=i) (v:=v) h
  exact .inl ⟨i,t,rfl,e⟩
 | .inr x,v,h=>by
  obtain ⟨t,e⟩:=Value.isStrOf_shape (x:=x) (v:=v) h
  exact .inr ⟨x,t,rfl,e⟩
theorem x8 (a b:Int):decide ((Sum.inl a:Key)=Sum.inl b)=(a == b):=by
 by_cases e:a=b
 ·subst e;simp
 ·have h:¬ (Sum.inl a:Key)=Sum.inl b:=λq=>e (Sum.inl.inj q)
  rw [decide_eq_false h]
  exact (beq_eq_false_iff_ne.mpr e).symm
theorem x' (a b:Str):decide ((Sum.inr a:Key)=Sum.inr b)=decide (a=b):=by
 by_cases e:a=b
 ·subst e;simp
 ·have h:¬ (Sum.inr a:Key)=Sum.inr b:=λq=>e (Sum.inr.inj q)
  rw [decide_eq_false h,decide_eq_false e]
theorem x9 (a:Int) (b:Str):decide ((Sum.inl a:Key)=Sum.inr b)=false:=decide_eq_false (λq=>nomatch q)
theorem x_ (a:Str) (b:Int):decide ((Sum.inr a:Key)=Sum.inl b)=false:=decide_eq_false (λq=>nomatch q)
def ve (prog:Program) (w:World):PySem.KeyKind prog w Key where
 is:=wz
 hash:=Cb w
 inj:=λv a b ha hb=>by
  rcases bu ha with ⟨i,t,rfl,rfl⟩ | ⟨x,t,rfl,rfl⟩
  ·rcases bu hb with ⟨j,u,rfl,e⟩ | ⟨y,u,rfl,e⟩
   ·injection e with e1 _;rw [e1]
   ·exact nomatch e
  ·rcases bu hb with ⟨j,u,rfl,e⟩ | ⟨y,u,rfl,e⟩
   ·exact nomatch e
   ·injection e with e1 _;rw [e1]
 byValue:=λk v h=>by
  rcases bu h with ⟨i,t,rfl,rfl⟩ | ⟨x,t,rfl,rfl⟩ <;> rfl
 pyHash:=λhv h=>by
  rcases bu hv with ⟨i,t,rfl,rfl⟩ | ⟨x,t,rfl,rfl⟩
  ·exact wpAny_pyHash_int h
  ·exact wpAny_pyHash_str h
 eqBool:=λhu hv h=>by
  rcases bu hu with ⟨i,t,rfl,rfl⟩ | ⟨x,t,rfl,rfl⟩
  ·rcases bu hv with ⟨j,u,rfl,rfl⟩ | ⟨y,u,rfl,rfl⟩
   ·rw [x8] at h;exact wpAny_eqBool_int h
   ·rw [x9] at h;exact SeqAt.EqAt.int_str i t y u _ _ _ _ h
  ·rcases bu hv with ⟨j,u,rfl,rfl⟩ | ⟨y,u,rfl,rfl⟩
   ·rw [x_] at h;exact SeqAt.EqAt.str_int x t j u _ _ _ _ h
   ·rw [x'] at h;exact wpAny_eqBool_str h
 «strs»:=λk x t v h=>by
  rcases bu h with ⟨i,u,rfl,e⟩ | ⟨y,u,rfl,e⟩
  ·exact nomatch e
  ·injection e with e1 _
   subst e1
   cases v <;> rfl
end L2
namespace L2
open PySem PySem.Spec PyProof.Rows
inductive V where
 | non | bl (b:Bool) | int (i:Int) | str (x:Str) | byt (b:Array UInt8) | flt (b:UInt64) | ref (a:Addr) | ty (n:String)
 deriving DecidableEq
def RelV:V→Value→Prop
 | .non,u=>u=Value.none
 | .bl b,u=>u=Value.bool b
 | .int i,u=>∃t,u=Value.int i t
 | .str x,u=>∃t,u=Value.str x t
 | .byt b,u=>∃t,u=Value.bytes b t
 | .flt b,u=>∃t,u=Value.float b t
 | .ref a,u=>u=Value.ref a
 | .ty n,u=>u=Value.type n
abbrev Vals:List V→List Value→Prop:=Paired RelV
theorem Vals.length {xs:List V} {us:List Value} (r:Vals xs us):xs.length=us.length:=Paired.length r
theorem Vals.get:∀{xs:List V} {us:List Value} {i:Nat} {x:V},Vals xs us→xs[i]?=some x→∃u,us[i]?=some u∧RelV x u
 | _,_,_,_,.nil,e=>by simp at e
 | _,_,0,_,.cons r _,e=>by simp at e;subst e;exact ⟨_,rfl,r⟩
 | _,_,i + 1,x,.cons _ t,e=>by
  obtain ⟨u,h1,h2⟩:=Vals.get (i:=i) (x:=x) t (by simpa using e)
  exact ⟨u,by simpa using h1,h2⟩
theorem Vals.set {x:V} {u:Value} (r:RelV x u):∀{xs:List V} {us:List Value} (i:Nat),Vals xs us→Vals (xs.set i x) (us.set i u)
 | _,_,_,.nil=>.nil
 | _,_,0,.cons _ t=>.cons r t
 | _,_,i + 1,.cons q t=>.cons q (Vals.set r i t)
theorem Vals.append:∀{xs ys:List V} {us ws:List Value},Vals xs us→Vals ys ws→Vals (xs ++ ys) (us ++ ws)
 | _,_,_,_,.nil,s=>s
 | _,_,_,_,.cons r t,s=>.cons r (Vals.append t s)
theorem Vals.take:∀{xs:List V} {us:List Value} (n:Nat),Vals xs us→Vals (xs.take n) (us.take n)
 | _,_,0,_=>.nil
 | _,_,_ + 1,.nil=>.nil
 | _,_,n + 1,.cons r t=>.cons r (Vals.take n t)
theorem Vals.drop:∀{xs:List V} {us:List Value} (n:Nat),Vals xs us→Vals (xs.drop n) (us.drop n)
 | _,_,0,r=>r
 | _,_,_ + 1,.nil=>.nil
 | _,_,n + 1,.cons _ t=>Vals.drop n t
def xx:Option V→Option Value→Prop
 | some v,some u=>RelV v u
 | none,none=>True
 | _,_=>False
def KV {κ:Type}:List (κ × V)→List (κ × Value)→Prop:=Paired λ(p:κ × V) (q:κ × Value)=>p.1=q.1∧RelV p.2 q.2
def kV:Key→V
 | .inl i=>.int i
 | .inr x=>.str x
inductive HO where
 | lst (xs:List V)
 | tup (xs:List V)
 | dK (kvs:List (Key × V)) | dE (kvs:List (Str × V)) (ep:Nat)
 | set (S:Int→Bool) (n:Nat)
 | ins (C dx:Addr) (fs:List (Str × V))
 | own (x:Addr)
 | xd (fs:List (Str × V))
 | met (f x:Addr)
 | yV (lo hi:Int)
 | ky (o:Obj) (u:HO)
 | tbl (ps:Array Value)
 | ext (φ:Heap→Prop)
abbrev Hp:=Addr→Option HO
def upd (H:Hp) (a:Addr) (o:HO):Hp:=λb=>if b=a then some o else H b
theorem aq {H:Hp} {a:Addr} {o:HO}:upd H a o a=some o:=by unfold upd;rw [if_pos rfl]
theorem aB {H:Hp} {a b:Addr} {o:HO} (h:b≠a):upd H a o b=H b:=by unfold upd;rw [if_neg h]
theorem wb {H:Hp} {a:Addr} {o u:HO}:upd (upd H a o) a u=upd H a u:=by
 funext b;unfold upd;split <;> rfl
theorem aR {H:Hp} {a b:Addr} {o:HO} (h:H a=some o) (h':H b=none):a≠b:=by
 intro e;subst e;rw [h] at h';cases h'
section
variable (P:Program) (w:World)
def bJ (H:Hp) (h:Heap) (a:Addr):HO→Prop
 | .lst xs=>xs.length≤sizeLine∧∃(aQ:List Value) (n:Nat),Vals xs aQ∧h.get? a=some { cls:=.type "list",data:=.seq aQ.toArray n }
 | .tup xs=>xs.length≤sizeLine∧∃aQ:List Value,Vals xs aQ∧IsTup h a aQ.toArray
 | .dK kvs=>kvs.length≤sizeLine∧(a == sysModules)=false∧∃vs,KV kvs vs∧h.DictOf (ve P w) a vs
 | .dE kvs ep=>kvs.length≤sizeLine∧(a == sysModules)=false∧∃vs,KV kvs vs∧h.DictAt (strKind P w) a vs ep
 | .set S n=>h.SetOf (intKind P w) a S n
 | .ins C dx fs=>H dx=some (.own a)∧fs.length≤1000∧dx≠a∧h.get? a=some (PySem.W.instObj C dx) ∧
   ∃mA,h.Ns1 dx mA∧(∀f,xx (fs.lookup f) (mA f))∧PySem.Within mA (fs.map (·.1))
 | .own _=>∃o,h.get? a=some o
 | .xd fs=>∃mA,h.Ns1 a mA∧∀f,xx (fs.lookup f) (mA f)
 | .yV lo hi=>∃t u v,h.get? a=some { cls:=.type "range",data:=.fields #[.int lo t,.int hi u,.int 1 v] }
 | .ky o u=>h.get? a=some o∧bJ H h a u
 | .tbl ps=>h.get? a=some { cls:=.none,data:=.fields ps }
 | .met f x=>h.get? a=some (PySem.W.methodObj (.ref f) (.ref x))
 | .ext φ=>φ h∧(∃o,h.get? a=some o)∧∀h1 h2:Heap,φ h1→(∀o,h1.get? a=some o→h2.get? a=some o)→φ h2
def fK (H:Hp) (h:Heap):Prop:=∀a o,H a=some o→bJ P w H h a o
end
section
variable {P:Program} {w:World} {H H':Hp} {h h':Heap} {a:Addr} {o:HO}
theorem bJ.lt (x:bJ P w H h a o):a < h.objs.size:=by
 cases o with
 | lst xs=>obtain ⟨_,_,_,_,e⟩:=x;exact Heap.lt_size e
 | tup xs=>obtain ⟨_,_,_,p⟩:=x;exact p.lt
 | dK kvs=>obtain ⟨_,_,_,_,o,_,_,e,_⟩:=x;exact Heap.lt_size e
 | dE kvs ep=>obtain ⟨_,_,_,_,o,_,e,_⟩:=x;exact Heap.lt_size e
 | set S n=>obtain ⟨o,_,_,_,e,_⟩:=x;exact Heap.lt_size e
 | ins C dx fs=>obtain ⟨_,_,_,e,_⟩:=x;exact Heap.lt_size e
 | own y=>obtain ⟨_,e⟩:=x;exact Heap.lt_size e
 | xd fs=>obtain ⟨_,⟨_,_,_,e,_⟩,_⟩:=x;exact Heap.lt_size e
 | yV lo hi=>obtain ⟨_,_,_,e⟩:=x;exact Heap.lt_size e
 | ky ob u=>obtain ⟨e,_⟩:=x;exact Heap.lt_size e
 | tbl ps=>exact Heap.lt_size (show h.get? a=some _ from x)
 | met f y=>exact Heap.lt_size (show h.get? a=some _ from x)
 | ext φ=>obtain ⟨_,⟨_,e⟩,_⟩:=x;exact Heap.lt_size e
theorem bJ.j' (x:bJ P w H h a o) (k:∀b u,(b=a∨H b=some (.own a))→h.get? b=some u→h'.get? b=some u)
  (ho:∀b,H b=some (.own a)→H' b=some (.own a)) (ht:∀b xs,H b=some (.tup xs)→H' b=some (.tup xs)):bJ P w H' h' a o:=by
 induction o with
 | lst xs=>obtain ⟨z,aQ,n,r,e⟩:=x;exact ⟨z,aQ,n,r,k _ _ (.inl rfl) e⟩
 | tup xs=>obtain ⟨z,aQ,r,ob,e,c⟩:=x;exact ⟨z,aQ,r,ob,k _ _ (.inl rfl) e,c⟩
 | dK kvs=>obtain ⟨z,y,vs,r,ob,es,ep,e,c⟩:=x;exact ⟨z,y,vs,r,ob,es,ep,k _ _ (.inl rfl) e,c⟩
 | dE kvs ep=>obtain ⟨z,y,vs,r,ob,es,e,c⟩:=x;exact ⟨z,y,vs,r,ob,es,k _ _ (.inl rfl) e,c⟩
 | set S n=>obtain ⟨ob,es,ep,t,e,c⟩:=x;exact ⟨ob,es,ep,t,k _ _ (.inl rfl) e,c⟩
 | ins C dx fs =>
  obtain ⟨d,z,ne,e,mA,⟨od,es,ep,e2,c⟩,r⟩:=x
  exact ⟨ho _ d,z,ne,k _ _ (.inl rfl) e,mA,⟨od,es,ep,k _ _ (.inr d) e2,c⟩,r⟩
 | own y=>obtain ⟨ob,e⟩:=x;exact ⟨ob,k _ _ (.inl rfl) e⟩
 | xd fs=>obtain ⟨mA,⟨od,es,ep,e,c⟩,r⟩:=x;exact ⟨mA,⟨od,es,ep,k _ _ (.inl rfl) e,c⟩,r⟩
 | yV lo hi=>obtain ⟨t,u,v,e⟩:=x;exact ⟨t,u,v,k _ _ (.inl rfl) e⟩
 | ky ob u ih=>obtain ⟨e,q⟩:=x;exact ⟨k _ _ (.inl rfl) e,ih q⟩
 | tbl ps =>
  have e:h.get? a=some { cls:=.none,data:=.fields ps }:=x
  show h'.get? a=some { cls:=.none,data:=.fields ps }
  exact k a _ (.inl rfl) e
 | met f y =>
  have e:h.get? a=some (PySem.W.methodObj (.ref f) (.ref y)):=x
  show h'.get? a=some (PySem.W.methodObj (.ref f) (.ref y))
  exact k a _ (.inl rfl) e
 | ext φ=>obtain ⟨p,⟨o,e⟩,st⟩:=x;exact ⟨st _ _ p λo q=>k _ _ (.inl rfl) q,⟨o,k _ _ (.inl rfl) e⟩,st⟩
theorem fK.lt (x:fK P w H h) (e:H a=some o):a < h.objs.size:=(x a o e).lt
theorem fK.fresh (x:fK P w H h) (e:h.objs.size≤a):H a=none:=by
 cases q:H a with
 | none=>rfl
 | some u=>exact absurd (D4 (x.lt q) e) (Ew _)
theorem fK.kept (x:fK P w H h) (k:∀b u,h.get? b=some u→h'.get? b=some u):fK P w H h':=λa o e =>
 (x a o e).j' (λb u _ q=>k b u q) (λ_ q=>q) λ_ _ q=>q
theorem fK.laid (x:fK P w H h) (k:∀b u,h.get? b=some u→h'.get? b=some u) (hp:h.objs.size≤a) (new:bJ P w (upd H a o) h' a o):fK P w (upd H a o) h':=λb u e=>by
 have hn:=x.fresh hp
 by_cases hb:b=a
 ·subst hb;rw [aq] at e;cases e;exact new
 ·rw [aB hb] at e
  exact (x b u e).j' (λc v _ q=>k c v q) (λc q=>by rw [aB (aR q hn)];exact q) λc xs q=>by rw [aB (aR q hn)];exact q
end
def Rd (H:Hp) (a:Addr) (u:HO):Prop:=H a=some u∨∃o,H a=some (.ky o u)
theorem Rd.ok {P:Program} {w:World} {H:Hp} {h:Heap} {a:Addr} {u:HO} (r:Rd H a u) (x:fK P w H h):bJ P w H h a u:=by
 rcases r with r | ⟨o,r⟩
 ·exact x a u r
 ·obtain ⟨_,q⟩:=x a _ r
  exact q
def BA:Option HO→Prop
 | some (.lst _)=>True
 | some (.dK _)=>True
 | some (.dE _ _)=>True
 | some (.set _ _)=>True
 | some (.ins _ _ _)=>True
 | some (.ext _)=>True
 | _=>False
section
variable {P:Program} {w:World} {H:Hp} {h h':Heap} {x e:Addr} {o':HO}
theorem fK.write (ok:fK P w H h) (mu:BA (H x)) (he:e=x∨H e=some (.own x)) (k:∀b u,b≠e→h.get? b=some u→h'.get? b=some u) (heo:∃u,h'.get? e=some u)
  (new:bJ P w (upd H x o') h' x o'):fK P w (upd H x o') h':=λb u q=>by
 have nown:∀c y,H c=some (.own y)→c≠x:=λc y r z=>by subst z;rw [r] at mu;exact mu
 have ntup:∀c xs,H c=some (.tup xs)→c≠x:=λc xs r z=>by subst z;rw [r] at mu;exact mu
 by_cases hb:b=x
 ·subst hb;rw [aq] at q;cases q;exact new
 ·rw [aB hb] at q
  by_cases hbe:b=e
  ·have q':H b=some (.own x):=by
    rcases he with z | z
    ·exact absurd (hbe.trans z) hb
    ·rw [hbe];exact z
   rw [q] at q';cases q'
   obtain ⟨v,hv⟩:=heo
   exact ⟨v,by rw [hbe];exact hv⟩
  ·refine (ok b u q).j' (λc v hc r=>k c v ?_ r) (λc r=>by rw [aB (nown c b r)];exact r) λc xs r=>by rw [aB (ntup c xs r)];exact r
   rcases hc with rfl | hc
   ·exact hbe
   ·rintro rfl
    rcases he with z | z
    ·exact nown c b hc z
    ·rw [hc] at z;cases z;exact hb rfl
end
structure Un (fs ex:List Addr) (H H':Hp) (h h':Heap):Prop where
 keep:∀b o,h.get? b=some o→H b=none→b ∉ fs→b ∉ ex→h'.get? b=some o
 slot:∀b o,h.get? b=some o→H b=none→b∈fs→b ∉ ex→∃sl,h'.get? b=some { o with slots:=sl }
 free:∀b o,h.get? b=some o→H b=none→b ∉ ex→H' b=none
 there:∀b o,h.get? b=some o→b ∉ ex→∃o',h'.get? b=some o'
 tups:∀b xs,H b=some (.tup xs)→H' b=some (.tup xs)
 frzs:∀b o u,H b=some (.ky o u)→H' b=some (.ky o u)
 tbls:∀b ps,H b=some (.tbl ps)→∃more,H' b=some (.tbl (ps ++ more))
section
variable {fs fs' ex ex':List Addr} {H H1 H2:Hp} {h h1 h2 h':Heap} {a x e:Addr} {o:HO}
theorem Un.any (u:Un fs ex H H1 h h1) {b:Addr} {ob:Obj} (q:h.get? b=some ob) (n:H b=none) (hx:b ∉ ex):∃sl,h1.get? b=some { ob with slots:=sl }:=by
 by_cases hb:b∈fs
 ·exact u.slot b ob q n hb hx
 ·exact ⟨ob.slots,u.keep b ob q n hb hx⟩
theorem Un.kept (k:∀b u,h.get? b=some u→h'.get? b=some u):Un fs ex H H h h' :=
 ⟨λb ob q _ _ _=>k b ob q,λb ob q _ _ _=>⟨ob.slots,k b ob q⟩,λ_ _ _ n _=>n,λb ob q _=>⟨ob,k b ob q⟩,λ_ _ q=>q,λ_ _ _ q=>q,λ_ ps q=>⟨#[],by rw [q];simp⟩⟩
theorem Un.refl:Un fs ex H H h h:=Un.kept λ_ _ q=>q
theorem Un.laid (k:∀b u,h.get? b=some u→h'.get? b=some u) (hp:h.objs.size≤a) (hn:H a=none):Un fs ex H (upd H a o) h h' where
 keep:=λb u q _ _ _=>k b u q
 slot:=λb u q _ _ _=>⟨u.slots,k b u q⟩
 free:=λb u q n _=>by rw [aB (Ej (D4 (Heap.lt_size q) hp))];exact n
 there:=λb u q _=>⟨u,k b u q⟩
 tups:=λb xs q=>by rw [aB (aR q hn)];exact q
 frzs:=λb u xs q=>by rw [aB (aR q hn)];exact q
 tbls:=λb ps q=>⟨#[],by rw [aB (aR q hn),q];simp⟩
theorem Un.write (mu:BA (H x)) (he:e=x∨H e=some (.own x)) (k:∀b u,b≠e→h.get? b=some u→h'.get? b=some u) (heo:∃u,h'.get? e=some u):Un fs ex H (upd H x o) h h':=by
 have hx:∀b,H b=none→b≠x:=λb n z=>by subst z;rw [n] at mu;exact mu
 have hb:∀b,H b=none→b≠e:=λb n z=>by
  subst z
  rcases he with r | r
  ·exact hx b n r
  ·rw [n] at r;cases r
 have hm:∀b u,H b=some u→¬ BA (some u)→b≠x:=λb u q nm z=>by subst z;rw [q] at mu;exact nm mu
 refine ⟨λb u q n _ _=>k b u (hb b n) q,λb u q n _ _=>⟨u.slots,k b u (hb b n) q⟩,λb u q n _=>by rw [aB (hx b n)];exact n,λb u q _=>?_,
  λb xs q=>by rw [aB (hm b _ q λz=>z)];exact q,λb u xs q=>by rw [aB (hm b _ q λz=>z)];exact q,λb ps q=>⟨#[],by rw [aB (hm b _ q λz=>z),q];simp⟩⟩
 by_cases hbe:b=e
 ·subst hbe;exact heo
 ·exact ⟨u,k b u hbe q⟩
end
def y' (h:Heap) (H:Hp):List Addr:=(Ey h.objs.size).filter λa=>(H a).isSome
def j6 (h:Heap) (H:Hp):Heap:=PySem.W.hideAll h (y' h H)
theorem qv (h:Heap) (H:Hp):(j6 h H).objs.size=h.objs.size:=PySem.W.hideAll_size _ _
theorem su {h:Heap} {H:Hp} {b:Addr} {o:Obj} (e:h.get? b=some o) (n:H b=none):(j6 h H).get? b=some o :=
 PySem.W.hideAll_get _ e λhm=>by
  have q:(H b).isSome=true:=(FL.mp hm).2
  rw [n] at q;simp at q
theorem vi {h:Heap} {H:Hp} {b:Addr} {o:Obj} (e:(j6 h H).get? b=some o):h.get? b=some o∧H b=none:=by
 have e':h.get? b=some o:=PySem.W.of_hideAll (y' h H) e
 refine ⟨e',?_⟩
 cases q:H b with
 | none=>rfl
 | some x =>
  have hm:b∈y' h H:=FL.mpr ⟨EM.mpr (Heap.lt_size e'),by simp [q]⟩
  have z:(j6 h H).get? b=none:=PySem.W.hideAll_none (y' h H) hm
  rw [z] at e;cases e
def uH (g h:Heap) (L:Addr):List (Addr × Obj):=(Ey h.objs.size).filterMap λa=>if a=L∨(g.get? a).isSome=true then none else (h.get? a).map λo=>(a,o)
def rest (g h:Heap) (L d:Addr):List (Addr × Obj):=(uH g h L).filter λp=>decide (p.1≠d)
end L2
namespace L2
open PySem PySem.Spec PyProof.Rows
structure Mod (K:PySem.W.Frag) (mg:Str→Option Value) (base:Heap):Prop where
 kin:K.In base
 glob:base.Ns mainGlobals mg
 blt:∃mb,base.Ns builtinsNs mb∧∀x:Str,x≠"__name__"→mb x=bootBuiltins x
 nolimit:base.NoLimit
structure Cx where
 prog:Program
 w:World
 K:PySem.W.Frag
 mg:Str→Option Value
 base:Heap
 A:Around
 N:List Str
 s₀:Shared
 H₀:Hp
 env:Env
 outer:List Env
 stack:List Env
 ex:List Addr
 fn:Str→Bool
 calm:Bool
 pn:List (Addr × Obj)
 xe:Value→Shared→Prop
def cV (l:List Env):List Addr:=l.filterMap (·.frame)
abbrev Cx.fs (X:Cx):List Addr:=cV X.outer
def jc (sc:Scope) (x:Str):Prop:=sc.names.lookup x=some .local∨sc.names.lookup x=some .cell∨sc.names.lookup x=some .free
def Loc (sc:Scope) (x:Str):Prop:=sc.names.lookup x=some .local∨sc.names.lookup x=some .cell
def Look (env:Env) (h:Heap) (m:Str→Option Value) (x:Str) (u:Value):Prop :=
 (env.kindOf x=some .local∧m x=some u)∨((env.kindOf x=some .cell∨env.kindOf x=some .free)∧∃c,env.cells.lookup x=some c∧h.IsCell c (some u))
structure Cx.Ok (X:Cx):Prop where
 mod:Mod X.K X.mg X.base
 kind:X.env.scope.kind=.function
 glob:X.env.globals=mainGlobals
 blt:X.env.builtins=builtinsNs
 above:X.s₀.heap.objs.size≤X.env.locals
 inj:∀x y c,X.env.cells.lookup x=some c→X.env.cells.lookup y=some c→x=y
 has:∀x,(X.env.kindOf x=some .cell∨X.env.kindOf x=some .free)→∃c,X.env.cells.lookup x=some c
 cab:∀x c,X.fn x=true→X.env.cells.lookup x=some c→X.s₀.heap.objs.size≤c
 hd:X.calm=true→X.A.handled=none
 frames:X.A.frames=some X.stack
 stk:X.stack=X.outer∨(X.stack=X.env :: X.outer∧X.env.frame=some X.env.locals)
 exf:∀b∈X.ex,b≠X.env.locals∧∀x c,X.env.cells.lookup x=some c→c≠b
 bs:∀b o,X.base.get? b=some o→X.s₀.heap.get? b=some o∧X.H₀ b=none
 bsz:X.base.objs.size≤X.s₀.heap.objs.size
 noex:∀b o,X.base.get? b=some o→b ∉ X.ex
 exfs:∀b∈X.ex,b ∉ X.fs
 fG:X.s₀.heap.FunFrames X.base X.outer
 frf:∀b∈X.fs,X.H₀ b=none
structure Inv (X:Cx) (pins:List (Addr × Obj)) (σ:List (Option V)) (H:Hp) (s:Shared):Prop where
 ok:X.Ok
 os:s.os=X.s₀.os
 bare:AllBare s.gens
 base:Un X.fs X.ex X.H₀ H X.s₀.heap s.heap
 loc:∃m,s.heap.Ns X.env.locals m∧∀(i:Nat) (x:Str) (v:V),X.N[i]?=some x→σ[i]?=some (some v)→jc X.env.scope x→∃u,RelV v u∧Look X.env s.heap m x u
 cell:∀x c,X.env.cells.lookup x=some c→∃v,s.heap.IsCell c v
 free:H X.env.locals=none
 freeC:∀x c,X.env.cells.lookup x=some c→H c=none
 pin:∀p∈X.pn ++ pins,s.heap.get? p.1=some p.2∧H p.1=none∧p.1≠X.env.locals∧p.1 ∉ X.fs∧∀v,p.2.data≠.cell v
 hok:fK X.prog X.w H s.heap
 len:σ.length=X.N.length
section
variable {X:Cx} {pins:List (Addr × Obj)} {σ:List (Option V)} {H H':Hp} {s:Shared} {h':Heap}
theorem Cx.Ok.Cj (ok:X.Ok) {b:Addr} {o:Obj} (e:X.base.get? b=some o):b ∉ X.fs:=λhb=>by
 have:=(ok.fG.mem hb).1
 rw [e] at this;cases this
theorem Inv.bs (I:Inv X pins σ H s):∀b o,X.base.get? b=some o→s.heap.get? b=some o∧H b=none:=λb o e =>
 ⟨I.base.keep b o (I.ok.bs b o e).1 (I.ok.bs b o e).2 (I.ok.Cj e) (I.ok.noex b o e),I.base.free b o (I.ok.bs b o e).1 (I.ok.bs b o e).2 (I.ok.noex b o e)⟩
theorem Inv.bk (I:Inv X pins σ H s):∀b o,X.base.get? b=some o→s.heap.get? b=some o:=λb o e=>(I.bs b o e).1
theorem Inv.mod (I:Inv X pins σ H s):Mod X.K X.mg X.base:=I.ok.mod
theorem Inv.jX (I:Inv X pins σ H s):X.K.In s.heap:=I.ok.mod.kin.keeps I.bk
theorem Inv.nolimit (I:Inv X pins σ H s):s.heap.NoLimit:=I.ok.mod.nolimit.keeps I.bk
theorem Inv.fr (I:Inv X pins σ H s):∃m,Fr X.base X.env.locals s.heap m :=
 let ⟨m,hn,_⟩:=I.loc
 ⟨m,hn,I.bk,D1 I.ok.bsz I.ok.above⟩
theorem Inv.lt (I:Inv X pins σ H s):X.env.locals < s.heap.objs.size:=let ⟨_,hn,_⟩:=I.loc;hn.lt
theorem Inv.sz (I:Inv X pins σ H s):X.s₀.heap.objs.size≤s.heap.objs.size:=D1 I.ok.above (E7 I.lt)
theorem Inv.Ck (I:Inv X pins σ H s) {a:Addr} (h:s.heap.objs.size≤a):a ∉ X.fs:=λhb=>by
 obtain ⟨_,o,ho,_⟩:=I.ok.fG.mem hb
 exact absurd (D4 (Heap.lt_size ho) (D1 I.sz h)) (Ew _)
theorem Inv.uJ (I:Inv X pins σ H s):∀x c,X.env.cells.lookup x=some c→c≠X.env.locals:=λx c e z=>by
 obtain ⟨v,o,ho,hd⟩:=I.cell x c e
 obtain ⟨m,⟨o',es,ep,ho',hd',_⟩,_⟩:=I.loc
 rw [z,ho'] at ho;cases ho;rw [hd'] at hd;cases hd
theorem Inv.fG (I:Inv X pins σ H s):s.heap.FunFrames X.base X.outer:=by
 have all:∀(l:List Env),(∀b∈cV l,b∈X.fs)→X.s₀.heap.FunFrames X.base l→s.heap.FunFrames X.base l:=by
  intro l
  induction l with
  | nil=>intro _ _;trivial
  | cons env r ih =>
   intro hs hl
   obtain ⟨hk,⟨L,o,hf,hn,ho,hd⟩,hr⟩:=hl
   have hL:L∈X.fs:=hs L (by unfold cV;rw [EJ,hf];exact Ep)
   obtain ⟨sl,e⟩:=I.base.slot L o ho (I.ok.frf L hL) hL λz=>I.ok.exfs L z hL
   exact ⟨hk,⟨L,_,hf,hn,e,hd⟩,ih (λb hb=>hs b (by unfold cV;rw [EJ,hf];exact D8 _ hb)) hr⟩
 exact all X.outer (λ_ hb=>hb) I.ok.fG
theorem Inv.stack (I:Inv X pins σ H s):s.heap.FunFrames X.base X.stack:=by
 rcases I.ok.stk with e | ⟨e,hf⟩
 ·rw [e];exact I.fG
 ·rw [e]
  obtain ⟨m,hn,_⟩:=I.loc
  refine .cons (by rw [I.ok.kind];decide) hf hn ?_ I.fG
  exact Heap.get?_none_of_le (D1 I.ok.bsz I.ok.above)
theorem Inv.fi (I:Inv X pins σ H s):∀b∈cV X.stack,b∈X.env.locals :: X.fs:=λb hb=>by
 rcases I.ok.stk with e | ⟨e,hf⟩
 ·rw [e] at hb;exact D8 _ hb
 ·rw [e] at hb
  unfold cV at hb
  rw [EJ,hf] at hb
  exact hb
theorem Inv.lY (I:Inv X pins σ H s):∀b∈cV X.stack,H b=none:=λb hb=>by
 rcases D6.mp (I.fi b hb) with e | hb
 ·rw [e];exact I.free
 ·obtain ⟨_,o,ho,_⟩:=I.ok.fG.mem hb
  exact I.base.free b o ho (I.ok.frf b hb) λz=>I.ok.exfs b z hb
theorem Inv.step {g':Array GenState} {t':Nat} {d':Drawn} {ch:List Addr} (I:Inv X pins σ H s)
  (hch:∀b∈ch,(b∈X.ex∨X.s₀.heap.objs.size≤b)∧b≠X.env.locals∧(∀x c,X.env.cells.lookup x=some c→c≠b)∧∀p∈X.pn ++ pins,p.1≠b)
  (keep:∀b o,b≠X.env.locals→b ∉ X.fs→b ∉ ch→s.heap.get? b=some o→H b=none→h'.get? b=some o)
  (slot:∀b o,b≠X.env.locals→b∈X.fs→b ∉ ch→s.heap.get? b=some o→H b=none→∃sl,h'.get? b=some { o with slots:=sl }) (free:∀b o,b ∉ ch→s.heap.get? b=some o→H b=none→H' b=none)
  (there:∀b o,b ∉ ch→s.heap.get? b=some o→∃o',h'.get? b=some o')
  (tups:∀b xs,H b=some (.tup xs)→H' b=some (.tup xs)) (frzs:∀b o u,H b=some (.ky o u)→H' b=some (.ky o u)) (tbls:∀b ps,H b=some (.tbl ps)→∃more,H' b=some (.tbl (ps ++ more)))
  (ns:∀m,s.heap.Ns X.env.locals m→h'.Ns X.env.locals m) (hok:fK X.prog X.w H' h') (hg:AllBare g') :
  Inv X pins σ H' { s with heap:=h',gens:=g',drawn:=d',toks:=t' }:=by
 have neL:∀b o,X.s₀.heap.get? b=some o→b≠X.env.locals:=λb o e=>Ej (D4 (Heap.lt_size e) I.ok.above)
 have neC:∀b o,X.s₀.heap.get? b=some o→b ∉ X.ex→b ∉ ch:=λb o e hx hb=>by
  rcases (hch b hb).1 with z | z
  ·exact hx z
  ·exact absurd (D4 (Heap.lt_size e) z) (Ew _)
 have cellK:∀x c,X.env.cells.lookup x=some c→∀v,s.heap.IsCell c v→h'.IsCell c v:=λx c e v ⟨o,ho,hd⟩=>by
  have nch:c ∉ ch:=λz=>(hch c z).2.2.1 x c e rfl
  by_cases hc:c∈X.fs
  ·obtain ⟨sl,q⟩:=slot c o (I.uJ x c e) hc nch ho (I.freeC x c e)
   exact ⟨_,q,hd⟩
  ·exact ⟨o,keep c o (I.uJ x c e) hc nch ho (I.freeC x c e),hd⟩
 refine ⟨I.ok,I.os,hg,⟨λb o e n hb hx=>?_,λb o e n hb hx=>?_,λb o e n hx=>?_,λb o e hx=>?_,λb xs e=>tups b xs (I.base.tups b xs e),λb o xs e=>frzs b o xs (I.base.frzs b o xs e),λb ps e=>?_⟩,?_,λx c e=>?_,?_,λx c e=>?_,λp hp=>?_,hok,I.len⟩
 ·exact keep b o (neL b o e) hb (neC b o e hx) (I.base.keep b o e n hb hx) (I.base.free b o e n hx)
 ·obtain ⟨sl,e1⟩:=I.base.slot b o e n hb hx
  obtain ⟨sl',e2⟩:=slot b _ (neL b o e) hb (neC b o e hx) e1 (I.base.free b o e n hx)
  exact ⟨sl',e2⟩
 ·obtain ⟨o',e1⟩:=I.base.there b o e hx
  exact free b o' (neC b o e hx) e1 (I.base.free b o e n hx)
 ·obtain ⟨o',e1⟩:=I.base.there b o e hx
  exact there b o' (neC b o e hx) e1
 ·obtain ⟨m1,e1⟩:=I.base.tbls b ps e
  obtain ⟨m2,e2⟩:=tbls b _ e1
  exact ⟨m1 ++ m2,by rw [e2,Array.append_assoc]⟩
 ·obtain ⟨m,hn,hl⟩:=I.loc
  refine ⟨m,ns m hn,λi x v e1 e2 e3=>?_⟩
  obtain ⟨u,r,l⟩:=hl i x v e1 e2 e3
  refine ⟨u,r,?_⟩
  rcases l with l | ⟨k,c,e,z⟩
  ·exact .inl l
  ·exact .inr ⟨k,c,e,cellK x c e _ z⟩
 ·obtain ⟨v,z⟩:=I.cell x c e
  exact ⟨v,cellK x c e v z⟩
 ·obtain ⟨m,⟨o,_,_,ho,_⟩,_⟩:=I.loc
  exact free _ o (λz=>(hch _ z).2.1 rfl) ho I.free
 ·obtain ⟨v,o,ho,hd⟩:=I.cell x c e
  exact free c o (λz=>(hch c z).2.2.1 x c e rfl) ho (I.freeC x c e)
 ·obtain ⟨e,n,ne,nf,d⟩:=I.pin p hp
  have nch:p.1 ∉ ch:=λz=>(hch p.1 z).2.2.2 p hp rfl
  exact ⟨keep p.1 p.2 ne nf nch e n,free p.1 p.2 nch e n,ne,nf,d⟩
theorem Inv.un {t':Nat} (I:Inv X pins σ H s) (u:Un X.fs [] H H' s.heap h') (hok:fK X.prog X.w H' h'):Inv X pins σ H' { s with heap:=h',toks:=t' }:=by
 obtain ⟨m,⟨o,es,ep,ho,r⟩,_⟩:=id I.loc
 obtain ⟨sl,hL⟩:=u.any ho I.free (by simp)
 exact I.step (g':=s.gens) (d':=s.drawn) (ch:=[]) (λ_ z=>nomatch z) (λb o _ hb _ e n=>u.keep b o e n hb (by simp)) (λb o _ hb _ e n=>u.slot b o e n hb (by simp)) (λb o _ e n=>u.free b o e n (by simp)) (λb o _ e=>u.there b o e (by simp)) u.tups u.frzs u.tbls (λm' hm=>by
  obtain ⟨o',es',ep',ho',r'⟩:=hm
  rw [ho] at ho';cases ho'
  exact ⟨_,es',ep',hL,r'⟩) hok I.bare
theorem Inv.call {g':Array GenState} {t':Nat} {d':Drawn} {ch:List Addr} (I:Inv X pins σ H s) (u:Un (cV X.stack) ch H H' s.heap h') (hok:fK X.prog X.w H' h') (hg:AllBare g')
  (hch:∀b∈ch,(b∈X.ex∨X.s₀.heap.objs.size≤b)∧b≠X.env.locals∧(∀x c,X.env.cells.lookup x=some c→c≠b)∧∀p∈X.pn ++ pins,p.1≠b) :
  Inv X pins σ H' { s with heap:=h',gens:=g',drawn:=d',toks:=t' }:=by
 obtain ⟨m,⟨o,es,ep,ho,r⟩,_⟩:=id I.loc
 obtain ⟨sl,hL⟩:=u.any ho I.free λz=>(hch _ z).2.1 rfl
 exact I.step (ch:=ch) hch (λb o hL hb hc e n=>u.keep b o e n (λz=>(D6.mp (I.fi b z)).elim hL hb) hc) (λb o _ _ hc e n=>u.any e n hc) (λb o hc e n=>u.free b o e n hc) (λb o hc e=>u.there b o e hc) u.tups u.frzs u.tbls (λm' hm=>by
  obtain ⟨o',es',ep',ho',r'⟩:=hm
  rw [ho] at ho';cases ho'
  exact ⟨_,es',ep',hL,r'⟩) hok hg
theorem Inv.turned {t':Nat} {it:Addr} (I:Inv X pins σ H s) (k:∀b o,b≠it→s.heap.get? b=some o→h'.get? b=some o) (hn:H it=none) (hL:it≠X.env.locals)
  (h1:it∈X.ex∨X.s₀.heap.objs.size≤it) (h2:∀x c,X.env.cells.lookup x=some c→c≠it) (h3:∀p∈X.pn ++ pins,p.1≠it):Inv X pins σ H { s with heap:=h',toks:=t' }:=by
 have nit:∀b u,H b=some u→b≠it:=λb u e z=>by rw [z,hn] at e;cases e
 refine I.step (g':=s.gens) (d':=s.drawn) (ch:=[it]) (λb hb=>?_) (λb o _ _ hc e _=>k b o (λz=>hc (by simp [z])) e) (λb o _ _ hc e _=>⟨o.slots,k b o (λz=>hc (by simp [z])) e⟩) (λ_ _ _ _ n=>n)
  (λb o hc e=>⟨o,k b o (λz=>hc (by simp [z])) e⟩) (λ_ _ e=>e) (λ_ _ _ e=>e) (λb ps e=>⟨#[],by rw [e];simp⟩) (λm hm=>?_) (λb u e=>?_) I.bare
 ·have e:b=it:=by simpa using hb
  subst e
  exact ⟨h1,hL,h2,h3⟩
 ·obtain ⟨o,es,ep,ho,r⟩:=hm
  exact ⟨o,es,ep,k _ o (Ne.symm hL) ho,r⟩
 ·refine (I.hok b u e).j' (λc v hc q=>k c v ?_ q) (λ_ q=>q) λ_ _ q=>q
  rcases hc with z | z
  ·rw [z];exact nit b u e
  ·exact nit c _ z
theorem Inv.tok (I:Inv X pins σ H s) (t:Nat):Inv X pins σ H { s with toks:=t }:=I.un (h':=s.heap) (t':=t) Un.refl I.hok
theorem Inv.kept {t':Nat} (I:Inv X pins σ H s) (k:∀b u,s.heap.get? b=some u→h'.get? b=some u):Inv X pins σ H { s with heap:=h',toks:=t' }:=I.un (Un.kept k) (I.hok.kept k)
theorem Inv.laid {a:Addr} {o:HO} {t':Nat} (I:Inv X pins σ H s) (k:∀b u,s.heap.get? b=some u→h'.get? b=some u) (hp:s.heap.objs.size≤a) (new:bJ X.prog X.w (upd H a o) h' a o) :
  Inv X pins σ (upd H a o) { s with heap:=h',toks:=t' }:=I.un (Un.laid k hp (I.hok.fresh hp)) (I.hok.laid k hp new)
theorem Inv.write {x e:Addr} {o:HO} {t':Nat} (I:Inv X pins σ H s) (mu:BA (H x)) (he:e=x∨H e=some (.own x)) (k:∀b u,b≠e→s.heap.get? b=some u→h'.get? b=some u) (heo:∃u,h'.get? e=some u)
  (new:bJ X.prog X.w (upd H x o) h' x o):Inv X pins σ (upd H x o) { s with heap:=h',toks:=t' }:=I.un (Un.write mu he k heo) (I.hok.write mu he k heo new)
theorem Inv.weak {σ':List (Option V)} (I:Inv X pins σ H s) (hl:σ'.length=σ.length) (w:∀(i:Nat) v,σ'[i]?=some (some v)→σ[i]?=some (some v)):Inv X pins σ' H s :=
 ⟨I.ok,I.os,I.bare,I.base,let ⟨m,hn,hl'⟩:=I.loc;⟨m,hn,λi x v e1 e2 e3=>hl' i x v e1 (w i v e2) e3⟩,I.cell,I.free,I.freeC,I.pin,I.hok,hl.trans I.len⟩
theorem Inv.pH {pins':List (Addr × Obj)} (I:Inv X pins σ H s) (h:∀p∈pins',s.heap.get? p.1=some p.2∧H p.1=none∧p.1≠X.env.locals∧p.1 ∉ X.fs∧∀v,p.2.data≠.cell v):Inv X pins' σ H s :=
 ⟨I.ok,I.os,I.bare,I.base,I.loc,I.cell,I.free,I.freeC,λp hp=>(EC.mp hp).elim (λz=>I.pin p (ET _ z)) (h p),I.hok,I.len⟩
theorem jz {N:List Str} (hN:N.Nodup) {i j:Nat} {x:Str} (a:N[i]?=some x) (b:N[j]?=some x):i=j:=by
 obtain ⟨h1,e1⟩:=D'.mp a
 obtain ⟨h2,e2⟩:=D'.mp b
 exact (FE hN).mp (e1.trans e2.symm)
theorem kL {M:Model} {A:Around} {E:Value→Shared→Prop} {i:Nat} {x:Str} {v:V} {u:Value} {Q:Unit→Shared→Prop} (I:Inv X pins σ H s) (hN:X.N.Nodup) (hi:X.N[i]?=some x) (hx:Loc X.env.scope x) (r:RelV v u)
  (h:∀s',Inv X pins (σ.set i (some v)) H s'→(∃a,Heap.SameBut a s.heap s'.heap∧(a=X.env.locals∨X.env.cells.lookup x=some a))→Q () s') (hf:X.fn x=true∨X.env.scope.names.lookup x=some .local:=by first | exact .inl rfl | exact .inr rfl | assumption):wpAny M A (storeName X.env x u) Q E s:=by
 obtain ⟨m,hn,hl⟩:=id I.loc
 have hcls:(X.env.scope.kind == .class || (X.env.scope.kind == .module && X.env.locals != X.env.globals))=false:=by rw [I.ok.kind];rfl
 have hiσ:i < σ.length:=by rw [I.len];exact (D'.mp hi).1
 have uJ:=I.uJ
 have tracked:∀{a:Addr} {h':Heap},(∃o,s.heap.get? a=some o∧H a=none)→Heap.SameBut a s.heap h'→fK X.prog X.w H h':=λ{a h'} ha hs b ob e=>by
  obtain ⟨_,_,hfree⟩:=ha
  refine (I.hok b ob e).j' (λc w' hc q=>(hs.2 c ?_).trans q) (λ_ q=>q) λ_ _ q=>q
  rintro rfl
  rcases hc with rfl | hc
  ·rw [hfree] at e;cases e
  ·rw [hfree] at hc;cases hc
 rcases hx with hk | hk
 ·refine wpAny_storeName_local hk hn (λh' hn' hs=>?_) hcls
  obtain ⟨oL,_,_,hoL,_⟩:=id hn
  refine h _ ⟨I.ok,I.os,I.bare,⟨λb o e n hb hx=>?_,λb o e n hb hx=>?_,I.base.free,λb o e hx=>?_,I.base.tups,I.base.frzs,I.base.tbls⟩,⟨_,hn',λj y v' e1 e2 e3=>?_⟩,λy c e=>?_,I.free,I.freeC,λp hp=>?_,tracked ⟨oL,hoL,I.free⟩ hs,by simpa using I.len⟩ ⟨_,hs,.inl rfl⟩
  ·exact (hs.2 b (Ej (D4 (Heap.lt_size e) I.ok.above))).trans (I.base.keep b o e n hb hx)
  ·obtain ⟨sl,e1⟩:=I.base.slot b o e n hb hx
   exact ⟨sl,(hs.2 b (Ej (D4 (Heap.lt_size e) I.ok.above))).trans e1⟩
  ·obtain ⟨o',e1⟩:=I.base.there b o e hx
   exact ⟨o',(hs.2 b (Ej (D4 (Heap.lt_size e) I.ok.above))).trans e1⟩
  ·by_cases hj:j=i
   ·subst hj
    rw [hi] at e1;cases e1
    rw [Eg hiσ] at e2
    cases e2
    exact ⟨u,r,.inl ⟨hk,by simp⟩⟩
   ·rw [EA (Ne.symm hj)] at e2
    obtain ⟨u',r',q⟩:=hl j y v' e1 e2 e3
    refine ⟨u',r',?_⟩
    rcases q with ⟨k,e⟩ | ⟨k,c,e,z⟩
    ·refine .inl ⟨k,?_⟩
     have:y≠x:=λe=>hj (jz hN e1 (e ▸ hi))
     simp [this,e]
    ·exact .inr ⟨k,c,e,z.sameBut hs (uJ y c e)⟩
  ·obtain ⟨w',z⟩:=I.cell y c e
   exact ⟨w',z.sameBut hs (uJ y c e)⟩
  ·obtain ⟨e,n,ne,nf,d⟩:=I.pin p hp
   exact ⟨(hs.2 p.1 ne).trans e,n,ne,nf,d⟩
 ·have hfn:X.fn x=true:=by
   rcases hf with z | z
   ·exact z
   ·rw [z] at hk;cases hk
  obtain ⟨c,hc⟩:=I.ok.has x (.inl hk)
  obtain ⟨w',z⟩:=I.cell x c hc
  refine wpAny_storeName_cell I.ok.kind hk hc z (λh' hc' hs=>?_)
  obtain ⟨oc,hoc,hocd⟩:=id z
  refine h { s with heap:=h' } ⟨I.ok,I.os,I.bare,⟨λb o e n hb hx=>?_,λb o e n hb hx=>?_,I.base.free,λb o e hx=>?_,I.base.tups,I.base.frzs,I.base.tbls⟩,⟨m,hn.sameBut hs (Ne.symm (uJ x c hc)),λj y v' e1 e2 e3=>?_⟩,λy c' e=>?_,I.free,I.freeC,λp hp=>?_,tracked ⟨oc,hoc,I.freeC x c hc⟩ hs,by simpa using I.len⟩ ⟨c,hs,.inr hc⟩
  ·exact (hs.2 b (Ej (D4 (Heap.lt_size e) (I.ok.cab x c hfn hc)))).trans (I.base.keep b o e n hb hx)
  ·obtain ⟨sl,e1⟩:=I.base.slot b o e n hb hx
   exact ⟨sl,(hs.2 b (Ej (D4 (Heap.lt_size e) (I.ok.cab x c hfn hc)))).trans e1⟩
  ·obtain ⟨o',e1⟩:=I.base.there b o e hx
   exact ⟨o',(hs.2 b (Ej (D4 (Heap.lt_size e) (I.ok.cab x c hfn hc)))).trans e1⟩
  ·by_cases hj:j=i
   ·subst hj
    rw [hi] at e1;cases e1
    rw [Eg hiσ] at e2
    cases e2
    exact ⟨u,r,.inr ⟨.inl hk,c,hc,hc'⟩⟩
   ·rw [EA (Ne.symm hj)] at e2
    obtain ⟨u',r',q⟩:=hl j y v' e1 e2 e3
    refine ⟨u',r',?_⟩
    rcases q with q | ⟨k,c',e,z'⟩
    ·exact .inl q
    ·refine .inr ⟨k,c',e,z'.sameBut hs ?_⟩
     rintro rfl
     exact hj (jz hN e1 (I.ok.inj _ _ _ e hc ▸ hi))
  ·by_cases hcc:c'=c
   ·subst hcc;exact ⟨_,hc'⟩
   ·obtain ⟨w2,z2⟩:=I.cell y c' e
    exact ⟨w2,z2.sameBut hs hcc⟩
  ·obtain ⟨e,n,ne,nf,d⟩:=I.pin p hp
   refine ⟨(hs.2 p.1 ?_).trans e,n,ne,nf,d⟩
   intro q
   rw [q,hoc] at e
   have q':oc=p.2:=Option.some.inj e
   exact d w' (by rw [← q'];exact hocd)
theorem dy {M:Model} {A:Around} {E:Value→Shared→Prop} {i:Nat} {x:Str} {v:V} {u:Value} {Q:Unit→Shared→Prop} (I:Inv X pins σ H s) (hN:X.N.Nodup) (hi:X.N[i]?=some x) (hx:Loc X.env.scope x) (r:RelV v u)
  (h:∀s',Inv X pins (σ.set i (some v)) H s'→Q () s') (hf:X.fn x=true∨X.env.scope.names.lookup x=some .local:=by first | exact .inl rfl | exact .inr rfl | assumption):wpAny M A (storeName X.env x u) Q E s :=
 kL I hN hi hx r (λs' I' _=>h s' I') hf
theorem Inv.rT {s':Shared} {ch:List Addr} (I:Inv X pins σ H s) (ho:s'.os=s.os) (u:Un (cV X.stack) ch H H' s.heap s'.heap) (hok:fK X.prog X.w H' s'.heap) (hg:AllBare s'.gens)
  (hch:∀b∈ch,(b∈X.ex∨X.s₀.heap.objs.size≤b)∧b≠X.env.locals∧(∀x c,X.env.cells.lookup x=some c→c≠b)∧∀p∈X.pn ++ pins,p.1≠b):Inv X pins σ H' s':=by
 obtain ⟨h',g',d',t',o'⟩:=s'
 have e:o'=s.os:=ho
 subst e
 exact I.call (g':=g') (t':=t') (d':=d') u hok hg hch
end
abbrev XK:=Value→Option Addr→Hp→Prop
abbrev St:=List (Option V)
abbrev VK:=V→Hp→Prop
abbrev TE:=St→Hp→VK→Prop
abbrev TT:=St→Hp→(Bool→Hp→Prop)→Prop
abbrev TA:=St→Hp→(List V→Hp→Prop)→Prop
structure Ends where
 nx:St→Hp→Prop
 rt:VK
 bk:St→Hp→Prop:=λ_ _=>False
 ct:St→Hp→Prop:=λ_ _=>False
abbrev TS:=Ends→St→Hp→Prop
def EP (X:Cx) (pins:List (Addr × Obj)) (σ:St) (Q:VK) (u:Value) (s':Shared):Prop:=∃v H',Inv X pins σ H' s'∧RelV v u∧Q v H'
def TP (X:Cx) (pins:List (Addr × Obj)) (σ:St) (Q:Bool→Hp→Prop) (b:Bool) (s':Shared):Prop:=∃H',Inv X pins σ H' s'∧Q b H'
def AP (X:Cx) (pins:List (Addr × Obj)) (σ:St) (Q:List V→Hp→Prop) (us:List Value) (s':Shared):Prop:=∃vs H',Inv X pins σ H' s'∧Vals vs us∧Q vs H'
def SP (X:Cx) (pins:List (Addr × Obj)) (D:Ends) (f:Flow) (s':Shared):Prop :=
 match f with
 | .next=>∃σ' H',Inv X pins σ' H' s'∧D.nx σ' H'
 | .brk=>∃σ' H',Inv X pins σ' H' s'∧D.bk σ' H'
 | .cont=>∃σ' H',Inv X pins σ' H' s'∧D.ct σ' H'
 | .ret u=>∃v σ' H',Inv X pins σ' H' s'∧RelV v u∧D.rt v H'
def PE (X:Cx) (e:Expr) (t:TE):Prop :=
 ∀(pins:List (Addr × Obj)) (s:Shared) (σ:St) (H:Hp) (Q:VK),Inv X pins σ H s→t σ H Q→wpAny (model X.prog X.w) X.A (eval e X.env) (EP X pins σ Q) X.xe s
def PT (X:Cx) (e:Expr) (t:TT):Prop :=
 ∀(pins:List (Addr × Obj)) (s:Shared) (σ:St) (H:Hp) (Q:Bool→Hp→Prop),Inv X pins σ H s→t σ H Q→wpAny (model X.prog X.w) X.A (isTrue e X.env (eval e X.env)) (TP X pins σ Q) X.xe s
def PW (X:Cx) (e:Expr) (t:TT):Prop :=
 ∀(whole:Sem Value) (pins:List (Addr × Obj)) (s:Shared) (σ:St) (H:Hp) (Q:Bool→Hp→Prop),Inv X pins σ H s→t σ H Q→wpAny (model X.prog X.w) X.A (isTrue e X.env whole) (TP X pins σ Q) X.xe s
theorem PW.pt {X:Cx} {e:Expr} {t:TT} (h:PW X e t):PT X e t:=h _
def PA (X:Cx) (es:List Expr) (t:TA):Prop :=
 ∀(pos:Pos) (pins:List (Addr × Obj)) (s:Shared) (σ:St) (H:Hp) (Q:List V→Hp→Prop),Inv X pins σ H s→t σ H Q→wpAny (model X.prog X.w) X.A (spliced (backTo pos (starEach es X.env))) (AP X pins σ Q) X.xe s
def PS (X:Cx) (st:Stmt) (t:TS):Prop :=
 ∀(pins:List (Addr × Obj)) (s:Shared) (σ:St) (H:Hp) (D:Ends),Inv X pins σ H s→t D σ H→wpAny (model X.prog X.w) X.A (exec st X.env) (SP X pins D) X.xe s
def j3 (X:Cx) (st:List Stmt) (t:TS):Prop :=
 ∀(pins:List (Addr × Obj)) (s:Shared) (σ:St) (H:Hp) (D:Ends),Inv X pins σ H s→t D σ H→wpAny (model X.prog X.w) X.A (execs st X.env) (SP X pins D) X.xe s
theorem bA {α:Type} {t:Sem α} {Q Q':α→Shared→Prop} {M:Model} {A:Around} {E:Value→Shared→Prop} {s:Shared} (h:wpAny M A t Q E s) (hQ:∀a s,Q a s→Q' a s):wpAny M A t Q' E s:=wpAny_mono h hQ λ_ _ x=>x
end L2
namespace L2
open PySem PySem.Spec PyProof.Rows
section
variable {X:Cx}
def oF (i:Nat):TE:=λσ H Q=>∃v,σ[i]?=some (some v)∧Q v H
def tC (v:V):TE:=λ_ H Q=>Q v H
theorem nZ {i:Nat} {x:Str} {pos:Pos} (hN:X.N[i]?=some x) (hv:jc X.env.scope x) (hd:(x == ("__debug__":Str))=false:=by decide) (hcd:(x == ("__classdict__":Str))=false:=by decide):PE X (.Name x pos) (oF i):=by
 intro pins s σ H Q I h
 obtain ⟨v,e,h⟩:=h
 obtain ⟨m,hn,hl⟩:=I.loc
 obtain ⟨u,r,l⟩:=hl i x v hN e hv
 have fin:EP X pins σ Q u s:=⟨v,H,I,r,h⟩
 rcases l with ⟨hk,hm⟩ | ⟨hk,c,hc,hcell⟩
 ·exact wpAny_Name (wpAny_loadName_local I.ok.kind hk hn hm fin) hd
 ·rcases hk with hk | hk
  ·exact wpAny_Name (wpAny_loadName_cell I.ok.kind hk hc hcell fin) hd
  ·exact wpAny_Name (wpAny_loadName_free I.ok.kind hk hc hcell fin hcd) hd
theorem aJ {i j pos}:PE X (.Constant (.int i) j pos) (tC (.int i)):=λ_ _ _ H _ I h=>wpAny_Constant_int ⟨.int i,H,I.tok _,⟨_,rfl⟩,h⟩
theorem mO {b j pos}:PE X (.Constant (.bool b) j pos) (tC (.bl b)):=λ_ _ _ H _ I h=>Constant_bool ⟨.bl b,H,I,rfl,h⟩
theorem nW {j pos}:PE X (.Constant .none j pos) (tC .non):=λ_ _ _ H _ I h=>Constant_none ⟨.non,H,I,rfl,h⟩
theorem fV {x j pos}:PE X (.Constant (.str x) j pos) (tC (.str x)):=λ_ _ _ H _ I h=>Calls.Constant_str ⟨.str x,H,I.tok _,⟨_,rfl⟩,h⟩
def Gl (X:Cx) (x:Str):Prop:=X.env.kindOf x=some .globalImplicit
theorem iS {E:Value→Shared→Prop} {pins:List (Addr × Obj)} {s:Shared} {σ:St} {H:Hp} {x:Str} {u:Value} {pos:Pos} {Q:Value→Shared→Prop} (I:Inv X pins σ H s) (hg:Gl X x) (hm:X.mg x=some u) (h:Q u s)
  (hd:(x == ("__debug__":Str))=false:=by decide):wpAny (model X.prog X.w) X.A (eval (.Name x pos) X.env) Q E s :=
 Calls.Name_function_global I.ok.kind hg (Calls.loadGlobal_global (by rw [I.ok.glob];exact I.mod.glob.keeps I.bk) hm h) hd
theorem ib {E:Value→Shared→Prop} {pins:List (Addr × Obj)} {s:Shared} {σ:St} {H:Hp} {x:Str} {u:Value} {pos:Pos} {Q:Value→Shared→Prop} (I:Inv X pins σ H s) (hg:Gl X x) (hm:X.mg x=none) (hv:bootBuiltins x=some u) (h:Q u s)
  (hn:x≠"__name__":=by decide) (hd:(x == ("__debug__":Str))=false:=by decide):wpAny (model X.prog X.w) X.A (eval (.Name x pos) X.env) Q E s:=by
 obtain ⟨mb,h1,h2⟩:=I.mod.blt
 exact Calls.Name_function_global I.ok.kind hg (Calls.loadGlobal_builtin (by rw [I.ok.glob];exact I.mod.glob.keeps I.bk) hm (by rw [I.ok.blt];exact h1.keeps I.bk) ((h2 x hn).trans hv) h) hd
theorem bI {x:Str} {v:V} {u:Value} {pos:Pos} (hg:Gl X x) (hm:X.mg x=some u) (r:RelV v u) (hd:(x == ("__debug__":Str))=false:=by decide):PE X (.Name x pos) (tC v) :=
 λ_ _ _ H _ I h=>iS I hg hm ⟨v,H,I,r,h⟩ hd
theorem iV {x:Str} {v:V} {u:Value} {pos:Pos} (hg:Gl X x) (hm:X.mg x=none) (hv:bootBuiltins x=some u) (r:RelV v u) (hn:x≠"__name__":=by decide) (hd:(x == ("__debug__":Str))=false:=by decide):PE X (.Name x pos) (tC v) :=
 λ_ _ _ H _ I h=>ib I hg hm hv ⟨v,H,I,r,h⟩ hn hd
variable {a b:Expr} {ta tb:TE} {pos:Pos}
def tB (t:TE):TT:=λσ H Q=>t σ H λx H1=>∃c,x=.bl c∧Q c H1
theorem n9 {e:Expr} {t:TE} (h:PE X e t) (he:∀whole,isTrue e X.env whole=(do let v ← whole;standAt e.pos;holding [v] (truthy v)):=by intro _;rfl):PT X e (tB t):=by
 intro pins s σ H Q I hw
 refine isTrue_plain (bA (h pins s σ H _ I hw) λv s1 ⟨x,H1,I1,r1,q1⟩=>?_) (he _)
 obtain ⟨d,rfl,q⟩:=q1
 cases r1
 exact wpAny_truthy_bool ⟨H1,I1,q⟩
variable {tA tB':TT} {rest:List Expr}
def ug (t u:TT):TT:=λσ H Q=>t σ H λc H1=>if c=true then u σ H1 Q else Q false H1
def Bk (t u:TT):TT:=λσ H Q=>t σ H λc H1=>if c=true then Q true H1 else u σ H1 Q
def vY (t:TT):TT:=λσ H Q=>t σ H λc H1=>Q (!c) H1
theorem iX (ha:PT X a tA):PW X (.BoolOp .And [a] pos) tA:=by
 intro wh pins s σ H Q I h
 refine isTrue_and (bA (ha pins s σ H Q I h) λc s1 e=>?_)
 cases c with
 | true=>exact isTrue_and_nil e
 | false=>exact e
theorem lO (ha:PT X a tA):PW X (.BoolOp .Or [a] pos) tA:=by
 intro wh pins s σ H Q I h
 refine isTrue_or (bA (ha pins s σ H Q I h) λc s1 e=>?_)
 cases c with
 | false=>exact isTrue_or_nil e
 | true=>exact e
theorem lN (ha:PT X a tA) (hb:PW X (.BoolOp .And (b :: rest) pos) tB'):PW X (.BoolOp .And (a :: b :: rest) pos) (ug tA tB'):=by
 intro wh pins s σ H Q I h
 refine isTrue_and (bA (ha pins s σ H _ I h) λc s1 ⟨H1,I1,q1⟩=>?_)
 cases c with
 | true=>exact hb wh pins s1 σ H1 Q I1 q1
 | false=>exact ⟨H1,I1,q1⟩
theorem pM (ha:PT X a tA) (hb:PW X (.BoolOp .Or (b :: rest) pos) tB'):PW X (.BoolOp .Or (a :: b :: rest) pos) (Bk tA tB'):=by
 intro wh pins s σ H Q I h
 refine isTrue_or (bA (ha pins s σ H _ I h) λc s1 ⟨H1,I1,q1⟩=>?_)
 cases c with
 | true=>exact ⟨H1,I1,q1⟩
 | false=>exact hb wh pins s1 σ H1 Q I1 q1
theorem n8 (ha:PT X a tA):PT X (.UnaryOp .Not a pos) (vY tA):=by
 intro pins s σ H Q I h
 exact isTrue_not (ha pins s σ H (λc H1=>Q (!c) H1) I h)
def p7 (ta tb:TE):TE:=λσ H Q=>ta σ H λx H1=>∃c,x=.bl c∧if c=true then tb σ H1 Q else Q (.bl false) H1
def Bl (ta tb:TE):TE:=λσ H Q=>ta σ H λx H1=>∃c,x=.bl c∧if c=true then Q (.bl true) H1 else tb σ H1 Q
def p_ (ta:TE):TE:=λσ H Q=>ta σ H λx H1=>∃c,x=.bl c∧Q (.bl (!c)) H1
theorem nY {op} {t:TE} (h:PE X a t):PE X (.BoolOp op [a] pos) t:=λpins s σ H Q I hw=>BoolOp_one (h pins s σ H Q I hw)
theorem nU (ha:PE X a ta) (hb:PE X (.BoolOp .And (b :: rest) pos) tb):PE X (.BoolOp .And (a :: b :: rest) pos) (p7 ta tb):=by
 intro pins s σ H Q I h
 refine BoolOp_and (bA (ha pins s σ H _ I h) λv s1 ⟨x,H1,I1,r1,q1⟩=>?_)
 obtain ⟨c,rfl,q1⟩:=q1
 cases r1
 refine wpAny_truthy_bool ?_
 cases c with
 | true=>exact hb pins s1 σ H1 Q I1 q1
 | false=>exact ⟨.bl false,H1,I1,rfl,q1⟩
theorem nX (ha:PE X a ta):PE X (.UnaryOp .Not a pos) (p_ ta):=by
 intro pins s σ H Q I h
 refine UnaryOp_ (bA (ha pins s σ H _ I h) λv s1 ⟨x,H1,I1,r1,q1⟩=>?_)
 obtain ⟨c,rfl,q1⟩:=q1
 cases r1
 exact not_of (wpAny_truthy_bool ⟨.bl (!c),H1,I1,rfl,q1⟩)
def BK (t:TT) (ta tb:TE):TE:=λσ H Q=>t σ H λc H1=>if c=true then ta σ H1 Q else tb σ H1 Q
theorem jC {c:Expr} (hc:PT X c tA) (ha:PE X a ta) (hb:PE X b tb):PE X (.IfExp c a b pos) (BK tA ta tb):=by
 intro pins s σ H Q I h
 refine wpAny_IfExp (bA (hc pins s σ H _ I h) λd s1 ⟨H1,I1,q1⟩=>?_)
 cases d with
 | true=>exact ha pins s1 σ H1 Q I1 q1
 | false=>exact hb pins s1 σ H1 Q I1 q1
end
end L2
namespace L2
open PySem PySem.Spec PyProof.Rows
def bO (K:PySem.W.Frag) (H:Hp) (a:Addr) (xs:List V):Prop :=
 Rd H a (.lst xs) ∨
  ∃(o:Obj) (aQ:Array Value) (n:Nat),K.lookup a=some o∧o.cls=.type "list"∧o.dict=none∧o.data=.seq aQ n∧aQ.size≤sizeLine∧Vals xs aQ.toList
def dz (K:PySem.W.Frag) (H:Hp) (a:Addr) (xs:List V):Prop :=
 Rd H a (.tup xs) ∨
  ∃(o:Obj) (aQ:Array Value) (n:Nat),K.lookup a=some o∧o.cls=.type "tuple"∧o.data=.seq aQ n∧aQ.size≤sizeLine∧Vals xs aQ.toList
def BP:Value→Option V
 | .none=>some .non
 | .bool b=>some (.bl b)
 | .int i _=>some (.int i)
 | .str x _=>some (.str x)
 | .bytes b _=>some (.byt b)
 | .float b _=>some (.flt b)
 | .ref a=>some (.ref a)
 | .type n=>some (.ty n)
 | _=>none
theorem RelV.abs {x:V} {u:Value} (r:RelV x u):BP u=some x:=by
 cases x with
 | non=>cases r;rfl
 | bl _=>cases r;rfl
 | int _=>obtain ⟨t,rfl⟩:=r;rfl
 | str _=>obtain ⟨t,rfl⟩:=r;rfl
 | byt _=>obtain ⟨t,rfl⟩:=r;rfl
 | flt _=>obtain ⟨t,rfl⟩:=r;rfl
 | ref _=>cases r;rfl
 | ty _=>cases r;rfl
theorem RelV.inj {x y:V} {u:Value} (r:RelV x u) (q:RelV y u):x=y:=Option.some.inj (r.abs.symm.trans q.abs)
theorem Vals.inj:∀{xs ys:List V} {us:List Value},Vals xs us→Vals ys us→xs=ys
 | _,_,_,.nil,.nil=>rfl
 | _,_,_,.cons r t,.cons r' t'=>by rw [r.inj r',Vals.inj t t']
section
variable {X:Cx} {pins:List (Addr × Obj)} {σ:St} {H:Hp} {s:Shared} {a:Addr} {xs ys:List V}
theorem bO.of {K:PySem.W.Frag} (h:H a=some (.lst xs)):bO K H a xs:=.inl (.inl h)
theorem dz.of {K:PySem.W.Frag} (h:H a=some (.tup xs)):dz K H a xs:=.inl (.inl h)
theorem Inv.list (I:Inv X pins σ H s) (h:bO X.K H a xs):∃aQ:List Value,Vals xs aQ∧PlainL s.heap a aQ.toArray∧xs.length≤sizeLine:=by
 rcases h with h | ⟨o,aQ,n,hk,hc,hd,hs,hz,r⟩
 ·obtain ⟨z,aQ,n,r,e⟩:=h.ok I.hok
  exact ⟨aQ,r,⟨_,n,e,rfl,rfl,rfl⟩,z⟩
 ·refine ⟨aQ.toList,r,⟨o,n,I.jX a o hk,hc,hd,by simpa using hs⟩,?_⟩
  have e:=r.length
  simp only [Array.length_toList] at e
  omega
theorem Inv.tuple (I:Inv X pins σ H s) (h:dz X.K H a xs):∃aQ:List Value,Vals xs aQ∧IsTup s.heap a aQ.toArray∧xs.length≤sizeLine:=by
 rcases h with h | ⟨o,aQ,n,hk,hc,hs,hz,r⟩
 ·obtain ⟨z,aQ,r,p⟩:=h.ok I.hok
  exact ⟨aQ,r,p,z⟩
 ·refine ⟨aQ.toList,r,⟨o,I.jX a o hk,hc,n,by simpa using hs⟩,?_⟩
  have e:=r.length
  simp only [Array.length_toList] at e
  omega
theorem Inv.mG (I:Inv X pins σ H s) (h:bO X.K H a xs) (h':bO X.K H a ys):xs=ys:=by
 obtain ⟨aQ,r,⟨o,n,e,_,_,d⟩,_⟩:=I.list h
 obtain ⟨its',r',⟨o',n',e',_,_,d'⟩,_⟩:=I.list h'
 rw [e] at e';cases e'
 rw [d] at d'
 injection d' with d1 _
 have:aQ=its':=by simpa using congrArg Array.toList d1
 subst this
 exact r.inj r'
theorem Inv.kM (I:Inv X pins σ H s) (h:dz X.K H a xs) (h':dz X.K H a ys):xs=ys:=by
 obtain ⟨aQ,r,⟨o,e,_,n,d⟩,_⟩:=I.tuple h
 obtain ⟨its',r',⟨o',e',_,n',d'⟩,_⟩:=I.tuple h'
 rw [e] at e';cases e'
 rw [d] at d'
 injection d' with d1 _
 have:aQ=its':=by simpa using congrArg Array.toList d1
 subst this
 exact r.inj r'
end
abbrev Cx.jV (X:Cx) (E:Value→Shared→Prop):Cx:={ X with xe:=E }
abbrev Cx.yj (X:Cx):Cx:=X.jV λ_ _=>False
theorem Cx.Ok.jV {X:Cx} (ok:X.Ok) (E:Value→Shared→Prop):(X.jV E).Ok :=
 ⟨ok.mod,ok.kind,ok.glob,ok.blt,ok.above,ok.inj,ok.has,ok.cab,ok.hd,ok.frames,ok.stk,ok.exf,ok.bs,ok.bsz,ok.noex,ok.exfs,ok.fG,ok.frf⟩
theorem Cx.Ok.fk {X:Cx} {E:Value→Shared→Prop} (ok:(X.jV E).Ok):X.Ok :=
 ⟨ok.mod,ok.kind,ok.glob,ok.blt,ok.above,ok.inj,ok.has,ok.cab,ok.hd,ok.frames,ok.stk,ok.exf,ok.bs,ok.bsz,ok.noex,ok.exfs,ok.fG,ok.frf⟩
section
variable {X:Cx} {pins:List (Addr × Obj)} {σ:St} {H:Hp} {s:Shared} {E:Value→Shared→Prop}
theorem Inv.jV (I:Inv X pins σ H s) (E:Value→Shared→Prop):Inv (X.jV E) pins σ H s:=⟨I.ok.jV E,I.os,I.bare,I.base,I.loc,I.cell,I.free,I.freeC,I.pin,I.hok,I.len⟩
theorem Inv.fk (I:Inv (X.jV E) pins σ H s):Inv X pins σ H s:=⟨I.ok.fk,I.os,I.bare,I.base,I.loc,I.cell,I.free,I.freeC,I.pin,I.hok,I.len⟩
theorem SP.fk {D:Ends} {f:Flow} {s':Shared} (h:SP (X.jV E) pins D f s'):SP X pins D f s':=by
 cases f with
 | next=>obtain ⟨σ',H',I,q⟩:=h;exact ⟨σ',H',I.fk,q⟩
 | brk=>obtain ⟨σ',H',I,q⟩:=h;exact ⟨σ',H',I.fk,q⟩
 | cont=>obtain ⟨σ',H',I,q⟩:=h;exact ⟨σ',H',I.fk,q⟩
 | ret u=>obtain ⟨v,σ',H',I,r,q⟩:=h;exact ⟨v,σ',H',I.fk,r,q⟩
theorem j3.yj {st:List Stmt} {t:TS} (h:j3 X.yj st t):j3 X st t:=λpins s σ H D I hw =>
 wpAny_mono (h pins s σ H D (I.jV _) hw) (λ_ _ q=>q.fk) λ_ _ z=>False.elim z
end
section
variable {X:Cx} {st:Stmt} {rest:List Stmt} {t u:TS} {e:Expr} {te:TE} {pos:Pos}
def p9:TS:=λD σ H=>D.nx σ H
def v5 (t u:TS):TS:=λD σ H=>t { D with nx:=u D } σ H
theorem dM:j3 X [] p9:=λ_ _ σ H _ I h=>wpAny_execs_nil ⟨σ,H,I,h⟩
theorem aG (h1:PS X st t) (h2:j3 X rest u):j3 X (st :: rest) (v5 t u):=by
 intro pins s σ H D I h
 refine wpAny_execs_cons (bA (h1 pins s σ H { D with nx:=u D } I h) λf s1 q=>?_)
 cases f with
 | next =>
  obtain ⟨σ',H',I',q⟩:=q
  exact h2 pins s1 σ' H' D I' q
 | ret v=>exact q
 | brk=>exact q
 | cont=>exact q
theorem bh (h1:PS X st t):j3 X [st] t:=by
 intro pins s σ H D I h
 refine wpAny_execs_cons (bA (h1 pins s σ H D I h) λf s1 q=>?_)
 cases f with
 | next=>exact wpAny_execs_nil q
 | ret v=>exact q
 | brk=>exact q
 | cont=>exact q
def y3:TS:=λD σ H=>D.bk σ H
def Bg:TS:=λD σ H=>D.ct σ H
theorem Inv.quiet {pins:List (Addr × Obj)} {σ:St} {H:Hp} {s:Shared} (I:Inv X pins σ H s):interactive X.env=false:=by simp [interactive,I.ok.kind]
def p8 (te:TE):TS:=λD σ H=>te σ H λ_ H1=>D.nx σ H1
theorem fx (he:PE X e te) (hs:swapsWith e none pos.line X.env=pure false:=by rfl):PS X (.Expr e pos) (p8 te):=by
 intro pins s σ H D I h
 exact wpAny_Expr_any (bA (he pins s σ H _ I h) λv s1 ⟨x,H1,I1,r1,q1⟩=>⟨σ,H1,I1,q1⟩) I.quiet hs
def v3 (te:TE):TS:=λD σ H=>te σ H D.rt
theorem cD (he:PE X e te):PS X (.Return (some e) pos) (v3 te):=by
 intro pins s σ H D I h
 exact wpAny_Return_some (bA (he pins s σ H _ I h) λv s1 ⟨x,H1,I1,r1,q1⟩=>⟨x,σ,H1,I1,r1,q1⟩)
def xf:TS:=λD _ H=>D.rt .non H
def vX (c:TT) (t u:TS):TS:=λD σ H=>c σ H λb H1=>if b=true then t D σ H1 else u D σ H1
theorem iE {c:Expr} {a b:List Stmt} {tc:TT} (hc:PT X c tc) (ha:j3 X a t) (hb:j3 X b u):PS X (.If c a b pos) (vX tc t u):=by
 intro pins s σ H D I h
 refine wpAny_If (bA (hc pins s σ H _ I h) λd s1 ⟨H1,I1,q1⟩=>?_)
 cases d with
 | true=>exact ha pins s1 σ H1 D I1 q1
 | false=>exact hb pins s1 σ H1 D I1 q1
def y8:TS:=λ_ _ _=>False
end
abbrev TG:=V→St→Hp→(St→Hp→Prop)→Prop
abbrev jW:=List V→St→Hp→(St→Hp→Prop)→Prop
def PG (X:Cx) (target:Expr) (t:TG):Prop :=
 ∀(pins:List (Addr × Obj)) (s:Shared) (σ:St) (H:Hp) (v:V) (u:Value) (Q:St→Hp→Prop),Inv X pins σ H s→RelV v u→t v σ H Q →
  wpAny (model X.prog X.w) X.A (assign target X.env u) (λ_ s'=>∃σ' H',Inv X pins σ' H' s'∧Q σ' H') X.xe s
abbrev dA:=V→V→V→Hp→(Hp→Prop)→Prop
def dQ (X:Cx) (t:dA):Prop :=
 ∀(pins:List (Addr × Obj)) (s:Shared) (σ:St) (H:Hp) (o i v:V) (ov iv u:Value) (Q:Hp→Prop),Inv X pins σ H s→RelV o ov→RelV i iv→RelV v u→t o i v H Q →
  wpAny (model X.prog X.w) X.A (setItem ov iv u) (λ_ s'=>∃H',Inv X pins σ H' s'∧Q H') X.xe s
section
variable {X:Cx} {pos:Pos}
def iB (i:Nat):TG:=λv σ H Q=>Q (σ.set i (some v)) H
theorem fv {i:Nat} {x:Str} (hN:X.N.Nodup) (hi:X.N[i]?=some x) (hx:Loc X.env.scope x) (hf:X.fn x=true∨X.env.scope.names.lookup x=some .local:=by first | exact .inl rfl | exact .inr rfl | assumption):PG X (.Name x pos) (iB i):=by
 intro pins s σ H v u Q I r h
 exact wpAny_assign_Name (dy I hN hi hx r (λs' I'=>⟨_,H,I',h⟩) hf)
def zT:jW:=λvs σ H Q=>vs=[]∧Q σ H
def wx (t:TG) (u:jW):jW:=λvs σ H Q=>∃v r,vs=v :: r∧t v σ H λσ' H'=>u r σ' H' Q
def zU (K:PySem.W.Frag) (n:Nat) (t:jW):TG:=λv σ H Q=>∃a xs,v=.ref a∧dz K H a xs∧xs.length=n∧t xs σ H Q
def uT (to ti:TE) (t:dA):TG:=λv σ H Q=>to σ H λo H1=>ti σ H1 λi H2=>t o i v H2 λH3=>Q σ H3
theorem n1 {o i:Expr} {to ti:TE} {t:dA} (ho:PE X o to) (hi:PE X i ti) (hs:dQ X t)
  (ha:∀v,assign (.Subscript o i pos) X.env v=(do
   let ov ← holding [v] (eval o X.env)
   let iv ← holding [v,ov] (eval i X.env)
   standAt pos
   holding [v,ov,iv] (setItem ov iv v)
   release [v,ov,iv] []):=by intro _;rfl):PG X (.Subscript o i pos) (uT to ti t):=by
 intro pins s σ H v u Q I r h
 rw [ha]
 refine wpAny_bind (wpAny_holding (bA (ho pins s σ H _ I h) λov s1 ⟨x,H1,I1,r1,q1⟩=>?_))
 refine wpAny_bind (wpAny_holding (bA (hi pins s1 σ H1 _ I1 q1) λiv s2 ⟨y,H2,I2,r2,q2⟩=>?_))
 refine wpAny_bind (wpAny_standAt (wpAny_bind (wpAny_holding (bA (hs pins s2 σ H2 x y v ov iv u _ I2 r1 r2 r q2) λ_ s3 ⟨H3,I3,q3⟩=>?_))))
 exact wpAny_release ⟨σ,H3,I3,q3⟩
def m_ (te:TE) (g:TG):TS:=λD σ H=>te σ H λx H1=>g x σ H1 D.nx
theorem n6 {tg e:Expr} {te:TE} {g:TG} (he:PE X e te) (hg:PG X tg g) (hs:swapsWithSole [tg] e pos.line X.env=pure false:=by rfl) (hw:swappedStores [tg] e X.env=pure none:=by rfl)
  (h1:(assignEach [tg] X.env).map (·.2)=[assign tg X.env]:=by rfl):PS X (.Assign [tg] e pos) (m_ te g):=by
 intro pins s σ H D I h
 refine wpAny_Assign_stores (bA (he pins s σ H _ I h) λv s1 ⟨x,H1,I1,r1,q1⟩=>?_) hs hw
 rw [h1]
 exact bA (hg pins s1 σ H1 x v _ I1 r1 q1) λ_ s2 q=>q
theorem bG {i:Nat} {x:Str} {e:Expr} {te:TE} {pos':Pos} (hN:X.N.Nodup) (hi:X.N[i]?=some x) (hx:Loc X.env.scope x) (he:PE X e te) (hs:swapsWith e (some (.Name x pos')) pos.line X.env=pure false:=by rfl) (hf:X.fn x=true∨X.env.scope.names.lookup x=some .local:=by first | exact .inl rfl | exact .inr rfl | assumption) :
  PS X (.Assign [.Name x pos'] e pos) (m_ te (iB i)):=by
 intro pins s σ H D I h
 refine wpAny_Assign_Name (bA (he pins s σ H _ I h) λv s1 ⟨y,H1,I1,r1,q1⟩=>?_) hs
 exact dy I1 hN hi hx r1 (λs2 I2=>⟨_,H1,I2,q1⟩) hf
def vZ (i j:Nat) (ta:TA):TS:=λD σ H=>ta σ H λvs H1=>∃v w,vs=[v,w]∧D.nx ((σ.set i (some v)).set j (some w)) H1
theorem ip {i j:Nat} {x y:Str} {a b:Expr} {ta:TA} {px py pt:Pos} {kt k2 pt2} (hc:X.calm=true) (hN:X.N.Nodup) (hi:X.N[i]?=some x) (hj:X.N[j]?=some y) (hij:i≠j)
  (hx:X.env.scope.names.lookup x=some .local) (hy:X.env.scope.names.lookup y=some .local) (ha:PA X [a,b] ta)
  (hw:swappedStores [.Tuple [.Name x px,.Name y py] kt pt] (.Tuple [a,b] k2 pt2) X.env=pure (some [x,y]))
  (hs:swapsWithSole [.Tuple [.Name x px,.Name y py] kt pt] (.Tuple [a,b] k2 pt2) pos.line X.env=pure false:=by rfl) :
  PS X (.Assign [.Tuple [.Name x px,.Name y py] kt pt] (.Tuple [a,b] k2 pt2) pos) (vZ i j ta):=by
 intro pins s σ H D I h
 rw [exec_Assign_arm]
 refine wpAny_bind (wpAny_standAt ?_)
 rw [hs]
 refine wpAny_bind (wpAny_pure ?_)
 rw [if_neg (by decide)]
 refine wpAny_bind (Tuple_ (bA (ha _ pins s σ H _ I h) λus s1 ⟨vs,H1,I1,r1,q1⟩=>?_))
 obtain ⟨v,w,e1,q1⟩:=q1
 subst e1
 obtain ⟨u1,u2,rfl,rv,rw'⟩:∃u1 u2,us=[u1,u2]∧RelV v u1∧RelV w u2:=by
  cases r1 with
  | cons p q =>
   cases q with
   | cons p' q' =>
    cases q'
    exact ⟨_,_,rfl,p,p'⟩
 refine wpAny_newObj_type ?_ (by show 2≤sizeLine;decide)
 have I2:Inv X pins σ H1 { s1 with heap:=s1.heap.push { cls:=.type "tuple",data:=.seq [u1,u2].toArray } }:=I1.kept (t':=s1.toks) λb o e=>Heap.get?_push_of_some _ e
 rw [hw]
 refine wpAny_bind (wpAny_pure ?_)
 show wpAny (model X.prog X.w) X.A (do rule "assign.swapped-stores";let items ← unpackItems (.ref s1.heap.objs.size) 2 none;assignInOrder [λv=>bindName X.env y v,λv=>bindName X.env x v] items.reverse;pure Flow.next) _ _ _
 refine wpAny_bind (wpAny_rule (wpAny_bind (unpackItems_tuple (items:=#[u1,u2]) (I.ok.hd hc) (IsTup.new s1.heap _) λh' hx'=>?_)))
 have I3:=I2.kept (h':=h') (t':=s1.toks) λb o e=>hx' b o (Ej (Heap.lt_size e)) e
 show wpAny _ _ (assignInOrder [λv=>bindName X.env y v,λv=>bindName X.env x v] [u2,u1] >>= λ_=>pure Flow.next) _ _ _
 refine wpAny_bind (assignInOrder_cons (wpAny_bindName (dy I3 hN hj (.inl hy) rw' (λs2 I4=>?_) (.inr hy))))
 refine assignInOrder_cons (wpAny_bindName (dy I4 hN hi (.inl hx) rv (λs3 I5=>assignInOrder_nil (wpAny_pure ?_)) (.inr hx)))
 rw [List.set_comm _ _ (Ne.symm hij)] at I5
 exact ⟨_,H1,I5,q1⟩
end
section
variable {X:Cx} {pos:Pos}
def lZ (c:TT) (tb:TS):TS:=λD σ H=>∃W:Nat→St→Hp→Prop,(∃m,W m σ H)∧∀m σ H,W m σ H →
 c σ H λb H1=>if b=true then ∃N:St→Hp→Prop,(∀σ' H',N σ' H'→∃m',m' < m∧W m' σ' H')∧tb { D with nx:=N,ct:=N,bk:=D.nx } σ H1 else D.nx σ H1
theorem gU {c:Expr} {body:List Stmt} {tc:TT} {tb:TS} (hp:PassesOwn (model X.prog X.w) X.A X.env X.xe) (hc:PT X c tc) (hb:j3 X body tb):PS X (.While c body [] pos) (lZ tc tb):=by
 intro pins s σ H D I h
 obtain ⟨W,⟨m0,w0⟩,turn⟩:=h
 refine wpAny_While (codeAny_whileLoop (λn s'=>∃σ' H',Inv X pins σ' H' s'∧W n σ' H') ?_ m0 ⟨σ,H,I,w0⟩)
 rintro n s1 ⟨σ1,H1,I1,w1⟩
 refine wpAny_passesOwn hp (bA (hc pins s1 σ1 H1 _ I1 (turn n σ1 H1 w1)) λb s2 ⟨H2,I2,q2⟩=>?_)
 cases b with
 | true =>
  obtain ⟨N,hN,q2⟩:=q2
  rw [if_pos rfl]
  refine wpAny_passesOwn hp (bA (hb pins s2 σ1 H2 _ I2 q2) λf s3 q3=>?_)
  cases f with
  | next =>
   obtain ⟨σ3,H3,I3,n3⟩:=q3
   obtain ⟨m',hm,w3⟩:=hN σ3 H3 n3
   exact ⟨m',hm,σ3,H3,I3,w3⟩
  | cont =>
   obtain ⟨σ3,H3,I3,n3⟩:=q3
   obtain ⟨m',hm,w3⟩:=hN σ3 H3 n3
   exact ⟨m',hm,σ3,H3,I3,w3⟩
  | brk=>exact q3
  | ret v=>exact q3
 | false =>
  rw [if_neg Ec]
  exact wpAny_execs_nil ⟨σ1,H2,I2,q2⟩
end
structure It where
 go:Nat→Hp→Prop
 yld:Nat→Hp→V→Hp→Prop
 stop:Nat→Hp→Prop
def gu (X:Cx) (pins:List (Addr × Obj)) (H:Hp) (b:Addr):Prop :=
 H b=none∧b≠X.env.locals∧b ∉ X.fs∧(b∈X.ex∨X.s₀.heap.objs.size≤b)∧(∀x c,X.env.cells.lookup x=some c→c≠b)∧∀p∈X.pn ++ pins,p.1≠b
theorem Inv.uS {X:Cx} {pins:List (Addr × Obj)} {σ:St} {H H':Hp} {s:Shared} {b:Addr} (I:Inv X pins σ H s) (hb:s.heap.objs.size≤b) (hn:H' b=none):gu X pins H' b:=by
 refine ⟨hn,Fm (D4 I.lt hb),I.Ck hb,.inr (D1 I.sz hb),λx c e z=>?_,λp hp z=>?_⟩
 ·obtain ⟨v,q⟩:=I.cell x c e
  exact absurd (D4 q.lt (by rw [z];exact hb)) (Ew _)
 ·exact absurd (D4 (Heap.lt_size (I.pin p hp).1) (by rw [z];exact hb)) (Ew _)
structure Turn (P:Program) (w:World) (K:PySem.W.Frag) (tg:Expr) (J:It) (fp:List Addr) (it:Addr) (tn:Nat→Heap→Prop):Prop where
 mem:it∈fp
 obj:∀i h,tn i h→∀b∈fp,∃o,h.get? b=some o∧∀v,o.data≠.cell v
 keep:∀i h h',tn i h→(∀b∈fp,∀o,h.get? b=some o→h'.get? b=some o)→tn i h'
 item:∀(X:Cx),X.prog=P→X.w=w→X.K=K→X.calm=true→∀(i:Nat) (pins:List (Addr × Obj)) (s:Shared) (σ:St) (H:Hp) (E:Value→Shared→Prop),Inv X pins σ H s→(∀b∈fp,gu X pins H b)→tn i s.heap→J.go i H →
  wpAny (model P w) X.A (pyNext (.ref it)) (λr s1=>∃u,r=some u ∧
   wpAny (model P w) X.A (letOwnedTupleGo tg (.ref it) u) (λ_ s2=>∃x H',Inv X pins σ H' s2∧RelV x u∧J.yld i H x H'∧tn (i + 1) s2.heap∧∀b∈fp,H' b=none) E s1) E s
 done:∀(X:Cx),X.prog=P→X.w=w→X.K=K→X.calm=true→∀(i:Nat) (pins:List (Addr × Obj)) (s:Shared) (σ:St) (H:Hp) (E:Value→Shared→Prop),Inv X pins σ H s→(∀b∈fp,gu X pins H b)→tn i s.heap→J.stop i H →
  wpAny (model P w) X.A (pyNext (.ref it)) (λr s1=>r=none∧Inv X pins σ H s1) E s
 self:∀(A:Around) (i:Nat) (s:Shared) (Q:Value→Shared→Prop) (E:Value→Shared→Prop),tn i s.heap→Q (.ref it) s→wpAny (model P w) A (pyIter (.ref it)) Q E s
abbrev TI:=St→Hp→(It→Hp→Prop)→Prop
def Dq (X:Cx) (pins:List (Addr × Obj)) (σ:St) (tg:Expr) (R:It→Hp→Prop) (itv:Value) (s2:Shared):Prop :=
 ∃(it:Addr) (fp:List Addr) (tn:Nat→Heap→Prop) (J:It) (H':Hp),itv=.ref it∧Inv X pins σ H' s2∧Turn X.prog X.w X.K tg J fp it tn∧tn 0 s2.heap∧(∀b∈fp,gu X pins H' b)∧R J H'
def PI (X:Cx) (tg iter:Expr) (wi:TI):Prop :=
 ∀(pins:List (Addr × Obj)) (s:Shared) (σ:St) (H:Hp) (R:It→Hp→Prop),Inv X pins σ H s→wi σ H R →
  wpAny (model X.prog X.w) X.A (eval iter X.env) (λv s1=>wpAny (model X.prog X.w) X.A (pyIter v) (Dq X pins σ tg R) X.xe s1) X.xe s
theorem mr {M:Model} {A:Around} {E:Value→Shared→Prop} {s:Shared} {tg:Expr} {it:Addr} {u:Value} {o:Obj} {n:String} {vs:Array Value} {Q:Unit→Shared→Prop} (ho:s.heap.get? it=some o) (hc:o.cls=.type n) (hd:o.data=.fields vs)
  (hn:["enumerate","zip","dict_itemiterator","dict_reverseitemiterator","odict_iterator","itertools.zip_longest","itertools.pairwise"].contains n=false) (hQ:Q () s):wpAny M A (letOwnedTupleGo tg (.ref it) u) Q E s:=by
 unfold letOwnedTupleGo
 cases tg <;> first
  | exact wpAny_pure hQ
  | (cases u <;> first
    | exact wpAny_pure hQ
    | (refine wpAny_bind (wpAny_load ho ?_)
       rw [hc,hd]
       show wpAny M A (if (["enumerate","zip","dict_itemiterator","dict_reverseitemiterator","odict_iterator","itertools.zip_longest","itertools.pairwise"].contains n && vs[0]? == some (rawInt _))=true then _ else _) Q E s
       rw [if_neg (by intro h;rw [hn,Fv] at h;cases h)]
       exact wpAny_pure hQ))
def uC (K:PySem.W.Frag) (a:Addr):It :=
 ⟨λi H=>∃xs x,bO K H a xs∧xs[i]?=some x,λi H x H'=>H'=H∧∀xs,bO K H a xs→xs[i]?=some x,λi H=>∃xs,bO K H a xs∧xs.length≤i⟩
def Dl (K:PySem.W.Frag) (a:Addr):It :=
 ⟨λi H=>∃xs x,dz K H a xs∧xs[i]?=some x,λi H x H'=>H'=H∧∀xs,dz K H a xs→xs[i]?=some x,λi H=>∃xs,dz K H a xs∧xs.length≤i⟩
def rF (lo:Int) (n:Nat):It:=⟨λi _=>i < n,λi H x H'=>H'=H∧x=.int (lo + i),λi _=>n≤i⟩
theorem ra {P:Program} {w:World} {K:PySem.W.Frag} {tg:Expr} (a it:Addr):Turn P w K tg (uC K a) [it] it (λi h=>h.IsListIter it a i) where
 mem:=by simp
 obj:=λi h st b hb=>by
  have e:b=it:=by simpa using hb
  subst e
  obtain ⟨o,e,c,d⟩:=st
  exact ⟨o,e,λv z=>by rw [d] at z;cases z⟩
 keep:=λi h h' st k=>st.at λo e=>k it (by simp) o e
 item:=by
  intro X hP hw hK hc i pins s σ H E I hf st hg
  subst hP hw hK
  obtain ⟨xs,x,hq,hx⟩:=hg
  obtain ⟨aQ,rv,p,hz⟩:=I.list hq
  obtain ⟨u,hu,ru⟩:=rv.get hx
  obtain ⟨f0,f1,f2,f3,f4,f5⟩:=hf it (by simp)
  refine wpAny_pyNext_list_item st p.isList (x:=u) (by simpa using hu) λh' st' sb=>?_
  have I1:Inv X pins σ H { s with heap:=h' }:=I.turned (t':=s.toks) (λb o hb e=>(sb.2 b hb).trans e) f0 f1 f3 f4 f5
  obtain ⟨o,e,c,d⟩:=id st'
  exact ⟨u,rfl,mr (s:={ s with heap:=h' }) e c d (by decide) ⟨x,H,I1,ru,⟨rfl,λys hy=>by rw [I.mG hy hq];exact hx⟩,st',λb hb=>(hf b hb).1⟩⟩
 done:=by
  intro X hP hw hK hc i pins s σ H E I hf st hg
  subst hP hw hK
  obtain ⟨xs,hq,hx⟩:=hg
  obtain ⟨aQ,rv,p,hz⟩:=I.list hq
  obtain ⟨f0,f1,f2,f3,f4,f5⟩:=hf it (by simp)
  have hl:=rv.length
  exact wpAny_pyNext_list_end (I.ok.hd hc) st p.isList (by simp;omega) λh' eb=>⟨rfl,I.turned (t':=s.toks) (λb o hb e=>eb b o hb e) f0 f1 f3 f4 f5⟩
 self:=λ_ _ _ _ _ st h=>wpAny_pyIter_listiter st h
theorem oI {P:Program} {w:World} {K:PySem.W.Frag} {tg:Expr} (a it:Addr):Turn P w K tg (Dl K a) [it] it (λi h=>h.IsTupleIter it a i) where
 mem:=by simp
 obj:=λi h st b hb=>by
  have e:b=it:=by simpa using hb
  subst e
  obtain ⟨o,e,c,d⟩:=st
  exact ⟨o,e,λv z=>by rw [d] at z;cases z⟩
 keep:=λi h h' st k=>st.at λo e=>k it (by simp) o e
 item:=by
  intro X hP hw hK hc i pins s σ H E I hf st hg
  subst hP hw hK
  obtain ⟨xs,x,hq,hx⟩:=hg
  obtain ⟨aQ,rv,p,hz⟩:=I.tuple hq
  obtain ⟨u,hu,ru⟩:=rv.get hx
  obtain ⟨f0,f1,f2,f3,f4,f5⟩:=hf it (by simp)
  refine wpAny_pyNext_tuple_item st (show s.heap.IsTuple a aQ.toArray from p) (x:=u) (by simpa using hu) λh' st' sb=>?_
  have I1:Inv X pins σ H { s with heap:=h' }:=I.turned (t':=s.toks) (λb o hb e=>(sb.2 b hb).trans e) f0 f1 f3 f4 f5
  obtain ⟨o,e,c,d⟩:=id st'
  exact ⟨u,rfl,mr (s:={ s with heap:=h' }) e c d (by decide) ⟨x,H,I1,ru,⟨rfl,λys hy=>by rw [I.kM hy hq];exact hx⟩,st',λb hb=>(hf b hb).1⟩⟩
 done:=by
  intro X hP hw hK hc i pins s σ H E I hf st hg
  subst hP hw hK
  obtain ⟨xs,hq,hx⟩:=hg
  obtain ⟨aQ,rv,p,hz⟩:=I.tuple hq
  obtain ⟨f0,f1,f2,f3,f4,f5⟩:=hf it (by simp)
  have hl:=rv.length
  exact wpAny_pyNext_tuple_end (I.ok.hd hc) st (show s.heap.IsTuple a aQ.toArray from p) (by simp;omega) λh' eb=>⟨rfl,I.turned (t':=s.toks) (λb o hb e=>eb b o hb e) f0 f1 f3 f4 f5⟩
 self:=λ_ _ _ _ _ st h=>wpAny_pyIter_tupleiter st h
theorem oH {P:Program} {w:World} {K:PySem.W.Frag} {tg:Expr} (it:Addr) (lo:Int) (n:Nat):Turn P w K tg (rF lo n) [it] it (λi h=>IsRangeIter h it (lo + (i:Nat) * 1) ((n:Int) - (i:Nat)) 1) where
 mem:=by simp
 obj:=λi h st b hb=>by
  have e:b=it:=by simpa using hb
  subst e
  exact ⟨_,st,λv z=>by
   have z':Data.fields _=Data.cell v:=z
   cases z'⟩
 keep:=λi h h' st k=>k it (by simp) _ st
 item:=by
  intro X hP hw hK hc i pins s σ H E I hf st hg
  subst hP hw hK
  obtain ⟨f0,f1,f2,f3,f4,f5⟩:=hf it (by simp)
  have W:=Walks.range (prog:=X.prog) (w:=X.w) (I.ok.hd hc) it lo 1 n
  refine W.item i s _ _ hg st λv h' tk hv st' kk=>?_
  obtain ⟨t,rfl⟩:=hv
  have I1:Inv X pins σ H { s with heap:=h',toks:=tk }:=I.turned (λb o hb e=>kk b o (by simpa using hb) e) f0 f1 f3 f4 f5
  refine ⟨_,rfl,mr (s:={ s with heap:=h',toks:=tk }) (n:="range_iterator") st' rfl rfl (by decide) ⟨.int (lo + i),H,I1,⟨t,?_⟩,⟨rfl,rfl⟩,st',λb hb=>(hf b hb).1⟩⟩
  rw [Int.mul_one]
 done:=by
  intro X hP hw hK hc i pins s σ H E I hf st hg
  subst hP hw hK
  obtain ⟨f0,f1,f2,f3,f4,f5⟩:=hf it (by simp)
  exact wpAny_pyNext_range_end (I.ok.hd hc) st (by have:n≤i:=hg;omega) λh' eb=>⟨rfl,I.turned (t':=s.toks) (λb o hb e=>eb b o hb e) f0 f1 f3 f4 f5⟩
 self:=λ_ _ _ _ _ st h=>wpAny_pyIter_rangeiter st h
end L2
namespace L2
open PySem PySem.Spec PyProof.Rows
section
variable {X:Cx} {tg:Expr}
def o8 (K:PySem.W.Frag) (tl:TE):TI:=λσ H R=>tl σ H λx H1=>∃a,x=.ref a∧(∃xs,bO K H1 a xs)∧R (uC K a) H1
def xU (K:PySem.W.Frag) (tl:TE):TI:=λσ H R=>tl σ H λx H1=>∃a,x=.ref a∧(∃xs,dz K H1 a xs)∧R (Dl K a) H1
theorem gP {l:Expr} {tl:TE} (hl:PE X l tl):PI X tg l (o8 X.K tl):=by
 intro pins s σ H R I h
 refine bA (hl pins s σ H _ I h) λv s1 ⟨x,H1,I1,r1,q1⟩=>?_
 obtain ⟨a,e,⟨xs,hq⟩,q⟩:=q1
 subst e
 cases r1
 obtain ⟨aQ,rv,p,hz⟩:=I1.list hq
 refine wpAny_pyIter_list p.isList ?_
 refine ⟨s1.heap.objs.size,[s1.heap.objs.size],_,_,H1,rfl,I1.kept (t':=s1.toks) λb o e=>Heap.get?_push_of_some _ e,ra a _,⟨_,Heap.get?_push_size _ rfl,rfl,rfl⟩,λb hb=>?_,q⟩
 have e:b=s1.heap.objs.size:=by simpa using hb
 subst e
 exact I1.uS (D5 _) (I1.hok.fresh (D5 _))
theorem n4 {l:Expr} {tl:TE} (hl:PE X l tl):PI X tg l (xU X.K tl):=by
 intro pins s σ H R I h
 refine bA (hl pins s σ H _ I h) λv s1 ⟨x,H1,I1,r1,q1⟩=>?_
 obtain ⟨a,e,⟨xs,hq⟩,q⟩:=q1
 subst e
 cases r1
 obtain ⟨aQ,rv,p,hz⟩:=I1.tuple hq
 refine wpAny_pyIter_tuple (show s1.heap.IsTuple a aQ.toArray from p) ?_
 refine ⟨s1.heap.objs.size,[s1.heap.objs.size],_,_,H1,rfl,I1.kept (t':=s1.toks) λb o e=>Heap.get?_push_of_some _ e,oI a _,⟨_,Heap.get?_push_size _ rfl,rfl,rfl⟩,λb hb=>?_,q⟩
 have e:b=s1.heap.objs.size:=by simpa using hb
 subst e
 exact I1.uS (D5 _) (I1.hok.fresh (D5 _))
theorem mQ {pins:List (Addr × Obj)} {σ:St} {H:Hp} {s:Shared} {R:It→Hp→Prop} {E:Value→Shared→Prop} {lo hi:Int} {t u v:Tok} {tk:Nat} (I:Inv X pins σ H s) (h1:-(2 ^ 62)≤lo) (h2:lo < 2 ^ 62) (h3:-(2 ^ 62)≤hi) (h4:hi < 2 ^ 62)
  (q:R (rF lo (hi - lo).toNat) H):wpAny (model X.prog X.w) X.A (pyIter (.ref s.heap.objs.size)) (Dq X pins σ tg R) E { s with heap:=s.heap.push { cls:=.type "range",data:=.fields #[.int lo t,.int hi u,.int 1 v] },toks:=tk }:=by
 refine wpAny_pyIter_range (IsRange.new ..) (small_one h1 h2 h3 h4) ?_
 have I1:Inv X pins σ H { s with heap:=s.heap.push { cls:=.type "range",data:=.fields #[.int lo t,.int hi u,.int 1 v] },toks:=tk }:=I.kept λb o e=>Heap.get?_push_of_some _ e
 refine ⟨(s.heap.push { cls:=.type "range",data:=.fields #[.int lo t,.int hi u,.int 1 v] }).objs.size,[(s.heap.push { cls:=.type "range",data:=.fields #[.int lo t,.int hi u,.int 1 v] }).objs.size],_,_,H,rfl,
  I1.kept (t':=tk) λb o e=>Heap.get?_push_of_some _ e,oH _ lo (hi - lo).toNat,?_,λb hb=>?_,q⟩
 ·have e1:lo + ((0:Nat):Int) * 1=lo:=by simp
  have e2:(((hi - lo).toNat:Nat):Int) - ((0:Nat):Int)=Builtin.Range.rangeSize lo hi 1:=by rw [rangeSize_one];split <;> omega
  show IsRangeIter _ _ (lo + ((0:Nat):Int) * 1) ((((hi - lo).toNat:Nat):Int) - ((0:Nat):Int)) 1
  rw [e1,e2]
  exact Heap.get?_push_size _ rfl
 ·have e:b=(s.heap.push { cls:=.type "range",data:=.fields #[.int lo t,.int hi u,.int 1 v] }).objs.size:=by simpa using hb
  subst e
  exact I1.uS (D5 _) (I1.hok.fresh (D5 _))
def o9 (ta:TA):TI:=λσ H R=>ta σ H λvs H1=>∃j:Int,vs=[.int j]∧-(2 ^ 62)≤j∧j < 2 ^ 62∧R (rF 0 j.toNat) H1
def o_ (ta:TA):TI:=λσ H R=>ta σ H λvs H1=>∃i j:Int,vs=[.int i,.int j]∧(-(2 ^ 62)≤i∧i < 2 ^ 62∧-(2 ^ 62)≤j∧j < 2 ^ 62)∧R (rF i (j - i).toNat) H1
theorem cY {a:Expr} {ta:TA} {p pos:Pos} (hg:Gl X "range") (hm:X.mg "range"=none) (ha:PA X [a] ta) (hs:starEach [a] X.env=[(false,eval a X.env)]:=by rfl):PI X tg (.Call (.Name "range" p) [a] [] pos) (o9 ta):=by
 intro pins s σ H R I h
 refine Call_ (ib I hg hm boot_range (PyProof.Rows.callWith_type1 (bA (ha pos pins s σ H _ I h) λus s1 ⟨vs,H1,I1,r1,q1⟩=>?_) hs rfl))
 obtain ⟨j,e,q1,q2,q⟩:=q1
 subst e
 cases r1 with
 | cons r rr =>
  cases rr
  obtain ⟨t,rfl⟩:=r
  exact call_range_1 (mQ I1 (by omega) (by omega) q1 q2 (by simpa using q))
theorem ik {a b:Expr} {ta:TA} {p pos:Pos} (hg:Gl X "range") (hm:X.mg "range"=none) (ha:PA X [a,b] ta) (hs:starEach [a,b] X.env=[(false,eval a X.env),(false,eval b X.env)]:=by rfl) (hs2:starEach [b] X.env=[(false,eval b X.env)]:=by rfl) :
  PI X tg (.Call (.Name "range" p) [a,b] [] pos) (o_ ta):=by
 intro pins s σ H R I h
 refine Call_ (ib I hg hm boot_range (PyProof.Rows.callWith_type1 (bA (ha pos pins s σ H _ I h) λus s1 ⟨vs,H1,I1,r1,q1⟩=>?_) (by rw [hs,hs2]) (by rw [hs2];rfl)))
 obtain ⟨i,j,e,⟨q1,q2,q3,q4⟩,q⟩:=q1
 subst e
 cases r1 with
 | cons r rr =>
  cases rr with
  | cons r' rr =>
   cases rr
   obtain ⟨t,rfl⟩:=r
   obtain ⟨t',rfl⟩:=r'
   exact call_range_2 (mQ I1 q1 q2 q3 q4 q)
def y4 (wi:TI) (g:TG) (tb:TS):TS:=λD σ H=>wi σ H λJ H1=>∃W:Nat→Nat→St→Hp→Prop,(∃m,W 0 m σ H1)∧∀i m σ H,W i m σ H →
 (J.stop i H∧D.nx σ H)∨(J.go i H∧∃N:St→Hp→Prop,(∀σ' H',N σ' H'→∃m',m' < m∧W (i + 1) m' σ' H')∧∀x H',J.yld i H x H'→g x σ H' λσ2 H2=>tb { D with nx:=N,ct:=N,bk:=D.nx } σ2 H2)
def lK (fp:List Addr) (h:Heap):List (Addr × Obj):=fp.filterMap λb=>(h.get? b).map λo=>(b,o)
theorem bM {fp:List Addr} {h:Heap} {b:Addr} {o:Obj} (hb:b∈fp) (e:h.get? b=some o):(b,o)∈lK fp h:=EX.mpr ⟨b,hb,by rw [e];rfl⟩
theorem qK {fp:List Addr} {h:Heap} {p:Addr × Obj} (hp:p∈lK fp h):p.1∈fp∧h.get? p.1=some p.2:=by
 obtain ⟨b,hb,e⟩:=EX.mp hp
 cases q:h.get? b with
 | none=>rw [q] at e;cases e
 | some o =>
  rw [q] at e
  have e':(b,o)=p:=Option.some.inj e
  subst e'
  exact ⟨hb,q⟩
theorem Inv.pinned {pins:List (Addr × Obj)} {σ:St} {H:Hp} {s:Shared} {fp:List Addr} (I:Inv X pins σ H s) (hf:∀b∈fp,gu X pins H b) (ho:∀b∈fp,∃o,s.heap.get? b=some o∧∀v,o.data≠.cell v):Inv X (pins ++ lK fp s.heap) σ H s :=
 I.pH λp hp=>(EC.mp hp).elim (λz=>I.pin p (D7 _ z)) λz=>by
  obtain ⟨hb,e⟩:=qK z
  obtain ⟨f0,f1,f2,_⟩:=hf p.1 hb
  obtain ⟨o,e',d⟩:=ho p.1 hb
  rw [e] at e';cases e'
  exact ⟨e,f0,f1,f2,d⟩
theorem Inv.d7 {pins pl:List (Addr × Obj)} {σ:St} {H:Hp} {s:Shared} (I:Inv X (pins ++ pl) σ H s):Inv X pins σ H s:=I.pH λp hp=>I.pin p (D7 _ (ET _ hp))
theorem il {iter:Expr} {body:List Stmt} {wi:TI} {g:TG} {tb:TS} {pos:Pos} (hp:PassesOwn (model X.prog X.w) X.A X.env X.xe) (hc:X.calm=true) (hi:PI X tg iter wi) (hg:PG X tg g) (hb:j3 X body tb)
  (hs:∀x,foldedSetIterable iter X.env x=pure x:=by intro _;rfl):PS X (.For tg iter body [] pos) (y4 wi g tb):=by
 intro pins s σ H D I h
 refine wpAny_For (bA (hi pins s σ H _ I h) λv s1 h1=>bA h1 λitv s2 h2=>?_) hs
 obtain ⟨it,fp,tn,J,H2,e,I2,T,st2,f2,W,⟨m0,w0⟩,turn⟩:=h2
 subst e
 have stat:∀{H':Hp},(∀b∈fp,H' b=none)→∀b∈fp,gu X pins H' b:=λhn b hb=>⟨hn b hb,(f2 b hb).2⟩
 refine codeAny_forLoop_any (λn s'=>∃i σ' H',Inv X pins σ' H' s'∧tn i s'.heap∧(∀b∈fp,H' b=none)∧W i n σ' H') ?_ m0 ⟨0,σ,H2,I2,st2,λb hb=>(f2 b hb).1,w0⟩
 rintro n s3 ⟨i,σ3,H3,I3,st3,fr3,w3⟩
 rcases turn i n σ3 H3 w3 with ⟨stop,qn⟩ | ⟨go,N,hN,step⟩
 ·refine wpAny_passesOwn hp (bA (T.done X rfl rfl rfl hc i pins s3 σ3 H3 X.xe I3 (stat fr3) st3 stop) λr s4 ⟨hr,I4⟩=>?_)
  subst hr
  exact wpAny_execs_nil ⟨σ3,H3,I4,qn⟩
 ·refine wpAny_passesOwn hp (bA (T.item X rfl rfl rfl hc i pins s3 σ3 H3 X.xe I3 (stat fr3) st3 go) λr s4 ⟨u,hr,h4⟩=>?_)
  subst hr
  refine wpAny_passesOwn hp (bA h4 λ_ s5 ⟨x,H5,I5,r5,y5,st5,fr5⟩=>?_)
  have I5':=I5.pinned (stat fr5) (T.obj _ _ st5)
  refine wpAny_passesOwn hp (bA (hg _ s5 σ3 H5 x u _ I5' r5 (step x H5 y5)) λ_ s6 ⟨σ6,H6,I6,q6⟩=>?_)
  refine wpAny_passesOwn hp (bA (hb _ s6 σ6 H6 _ I6 q6) λf s7 q7=>?_)
  have again:∀{σ7:St} {H7:Hp},Inv X (pins ++ lK fp s5.heap) σ7 H7 s7→N σ7 H7→∃m,m < n∧∃i σ' H',Inv X pins σ' H' s7∧tn i s7.heap∧(∀b∈fp,H' b=none)∧W i m σ' H':=λ{σ7 H7} I7 n7=>by
   obtain ⟨m',hm,w7⟩:=hN σ7 H7 n7
   refine ⟨m',hm,i + 1,σ7,H7,I7.d7,T.keep _ _ _ st5 λb hb o e=>(I7.pin (b,o) (D7 _ (D7 _ (bM hb e)))).1,λb hb=>?_,w7⟩
   obtain ⟨o,e,d⟩:=T.obj _ _ st5 b hb
   exact (I7.pin (b,o) (D7 _ (D7 _ (bM hb e)))).2.1
  cases f with
  | next=>obtain ⟨σ7,H7,I7,n7⟩:=q7;exact again I7 n7
  | cont=>obtain ⟨σ7,H7,I7,n7⟩:=q7;exact again I7 n7
  | brk=>obtain ⟨σ7,H7,I7,q7⟩:=q7;exact ⟨σ7,H7,I7.d7,q7⟩
  | ret v=>obtain ⟨x7,σ7,H7,I7,r7,q7⟩:=q7;exact ⟨x7,σ7,H7,I7.d7,r7,q7⟩
end
theorem sj {K:PySem.W.Frag} {a:Addr} {xs:List V} {g:TG} {tb:TS} {D:Ends} {σ:St} {H:Hp} (Pv:Nat→St→Hp→Prop) (h0:Pv 0 σ H) (hl:∀i σ H,i≤xs.length→Pv i σ H→bO K H a xs)
  (hs:∀i x σ H,xs[i]?=some x→Pv i σ H→g x σ H λσ2 H2=>tb { D with nx:=Pv (i + 1),ct:=Pv (i + 1),bk:=D.nx } σ2 H2) (hd:∀σ H,Pv xs.length σ H→D.nx σ H) :
  ∃W:Nat→Nat→St→Hp→Prop,(∃m,W 0 m σ H)∧∀i m σ H,W i m σ H →
   ((uC K a).stop i H∧D.nx σ H)∨((uC K a).go i H∧∃N:St→Hp→Prop,(∀σ' H',N σ' H'→∃m',m' < m∧W (i + 1) m' σ' H')∧∀x H',(uC K a).yld i H x H'→g x σ H' λσ2 H2=>tb { D with nx:=N,ct:=N,bk:=D.nx } σ2 H2):=by
 refine ⟨λi m σ H=>m=xs.length - i∧i≤xs.length∧Pv i σ H,⟨xs.length,by simp,Ex _,h0⟩,?_⟩
 rintro i m σ H ⟨rfl,hi,p⟩
 have q:=hl i σ H hi p
 by_cases hlt:i < xs.length
 ·refine .inr ⟨⟨xs,xs[i],q,by simp [hlt]⟩,Pv (i + 1),λσ' H' p'=>⟨xs.length - (i + 1),by omega,rfl,hlt,p'⟩,λx H' y=>?_⟩
  obtain ⟨e,y⟩:=y
  subst e
  exact hs i x σ _ (y xs q) p
 ·have e:i=xs.length:=by omega
  subst e
  exact .inl ⟨⟨xs,q,D5 _⟩,hd σ H p⟩
theorem ku {lo:Int} {n:Nat} {g:TG} {tb:TS} {D:Ends} {σ:St} {H:Hp} (Pv:Nat→St→Hp→Prop) (h0:Pv 0 σ H)
  (hs:∀i σ H,i < n→Pv i σ H→g (.int (lo + i)) σ H λσ2 H2=>tb { D with nx:=Pv (i + 1),ct:=Pv (i + 1),bk:=D.nx } σ2 H2) (hd:∀σ H,Pv n σ H→D.nx σ H) :
  ∃W:Nat→Nat→St→Hp→Prop,(∃m,W 0 m σ H)∧∀i m σ H,W i m σ H →
   ((rF lo n).stop i H∧D.nx σ H)∨((rF lo n).go i H∧∃N:St→Hp→Prop,(∀σ' H',N σ' H'→∃m',m' < m∧W (i + 1) m' σ' H')∧∀x H',(rF lo n).yld i H x H'→g x σ H' λσ2 H2=>tb { D with nx:=N,ct:=N,bk:=D.nx } σ2 H2):=by
 refine ⟨λi m σ H=>m=n - i∧i≤n∧Pv i σ H,⟨n,by simp,Ex _,h0⟩,?_⟩
 rintro i m σ H ⟨rfl,hi,p⟩
 by_cases hlt:i < n
 ·refine .inr ⟨hlt,Pv (i + 1),λσ' H' p'=>⟨n - (i + 1),by omega,rfl,hlt,p'⟩,λx H' y=>?_⟩
  obtain ⟨e,y⟩:=y
  subst e y
  exact hs i σ _ hlt p
 ·have e:i=n:=by omega
  subst e
  exact .inl ⟨D5 _,hd σ H p⟩
theorem ni {c:TT} {tb:TS} {D:Ends} {σ:St} {H:Hp} (Pv:St→Hp→Prop) (μ:St→Hp→Nat) (h0:Pv σ H)
  (hs:∀σ H,Pv σ H→c σ H λb H1=>if b=true then tb { D with nx:=λσ' H'=>Pv σ' H'∧μ σ' H' < μ σ H,ct:=λσ' H'=>Pv σ' H'∧μ σ' H' < μ σ H,bk:=D.nx } σ H1 else D.nx σ H1)
  (mono:∀σ H Q Q',(∀b H1,Q b H1→Q' b H1)→c σ H Q→c σ H Q'):lZ c tb D σ H:=by
 refine ⟨λm σ H=>m=μ σ H∧Pv σ H,⟨_,rfl,h0⟩,?_⟩
 rintro m σ H ⟨rfl,p⟩
 refine mono σ H _ _ (λb H1 q=>?_) (hs σ H p)
 cases b with
 | true=>exact ⟨_,λσ' H' ⟨p',l⟩=>⟨_,l,rfl,p'⟩,q⟩
 | false=>exact q
end L2
namespace L2
open PySem PySem.Spec PyProof.Rows
abbrev R2:=V→V→Hp→VK→Prop
def cn (X:Cx) (f:Value→Value→Sem Value) (r:R2):Prop :=
 ∀(pins:List (Addr × Obj)) (s:Shared) (σ:St) (H:Hp) (x y:V) (v u:Value) (Q:VK),Inv X pins σ H s→RelV x v→RelV y u→r x y H Q →
  wpAny (model X.prog X.w) X.A (f v u) (EP X pins σ Q) X.xe s
def jb (X:Cx) (f:Value→Sem Value) (r:V→Hp→VK→Prop):Prop :=
 ∀(pins:List (Addr × Obj)) (s:Shared) (σ:St) (H:Hp) (x:V) (v:Value) (Q:VK),Inv X pins σ H s→RelV x v→r x H Q →
  wpAny (model X.prog X.w) X.A (f v) (EP X pins σ Q) X.xe s
def aZ (X:Cx) (f:Value) (r:List V→Hp→VK→Prop):Prop :=
 ∀(pins:List (Addr × Obj)) (s:Shared) (σ:St) (H:Hp) (xs:List V) (us:List Value) (Q:VK),Inv X pins σ H s→Vals xs us→r xs H Q →
  wpAny (model X.prog X.w) X.A (call f us) (EP X pins σ Q) X.xe s
def uh (r:R2) (ta tb:TE):TE:=λσ H Q=>ta σ H λx H1=>tb σ H1 λy H2=>r x y H2 Q
def BM (r:V→Hp→VK→Prop) (ta:TE):TE:=λσ H Q=>ta σ H λx H1=>r x H1 Q
def rI (C:Int→Int→Prop) (g:Int→Int→V):R2:=λx y H Q=>∃i j,x=.int i∧y=.int j∧C i j∧Q (g i j) H
def ur (g:Int→Int→V):R2:=λx y H Q=>∃i j,x=.int i∧y=.int j∧Q (g i j) H
def rU (g:Int→V):V→Hp→VK→Prop:=λx H Q=>∃i,x=.int i∧Q (g i) H
section
variable {X:Cx} {a b c:Expr} {ta tb tc:TE} {pos:Pos}
theorem xD (ha:PE X a ta) (hb:PE X b tb) {pins:List (Addr × Obj)} {s:Shared} {σ:St} {H:Hp} {R:V→V→Hp→Prop} (I:Inv X pins σ H s)
  (h:ta σ H λx H1=>tb σ H1 λy H2=>R x y H2) {Q:Value→Shared→Prop} {f:Value→Value→Sem Value}
  (hf:∀v u s2 x y H2,Inv X pins σ H2 s2→RelV x v→RelV y u→R x y H2→wpAny (model X.prog X.w) X.A (f v u) Q X.xe s2) :
  wpAny (model X.prog X.w) X.A (eval a X.env) (λv s₁=>wpAny (model X.prog X.w) X.A (eval b X.env) (λu s₂=>wpAny (model X.prog X.w) X.A (f v u) Q X.xe s₂) X.xe s₁) X.xe s:=by
 refine bA (ha pins s σ H _ I h) λv s1 ⟨x,H1,I1,r1,q1⟩=>?_
 refine bA (hb pins s1 σ H1 _ I1 q1) λu s2 ⟨y,H2,I2,r2,q2⟩=>?_
 exact hf v u s2 x y H2 I2 r1 r2 q2
theorem bc {op:Operator} {r:R2} (ho:cn X (binaryOp op) r) (ha:PE X a ta) (hb:PE X b tb):PE X (.BinOp a op b pos) (uh r ta tb):=by
 intro pins s σ H Q I h
 exact wpAny_BinOp (xD ha hb I h λv u s2 x y H2 I2 rx ry q=>ho pins s2 σ H2 x y v u Q I2 rx ry q)
theorem tF {op:UnaryOp} {r:V→Hp→VK→Prop} (ho:jb X (unaryOp op) r) (ha:PE X a ta):PE X (.UnaryOp op a pos) (BM r ta):=by
 intro pins s σ H Q I h
 exact UnaryOp_ (bA (ha pins s σ H _ I h) λv s1 ⟨x,H1,I1,r1,q1⟩=>ho pins s1 σ H1 x v Q I1 r1 q1)
theorem BF {f:Value→Value→Sem Value} {C:Int→Int→Prop} {g:Int→Int→Int}
  (rule:∀(i j:Int) (t u:Tok) (s:Shared) (Q:Value→Shared→Prop) (E:Value→Shared→Prop),C i j→Q (.int (g i j) s.toks) { s with toks:=s.toks + 1 }→wpAny (model X.prog X.w) X.A (f (.int i t) (.int j u)) Q E s) :
  cn X f (rI C λi j=>.int (g i j)):=by
 intro pins s σ H x y v u Q I rx ry h
 obtain ⟨i,j,rfl,rfl,hc,q⟩:=h
 obtain ⟨t,rfl⟩:=rx
 obtain ⟨t',rfl⟩:=ry
 exact rule i j t t' s _ _ hc ⟨.int (g i j),H,I.tok _,⟨_,rfl⟩,q⟩
theorem AD {f:Value→Value→Sem Value} {g:Int→Int→Int}
  (rule:∀(i j:Int) (t u:Tok) (s:Shared) (Q:Value→Shared→Prop) (E:Value→Shared→Prop),Q (.int (g i j) s.toks) { s with toks:=s.toks + 1 }→wpAny (model X.prog X.w) X.A (f (.int i t) (.int j u)) Q E s) :
  cn X f (ur λi j=>.int (g i j)):=by
 intro pins s σ H x y v u Q I rx ry h
 obtain ⟨i,j,rfl,rfl,q⟩:=h
 obtain ⟨t,rfl⟩:=rx
 obtain ⟨t',rfl⟩:=ry
 exact rule i j t t' s _ _ ⟨.int (g i j),H,I.tok _,⟨_,rfl⟩,q⟩
theorem vo {f:Value→Value→Sem Value} {g:Int→Int→Bool}
  (rule:∀(i j:Int) (t u:Tok) (s:Shared) (Q:Value→Shared→Prop) (E:Value→Shared→Prop),Q (.bool (g i j)) s→wpAny (model X.prog X.w) X.A (f (.int i t) (.int j u)) Q E s) :
  cn X f (ur λi j=>.bl (g i j)):=by
 intro pins s σ H x y v u Q I rx ry h
 obtain ⟨i,j,rfl,rfl,q⟩:=h
 obtain ⟨t,rfl⟩:=rx
 obtain ⟨t',rfl⟩:=ry
 exact rule i j t t' s _ _ ⟨.bl (g i j),H,I,rfl,q⟩
def xh (i j:Int):Prop:=0≤j∧j≤1000000∧i.natAbs < 2 ^ 64
theorem er:cn X (binaryOp .Add) (ur λi j=>.int (i + j)):=AD λ_ _ _ _ _ _ _ q=>add_int q
theorem s_:cn X (binaryOp .Sub) (ur λi j=>.int (i - j)):=AD λ_ _ _ _ _ _ _ q=>sub_int q
theorem dh:cn X (binaryOp .Mod) (rI (λ_ j=>0 < j) λi j=>.int (i % j)):=BF λi j _ _ _ _ _ hc q=>by
 have h1:(0:Int) < j:=hc
 exact mod_int' (by omega) (by rw [Int.fmod_eq_emod_of_nonneg i (by omega)];exact q)
theorem nT:cn X (binaryOp .Pow) (rI xh λi j=>.int (i ^ j.toNat)):=BF λ_ _ _ _ _ _ _ hc q=>pow_int_small hc.1 hc.2.1 hc.2.2 q
theorem DY {f:Value→Sem Value} {g:Int→Int}
  (rule:∀(i:Int) (t:Tok) (s:Shared) (Q:Value→Shared→Prop) (E:Value→Shared→Prop),Q (.int (g i) s.toks) { s with toks:=s.toks + 1 }→wpAny (model X.prog X.w) X.A (f (.int i t)) Q E s) :
  jb X f (rU λi=>.int (g i)):=by
 intro pins s σ H x v Q I rx h
 obtain ⟨i,rfl,q⟩:=h
 obtain ⟨t,rfl⟩:=rx
 exact rule i t s _ _ ⟨.int (g i),H,I.tok _,⟨_,rfl⟩,q⟩
theorem zf:jb X (unaryOp .USub) (rU λi=>.int (-i)):=DY λ_ _ _ _ _ q=>neg_int q
end
def t9:V→V→Bool
 | .non,.non=>true | .non,.int _=>true | .int _,.non=>true | .non,.bl _=>true | .bl _,.non=>true | .non,.str _=>true | .str _,.non=>true
 | .int _,.int _=>true | .bl _,.bl _=>true | .str _,.str _=>true | .byt _,.byt _=>true
 | .int _,.str _=>true | .str _,.int _=>true | .bl _,.str _=>true | .str _,.bl _=>true
 | _,_=>false
def DD:R2:=λx y H Q=>t9 x y=true∧Q (.bl (decide (x=y))) H
def DG:R2:=λx y H Q=>t9 x y=true∧Q (.bl (!decide (x=y))) H
theorem oW {i j:Int}:decide (V.int i=V.int j)=(i == j):=by
 rw [EI]
 simp
theorem rZ {i j:Bool}:decide (V.bl i=V.bl j)=(i == j):=by
 rw [EI]
 simp
theorem oX {i j:Str}:decide (V.str i=V.str j)=(i == j):=by
 rw [EI]
 simp
theorem oV {i j:Array UInt8}:decide (V.byt i=V.byt j)=(i.toList == j.toList):=by
 rw [EI]
 cases i
 cases j
 simp
section
variable {X:Cx} {a b c:Expr} {ta tb tc:TE} {pos:Pos}
theorem aW {pins:List (Addr × Obj)} {σ:St} {H:Hp} {s:Shared} {Q:VK} {k k':Bool} (I:Inv X pins σ H s) (q:Q (.bl k) H) (e:k=k'):EP X pins σ Q (.bool k') s:=by
 subst e
 exact ⟨.bl k,H,I,rfl,q⟩
theorem wC:cn X (compareOp .Eq) DD:=by
 intro pins s σ H x y v u Q I rx ry h
 obtain ⟨hs,q⟩:=h
 cases x with
 | non =>
  cases rx
  cases y with
  | non=>cases ry;exact PySem.EqNone.eq_none_none (aW I q (by simp))
  | bl j=>cases ry;exact PySem.EqNone.eq_none_bool (aW I q (by simp))
  | int j=>obtain ⟨t',rfl⟩:=ry;exact PySem.EqNone.eq_none_int (aW I q (by simp))
  | str j=>obtain ⟨t',rfl⟩:=ry;exact PySem.EqNone.eq_none_str (aW I q (by simp))
  | _=>exact absurd (show false=true from hs) Ec
 | bl i =>
  cases rx
  cases y with
  | non=>cases ry;exact PySem.EqNone.eq_bool_none (aW I q (by simp))
  | bl j=>cases ry;exact eq_bool (aW I q rZ)
  | str j=>obtain ⟨t',rfl⟩:=ry;exact PySem.EqMixed.eq_bool_str (aW I q (by simp))
  | _=>exact absurd (show false=true from hs) Ec
 | int i =>
  obtain ⟨t,rfl⟩:=rx
  cases y with
  | non=>cases ry;exact PySem.EqNone.eq_int_none (aW I q (by simp))
  | int j=>obtain ⟨t',rfl⟩:=ry;exact eq_int (aW I q oW)
  | str j=>obtain ⟨t',rfl⟩:=ry;exact PySem.EqMixed.eq_int_str (aW I q (by simp))
  | _=>exact absurd (show false=true from hs) Ec
 | str i =>
  obtain ⟨t,rfl⟩:=rx
  cases y with
  | non=>cases ry;exact PySem.EqNone.eq_str_none (aW I q (by simp))
  | bl j=>cases ry;exact PySem.EqMixed.eq_str_bool (aW I q (by simp))
  | int j=>obtain ⟨t',rfl⟩:=ry;exact PySem.EqMixed.eq_str_int (aW I q (by simp))
  | str j=>obtain ⟨t',rfl⟩:=ry;exact eq_str (aW I q oX)
  | _=>exact absurd (show false=true from hs) Ec
 | byt i =>
  obtain ⟨t,rfl⟩:=rx
  cases y with
  | byt j=>obtain ⟨t',rfl⟩:=ry;exact PySem.W.eq_bytes (aW I q oV)
  | _=>exact absurd (show false=true from hs) Ec
 | _=>cases y <;> exact absurd (show false=true from hs) Ec
theorem wH:cn X (compareOp .NotEq) DG:=by
 intro pins s σ H x y v u Q I rx ry h
 obtain ⟨hs,q⟩:=h
 cases x with
 | non =>
  cases rx
  cases y with
  | non=>cases ry;exact PySem.EqNone.ne_none_none (aW I q (by simp))
  | bl j=>cases ry;exact PySem.EqNone.ne_none_bool (aW I q (by simp))
  | int j=>obtain ⟨t',rfl⟩:=ry;exact PySem.EqNone.ne_none_int (aW I q (by simp))
  | str j=>obtain ⟨t',rfl⟩:=ry;exact PySem.EqNone.ne_none_str (aW I q (by simp))
  | _=>exact absurd (show false=true from hs) Ec
 | bl i =>
  cases rx
  cases y with
  | non=>cases ry;exact PySem.EqNone.ne_bool_none (aW I q (by simp))
  | bl j=>cases ry;exact ne_bool (aW I q (congrArg not rZ))
  | str j=>obtain ⟨t',rfl⟩:=ry;exact PySem.EqMixed.ne_bool_str (aW I q (by simp))
  | _=>exact absurd (show false=true from hs) Ec
 | int i =>
  obtain ⟨t,rfl⟩:=rx
  cases y with
  | non=>cases ry;exact PySem.EqNone.ne_int_none (aW I q (by simp))
  | int j=>obtain ⟨t',rfl⟩:=ry;exact ne_int (aW I q (congrArg not oW))
  | str j=>obtain ⟨t',rfl⟩:=ry;exact PySem.EqMixed.ne_int_str (aW I q (by simp))
  | _=>exact absurd (show false=true from hs) Ec
 | str i =>
  obtain ⟨t,rfl⟩:=rx
  cases y with
  | non=>cases ry;exact PySem.EqNone.ne_str_none (aW I q (by simp))
  | bl j=>cases ry;exact PySem.EqMixed.ne_str_bool (aW I q (by simp))
  | int j=>obtain ⟨t',rfl⟩:=ry;exact PySem.EqMixed.ne_str_int (aW I q (by simp))
  | str j=>obtain ⟨t',rfl⟩:=ry;exact ne_str (aW I q (congrArg not oX))
  | _=>exact absurd (show false=true from hs) Ec
 | byt i =>
  obtain ⟨t,rfl⟩:=rx
  cases y with
  | byt j=>obtain ⟨t',rfl⟩:=ry;exact PySem.W.ne_bytes (aW I q (congrArg not oV))
  | _=>exact absurd (show false=true from hs) Ec
 | _=>cases y <;> exact absurd (show false=true from hs) Ec
theorem sZ:cn X (compareOp .Lt) (ur λi j=>.bl (decide (i < j))):=vo λ_ _ _ _ _ _ _ q=>lt_int q
theorem wG:cn X (compareOp .LtE) (ur λi j=>.bl (decide (i≤j))):=vo λ_ _ _ _ _ _ _ q=>le_int q
theorem wF:cn X (compareOp .Gt) (ur λi j=>.bl (decide (j < i))):=vo λ_ _ _ _ _ _ _ q=>gt_int q
theorem wD:cn X (compareOp .GtE) (ur λi j=>.bl (decide (j≤i))):=vo λ_ _ _ _ _ _ _ q=>ge_int q
theorem yw:cn X (compareOp .Is) (λx y H Q=>y=.non∧Q (.bl (decide (x=.non))) H):=by
 intro pins s σ H x y v u Q I rx ry h
 obtain ⟨rfl,q⟩:=h
 cases ry
 refine is_none_gen (aW I q ?_)
 cases x <;> first
  | (cases rx;rfl)
  | (obtain ⟨t,rfl⟩:=rx;rfl)
theorem cn.or {f:Value→Value→Sem Value} {r r':R2} (h:cn X f r) (h':cn X f r'):cn X f (λx y H Q=>r x y H Q∨r' x y H Q):=by
 intro pins s σ H x y v u Q I rx ry q
 rcases q with q | q
 ·exact h pins s σ H x y v u Q I rx ry q
 ·exact h' pins s σ H x y v u Q I rx ry q
theorem df (b:Expr) {op:CmpOp} (h:op≠.In:=by decide) (h2:op≠.NotIn:=by decide):behindInMarks op b=false:=by
 have e1:(op == CmpOp.In)=false:=by cases op <;> first | rfl | exact absurd rfl h
 have e2:(op == CmpOp.NotIn)=false:=by cases op <;> first | rfl | exact absurd rfl h2
 cases b <;> simp [behindInMarks,e1,e2]
theorem lI {op:CmpOp} {r:R2} (ho:cn X (compareOp op) r) (ha:PE X a ta) (hb:PE X b tb) (hm:behindInMarks op b=false):PE X (.Compare a [op] [b] pos) (uh r ta tb):=by
 intro pins s σ H Q I h
 exact wpAny_Compare1 (xD ha hb I h λv u s2 x y H2 I2 rx ry q=>ho pins s2 σ H2 x y v u Q I2 rx ry q) hm
def qb (t:TE):TT:=λσ H Q=>t σ H λx H'=>∃k,x=.bl k∧Q k H'
theorem bX {op:CmpOp} {r:R2} (ho:cn X (compareOp op) r) (ha:PE X a ta) (hb:PE X b tb) (hm:behindInMarks op b=false):PT X (.Compare a [op] [b] pos) (qb (uh r ta tb)):=by
 intro pins s σ H Q I h
 refine wpAny_isTrue_Compare1 (bA (ha pins s σ H _ I h) λv s1 ⟨x,H1,I1,r1,q1⟩=>bA (hb pins s1 σ H1 _ I1 q1) λu s2 ⟨y,H2,I2,r2,q2⟩ =>
  bA (ho pins s2 σ H2 x y v u _ I2 r1 r2 q2) λc s3 ⟨z,H3,I3,r3,k,e,q3⟩=>?_) hm
 subst e
 cases r3
 exact wpAny_truthy_bool ⟨H3,I3,q3⟩
theorem ie:(sizeLine:Nat) < 2 ^ 63:=by rw [sizeLine_eq];decide
theorem nS:cn X (binaryOp .Add) (λx y H Q=>∃i j,x=.str i∧y=.str j∧i.length + j.length≤sizeLine∧Q (.str (i ++ j)) H):=by
 intro pins s σ H x y v u Q I rx ry h
 obtain ⟨i,j,rfl,rfl,hz,q⟩:=h
 obtain ⟨t,rfl⟩:=rx
 obtain ⟨t',rfl⟩:=ry
 exact add_str (λt' tk=>⟨.str (i ++ j),H,I.tok _,⟨_,rfl⟩,q⟩) hz
theorem vals1 {x:V} {us:List Value} (r:Vals [x] us):∃u,us=[u]∧RelV x u:=by
 cases r with
 | cons r1 r2=>cases r2;exact ⟨_,rfl,r1⟩
theorem vals2 {x y:V} {us:List Value} (r:Vals [x,y] us):∃u w',us=[u,w']∧RelV x u∧RelV y w':=by
 cases r with
 | cons r1 r2 =>
  cases r2 with
  | cons r3 r4=>cases r4;exact ⟨_,_,rfl,r1,r3⟩
theorem gy:aZ X (.builtin "abs") (λxs H Q=>∃i,xs=[.int i]∧Q (.int (if i < 0 then -i else i)) H):=by
 intro pins s σ H xs us Q I r h
 obtain ⟨i,rfl,q⟩:=h
 obtain ⟨u,rfl,t,rfl⟩:=vals1 r
 exact call_abs_int λu tk=>⟨.int (if i < 0 then -i else i),H,I.tok _,⟨_,rfl⟩,q⟩
theorem kT:aZ X (.type "str") (λxs H Q=>∃i,xs=[.int i]∧i.natAbs.log2 < 1920∧Q (.str (toString i)) H):=by
 intro pins s σ H xs us Q I r h
 obtain ⟨i,rfl,hz,q⟩:=h
 obtain ⟨u,rfl,t,rfl⟩:=vals1 r
 exact PySem.P.str_of_int hz ⟨.str _,H,I.tok _,⟨_,rfl⟩,q⟩
end
end L2
namespace L2
open PySem PySem.Spec PyProof.Rows
structure xw (h:Heap) (x dx C:Addr) (mA:Str→Option Value):Prop where
 obj:h.get? x=some (PySem.W.instObj C dx)
 ns:h.Ns1 dx mA
 ne:dx≠x
theorem qD {h:Heap} {dx:Addr} {mA:Str→Option Value} (n:h.Ns1 dx mA):∃od,h.get? dx=some od∧∀name,PySem.W.lookIn name od=some (mA name):=by
 obtain ⟨o,es,ep,ho,hd,hk,_,hm⟩:=n
 refine ⟨o,ho,λname=>?_⟩
 have e:=hm name
 unfold nsFind findBy at e
 rw [← Array.find?_toList] at e
 unfold PySem.W.lookIn
 rw [hd]
 dsimp only
 split
 ·rename_i y q
  rw [q] at e
  exact congrArg some e
 ·rename_i q
  rw [q] at e
  have a:es.toList.any (·.refKey)=false:=by
   rw [List.any_eq_false]
   intro y hy
   obtain ⟨z,t,hkey⟩:=hk y (Array.mem_toList_iff.mp hy)
   simp [DictEntry.refKey,hkey]
  have a':¬ es.toList.any (·.refKey)=true:=by rw [a];exact Ec
  rw [if_neg a']
  exact congrArg some e
theorem xw.look {h:Heap} {x dx C:Addr} {mA:Str→Option Value} (I:xw h x dx C mA):∃od,PySem.W.InstAt h x (PySem.W.instObj C dx) C (some od)∧∀name,PySem.W.lookIn name od=some (mA name) :=
 let ⟨od,ho,hl⟩:=qD I.ns
 ⟨od,⟨I.obj,rfl,rfl,ho⟩,hl⟩
section
variable {prog:Program} {w:World} {A:Around} {E:Value→Shared→Prop} {s:Shared} {K:PySem.W.Frag} {x dx C f:Addr} {mA:Str→Option Value} {name:Str} {v:Value}
end
def fI (f:Str) (v:V):List (Str × V)→List (Str × V)
 | []=>[(f,v)]
 | (g,x) :: r=>if g=f then (g,v) :: r else (g,x) :: fI f v r
section
variable {P:Program} {w:World} {H H':Hp} {h h':Heap} {a C dx:Addr} {fs fs':List (Str × V)}
theorem uX (hok:fK P w H h) (e:H a=some (.ins C dx fs)):∃mA,xw h a dx C mA∧(∀f,xx (fs.lookup f) (mA f))∧PySem.Within mA (fs.map (·.1))∧fs.length≤1000∧H dx=some (.own a):=by
 obtain ⟨d,z,ne,ob,mA,n,r,q⟩:=(show bJ P w H h a (.ins C dx fs) from hok a _ e)
 exact ⟨mA,⟨ob,n,ne⟩,r,q,z,d⟩
end
structure ka (K:PySem.W.Frag) (C:Addr):Prop where
 pg:PySem.W.plainGet K C Str.empty=true
 hd:PySem.W.hasDictIn K C=true
 po:PySem.W.plainOver K C=true
 sa:PySem.W.findIn K (.ref C) "__setattr__"=some (some (.builtin "object.__setattr__"))
theorem ka.get {K:PySem.W.Frag} {C:Addr} (c:ka K C) (f:Str):PySem.W.plainGet K C f=true:=c.pg
def bS (K:PySem.W.Frag) (C:Addr) (f:Str):Prop:=PySem.W.findIn K (.ref C) f=some none
structure Meth (K:PySem.W.Frag) (C:Addr) (m:Str) (f:Addr):Prop where
 at_:PySem.W.findIn K (.ref C) m=some (some (.ref f))
 fn:PySem.W.isFn K (.ref f)=true
 kp:PySem.W.keepIn K (.ref f)=true
section
variable {X:Cx} {pins:List (Addr × Obj)} {σ:St} {H:Hp} {s:Shared} {a C dx:Addr} {fs:List (Str × V)} {f:Str} {v:V} {A:Around} {E:Value→Shared→Prop}
end
section
variable {X:Cx} {o e value:Expr} {f:Str} {pos pos' tpos:Pos} {ta tv:TE}
end
section
variable {X:Cx} {pins:List (Addr × Obj)} {σ:St} {H:Hp} {s:Shared} {A:Around} {E:Value→Shared→Prop} {Q:Value→Shared→Prop} {c:Value} {b:Bool}
inductive b9 (K:PySem.W.Frag) (H:Hp):V→Value→Prop where
 | non:b9 K H .non (.type "NoneType")
 | bl (x:Bool):b9 K H (.bl x) (.type "bool")
 | int (i:Int):b9 K H (.int i) (.type "int")
 | str (x:Str):b9 K H (.str x) (.type "str")
 | flt (x:UInt64):b9 K H (.flt x) (.type "float")
 | lst {a:Addr} {xs:List V} (e:H a=some (.lst xs)):b9 K H (.ref a) (.type "list")
 | ky {a:Addr} {o:Obj} {xs:List V} (e:H a=some (.ky o (.lst xs))):b9 K H (.ref a) (.type "list")
 | tup {a:Addr} {xs:List V} (e:H a=some (.tup xs)):b9 K H (.ref a) (.type "tuple")
 | dK {a:Addr} {kvs:List (Key × V)} (e:H a=some (.dK kvs)):b9 K H (.ref a) (.type "dict")
 | dE {a:Addr} {kvs:List (Str × V)} {ep:Nat} (e:H a=some (.dE kvs ep)):b9 K H (.ref a) (.type "dict")
 | ins {a C dx:Addr} {fs:List (Str × V)} (e:H a=some (.ins C dx fs)) (cl:ka K C) (ha:PySem.W.findIn K (.ref C) "__class__"=some (some (.builtin "object.__class__")))
   (hn:PySem.W.specialIn K (.builtin "object.__class__") "__get__"=some (some (.builtin "getset_descriptor.__get__"))) (htk:PySem.W.takesIn K (.builtin "object.__class__")=some true)
   (hm:PySem.W.mroIn K C (.type "object")=some true):b9 K H (.ref a) (.ref C)
theorem qy {x:V} {u t:Value} (I:Inv X pins σ H s) (rx:RelV x u) (ty:b9 X.K H x t) (e:PySem.W.kitOne X.K t c=some b) (h:∀tk,Q (.bool b) { s with toks:=tk }) :
  wpAny (model X.prog X.w) A (call (.builtin "isinstance") [u,c]) Q E s:=by
 cases ty with
 | non=>cases (show u=Value.none from rx);exact PySem.W.kia_one PySem.W.kitx_none I.jX True.intro e (λz=>nomatch z) h
 | bl y=>cases (show u=Value.bool y from rx);exact PySem.W.kia_one PySem.W.kitx_bool I.jX True.intro e (λz=>nomatch z) h
 | int i=>obtain ⟨t,q⟩:=(show ∃t,u=Value.int i t from rx);cases q;exact PySem.W.kia_one PySem.W.kitx_int I.jX True.intro e (λz=>nomatch z) h
 | str y=>obtain ⟨t,q⟩:=(show ∃t,u=Value.str y t from rx);cases q;exact PySem.W.kia_one PySem.W.kitx_str I.jX True.intro e (λz=>nomatch z) h
 | flt y=>obtain ⟨t,q⟩:=(show ∃t,u=Value.float y t from rx);cases q;exact PySem.W.kia_one PySem.W.kitx_float I.jX True.intro e (λz=>nomatch z) h
 | @lst a xs ea =>
  cases (show u=Value.ref a from rx)
  obtain ⟨_,_,n,_,h1⟩:=(show bJ X.prog X.w H s.heap a (.lst xs) from I.hok a _ ea)
  exact PySem.W.kia_one PySem.W.kitx_list I.jX ⟨_,h1,rfl⟩ e (λz=>nomatch z) h
 | @ky a ob xs ea =>
  cases (show u=Value.ref a from rx)
  obtain ⟨_,_,_,n,_,h1⟩:=(show bJ X.prog X.w H s.heap a (.ky ob (.lst xs)) from I.hok a _ ea)
  exact PySem.W.kia_one PySem.W.kitx_list I.jX ⟨_,h1,rfl⟩ e (λz=>nomatch z) h
 | @tup a xs ea =>
  cases (show u=Value.ref a from rx)
  obtain ⟨_,_,_,p⟩:=(show bJ X.prog X.w H s.heap a (.tup xs) from I.hok a _ ea)
  obtain ⟨o,h1,h2,_⟩:=p
  exact PySem.W.kia_one PySem.W.kitx_tuple I.jX ⟨o,h1,h2⟩ e (λz=>nomatch z) h
 | @dK a kvs ea =>
  cases (show u=Value.ref a from rx)
  obtain ⟨_,_,vs,_,p⟩:=(show bJ X.prog X.w H s.heap a (.dK kvs) from I.hok a _ ea)
  obtain ⟨o,es,ep,h1,h2,_⟩:=p
  exact PySem.W.kia_one PySem.W.kitx_dict I.jX ⟨o,h1,h2.1⟩ e (λz=>nomatch z) h
 | @dE a kvs ep ea =>
  cases (show u=Value.ref a from rx)
  obtain ⟨_,_,vs,_,o,es,h1,h2,_⟩:=(show bJ X.prog X.w H s.heap a (.dE kvs ep) from I.hok a _ ea)
  exact PySem.W.kia_one PySem.W.kitx_dict I.jX ⟨o,h1,h2.1⟩ e (λz=>nomatch z) h
 | @ins a C dx fs ea cl ha hn htk hm =>
  cases (show u=Value.ref a from rx)
  obtain ⟨mA,O,_⟩:=uX I.hok ea
  obtain ⟨od,J,_⟩:=O.look
  exact PySem.W.kia_one (PySem.W.kitx_own (cl.get _) cl.hd ha hn htk hm) I.jX J e (λz=>nomatch z) h
end
end L2
namespace L2
open PySem PySem.Spec PyProof.Rows
structure bj (k:Nat) (A:Around):Prop where
 hd:A.handled=none
 dp:A.depth + 3 * k + 5 < recursionLimit
 un:A.units + 16 * k + 200 < cLine
theorem bj.mono {j k:Nat} {A:Around} (r:bj k A) (h:j≤k):bj j A:=⟨r.hd,by have:=r.dp;omega,by have:=r.un;omega⟩
theorem bj.deeper {k:Nat} {A:Around} (r:bj (k + 1) A) (env:Env):bj k (A.deeper env) :=
 ⟨r.hd,by have:=r.dp;show A.depth + 1 + 3 * k + 5 < _;omega,by have:=r.un;show A.units + 3 + 16 * k + 200 < _;omega⟩
theorem bj.depth {k:Nat} {A:Around} (r:bj k A):A.depth < recursionLimit:=by have:=r.dp;omega
def oE:TA:=λ_ H Q=>Q [] H
def cq (ta:TE) (tr:TA):TA:=λσ H Q=>ta σ H λx H1=>tr σ H1 λxs H2=>Q (x :: xs) H2
section
variable {X:Cx} {e:Expr} {es:List Expr} {te:TE} {t:TA} {pos:Pos}
theorem aL:PA X [] oE:=λ_ _ _ _ H Q I h=>Calls.spliced_nil ⟨[],H,I,.nil,h⟩
theorem ak (ha:PE X e te) (hr:PA X es t) (hs:starEach (e :: es) X.env=(false,eval e X.env) :: starEach es X.env:=by rfl):PA X (e :: es) (cq te t):=by
 intro pos pins s σ H Q I h
 rw [hs]
 show wpAny _ _ (spliced ((false,eval e X.env) :: backTo pos (starEach es X.env))) _ _ s
 refine Calls.spliced_cons (bA (ha pins s σ H _ I h) λu s1 ⟨x,H1,I1,r1,q1⟩=>?_)
 exact bA (hr pos pins s1 σ H1 _ I1 q1) λus s2 ⟨xs,H2,I2,r2,q2⟩=>⟨x :: xs,H2,I2,.cons r1 r2,q2⟩
def v7 (t:TA):TE:=λσ H Q=>t σ H λxs H1=>xs.length≤sizeLine∧∀p,H1 p=none→Q (.ref p) (upd H1 p (.tup xs))
def q_ (t:TA):TE:=λσ H Q=>t σ H λxs H1=>xs.length≤sizeLine∧∀p,H1 p=none→Q (.ref p) (upd H1 p (.lst xs))
theorem lJ {x1} (h:PA X es t):PE X (.Tuple es x1 pos) (v7 t):=by
 intro pins s σ H Q I hq
 refine wpAny_Tuple_spliced (bA (h pos pins s σ H _ I hq) λus s1 ⟨xs,H1,I1,r,z,q⟩=>⟨by rw [← r.length];exact z,?_⟩)
 have hf:H1 s1.heap.objs.size=none:=I1.hok.fresh (D5 _)
 refine ⟨.ref s1.heap.objs.size,upd H1 s1.heap.objs.size (.tup xs),I1.laid (t':=s1.toks) (λb u e=>Heap.get?_push_of_some _ e) (D5 _) ?_,rfl,q _ hf⟩
 exact ⟨z,us,r,⟨_,Heap.get?_push_size _ rfl,rfl,_,rfl⟩⟩
theorem eB (h:PA X es t):PE X (.List es pos) (q_ t):=by
 intro pins s σ H Q I hq
 refine wpAny_List_spliced (bA (h pos pins s σ H _ I hq) λus s1 ⟨xs,H1,I1,r,z,q⟩=>⟨by rw [← r.length];exact z,?_⟩)
 have hf:H1 s1.heap.objs.size=none:=I1.hok.fresh (D5 _)
 refine ⟨.ref s1.heap.objs.size,upd H1 s1.heap.objs.size (.lst xs),I1.laid (t':=s1.toks) (λb u e=>Heap.get?_push_of_some _ e) (D5 _) ?_,rfl,q _ hf⟩
 exact ⟨z,us,0,r,Heap.get?_push_size _ rfl⟩
end
abbrev Sp:=List V→Hp→VK→XK→Prop
abbrev g_:=List Env→Hp→Shared→XK→Value→Shared→Prop
structure uB (P:Program) (w:World) (K:PySem.W.Frag) (mg:Str→Option Value) (base:Heap) (A:Around) (outer:List Env) (s:Shared) (H:Hp):Prop where
 frames:A.frames=some outer
 mod:Mod K mg base
 bs:∀b o,base.get? b=some o→s.heap.get? b=some o∧H b=none
 bsz:base.objs.size≤s.heap.objs.size
 fG:s.heap.FunFrames base outer
 frf:∀b∈cV outer,H b=none
 hok:fK P w H s.heap
 bare:AllBare s.gens
def CE (outer:List Env) (P:Program) (w:World) (H:Hp) (s:Shared) (Q:VK) (u:Value) (s':Shared):Prop :=
 ∃v H',s'.os=s.os∧AllBare s'.gens∧Un (cV outer) [] H H' s.heap s'.heap∧fK P w H' s'.heap∧RelV v u∧Q v H'
def CR (CX:g_) (outer:List Env) (P:Program) (w:World) (H:Hp) (s:Shared) (Q:VK) (E:XK) (r:Result) (s':Shared):Prop :=
 match r with
 | .ok (.ret u)=>CE outer P w H s Q u s'
 | .ok _=>False
 | .error e=>CX outer H s E e s'
structure aM (P:Program) (w:World) (K:PySem.W.Frag) (mg:Str→Option Value) (base:Heap) (CX:g_) (k:Nat) (f:Addr) (fd:FuncData) (ps:List Str) (sp:Sp):Prop where
 len:∀vs H Q E,sp vs H Q E→vs.length=ps.length
 run:∀(A:Around) (outer:List Env) (s:Shared) (H:Hp) (args:Args) (us:List Value) (vs:List V) (Q:VK) (E:XK),bj k A→uB P w K mg base A outer s H→BindsTo s fd args (ps.zip us)→Vals vs us→sp vs H Q E →
  codeAny (model P w) A (.call (.ref f) args) (CR CX outer P w H s Q E) s
theorem aM.imp {P:Program} {w:World} {K:PySem.W.Frag} {mg:Str→Option Value} {base:Heap} {CX:g_} {k:Nat} {f:Addr} {fd:FuncData} {ps:List Str} {sp sp':Sp} (F:aM P w K mg base CX k f fd ps sp)
  (h:∀vs H Q E,sp' vs H Q E→sp vs H Q E):aM P w K mg base CX k f fd ps sp' :=
 ⟨λvs H Q E q=>F.len vs H Q E (h _ _ _ _ q),λA outer s H args us vs Q E hr he hb hv hs=>F.run A outer s H args us vs Q E hr he hb hv (h _ _ _ _ hs)⟩
section
variable {X:Cx} {pins:List (Addr × Obj)} {σ:St} {H:Hp} {s s':Shared}
theorem Inv.r8 (I:Inv X pins σ H s):uB X.prog X.w X.K X.mg X.base X.A X.stack s H :=
 ⟨I.ok.frames,I.ok.mod,I.bs,D1 I.ok.bsz I.sz,I.stack,I.lY,I.hok,I.bare⟩
theorem Inv.after {Q:VK} {u:Value} (I:Inv X pins σ H s) (h:CE X.stack X.prog X.w H s Q u s'):EP X pins σ Q u s':=by
 obtain ⟨v,H',os,bare,un,hok,r,q⟩:=h
 obtain ⟨hh,g,d,t,os'⟩:=s'
 obtain rfl:os'=s.os:=os
 exact ⟨v,H',I.call (h':=hh) (g':=g) (d':=d) (t':=t) (ch:=[]) un hok bare (λb z=>absurd z (by simp)),r,q⟩
end
def jT (sp:Sp) (dvs:List V) (E:XK) (t:TA):TE:=λσ H Q=>t σ H λvs H1=>sp (vs ++ dvs) H1 Q E
def Binds (K:PySem.W.Frag) (fd:FuncData) (ps:List Str) (ds:List Value):Prop :=
 ∀(s:Shared) (us:List Value),K.In s.heap→(us ++ ds).length=ps.length→BindsTo s fd ⟨us,[]⟩ (ps.zip (us ++ ds))
theorem Binds.all {K:PySem.W.Frag} {fd:FuncData} {ps:List Str} (h:∀us:List Value,us.length=ps.length→bindArgs fd ⟨us,[]⟩=pure (ps.zip us)):Binds K fd ps []:=λs us _ hl=>by
 rw [EY] at hl ⊢
 exact .of_eq (h us hl)
def Passes (CX:g_) (X:Cx) (E:XK):Prop:=∀(pins:List (Addr × Obj)) (σ:St) (H:Hp) (s:Shared) (e:Value) (s':Shared),Inv X pins σ H s→CX X.stack H s E e s'→X.xe e s'
section
variable {X:Cx} {CX:g_} {k:Nat} {f C:Addr} {fd:FuncData} {ps:List Str} {sp:Sp} {dvs:List V} {ds:List Value} {E:XK} {x m:Str} {p pos apos:Pos} {e o:Expr} {es:List Expr} {ta:TE} {t:TA}
theorem yY {pins:List (Addr × Obj)} {σ:St} {H:Hp} {s:Shared} {Q:VK} {us:List Value} {vs:List V} (F:aM X.prog X.w X.K X.mg X.base CX k f fd ps sp) (hr:bj k X.A) (hb:Binds X.K fd ps ds) (hd:Vals dvs ds) (hx:Passes CX X E)
  (I:Inv X pins σ H s) (r:Vals vs us) (h:sp (vs ++ dvs) H Q E):wpAny (model X.prog X.w) X.A (call (.ref f) us) (EP X pins σ Q) X.xe s:=by
 have r2:Vals (vs ++ dvs) (us ++ ds):=r.append hd
 have hl:(us ++ ds).length=ps.length:=by rw [← r2.length];exact F.len _ _ _ _ h
 refine wpAny_call (codeAny_mono (F.run X.A X.stack s H ⟨us,[]⟩ (us ++ ds) (vs ++ dvs) Q E hr I.r8 (hb s us I.jX hl) r2 h) λr s' hq=>?_)
 cases r with
 | error e=>exact hx pins σ H s e s' I hq
 | ok fl =>
  cases fl with
  | ret u=>exact I.after hq
  | next=>exact False.elim hq
  | brk=>exact False.elim hq
  | cont=>exact False.elim hq
theorem pG (F:aM X.prog X.w X.K X.mg X.base CX k f fd ps sp) (hr:bj k X.A) (hg:Gl X x) (hm:X.mg x=some (.ref f)) (hk:PySem.W.keepIn X.K (.ref f)=true) (hb:Binds X.K fd ps ds) (hd:Vals dvs ds) (hx:Passes CX X E)
  (ha:PA X (e :: es) t) (hdb:(x == ("__debug__":Str))=false:=by decide) (he:starEach (e :: es) X.env=(false,eval e X.env) :: starEach es X.env:=by rfl) (hpl:(backTo pos (starEach es X.env)).any (·.1)=false:=by rfl) :
  PE X (.Call (.Name x p) (e :: es) [] pos) (jT sp dvs E t):=by
 intro pins s σ H Q I h
 refine wpAny_Call_Name_kw (iS I hg hm ?_ hdb)
 refine PySem.W.callWith_K (h₀:=X.base) I.ok.mod.kin hk (bA (ha pos pins s σ H _ I h) λus s1 ⟨vs,H1,I1,r,q⟩=>⟨I1.jX,?_⟩) he hpl
 exact yY F hr hb hd hx I1 r q
structure Mk (K:PySem.W.Frag) (C f:Addr):Prop where
 makes:PySem.W.makesIn K C=true
 init:PySem.W.findIn K (.ref C) "__init__"=some (some (.ref f))
 fn:PySem.W.isFn K (.ref f)=true
 kp:PySem.W.keepIn K (.ref C)=true
end
section
variable {X:Cx} {CX:g_} {k:Nat} {f C:Addr} {fd:FuncData} {ps ks:List Str} {sp:Sp} {E:XK} {x m:Str} {p pos apos kpos:Pos} {e o:Expr} {es:List Expr} {kws:List Keyword} {te ta:TE} {t tk:TA} {nm:Option Str}
variable {g:List Value→List Value→List Value} {gV:List V→List V→List V}
end
structure ax (N P:List Str) (sc:Scope):Prop where
 kind:sc.kind=.function
 co:sc.isCoroutine=false
 gen:sc.isGenerator=false
 nd:N.Nodup
 pre:N.take P.length=P
 par:∀x∈P,sc.names.lookup x=some .local∨sc.names.lookup x=some .cell
 nofree:∀y∈sc.names,y.2≠.free
theorem ko {kindOf:Str→Option NameKind} {x:Str}:∀{binds:List (Str × Value)} {m:Str→Option Value},(∀v,(x,v) ∉ binds)→bindL kindOf binds m x=m x
 | [],_,_=>rfl
 | (n,v) :: r,m,h=>by
  unfold bindL
  rw [ko λw hw=>h w (D8 _ hw)]
  split
  ·have:x≠n:=by rintro rfl;exact h v Ep
   simp [this]
  ·rfl
theorem kl {kindOf:Str→Option NameKind} {x:Str}:∀{binds:List (Str × Value)} {m:Str→Option Value},(∀v,(x,v) ∉ binds)→bindC kindOf binds m x=m x
 | [],_,_=>rfl
 | (n,v) :: r,m,h=>by
  unfold bindC
  rw [kl λw hw=>h w (D8 _ hw)]
  split
  ·rfl
  ·have:x≠n:=by rintro rfl;exact h v Ep
   simp [this]
theorem km {kindOf:Str→Option NameKind} {x:Str} {v:Value}:∀{P:List Str} {vs:List Value} {i:Nat} {m:Str→Option Value},P.Nodup→P[i]?=some x→vs[i]?=some v→kindOf x=some .local →
  bindL kindOf (P.zip vs) m x=some v
 | [],_,_,_,_,h,_,_=>by simp at h
 | _ :: _,[],_,_,_,_,h,_=>by simp at h
 | p :: P,w :: vs,0,m,nd,h1,h2,hk=>by
  simp at h1 h2;subst h1;subst h2
  show bindL kindOf ((p,w) :: P.zip vs) m p=_
  unfold bindL
  rw [ko λv hv=>(E6.mp nd).1 (Fn hv).1,if_pos hk]
  simp
 | p :: P,w :: vs,i + 1,m,nd,h1,h2,hk=>by
  show bindL kindOf ((p,w) :: P.zip vs) m x=_
  unfold bindL
  exact km (i:=i) (E6.mp nd).2 (by simpa using h1) (by simpa using h2) hk
theorem kj {kindOf:Str→Option NameKind} {x:Str} {v:Value}:∀{P:List Str} {vs:List Value} {i:Nat} {m:Str→Option Value},P.Nodup→P[i]?=some x→vs[i]?=some v→kindOf x≠some .local →
  bindC kindOf (P.zip vs) m x=some v
 | [],_,_,_,_,h,_,_=>by simp at h
 | _ :: _,[],_,_,_,_,h,_=>by simp at h
 | p :: P,w :: vs,0,m,nd,h1,h2,hk=>by
  simp at h1 h2;subst h1;subst h2
  show bindC kindOf ((p,w) :: P.zip vs) m p=_
  unfold bindC
  rw [kl λv hv=>(E6.mp nd).1 (Fn hv).1,if_neg hk]
  simp
 | p :: P,w :: vs,i + 1,m,nd,h1,h2,hk=>by
  show bindC kindOf ((p,w) :: P.zip vs) m x=_
  unfold bindC
  exact kj (i:=i) (E6.mp nd).2 (by simpa using h1) (by simpa using h2) hk
def start (N:List Str) (vs:List V):St:=vs.map some ++ Ea (N.length - vs.length) none
def kY (CX:g_) (P:Program) (w:World) (K:PySem.W.Frag) (mg:Str→Option Value) (base:Heap) (N:List Str) (qual:Str) (scope:Scope) (f:Addr) (cd:Value) (A:Around) (outer:List Env) (s:Shared) (H:Hp) (E:XK):Cx where
 prog:=P
 w:=w
 K:=K
 mg:=mg
 base:=base
 A:=A.deeper (envOfC qual scope s.heap.objs.size f cd)
 N:=N
 s₀:=s
 H₀:=H
 env:=envOfC qual scope s.heap.objs.size f cd
 outer:=outer
 stack:=envOfC qual scope s.heap.objs.size f cd :: outer
 ex:=[]
 calm:=true
 fn:=λ_=>true
 pn:=[]
 xe:=λe s'=>wpAny (model P w) (A.deeper (envOfC qual scope s.heap.objs.size f cd)) (leaving (envOfC qual scope s.heap.objs.size f cd) e) (λ_ s''=>CX outer H s E e s'') (λe' s''=>CX outer H s E e' s'') s'
theorem mh {sc:Scope} {n:Nat} {x:Str} (h:sc.names.lookup x=some .cell):∃c,(cellsFrom n sc.names []).lookup x=some c:=by
 have q:=PySem.W.cellsFrom_some sc.names n [] (.inl h)
 exact E_.mp q
theorem qw {CX:g_} {P:Program} {w:World} {K:PySem.W.Frag} {mg:Str→Option Value} {base:Heap} {N ps:List Str} {qual:Str} {scope:Scope} {f:Addr} {cd:Value} {A:Around} {outer:List Env} {s s1:Shared} {H:Hp} {E:XK} {us:List Value} {vs:List V}
  (S:ax N ps scope) (hd:A.handled=none) (e0:uB P w K mg base A outer s H) (hl:vs.length=ps.length) (r:Vals vs us)
  (x:InCallC s s.heap.objs.size (bindL (envOfC qual scope s.heap.objs.size f cd).kindOf (ps.zip us) λ_=>none) (cellsFrom (s.heap.objs.size + 1) scope.names []) (bindC (envOfC qual scope s.heap.objs.size f cd).kindOf (ps.zip us) λ_=>none) s1) :
  Inv (kY CX P w K mg base N qual scope f cd A outer s H E) [] (start N vs) H s1:=by
 have hpl:ps.length≤N.length:=by have:=congrArg Fc S.pre;rw [Ek] at this;omega
 obtain ⟨h1,tk,rfl,hk⟩:=x.done
 have noA:∀b:Addr,b ∉ (kY CX P w K mg base N qual scope f cd A outer s H E).ex:=λb z=>absurd (show b∈([]:List Addr) from z) (by simp)
 refine ⟨⟨e0.mod,S.kind,rfl,rfl,D5 _,λy z c h1 h2=>?_,λy hy=>?_,λy c _ h=>?_,λ_=>hd,Around.frames_deeper e0.frames,.inr ⟨rfl,rfl⟩,λb z=>absurd z (noA b),e0.bs,e0.bsz,λb _ _=>noA b,λb z=>absurd z (noA b),e0.fG,e0.frf⟩,
  rfl,e0.bare,Un.kept hk,⟨_,x.toInCall.ns,λi y v h1 h2 h3=>?_⟩,λy c h=>⟨_,x.cell y c h⟩,e0.hok.fresh (D5 _),λy c h=>?_,λp hp=>absurd (show p∈([]:List (Addr × Obj)) from hp) (by simp),e0.hok.kept hk,?_⟩
 ·exact name_of_addr x.apart (PySem.mem_of_lookup h1) (PySem.mem_of_lookup h2)
 ·have hy:scope.names.lookup y=some .cell∨scope.names.lookup y=some .free:=hy
  rcases hy with hy | hy
  ·exact mh hy
  ·exact absurd rfl (S.nofree _ (PySem.mem_of_lookup hy))
 ·exact E7 (x.above y c (PySem.mem_of_lookup h))
 ·have hi:i < vs.length:=by
   unfold start at h2
   by_cases hi:i < vs.length
   ·exact hi
   ·rw [EE (by simpa using hi)] at h2
    rw [Fd] at h2
    split at h2 <;> cases h2
  have ha:vs[i]?=some v:=by
   unfold start at h2
   rw [EH (by simpa using hi),Eb] at h2
   cases e:vs[i]? with
   | none=>rw [e] at h2;cases h2
   | some a=>rw [e] at h2;cases h2;rfl
  obtain ⟨u,hu,rv⟩:=r.get ha
  have hp:ps[i]?=some y:=by
   rw [← S.pre,List.getElem?_take_of_lt (by omega)];exact h1
  have ndP:ps.Nodup:=by rw [← S.pre];exact S.nd.sublist (Fz _ _)
  refine ⟨u,rv,?_⟩
  rcases S.par y (Ed hp) with k | k
  ·exact .inl ⟨k,km ndP hp hu k⟩
  ·obtain ⟨c,e⟩:=mh (n:=s.heap.objs.size + 1) k
   refine .inr ⟨.inl k,c,e,?_⟩
   have q:=x.cell y c e
   rw [kj ndP hp hu (by show scope.names.lookup y≠_;rw [k];decide)] at q
   exact q
 ·exact e0.hok.fresh (E7 (x.above y c (PySem.mem_of_lookup h)))
 ·unfold start
  show _=N.length
  rw [EF,D0,ES]
  omega
theorem o5 {CX:g_} {P:Program} {w:World} {K:PySem.W.Frag} {mg:Str→Option Value} {base:Heap} {k:Nat} {f:Addr} {name qual:Str} {params:Arguments} {body:List Stmt} {scope:Scope} {dV kV doc pm cdv ct oc:Value} {an od:Option Addr}
  {osl:Array (Option Value)} {N ps:List Str} {sp:Sp} (lk:K.lookup f=some ⟨oc,od,.func (PySem.W.fnOf name qual params body scope dV kV doc pm an cdv ct),osl⟩) (hcd:PySem.W.codeIn K cdv qual=true) (S:ax N ps scope)
  (len:∀vs H Q E,sp vs H Q E→vs.length=ps.length)
  (hbody:∀(A:Around) (outer:List Env) (s:Shared) (H:Hp) (vs:List V) (Q:VK) (E:XK),bj k (A.deeper (envOfC qual scope s.heap.objs.size f cdv))→sp vs H Q E →
   ∃t,j3 (kY CX P w K mg base N qual scope f cdv A outer s H E) body t∧t { nx:=λ_ H'=>Q .non H',rt:=Q } (start N vs) H) :
  aM P w K mg base CX (k + 1) f (PySem.W.fnOf name qual params body scope dV kV doc pm an cdv ct) ps sp:=by
 refine ⟨len,λA outer s H args us vs Q E hr e0 hb r hsp=>?_⟩
 have hl:=len _ _ _ _ hsp
 have KX:K.In s.heap:=e0.mod.kin.keeps λb o e=>(e0.bs b o e).1
 have lim:s.heap.NoLimit:=e0.mod.nolimit.keeps λb o e=>(e0.bs b o e).1
 have hkind:∀y∈ps.zip us,scope.names.lookup y.1=some .local∨(scope.names.lookup y.1=some .cell∧((cellsFrom (s.heap.objs.size + 1) scope.names []).lookup y.1).isSome=true):=λ⟨n,v⟩ hy=>by
  rcases S.par n (Fn hy).1 with q | q
  ·exact .inl q
  ·exact .inr ⟨q,PySem.W.cellsFrom_some _ _ _ (.inl q)⟩
 refine codeAny_call_function hr.depth (KX _ _ lk) rfl S.co S.gen rfl (PySem.W.codeRec_of KX hcd) (hb _ _ _ _ ?_)
 refine wpAny_newFunctionEnv_cells S.kind hkind λenv he s1 x=>?_
 subst he
 refine ⟨lim.keeps x.toInCall.keep,codeAny_func ?_⟩
 obtain ⟨t,ht,hq⟩:=hbody A outer s H vs Q E (hr.deeper _) hsp
 have I:Inv (kY CX P w K mg base N qual scope f cdv A outer s H E) [] (start N vs) H s1:=qw S hr.hd e0 hl r x
 refine wpAny_mono (ht [] s1 (start N vs) H _ I hq) (λfl s' hs=>?_) λe s' hs=>hs
 have fin:∀{σ':St} {H':Hp} {v:V} {u:Value},Inv (kY CX P w K mg base N qual scope f cdv A outer s H E) [] σ' H' s'→RelV v u→Q v H'→CE outer P w H s Q u s' :=
  λ{σ' H' v u} J rv q=>⟨v,H',J.os,J.bare,J.base,J.hok,rv,q⟩
 cases fl with
 | ret u =>
  obtain ⟨v,σ',H',J,rv,q⟩:=hs
  exact fin J rv q
 | next =>
  obtain ⟨σ',H',J,q⟩:=hs
  exact fin (v:=V.non) (u:=Value.none) J rfl q
 | brk =>
  obtain ⟨_,_,_,q⟩:=hs
  exact False.elim q
 | cont =>
  obtain ⟨_,_,_,q⟩:=hs
  exact False.elim q
end L2
namespace L2
open PySem PySem.Spec PyProof.Rows
section
variable {X:Cx} {x:Str} {p pos:Pos} {e:Expr} {es:List Expr} {t:TA} {id T:String} {r:List V→Hp→VK→Prop}
def vW (r:List V→Hp→VK→Prop) (t:TA):TE:=λσ H Q=>t σ H λvs H1=>r vs H1 Q
theorem aO (hc:aZ X (.builtin id) r) (hg:Gl X x) (hm:X.mg x=none) (hv:bootBuiltins x=some (.builtin id)) (ha:PA X (e :: es) t) (hn:x≠"__name__":=by decide) (hdb:(x == ("__debug__":Str))=false:=by decide)
  (he:starEach (e :: es) X.env=(false,eval e X.env) :: starEach es X.env:=by rfl) (hpl:(backTo pos (starEach es X.env)).any (·.1)=false:=by rfl):PE X (.Call (.Name x p) (e :: es) [] pos) (vW r t):=by
 intro pins s σ H Q I h
 refine wpAny_Call_Name_kw (ib I hg hm hv ?_ hn hdb)
 exact PyProof.Rows.callWith_builtin1 (bA (ha pos pins s σ H _ I h) λus s1 ⟨vs,H1,I1,r1,q1⟩=>hc pins s1 σ H1 vs us Q I1 r1 q1) he hpl
theorem ij (hc:aZ X (.type T) r) (hg:Gl X x) (hm:X.mg x=none) (hv:bootBuiltins x=some (.type T)) (ha:PA X (e :: es) t) (hn:x≠"__name__":=by decide) (hdb:(x == ("__debug__":Str))=false:=by decide)
  (he:starEach (e :: es) X.env=(false,eval e X.env) :: starEach es X.env:=by rfl) (hpl:(backTo pos (starEach es X.env)).any (·.1)=false:=by rfl):PE X (.Call (.Name x p) (e :: es) [] pos) (vW r t):=by
 intro pins s σ H Q I h
 refine wpAny_Call_Name_kw (ib I hg hm hv ?_ hn hdb)
 exact PyProof.Rows.callWith_type1 (bA (ha pos pins s σ H _ I h) λus s1 ⟨vs,H1,I1,r1,q1⟩=>hc pins s1 σ H1 vs us Q I1 r1 q1) he hpl
end
end L2
namespace HT
open PySem PyProof.Rows
def lexLt:List Int→List Int→Bool
 | [],[]=>false
 | [],_ :: _=>true
 | _ :: _,[]=>false
 | x :: xs,y :: ys=>if x=y then lexLt xs ys else decide (x < y)
section
open PySem.SeqAt
open PySem.AutoSeq1 (wpAny_loadPart')
open PySem.MeetsSeq PySem.MeetsSeq2 PySem.MeetsSeq3
end
section
variable {prog:Program} {w:World} {A:Around} {E:Value→Shared→Prop} {s:Shared}
def eJ (n d:Nat):Option Int→Nat
 | none=>d
 | some v=>if v < 0 then (v + (n:Int)).toNat else min v.toNat n
theorem t4 (n d:Nat):eJ n d none=d:=rfl
theorem lP (n d k:Nat):eJ n d (some (k:Int))=min k n:=by
 show (if (k:Int) < 0 then ((k:Int) + (n:Int)).toNat else min (k:Int).toNat n)=min k n
 rw [if_neg (by omega),Int.toNat_natCast]
end
end HT
namespace L2
open PySem PySem.Spec PyProof.Rows
abbrev TO:=St→Hp→(Option Int→Hp→Prop)→Prop
def PO (X:Cx) (e:Option Expr) (t:TO):Prop :=
 ∀(pins:List (Addr × Obj)) (s:Shared) (σ:St) (H:Hp) (Q:Option Int→Hp→Prop),Inv X pins σ H s→t σ H Q →
  wpAny (model X.prog X.w) X.A (evalPart e X.env) (λu s'=>∃o H',Inv X pins σ H' s'∧IsPart u o∧Q o H') X.xe s
def i2:TO:=λ_ H Q=>Q none H
def qa (t:TE):TO:=λσ H Q=>t σ H λx H1=>∃i,x=.int i∧Q (some i) H1
theorem intsAre_of {ns:List Int}:∀{us:List Value},Vals (ns.map V.int) us→IntsAre us ns:=by
 induction ns with
 | nil=>intro us r;rw [E8] at r;cases r;exact .nil
 | cons n ns ih =>
  intro us r
  rw [D_] at r
  cases r with
  | cons r1 r2 =>
   obtain ⟨t,e⟩:=r1
   subst e
   exact .cons n t (ih r2)
section
variable {X:Cx} {e:Expr} {te:TE} {lo hi:Option Expr} {tl th:TO} {pos p2:Pos}
theorem iW:PO X none i2:=by
 intro pins s σ H Q I h
 rw [evalPart_none]
 exact wpAny_pure ⟨none,H,I,.none,h⟩
theorem fw (h:PE X e te):PO X (some e) (qa te):=by
 intro pins s σ H Q I hw
 rw [evalPart_some]
 refine bA (h pins s σ H _ I hw) λu s1 ⟨x,H1,I1,r1,q1⟩=>?_
 obtain ⟨i,rfl,q⟩:=q1
 obtain ⟨t,rfl⟩:=r1
 exact ⟨some i,H1,I1,.int i t,q⟩
def h8 (X:Cx) (r:V→Option Int→Option Int→Hp→VK→Prop):Prop :=
 ∀(pins:List (Addr × Obj)) (s:Shared) (σ:St) (H:Hp) (x:V) (v vl vu:Value) (lo hi:Option Int) (sl:Addr) (Q:VK),Inv X pins σ H s→RelV x v→s.heap.IsSliceOf sl vl vu .none→IsPart vl lo→IsPart vu hi→r x lo hi H Q →
  ∃T id,typeLookup (.type T) "__getitem__"=pure (some (.builtin id))∧s.TypeIs v T∧wpAny (model X.prog X.w) X.A (getItem v (.ref sl)) (EP X pins σ Q) X.xe s
theorem h8.or {r r':V→Option Int→Option Int→Hp→VK→Prop} (h:h8 X r) (h':h8 X r'):h8 X (λx lo hi H Q=>r x lo hi H Q∨r' x lo hi H Q):=by
 intro pins s σ H x v vl vu lo hi sl Q I rx hs pl pu q
 rcases q with q | q
 ·exact h pins s σ H x v vl vu lo hi sl Q I rx hs pl pu q
 ·exact h' pins s σ H x v vl vu lo hi sl Q I rx hs pl pu q
def BL (r:V→Option Int→Option Int→Hp→VK→Prop) (te:TE) (tl th:TO):TE:=λσ H Q=>te σ H λx H1=>tl σ H1 λl H2=>th σ H2 λu H3=>r x l u H3 Q
theorem eX {r:V→Option Int→Option Int→Hp→VK→Prop} (hr:h8 X r) (he:PE X e te) (hl:PO X lo tl) (hu:PO X hi th):PE X (.Subscript e (.Slice lo hi none p2) pos) (BL r te tl th):=by
 intro pins s σ H Q I h
 refine Subscript_ (bA (he pins s σ H _ I h) λv s1 ⟨x,H1,I1,r1,q1⟩=>?_)
 refine wpAny_Slice (bA (hl pins s1 σ H1 _ I1 q1) λvl s2 ⟨l,H2,I2,pl,q2⟩=>bA (hu pins s2 σ H2 _ I2 q2) λvu s3 ⟨u,H3,I3,pu,q3⟩=>?_)
 rw [evalPart_none]
 refine wpAny_pure ?_
 have I4:Inv X pins σ H3 { s3 with heap:=s3.heap.push { cls:=.type "slice",data:=.fields #[vl,vu,.none] } }:=I3.kept (t':=s3.toks) λb ob q=>Heap.get?_push_of_some _ q
 obtain ⟨T,id,hT,ht,hg⟩:=hr pins { s3 with heap:=s3.heap.push { cls:=.type "slice",data:=.fields #[vl,vu,.none] } } σ H3 x v vl vu l u s3.heap.objs.size Q I4 r1 (Heap.IsSliceOf.new ..) pl pu q3
 show wpAny (model X.prog X.w) X.A (subscriptTail e (.Slice lo hi none p2) v (.ref s3.heap.objs.size)) (EP X pins σ Q) X.xe { s3 with heap:=s3.heap.push { cls:=.type "slice",data:=.fields #[vl,vu,.none] } }
 exact tail_any (ops:=[.ref s3.heap.objs.size,v]) ht hT hg (by with_unfolding_all rfl)
def j5 (xs:List V) (lo hi:Option Int):List V:=(xs.drop (HT.eJ xs.length 0 lo)).take (HT.eJ xs.length xs.length hi - HT.eJ xs.length 0 lo)
theorem mj (xs:List V) (lo hi:Option Int):(j5 xs lo hi).length≤xs.length:=by
 unfold j5
 rw [Ek,FF]
 omega
end
end L2
namespace L2
open PySem PySem.Spec PyProof.Rows
def sC (n:Nat) (i:Int):Option Nat:=if 0≤i then (if i < n then some i.toNat else none) else if -(n:Int)≤i then some (i + n).toNat else none
def bN {α:Type} (xs:List α) (i:Int):Option α:=(sC xs.length i).bind λj=>xs[j]?
theorem pe {n:Nat} {i:Int} {j:Nat} (h:sC n i=some j):seqIndex? i n=some j∧j < n∧-(n:Int)≤i∧i < n:=by
 unfold sC at h
 by_cases h0:0≤i
 ·rw [if_pos h0] at h
  by_cases h1:i < n
  ·rw [if_pos h1] at h
   have e:i.toNat=j:=Option.some.inj h
   exact ⟨by rw [seqIndex_of h0 h1,e],by omega,by omega,h1⟩
  ·rw [if_neg h1] at h;cases h
 ·rw [if_neg h0] at h
  by_cases h1:-(n:Int)≤i
  ·rw [if_pos h1] at h
   have e:(i + n).toNat=j:=Option.some.inj h
   exact ⟨by rw [seqIndex_neg (by omega) h1,e],by omega,h1,by omega⟩
  ·rw [if_neg h1] at h;cases h
theorem kS {α:Type} {xs:List α} {i:Int} {v:α} (h:bN xs i=some v):∃j,seqIndex? i xs.length=some j∧xs[j]?=some v∧j < xs.length∧-(xs.length:Int)≤i∧i < xs.length:=by
 unfold bN at h
 cases e:sC xs.length i with
 | none=>rw [e] at h;cases h
 | some j =>
  rw [e] at h
  obtain ⟨h1,h2,h3,h4⟩:=pe e
  exact ⟨j,h1,h,h2,h3,h4⟩
theorem aU {α:Type} {xs:List α} {j:Nat} {v:α} (h:xs[j]?=some v):bN xs (j:Int)=some v:=by
 have hj:j < xs.length:=(D'.mp h).1
 have e:sC xs.length (j:Int)=some j:=by
  unfold sC
  rw [if_pos (by omega),if_pos (by omega)];simp
 unfold bN;rw [e];exact h
def bf (b:Expr):Prop:=∀o i,subscripted b false o i=operate [o,i] (getItem o i)
def gh (X:Cx) (r:R2):Prop :=
 ∀(value slice:Expr) (pins:List (Addr × Obj)) (s:Shared) (σ:St) (H:Hp) (x y:V) (v u:Value) (Q:VK),Inv X pins σ H s→RelV x v→RelV y u→r x y H Q →
  subscripted slice false v u=operate [v,u] (getItem v u)→wpAny (model X.prog X.w) X.A (subscriptTail value slice v u) (EP X pins σ Q) X.xe s
def hU (X:Cx) (id:String) (r:V→List V→Hp→VK→Prop):Prop :=
 ∀(pins:List (Addr × Obj)) (s:Shared) (σ:St) (H:Hp) (x:V) (xs:List V) (v:Value) (us:List Value) (Q:VK),Inv X pins σ H s→RelV x v→Vals xs us→r x xs H Q →
  wpAny (model X.prog X.w) X.A (call (.builtin id) (v :: us)) (EP X pins σ Q) X.xe s
section
variable {X:Cx} {a b:Expr} {ta tb:TE} {pos:Pos}
theorem gh.or {r r':R2} (h:gh X r) (h':gh X r'):gh X (λx y H Q=>r x y H Q∨r' x y H Q):=by
 intro value slice pins s σ H x y v u Q I rx ry q hs
 rcases q with q | q
 ·exact h value slice pins s σ H x y v u Q I rx ry q hs
 ·exact h' value slice pins s σ H x y v u Q I rx ry q hs
theorem hU.or {id:String} {r r':V→List V→Hp→VK→Prop} (h:hU X id r) (h':hU X id r'):hU X id (λx xs H Q=>r x xs H Q∨r' x xs H Q):=by
 intro pins s σ H x xs v us Q I rx rs q
 rcases q with q | q
 ·exact h pins s σ H x xs v us Q I rx rs q
 ·exact h' pins s σ H x xs v us Q I rx rs q
theorem dI {r:R2} (hr:gh X r) (ha:PE X a ta) (hb:PE X b tb) (hs:bf b):PE X (.Subscript a b pos) (uh r ta tb):=by
 intro pins s σ H Q I h
 exact Subscript_ (xD ha hb I h λv u s2 x y H2 I2 rx ry q=>hr a b pins s2 σ H2 x y v u Q I2 rx ry q (hs _ _))
def AV (K:PySem.W.Frag):R2:=λx y H Q=>∃p xs i v,x=.ref p∧y=.int i∧bO K H p xs∧bN xs i=some v∧Q v H
def AX (K:PySem.W.Frag):R2:=λx y H Q=>∃p xs i v,x=.ref p∧y=.int i∧dz K H p xs∧bN xs i=some v∧Q v H
def AW:R2:=λx y H Q=>∃z i c,x=.str z∧y=.int i∧z.length≤sizeLine∧bN z.cps.toList i=some c∧Q (.str ⟨#[c]⟩) H
theorem iR:gh X (AV X.K):=by
 intro value slice pins s σ H x y v u Q I rx ry h hs
 obtain ⟨p,xs,i,z,rfl,rfl,hq,he,q⟩:=h
 cases rx
 obtain ⟨t,rfl⟩:=ry
 obtain ⟨aQ,r,pl,hz⟩:=I.list hq
 obtain ⟨j,h1,h2,h3,h4,h5⟩:=kS he
 obtain ⟨w,ew,rw'⟩:=r.get h2
 have hl:=r.length
 have hn:=ie
 have fin:EP X pins σ Q w s:=⟨z,H,I,rw',q⟩
 by_cases h0:0≤i
 ·have hj:i.toNat=j:=by
   rw [seqIndex_of h0 h5] at h1
   exact Option.some.inj h1
  exact item_listR pl.isList h0 (by omega) (by rw [hj];simpa using ew) fin hs
 ·have hj:(i + (aQ.toArray.size:Int)).toNat=j:=by
   rw [seqIndex_neg (by omega) h4] at h1
   rw [D3,← hl]
   exact Option.some.inj h1
  exact subscriptTail_builtinR (x:=w) pl.isList.typeIs slot_list_getitem.lookup
   (wpAny_getItem_list_neg (Q:=λr s'=>r=w∧EP X pins σ Q r s') pl.isList (by omega) (by rw [D3] <;> omega) (by omega) (by rw [hj];simpa using ew) ⟨rfl,fin⟩) hs
theorem x6:gh X (AX X.K):=by
 intro value slice pins s σ H x y v u Q I rx ry h hs
 obtain ⟨p,xs,i,z,rfl,rfl,hq,he,q⟩:=h
 cases rx
 obtain ⟨t,rfl⟩:=ry
 obtain ⟨aQ,r,pl,hz⟩:=I.tuple hq
 obtain ⟨j,h1,h2,h3,h4,h5⟩:=kS he
 obtain ⟨w,ew,rw'⟩:=r.get h2
 have hl:=r.length
 have hn:=ie
 have fin:EP X pins σ Q w s:=⟨z,H,I,rw',q⟩
 exact subscriptTail_builtinR (x:=w) pl.typeIs slot_tuple_getitem.lookup
  (getItem_tuple (j:=j) (Q:=λr s'=>r=w∧EP X pins σ Q r s') pl (by omega) (by omega) (by rw [D3,← hl];exact h1) (by simpa using ew) ⟨rfl,fin⟩) hs
theorem nG:gh X AW:=by
 intro value slice pins s σ H x y v u Q I rx ry h hs
 obtain ⟨z,i,c,rfl,rfl,hz,he,q⟩:=h
 obtain ⟨t,rfl⟩:=rx
 obtain ⟨t',rfl⟩:=ry
 obtain ⟨j,h1,h2,h3,h4,h5⟩:=kS he
 have hl:z.cps.toList.length=z.length:=by simp [Str.length]
 rw [hl] at h1 h4 h5
 have hn:=ie
 exact tail_any (typeIs_str s z t) slot_str_getitem.lookup (getItem_str (c:=c) (by
  have e1:decide (i < -(2 ^ 63:Int))=false:=decide_eq_false (by omega)
  have e2:decide (i ≥ 2 ^ 63)=false:=decide_eq_false (by omega)
  rw [e1,e2,Bool.or_false]) (by rw [h1];simpa using h2) ⟨.str ⟨#[c]⟩,H,I.tok _,⟨_,rfl⟩,q⟩) hs
theorem nK (aQ:List Value) (n j:Nat) (u:Value):Obj.mapSeq (·.setIfInBounds j u) { cls:=.type "list",data:=.seq aQ.toArray n }={ cls:=.type "list",data:=.seq (aQ.set j u).toArray n }:=by
 simp [Obj.mapSeq]
theorem Inv.lst {pins:List (Addr × Obj)} {σ:St} {H:Hp} {s:Shared} {p:Addr} {xs:List V} (I:Inv X pins σ H s) (h:H p=some (.lst xs)) :
  ∃(aQ:List Value) (n:Nat),Vals xs aQ∧s.heap.get? p=some { cls:=.type "list",data:=.seq aQ.toArray n }∧xs.length≤sizeLine:=by
 obtain ⟨z,aQ,n,r,e⟩:=I.hok p _ h
 exact ⟨aQ,n,r,e,z⟩
theorem Inv.yi {pins:List (Addr × Obj)} {σ:St} {H:Hp} {s:Shared} {p:Addr} {xs ys:List V} {aQ its':List Value} {n n':Nat} {f:Obj→Obj} (I:Inv X pins σ H s) (h:H p=some (.lst xs))
  (ho:s.heap.get? p=some { cls:=.type "list",data:=.seq aQ.toArray n }) (hf:f { cls:=.type "list",data:=.seq aQ.toArray n }={ cls:=.type "list",data:=.seq its'.toArray n' }) (r:Vals ys its') (hz:ys.length≤sizeLine) (t:Nat) :
  Inv X pins σ (upd H p (.lst ys)) { s with heap:=s.heap.update p f,toks:=t }:=by
 have e:(s.heap.update p f).get? p=some { cls:=.type "list",data:=.seq its'.toArray n' }:=by
  rw [Heap.get?_update_self f ho (by rw [hf] <;> rfl),hf]
 refine I.write (x:=p) (e:=p) (by rw [h];trivial) (.inl rfl) (λb u hb q=>(Heap.get?_update_other _ _ (Ne.symm hb)).trans q) ⟨_,e⟩ ?_
 exact ⟨hz,its',n',r,e⟩
def w9:V→V→V→Hp→(Hp→Prop)→Prop:=λo i v H Q=>∃p xs k j,o=.ref p∧i=.int k∧H p=some (.lst xs)∧sC xs.length k=some j∧Q (upd H p (.lst (xs.set j v)))
theorem set_list:dQ X w9:=by
 intro pins s σ H o i v ov iv u Q I ro ri rv h
 obtain ⟨p,xs,k,j,rfl,rfl,hp,hj,q⟩:=h
 cases ro
 obtain ⟨t,rfl⟩:=ri
 obtain ⟨aQ,n,r,ho,hz⟩:=I.lst hp
 obtain ⟨h1,h2,h3,h4⟩:=pe hj
 have hl:=r.length
 have hn:=ie
 have I':Inv X pins σ (upd H p (.lst (xs.set j v))) { s with heap:=s.heap.update p (Obj.mapSeq (·.setIfInBounds j u)) } :=
  I.yi hp ho (nK aQ n j u) (r.set rv j) (by rw [EZ];exact hz) s.toks
 by_cases h0:0≤k
 ·have hk:k.toNat=j:=by
   rw [seqIndex_of h0 h4] at h1
   exact Option.some.inj h1
  exact PySem.W.ki_setAt ho h0 (by omega) (by rw [D3,← hl];exact h4) (by rw [hk];exact ⟨_,I',q⟩)
 ·have hk:(k + (aQ.toArray.size:Int)).toNat=j:=by
   rw [seqIndex_neg (by omega) h3] at h1
   rw [D3,← hl]
   exact Option.some.inj h1
  exact PySem.W.ki_setBack ho (by omega) (by rw [D3,← hl];exact h3) (by omega) (by rw [hk];exact ⟨_,I',q⟩)
theorem lW (lo hi:Option Int) (n:Nat):(sliceBounds lo hi none n).1=((HT.eJ n 0 lo:Nat):Int)∧(sliceBounds lo hi none n).2.1=((HT.eJ n n hi:Nat):Int)∧(sliceBounds lo hi none n).2.2=1:=by
 refine ⟨?_,?_,rfl⟩
 ·cases lo with
  | none=>simp [sliceBounds,HT.eJ]
  | some i =>
   simp only [sliceBounds,HT.eJ,FG,show (1:Int) > 0 by decide,if_true]
   by_cases h:i < 0
   ·simp only [h,if_true] <;> omega
   ·simp only [h,if_false] <;> omega
 ·cases hi with
  | none=>simp [sliceBounds,HT.eJ]
  | some i =>
   simp only [sliceBounds,HT.eJ,FG,show (1:Int) > 0 by decide,if_true]
   by_cases h:i < 0
   ·simp only [h,if_true] <;> omega
   ·simp only [h,if_false] <;> omega
theorem j_ (aQ:List Value) (lo hi:Option Int):slicePick aQ.toArray lo hi none=((aQ.drop (HT.eJ aQ.length 0 lo)).take (HT.eJ aQ.length aQ.length hi - HT.eJ aQ.length 0 lo)).toArray:=by
 obtain ⟨h1,h2,h3⟩:=lW lo hi aQ.toArray.size
 unfold slicePick
 rw [h1,h2,h3]
 simp only [sliceRange_one,pick_run,D3] <;> rfl
def A7 (K:PySem.W.Frag):V→Option Int→Option Int→Hp→VK→Prop:=λx lo hi H Q=>∃a xs,x=.ref a∧bO K H a xs∧∀p,H p=none→Q (.ref p) (upd H p (.lst (j5 xs lo hi)))
theorem lV:h8 X (A7 X.K):=by
 intro pins s σ H x v vl vu lo hi sl Q I rx hs pl pu h
 obtain ⟨a,xs,rfl,hx,q⟩:=h
 cases rx
 obtain ⟨aQ,r,ht,hz⟩:=I.list hx
 have hlen:=r.length
 refine ⟨"list",_,slot_list_getitem.lookup,ht.isList.typeIs,?_⟩
 refine wpAny_getItem_list_slice ht.isList hs pl pu .none (by simp) ?_ (by rw [D3] <;> omega)
 rw [j_,← hlen]
 refine ⟨.ref s.heap.objs.size,_,I.laid (t':=s.toks) (o:=.lst (j5 xs lo hi)) (λb ob q=>Heap.get?_push_of_some _ q) (D5 _) ?_,rfl,q _ (I.hok.fresh (D5 _))⟩
 exact ⟨D1 (mj xs lo hi) hz,_,0,(r.drop (HT.eJ xs.length 0 lo)).take (HT.eJ xs.length xs.length hi - HT.eJ xs.length 0 lo),Heap.get?_push_size _ rfl⟩
theorem cR:aZ X (.builtin "len") (λxs H Q=>∃p ys,xs=[.ref p]∧(bO X.K H p ys∨dz X.K H p ys)∧Q (.int ys.length) H):=by
 intro pins s σ H xs us Q I r h
 obtain ⟨p,ys,rfl,hq,q⟩:=h
 obtain ⟨u,rfl,rx⟩:=vals1 r
 cases rx
 have hn:=ie
 rcases hq with hq | hq
 ·obtain ⟨aQ,r',pl,hz⟩:=I.list hq
  have hlen:=r'.length
  exact Calls.call_len_list pl.isList (by simp only [D3] <;> omega) ⟨.int ys.length,H,I.tok _,⟨s.toks + 1,by rw [D3,hlen]⟩,q⟩
 ·obtain ⟨aQ,r',pl,hz⟩:=I.tuple hq
  have hlen:=r'.length
  exact len_tuple pl (by simp only [D3] <;> omega) ⟨.int ys.length,H,I.tok _,⟨s.toks + 1,by rw [D3,hlen]⟩,q⟩
theorem eg:aZ X (.builtin "len") (λxs H Q=>∃z,xs=[.str z]∧z.length≤sizeLine∧Q (.int z.length) H):=by
 intro pins s σ H xs us Q I r h
 obtain ⟨z,rfl,hz,q⟩:=h
 obtain ⟨u,rfl,t,rfl⟩:=vals1 r
 have hn:=ie
 exact len_str (by omega) ⟨.int z.length,H,I.tok _,⟨_,rfl⟩,q⟩
theorem aZ.or {f:Value} {r r':List V→Hp→VK→Prop} (h:aZ X f r) (h':aZ X f r'):aZ X f (λxs H Q=>r xs H Q∨r' xs H Q):=by
 intro pins s σ H xs us Q I rs q
 rcases q with q | q
 ·exact h pins s σ H xs us Q I rs q
 ·exact h' pins s σ H xs us Q I rs q
theorem j4:aZ X (.type "tuple") (λxs H Q=>∃p ys,xs=[.ref p]∧((bO X.K H p ys∧∀l,H l=none→Q (.ref l) (upd H l (.tup ys)))∨(dz X.K H p ys∧Q (.ref p) H))):=by
 intro pins s σ H xs us Q I r h
 obtain ⟨p,ys,rfl,h⟩:=h
 obtain ⟨u,rfl,rx⟩:=vals1 r
 cases rx
 rcases h with ⟨hq,q⟩ | ⟨hq,q⟩
 ·obtain ⟨aQ,r',pl,hz⟩:=I.list hq
  have hlen:=r'.length
  refine call_tuple_list pl.isList (λh' kp=>?_) (by simp only [D3] <;> omega)
  have I1:Inv X pins σ H { s with heap:=h' }:=I.kept (t':=s.toks) kp
  have I2:Inv X pins σ (upd H h'.objs.size (.tup ys)) { s with heap:=h'.push { cls:=.type "tuple",data:=.seq aQ.toArray } } :=
   I1.laid (t':=s.toks) (λb o e=>Heap.get?_push_of_some _ e) (D5 _) (show bJ X.prog X.w _ _ _ (.tup ys) from ⟨hz,aQ,r',IsTup.new _ _⟩)
  exact ⟨.ref h'.objs.size,_,I2,rfl,q _ (I1.hok.fresh (D5 _))⟩
 ·obtain ⟨aQ,r',pl,hz⟩:=I.tuple hq
  exact call_tuple_same pl ⟨.ref p,H,I,rfl,q⟩
def C0 (K:PySem.W.Frag) (T:String) (x:V) (H:Hp):Prop:=match x with
 | .str _=>T="str"
 | .int _=>T="int"
 | .ref p=>(T="list"∧∃xs,bO K H p xs)∨(T="tuple"∧∃o,K.lookup p=some o∧o.cls=.type "tuple"∧o.dict=none) ∨
   (T="dict"∧((∃kvs,H p=some (.dK kvs))∨∃kvs ep,H p=some (.dE kvs ep)))∨(T="set"∧∃S n,H p=some (.set S n))
 | _=>False
theorem za {pins:List (Addr × Obj)} {σ:St} {H:Hp} {s:Shared} {T:String} {x:V} {v:Value} (I:Inv X pins σ H s) (r:RelV x v) (ty:C0 X.K T x H) :
  s.TypeIs v T∧∀a,v=.ref a→∃ob,s.heap.get? a=some ob∧ob.dict=none:=by
 cases x with
 | str z =>
  obtain ⟨t,rfl⟩:=r
  cases (show T="str" from ty)
  exact ⟨typeIs_str s z t,λ_ e=>nomatch e⟩
 | int i =>
  obtain ⟨t,rfl⟩:=r
  cases (show T="int" from ty)
  exact ⟨typeIs_int s i t,λ_ e=>nomatch e⟩
 | ref p =>
  cases r
  rcases ty with ⟨rfl,xs,hq⟩ | ⟨rfl,o,hk,hc,hd⟩ | ⟨rfl,hk⟩ | ⟨rfl,S,n,hk⟩
  ·obtain ⟨aQ,_,pl,_⟩:=I.list hq
   refine ⟨pl.isList.typeIs,λa e=>?_⟩
   cases e
   obtain ⟨o,n,e,c,hd,_⟩:=pl
   exact ⟨o,e,hd⟩
  ·refine ⟨⟨o,I.jX p o hk,hc⟩,λa e=>?_⟩
   cases e
   exact ⟨o,I.jX _ o hk,hd⟩
  ·have z:∃o,s.heap.get? p=some o∧o.ExactDict:=by
    rcases hk with ⟨kvs,hk⟩ | ⟨kvs,ep,hk⟩
    ·obtain ⟨_,_,_,_,o,_,_,e,ex,_⟩:=I.hok p _ hk
     exact ⟨o,e,ex⟩
    ·obtain ⟨_,_,_,_,o,_,e,ex,_⟩:=I.hok p _ hk
     exact ⟨o,e,ex⟩
   obtain ⟨o,e,ex⟩:=z
   refine ⟨⟨o,e,ex.1⟩,λa e2=>?_⟩
   cases e2
   exact ⟨o,e,ex.2.1⟩
  ·obtain ⟨o,_,_,_,e,ex,_⟩:=I.hok p _ hk
   refine ⟨⟨o,e,ex.1⟩,λa e2=>?_⟩
   cases e2
   exact ⟨o,e,ex.2.1⟩
 | _=>exact False.elim ty
def BJ (K:PySem.W.Frag) (T:String) (r:V→List V→Hp→VK→Prop) (to:TE) (t:TA):TE:=λσ H Q=>to σ H λx H1=>C0 K T x H1∧t σ H1 λxs H2=>r x xs H2 Q
variable {o e:Expr} {es:List Expr} {to:TE} {t:TA} {name:Str} {apos cpos:Pos} {T id:String} {r:V→List V→Hp→VK→Prop}
theorem jB (pa:PlainAttrs T) (slot:Slot T name id) (hty:typeOf (.builtin id)=pure (.type "method_descriptor")) (hm:hU X id r) (ho:PE X o to) (ha:PA X (e :: es) t)
  (hbase:attributeBase o name X.env (eval o X.env)=eval o X.env:=by rfl)
  (hfew:((backTo cpos (starEach (e :: es) X.env)).all (λx=>!x.1) && (backToKw cpos (keywordEach [] X.env)).all (λx=>x.1.isSome)
   && decide ((e :: es).length + ([]:List Keyword).length + (if ([]:List Keyword).isEmpty then 0 else 1) < 30))=true:=by rfl)
  (hline:(apos.endLine == cpos.line)=true:=by rfl) (hs:starEach (e :: es) X.env=(false,eval e X.env) :: starEach es X.env:=by rfl) (hplain:(backTo cpos (starEach es X.env)).any (·.1)=false:=by rfl) :
  PE X (.Call (.Attribute o name apos) (e :: es) [] cpos) (BJ X.K T r to t):=by
 intro pins s σ H Q I h
 refine wpAny_Call_method_late hbase hfew hline rfl (bA (ho pins s σ H _ I h) λv s1 ⟨x,H1,I1,r1,ty,q1⟩=>?_)
 obtain ⟨h1,h2⟩:=za I1 r1 ty
 refine ⟨T,id,pa,slot,hty,h1,h2,?_⟩
 have hA:=ha cpos pins s1 σ H1 _ I1 q1
 rw [hs] at hA ⊢
 refine Calls.callWith_builtin (by show (false || (backTo cpos (starEach es X.env)).any (·.1))=false;rw [hplain] <;> rfl) (Calls.evalArgs_plain ?_)
 exact bA hA λus s2 ⟨vs,H2,I2,r2,q2⟩=>hm pins s2 σ H2 x vs v us Q I2 r1 r2 q2
end
end L2
namespace L2
open PySem PySem.Spec PyProof.Rows
def DK (X:Cx) (id:String) (r:V→List V→Hp→VK→Prop):Prop :=
 ∀(pins:List (Addr × Obj)) (s:Shared) (σ:St) (H:Hp) (x:V) (xs:List V) (v:Value) (us:List Value) (Q:VK),Inv X pins σ H s→RelV x v→Vals xs us→r x xs H Q →
  wpAny (model X.prog X.w) X.A (call (.builtin id) (v :: us)) (EP X pins σ Q) X.xe s
theorem Vals.one {x:V} {us:List Value} (r:Vals [x] us):∃u,us=[u]∧RelV x u:=vals1 r
theorem Vals.zero:∀{us:List Value},Vals [] us→us=[]
 | _,.nil=>rfl
theorem Vals.dropLast {xs:List V} {us:List Value} (h:Vals xs us):Vals xs.dropLast us.dropLast:=by
 induction h with
 | nil=>exact .nil
 | cons r t ih =>
  cases t with
  | nil=>exact .nil
  | cons q t'=>exact .cons r ih
theorem Vals.reverse {xs:List V} {us:List Value} (h:Vals xs us):Vals xs.reverse us.reverse:=by
 induction h with
 | nil=>exact .nil
 | cons r t ih=>rw [FA,FA];exact Vals.append ih (.cons r .nil)
theorem Vals.rep {xs:List V} {us:List Value} (h:Vals xs us):∀k:Nat,Vals (Ea k xs).flatten (Ea k us).flatten
 | 0=>.nil
 | k + 1=>by
  rw [ED,ED,E3,E3]
  exact Vals.append h (Vals.rep h k)
section
variable {X:Cx} {pins:List (Addr × Obj)} {σ:St} {H:Hp} {s:Shared} {l b:Addr} {xs ys zs:List V}
theorem Inv.Cg {aQ its':List Value} {n:Nat} {f:Array Value→Array Value} {t':Nat} (I:Inv X pins σ H s) (hH:H l=some (.lst xs))
  (e:s.heap.get? l=some { cls:=.type "list",data:=.seq aQ.toArray n }) (hf:f aQ.toArray=its'.toArray) (hv:Vals ys its') (hz:ys.length≤sizeLine) :
  Inv X pins σ (upd H l (.lst ys)) { s with heap:=s.heap.update l (Obj.mapSeq f),toks:=t' }:=by
 have q:=PySem.IsL.update e f
 rw [hf] at q
 refine I.write (x:=l) (e:=l) (by rw [hH];exact trivial) (.inl rfl) (λb' u hb hu=>(Heap.get?_update_other s.heap (Obj.mapSeq f) (Ne.symm hb)).trans hu) ⟨_,q⟩ ?_
 exact ⟨hz,its',_,hv,q⟩
theorem Inv.Cd {aQ:List Value} {t':Nat} (I:Inv X pins σ H s) (hv:Vals ys aQ) (hz:ys.length≤sizeLine) :
  Inv X pins σ (upd H s.heap.objs.size (.lst ys)) { s with heap:=s.heap.push { cls:=.type "list",data:=.seq aQ.toArray },toks:=t' } :=
 I.laid (λ_ _ q=>Heap.get?_push_of_some _ q) (D5 _) ⟨hz,aQ,0,hv,Heap.get?_push_size _ rfl⟩
theorem Inv.fresh (I:Inv X pins σ H s):H s.heap.objs.size=none:=I.hok.fresh (D5 _)
theorem Inv.Ci (I:Inv X pins σ H s) (hH:H l=some (.lst xs)):xs.length≤sizeLine∧∃(aQ:List Value) (n:Nat),Vals xs aQ∧xs.length=aQ.length∧s.heap.get? l=some { cls:=.type "list",data:=.seq aQ.toArray n }:=by
 obtain ⟨z,aQ,n,r,e⟩:=I.hok l _ hH
 exact ⟨z,aQ,n,r,r.length,e⟩
end
section
variable {X:Cx}
def pP:V→List V→Hp→VK→Prop:=λx vs H Q=>∃l xs y,x=.ref l∧vs=[y]∧H l=some (.lst xs)∧xs.length < sizeLine∧Q .non (upd H l (.lst (xs ++ [y])))
theorem cX:DK X "list.append" pP:=by
 intro pins s σ H x vs v us Q I rx rv h
 obtain ⟨l,xs,y,rfl,rfl,hH,hz,q⟩:=h
 cases rx
 obtain ⟨u,rfl,ru⟩:=rv.one
 obtain ⟨z,aQ,n,r,hl,e⟩:=I.Ci hH
 refine call_meets F.slot_list_append ⟨_,e,rfl⟩ F.entry_list_append (F.args_list_append_2 _ _) (PySem.list_append l aQ.toArray n u (by rw [D3];omega)) ⟨e,?_⟩
 refine ⟨.non,_,I.Cg (its':=aQ ++ [u]) hH e (by simp) (r.append (.cons ru .nil)) ?_,rfl,q⟩
 rw [EF,List.length_singleton]
 omega
end
section
variable {prog:Program} {w:World} {A:Around} {E:Value→Shared→Prop} {s:Shared}
end
section
variable {X:Cx}
end
end L2
namespace Att
open PySem PySem.W PySem.Calls PyProof.Rows
theorem iK {P:Params} {h:Heap}:∀(ns:List Int) (vs:List Value),WellAll P h vs (ns.map WData.int)→IntsAre vs ns:=by
 intro ns
 induction ns with
 | nil =>
  intro vs w
  rw [E8] at w
  cases w
  exact .nil
 | cons n ns ih =>
  intro vs w
  rw [D_] at w
  cases w with
  | cons a b =>
   cases a
   exact .cons _ _ (ih _ b)
theorem q0 {l:OpenLaw} {n:Nat} (hn:l.most=some n) {P:Params} {h:Heap} {args:List WData} {vals:List Value}
  (hpre:l.row.toRowW.claim.pre args=true) (hwl:WellAll P h vals args) :
  ∃a vs ns,vals=[Value.ref a]∧args=[WData.list (ns.map WData.int)]∧h.get? a=some { cls:=.type "list",data:=.seq vs.toArray }∧IntsAre vs ns∧ns.length≤n:=by
 have hsh:WShape.hasAll [] args [.list .int]=true:=(pre_splitW hpre).1
 have hc:l.pre.holds [] { args:=args }=true:=(pre_splitW hpre).2
 obtain ⟨d,r,rfl,h1,h2⟩:=hasAllW_cons hsh
 obtain rfl:=hasAllW_nil h2
 obtain ⟨xs,rfl,h3⟩:=hasW_list h1
 obtain ⟨ns,rfl⟩:=items_int h3
 have hlen:ns.length≤n:=by
  unfold OpenLaw.pre at hc
  have h4:(WTm.not (.lt (.lit (.int (n:Int))) (.len (.arg 0)))).holds [] { args:=[.list (ns.map .int)] }=true:=by
   have h4:=(holds_andW hc).1
   rw [hn] at h4
   exact h4
  have h5:=condW_of h4 (w_not (w_lt w_lit (w_len_list (w_arg rfl))))
  rw [D0] at h5
  refine Nat.le_of_not_lt λq=>?_
  have q':(n:Int) < ((ns.length:Nat):Int):=by omega
  first
   | (rw [decide_eq_true q'] at h5;exact absurd h5 (by decide))
   | (simp at h5;omega)
 cases hwl with
 | cons w1 w2 =>
  cases w2
  cases w1 with
  | list ho hall=>exact ⟨_,_,ns,rfl,rfl,ho,iK ns _ hall,hlen⟩
theorem qV (l:OpenLaw) (args:List WData):l.row.toRowW.claim.post args (.bool true) args=true :=
 postW_of (r:=l.row.toRowW) (X:=(true == true))
  (show WShape.has [] (.bool true) .bool=true by first | rfl | decide | simp [WShape.has,WShape.arms,WShape.armsAll])
  (show (WTm.eq .res (.lit (.bool true))).value [] { args:=args,res:=some (.bool true),after:=args }=some (.bool (true == true)) from w_eq_bool (w_res rfl) w_lit) rfl
theorem mf {l:OpenLaw} {n:Nat} {q:Program} {loose:List Str} {XP:(Str→Option Value)→Heap→Prop} {YP:World→Heap→Prop} {d:DefRec}
  (hn:l.most=some n) (hdf:d.params.defaults=[])
  (call:∀(w:World) (s₀ s₁:Shared) (mg mb:Str→Option Value) (fa:Addr) (o:Obj) (pm cd doc:Value) (a:Addr) (vs:List Value) (ns:List Int),
   Ground q loose [] XP w s₀ mg mb s₁.heap→YP w s₁.heap →
   s₁.heap.get? fa=some o→o.data=.func (docDef d.name d.params d.body d.scope pm cd doc)→s₁.heap.CodeRec cd d.name→mg d.name=some (.ref fa) →
   s₁.heap.get? a=some { cls:=.type "list",data:=.seq vs.toArray }→IntsAre vs ns→ns.length≤n→s₁.gens=#[] →
   codeAny (model l.prog w) callerA (.call (.ref fa) ⟨[.ref a],[]⟩) (λr s'=>r=.ok (.ret (.bool true))∧OldK s₁.heap s'.heap∧s'.os=s₁.os∧AllBare s'.gens) s₁) :
  WalkO q loose XP YP l.row.toRowW d [] (λf vs=>PySem.call f vs):=by
 intro w s₀ s₁ mg mb G Y fa o pm cd doc dV kV ho hd hcd hD hmg hg args vals as hpre hlay hrd hwl hlo
 obtain rfl:dV=.none:=Dflts.none hD hdf
 obtain rfl:kV=.none:=Dflts.noKw hD
 obtain ⟨a,vs,ns,rfl,rfl,hobj,hints,hlen⟩:=q0 hn hpre hwl
 refine enter_call (codeAny_mono (call w s₀ s₁ mg mb fa o pm cd doc a vs ns G Y ho (fd_plain hd) hcd hmg hobj hints hlen hg) λr s' hq=>?_)
 obtain ⟨rfl,h2,h3,h4⟩:=hq
 exact ⟨.inl ⟨.bool true,.bool true,[],rfl,λ_=>rfl,.bool true,qV l _,λ_=>⟨List.Pairwise.nil,λ_ hm=>(nomatch hm)⟩⟩,h2,h3,h4⟩
section
variable {prog:Program} {w:World} {A:Around} {E:Value→Shared→Prop} {s:Shared} {K:Frag}
end
end Att
namespace L2
open PySem PySem.Spec PyProof.Rows
theorem kO:∀{vs:List Value} {ns:List Int},IntsAre vs ns→Vals (ns.map V.int) vs
 | _,_,.nil=>.nil
 | _,_,.cons n t h=>.cons ⟨t,rfl⟩ (kO h)
end L2
namespace L2
open PySem PySem.Spec PyProof.Rows
abbrev wg {K:PySem.W.Frag} {h:Heap} (_:K.In h):PySem.W.Frag:=K
end L2
namespace L2
open PySem PySem.Spec PyProof.Rows
def bW (s:Stmt):Arguments:=match s with
 | .FunctionDef _ a _ _ _ _ _ _ _ _=>a
 | _=>{ posonlyargs:=[],args:=[],vararg:=none,kwonlyargs:=[],kw_defaults:=[],kwarg:=none,defaults:=[] }
def bg (s:Stmt):List Stmt:=match s with
 | .FunctionDef _ _ b _ _ _ _ _ _ _=>b
 | _=>[]
def aj (s:Stmt):Scope:=match s with
 | .FunctionDef _ _ _ _ _ _ sc _ _ _=>sc
 | _=>{ kind:=.function,names:=[],isGenerator:=false,isCoroutine:=false }
abbrev kQ:g_:=λ_ _ _ _ _ _=>False
abbrev E0:XK:=λ_ _ _=>False
theorem AE {X:Cx}:Passes kQ X E0:=λ_ _ _ _ _ _ _ h=>h.elim
structure cu (K:PySem.W.Frag) (x qual:Str) (st:Stmt) (f:Addr) (fd:FuncData):Prop where
 ex:∃(oc:Value) (od:Option Addr) (kV doc pm:Value) (an:Option Addr) (cdv ct:Value) (osl:Array (Option Value)),
  fd=PySem.W.fnOf x qual (bW st) (bg st) (aj st) .none kV doc pm an cdv ct∧K.lookup f=some ⟨oc,od,.func fd,osl⟩∧PySem.W.codeIn K cdv qual=true
 kp:PySem.W.keepIn K (.ref f)=true
section
variable {P:Program} {w:World} {K:PySem.W.Frag} {mg:Str→Option Value} {base:Heap}
theorem cu.ok {x qual:Str} {st:Stmt} {f:Addr} {fd:FuncData} {N ps:List Str} {k:Nat} {sp:Sp} (F:cu K x qual st f fd) (S:ax N ps (aj st)) (len:∀vs H Q E,sp vs H Q E→vs.length=ps.length)
  (hbody:∀(cdv:Value) (A:Around) (outer:List Env) (s:Shared) (H:Hp) (vs:List V) (Q:VK) (E:XK),bj k (A.deeper (envOfC qual (aj st) s.heap.objs.size f cdv))→sp vs H Q E →
   ∃t,j3 (kY kQ P w K mg base N qual (aj st) f cdv A outer s H E).yj (bg st) t∧t { nx:=λ_ H'=>Q .non H',rt:=Q } (start N vs) H):aM P w K mg base kQ (k + 1) f fd ps sp:=by
 obtain ⟨oc,od,kV,doc,pm,an,cdv,ct,osl,rfl,lk,hcd⟩:=F.ex
 refine o5 lk hcd S len λA outer s H vs Q E hr hsp=>?_
 obtain ⟨t,h,q⟩:=hbody cdv A outer s H vs Q E hr hsp
 exact ⟨t,h.yj,q⟩
theorem cu.binds {x qual:Str} {st:Stmt} {f:Addr} {fd:FuncData} {ps:List Str} (F:cu K x qual st f fd)
  (h:∀(kV doc pm:Value) (an:Option Addr) (cdv ct:Value) (us:List Value),us.length=ps.length→bindArgs (PySem.W.fnOf x qual (bW st) (bg st) (aj st) .none kV doc pm an cdv ct) ⟨us,[]⟩=pure (ps.zip us)):Binds K fd ps []:=by
 obtain ⟨oc,od,kV,doc,pm,an,cdv,ct,osl,rfl,lk,hcd⟩:=F.ex
 exact .all (h kV doc pm an cdv ct)
theorem sk {x qual:Str} {st:Stmt} {f:Addr} {oc:Value} {od an:Option Addr} {osl:Array (Option Value)} {kV doc pm cdv ct:Value} (l:K.lookup f=some ⟨oc,od,.func (PySem.W.fnOf x qual (bW st) (bg st) (aj st) .none kV doc pm an cdv ct),osl⟩)
  (c:PySem.W.codeIn K cdv qual=true) (k:PySem.W.keepIn K (.ref f)=true):cu K x qual st f (PySem.W.fnOf x qual (bW st) (bg st) (aj st) .none kV doc pm an cdv ct):=⟨⟨oc,od,kV,doc,pm,an,cdv,ct,osl,rfl,l,c⟩,k⟩
end
theorem cG {n:Nat} (h:n≤1000):n < sizeLine:=E9 h (by decide)
section
variable {X:Cx}
theorem pv (i:Nat) {x:Str} {pos:Pos} (hN:X.N[i]?=some x:=by rfl) (hv:jc X.env.scope x:=by first | exact Or.inl rfl | exact Or.inr (Or.inl rfl) | exact Or.inr (Or.inr rfl)) (hd:(x == ("__debug__":Str))=false:=by decide)
  (hcd:(x == ("__classdict__":Str))=false:=by decide):PE X (.Name x pos) (oF i):=nZ hN hv hd hcd
end
theorem fU {c A B:Prop} [Decidable c] (h1:c→A) (h2:¬ c→B):if c then A else B:=by
 by_cases h:c
 ·rw [if_pos h]
  exact h1 h
 ·rw [if_neg h]
  exact h2 h
def aN (H H':Hp):Prop:=∀b o,H b=some o→H' b=some o
theorem aN.trans {H H1 H2:Hp} (a:aN H H1) (b:aN H1 H2):aN H H2:=λc o h=>b c o (a c o h)
theorem aN.free {H H':Hp} (e:aN H H') {l:Addr} (h:H' l=Option.none):H l=Option.none:=by
 cases q:H l with
 | none=>rfl
 | some o =>
  rw [e l o q] at h
  cases h
theorem aN.seq {K:PySem.W.Frag} {H H':Hp} {a:Addr} {xs:List V} (e:aN H H') (h:bO K H a xs):bO K H' a xs:=by
 rcases h with (h | ⟨o,h⟩) | h
 ·exact .inl (.inl (e _ _ h))
 ·exact .inl (.inr ⟨o,e _ _ h⟩)
 ·exact .inr h
end L2
namespace Ov
theorem mq {a b:Int} (h:b≠0):Int.gcd b (a % b)=Int.gcd a b:=by
 have e:a=b * (a / b) + a % b:=(Int.mul_ediv_add_emod a b).symm
 have d1:((Int.gcd b (a % b):Nat):Int) ∣ a:=by
  rw [e]
  exact Int.dvd_add (Int.dvd_trans (Int.gcd_dvd_left ..) (Int.dvd_mul_right ..)) (by rw [← e];exact Int.gcd_dvd_right ..)
 have d2:((Int.gcd a b:Nat):Int) ∣ a % b:=by
  have e2:a % b=a - b * (a / b):=by omega
  rw [e2]
  exact Int.dvd_sub (Int.gcd_dvd_left ..) (Int.dvd_trans (Int.gcd_dvd_right ..) (Int.dvd_mul_right ..))
 exact Nat.dvd_antisymm (Int.dvd_gcd d1 (Int.gcd_dvd_left ..)) (Int.dvd_gcd (Int.gcd_dvd_right ..) d2)
theorem o7 {a:Int} (h:0≤a):((Int.gcd a 0:Nat):Int)=a:=by
 rw [Int.gcd_zero_right];omega
theorem uU (a b:Int):Int.gcd (if a < 0 then -a else a) (if b < 0 then -b else b)=Int.gcd a b:=by
 split <;> split <;> simp [Int.gcd_neg,Int.neg_gcd]
theorem so (a b:Int):Int.gcd (if a < 0 then -a else a) b=Int.gcd a b:=by
 split <;> simp [Int.gcd_neg,Int.neg_gcd]
theorem uV {t b:Int} (h:b≠0):0 < ((Int.gcd t b:Nat):Int):=by
 have:0 < Int.gcd t b:=Int.gcd_pos_of_ne_zero_right t h
 omega
theorem xT {t b:Int} (h:b≠0):Int.gcd t b≤b.natAbs:=Nat.le_of_dvd (by omega) (Int.ofNat_dvd.mp (by rw [Int.dvd_natAbs];exact Int.gcd_dvd_right ..))
theorem pB {t b:Int} (h:0 < b):t.fdiv ((Int.gcd t b:Nat):Int)=(Rat.divInt t b).num:=by
 rw [Rat.num_divInt,Int.sign_eq_one_of_pos h,Int.one_mul,Int.gcd_comm b t,Int.fdiv_eq_ediv_of_nonneg _ (Int.natCast_nonneg _)]
theorem den_pos {t b:Int} (h:0 < b):b.fdiv ((Int.gcd t b:Nat):Int)=((Rat.divInt t b).den:Int):=by
 rw [Rat.den_divInt,if_neg (by omega),Int.gcd_comm b t,Int.fdiv_eq_ediv_of_nonneg _ (Int.natCast_nonneg _)]
 rw [Int.natCast_ediv]
 congr 1
 omega
theorem vh {t b:Int} (h:b < 0):t.fdiv (-((Int.gcd t b:Nat):Int))=(Rat.divInt t b).num:=by
 have e:t.fdiv (-((Int.gcd t b:Nat):Int))=(-t).fdiv ((Int.gcd t b:Nat):Int):=by
  have:=Int.neg_fdiv_neg (a:=-t) (b:=((Int.gcd t b:Nat):Int))
  rw [← this];simp
 rw [e,Rat.num_divInt,Int.sign_eq_neg_one_of_neg h,Int.gcd_comm b t,Int.fdiv_eq_ediv_of_nonneg _ (Int.natCast_nonneg _)]
 congr 1
 omega
theorem vg (t b:Int):(Rat.divInt t b).num.natAbs≤t.natAbs:=by
 rcases Int.lt_trichotomy b 0 with h | h | h
 ·rw [← vh h]
  exact Int.natAbs_fdiv_le_natAbs ..
 ·subst h;simp
 ·rw [← pB h,Int.fdiv_eq_ediv_of_nonneg _ (Int.natCast_nonneg _)]
  exact Int.natAbs_ediv_le_natAbs ..
theorem uM {t b:Int} (h:b≠0):(((Rat.divInt t b).den:Int)).natAbs≤b.natAbs:=by
 rw [Rat.den_divInt,if_neg h]
 exact Nat.div_le_self ..
end Ov
namespace Ov
open PySem PySem.Spec PyProof.Rows L2
structure Bd (n:Nat) (x:Int):Prop where
 lt:x.natAbs < 2 ^ n
theorem Bd.bits {n:Nat} {x:Int} (h:Bd n x):Builtin.Int.intBits x≤n:=intBits_le_iff.mpr h.lt
theorem Bd.of {n:Nat} {x:Int} (h:Builtin.Int.intBits x≤n):Bd n x:=⟨intBits_le_iff.mp h⟩
theorem Bd.mono {m n:Nat} {x:Int} (h:Bd m x) (hmn:m≤n):Bd n x:=.of (D1 h.bits hmn)
theorem Bd.sub {m n k:Nat} {x y:Int} (h:Bd m x) (g:Bd n y) (hk:max m n + 1≤k:=by decide):Bd k (x - y):=(Bd.of (intBits_sub_le h.bits g.bits)).mono hk
theorem Bd.le {n:Nat} {x y:Int} (g:Bd n y) (h:x.natAbs≤y.natAbs):Bd n x:=⟨E9 h g.lt⟩
theorem Bd.small {x:Int} (h1:-(2 ^ 64) < x) (h2:x < 2 ^ 64):Bd 64 x:=.of (intBits_le_64 h1 h2)
theorem Bd.log {n:Nat} {x:Int} (h:Bd n x) (hn:n≤9000) (h0:x≠0):x.natAbs.log2 < 9000 :=
 D4 ((Nat.log2_lt (by omega)).mpr h.lt) hn
section
variable {X:Cx}
def CM (i j:Int):Prop:=∃m n,Bd m i∧Bd n j∧m + n≤134217728
theorem CM.of {m n:Nat} {i j:Int} (h:Bd m i) (g:Bd n j) (hk:m + n≤134217728:=by decide):CM i j:=⟨m,n,h,g,hk⟩
theorem dH:cn X (binaryOp .Mult) (rI CM λi j=>.int (i * j)):=BF λ_ _ _ _ _ _ _ hc q=>by
 obtain ⟨m,n,h,g,hk⟩:=hc
 exact mul_int q (IntMulOk.of_le h.bits g.bits hk)
def CQ (_ j:Int):Prop:=j≠0∧Bd 9000 j
theorem gM:cn X (binaryOp .FloorDiv) (rI CQ λi j=>.int (i.fdiv j)):=BF λ_ _ _ _ _ _ _ hc q =>
 floordiv_int hc.1 q (.inl (PyProof.noPylong_of_log2 (hc.2.log (D5 _) hc.1)))
def DW (f:Bool→Bool):R2:=λx y H Q=>∃(p q:Addr) (a b c d:Int),x=.ref p∧y=.ref q∧H p=some (.tup [.int a,.int b])∧H q=some (.tup [.int c,.int d])∧Q (.bl (f (decide (a=c∧b=d)))) H
def Bh (t u:TS):TS:=λD σ H=>∃M:L2.St→Hp→Prop,t { D with nx:=M } σ H∧∀σ' H',M σ' H'→u D σ' H'
theorem vG {st:Stmt} {rest:List Stmt} {t u:TS} (h1:PS X st t) (h2:j3 X rest u):j3 X (st :: rest) (Bh t u):=by
 intro pins s σ H D I h
 obtain ⟨M,h,k⟩:=h
 refine wpAny_execs_cons (bA (h1 pins s σ H { D with nx:=M } I h) λf s1 q=>?_)
 cases f with
 | next =>
  obtain ⟨σ',H',I',q⟩:=q
  exact h2 pins s1 σ' H' D I' (k _ _ q)
 | ret v=>exact q
 | brk=>exact q
 | cont=>exact q
end
section
variable {X:Cx}
def wZ:R2:=λx y H Q=>∃p xs i v,x=.ref p∧y=.int i∧H p=some (.lst xs)∧bN xs i=some v∧Q v H
def AY:R2:=λx y H Q=>∃p xs i v,x=.ref p∧y=.int i∧H p=some (.tup xs)∧bN xs i=some v∧Q v H
theorem de:gh X wZ:=λvalue slice pins s σ H x y v u Q I rx ry ⟨p,xs,i,z,e1,e2,h,e3,q⟩ hs =>
 iR value slice pins s σ H x y v u Q I rx ry ⟨p,xs,i,z,e1,e2,bO.of h,e3,q⟩ hs
end
theorem iA {α:Type} (x:α) (xs:List α):bN (x :: xs) 0=some x:=aU (j:=0) rfl
theorem jf {α:Type} (x y:α) (xs:List α):bN (x :: y :: xs) 1=some y:=aU (j:=1) rfl
theorem me {α:Type} (x y z:α) (xs:List α):bN (x :: y :: z :: xs) 2=some z:=aU (j:=2) rfl
theorem rS {α:Type} (x y z u:α) (xs:List α):bN (x :: y :: z :: u :: xs) 3=some u:=aU (j:=3) rfl
theorem vS (i j:Int):t9 (.int i) (.int j)=true:=rfl
theorem vR (i j:Bool):t9 (.bl i) (.bl j)=true:=rfl
theorem vT (i j:Str):t9 (.str i) (.str j)=true:=rfl
def qg (P:Program) (w:World) (K:PySem.W.Frag) (mg:Str→Option Value) (base:Heap) (k:Nat) (x:Str) (ps:List Str) (sp:Sp):Prop :=
 ∃f fd,aM P w K mg base kQ k f fd ps sp∧Binds K fd ps []∧PySem.W.keepIn K (.ref f)=true∧mg x=some (.ref f)
theorem yA {X:Cx} {k k':Nat} {x:Str} {ps:List Str} {sp:Sp} {p pos:Pos} {e:Expr} {es:List Expr} {t:TA} (C:qg X.prog X.w X.K X.mg X.base k x ps sp) (hr:bj k' X.A) (hk:k≤k') (hg:Gl X x) (ha:PA X (e :: es) t)
  (hdb:(x == ("__debug__":Str))=false:=by decide) (he:starEach (e :: es) X.env=(false,eval e X.env) :: starEach es X.env:=by rfl) (hpl:(backTo pos (starEach es X.env)).any (·.1)=false:=by rfl) :
  PE X (.Call (.Name x p) (e :: es) [] pos) (jT sp [] E0 t):=by
 obtain ⟨f,fd,F,b,kp,m⟩:=C
 exact pG F (hr.mono hk) hg m kp b .nil AE ha hdb he hpl
theorem jm {N P:List Str} {sc:Scope} (a:sc.kind=.function:=by rfl) (b:sc.isCoroutine=false:=by rfl) (c:sc.isGenerator=false:=by rfl) (d:N.Nodup:=by decide +kernel) (e:N.take P.length=P:=by rfl) (f:∀x∈P,sc.names.lookup x=some .local∨sc.names.lookup x=some .cell:=by decide +kernel) (g:∀y∈sc.names,y.2≠.free:=by decide +kernel):ax N P sc:=⟨a,b,c,d,e,f,g⟩
def Def (K:PySem.W.Frag) (mg:Str→Option Value) (x:Str) (st:Stmt):Prop:=∃f fd,cu K x x st f fd∧mg x=some (.ref f)
theorem xN {K:PySem.W.Frag} {h:Heap} {mg:Str→Option Value} {x:Str} {st:Stmt} (X:K.In h) (G:h.Ns mainGlobals mg) {f:Addr} {od an:Option Addr} {sl:Array (Option Value)} {oc kV dc pm cd ct:Value}
  (a:PySem.W.nsIn K mainGlobals x=some (some (.ref f))) (l:K.lookup f=some ⟨oc,od,.func (PySem.W.fnOf x x (bW st) (bg st) (aj st) .none kV dc pm an cd ct),sl⟩) (c:PySem.W.codeIn K cd x=true) (k:PySem.W.keepIn K (.ref f)=true) :
  Def K mg x st:=⟨f,_,sk l c k,PySem.W.mg_of X G a⟩
theorem Def.xE {P:Program} {w:World} {K:PySem.W.Frag} {mg:Str→Option Value} {base:Heap} {x:Str} {st:Stmt} {k:Nat} {ps:List Str} {sp:Sp} (D:Def K mg x st)
  (h:∀f fd,cu K x x st f fd→aM P w K mg base kQ k f fd ps sp)
  (hb:∀(kV doc pm:Value) (an:Option Addr) (cdv ct:Value) (us:List Value),us.length=ps.length→bindArgs (PySem.W.fnOf x x (bW st) (bg st) (aj st) .none kV doc pm an cdv ct) ⟨us,[]⟩=pure (ps.zip us)) :
  qg P w K mg base k x ps sp:=by
 obtain ⟨f,fd,F,m⟩:=D
 exact ⟨f,fd,h f fd F,F.binds hb,F.kp,m⟩
theorem ya {K:PySem.W.Frag} {mg:Str→Option Value} {st:Stmt} {fa:Addr} {p:Str} (D:Def K mg "law" st) (hfa:mg "law"=some (.ref fa))
  (hb:∀(kV doc pm:Value) (an:Option Addr) (cdv ct:Value) (u:Value),bindArgs (PySem.W.fnOf "law" "law" (bW st) (bg st) (aj st) .none kV doc pm an cdv ct) ⟨[u],[]⟩=pure [(p,u)]) :
  ∃fd,cu K "law" "law" st fa fd∧∀(s:Shared) (u:Value),BindsTo s fd ⟨[u],[]⟩ [(p,u)]:=by
 obtain ⟨f,fd,F,m⟩:=D
 have e:=m.symm.trans hfa
 cases e
 obtain ⟨oc,od,kV,doc,pm,an,cdv,ct,osl,rfl,lk,hcd⟩:=F.ex
 exact ⟨_,F,λs u=>.of_eq (hb kV doc pm an cdv ct u)⟩
structure we (mg:Str→Option Value):Prop where
 abs:mg "abs"=none
 len:mg "len"=none
 isinstance:mg "isinstance"=none
 range:mg "range"=none
 int:mg "int"=none
 bool:mg "bool"=none
 tuple:mg "tuple"=none
 list:mg "list"=none
 sorted:mg "sorted"=none
 all:mg "all"=none
theorem _root_.L2.aN.tup {K:PySem.W.Frag} {H H':Hp} {a:Addr} {xs:List V} (e:aN H H') (h:dz K H a xs):dz K H' a xs:=by
 rcases h with (h | ⟨o,h⟩) | h
 ·exact .inl (.inl (e _ _ h))
 ·exact .inl (.inr ⟨o,e _ _ h⟩)
 ·exact .inr h
theorem _root_.L2.aN.new {H:Hp} {p:Addr} (h:H p=none) (o:HO):aN H (upd H p o):=λb u q=>by rw [aB (aR q h)];exact q
theorem _root_.L2.aN.zw {H H':Hp} {p:Addr} (h:H p=none) (e:aN H H') (o:HO):aN H (upd H' p o):=λb u q=>by rw [aB (aR q h)];exact e b u q
def DZ (K:PySem.W.Frag) (H:Hp) (a:Addr) (q:Rat):Prop:=dz K H a [.int q.num,.int q.den]
structure Sz (n:Nat) (q:Rat):Prop where
 num:Bd n q.num
 den:Bd n q.den
theorem Sz.mono {m n:Nat} {q:Rat} (h:Sz m q) (k:m≤n):Sz n q:=⟨h.num.mono k,h.den.mono k⟩
theorem vM (x y:Rat):(x.num=y.num∧(x.den:Int)=(y.den:Int))=(x=y):=propext
 ⟨λh=>Rat.ext h.1 (by have:=h.2;omega),λh=>by subst h;exact ⟨rfl,rfl⟩⟩
theorem eS (c:Str→NameKind→Bool):∀(names:List (Str × NameKind)) (y:Str),
  (names.map λ(x:Str × NameKind)=>if c x.1 x.2 then (x.1,NameKind.cell) else (x.1,x.2)).lookup y=(names.lookup y).map λk=>if c y k then NameKind.cell else k
 | [],_=>rfl
 | (n,k) :: r,y=>by
  have ih:=eS c r y
  cases hy:y == n with
  | true =>
   have e:y=n:=by simpa using hy
   subst e
   by_cases h:c y k=true <;> simp [EK,h]
  | false =>
   by_cases h:c n k=true <;> simp [EK,h,hy,ih]
theorem e_ (sc:Scope) (env:Env) (y:Str):(relabel sc env).names.lookup y=(sc.names.lookup y).map λk=>if (k == .free && env.scope.kind == .function && env.kindOf y == some .cell) then NameKind.cell else k:=by
 have h:=eS (λn k=>k == .free && env.scope.kind == .function && env.kindOf n == some .cell) sc.names y
 exact h
theorem fR {env:Env}:∀(names:List (Str × NameKind)) (acc:List (Str × Addr)),(∀y∈names,y.2=.free→∃c,env.cells.lookup y.1=some c)→(∀y c,acc.lookup y=some c→env.cells.lookup y=some c) →
  ∃cl,(forIn names acc λ(x:Str × NameKind) (r:List (Str × Addr))=>match x with
   | (name,kind)=>if (kind == NameKind.free)=true then (do let c ← cellOf env name;pure (ForInStep.yield ((name,c) :: r))) else (pure (ForInStep.yield r):Sem (ForInStep (List (Str × Addr)))))=(pure cl:Sem (List (Str × Addr))) ∧
   (∀y c,cl.lookup y=some c→env.cells.lookup y=some c)∧(∀y c,acc.lookup y=some c→∃c,cl.lookup y=some c)∧∀y∈names,y.2=.free→∃c,cl.lookup y.1=some c
 | [],acc,_,ha=>⟨acc,rfl,ha,λy c e=>⟨c,e⟩,λy hy=>by cases hy⟩
 | (n,k) :: r,acc,hn,ha=>by
  by_cases hk:k=.free
  ·subst hk
   obtain ⟨c,hc⟩:=hn (n,.free) Ep rfl
   obtain ⟨cl,e,h1,h2,h3⟩:=fR r ((n,c) :: acc) (λy hy=>hn y (D8 _ hy)) (λy d e=>by
    rw [EK] at e
    cases hy:y == n with
    | true =>
     rw [hy] at e
     have e1:y=n:=by simpa using hy
     subst e1
     rw [hc]
     exact e
    | false=>rw [hy] at e;exact ha y d e)
   have self:∃d,cl.lookup n=some d:=h2 n c (by simp [EK])
   refine ⟨cl,?_,h1,λy d q=>?_,λy hy hf=>?_⟩
   ·rw [FN]
    have ec:cellOf env n=pure c:=by unfold cellOf;rw [hc]
    simp only [beq_self_eq_true,if_true,ec,pure_bind]
    exact e
   ·by_cases hy:y=n
    ·subst hy;exact self
    ·exact h2 y d (by rw [List.lookup_cons];have:(y == n)=false:=by simpa using hy
                      rw [this];exact q)
   ·rcases D6.mp hy with rfl | hy
    ·exact self
    ·exact h3 y hy hf
  ·obtain ⟨cl,e,h1,h2,h3⟩:=fR r acc (λy hy=>hn y (D8 _ hy)) ha
   refine ⟨cl,?_,h1,h2,λy hy hf=>?_⟩
   ·rw [FN]
    have hb:(k == NameKind.free)=false:=by simpa using hk
    simp only [hb,Ef,if_false,pure_bind]
    exact e
   ·rcases D6.mp hy with rfl | hy
    ·exact absurd hf hk
    ·exact h3 y hy hf
theorem jg {sc:Scope} {env:Env} (h:∀y∈sc.names,y.2=.free→∃c,env.cells.lookup y.1=some c) :
  ∃cl,closureFor sc env=pure cl∧(∀y c,cl.lookup y=some c→env.cells.lookup y=some c)∧∀y∈sc.names,y.2=.free→∃c,cl.lookup y.1=some c:=by
 obtain ⟨cl,e,h1,_,h3⟩:=fR sc.names [] h (λy c z=>by cases z)
 refine ⟨cl,?_,h1,h3⟩
 unfold closureFor
 have e':=congrArg (λm=>m >>= λr=>(pure r:Sem (List (Str × Addr)))) e
 simp only [pure_bind] at e'
 exact e'
abbrev bR (sc osc:Scope) (N:List Str) (x:Str) (ks:List (Str × Nat)):Prop :=
 sc.kind=.function∧(∀y∈sc.names,y.2≠.cell)∧sc.names.lookup x=some .local∧(∀y∈sc.names,y.2=.local→sc.names.lookup y.1=some .local) ∧
 (∀y∈sc.names,y.2=.free→osc.names.lookup y.1=some .cell)∧(∀p∈ks,N[p.2]?=some p.1∧sc.names.lookup p.1=some .free)∧(x :: ks.map (·.1)).Nodup
def gj (X:Cx) (sc:Scope) (cl:List (Str × Addr)) (C:Addr) (x:Str) (ks:List (Str × Nat)) (s₀:Shared) (H₀:Hp) (fp:List Addr) (pins:List (Addr × Obj)):Cx :=
 { X with N:=x :: ks.map (·.1),s₀:=s₀,H₀:=H₀,env:=compEnvC sc cl C X.env,outer:=X.stack,ex:=fp,fn:=λ_=>false,pn:=X.pn ++ pins,xe:=λ_ _=>False }
def dv (ks:List (Str × Nat)) (σ:L2.St):L2.St:=ks.map λp=>(σ[p.2]?).getD none
section
variable {X:Cx} {pins:List (Addr × Obj)} {σ:L2.St} {H:Hp} {s:Shared} {sc:Scope} {cl:List (Str × Addr)} {x:Str} {ks:List (Str × Nat)} {fp:List Addr}
theorem mw (I:Inv X pins σ H s) (ok:bR sc X.env.scope X.N x ks) (h1:∀y c,cl.lookup y=some c→X.env.cells.lookup y=some c) (h2:∀y∈sc.names,y.2=.free→∃c,cl.lookup y.1=some c)
  (hfp:∀b∈fp,gu X pins H b∧∃o,s.heap.get? b=some o) {h4:Heap} {m:Str→Option Value} {t':Nat} (hn:h4.Ns s.heap.objs.size m) (kp:∀b o,s.heap.get? b=some o→h4.get? b=some o) :
  Inv (gj X sc cl s.heap.objs.size x ks s H fp pins) [] (none :: dv ks σ) H { s with heap:=h4,toks:=t' }:=by
 obtain ⟨kd,nc,lx,ll,fr,kk,nd⟩:=ok
 have fresh:H s.heap.objs.size=none:=I.hok.fresh (D5 _)
 have lt:∀b o,s.heap.get? b=some o→b≠s.heap.objs.size:=λb o e=>Ej (Heap.lt_size e)
 have cellLt:∀y c,X.env.cells.lookup y=some c→c≠s.heap.objs.size:=λy c e=>by
  obtain ⟨v,o,ho,_⟩:=I.cell y c e
  exact lt c o ho
 have sub:∀b∈cV X.stack,b=X.env.locals∨b∈X.fs:=λb hb=>D6.mp (I.fi b hb)
 have kof:∀y,(compEnvC sc cl s.heap.objs.size X.env).kindOf y=(relabel sc X.env).names.lookup y:=λy=>rfl
 have ok':(gj X sc cl s.heap.objs.size x ks s H fp pins).Ok:={
  mod:=I.ok.mod
  kind:=kd
  glob:=I.ok.glob
  blt:=I.ok.blt
  above:=D5 _
  inj:=λy z c e1 e2=>I.ok.inj y z c (h1 y c e1) (h1 z c e2)
  has:=λy hy=>by
   rw [show (gj X sc cl s.heap.objs.size x ks s H fp pins).env.kindOf y=_ from kof y,e_] at hy
   cases e:sc.names.lookup y with
   | none=>rw [e] at hy;rcases hy with z | z <;> cases z
   | some k =>
    have hm:(y,k)∈sc.names:=by
     have:=Fe.mp e
     obtain ⟨l1,l2,q,_⟩:=this
     rw [q]
     simp
    by_cases hk:k=.free
    ·subst hk;exact h2 _ hm rfl
    ·have hb:(k == NameKind.free)=false:=by simpa using hk
     rw [e] at hy
     simp only [Option.map_some,hb,Fv,Ef,if_false] at hy
     rcases hy with z | z
     ·exact absurd (Option.some.inj z) (nc _ hm)
     ·exact absurd (Option.some.inj z) hk
  cab:=λ_ _ z=>by cases z
  hd:=λz=>I.ok.hd z
  frames:=I.ok.frames
  stk:=.inl rfl
  exf:=λb hb=>⟨lt b _ (hfp b hb).2.choose_spec,λy c e=>(hfp b hb).1.2.2.2.2.1 y c (h1 y c e)⟩
  bs:=λb o e=>I.bs b o e
  bsz:=D1 I.ok.bsz I.sz
  noex:=λb o e hb=>by
   rcases (hfp b hb).1.2.2.2.1 with z | z
   ·exact I.ok.noex b o e z
   ·exact absurd (D4 (Heap.lt_size e) (D1 I.ok.bsz z)) (Ew _)
  exfs:=λb hb z=>by
   rcases sub b z with e | e
   ·exact (hfp b hb).1.2.1 e
   ·exact (hfp b hb).1.2.2.1 e
  fG:=I.stack
  frf:=I.lY }
 obtain ⟨mX,hnX,hlX⟩:=I.loc
 refine ⟨ok',rfl,I.bare,Un.kept kp,⟨m,hn,λi y v e1 e2 e3=>?_⟩,λy c e=>?_,fresh,λy c e=>I.freeC y c (h1 y c e),λp hp=>?_,I.hok.kept kp,by simp [gj,dv]⟩
 ·cases i with
  | zero =>
   rw [Ff] at e2
   cases e2
  | succ i =>
   have e1':(ks.map (·.1))[i]?=some y:=by simpa [gj] using e1
   rw [Eo] at e2
   unfold dv at e2
   rw [Eb] at e1' e2
   cases ep:ks[i]? with
   | none=>rw [ep] at e1';cases e1'
   | some p =>
    rw [ep] at e1' e2
    have ey:p.1=y:=Option.some.inj e1'
    have ev:(σ[p.2]?).getD none=some v:=Option.some.inj e2
    obtain ⟨kN,kf⟩:=kk p (Ed ep)
    have es:σ[p.2]?=some (some v):=by
     cases q:σ[p.2]? with
     | none=>rw [q] at ev;cases ev
     | some w=>rw [q] at ev;exact congrArg some ev
    have hm:(p.1,NameKind.free)∈sc.names:=by
     obtain ⟨l1,l2,q,_⟩:=Fe.mp kf
     rw [q]
     simp
    have oc:X.env.scope.names.lookup p.1=some .cell:=fr _ hm rfl
    obtain ⟨u,ru,lu⟩:=hlX p.2 p.1 v kN es (.inr (.inl oc))
    refine ⟨u,ru,.inr ⟨.inl ?_,?_⟩⟩
    ·rw [show (gj X sc cl s.heap.objs.size x ks s H fp pins).env.kindOf y=_ from kof y,e_,← ey,kf]
     have k1:X.env.kindOf p.1=some .cell:=oc
     simp [I.ok.kind,k1]
    ·obtain ⟨c,hc⟩:=h2 _ hm rfl
     have hc:cl.lookup p.1=some c:=hc
     rcases lu with ⟨z,_⟩ | ⟨_,c',hc',z⟩
     ·have z':X.env.scope.names.lookup p.1=some .local:=z
      rw [oc] at z';cases z'
     ·have:=h1 _ _ hc
      rw [hc'] at this
      cases this
      obtain ⟨o,ho,hd⟩:=z
      exact ⟨_,by rw [← ey];exact hc,o,kp _ _ ho,hd⟩
 ·obtain ⟨v,o,ho,hd⟩:=I.cell y c (h1 y c e)
  exact ⟨v,o,kp _ _ ho,hd⟩
 ·rw [EY] at hp
  obtain ⟨a1,a2,a3,a4,a5⟩:=I.pin p hp
  refine ⟨kp _ _ a1,a2,lt _ _ a1,λz=>?_,a5⟩
  rcases sub p.1 z with e | e
  ·exact a3 e
  ·exact a4 e
end
def BB (X:Cx) (ifs:List Expr) (t:TT):Prop :=
 ∀(pins:List (Addr × Obj)) (s:Shared) (σ:L2.St) (H:Hp) (Q:Bool→Hp→Prop),Inv X pins σ H s→t σ H Q →
  wpAny (model X.prog X.w) X.A (forIn ifs true λc r=>if r=true then do let ok ← isTrue c X.env (eval c X.env);pure (ForInStep.yield ok) else pure (ForInStep.yield r)) (TP X pins σ Q) X.xe s
theorem pI {X:Cx}:BB X [] (λ_ H Q=>Q true H):=λpins s σ H Q I h=>by rw [List.forIn_nil];exact wpAny_pure ⟨H,I,h⟩
section
variable {prog:Program} {w:World} {A:Around} {R:Result→Shared→Prop} {s:Shared}
theorem qE {elt iter:Expr} {ifs:List Expr} {x:Str} {px:Pos} {sc:Scope} {pos:Pos} {it acc:Value} {env:Env} (I:Nat→Shared→Prop)
  (turn:∀n s,I n s→wpAny (model prog w) A (pyNext it) (λr s₁=>match r with
   | none=>R (.ok .next) s₁
   | some v=>wpAny (model prog w) A (letOwnedTupleGo (.Name x px) it v) (λ_ s₂=>wpAny (model prog w) A (assign (.Name x px) env v) (λ_ s₃=>wpAny (model prog w) A (forIn ifs true λc r=>if r=true then do let ok ← isTrue c env (eval c env);pure (ForInStep.yield ok) else pure (ForInStep.yield r)) (λok s₃=>if ok=true then wpAny (model prog w) A (eval elt env) (λy s₄ =>
     wpAny (model prog w) A (call (.builtin "list.append") [acc,y]) (λ_ s₅=>∃m,m < n∧I m s₅) (λ_ _=>False) s₄) (λ_ _=>False) s₃ else ∃m,m < n∧I m s₃) (λ_ _=>False) s₃) (λ_ _=>False) s₂) (λ_ _=>False) s₁) (λ_ _=>False) s)
  (n:Nat) (h:I n s):codeAny (model prog w) A (.compLoop (.ListComp elt [⟨.Name x px,iter,ifs,0⟩] sc pos) 0 it acc env) R s:=by
 refine codeAny_loop rfl I (λn s hI=>?_) n h
 show wpAny _ _ ((compTurn (.ListComp elt [⟨.Name x px,iter,ifs,0⟩] sc pos) 0 it acc env).onRaise (λx=>do noteFrame x env;theTreesLotGoes x)) _ _ s
 refine wpAny_noted ?_
 rw [compTurn_list]
 have no:∀(e:Value) (s':Shared),False→notedBy (model prog w) A env (λe s'=>R (.error e) s') e s':=λ_ _ z=>z.elim
 refine wpAny_bind (wpAny_standAt (wpAny_bind (wpAny_mono (turn n s hI) (λr s₁ h₁=>?_) no)))
 cases r with
 | none=>exact wpAny_pure h₁
 | some v =>
  refine wpAny_bind (wpAny_mono h₁ (λ_ s₂ h₂=>?_) no)
  refine wpAny_bind (wpAny_mono h₂ (λ_ s₃ h₃=>wpAny_bind (wpAny_mono h₃ (λok s₃' h₃'=>?_) no)) no)
  cases ok with
  | false=>exact wpAny_pure ⟨rfl,h₃'⟩
  | true =>
   exact wpAny_bind (wpAny_bind (wpAny_mono h₃' (λy s₄ h₄=>wpAny_bind (wpAny_mono h₄ (λ_ s₅ h₅=>wpAny_pure (wpAny_pure ⟨rfl,h₅⟩)) no)) no))
end
def Bi (wi:TI) (ks:List (Str × Nat)) (tc:TT) (te:TE):TE:=λσ H Q=>wi σ H λJ H1=>∀D,H1 D=none→∃W:Nat→Nat→Hp→Prop,(∃m,W 0 m (upd H1 D (.lst []))) ∧
 ∀i m H2,W i m H2→(J.stop i H2∧Q (.ref D) H2)∨(J.go i H2∧∀v H3,J.yld i H2 v H3→tc (some v :: dv ks σ) H3 λb H4=>if b=true then te (some v :: dv ks σ) H4 λy H5=>∃ys,H5 D=some (.lst ys)∧ys.length < sizeLine∧∃m',m' < m∧W (i + 1) m' (upd H5 D (.lst (ys ++ [y]))) else ∃m',m' < m∧W (i + 1) m' H4)
section
variable {X:Cx}
theorem mR {elt iter:Expr} {ifs:List Expr} {x:Str} {px:Pos} {sc:Scope} {pos:Pos} {te:TE} {tc:TT} {ks:List (Str × Nat)} {cl:List (Str × Addr)} {pins:List (Addr × Obj)} {σ:L2.St} {H:Hp} {s:Shared} {it:Addr} {fp:List Addr} {tn:Nat→Heap→Prop} {J:It} {Q:VK}
  {RR:Value→Addr→Result→Shared→Prop} {E:Value→Shared→Prop}
  (hc:X.calm=true) (ok:bR sc X.env.scope X.N x ks) (h1:∀y c,cl.lookup y=some c→X.env.cells.lookup y=some c) (h2:∀y∈sc.names,y.2=.free→∃c,cl.lookup y.1=some c)
  (he:∀cl C s₀ H₀ fp pins,PE (gj X sc cl C x ks s₀ H₀ fp pins) elt te) (hcn:∀cl C s₀ H₀ fp pins,BB (gj X sc cl C x ks s₀ H₀ fp pins) ifs tc)
  (I:Inv X pins σ H s) (T:Turn X.prog X.w X.K (.Name x px) J fp it tn) (st:tn 0 s.heap) (f:∀b∈fp,gu X pins H b)
  (hw:∀D,H D=none→∃W:Nat→Nat→Hp→Prop,(∃m,W 0 m (upd H D (.lst [])))∧∀i m H2,W i m H2→(J.stop i H2∧Q (.ref D) H2) ∨
   (J.go i H2∧∀v H3,J.yld i H2 v H3→tc (some v :: dv ks σ) H3 λb H4=>if b=true then te (some v :: dv ks σ) H4 λy H5=>∃ys,H5 D=some (.lst ys)∧ys.length < sizeLine∧∃m',m' < m∧W (i + 1) m' (upd H5 D (.lst (ys ++ [y]))) else ∃m',m' < m∧W (i + 1) m' H4))
  (hR:∀(D C:Addr) (s':Shared) (H':Hp) (m:Str→Option Value),Inv X pins σ H' s'→Q (.ref D) H'→s'.heap.Ns C m→H' C=none→C≠X.env.locals→X.s₀.heap.objs.size≤C→(∀y c,X.env.cells.lookup y=some c→c≠C)→(∀p∈X.pn ++ pins,p.1≠C)→RR (.ref D) C (.ok .next) s') :
  wpAny (model X.prog X.w) X.A (newList []) (λacc s₃=>wpAny (model X.prog X.w) X.A (newFunctionEnv sc X.env.globals cl [] X.env.qual none .none (some X.env)) (λcenv s₄ =>
   codeAny (model X.prog X.w) X.A (.compStart (.ListComp elt [⟨.Name x px,iter,ifs,0⟩] sc pos) 0 (.ref it) acc { cenv with scope:=relabel sc X.env }) (RR acc cenv.locals) s₄) E s₃) E s:=by
 have okk:=ok
 obtain ⟨kd,nc,lx,ll,fr,kk,nd⟩:=okk
 have hD0:H s.heap.objs.size=none:=I.hok.fresh (D5 _)
 obtain ⟨W,⟨m0,w0⟩,turn⟩:=hw s.heap.objs.size hD0
 refine wpAny_newObj_type ?_
 have I3:Inv X pins σ (upd H s.heap.objs.size (.lst [])) { s with heap:=s.heap.push { cls:=.type "list",dict:=none,data:=.seq ([]:List Value).toArray } } :=
  I.laid (t':=s.toks) (λb u e=>Heap.get?_push_of_some _ e) (D5 _) (show bJ X.prog X.w _ _ _ (.lst []) from ⟨Ex _,[],0,.nil,Heap.get?_push_size _ rfl⟩)
 have st3:tn 0 (s.heap.push { cls:=.type "list",dict:=none,data:=.seq ([]:List Value).toArray }):=T.keep 0 _ _ st λb hb o e=>Heap.get?_push_of_some _ e
 generalize hD:s.heap.objs.size=D at *
 generalize hH:upd H D (.lst [])=H3 at *
 generalize hs3:({ s with heap:=s.heap.push { cls:=.type "list",dict:=none,data:=.seq ([]:List Value).toArray } }:Shared)=s3 at *
 have e3:s.heap.push { cls:=.type "list",dict:=none,data:=.seq ([]:List Value).toArray }=s3.heap:=by rw [← hs3]
 rw [e3] at st3
 have fD:∀b∈fp,b≠D:=λb hb z=>by
  obtain ⟨o,ho,_⟩:=T.obj 0 _ st b hb
  have:=Heap.lt_size ho
  rw [z,← hD] at this
  exact Ew _ this
 have f3:∀b∈fp,gu X pins H3 b:=λb hb=>⟨by rw [← hH,aB (fD b hb)];exact (f b hb).1,(f b hb).2⟩
 have g3:∀b∈fp,∃o,s3.heap.get? b=some o:=λb hb=>by
  obtain ⟨o,ho,_⟩:=T.obj 0 _ st3 b hb
  exact ⟨o,ho⟩
 refine wpAny_newFunctionEnv nc (by intro y hy;simp at hy) (λh₁ hns hsb=>?_) kd
 have kp:∀b o,s3.heap.get? b=some o→h₁.get? b=some o:=λb o e=>hsb.extBut b o (Ej (Heap.lt_size e)) (Heap.get?_push_of_some _ e)
 have J0:=mw (fp:=fp) (cl:=cl) (t':=s3.toks + ([]:List (Str × Value)).length) I3 ok h1 h2 (λb hb=>⟨f3 b hb,g3 b hb⟩) hns kp
 have st4:tn 0 h₁:=T.keep 0 _ _ st3 λb hb o e=>kp b o e
 have ltC:∀b o,s3.heap.get? b=some o→b≠s3.heap.objs.size:=λb o e=>Ej (Heap.lt_size e)
 have cC:∀y c,X.env.cells.lookup y=some c→c≠s3.heap.objs.size:=λy c e=>by
  obtain ⟨v,o,ho,_⟩:=I3.cell y c e
  exact ltC c o ho
 have pC:∀p∈X.pn ++ pins,p.1≠s3.heap.objs.size:=λp hp=>ltC _ _ (I3.pin p hp).1
 have lC:s3.heap.objs.size≠X.env.locals:=Fm I3.lt
 have fX:∀{H':Hp},(∀b∈fp,H' b=none)→∀b∈fp,gu (gj X sc cl s3.heap.objs.size x ks s3 H3 fp pins) [] H' b:=λhn b hb=>by
  obtain ⟨o,ho⟩:=g3 b hb
  obtain ⟨_,q1,q2,q3,q4,q5⟩:=f b hb
  refine ⟨hn b hb,ltC b o ho,λz=>?_,.inl hb,λy c e=>q4 y c (h1 y c e),λp hp=>q5 p (by simpa [gj] using hp)⟩
  rcases D6.mp (I3.fi b z) with e | e
  ·exact q1 e
  ·exact q2 e
 have back:∀{o:Option V} {H':Hp} {s':Shared},Inv (gj X sc cl s3.heap.objs.size x ks s3 H3 fp pins) [] (o :: dv ks σ) H' s'→Inv X pins σ H' s':=λ{o H' s'} J=>by
  obtain ⟨hh,g,d,t,os'⟩:=s'
  obtain rfl:os'=s3.os:=J.os
  exact I3.call (h':=hh) (g':=g) (d':=d) (t':=t) (ch:=fp) J.base J.hok J.bare λb hb=>⟨(f b hb).2.2.2.1,(f b hb).2.1,(f b hb).2.2.2.2.1,(f b hb).2.2.2.2.2⟩
 have lookX:(relabel sc X.env).names.lookup x=some .local:=lookup_relabel_local lx
 have loop:∀s',(∃(i:Nat) (o:Option V) (H':Hp),Inv (gj X sc cl s3.heap.objs.size x ks s3 H3 fp pins) [] (o :: dv ks σ) H' s'∧tn i s'.heap∧(∀b∈fp,H' b=none)∧W i m0 H') →
   codeAny (model X.prog X.w) X.A (.compLoop (.ListComp elt [⟨.Name x px,iter,ifs,0⟩] sc pos) 0 (.ref it) (.ref D) (compEnvC sc cl s3.heap.objs.size X.env)) (RR (.ref D) s3.heap.objs.size) s':=by
  intro s' hs'
  refine qE (λn s'=>∃(i:Nat) (o:Option V) (H':Hp),Inv (gj X sc cl s3.heap.objs.size x ks s3 H3 fp pins) [] (o :: dv ks σ) H' s'∧tn i s'.heap∧(∀b∈fp,H' b=none)∧W i n H') ?_ m0 hs'
  rintro n s5 ⟨i,o,H5,J5,t5,n5,w5⟩
  rcases turn i n H5 w5 with ⟨stop,hq⟩ | ⟨go,step⟩
  ·refine bA (T.done (gj X sc cl s3.heap.objs.size x ks s3 H3 fp pins) rfl rfl rfl hc i [] s5 _ H5 _ J5 (fX n5) t5 stop) λr s6 ⟨hr,J6⟩=>?_
   subst hr
   obtain ⟨m,hm,_⟩:=J6.loc
   exact hR D _ s6 H5 m (back J6) hq hm J6.free lC I3.sz cC pC
  ·refine bA (T.item (gj X sc cl s3.heap.objs.size x ks s3 H3 fp pins) rfl rfl rfl hc i [] s5 _ H5 _ J5 (fX n5) t5 go) λr s6 ⟨u,hr,h6⟩=>?_
   subst hr
   refine bA h6 λ_ s7 ⟨v,H7,J7,r7,y7,t7,n7⟩=>?_
   have J7':=J7.pinned (fX n7) (T.obj _ _ t7)
   refine wpAny_assign_Name (dy (X:=gj X sc cl s3.heap.objs.size x ks s3 H3 fp pins) (i:=0) J7' nd rfl (.inl lookX) r7 (λs8 J8=>?_) (.inr lookX))
   refine bA (hcn cl s3.heap.objs.size s3 H3 fp pins _ s8 _ H7 _ J8 (step v H7 y7)) λok s8' ⟨H8,J8',q8⟩=>?_
   cases ok with
   | false =>
    simp only [Ef,if_false] at q8 ⊢
    obtain ⟨m',hm,w'⟩:=q8
    refine ⟨m',hm,i + 1,_,_,J8'.d7,?_,?_,w'⟩
    ·exact T.keep _ _ _ t7 λb hb o e=>(J8'.pin (b,o) (D7 _ (D7 _ (bM hb e)))).1
    ·intro b hb
     obtain ⟨o,e,d⟩:=T.obj _ _ t7 b hb
     exact (J8'.pin (b,o) (D7 _ (D7 _ (bM hb e)))).2.1
   | true =>
    simp only [if_true] at q8 ⊢
    refine bA (he cl s3.heap.objs.size s3 H3 fp pins _ s8' _ H8 _ J8' q8) λy s9 ⟨vy,H9,J9,r9,ys,hys,hz,m',hm,w'⟩=>?_
    refine bA (cX (X:=gj X sc cl s3.heap.objs.size x ks s3 H3 fp pins) _ s9 _ H9 (.ref D) [vy] (.ref D) [y] (λ_ H'=>H'=upd H9 D (.lst (ys ++ [vy]))) J9 rfl (.cons r9 .nil) ⟨D,ys,vy,rfl,rfl,hys,hz,rfl⟩) λ_ s10 ⟨_,H10,J10,_,eH⟩=>?_
    subst eH
    refine ⟨m',hm,i + 1,_,_,J10.d7,?_,?_,w'⟩
    ·exact T.keep _ _ _ t7 λb hb o e=>(J10.pin (b,o) (D7 _ (D7 _ (bM hb e)))).1
    ·intro b hb
     obtain ⟨o,e,d⟩:=T.obj _ _ t7 b hb
     exact (J10.pin (b,o) (D7 _ (D7 _ (bM hb e)))).2.1
 have l0:=loop _ ⟨0,none,H3,J0,st4,λb hb=>(f3 b hb).1,w0⟩
 exact codeAny_compStart_list l0 (T.self _ 0 _ _ _ st4 l0)
theorem mM {sc osc:Scope} {N:List Str} {x:Str} {ks:List (Str × Nat)} (ok:bR sc osc N x ks) {pins:List (Addr × Obj)} {σ:L2.St} {H:Hp} {s:Shared} (I:Inv X pins σ H s) (ho:X.env.scope=osc):∀y∈sc.names,y.2=.free→∃c,X.env.cells.lookup y.1=some c:=λy hy hf =>
 I.ok.has y.1 (.inl (by show X.env.scope.names.lookup y.1=some .cell;rw [ho];exact ok.2.2.2.2.1 y hy hf))
theorem yB {elt iter:Expr} {ifs:List Expr} {x:Str} {px:Pos} {sc:Scope} {pos:Pos} {wi:TI} {te:TE} {tc:TT} (osc:Scope) (N:List Str) (ks:List (Str × Nat)) (hc:X.calm=true) (ho:X.env.scope=osc) (hN:X.N=N) (hi:PI X (.Name x px) iter wi)
  (he:∀cl C s₀ H₀ fp pins,PE (gj X sc cl C x ks s₀ H₀ fp pins) elt te) (hcn:∀cl C s₀ H₀ fp pins,BB (gj X sc cl C x ks s₀ H₀ fp pins) ifs tc) (ok:bR sc osc N x ks:=by decide +kernel) (hs:∀x,foldedSetIterable iter X.env x=pure x:=by intro _;rfl) :
  PE X (.ListComp elt [⟨.Name x px,iter,ifs,0⟩] sc pos) (Bi wi ks tc te):=by
 intro pins s σ H Q I hw
 obtain ⟨cl,hcl,h1,h2⟩:=jg (mM ok I ho)
 have ok':bR sc X.env.scope X.N x ks:=by rw [ho,hN];exact ok
 rw [eval_ListComp]
 refine wpAny_comprehension_free (use:=none) rfl hs hcl ok.1 ok.2.2.2.1 (bA (hi pins s σ H _ I hw) λv s1 h3=>bA h3 λitv s2 h4=>?_)
 obtain ⟨it,fp,tn,J,H2,rfl,I2,T,st2,f2,hR⟩:=h4
 refine mR (RR:=λacc C=>compPost (model X.prog X.w) X.A X.xe none (EP X pins σ Q) acc C) hc ok' h1 h2 he hcn I2 T st2 f2 hR ?_
 intro D C s' H' m J' q hn hC cl' cs cc cp
 refine ⟨m,hn,λh' hsb=>⟨.ref D,H',?_,rfl,q⟩⟩
 exact J'.turned (t':=s'.toks) (it:=C) (λb o ne e=>hsb.extBut b o ne e) hC cl' (.inr cs) cc cp
def Bj (wi:TI) (ks:List (Str × Nat)) (tc:TT) (te:TE) (i:Nat):TS:=λD σ H=>Bi wi ks tc te σ H λv H1=>D.nx (σ.set i (some v)) H1
theorem yE {elt iter:Expr} {ifs:List Expr} {x y:Str} {px py:Pos} {sc:Scope} {pos spos:Pos} {wi:TI} {te:TE} {tc:TT} {i:Nat} (osc:Scope) (N:List Str) (ks:List (Str × Nat)) (hc:X.calm=true) (ho:X.env.scope=osc) (hN:X.N=N) (hnd:X.N.Nodup) (hy:X.N[i]?=some y) (hl:Loc X.env.scope y)
  (hi:PI X (.Name x px) iter wi) (he:∀cl C s₀ H₀ fp pins,PE (gj X sc cl C x ks s₀ H₀ fp pins) elt te) (hcn:∀cl C s₀ H₀ fp pins,BB (gj X sc cl C x ks s₀ H₀ fp pins) ifs tc) (ok:bR sc osc N x ks:=by decide +kernel) (hs:∀x,foldedSetIterable iter X.env x=pure x:=by intro _;rfl)
  (hsw:swapsWith (.ListComp elt [⟨.Name x px,iter,ifs,0⟩] sc pos) (some (.Name y py)) spos.line X.env=pure true:=by rfl) (hf:X.fn y=true∨X.env.scope.names.lookup y=some .local:=by first | exact .inl rfl | exact .inr rfl | assumption) :
  PS X (.Assign [.Name y py] (.ListComp elt [⟨.Name x px,iter,ifs,0⟩] sc pos) spos) (Bj wi ks tc te i):=by
 intro pins s σ H Dn I hw
 obtain ⟨cl,hcl,h1,h2⟩:=jg (mM ok I ho)
 have ok':bR sc X.env.scope X.N x ks:=by rw [ho,hN];exact ok
 rw [exec_Assign_Name_used _ _ _ _ hsw]
 refine wpAny_bind (wpAny_standAt (wpAny_bind ?_))
 show wpAny _ X.A (do let _ ← comprehension (.ListComp elt [⟨.Name x px,iter,ifs,0⟩] sc pos) sc X.env _ (newList []) false (eval iter X.env) (some (assign (.Name y py) X.env))) _ _ s
 refine wpAny_bind (wpAny_mono (wpAny_comprehension_free (use:=some (assign (.Name y py) X.env)) (Q:=λ_ s'=>SP X pins Dn .next s') rfl hs hcl ok.1 ok.2.2.2.1
  (bA (hi pins s σ H _ I hw) λv s1 h3=>bA h3 λitv s2 h4=>?_)) (λ_ s' hq=>wpAny_pure (wpAny_pure hq)) λ_ _ e=>e)
 obtain ⟨it,fp,tn,J,H2,rfl,I2,T,st2,f2,hR⟩:=h4
 refine mR (Q:=λv H1=>Dn.nx (σ.set i (some v)) H1) (RR:=λacc C=>compPost (model X.prog X.w) X.A X.xe (some (assign (.Name y py) X.env)) (λ_ s'=>SP X pins Dn .next s') acc C) hc ok' h1 h2 he hcn I2 T st2 f2 hR ?_
 intro D C s' H' m J' q hn hC cl' cs cc cp
 show wpAny _ X.A (assign (.Name y py) X.env (.ref D)) _ _ _
 refine wpAny_assign_Name (kL J' hnd hy hl (v:=.ref D) rfl (λs'' J'' ⟨a,hsb,ha⟩=>?_) hf)
 refine ⟨m,hn.sameBut hsb (λz=>?_),λh' hsb'=>⟨_,H',?_,q⟩⟩
 ·rcases ha with e | e
  ·exact cl' (z.trans e)
  ·exact cc _ _ e z.symm
 ·exact J''.turned (t':=s''.toks) (it:=C) (λb o ne e=>hsb'.extBut b o ne e) hC cl' (.inr cs) cc cp
def zx (wi:TI) (ks:List (Str × Nat)) (te:TE):TE:=λσ H Q=>wi σ H λJ H1=>∀D,H1 D=none→∃W:Nat→Nat→Hp→Prop,(∃m,W 0 m (upd H1 D (.lst []))) ∧
 ∀i m H2,W i m H2→(J.stop i H2∧Q (.ref D) H2)∨(J.go i H2∧∀v H3,J.yld i H2 v H3→te (some v :: dv ks σ) H3 λy H4=>∃ys,H4 D=some (.lst ys)∧ys.length < sizeLine∧∃m',m' < m∧W (i + 1) m' (upd H4 D (.lst (ys ++ [y]))))
theorem wK {elt iter:Expr} {x:Str} {px:Pos} {sc:Scope} {pos:Pos} {wi:TI} {te:TE} (osc:Scope) (N:List Str) (ks:List (Str × Nat)) (hc:X.calm=true) (ho:X.env.scope=osc) (hN:X.N=N) (hi:PI X (.Name x px) iter wi)
  (he:∀cl C s₀ H₀ fp pins,PE (gj X sc cl C x ks s₀ H₀ fp pins) elt te) (ok:bR sc osc N x ks:=by decide +kernel) (hs:∀x,foldedSetIterable iter X.env x=pure x:=by intro _;rfl) :
  PE X (.ListComp elt [⟨.Name x px,iter,[],0⟩] sc pos) (zx wi ks te):=λpins s σ H Q I hw=>yB osc N ks hc ho hN hi he (λ_ _ _ _ _ _=>pI) ok hs pins s σ H Q I hw
def y6 (wi:TI) (ks:List (Str × Nat)) (te:TE) (i:Nat):TS:=λD σ H=>zx wi ks te σ H λv H1=>D.nx (σ.set i (some v)) H1
theorem AH {elt iter:Expr} {x y:Str} {px py:Pos} {sc:Scope} {pos spos:Pos} {wi:TI} {te:TE} {i:Nat} (osc:Scope) (N:List Str) (ks:List (Str × Nat)) (hc:X.calm=true) (ho:X.env.scope=osc) (hN:X.N=N) (hnd:X.N.Nodup) (hy:X.N[i]?=some y) (hl:Loc X.env.scope y)
  (hi:PI X (.Name x px) iter wi) (he:∀cl C s₀ H₀ fp pins,PE (gj X sc cl C x ks s₀ H₀ fp pins) elt te) (ok:bR sc osc N x ks:=by decide +kernel) (hs:∀x,foldedSetIterable iter X.env x=pure x:=by intro _;rfl)
  (hsw:swapsWith (.ListComp elt [⟨.Name x px,iter,[],0⟩] sc pos) (some (.Name y py)) spos.line X.env=pure true:=by rfl) (hf:X.fn y=true∨X.env.scope.names.lookup y=some .local:=by first | exact .inl rfl | exact .inr rfl | assumption) :
  PS X (.Assign [.Name y py] (.ListComp elt [⟨.Name x px,iter,[],0⟩] sc pos) spos) (y6 wi ks te i):=λpins s σ H D I hw=>yE osc N ks hc ho hN hnd hy hl hi he (λ_ _ _ _ _ _=>pI) ok hs hsw hf pins s σ H D I hw
end
theorem vb {K:PySem.W.Frag} {a D:Addr} {xs:List V} {H:Hp} {te:TE} {ks:List (Str × Nat)} {σ:L2.St} {q:Hp→Prop} (Pv:Nat→Hp→Prop) (h0:Pv 0 (upd H D (.lst []))) (hl:∀i H,i≤xs.length→Pv i H→bO K H a xs)
  (hs:∀i x H (R:VK),xs[i]?=some x→Pv i H→(∀y H4 ys,H4 D=some (.lst ys)→ys.length < sizeLine→Pv (i + 1) (upd H4 D (.lst (ys ++ [y])))→R y H4)→te (some x :: dv ks σ) H R) (hd:∀H,Pv xs.length H→q H) :
  ∃W:Nat→Nat→Hp→Prop,(∃m,W 0 m (upd H D (.lst [])))∧∀i m H2,W i m H2→((uC K a).stop i H2∧q H2) ∨
   ((uC K a).go i H2∧∀v H3,(uC K a).yld i H2 v H3→te (some v :: dv ks σ) H3 λy H4=>∃ys,H4 D=some (.lst ys)∧ys.length < sizeLine∧∃m',m' < m∧W (i + 1) m' (upd H4 D (.lst (ys ++ [y])))):=by
 refine ⟨λi m H=>m=xs.length - i∧i≤xs.length∧Pv i H,⟨xs.length,by simp,Ex _,h0⟩,?_⟩
 rintro i m H2 ⟨rfl,hi,p⟩
 have hq:=hl i H2 hi p
 by_cases hlt:i < xs.length
 ·refine .inr ⟨⟨xs,xs[i],hq,by simp [hlt]⟩,λv H3 y=>?_⟩
  obtain ⟨e,y⟩:=y
  subst e
  exact hs i v _ _ (y xs hq) p λy H4 ys e1 e2 e3=>⟨ys,e1,e2,xs.length - (i + 1),by omega,rfl,hlt,e3⟩
 ·have e:i=xs.length:=by omega
  subst e
  exact .inl ⟨⟨xs,hq,D5 _⟩,hd H2 p⟩
theorem sI {lo:Int} {n:Nat} {D:Addr} {H:Hp} {te:TE} {ks:List (Str × Nat)} {σ:L2.St} {q:Hp→Prop} (Pv:Nat→Hp→Prop) (h0:Pv 0 (upd H D (.lst [])))
  (hs:∀i H (R:VK),i < n→Pv i H→(∀y H4 ys,H4 D=some (.lst ys)→ys.length < sizeLine→Pv (i + 1) (upd H4 D (.lst (ys ++ [y])))→R y H4)→te (some (.int (lo + i)) :: dv ks σ) H R) (hd:∀H,Pv n H→q H) :
  ∃W:Nat→Nat→Hp→Prop,(∃m,W 0 m (upd H D (.lst [])))∧∀i m H2,W i m H2→((rF lo n).stop i H2∧q H2) ∨
   ((rF lo n).go i H2∧∀v H3,(rF lo n).yld i H2 v H3→te (some v :: dv ks σ) H3 λy H4=>∃ys,H4 D=some (.lst ys)∧ys.length < sizeLine∧∃m',m' < m∧W (i + 1) m' (upd H4 D (.lst (ys ++ [y])))):=by
 refine ⟨λi m H=>m=n - i∧i≤n∧Pv i H,⟨n,by simp,Ex _,h0⟩,?_⟩
 rintro i m H2 ⟨rfl,hi,p⟩
 by_cases hlt:i < n
 ·refine .inr ⟨hlt,λv H3 y=>?_⟩
  obtain ⟨e,y⟩:=y
  subst e y
  exact hs i _ _ hlt p λy H4 ys e1 e2 e3=>⟨ys,e1,e2,n - (i + 1),by omega,rfl,hlt,e3⟩
 ·have e:i=n:=by omega
  subst e
  exact .inl ⟨D5 _,hd H2 p⟩
def one (c:Nat):Str:=⟨#[c]⟩
theorem kz:∀(cs:List Nat) (acc:Array Nat),(cs.map one).foldl (λacc (p:Str)=>acc ++ (Str.ofString "").cps ++ p.cps) acc=acc ++ cs.toArray
 | [],acc=>by simp
 | c :: cs,acc=>by
  have e:(Str.ofString "").cps=#[]:=by decide +kernel
  rw [D_,Fp,kz cs]
  rw [e]
  show (acc ++ #[] ++ #[c]) ++ cs.toArray=_
  simp
theorem join_ones (cs:List Nat):Txt.join (Str.ofString "") (cs.map one)=⟨cs.toArray⟩:=by
 unfold Txt.join Builtin.Str.glued
 cases cs with
 | nil=>rfl
 | cons c cs =>
  simp only [D_,List.drop_succ_cons,List.drop_zero,List.headD_cons]
  rw [kz]
  show (⟨#[c] ++ cs.toArray⟩:Str)=_
  simp
theorem jR:∀{ys:List Str} {us:List Value},Vals (ys.map V.str) us→StrsAre us ys
 | [],_,.nil=>.nil
 | y :: ys,_,.cons r rr=>by
  obtain ⟨t,rfl⟩:=r
  exact .cons y t (jR rr)
section
variable {X:Cx}
def rJoin (K:PySem.W.Frag):V→List V→Hp→VK→Prop:=λx vs H Q=>∃z p ys,x=.str z∧vs=[.ref p]∧bO K H p (ys.map V.str)∧(ys.map (·.length)).sum + ys.length * z.length≤16777216∧Q (.str (Txt.join z ys)) H
theorem pj:hU X "str.join" (rJoin X.K):=by
 intro pins s σ H x vs v us Q I rx rv h
 obtain ⟨z,p,ys,rfl,rfl,hp,hz,q⟩:=h
 obtain ⟨t,rfl⟩:=rx
 obtain ⟨u,rfl,ru⟩:=vals1 rv
 cases ru
 obtain ⟨aQ,r,pl,_⟩:=I.list hp
 exact join_list pl.isList (by simpa using jR r) hz λt' k=>⟨.str _,H,I.tok _,⟨_,rfl⟩,q⟩
end
def kW:Expr→Option V
 | .Constant (.int i) _ _=>some (.int i)
 | .Constant (.str x) _ _=>some (.str x)
 | .Constant (.bool b) _ _=>some (.bl b)
 | _=>none
theorem jA {X:Cx}:∀{es:List Expr} (vs:List V),es.map kW=vs.map some→PA X es (λ_ H Q=>Q vs H)
 | [],[],_=>λ_ _ _ _ H Q I h=>Calls.spliced_nil ⟨[],H,I,.nil,h⟩
 | [],_ :: _,h=>by cases h
 | _ :: _,[],h=>by cases h
 | e :: es,v :: vs,h=>by
  rw [D_,D_] at h
  injection h with h1 h2
  have ih:=jA (X:=X) (es:=es) vs h2
  have hs:starEach (e :: es) X.env=(false,eval e X.env) :: starEach es X.env:=by
   cases e <;> first | rfl | cases h1
  have he:PE X e (tC v):=by
   cases e with
   | Constant c j pos =>
    cases c with
    | int i=>cases h1;exact aJ
    | str x=>cases h1;exact fV
    | bool b=>cases h1;exact mO
    | _=>cases h1
   | _=>cases h1
  exact λpos pins s σ H Q I hq=>ak he ih hs pos pins s σ H Q I hq
end Ov
namespace Ov
open PySem PySem.Spec PyProof.Rows
open L2 (V HO Hp Inv Cx St VK TE TT TA TS TG jW TI TO dA Ends jc Loc Gl Rd RelV Vals cn jb aZ gh h8 hU dQ R2 oF tC uh BM qb tB ug Bk vY p7 Bl p_ BK v7 q_ oE cq vW jT BJ m_ vZ iB zT wx zU uT vX lZ y4 o8 xU o9 o_ v3 xf p8 Bg y3 p9 v5 y8 i2 qa BL upd E0 bj bf)
structure QE (X:Cx) (e:Expr) (t:TE):Prop where
 run:L2.PE X e t
structure QT (X:Cx) (e:Expr) (t:TT):Prop where
 run:L2.PT X e t
structure QW (X:Cx) (e:Expr) (t:TT):Prop where
 run:L2.PW X e t
structure QA (X:Cx) (es:List Expr) (t:TA):Prop where
 run:L2.PA X es t
structure QS (X:Cx) (st:Stmt) (t:TS):Prop where
 run:L2.PS X st t
structure QB (X:Cx) (st:List Stmt) (t:TS):Prop where
 run:L2.j3 X st t
structure QG (X:Cx) (e:Expr) (t:TG):Prop where
 run:L2.PG X e t
structure QI (X:Cx) (tg e:Expr) (t:TI):Prop where
 run:L2.PI X tg e t
structure QO (X:Cx) (e:Option Expr) (t:TO):Prop where
 run:L2.PO X e t
section
variable {X:Cx} {a b c e o:Expr} {es rest:List Expr} {ta tb te tc to:TE} {tA tB':TT} {t:TA} {pos px p p2 apos cpos:Pos} {x:Str} {i j:Nat}
theorem pv (i:Nat) {x:Str} {pos:Pos} (hN:X.N[i]?=some x:=by rfl) (hv:jc X.env.scope x:=by first | exact Or.inl rfl | exact Or.inr (Or.inl rfl) | exact Or.inr (Or.inr rfl)) (hd:(x == ("__debug__":Str))=false:=by decide)
  (hcd:(x == ("__classdict__":Str))=false:=by decide):QE X (.Name x pos) (oF i):=⟨L2.nZ hN hv hd hcd⟩
theorem aJ {i:Int} {j pos}:QE X (.Constant (.int i) j pos) (tC (.int i)):=⟨L2.aJ⟩
theorem mO {b:Bool} {j pos}:QE X (.Constant (.bool b) j pos) (tC (.bl b)):=⟨L2.mO⟩
theorem nW {j pos}:QE X (.Constant .none j pos) (tC .non):=⟨L2.nW⟩
theorem fV {x:Str} {j pos}:QE X (.Constant (.str x) j pos) (tC (.str x)):=⟨L2.fV⟩
theorem bI {v:V} {u:Value} (hg:Gl X x) (hm:X.mg x=some u) (r:RelV v u) (hd:(x == ("__debug__":Str))=false:=by decide):QE X (.Name x pos) (tC v):=⟨L2.bI hg hm r hd⟩
theorem iV {v:V} {u:Value} (hg:Gl X x) (hm:X.mg x=none) (hv:bootBuiltins x=some u) (r:RelV v u) (hn:x≠"__name__":=by decide) (hd:(x == ("__debug__":Str))=false:=by decide):QE X (.Name x pos) (tC v):=⟨L2.iV hg hm hv r hn hd⟩
theorem bc {op:Operator} {r:R2} (ho:cn X (binaryOp op) r) (ha:QE X a ta) (hb:QE X b tb):QE X (.BinOp a op b pos) (uh r ta tb):=⟨L2.bc ho ha.run hb.run⟩
theorem tF {op:UnaryOp} {r:V→Hp→VK→Prop} (ho:jb X (unaryOp op) r) (ha:QE X a ta):QE X (.UnaryOp op a pos) (BM r ta):=⟨L2.tF ho ha.run⟩
theorem lI {op:CmpOp} {r:R2} (ho:cn X (compareOp op) r) (ha:QE X a ta) (hb:QE X b tb) (hm:behindInMarks op b=false):QE X (.Compare a [op] [b] pos) (uh r ta tb):=⟨L2.lI ho ha.run hb.run hm⟩
theorem bX {op:CmpOp} {r:R2} (ho:cn X (compareOp op) r) (ha:QE X a ta) (hb:QE X b tb) (hm:behindInMarks op b=false):QT X (.Compare a [op] [b] pos) (qb (uh r ta tb)):=⟨L2.bX ho ha.run hb.run hm⟩
theorem nY {op} (h:QE X a ta):QE X (.BoolOp op [a] pos) ta:=⟨L2.nY h.run⟩
theorem nU (ha:QE X a ta) (hb:QE X (.BoolOp .And (b :: rest) pos) tb):QE X (.BoolOp .And (a :: b :: rest) pos) (p7 ta tb):=⟨L2.nU ha.run hb.run⟩
theorem nX (ha:QE X a ta):QE X (.UnaryOp .Not a pos) (p_ ta):=⟨L2.nX ha.run⟩
theorem n8 (ha:QT X a tA):QT X (.UnaryOp .Not a pos) (vY tA):=⟨L2.n8 ha.run⟩
theorem iX (ha:QT X a tA):QW X (.BoolOp .And [a] pos) tA:=⟨L2.iX ha.run⟩
theorem lO (ha:QT X a tA):QW X (.BoolOp .Or [a] pos) tA:=⟨L2.lO ha.run⟩
theorem lN (ha:QT X a tA) (hb:QW X (.BoolOp .And (b :: rest) pos) tB'):QW X (.BoolOp .And (a :: b :: rest) pos) (ug tA tB'):=⟨L2.lN ha.run hb.run⟩
theorem pM (ha:QT X a tA) (hb:QW X (.BoolOp .Or (b :: rest) pos) tB'):QW X (.BoolOp .Or (a :: b :: rest) pos) (Bk tA tB'):=⟨L2.pM ha.run hb.run⟩
theorem wN (h:QW X e tA):QT X e tA:=⟨h.run.pt⟩
theorem n9 (h:QE X e te) (he:∀whole,isTrue e X.env whole=(do let v ← whole;standAt e.pos;holding [v] (truthy v)):=by intro _;rfl):QT X e (tB te):=⟨L2.n9 h.run he⟩
theorem jC (hc:QT X c tA) (ha:QE X a ta) (hb:QE X b tb):QE X (.IfExp c a b pos) (BK tA ta tb):=⟨L2.jC hc.run ha.run hb.run⟩
theorem aL:QA X [] oE:=⟨L2.aL⟩
theorem ak (ha:QE X e te) (hr:QA X es t) (hs:starEach (e :: es) X.env=(false,eval e X.env) :: starEach es X.env:=by rfl):QA X (e :: es) (cq te t):=⟨L2.ak ha.run hr.run hs⟩
theorem tw {es:List Expr} (vs:List V) (h:es.map kW=vs.map some):QA X es (λ_ H Q=>Q vs H):=⟨jA vs h⟩
theorem lJ {x1} (h:QA X es t):QE X (.Tuple es x1 pos) (v7 t):=⟨L2.lJ h.run⟩
theorem eB (h:QA X es t):QE X (.List es pos) (q_ t):=⟨L2.eB h.run⟩
theorem dI {r:R2} (hr:gh X r) (ha:QE X a ta) (hb:QE X b tb) (hs:bf b):QE X (.Subscript a b pos) (uh r ta tb):=⟨L2.dI hr ha.run hb.run hs⟩
theorem iW:QO X none i2:=⟨L2.iW⟩
theorem fw (h:QE X e te):QO X (some e) (qa te):=⟨L2.fw h.run⟩
theorem eX {lo hi:Option Expr} {tl th:TO} {r:V→Option Int→Option Int→Hp→VK→Prop} (hr:h8 X r) (he:QE X e te) (hl:QO X lo tl) (hu:QO X hi th):QE X (.Subscript e (.Slice lo hi none p2) pos) (BL r te tl th):=⟨L2.eX hr he.run hl.run hu.run⟩
theorem aO {id:String} {r:List V→Hp→VK→Prop} (hc:aZ X (.builtin id) r) (hg:Gl X x) (hm:X.mg x=none) (hv:bootBuiltins x=some (.builtin id)) (ha:QA X (e :: es) t) (hn:x≠"__name__":=by decide) (hdb:(x == ("__debug__":Str))=false:=by decide)
  (he:starEach (e :: es) X.env=(false,eval e X.env) :: starEach es X.env:=by rfl) (hpl:(backTo pos (starEach es X.env)).any (·.1)=false:=by rfl):QE X (.Call (.Name x p) (e :: es) [] pos) (vW r t):=⟨L2.aO hc hg hm hv ha.run hn hdb he hpl⟩
theorem ij {T:String} {r:List V→Hp→VK→Prop} (hc:aZ X (.type T) r) (hg:Gl X x) (hm:X.mg x=none) (hv:bootBuiltins x=some (.type T)) (ha:QA X (e :: es) t) (hn:x≠"__name__":=by decide) (hdb:(x == ("__debug__":Str))=false:=by decide)
  (he:starEach (e :: es) X.env=(false,eval e X.env) :: starEach es X.env:=by rfl) (hpl:(backTo pos (starEach es X.env)).any (·.1)=false:=by rfl):QE X (.Call (.Name x p) (e :: es) [] pos) (vW r t):=⟨L2.ij hc hg hm hv ha.run hn hdb he hpl⟩
theorem AF {k k':Nat} {ps:List Str} {sp:L2.Sp} (C:qg X.prog X.w X.K X.mg X.base k x ps sp) (hr:bj k' X.A) (hk:k≤k') (hg:Gl X x) (ha:QA X (e :: es) t)
  (hdb:(x == ("__debug__":Str))=false:=by decide) (he:starEach (e :: es) X.env=(false,eval e X.env) :: starEach es X.env:=by rfl) (hpl:(backTo pos (starEach es X.env)).any (·.1)=false:=by rfl) :
  QE X (.Call (.Name x p) (e :: es) [] pos) (jT sp [] E0 t):=⟨yA C hr hk hg ha.run hdb he hpl⟩
theorem jB {name:Str} {T id:String} {r:V→List V→Hp→VK→Prop} (pa:PlainAttrs T) (slot:Slot T name id) (hty:typeOf (.builtin id)=pure (.type "method_descriptor")) (hm:hU X id r) (ho:QE X o to) (ha:QA X (e :: es) t)
  (hbase:attributeBase o name X.env (eval o X.env)=eval o X.env:=by rfl)
  (hfew:((backTo cpos (starEach (e :: es) X.env)).all (λx=>!x.1) && (backToKw cpos (keywordEach [] X.env)).all (λx=>x.1.isSome)
   && decide ((e :: es).length + ([]:List Keyword).length + (if ([]:List Keyword).isEmpty then 0 else 1) < 30))=true:=by rfl)
  (hline:(apos.endLine == cpos.line)=true:=by rfl) (hs:starEach (e :: es) X.env=(false,eval e X.env) :: starEach es X.env:=by rfl) (hplain:(backTo cpos (starEach es X.env)).any (·.1)=false:=by rfl) :
  QE X (.Call (.Attribute o name apos) (e :: es) [] cpos) (BJ X.K T r to t):=⟨L2.jB pa slot hty hm ho.run ha.run hbase hfew hline hs hplain⟩
end
section
variable {X:Cx} {st:Stmt} {rest:List Stmt} {t u:TS} {e tg:Expr} {es:List Expr} {te:TE} {pos:Pos} {g:TG}
theorem dM:QB X [] p9:=⟨L2.dM⟩
theorem aG (h1:QS X st t) (h2:QB X rest u):QB X (st :: rest) (v5 t u):=⟨L2.aG h1.run h2.run⟩
theorem bh (h1:QS X st t):QB X [st] t:=⟨L2.bh h1.run⟩
theorem tJ (h1:QS X st t) (h2:QB X rest u):QB X (st :: rest) (Bh t u):=⟨vG h1.run h2.run⟩
theorem fx (he:QE X e te) (hs:swapsWith e none pos.line X.env=pure false:=by rfl):QS X (.Expr e pos) (p8 te):=⟨L2.fx he.run hs⟩
theorem cD (he:QE X e te):QS X (.Return (some e) pos) (v3 te):=⟨L2.cD he.run⟩
theorem iE {c:Expr} {a b:List Stmt} {tc:TT} (hc:QT X c tc) (ha:QB X a t) (hb:QB X b u):QS X (.If c a b pos) (vX tc t u):=⟨L2.iE hc.run ha.run hb.run⟩
theorem gU {c:Expr} {body:List Stmt} {tc:TT} {tb:TS} (hp:PassesOwn (model X.prog X.w) X.A X.env X.xe) (hc:QT X c tc) (hb:QB X body tb):QS X (.While c body [] pos) (lZ tc tb):=⟨L2.gU hp hc.run hb.run⟩
theorem fv {i:Nat} {x:Str} (hN:X.N.Nodup) (hi:X.N[i]?=some x) (hx:Loc X.env.scope x) (hf:X.fn x=true∨X.env.scope.names.lookup x=some .local:=by first | exact .inl rfl | exact .inr rfl | assumption):QG X (.Name x pos) (iB i):=⟨L2.fv hN hi hx hf⟩
theorem n1 {o i:Expr} {to ti:TE} {t:dA} (ho:QE X o to) (hi:QE X i ti) (hs:dQ X t)
  (ha:∀v,assign (.Subscript o i pos) X.env v=(do
   let ov ← holding [v] (eval o X.env)
   let iv ← holding [v,ov] (eval i X.env)
   standAt pos
   holding [v,ov,iv] (setItem ov iv v)
   release [v,ov,iv] []):=by intro _;rfl):QG X (.Subscript o i pos) (uT to ti t):=⟨L2.n1 ho.run hi.run hs ha⟩
theorem n6 {tg e:Expr} (he:QE X e te) (hg:QG X tg g) (hs:swapsWithSole [tg] e pos.line X.env=pure false:=by rfl) (hw:swappedStores [tg] e X.env=pure none:=by rfl)
  (h1:(assignEach [tg] X.env).map (·.2)=[assign tg X.env]:=by rfl):QS X (.Assign [tg] e pos) (m_ te g):=⟨L2.n6 he.run hg.run hs hw h1⟩
theorem bG {i:Nat} {x:Str} {pos':Pos} (hN:X.N.Nodup) (hi:X.N[i]?=some x) (hx:Loc X.env.scope x) (he:QE X e te) (hs:swapsWith e (some (.Name x pos')) pos.line X.env=pure false:=by rfl) (hf:X.fn x=true∨X.env.scope.names.lookup x=some .local:=by first | exact .inl rfl | exact .inr rfl | assumption) :
  QS X (.Assign [.Name x pos'] e pos) (m_ te (iB i)):=⟨L2.bG hN hi hx he.run hs hf⟩
theorem ip {i j:Nat} {x y:Str} {a b:Expr} {ta:TA} {px py pt:Pos} {kt k2 pt2} (hc:X.calm=true) (hN:X.N.Nodup) (hi:X.N[i]?=some x) (hj:X.N[j]?=some y) (hij:i≠j)
  (hx:X.env.scope.names.lookup x=some .local) (hy:X.env.scope.names.lookup y=some .local) (ha:QA X [a,b] ta)
  (hw:swappedStores [.Tuple [.Name x px,.Name y py] kt pt] (.Tuple [a,b] k2 pt2) X.env=pure (some [x,y]))
  (hs:swapsWithSole [.Tuple [.Name x px,.Name y py] kt pt] (.Tuple [a,b] k2 pt2) pos.line X.env=pure false:=by rfl) :
  QS X (.Assign [.Tuple [.Name x px,.Name y py] kt pt] (.Tuple [a,b] k2 pt2) pos) (vZ i j ta):=⟨L2.ip hc hN hi hj hij hx hy ha.run hw hs⟩
theorem gP {l:Expr} {tl:TE} (hl:QE X l tl):QI X tg l (o8 X.K tl):=⟨L2.gP hl.run⟩
theorem n4 {l:Expr} {tl:TE} (hl:QE X l tl):QI X tg l (xU X.K tl):=⟨L2.n4 hl.run⟩
theorem cY {a:Expr} {ta:TA} {p pos:Pos} (hg:Gl X "range") (hm:X.mg "range"=none) (ha:QA X [a] ta) (hs:starEach [a] X.env=[(false,eval a X.env)]:=by rfl):QI X tg (.Call (.Name "range" p) [a] [] pos) (o9 ta):=⟨L2.cY hg hm ha.run hs⟩
theorem ik {a b:Expr} {ta:TA} {p pos:Pos} (hg:Gl X "range") (hm:X.mg "range"=none) (ha:QA X [a,b] ta) (hs:starEach [a,b] X.env=[(false,eval a X.env),(false,eval b X.env)]:=by rfl) (hs2:starEach [b] X.env=[(false,eval b X.env)]:=by rfl) :
  QI X tg (.Call (.Name "range" p) [a,b] [] pos) (o_ ta):=⟨L2.ik hg hm ha.run hs hs2⟩
theorem il {iter:Expr} {body:List Stmt} {wi:TI} {g:TG} {tb:TS} {pos:Pos} (hp:PassesOwn (model X.prog X.w) X.A X.env X.xe) (hc:X.calm=true) (hi:QI X tg iter wi) (hg:QG X tg g) (hb:QB X body tb)
  (hs:∀x,foldedSetIterable iter X.env x=pure x:=by intro _;rfl):QS X (.For tg iter body [] pos) (y4 wi g tb):=⟨L2.il hp hc hi.run hg.run hb.run hs⟩
theorem vB {elt iter:Expr} {x:Str} {px:Pos} {sc:Scope} {pos:Pos} {wi:TI} (osc:Scope) (N:List Str) (ks:List (Str × Nat)) (hc:X.calm=true) (ho:X.env.scope=osc) (hN:X.N=N) (hi:QI X (.Name x px) iter wi)
  (he:∀cl C s₀ H₀ fp pins,QE (gj X sc cl C x ks s₀ H₀ fp pins) elt te) (ok:bR sc osc N x ks:=by decide +kernel) (hs:∀x,foldedSetIterable iter X.env x=pure x:=by intro _;rfl) :
  QE X (.ListComp elt [⟨.Name x px,iter,[],0⟩] sc pos) (zx wi ks te):=⟨wK osc N ks hc ho hN hi.run (λcl C s₀ H₀ fp pins=>(he cl C s₀ H₀ fp pins).run) ok hs⟩
theorem vE {elt iter:Expr} {x y:Str} {px py:Pos} {sc:Scope} {pos spos:Pos} {wi:TI} {i:Nat} (osc:Scope) (N:List Str) (ks:List (Str × Nat)) (hc:X.calm=true) (ho:X.env.scope=osc) (hN:X.N=N) (hnd:X.N.Nodup) (hy:X.N[i]?=some y) (hl:Loc X.env.scope y)
  (hi:QI X (.Name x px) iter wi) (he:∀cl C s₀ H₀ fp pins,QE (gj X sc cl C x ks s₀ H₀ fp pins) elt te) (ok:bR sc osc N x ks:=by decide +kernel) (hs:∀x,foldedSetIterable iter X.env x=pure x:=by intro _;rfl)
  (hsw:swapsWith (.ListComp elt [⟨.Name x px,iter,[],0⟩] sc pos) (some (.Name y py)) spos.line X.env=pure true:=by rfl) (hf:X.fn y=true∨X.env.scope.names.lookup y=some .local:=by first | exact .inl rfl | exact .inr rfl | assumption) :
  QS X (.Assign [.Name y py] (.ListComp elt [⟨.Name x px,iter,[],0⟩] sc pos) spos) (y6 wi ks te i):=⟨AH osc N ks hc ho hN hnd hy hl hi.run (λcl C s₀ H₀ fp pins=>(he cl C s₀ H₀ fp pins).run) ok hs hsw hf⟩
end
end Ov
namespace Ov
open PySem PySem.Spec PyProof.Rows
open L2 (V HO Hp Inv Cx VK TE TA Vals RelV cn aZ bO R2 upd EP vals1 intsAre_of Gl)
section
variable {X:Cx}
end
end Ov
namespace Ov
open PySem PySem.Spec PyProof.Rows
open L2 (V HO Hp Inv Cx VK TE TA Vals RelV cn aZ bO dz R2 upd aN)
inductive Py where
 | non | bl (b:Bool) | int (i:Int) | str (x:Str) | tup (xs:List Py) | lst (xs:List Py)
mutual
def At (K:PySem.W.Frag) (H:Hp):Py→V→Prop
 | .non,v=>v=.non
 | .bl b,v=>v=.bl b
 | .int i,v=>v=.int i
 | .str x,v=>v=.str x
 | .tup xs,v=>∃a vs,v=.ref a∧dz K H a vs∧i6 K H xs vs
 | .lst xs,v=>∃a vs,v=.ref a∧bO K H a vs∧i6 K H xs vs
def i6 (K:PySem.W.Frag) (H:Hp):List Py→List V→Prop
 | [],vs=>vs=[]
 | x :: xs,vs=>∃v us,vs=v :: us∧At K H x v∧i6 K H xs us
end
mutual
def c_:Py→Py→Bool
 | .non,.non=>true
 | .bl a,.bl b=>a == b
 | .int a,.int b=>a == b
 | .bl a,.int b=>(if a then 1 else 0) == b
 | .int a,.bl b=>a == (if b then 1 else 0)
 | .str a,.str b=>a == b
 | .tup xs,.tup ys=>eQ xs ys
 | .lst xs,.lst ys=>eQ xs ys
 | _,_=>false
def eQ:List Py→List Py→Bool
 | [],[]=>true
 | x :: xs,y :: ys=>c_ x y && eQ xs ys
 | _,_=>false
end
mutual
def dep:Py→Nat
 | .tup xs=>bU xs + 1
 | .lst xs=>bU xs + 1
 | _=>0
def bU:List Py→Nat
 | []=>0
 | x :: xs=>max (dep x) (bU xs)
end
mutual
theorem mn:∀x:Py,c_ x x=true
 | .non=>rfl
 | .bl b=>by simp [c_]
 | .int b=>by simp [c_]
 | .str b=>by simp [c_]
 | .tup xs=>by simpa [c_] using ia xs
 | .lst xs=>by simpa [c_] using ia xs
theorem ia:∀xs:List Py,eQ xs xs=true
 | []=>rfl
 | x :: xs=>by simp [eQ,mn x,ia xs]
end
mutual
theorem At.same {K:PySem.W.Frag} {H H':Hp} (e:aN H H'):∀{x:Py} {v:V},At K H x v→At K H' x v
 | .non,_,h=>h
 | .bl _,_,h=>h
 | .int _,_,h=>h
 | .str _,_,h=>h
 | .tup xs,_,⟨a,vs,e1,h,k⟩=>⟨a,vs,e1,e.tup h,i6.same e k⟩
 | .lst xs,_,⟨a,vs,e1,h,k⟩=>⟨a,vs,e1,e.seq h,i6.same e k⟩
theorem i6.same {K:PySem.W.Frag} {H H':Hp} (e:aN H H'):∀{xs:List Py} {vs:List V},i6 K H xs vs→i6 K H' xs vs
 | [],_,h=>h
 | _ :: _,_,⟨v,us,e1,h,k⟩=>⟨v,us,e1,At.same e h,i6.same e k⟩
end
theorem i6.length {K:PySem.W.Frag} {H:Hp}:∀{xs:List Py} {vs:List V},i6 K H xs vs→xs.length=vs.length
 | [],_,h=>by cases h;rfl
 | _ :: xs,_,⟨v,us,e1,_,k⟩=>by subst e1;simp [i6.length k]
def qt (xs ys:List Py) (j:Nat):Bool:=match xs[j]?,ys[j]? with
 | some x,some y=>c_ x y
 | _,_=>false
theorem ed:∀(xs ys:List Py),((Ey (min xs.length ys.length)).all (qt xs ys) && (xs.length == ys.length))=eQ xs ys
 | [],[]=>rfl
 | [],_ :: _=>by simp [eQ]
 | _ :: _,[]=>by simp [eQ]
 | x :: xs,y :: ys=>by
  have ih:=ed xs ys
  rw [Ee,Ee,Nat.succ_min_succ,List.range_succ_eq_map,List.all_cons,List.all_map]
  have e1:(qt (x :: xs) (y :: ys) ∘ Nat.succ)=qt xs ys:=by
   funext j
   simp [qt]
  have e2:(xs.length + 1 == ys.length + 1)=(xs.length == ys.length):=by
   rw [EI]
   simp
  rw [e1,e2,Bool.and_assoc,ih]
  simp [qt,eQ]
section
variable {X:Cx} {pins:List (Addr × Obj)} {σ:L2.St} {H:Hp} {s:Shared}
mutual
theorem At.one (I:Inv X pins σ H s):∀{x y:Py} {v:V},At X.K H x v→At X.K H y v→c_ x y=true
 | .non,y,v,h,k=>by cases h;cases y <;> simp_all [At,c_]
 | .bl b,y,v,h,k=>by cases h;cases y <;> simp_all [At,c_]
 | .int b,y,v,h,k=>by cases h;cases y <;> simp_all [At,c_]
 | .str b,y,v,h,k=>by cases h;cases y <;> simp_all [At,c_]
 | .tup xs,y,v,h,k=>by
  obtain ⟨a,vs,rfl,h1,h2⟩:=h
  cases y with
  | tup ys =>
   obtain ⟨b,us,e,k1,k2⟩:=k
   cases e
   cases I.kM h1 k1
   simpa [c_] using i6.one I h2 k2
  | lst ys =>
   obtain ⟨b,us,e,k1,k2⟩:=k
   cases e
   obtain ⟨_,_,⟨o,e1,c1,_⟩,_⟩:=I.tuple h1
   obtain ⟨_,_,⟨o',n,e2,c2,_⟩,_⟩:=I.list k1
   rw [e1] at e2;cases e2;exact absurd (Value.type.inj (c1.symm.trans c2)) (by decide)
  | _=>cases k
 | .lst xs,y,v,h,k=>by
  obtain ⟨a,vs,rfl,h1,h2⟩:=h
  cases y with
  | lst ys =>
   obtain ⟨b,us,e,k1,k2⟩:=k
   cases e
   cases I.mG h1 k1
   simpa [c_] using i6.one I h2 k2
  | tup ys =>
   obtain ⟨b,us,e,k1,k2⟩:=k
   cases e
   obtain ⟨_,_,⟨o,e1,c1,_⟩,_⟩:=I.tuple k1
   obtain ⟨_,_,⟨o',n,e2,c2,_⟩,_⟩:=I.list h1
   rw [e1] at e2;cases e2;exact absurd (Value.type.inj (c1.symm.trans c2)) (by decide)
  | _=>cases k
theorem i6.one (I:Inv X pins σ H s):∀{xs ys:List Py} {vs:List V},i6 X.K H xs vs→i6 X.K H ys vs→eQ xs ys=true
 | [],ys,vs,h,k=>by
  cases h
  cases ys with
  | nil=>rfl
  | cons y ys=>obtain ⟨_,_,e,_⟩:=k;cases e
 | x :: xs,ys,vs,h,k=>by
  obtain ⟨v,us,rfl,h1,h2⟩:=h
  cases ys with
  | nil=>cases k
  | cons y ys =>
   obtain ⟨v',us',e,k1,k2⟩:=k
   cases e
   simp [eQ,At.one I h1 k1,i6.one I h2 k2]
end
mutual
theorem zP (I:Inv X pins σ H s):∀(x y:Py) {v v':V} {u u':Value} {A:Around},At X.K H x v→At X.K H y v'→RelV v u→RelV v' u'→A.units + dep x < cLine→SeqAt.EqAt A s u u' (c_ x y)
 | .non,y,v,v',u,u',A,h,k,r,r',hu=>by
  cases h;cases r
  cases y with
  | non=>cases k;cases r';exact SeqAt.EqAt.same _
  | bl b=>cases k;cases r';exact SeqAt.EqAt.none_bool _
  | int b=>cases k;obtain ⟨t,rfl⟩:=r';exact SeqAt.EqAt.none_int _ _
  | str b=>cases k;obtain ⟨t,rfl⟩:=r';exact SeqAt.EqAt.none_str _ _
  | tup ys=>obtain ⟨a,vs,rfl,h1,h2⟩:=k;cases r';obtain ⟨_,_,p,_⟩:=I.tuple h1;exact SeqAt.EqAt.none_tuple p (by simpa [dep] using hu)
  | lst ys=>obtain ⟨a,vs,rfl,h1,h2⟩:=k;cases r';obtain ⟨_,_,p,_⟩:=I.list h1;exact SeqAt.EqAt.none_list p.isList (by simpa [dep] using hu)
 | .bl x,y,v,v',u,u',A,h,k,r,r',hu=>by
  cases h;cases r
  cases y with
  | non=>cases k;cases r';exact SeqAt.EqAt.bool_none _
  | bl b=>cases k;cases r';exact SeqAt.EqAt.bool_bool _ _
  | int b=>cases k;obtain ⟨t,rfl⟩:=r';exact SeqAt.EqAt.bool_int _ _ _
  | str b=>cases k;obtain ⟨t,rfl⟩:=r';exact SeqAt.EqAt.bool_str _ _ _
  | tup ys=>obtain ⟨a,vs,rfl,h1,h2⟩:=k;cases r';obtain ⟨_,_,p,_⟩:=I.tuple h1;exact SeqAt.EqAt.bool_tuple _ p (by simpa [dep] using hu)
  | lst ys=>obtain ⟨a,vs,rfl,h1,h2⟩:=k;cases r';obtain ⟨_,_,p,_⟩:=I.list h1;exact SeqAt.EqAt.bool_list _ p.isList (by simpa [dep] using hu)
 | .int x,y,v,v',u,u',A,h,k,r,r',hu=>by
  cases h;obtain ⟨t0,rfl⟩:=r
  cases y with
  | non=>cases k;cases r';exact SeqAt.EqAt.int_none _ _
  | bl b=>cases k;cases r';exact SeqAt.EqAt.int_bool _ _ _
  | int b=>cases k;obtain ⟨t,rfl⟩:=r';exact SeqAt.EqAt.int_int _ _ _ _
  | str b=>cases k;obtain ⟨t,rfl⟩:=r';exact SeqAt.EqAt.int_str _ _ _ _
  | tup ys=>obtain ⟨a,vs,rfl,h1,h2⟩:=k;cases r';obtain ⟨_,_,p,_⟩:=I.tuple h1;exact SeqAt.EqAt.int_tuple _ _ p (by simpa [dep] using hu)
  | lst ys=>obtain ⟨a,vs,rfl,h1,h2⟩:=k;cases r';obtain ⟨_,_,p,_⟩:=I.list h1;exact SeqAt.EqAt.int_list _ _ p.isList (by simpa [dep] using hu)
 | .str x,y,v,v',u,u',A,h,k,r,r',hu=>by
  cases h;obtain ⟨t0,rfl⟩:=r
  cases y with
  | non=>cases k;cases r';exact SeqAt.EqAt.str_none _ _
  | bl b=>cases k;cases r';exact SeqAt.EqAt.str_bool _ _ _
  | int b=>cases k;obtain ⟨t,rfl⟩:=r';exact SeqAt.EqAt.str_int _ _ _ _
  | str b=>cases k;obtain ⟨t,rfl⟩:=r';exact SeqAt.EqAt.str_str _ _ _ _
  | tup ys=>obtain ⟨a,vs,rfl,h1,h2⟩:=k;cases r';obtain ⟨_,_,p,_⟩:=I.tuple h1;exact SeqAt.EqAt.str_tuple _ _ p (by simpa [dep] using hu)
  | lst ys=>obtain ⟨a,vs,rfl,h1,h2⟩:=k;cases r';obtain ⟨_,_,p,_⟩:=I.list h1;exact SeqAt.EqAt.str_list _ _ p.isList (by simpa [dep] using hu)
 | .tup xs,y,v,v',u,u',A,h,k,r,r',hu=>by
  have h0:=h
  obtain ⟨a,vs,rfl,h1,h2⟩:=h
  cases r
  obtain ⟨is,r1,p1,_⟩:=I.tuple h1
  have hu0:A.units < cLine:=by omega
  have hu1:A.in1.units + bU xs < cLine:=by
   have e:dep (.tup xs)=bU xs + 1:=by rw [dep]
   rw [e] at hu
   show A.units + 1 + bU xs < cLine
   omega
  cases y with
  | non=>cases k;cases r';exact SeqAt.EqAt.tuple_none p1 hu0
  | bl b=>cases k;cases r';exact SeqAt.EqAt.tuple_bool _ p1 hu0
  | int b=>cases k;obtain ⟨t,rfl⟩:=r';exact SeqAt.EqAt.tuple_int _ _ p1 hu0
  | str b=>cases k;obtain ⟨t,rfl⟩:=r';exact SeqAt.EqAt.tuple_str _ _ p1 hu0
  | lst ys=>obtain ⟨b,us,rfl,k1,k2⟩:=k;cases r';obtain ⟨_,_,p,_⟩:=I.list k1;exact SeqAt.EqAt.tuple_list p1 p.isList hu0
  | tup ys =>
   have k0:=k
   obtain ⟨b,us,rfl,k1,k2⟩:=k
   cases r'
   by_cases hab:a=b
   ·subst hab
    rw [At.one I h0 k0]
    exact SeqAt.EqAt.same _
   ·obtain ⟨js,r2,p2,_⟩:=I.tuple k1
    refine SeqAt.EqAt.of_refs hab ?_
    have key:=SeqAt.RcAt.tuples (e:=qt xs ys) p1 p2 hu0 λj q1 q2=>jj I xs ys h2 k2 r1 r2 hu1 j (by simpa using q1) (by simpa using q2)
    have e1:is.length=xs.length:=by rw [← r1.length,h2.length]
    have e2:js.length=ys.length:=by rw [← r2.length,k2.length]
    simp only [D3] at key
    rw [e1,e2,ed] at key
    simpa [c_] using key
 | .lst xs,y,v,v',u,u',A,h,k,r,r',hu=>by
  have h0:=h
  obtain ⟨a,vs,rfl,h1,h2⟩:=h
  cases r
  obtain ⟨is,r1,p1,_⟩:=I.list h1
  have hu0:A.units < cLine:=by omega
  have hu1:A.in1.units + bU xs < cLine:=by
   have e:dep (.lst xs)=bU xs + 1:=by rw [dep]
   rw [e] at hu
   show A.units + 1 + bU xs < cLine
   omega
  cases y with
  | non=>cases k;cases r';exact SeqAt.EqAt.list_none p1.isList hu0
  | bl b=>cases k;cases r';exact SeqAt.EqAt.list_bool _ p1.isList hu0
  | int b=>cases k;obtain ⟨t,rfl⟩:=r';exact SeqAt.EqAt.list_int _ _ p1.isList hu0
  | str b=>cases k;obtain ⟨t,rfl⟩:=r';exact SeqAt.EqAt.list_str _ _ p1.isList hu0
  | tup ys=>obtain ⟨b,us,rfl,k1,k2⟩:=k;cases r';obtain ⟨_,_,p,_⟩:=I.tuple k1;exact SeqAt.EqAt.list_tuple p1.isList p hu0
  | lst ys =>
   have k0:=k
   obtain ⟨b,us,rfl,k1,k2⟩:=k
   cases r'
   by_cases hab:a=b
   ·subst hab
    rw [At.one I h0 k0]
    exact SeqAt.EqAt.same _
   ·obtain ⟨js,r2,p2,_⟩:=I.list k1
    refine SeqAt.EqAt.of_refs hab ?_
    have e1:is.length=xs.length:=by rw [← r1.length,h2.length]
    have e2:js.length=ys.length:=by rw [← r2.length,k2.length]
    have ae:=ed xs ys
    by_cases hl:xs.length=ys.length
    ·have key:=SeqAt.RcAt.lists (e:=qt xs ys) p1.isList p2.isList (by simp only [D3];omega) hu0 λj q1 q2=>jj I xs ys h2 k2 r1 r2 hu1 j (by simpa using q1) (by simpa using q2)
     simp only [D3] at key
     rw [hl,FD] at ae
     have e3:(ys.length == ys.length)=true:=by simp
     rw [e3,E1] at ae
     rw [e1,hl,ae] at key
     simpa [c_] using key
    ·have key:=SeqAt.RcAt.lists_lengths p1.isList p2.isList (A:=A) (by simp only [D3];rw [e1,e2];simpa using hl) hu0
     have e3:eQ xs ys=false:=by
      rw [← ae]
      have:(xs.length == ys.length)=false:=by simpa using hl
      rw [this,EN]
     simpa [c_,e3] using key
theorem jj (I:Inv X pins σ H s):∀(xs ys:List Py) {vs us:List V} {is js:List Value} {A:Around},i6 X.K H xs vs→i6 X.K H ys us→Vals vs is→Vals us js→A.units + bU xs < cLine→∀j (h1:j < is.length) (h2:j < js.length),SeqAt.EqAt A s is[j] js[j] (qt xs ys j)
 | [],ys,vs,us,is,js,A,h,k,r,r',hu,j,h1,h2=>by
  cases h;cases r;exact absurd h1 (FO _)
 | x :: xs,[],vs,us,is,js,A,h,k,r,r',hu,j,h1,h2=>by
  cases k;cases r';exact absurd h2 (FO _)
 | x :: xs,y :: ys,vs,us,is,js,A,h,k,r,r',hu,j,h1,h2=>by
  obtain ⟨v,vs',rfl,a1,a2⟩:=h
  obtain ⟨v',us',rfl,b1,b2⟩:=k
  cases r with
  | cons q1 q2 =>
   cases r' with
   | cons z1 z2 =>
    have e:bU (x :: xs)=max (dep x) (bU xs):=by rw [bU]
    rw [e] at hu
    cases j with
    | zero=>exact zP I x y a1 b1 q1 z1 (by omega)
    | succ j =>
     have:=jj I xs ys a2 b2 q2 z2 (A:=A) (by omega) j (by simpa using h1) (by simpa using h2)
     simpa [qt] using this
end
theorem CT (I:Inv X pins σ H s) (x y:Py) {v v':V} {u u':Value} {A:Around} (h:At X.K H x v) (k:At X.K H y v') (r:RelV v u) (r':RelV v' u') (hu:A.units + dep x < cLine):SeqAt.RcAt A s u u' (c_ x y):=by
 have hu0:A.units < cLine:=by omega
 cases x with
 | non =>
  cases h;cases r
  cases y with
  | non=>cases k;cases r';exact SeqAt.RcAt.none_none
  | bl b=>cases k;cases r';exact SeqAt.RcAt.none_bool _
  | int b=>cases k;obtain ⟨t,rfl⟩:=r';exact SeqAt.RcAt.none_int _ _
  | str b=>cases k;obtain ⟨t,rfl⟩:=r';exact SeqAt.RcAt.none_str _ _
  | tup ys=>obtain ⟨b,us,rfl,k1,k2⟩:=k;cases r';obtain ⟨js,r2,p2,_⟩:=I.tuple k1;exact SeqAt.RcAt.none_tuple p2 hu0
  | lst ys=>obtain ⟨b,us,rfl,k1,k2⟩:=k;cases r';obtain ⟨js,r2,p2,_⟩:=I.list k1;exact SeqAt.RcAt.none_list p2.isList hu0
 | bl i =>
  cases h;cases r
  cases y with
  | non=>cases k;cases r';exact SeqAt.RcAt.bool_none _
  | bl b=>cases k;cases r';exact SeqAt.RcAt.bool_bool _ _
  | int b=>cases k;obtain ⟨t,rfl⟩:=r';exact SeqAt.RcAt.bool_int _ _ _
  | str b=>cases k;obtain ⟨t,rfl⟩:=r';exact SeqAt.RcAt.bool_str _ _ _
  | tup ys=>obtain ⟨b,us,rfl,k1,k2⟩:=k;cases r';obtain ⟨js,r2,p2,_⟩:=I.tuple k1;exact SeqAt.RcAt.bool_tuple _ p2 hu0
  | lst ys=>obtain ⟨b,us,rfl,k1,k2⟩:=k;cases r';obtain ⟨js,r2,p2,_⟩:=I.list k1;exact SeqAt.RcAt.bool_list _ p2.isList hu0
 | int i =>
  cases h;obtain ⟨t0,rfl⟩:=r
  cases y with
  | non=>cases k;cases r';exact SeqAt.RcAt.int_none _ _
  | bl b=>cases k;cases r';exact SeqAt.RcAt.int_bool _ _ _
  | int b=>cases k;obtain ⟨t,rfl⟩:=r';exact SeqAt.RcAt.int_int _ _ _ _
  | str b=>cases k;obtain ⟨t,rfl⟩:=r';exact SeqAt.RcAt.int_str _ _ _ _
  | tup ys=>obtain ⟨b,us,rfl,k1,k2⟩:=k;cases r';obtain ⟨js,r2,p2,_⟩:=I.tuple k1;exact SeqAt.RcAt.int_tuple _ _ p2 hu0
  | lst ys=>obtain ⟨b,us,rfl,k1,k2⟩:=k;cases r';obtain ⟨js,r2,p2,_⟩:=I.list k1;exact SeqAt.RcAt.int_list _ _ p2.isList hu0
 | str i =>
  cases h;obtain ⟨t0,rfl⟩:=r
  cases y with
  | non=>cases k;cases r';exact SeqAt.RcAt.str_none _ _
  | bl b=>cases k;cases r';exact SeqAt.RcAt.str_bool _ _ _
  | int b=>cases k;obtain ⟨t,rfl⟩:=r';exact SeqAt.RcAt.str_int _ _ _ _
  | str b=>cases k;obtain ⟨t,rfl⟩:=r';exact SeqAt.RcAt.str_str _ _ _ _
  | tup ys=>obtain ⟨b,us,rfl,k1,k2⟩:=k;cases r';obtain ⟨js,r2,p2,_⟩:=I.tuple k1;exact SeqAt.RcAt.str_tuple _ _ p2 hu0
  | lst ys=>obtain ⟨b,us,rfl,k1,k2⟩:=k;cases r';obtain ⟨js,r2,p2,_⟩:=I.list k1;exact SeqAt.RcAt.str_list _ _ p2.isList hu0
 | tup xs =>
  obtain ⟨a,vs,rfl,h1,h2⟩:=h
  cases r
  obtain ⟨is,r1,p1,_⟩:=I.tuple h1
  have hu1:A.in1.units + bU xs < cLine:=by
   have e:dep (.tup xs)=bU xs + 1:=by rw [dep]
   rw [e] at hu
   show A.units + 1 + bU xs < cLine
   omega
  cases y with
  | non=>cases k;cases r';exact SeqAt.RcAt.tuple_none p1 hu0
  | bl b=>cases k;cases r';exact SeqAt.RcAt.tuple_bool _ p1 hu0
  | int b=>cases k;obtain ⟨t,rfl⟩:=r';exact SeqAt.RcAt.tuple_int _ _ p1 hu0
  | str b=>cases k;obtain ⟨t,rfl⟩:=r';exact SeqAt.RcAt.tuple_str _ _ p1 hu0
  | tup ys =>
   obtain ⟨b,us,rfl,k1,k2⟩:=k;cases r';obtain ⟨js,r2,p2,_⟩:=I.tuple k1
   have e1:is.length=xs.length:=by rw [← r1.length,h2.length]
   have e2:js.length=ys.length:=by rw [← r2.length,k2.length]
   have ae:=ed xs ys
   have key:=SeqAt.RcAt.tuples (e:=qt xs ys) p1 p2 hu0 λj q1 q2=>jj I xs ys h2 k2 r1 r2 hu1 j (by simpa using q1) (by simpa using q2)
   simp only [D3] at key
   rw [e1,e2,ae] at key
   simpa [c_] using key
  | lst ys=>obtain ⟨b,us,rfl,k1,k2⟩:=k;cases r';obtain ⟨js,r2,p2,_⟩:=I.list k1;exact SeqAt.RcAt.tuple_list p1 p2.isList hu0
 | lst xs =>
  obtain ⟨a,vs,rfl,h1,h2⟩:=h
  cases r
  obtain ⟨is,r1,p1,_⟩:=I.list h1
  have hu1:A.in1.units + bU xs < cLine:=by
   have e:dep (.lst xs)=bU xs + 1:=by rw [dep]
   rw [e] at hu
   show A.units + 1 + bU xs < cLine
   omega
  cases y with
  | non=>cases k;cases r';exact SeqAt.RcAt.list_none p1.isList hu0
  | bl b=>cases k;cases r';exact SeqAt.RcAt.list_bool _ p1.isList hu0
  | int b=>cases k;obtain ⟨t,rfl⟩:=r';exact SeqAt.RcAt.list_int _ _ p1.isList hu0
  | str b=>cases k;obtain ⟨t,rfl⟩:=r';exact SeqAt.RcAt.list_str _ _ p1.isList hu0
  | tup ys=>obtain ⟨b,us,rfl,k1,k2⟩:=k;cases r';obtain ⟨js,r2,p2,_⟩:=I.tuple k1;exact SeqAt.RcAt.list_tuple p1.isList p2 hu0
  | lst ys =>
   obtain ⟨b,us,rfl,k1,k2⟩:=k;cases r';obtain ⟨js,r2,p2,_⟩:=I.list k1
   have e1:is.length=xs.length:=by rw [← r1.length,h2.length]
   have e2:js.length=ys.length:=by rw [← r2.length,k2.length]
   have ae:=ed xs ys
   by_cases hl:xs.length=ys.length
   ·have key:=SeqAt.RcAt.lists (e:=qt xs ys) p1.isList p2.isList (by simp only [D3];omega) hu0 λj q1 q2=>jj I xs ys h2 k2 r1 r2 hu1 j (by simpa using q1) (by simpa using q2)
    simp only [D3] at key
    rw [hl,FD] at ae
    have e3:(ys.length == ys.length)=true:=by simp
    rw [e3,E1] at ae
    rw [e1,hl,ae] at key
    simpa [c_] using key
   ·have key:=SeqAt.RcAt.lists_lengths p1.isList p2.isList (A:=A) (by simp only [D3];rw [e1,e2];simpa using hl) hu0
    have e3:eQ xs ys=false:=by
     rw [← ae]
     have:(xs.length == ys.length)=false:=by simpa using hl
     rw [this,EN]
    simpa [c_,e3] using key
theorem Be (I:Inv X pins σ H s) (x y:Py) {v v':V} {u u':Value} {A:Around} (h:At X.K H x v) (k:At X.K H y v') (r:RelV v u) (r':RelV v' u') (hu:A.units + dep x < cLine):SeqAt.RcNeAt A s u u' (!c_ x y):=by
 have hu0:A.units < cLine:=by omega
 cases x with
 | non =>
  cases h;cases r
  cases y with
  | non=>cases k;cases r';exact SeqAt.RcNeAt.none_none
  | bl b=>cases k;cases r';exact SeqAt.RcNeAt.none_bool _
  | int b=>cases k;obtain ⟨t,rfl⟩:=r';exact SeqAt.RcNeAt.none_int _ _
  | str b=>cases k;obtain ⟨t,rfl⟩:=r';exact SeqAt.RcNeAt.none_str _ _
  | tup ys=>obtain ⟨b,us,rfl,k1,k2⟩:=k;cases r';obtain ⟨js,r2,p2,_⟩:=I.tuple k1;exact SeqAt.RcNeAt.none_tuple p2 hu0
  | lst ys=>obtain ⟨b,us,rfl,k1,k2⟩:=k;cases r';obtain ⟨js,r2,p2,_⟩:=I.list k1;exact SeqAt.RcNeAt.none_list p2.isList hu0
 | bl i =>
  cases h;cases r
  cases y with
  | non=>cases k;cases r';exact SeqAt.RcNeAt.bool_none _
  | bl b=>cases k;cases r';exact SeqAt.RcNeAt.bool_bool _ _
  | int b=>cases k;obtain ⟨t,rfl⟩:=r';exact SeqAt.RcNeAt.bool_int _ _ _
  | str b=>cases k;obtain ⟨t,rfl⟩:=r';exact SeqAt.RcNeAt.bool_str _ _ _
  | tup ys=>obtain ⟨b,us,rfl,k1,k2⟩:=k;cases r';obtain ⟨js,r2,p2,_⟩:=I.tuple k1;exact SeqAt.RcNeAt.bool_tuple _ p2 hu0
  | lst ys=>obtain ⟨b,us,rfl,k1,k2⟩:=k;cases r';obtain ⟨js,r2,p2,_⟩:=I.list k1;exact SeqAt.RcNeAt.bool_list _ p2.isList hu0
 | int i =>
  cases h;obtain ⟨t0,rfl⟩:=r
  cases y with
  | non=>cases k;cases r';exact SeqAt.RcNeAt.int_none _ _
  | bl b=>cases k;cases r';exact SeqAt.RcNeAt.int_bool _ _ _
  | int b=>cases k;obtain ⟨t,rfl⟩:=r';exact SeqAt.RcNeAt.int_int _ _ _ _
  | str b=>cases k;obtain ⟨t,rfl⟩:=r';exact SeqAt.RcNeAt.int_str _ _ _ _
  | tup ys=>obtain ⟨b,us,rfl,k1,k2⟩:=k;cases r';obtain ⟨js,r2,p2,_⟩:=I.tuple k1;exact SeqAt.RcNeAt.int_tuple _ _ p2 hu0
  | lst ys=>obtain ⟨b,us,rfl,k1,k2⟩:=k;cases r';obtain ⟨js,r2,p2,_⟩:=I.list k1;exact SeqAt.RcNeAt.int_list _ _ p2.isList hu0
 | str i =>
  cases h;obtain ⟨t0,rfl⟩:=r
  cases y with
  | non=>cases k;cases r';exact SeqAt.RcNeAt.str_none _ _
  | bl b=>cases k;cases r';exact SeqAt.RcNeAt.str_bool _ _ _
  | int b=>cases k;obtain ⟨t,rfl⟩:=r';exact SeqAt.RcNeAt.str_int _ _ _ _
  | str b=>cases k;obtain ⟨t,rfl⟩:=r';exact SeqAt.RcNeAt.str_str _ _ _ _
  | tup ys=>obtain ⟨b,us,rfl,k1,k2⟩:=k;cases r';obtain ⟨js,r2,p2,_⟩:=I.tuple k1;exact SeqAt.RcNeAt.str_tuple _ _ p2 hu0
  | lst ys=>obtain ⟨b,us,rfl,k1,k2⟩:=k;cases r';obtain ⟨js,r2,p2,_⟩:=I.list k1;exact SeqAt.RcNeAt.str_list _ _ p2.isList hu0
 | tup xs =>
  obtain ⟨a,vs,rfl,h1,h2⟩:=h
  cases r
  obtain ⟨is,r1,p1,_⟩:=I.tuple h1
  have hu1:A.in1.units + bU xs < cLine:=by
   have e:dep (.tup xs)=bU xs + 1:=by rw [dep]
   rw [e] at hu
   show A.units + 1 + bU xs < cLine
   omega
  cases y with
  | non=>cases k;cases r';exact SeqAt.RcNeAt.tuple_none p1 hu0
  | bl b=>cases k;cases r';exact SeqAt.RcNeAt.tuple_bool _ p1 hu0
  | int b=>cases k;obtain ⟨t,rfl⟩:=r';exact SeqAt.RcNeAt.tuple_int _ _ p1 hu0
  | str b=>cases k;obtain ⟨t,rfl⟩:=r';exact SeqAt.RcNeAt.tuple_str _ _ p1 hu0
  | tup ys =>
   obtain ⟨b,us,rfl,k1,k2⟩:=k;cases r';obtain ⟨js,r2,p2,_⟩:=I.tuple k1
   have e1:is.length=xs.length:=by rw [← r1.length,h2.length]
   have e2:js.length=ys.length:=by rw [← r2.length,k2.length]
   have ae:=ed xs ys
   have key:=SeqAt.RcNeAt.tuples (e:=qt xs ys) p1 p2 hu0 λj q1 q2=>jj I xs ys h2 k2 r1 r2 hu1 j (by simpa using q1) (by simpa using q2)
   simp only [D3] at key
   rw [e1,e2,ae] at key
   simpa [c_] using key
  | lst ys=>obtain ⟨b,us,rfl,k1,k2⟩:=k;cases r';obtain ⟨js,r2,p2,_⟩:=I.list k1;exact SeqAt.RcNeAt.tuple_list p1 p2.isList hu0
 | lst xs =>
  obtain ⟨a,vs,rfl,h1,h2⟩:=h
  cases r
  obtain ⟨is,r1,p1,_⟩:=I.list h1
  have hu1:A.in1.units + bU xs < cLine:=by
   have e:dep (.lst xs)=bU xs + 1:=by rw [dep]
   rw [e] at hu
   show A.units + 1 + bU xs < cLine
   omega
  cases y with
  | non=>cases k;cases r';exact SeqAt.RcNeAt.list_none p1.isList hu0
  | bl b=>cases k;cases r';exact SeqAt.RcNeAt.list_bool _ p1.isList hu0
  | int b=>cases k;obtain ⟨t,rfl⟩:=r';exact SeqAt.RcNeAt.list_int _ _ p1.isList hu0
  | str b=>cases k;obtain ⟨t,rfl⟩:=r';exact SeqAt.RcNeAt.list_str _ _ p1.isList hu0
  | tup ys=>obtain ⟨b,us,rfl,k1,k2⟩:=k;cases r';obtain ⟨js,r2,p2,_⟩:=I.tuple k1;exact SeqAt.RcNeAt.list_tuple p1.isList p2 hu0
  | lst ys =>
   obtain ⟨b,us,rfl,k1,k2⟩:=k;cases r';obtain ⟨js,r2,p2,_⟩:=I.list k1
   have e1:is.length=xs.length:=by rw [← r1.length,h2.length]
   have e2:js.length=ys.length:=by rw [← r2.length,k2.length]
   have ae:=ed xs ys
   by_cases hl:xs.length=ys.length
   ·have key:=SeqAt.RcNeAt.lists (e:=qt xs ys) p1.isList p2.isList (by simp only [D3];omega) hu0 λj q1 q2=>jj I xs ys h2 k2 r1 r2 hu1 j (by simpa using q1) (by simpa using q2)
    simp only [D3] at key
    rw [hl,FD] at ae
    have e3:(ys.length == ys.length)=true:=by simp
    rw [e3,E1] at ae
    rw [e1,hl,ae] at key
    simpa [c_] using key
   ·have key:=SeqAt.RcNeAt.lists_lengths p1.isList p2.isList (A:=A) (by simp only [D3];rw [e1,e2];simpa using hl) hu0
    have e3:eQ xs ys=false:=by
     rw [← ae]
     have:(xs.length == ys.length)=false:=by simpa using hl
     rw [this,EN]
    simpa [c_,e3] using key
def rP (K:PySem.W.Frag) (f:Bool→Bool):R2:=λv v' H Q=>∃x y:Py,At K H x v∧At K H y v'∧dep x≤60∧Q (.bl (f (c_ x y))) H
theorem yu (hu:X.A.units + 61 < cLine):cn X (compareOp .Eq) (rP X.K id):=by
 intro pins s σ H x y v u Q I rx ry h
 obtain ⟨a,b,h1,h2,d,q⟩:=h
 exact CT I a b h1 h2 rx ry (by omega) X.prog X.w X.xe _ ⟨.bl _,H,I,rfl,q⟩
theorem yx (hu:X.A.units + 61 < cLine):cn X (compareOp .NotEq) (rP X.K not):=by
 intro pins s σ H x y v u Q I rx ry h
 obtain ⟨a,b,h1,h2,d,q⟩:=h
 exact Be I a b h1 h2 rx ry (by omega) X.prog X.w X.xe _ ⟨.bl _,H,I,rfl,q⟩
end
end Ov
namespace Ov
open PySem PySem.Spec PySem.Calls PyProof.Rows PySem.W Builtin.Getset_descriptor
def ExcAt (x D:Addr) (h:Heap):Prop:=∃ox,h.get? x=some ox∧ox.cls=.ref D
theorem ExcAt.ty {M:Model} {h:Heap} {x D:Addr} (I:ExcAt x D h):Looks M h (typeOf (.ref x)) (.ref D):=by
 obtain ⟨ox,a,b⟩:=I
 rw [← b]
 exact (Looks.ld a).andThen .now
section
variable {prog:Program} {w:World} {A:Around} {E:Value→Shared→Prop} {s:Shared} {K:Frag} {x D:Addr}
structure iJ (K:Frag) (D:Addr):Prop where
 cls:(clsIn K D).isSome=true
 ga:findIn K (.ref D) "__getattribute__"=some (some (.builtin "BaseException.__getattribute__"))
 gt:findIn K (.ref D) "__getattr__"=some none
 ca:findIn K (.ref D) "__class__"=some (some (.builtin "object.__class__"))
 get:specialIn K (.builtin "object.__class__") "__get__"=some (some (.builtin "getset_descriptor.__get__"))
 tk:takesIn K (.builtin "object.__class__")=some true
 obj:mroIn K D (.type "object")=some true
 bex:subIn K (.ref D) (.type "BaseException")=some true
theorem wc {M:Model} {h:Heap} (X:K.In h) (Z:iJ K D):Looks M h (Builtin.ObjectAttr.find (.ref x) (.ref D) "__class__") (.bind (.builtin "getset_descriptor.__get__") (.builtin "object.__class__")) :=
 (looks_findIn X Z.ca).andThen ((show Looks M h (Builtin.ObjectAttr.getOf (some (.builtin "object.__class__"))) _ from looks_specialIn X Z.get).andThen
  ((show Looks M h (Builtin.ObjectAttr.dataDescriptor? (some (.builtin "object.__class__")) (some (.builtin "getset_descriptor.__get__"))) (some (.builtin "getset_descriptor.__get__",.builtin "object.__class__")) from (looks_takesIn X Z.tk).andThen .now).andThen (Looks.tag .now)))
theorem zi {tp:Value} {R:Result→Shared→Prop} (X:K.In s.heap) (Z:iJ K D) (I:ExcAt x D s.heap) (h:R (.ok (.ret (.ref D))) s) :
  codeAny (model prog w) A (.call (.builtin "getset_descriptor.__get__") ⟨[.builtin "object.__class__",.ref x,tp],[]⟩) R s:=by
 obtain ⟨hh,g,dr,t,os⟩:=s
 have L0:=I.ty (M:=model prog w)
 have L1:=looks_mroIn (M:=model prog w) X Z.obj
 refine codeAny_call_builtin KF.slot_gs.plain KF.entry_gs ?_
 refine KF.slot_gs.check _ _ _ _ _ _ _ _ KF.type_class (KF.args_gs _ _ _) ?_
 unfold Builtin.«getset_descriptor.__get__» descrGet;rw [dga_obj]
 refine wpAny_bind (wpAny_pure ?_)
 unfold descrGetter descrCheckInstance descrNameAndClass isInstance;simp only [KF.owner_class]
 repeat lk
 refine ⟨Code.quiet_builtin _ (by decide +kernel),?_⟩
 refine codeAny_builtin KF.entry_class ?_
 unfold Builtin.«object.__class__» shownTypeOf;repeat lk
 exact h
theorem uo {tk:Tok} {Q:Fin→Shared→Prop} (X:K.In s.heap) (Z:iJ K D) (I:ExcAt x D s.heap) (h:Q (.done (.ret (.ref D))) s) :
  wpAny (model prog w) A (Builtin.«object.__getattribute__» ⟨[.ref x,.str "__class__" tk],[]⟩) Q E s:=by
 obtain ⟨hh,gg,d,t,os⟩:=s
 have L0:=I.ty (M:=model prog w)
 have L1:=wc (x:=x) (M:=model prog w) X Z
 unfold Builtin.«object.__getattribute__»
 refine wpAny_bind (wpAny_pure (wpAny_bind (wpAny_pure (wpAny_bind (L0.at (wpAny_bind (L1.at ?_)))))))
 show wpAny _ _ (holding [.builtin "object.__class__"] (call (.builtin "getset_descriptor.__get__") [.builtin "object.__class__",.ref x,.ref D]) >>= ret) _ _ _
 exact wpAny_bind (wpAny_holding (wpAny_call (zi (tp:=.ref D) X Z I (wpAny_pure h))))
theorem uk {M:Model} {nameV:Value} {Q:Unit→Shared→Prop} (X:K.In s.heap) (Z:iJ K D) (I:ExcAt x D s.heap) (hq:Q () s) :
  wpAny M A (checkBuiltinCall "BaseException.__getattribute__" ⟨[.ref x,nameV],[]⟩) Q E s:=by
 have k:builtinKind "BaseException.__getattribute__"=some .slot:=by decide +kernel
 have sp:splitId "BaseException.__getattribute__"=some ("BaseException","__getattribute__"):=by decide +kernel
 have ok:=F.args_bexc_ga (.ref x) nameV
 have L1:Looks M s.heap (isInstance (.ref x) (.type "BaseException")) true:=I.ty.andThen (looks_subIn X Z.bex)
 obtain ⟨hh,gg,d,t,os⟩:=s
 simp only [checkBuiltinCall,k,sp]
 refine wpAny_bind (L1.at ?_)
 simp only [Bool.not_true,Ef,if_false]
 cases sg:Manifest.signature? "BaseException.__getattribute__" with
 | none=>exact wpAny_pure hq
 | some z =>
  unfold argsOk at ok
  rw [sg] at ok
  show wpAny _ _ (Bind.checkArgs _ z _) _ _ _
  rw [show Bind.checkArgs "BaseException.__getattribute__" z ⟨[.ref x,nameV],[]⟩=pure () from ok]
  exact wpAny_pure hq
theorem um {Q:Option Value→Shared→Prop} (X:K.In s.heap) (Z:iJ K D) (I:ExcAt x D s.heap) (h:Q (some (.ref D)) { s with toks:=s.toks + 1 }):wpAny (model prog w) A (getAttr? (.ref x) "__class__") Q E s:=by
 obtain ⟨hh,gg,d,t,os⟩:=s
 have L0:=I.ty (M:=model prog w)
 have L1:=looks_findIn (M:=model prog w) X Z.ga
 have L2:=looks_findIn (M:=model prog w) X Z.gt
 unfold getAttr? getAttrBy? getAttrBy
 refine wpAny_bind (wpAny_mkText (wpAny_bind (wpAny_attempt (wpAny_holding ?_))))
 refine wpAny_bind (L0.at (wpAny_bind (L1.at ?_)))
 have no:(Value.builtin "BaseException.__getattribute__" == Value.builtin "object.__getattribute__")=false:=by decide +kernel
 show wpAny _ _ (if onTheHeap (.ref D) && Value.builtin "BaseException.__getattribute__" == Value.builtin "object.__getattribute__" then _ else _) _ _ _
 rw [no,EN]
 simp only [Ef,if_false]
 unfold getAttrByItsOwn hookBefore callGetattribute boundAndCalled
 have f3:=PySem.F.attr_ValueError.ga.bind (.ref x)
 refine wpAny_bind ((show wpAny _ _ (typeLookup (Value.ref D) "__getattr__") _ _ _ from L2.at ?_))
 refine wpAny_bind (wpAny_attempt (wpAny_holding ?_))
 show wpAny _ _ (bindSpecial (Value.builtin "BaseException.__getattribute__") (Value.ref x) >>= _) _ _ _
 rw [f3]
 refine wpAny_bind (wpAny_pure ?_)
 refine wpAny_call (codeAny_call_builtin PySem.F.attr_ValueError.ga.plain PySem.F.entry_bexc_ga (uk (s:=⟨hh,gg,d,t + 1,os⟩) X Z I (uo (s:=⟨hh,gg,d,t + 1,os⟩) X Z I ?_)))
 exact handed_on rfl (wpAny_pure h)
theorem iJ.at {h:Heap} (Z:iJ K D) (X:K.In h):∃c d cd sl,h.get? D=some ⟨c,d,.cls cd,sl⟩:=by
 obtain ⟨cd,q⟩:=E_.mp Z.cls
 unfold clsIn at q
 split at q
 ·exact ⟨_,_,_,_,X _ _ (by assumption)⟩
 ·cases q
theorem sE (Z:iJ K D):KitX K (.ref x) (.ref D) (ExcAt x D) where
 ty:=λ_ _ _ I=>I.ty
 it:=λ_ _ X _=>by
  obtain ⟨c,d,cd,sl,o⟩:=Z.at X
  intro A' Q' E' s' k q
  unfold isType loadHead
  exact wpAny_bind (wpAny_loadPart (k _ _ o) (wpAny_pure q))
 ne:=λh tp dd aQ n sl X htp=>Fb.mpr λq=>by
  obtain ⟨c,d,cd,sl',o⟩:=Z.at X
  rw [Value.ref.inj (beq_iff_eq.mp q)] at o
  cases o.symm.trans htp
 ca:=λX I k=>um X Z I k
end
end Ov
namespace Ov
open PySem PySem.Spec PyProof.Rows L2
structure eL (P:Program) (w:World) (outer:List Env) (H:Hp) (s:Shared) (ea:Addr) (cls:Value) (H':Hp) (s':Shared):Prop where
 os:s'.os=s.os
 bare:AllBare s'.gens
 un:Un (cV outer) [] H H' s.heap s'.heap
 hok:fK P w H' s'.heap
 fl:∃B t,Heap.FlyingW B outer ea cls (.ref t) s'.heap∧∀b o,s'.heap.get? b=some o→(H' b≠none∨∃o₀,s.heap.get? b=some o₀)→b ∉ cV outer→B.get? b=some o
def cU (P:Program) (w:World):g_:=λouter H s E e s'=>∃ea cls H',e=.ref ea∧eL P w outer H s ea cls H' s'∧E cls none H'
theorem pD {P:Program} {w:World} {H:Hp} {h:Heap} {a:Addr} {o:HO} (x:bJ P w H h a o):∃ob,h.get? a=Option.some ob:=by
 have lt:=x.lt
 cases o with
 | lst xs=>obtain ⟨_,_,_,_,e⟩:=x;exact ⟨_,e⟩
 | tup xs=>obtain ⟨_,_,_,ob,e,_⟩:=x;exact ⟨_,e⟩
 | dK kvs=>obtain ⟨_,_,_,_,o,_,_,e,_⟩:=x;exact ⟨_,e⟩
 | dE kvs ep=>obtain ⟨_,_,_,_,o,_,e,_⟩:=x;exact ⟨_,e⟩
 | set S n=>obtain ⟨o,_,_,_,e,_⟩:=x;exact ⟨_,e⟩
 | ins C dx fs=>obtain ⟨_,_,_,e,_⟩:=x;exact ⟨_,e⟩
 | own y=>exact x
 | xd fs=>obtain ⟨_,⟨_,_,_,e,_⟩,_⟩:=x;exact ⟨_,e⟩
 | yV lo hi=>obtain ⟨_,_,_,e⟩:=x;exact ⟨_,e⟩
 | ky ob u=>obtain ⟨e,_⟩:=x;exact ⟨_,e⟩
 | tbl ps=>exact ⟨_,x⟩
 | met f y=>exact ⟨_,x⟩
 | ext φ=>obtain ⟨_,e,_⟩:=x;exact e
section
variable {X:Cx} {pins:List (Addr × Obj)} {σ:L2.St} {H H':Hp} {s:Shared} {ea t:Addr} {cls:Value} {B h1 h2:Heap}
theorem b_ (I:Inv X pins σ H s) (un:Un (cV X.stack) [] H H' s.heap h1) {b:Addr} (hb:b∈cV X.stack):H' b=none∧∃o,h1.get? b=some o∧∀vs,o.data≠.fields vs:=by
 obtain ⟨_,o,ho,hn⟩:=I.stack.mem hb
 have n:=I.lY b hb
 obtain ⟨sl,e⟩:=un.any ho n (by simp)
 exact ⟨un.free b o ho n (by simp),_,e,hn⟩
theorem k9 (I:Inv X pins σ H s) (un:Un (cV X.stack) [] H H' s.heap h1) (cov:∀b o,h1.get? b=some o→(H' b≠none∨∃o₀,s.heap.get? b=some o₀)→b ∉ cV X.stack→B.get? b=some o)
  (hB:B.StaysIn h2) (up:h1.UpToSlots h2):Un (cV X.stack) [] H H' s.heap h2 where
 keep:=λb o e n hb hx=>hB b o (cov b o (un.keep b o e n hb hx) (.inr ⟨o,e⟩) hb)
 slot:=λb o e n hb hx=>by
  obtain ⟨sl,e1⟩:=un.slot b o e n hb hx
  obtain ⟨_,o',e2,hn⟩:=b_ I un hb
  rw [e1] at e2;cases e2
  obtain ⟨sl',e3⟩:=up b _ e1 hn
  exact ⟨sl',e3⟩
 free:=un.free
 there:=λb o e hx=>by
  obtain ⟨o',e1⟩:=un.there b o e hx
  by_cases hb:b∈cV X.stack
  ·obtain ⟨_,o2,e2,hn⟩:=b_ I un hb
   obtain ⟨sl',e3⟩:=up b _ e2 hn
   exact ⟨_,e3⟩
  ·exact ⟨o',hB b o' (cov b o' e1 (.inr ⟨o,e⟩) hb)⟩
 tups:=un.tups
 frzs:=un.frzs
 tbls:=un.tbls
theorem k8 (I:Inv X pins σ H s) (un:Un (cV X.stack) [] H H' s.heap h1) (cov:∀b o,h1.get? b=some o→(H' b≠none∨∃o₀,s.heap.get? b=some o₀)→b ∉ cV X.stack→B.get? b=some o)
  (hB:B.StaysIn h2) (ok:fK X.prog X.w H' h1):fK X.prog X.w H' h2:=λa o e=>by
 have nf:∀b u,H' b=some u→b ∉ cV X.stack:=λb u q hb=>by
  have:=(b_ I un hb).1
  rw [q] at this;cases this
 refine (ok a o e).j' (λb u hb q=>?_) (λ_ q=>q) λ_ _ q=>q
 rcases hb with rfl | hb
 ·exact hB _ _ (cov _ _ q (.inl (by rw [e];exact λz=>nomatch z)) (nf _ _ e))
 ·exact hB _ _ (cov _ _ q (.inl (by rw [hb];exact λz=>nomatch z)) (nf _ _ hb))
theorem nv (un:Un (cV X.stack) [] H H' s.heap h1) (ok:fK X.prog X.w H' h1) (cov:∀b o,h1.get? b=some o→(H' b≠none∨∃o₀,s.heap.get? b=some o₀)→b ∉ cV X.stack→B.get? b=some o) (hB:B.StaysIn h2) :
  ∀b o,h2.get? b=some o→(H' b≠none∨∃o₀,s.heap.get? b=some o₀)→b ∉ cV X.stack→B.get? b=some o:=λb o e hb nb=>by
 have:∃o1,h1.get? b=some o1:=by
  rcases hb with z | ⟨o₀,z⟩
  ·cases q:H' b with
   | none=>exact absurd q z
   | some u=>exact pD (ok b u q)
  ·exact un.there b o₀ z (by simp)
 obtain ⟨o1,e1⟩:=this
 have c:=cov b o1 e1 hb nb
 have:=hB b o1 c
 rw [e] at this;cases this
 exact c
theorem eL.on {s':Shared} (I:Inv X pins σ H s) (F:eL X.prog X.w X.stack H s ea cls H' s'):∃B t,Heap.FlyingW B X.stack ea cls (.ref t) s'.heap ∧
  ∀h2,Heap.FlyingW B X.stack ea cls (.ref t) h2→s'.heap.UpToSlots h2→eL X.prog X.w X.stack H s ea cls H' { s' with heap:=h2 }:=by
 obtain ⟨B,t,fl,cov⟩:=F.fl
 exact ⟨B,t,fl,λh2 fl2 up=>⟨F.os,F.bare,k9 I F.un cov fl2.1 up,k8 I F.un cov fl2.1 F.hok,B,t,fl2,nv F.un F.hok cov fl2.1⟩⟩
theorem o4 {s2:Shared} (I:Inv X pins σ H s) (hst:X.stack=X.env :: X.outer) (hfr:X.env.frame=some X.env.locals) (hex:X.ex=[]) (os:s2.os=s.os) (bare:AllBare s2.gens) (un:Un (cV X.stack) [] H H' s.heap s2.heap)
  (ok:fK X.prog X.w H' s2.heap) (cov:∀b o,s2.heap.get? b=some o→(H' b≠none∨∃o₀,s.heap.get? b=some o₀)→b ∉ cV X.stack→B.get? b=some o) (fl:Heap.FlyingW B X.outer ea cls (.ref t) s2.heap) :
  eL X.prog X.w X.outer X.H₀ X.s₀ ea cls H' s2:=by
 have nst:∀b o,X.s₀.heap.get? b=some o→b ∉ X.fs→b ∉ cV X.stack:=λb o e nb hb=>by
  rcases D6.mp (I.fi b hb) with z | z
  ·have:=D4 (Heap.lt_size e) I.ok.above
   rw [z] at this
   exact Ew _ this
  ·exact nb z
 have sub:∀b,b∈X.fs→b∈cV X.stack:=λb hb=>by rw [hst];unfold cV;rw [EJ,hfr];exact D8 _ hb
 have nx:∀b:Addr,b ∉ X.ex:=λb=>by rw [hex];simp
 refine ⟨os.trans I.os,bare,⟨λb o e n hb _=>?_,λb o e n hb _=>?_,λb o e n _=>?_,λb o e _=>?_,λb xs q=>un.tups b xs (I.base.tups b xs q),λb o xs q=>un.frzs b o xs (I.base.frzs b o xs q),λb ps q=>?_⟩,ok,B,t,fl,λb o e hb nb=>?_⟩
 ·exact un.keep b o (I.base.keep b o e n hb (nx b)) (I.base.free b o e n (nx b)) (nst b o e hb) (by simp)
 ·obtain ⟨sl,e1⟩:=I.base.slot b o e n hb (nx b)
  obtain ⟨sl',e2⟩:=un.slot b _ e1 (I.base.free b o e n (nx b)) (sub b hb) (by simp)
  exact ⟨sl',e2⟩
 ·obtain ⟨o',e1⟩:=I.base.there b o e (nx b)
  exact un.free b o' e1 (I.base.free b o e n (nx b)) (by simp)
 ·obtain ⟨o',e1⟩:=I.base.there b o e (nx b)
  exact un.there b o' e1 (by simp)
 ·obtain ⟨m1,e1⟩:=I.base.tbls b ps q
  obtain ⟨m2,e2⟩:=un.tbls b _ e1
  exact ⟨m1 ++ m2,by rw [e2,Array.append_assoc]⟩
 ·rcases hb with z | ⟨o₀,z⟩
  ·exact cov b o e (.inl z) λhb=>z (b_ I un hb).1
  ·obtain ⟨o1,e1⟩:=I.base.there b o₀ z (nx b)
   exact cov b o e (.inr ⟨o1,e1⟩) (nst b o₀ z nb)
theorem qB {E:XK} {e:Value} {s':Shared} {R:Value→Shared→Prop} (I:Inv X pins σ H s) (hst:X.stack=X.env :: X.outer) (hfr:X.env.frame=some X.env.locals) (hex:X.ex=[]) (h:cU X.prog X.w X.stack H s E e s') :
  wpAny (model X.prog X.w) X.A (leaving X.env e) (λ_ s''=>cU X.prog X.w X.outer X.H₀ X.s₀ E e s'') R s':=by
 obtain ⟨ea,cls,H',rfl,F,q⟩:=h
 obtain ⟨B,t,fl,cov⟩:=F.fl
 refine wpAny_leaves_onW (by rw [I.ok.frames,hst]) hfr (hst ▸ fl) λh2 fl2 up=>?_
 exact ⟨ea,cls,H',rfl,o4 (s2:={ s' with heap:=h2 }) I hst hfr hex F.os F.bare (k9 I F.un cov fl2.1 up) (k8 I F.un cov fl2.1 F.hok) (nv F.un F.hok cov fl2.1) fl2,q⟩
theorem leave_new {E:XK} {e C:Addr} {args:List Value} {h':Heap} {R:Value→Shared→Prop} (I:Inv X pins σ H s) (hst:X.stack=X.env :: X.outer) (hfr:X.env.frame=some X.env.locals) (hex:X.ex=[])
  (hx:Heap.MadeExcOf s.heap h' e (.ref C) args) (q:E (.ref C) none H) :
  wpAny (model X.prog X.w) X.A (leaving X.env (.ref e)) (λ_ s''=>cU X.prog X.w X.outer X.H₀ X.s₀ E (.ref e) s'') R { s with heap:=h' }:=by
 have hin:∀env∈X.env :: X.outer,∀a,env.frame=some a→a∈cV X.stack:=λenv he a ha=>by rw [hst];exact EX.mpr ⟨env,he,ha⟩
 have cov:∀b o,s.heap.get? b=some o→(H b≠none∨∃o₀,s.heap.get? b=some o₀)→b ∉ cV X.stack→(PySem.W.hideAll s.heap (cV X.stack)).get? b=some o:=λb o e _ nb=>PySem.W.hideAll_get _ e nb
 refine wpAny_leaves_madeW (base:=PySem.W.hideAll s.heap (cV X.stack)) (by rw [I.ok.frames,hst]) hfr (λb o z=>PySem.W.of_hideAll _ z) (PySem.W.funFrames_hide (hst ▸ I.stack) hin) hx λh2 t fl _ _ up=>?_
 have up2:s.heap.UpToSlots h2:=(Heap.UpToSlots.of_keeps hx.keeps).trans up
 exact ⟨e,.ref C,H,rfl,o4 (s2:={ s with heap:=h2 }) I hst hfr hex rfl I.bare (k9 I Un.refl cov fl.1 up2) (k8 I Un.refl cov fl.1 I.hok) (nv Un.refl I.hok cov fl.1) fl,q⟩
end
abbrev BS:List Value:=[.type "ValueError",.type "Exception",.type "BaseException",.type "object"]
structure Own (K:PySem.W.Frag) (mg:Str→Option Value) (x:Str) (C:Addr):Prop where
 mg:mg x=some (.ref C)
 own:PySem.W.excIn K C BS "ValueError.__new__"=true
 xc:iJ K C
theorem vz {K:PySem.W.Frag} {h:Heap} {C:Addr} {bmB:List Value} {newId:String} (X:K.In h) (q:PySem.W.excIn K C bmB newId=true) :
  ∃bm N nm qn bs hd sn sub ab col dd k0 k1 k2 k3 k5 mN,h.get? C=some (excClassObj nm qn C N bs bm hd sn sub ab col dd k0 k1 k2 k3 k5 newId)∧h.Ns N mN∧mN "__init__"=none∧OwnTail h bmB bm:=by
 unfold PySem.W.excIn at q
 split at q
 ·next dd cd sl ho =>
  split at q
  ·next C' bm k0 k1 k2 k3 n k5 hm hs =>
   simp only [beq_iff_eq,Eh,FC] at q
   obtain ⟨⟨⟨⟨⟨rfl,rfl⟩,e3⟩,e4⟩,e5⟩,e6⟩:=q
   cases cd with
   | mk nm bs mro ns qn hd sn sub ab col del =>
    have hm:mro=.ref C' :: bm:=hm
    have e3:del=false:=e3
    subst hm;subst e3
    have hsl:sl=#[k0,k1,k2,k3,some (.builtin n),k5]:=Array.toList_inj.mp hs
    subst hsl
    exact ⟨bm,ns,nm,qn,bs,hd,sn,sub,ab,col,dd,k0,k1,k2,k3,k5,_,X _ _ ho,.of_isNs (PySem.W.isNs_of_in X e5),PySem.W.nsMap_none_of_in X e5 e6,PySem.W.tail_of_in X e4⟩
  ·cases q
 ·cases q
def y9 (C:Addr) (E:XK) (t:TA):TS:=λ_ σ H=>t σ H λvs H1=>vs.length≤sizeLine∧E (.ref C) none H1
def Throws (X:Cx) (E:XK):Prop:=∀(pins:List (Addr × Obj)) (σ:L2.St) (H:Hp) (s:Shared) (e C:Addr) (args:List Value) (h':Heap),Inv X pins σ H s→Heap.MadeExcOf s.heap h' e (.ref C) args→E (.ref C) none H→X.xe (.ref e) { s with heap:=h' }
theorem qW {X:Cx} {E:XK} {x:Str} {C:Addr} {e:Expr} {es:List Expr} {np cpos pos:Pos} {t:TA} (O:Own X.K X.mg x C) (hc:X.calm=true) (hx:Throws X E) (hg:Gl X x) (ha:PA X (e :: es) t)
  (hd:(x == ("__debug__":Str))=false:=by decide) (he:starEach (e :: es) X.env=(false,eval e X.env) :: starEach es X.env:=by rfl) (hpl:(backTo cpos (starEach es X.env)).any (·.1)=false:=by rfl) :
  PS X (.Raise (some (.Call (.Name x np) (e :: es) [] cpos)) none pos) (y9 C E t):=by
 intro pins s σ H D I h
 obtain ⟨bm,N,nm,qn,bs,hd',sn,sub,ab,col,dd,k0,k1,k2,k3,k5,mN,hC,hN,hni,T⟩:=vz I.mod.kin O.own
 have hplain:(backTo cpos (starEach (e :: es) X.env)).any (·.1)=false:=by
  rw [he]
  show (false || (backTo cpos (starEach es X.env)).any (·.1))=false
  rw [hpl];rfl
 refine wpAny_Raise_call_subT (C:=C) (N:=N) (nm:=nm) (q:=qn) (bs:=bs) (hdct:=hd') (sn:=sn) (sub:=sub) (ab:=ab) (col:=col) (dd:=dd) (k0:=k0) (k1:=k1) (k2:=k2) (k3:=k3) (k5:=k5) PySem.F.excBase_ValueError (T.hasType (by decide +kernel)) (I.ok.hd hc) hplain hni ?_
 refine iS I hg O.mg ⟨rfl,?_⟩ hd
 have key:=bA (ha cpos pins s σ H _ I h) (Q':=λus s1=>us.length≤sizeLine∧s1.heap.get? C=some (excClassObj nm qn C N bs bm hd' sn sub ab col dd k0 k1 k2 k3 k5 "ValueError.__new__")∧s1.heap.Ns N mN∧OwnTail s1.heap BS bm ∧
  ∀h' e,Heap.MadeExcOf s1.heap h' e (.ref C) us→X.xe (.ref e) { s1 with heap:=h' }) λus s1 ⟨vs,H1,I1,r,z,q⟩ =>
   ⟨by rw [← r.length];exact z,I1.bk _ _ hC,hN.keeps I1.bk,T.keeps I1.bk,λh' ea hm=>hx pins σ H1 s1 ea C us h' I1 hm q⟩
 rw [he] at key ⊢
 exact PySem.Calls.evalArgs_plain (bA key λ_ _ z=>⟨rfl,z⟩)
section
variable {P:Program} {w:World} {K:PySem.W.Frag} {mg:Str→Option Value} {base:Heap} {N:List Str} {qual:Str} {scope:Scope} {f:Addr} {cd:Value} {A:Around} {outer:List Env} {s:Shared} {H:Hp} {E:XK}
abbrev l5 (P:Program) (w:World) (K:PySem.W.Frag) (mg:Str→Option Value) (base:Heap) (N:List Str) (qual:Str) (scope:Scope) (f:Addr) (cd:Value) (A:Around) (outer:List Env) (s:Shared) (H:Hp) (E:XK):Cx:=kY (cU P w) P w K mg base N qual scope f cd A outer s H E
theorem cy:Throws (l5 P w K mg base N qual scope f cd A outer s H E) E:=λpins σ H1 s1 e C args h' I hm q =>
 leave_new (X:=l5 P w K mg base N qual scope f cd A outer s H E) I rfl rfl rfl hm q
theorem jh:Passes (cU P w) (l5 P w K mg base N qual scope f cd A outer s H E) E:=λpins σ H1 s1 e s' I h =>
 qB (X:=l5 P w K mg base N qual scope f cd A outer s H E) I rfl rfl rfl h
theorem dD:PassesOwn (model P w) (l5 P w K mg base N qual scope f cd A outer s H E).A (l5 P w K mg base N qual scope f cd A outer s H E).env (l5 P w K mg base N qual scope f cd A outer s H E).xe:=PassesOwn.leaving
theorem DU {x qual:Str} {st:Stmt} {f:Addr} {fd:FuncData} {N ps:List Str} {k:Nat} {sp:Sp} (F:cu K x qual st f fd) (S:ax N ps (aj st)) (len:∀vs H Q E,sp vs H Q E→vs.length=ps.length)
  (hbody:∀(cdv:Value) (A:Around) (outer:List Env) (s:Shared) (H:Hp) (vs:List V) (Q:VK) (E:XK),bj k (A.deeper (envOfC qual (aj st) s.heap.objs.size f cdv))→sp vs H Q E →
   ∃t,QB (l5 P w K mg base N qual (aj st) f cdv A outer s H E) (bg st) t∧t { nx:=λ_ H'=>Q .non H',rt:=Q } (start N vs) H):aM P w K mg base (cU P w) (k + 1) f fd ps sp:=by
 obtain ⟨oc,od,kV,doc,pm,an,cdv,ct,osl,rfl,lk,hcd⟩:=F.ex
 refine o5 lk hcd S len λA outer s H vs Q E hr hsp=>?_
 obtain ⟨t,h,q⟩:=hbody cdv A outer s H vs Q E hr hsp
 exact ⟨t,h.run,q⟩
end
def rm (P:Program) (w:World) (K:PySem.W.Frag) (mg:Str→Option Value) (base:Heap) (k:Nat) (x:Str) (ps:List Str) (sp:Sp):Prop :=
 ∃f fd,aM P w K mg base (cU P w) k f fd ps sp∧Binds K fd ps []∧PySem.W.keepIn K (.ref f)=true∧mg x=some (.ref f)
theorem vA {X:Cx} {k k':Nat} {x:Str} {ps:List Str} {sp:Sp} {p pos:Pos} {e:Expr} {es:List Expr} {t:TA} {E:XK} (C:rm X.prog X.w X.K X.mg X.base k x ps sp) (hx:Passes (cU X.prog X.w) X E) (hr:bj k' X.A) (hk:k≤k') (hg:Gl X x) (ha:PA X (e :: es) t)
  (hdb:(x == ("__debug__":Str))=false:=by decide) (he:starEach (e :: es) X.env=(false,eval e X.env) :: starEach es X.env:=by rfl) (hpl:(backTo pos (starEach es X.env)).any (·.1)=false:=by rfl) :
  PE X (.Call (.Name x p) (e :: es) [] pos) (jT sp [] E t):=by
 obtain ⟨f,fd,F,b,kp,m⟩:=C
 exact pG F (hr.mono hk) hg m kp b .nil hx ha hdb he hpl
theorem Def.BU {P:Program} {w:World} {K:PySem.W.Frag} {mg:Str→Option Value} {base:Heap} {x:Str} {st:Stmt} {k:Nat} {ps:List Str} {sp:Sp} (D:Def K mg x st)
  (h:∀f fd,cu K x x st f fd→aM P w K mg base (cU P w) k f fd ps sp)
  (hb:∀(kV doc pm:Value) (an:Option Addr) (cdv ct:Value) (us:List Value),us.length=ps.length→bindArgs (PySem.W.fnOf x x (bW st) (bg st) (aj st) .none kV doc pm an cdv ct) ⟨us,[]⟩=pure (ps.zip us)) :
  rm P w K mg base k x ps sp:=by
 obtain ⟨f,fd,F,m⟩:=D
 exact ⟨f,fd,h f fd F,F.binds hb,F.kp,m⟩
section
variable {X:Cx} {pins pn:List (Addr × Obj)} {σ:L2.St} {H H':Hp} {s:Shared}
abbrev xK (X:Cx) (pn:List (Addr × Obj)) (xe:Value→Shared→Prop):Cx:={ X with pn:=pn,xe:=xe }
abbrev zr (X:Cx) (pn:List (Addr × Obj)) (e:Addr):Cx:={ X with A:=X.A.mark (some (.ref e)),calm:=false,pn:=pn,xe:=λ_ _=>False }
theorem Cq {X:Cx} (ok:X.Ok) (pn:List (Addr × Obj)) (xe:Value→Shared→Prop):(xK X pn xe).Ok :=
 ⟨ok.mod,ok.kind,ok.glob,ok.blt,ok.above,ok.inj,ok.has,ok.cab,ok.hd,ok.frames,ok.stk,ok.exf,ok.bs,ok.bsz,ok.noex,ok.exfs,ok.fG,ok.frf⟩
theorem Cp {X:Cx} (ok:X.Ok) (pn:List (Addr × Obj)) (e:Addr):(zr X pn e).Ok :=
 ⟨ok.mod,ok.kind,ok.glob,ok.blt,ok.above,ok.inj,ok.has,ok.cab,(λz=>nomatch z),ok.frames,ok.stk,ok.exf,ok.bs,ok.bsz,ok.noex,ok.exfs,ok.fG,ok.frf⟩
theorem zV (I:Inv X pins σ H s) (xe:Value→Shared→Prop):Inv (xK X (X.pn ++ pins) xe) [] σ H s :=
 ⟨Cq I.ok _ xe,I.os,I.bare,I.base,I.loc,I.cell,I.free,I.freeC,λp hp=>I.pin p (by simpa using hp),I.hok,I.len⟩
theorem gH {pins1:List (Addr × Obj)} {xe:Value→Shared→Prop} (ok:X.Ok) (I:Inv (xK X (X.pn ++ pins) xe) pins1 σ H s):Inv X pins σ H s :=
 ⟨ok,I.os,I.bare,I.base,I.loc,I.cell,I.free,I.freeC,λp hp=>I.pin p (ET _ hp),I.hok,I.len⟩
theorem wy (I:Inv X pins σ H s) (e:Addr):Inv (zr X (X.pn ++ pins) e) [] σ H s :=
 ⟨Cp I.ok _ e,I.os,I.bare,I.base,I.loc,I.cell,I.free,I.freeC,λp hp=>I.pin p (by simpa using hp),I.hok,I.len⟩
theorem iQ {pins1:List (Addr × Obj)} {e:Addr} (ok:X.Ok) (I:Inv (zr X (X.pn ++ pins) e) pins1 σ H s):Inv X pins σ H s :=
 ⟨ok,I.os,I.bare,I.base,I.loc,I.cell,I.free,I.freeC,λp hp=>I.pin p (ET _ hp),I.hok,I.len⟩
theorem g8 {M:Model} {A:Around} {E:Value→Shared→Prop} {i:Nat} {n:Str} {pos:Pos} {Q:Unit→Shared→Prop} (I:Inv X pins σ H s) (hN:X.N.Nodup) (hi:X.N[i]?=some n) (hk:X.env.kindOf n=some .local)
  (h:∀s',Inv X pins (σ.set i none) H s'→Q () s'):wpAny M A (do bindName X.env n .none;unbindBehindTheSuite X.env n pos) Q E s:=by
 obtain ⟨m,hn,hl⟩:=id I.loc
 have hcl:(X.env.scope.kind == .class || (X.env.scope.kind == .module && X.env.locals != X.env.globals))=false:=by rw [I.ok.kind];rfl
 have ne:∀b o,X.s₀.heap.get? b=some o→b≠X.env.locals:=λb o e=>Ej (D4 (Heap.lt_size e) I.ok.above)
 have hiσ:i < σ.length:=by rw [I.len];exact (D'.mp hi).1
 refine wpAny_nameGoes_keeps hk hn hcl λh' v hn' hs=>?_
 refine h _ ⟨I.ok,I.os,I.bare,⟨λb o e n hb hx=>(hs.2 b (ne b o e)).trans (I.base.keep b o e n hb hx),λb o e n hb hx=>?_,I.base.free,λb o e hx=>?_,I.base.tups,I.base.frzs,I.base.tbls⟩,
  ⟨_,hn',λj y v' e1 e2 e3=>?_⟩,λy c e=>?_,I.free,I.freeC,λp hp=>?_,λb ob e=>?_,by simpa using I.len⟩
 ·obtain ⟨sl,e1⟩:=I.base.slot b o e n hb hx
  exact ⟨sl,(hs.2 b (ne b o e)).trans e1⟩
 ·obtain ⟨o',e1⟩:=I.base.there b o e hx
  exact ⟨o',(hs.2 b (ne b o e)).trans e1⟩
 ·by_cases hj:j=i
  ·subst hj
   rw [Eg hiσ] at e2
   cases e2
  ·rw [EA (Ne.symm hj)] at e2
   obtain ⟨u',r',q⟩:=hl j y v' e1 e2 e3
   refine ⟨u',r',?_⟩
   rcases q with ⟨k,e⟩ | ⟨k,c,e,z⟩
   ·refine .inl ⟨k,?_⟩
    have hy:y≠n:=λe=>hj (jz hN e1 (e ▸ hi))
    simp [hy,e]
   ·exact .inr ⟨k,c,e,z.sameBut hs (I.uJ y c e)⟩
 ·obtain ⟨w',z⟩:=I.cell y c e
  exact ⟨w',z.sameBut hs (I.uJ y c e)⟩
 ·obtain ⟨e,n,nl,nf,d⟩:=I.pin p hp
  exact ⟨(hs.2 p.1 nl).trans e,n,nl,nf,d⟩
 ·refine (I.hok b ob e).j' (λc w' hc q=>(hs.2 c ?_).trans q) (λ_ q=>q) λ_ _ q=>q
  rintro rfl
  rcases hc with z | hc
  ·rw [← z,I.free] at e;cases e
  ·rw [I.free] at hc;cases hc
theorem nD {ea D:Addr} {oe:Obj} {vs:Array Value} (I:Inv X pins σ H s) (he:s.heap.get? ea=some oe) (hc:oe.cls=.ref D) (hd:oe.data=.fields vs) (hn:H ea=none) (h0:X.s₀.heap.get? ea=none) (hp:∀p∈X.pn ++ pins,p.1≠ea) :
  Inv X pins σ (upd H ea (.ext (ExcAt ea D))) s:=by
 have nl:X.env.locals≠ea:=λz=>by
  obtain ⟨m,⟨o,es,ep,ho,hd',_⟩,_⟩:=I.loc
  rw [z,he] at ho;cases ho;rw [hd] at hd';cases hd'
 refine ⟨I.ok,I.os,I.bare,⟨I.base.keep,I.base.slot,λb o e n hx=>?_,I.base.there,λb xs q=>?_,λb o xs q=>?_,λb ps q=>?_⟩,I.loc,I.cell,?_,λx c e=>?_,λp hq=>?_,λb u q=>?_,I.len⟩
 ·rw [aB (λz=>by rw [z,h0] at e;cases e)]
  exact I.base.free b o e n hx
 ·have:=I.base.tups b xs q
  rw [aB (aR this hn)];exact this
 ·have:=I.base.frzs b o xs q
  rw [aB (aR this hn)];exact this
 ·obtain ⟨m,z⟩:=I.base.tbls b ps q
  exact ⟨m,by rw [aB (aR z hn)];exact z⟩
 ·rw [aB nl];exact I.free
 ·rw [aB]
  ·exact I.freeC x c e
  ·rintro rfl
   obtain ⟨v,o,ho,hd'⟩:=I.cell x c e
   rw [he] at ho;cases ho;rw [hd] at hd';cases hd'
 ·obtain ⟨e,n,r⟩:=I.pin p hq
  exact ⟨e,by rw [aB (hp p hq)];exact n,r⟩
 ·by_cases hb:b=ea
  ·subst hb
   rw [aq] at q;cases q
   exact ⟨⟨oe,he,hc⟩,⟨oe,he⟩,λh1 h2 ⟨o,a,c⟩ k=>⟨o,k o a,c⟩⟩
  ·rw [aB hb] at q
   exact (I.hok b u q).j' (λ_ _ _ z=>z) (λc z=>by rw [aB (aR z hn)];exact z) λc xs z=>by rw [aB (aR z hn)];exact z
theorem eL.new {ea:Addr} {cls:Value} {s':Shared} (I:Inv X pins σ H s) (F:eL X.prog X.w X.stack H s ea cls H' s'):H' ea=none∧s.heap.get? ea=none:=by
 obtain ⟨B,t,fl,cov⟩:=F.fl
 obtain ⟨oe,vs,he,_,hd,_⟩:=fl.first
 have nf:ea ∉ cV X.stack:=λhb=>by
  obtain ⟨_,o,ho,hn⟩:=b_ I F.un hb
  rw [he] at ho;cases ho
  exact hn vs hd
 have no:¬ (H' ea≠none∨∃o₀,s.heap.get? ea=some o₀):=λz=>by
  have:=cov ea oe he z nf
  rw [fl.2.1] at this;cases this
 refine ⟨?_,?_⟩
 ·cases q:H' ea with
  | none=>rfl
  | some u=>exact absurd (.inl (by rw [q];exact λz=>nomatch z)) no
 ·cases q:s.heap.get? ea with
  | none=>rfl
  | some u=>exact absurd (.inr ⟨u,q⟩) no
def CU (K:PySem.W.Frag) (N:Nat) (CW:Addr) (i:Nat) (tb:XK→TS) (ts:TS):TS:=λD σ H=>tb (λcls _ H'=>∃C,cls=.ref C∧PySem.W.exmOne K (.ref C) (.ref CW)=some true ∧
 ∀ea,H' ea=none→ts { nx:=λσ' H2=>D.nx (σ'.set i none) H2,rt:=D.rt,bk:=λσ' H2=>D.bk (σ'.set i none) H2,ct:=λσ' H2=>D.ct (σ'.set i none) H2 } ((Ea N none).set i (some (.ref ea))) (upd H' ea (.ext (ExcAt ea C)))) D σ H
theorem vF {body suite:List Stmt} {b₀:Stmt} {x n:Str} {i:Nat} {CW:Addr} {tb:XK→TS} {ts:TS} {np hpos pos:Pos} (hst:X.stack=X.env :: X.outer) (hfr:X.env.frame=some X.env.locals) (hex:X.ex=[]) (hg:Gl X x) (hm:X.mg x=some (.ref CW))
  (hN:X.N.Nodup) (hi:X.N[i]?=some n) (hk:X.env.kindOf n=some .local) (hb:∀pn xe E,Passes (cU X.prog X.w) (xK X pn xe) E→j3 (xK X pn xe) body (tb E)) (hs:∀pn ea,j3 (zr X pn ea) (b₀ :: suite) ts) (hd:(x == ("__debug__":Str))=false:=by decide) :
  PS X (.Try body [.ExceptHandler (some (.Name x np)) (some n) (b₀ :: suite) hpos] [] [] pos) (CU X.K X.N.length CW i tb ts):=by
 intro pins s σ H D I h
 refine wpAny_Try_except ?_
 refine wpAny_mono (hb (X.pn ++ pins) (λe s₁=>wpAny (model X.prog X.w) X.A (noteFrame e X.env) (λ_ s₂=>wpAny (model X.prog X.w) X.A (setFlight e none) (λ_ s₃ =>
  wpAny (model X.prog X.w) X.A (handleBy e X.env [.ExceptHandler (some (.Name x np)) (some n) (b₀ :: suite) hpos]) (SP X pins D) X.xe s₃) X.xe s₂) X.xe s₁) _ ?pass [] s σ H D (zV I _) h) (λf s1 q=>?_) (λ_ _ z=>z)
 case pass =>
  intro pins1 σ1 H1 s1 e s' I1 hf
  obtain ⟨ea,cls,H2,rfl,F,C,rfl,em,k⟩:=hf
  have J1:Inv X pins σ1 H1 s1:=gH I.ok I1
  have F:eL X.prog X.w X.stack H1 s1 ea (.ref C) H2 s':=F
  obtain ⟨hn,hnew⟩:=eL.new J1 F
  obtain ⟨B,t,fl,on⟩:=eL.on J1 F
  have h0:X.s₀.heap.get? ea=none:=by
   cases q:X.s₀.heap.get? ea with
   | none=>rfl
   | some o =>
    obtain ⟨o',e1⟩:=J1.base.there ea o q (by rw [hex];simp)
    rw [hnew] at e1;cases e1
  refine wpAny_looks_onW (by rw [I.ok.frames,hst]) hfr (hst ▸ fl) λh4 held4 up4=>?_
  refine wpAny_landsW held4 λh5 fl5 up5=>?_
  have F5:=on h5 (hst ▸ fl5) (up4.trans up5)
  have J5:Inv X pins σ1 H2 { s' with heap:=h5 }:=J1.rT F5.os F5.un F5.hok F5.bare (λb z=>absurd z (by simp))
  have Y5:=wy J5 ea
  refine wpAny_handleBy_cons (codeAny_handlers_test (iS Y5 hg hm ?_ hd)) (by intro q;cases q)
  obtain ⟨ob,hob,hobc⟩:=fl5.there
  have LT:PySem.W.Looks (model X.prog X.w) h5 (typeOf (.ref ea)) (.ref C):=ExcAt.ty ⟨ob,hob,hobc⟩
  refine (PySem.W.exm_one Y5.jX LT em).here ?_
  refine codeAny_handlers_suite_as ?_
  refine lands_againW fl5 λh6 fl6 up6=>?_
  have F6:=on h6 (hst ▸ fl6) ((up4.trans up5).trans up6)
  have J6:Inv X pins σ1 H2 { s' with heap:=h6 }:=J1.rT F6.os F6.un F6.hok F6.bare (λb z=>absurd z (by simp))
  obtain ⟨oe,vs,hoe,hoec,hoed,_⟩:=fl6.first
  have J7:=nD J6 hoe hoec hoed hn h0 λp hp z=>by
   have:=(J1.pin p hp).1
   rw [z,hnew] at this;cases this
  have Y7:=wy (J7.weak (σ':=Ea X.N.length none) (by rw [ES,J7.len]) λj v z=>by
   rw [Fd] at z
   split at z <;> cases z) ea
  refine dy (X:=zr X (X.pn ++ pins) ea) Y7 hN hi (Or.inl hk) (v:=.ref ea) rfl (λs8 I8=>?_) (Or.inr hk)
  refine wpAny_noRaise (bA (hs (X.pn ++ pins) ea [] s8 _ _ _ I8 (k ea hn)) λf s9 q=>?_)
  cases f with
  | next=>obtain ⟨σ',H',I',q⟩:=q;exact g8 (iQ I.ok I') hN hi hk λ_ I9=>⟨_,_,I9,q⟩
  | brk=>obtain ⟨σ',H',I',q⟩:=q;exact g8 (iQ I.ok I') hN hi hk λ_ I9=>⟨_,_,I9,q⟩
  | cont=>obtain ⟨σ',H',I',q⟩:=q;exact g8 (iQ I.ok I') hN hi hk λ_ I9=>⟨_,_,I9,q⟩
  | ret u=>obtain ⟨v,σ',H',I',r,q⟩:=q;exact g8 (iQ I.ok I') hN hi hk λ_ I9=>⟨v,_,_,I9,r,q⟩
 ·cases f with
  | next=>obtain ⟨σ',H',I',q⟩:=q;exact wpAny_execs_nil ⟨_,_,gH I.ok I',q⟩
  | brk=>obtain ⟨σ',H',I',q⟩:=q;exact ⟨_,_,gH I.ok I',q⟩
  | cont=>obtain ⟨σ',H',I',q⟩:=q;exact ⟨_,_,gH I.ok I',q⟩
  | ret u=>obtain ⟨v,σ',H',I',r,q⟩:=q;exact ⟨v,_,_,gH I.ok I',r,q⟩
def zL:V→Option Value
 | .ref a=>some (.ref a)
 | .ty n=>some (.type n)
 | _=>none
def AU (K:PySem.W.Frag):List V→Hp→VK→Prop:=λxs H Q=>∃a D c cv b,xs=[.ref a,c]∧H a=some (.ext (ExcAt a D))∧iJ K D∧zL c=some cv∧PySem.W.kitOne K (.ref D) cv=some b∧Q (.bl b) H
theorem bw {X:Cx} {K:PySem.W.Frag} (hK:X.K=K):aZ X (.builtin "isinstance") (AU K):=by
 subst hK
 intro pins s σ H xs us Q I r h
 obtain ⟨a,D,c,cv,b,rfl,ha,xc,rc,e,q⟩:=h
 obtain ⟨u,w',rfl,rx,ry⟩:=vals2 r
 obtain rfl:u=Value.ref a:=rx
 have:w'=cv:=by
  cases c with
  | ref z=>exact (show w'=Value.ref z from ry).trans (Option.some.inj rc)
  | ty z=>exact (show w'=Value.type z from ry).trans (Option.some.inj rc)
  | _=>cases rc
 subst this
 exact PySem.W.kia_one (sE xc) I.jX (I.hok a _ ha).1 e (by intro z;cases z) λtk=>⟨.bl b,H,I.tok _,rfl,q⟩
end
end Ov
namespace Ov
open PySem PySem.Spec PyProof.Rows
open L2 (V HO Hp Inv Cx St VK TE TT TA TS Ends Loc Gl RelV Vals cn aZ jT upd E0 bj XK Passes)
section
variable {X:Cx} {e:Expr} {es:List Expr} {t:TA} {x:Str} {np cpos pos p:Pos}
end
def dF (i:Nat):Str:=(["BadName","Taken","Full","NoCraft","TooFar","BadMoment","Past","NotThere","NoWatch","NoTale"]:List Str).getD i ""
structure qj (K:PySem.W.Frag) (mg:Str→Option Value) (W:Addr) (c:Nat→Addr):Prop where
 nV:mg "ValueError"=none
 mW:mg "WaterError"=some (.ref W)
 own:∀i,i < 10→Own K mg (dF i) (c i)
 val:∀i,i < 10→PySem.W.kitOne K (.ref (c i)) (.type "ValueError")=some true
 wat:∀i,i < 10→PySem.W.exmOne K (.ref (c i)) (.ref W)=some true
 kit:∀i,i < 10→∀j,j < 10→PySem.W.kitOne K (.ref (c i)) (.ref (c j))=some (decide (i=j))
open PySem.W in
def uq (K:Frag) (D:Addr):Bool:=(clsIn K D).isSome && findIn K (.ref D) "__getattribute__" == some (some (.builtin "BaseException.__getattribute__")) && findIn K (.ref D) "__getattr__" == some none &&
 findIn K (.ref D) "__class__" == some (some (.builtin "object.__class__")) && specialIn K (.builtin "object.__class__") "__get__" == some (some (.builtin "getset_descriptor.__get__")) && takesIn K (.builtin "object.__class__") == some true &&
 mroIn K D (.type "object") == some true && subIn K (.ref D) (.type "BaseException") == some true
theorem wd {K:PySem.W.Frag} {D:Addr} (h:uq K D=true):iJ K D:=by
 simp only [uq,Eh,beq_iff_eq] at h
 obtain ⟨⟨⟨⟨⟨⟨⟨a,b⟩,c⟩,d⟩,e⟩,f⟩,g⟩,i⟩:=h
 exact ⟨a,b,c,d,e,f,g,i⟩
open PySem.W in
def zS (K:Frag) (W:Addr) (cs:List Addr):Bool:=cs.length == 10 && (Ey 10).all λi=>excIn K (cs.getD i 0) BS "ValueError.__new__" && uq K (cs.getD i 0) && kitOne K (.ref (cs.getD i 0)) (.type "ValueError") == some true &&
 exmOne K (.ref (cs.getD i 0)) (.ref W) == some true && (Ey 10).all λj=>kitOne K (.ref (cs.getD i 0)) (.ref (cs.getD j 0)) == some (decide (i=j))
theorem uQ {K:PySem.W.Frag} {h:Heap} {mg:Str→Option Value} (X:K.In h) (G:h.Ns mainGlobals mg) {W c0 c1 c2 c3 c4 c5 c6 c7 c8 c9:Addr} (v:PySem.W.nsIn K mainGlobals "ValueError"=some none) (w:PySem.W.nsIn K mainGlobals "WaterError"=some (some (.ref W)))
  (a0:PySem.W.nsIn K mainGlobals "BadName"=some (some (.ref c0))) (a1:PySem.W.nsIn K mainGlobals "Taken"=some (some (.ref c1))) (a2:PySem.W.nsIn K mainGlobals "Full"=some (some (.ref c2))) (a3:PySem.W.nsIn K mainGlobals "NoCraft"=some (some (.ref c3)))
  (a4:PySem.W.nsIn K mainGlobals "TooFar"=some (some (.ref c4))) (a5:PySem.W.nsIn K mainGlobals "BadMoment"=some (some (.ref c5))) (a6:PySem.W.nsIn K mainGlobals "Past"=some (some (.ref c6))) (a7:PySem.W.nsIn K mainGlobals "NotThere"=some (some (.ref c7)))
  (a8:PySem.W.nsIn K mainGlobals "NoWatch"=some (some (.ref c8))) (a9:PySem.W.nsIn K mainGlobals "NoTale"=some (some (.ref c9))) (b:zS K W [c0,c1,c2,c3,c4,c5,c6,c7,c8,c9]=true):∃W c,qj K mg W c:=by
 have m:∀i,i < 10→mg (dF i)=some (.ref ([c0,c1,c2,c3,c4,c5,c6,c7,c8,c9].getD i 0)):=λi hi=>by
  match i,hi with
  | 0,_=>exact PySem.W.mg_of X G a0
  | 1,_=>exact PySem.W.mg_of X G a1
  | 2,_=>exact PySem.W.mg_of X G a2
  | 3,_=>exact PySem.W.mg_of X G a3
  | 4,_=>exact PySem.W.mg_of X G a4
  | 5,_=>exact PySem.W.mg_of X G a5
  | 6,_=>exact PySem.W.mg_of X G a6
  | 7,_=>exact PySem.W.mg_of X G a7
  | 8,_=>exact PySem.W.mg_of X G a8
  | 9,_=>exact PySem.W.mg_of X G a9
 unfold zS at b
 have b:=(Bool.and_eq_true_iff.mp b).2
 have k:∀i,i < 10→_:=λi hi=>Em.mp b i (EM.mpr hi)
 simp only [Eh,beq_iff_eq,Em,EM] at k
 exact ⟨W,λi=>[c0,c1,c2,c3,c4,c5,c6,c7,c8,c9].getD i 0,PySem.W.mg_none_of X G v,PySem.W.mg_of X G w,λi hi=>⟨m i hi,(k i hi).1.1.1.1,wd (k i hi).1.1.1.2⟩,λi hi=>(k i hi).1.1.2,λi hi=>(k i hi).1.2,λi hi j hj=>(k i hi).2 j hj⟩
open L2 (m_ q_ cq oE oF tC vW iB)
def kZ (i:Nat):List V:=.bl true :: (Ey 10).map λj=>.bl (decide (i=j))
abbrev tI (K:PySem.W.Frag) (m:Nat) (v:V):TE:=vW (AU K) (cq (oF m) (cq (tC v) oE))
theorem fj {K:PySem.W.Frag} {m ea:Nat} {D:Addr} {v:V} {cv:Value} {b:Bool} {σ:L2.St} {H:Hp} {Q:VK} (hσ:σ[m]?=some (some (.ref ea))) (hH:H ea=some (.ext (ExcAt ea D))) (xc:iJ K D) (hv:zL v=some cv) (hk:PySem.W.kitOne K (.ref D) cv=some b) (q:Q (.bl b) H) :
  tI K m v σ H Q:=⟨_,hσ,ea,D,v,cv,b,rfl,hH,xc,hv,hk,q⟩
theorem ue {K:PySem.W.Frag} {mg:Str→Option Value} {W:Addr} {c:Nat→Addr} (Er:qj K mg W c) {i m n:Nat} {ea:Addr} (hi:i < 10) {σ:L2.St} {H:Hp} {D:Ends} (hσ:σ[m]?=some (some (.ref ea))) (hH:H ea=some (.ext (ExcAt ea (c i))))
  (q:∀l,H l=none→D.nx (σ.set n (some (.ref l))) (upd H l (.lst (kZ i)))) :
  m_ (q_ (cq (tI K m (.ty "ValueError")) (cq (tI K m (.ref (c 0))) (cq (tI K m (.ref (c 1))) (cq (tI K m (.ref (c 2))) (cq (tI K m (.ref (c 3))) (cq (tI K m (.ref (c 4))) (cq (tI K m (.ref (c 5))) (cq (tI K m (.ref (c 6))) (cq (tI K m (.ref (c 7)))
   (cq (tI K m (.ref (c 8))) (cq (tI K m (.ref (c 9))) oE)))))))))))) (iB n) D σ H:=by
 have xc:=(Er.own i hi).xc
 have k:=Er.kit i hi
 refine fj hσ hH xc rfl (Er.val i hi) (fj hσ hH xc rfl (k 0 (by decide)) (fj hσ hH xc rfl (k 1 (by decide)) (fj hσ hH xc rfl (k 2 (by decide)) (fj hσ hH xc rfl (k 3 (by decide)) (fj hσ hH xc rfl (k 4 (by decide))
  (fj hσ hH xc rfl (k 5 (by decide)) (fj hσ hH xc rfl (k 6 (by decide)) (fj hσ hH xc rfl (k 7 (by decide)) (fj hσ hH xc rfl (k 8 (by decide)) (fj hσ hH xc rfl (k 9 (by decide)) ?_))))))))))
 exact ⟨(by show 11≤sizeLine;decide),λl hl=>q l hl⟩
theorem _root_.L2.bj.av {k:Nat} {A:Around} (r:bj k A):A.units + 61 < cLine:=by have:=r.un;omega
end Ov
namespace Ov
open PySem PySem.Spec PyProof.Rows L2
def b8 (P:Addr) (h:Heap):Prop:=∃ps:Array Value,h.get? P=some { cls:=.none,data:=.fields ps }∧TriplesOk ps.toList
def i9 (K:PySem.W.Frag) (c P:Addr):Prop:=c≠P∧∃(o:Obj) (vs:Array Value) (file:Str) (tf:Tok) (flags:Int) (tg:Tok) (inF:Bool) (text:Int) (tt:Tok),
 K.lookup c=some o∧o.cls=.type "code"∧o.data=.fields vs∧vs[11]?=some (.ref P)∧vs.getD 18 .none=.str file tf∧vs.getD 7 .none=.int flags tg∧vs.getD 9 .none=.bool inF∧vs.getD 10 .none=.int text tt
def BMain (mg:Str→Option Value) (h:Heap):Prop:=∃bm ob,mg "__builtins__"=some (.ref bm)∧bm≠builtinsNs∧h.get? bm=some ob∧ob.cls=.type "module"∧ob.dict=some builtinsNs∧ob.data=.plain
theorem i9.at {K:PySem.W.Frag} {h:Heap} {c P:Addr} {ps:Array Value} (Z:i9 K c P) (X:K.In h) (hp:h.get? P=some { cls:=.none,data:=.fields ps }) (tr:TriplesOk ps.toList):h.IsCode c P ps∧h.TableAt c P ps:=by
 obtain ⟨ne,o,vs,file,tf,flags,tg,inF,text,tt,lk,hc,hd,h11,h18,h7,h9,h10⟩:=Z
 have e11:vs.getD 11 .none=.ref P:=by
  rw [Array.getD_eq_getD_getElem?,h11];rfl
 exact ⟨⟨o,vs,file,tf,flags,tg,inF,text,tt,_,X _ _ lk,hd,e11,h18,h7,h9,h10,hp,rfl,tr,ne⟩,⟨o,vs,X _ _ lk,hc,hd,h11⟩,hp⟩
section
variable {X:Cx} {pins:List (Addr × Obj)} {σ:L2.St} {H:Hp} {s:Shared} {c P:Addr}
theorem uY {s':Shared} (I:Inv X pins σ H s) (hP:H P=some (.ext (b8 P))) (os:s'.os=s.os) (bare:AllBare s'.gens) (k:∀b o,b≠P→s.heap.get? b=some o→s'.heap.get? b=some o) (t:b8 P s'.heap):Inv X pins σ H s':=by
 have nP:∀b,H b=none→b≠P:=λb n z=>by rw [z,hP] at n;cases n
 have hok:fK X.prog X.w H s'.heap:=λb u e=>by
  by_cases hb:b=P
  ·subst hb
   rw [hP] at e;cases e
   obtain ⟨ps,hp,_⟩:=id t
   exact ⟨t,⟨_,hp⟩,((I.hok b _ hP)).2.2⟩
  ·refine (I.hok b u e).j' (λd v hd q=>k d v ?_ q) (λ_ q=>q) λ_ _ q=>q
   rcases hd with rfl | hd
   ·exact hb
   ·intro z
    rw [z,hP] at hd;cases hd
 have un:Un (cV X.stack) [] H H s.heap s'.heap:=⟨λb o e n _ _=>k b o (nP b n) e,λb o e n _ _=>⟨o.slots,k b o (nP b n) e⟩,λ_ _ _ n _=>n,λb o e _=>by
  by_cases hb:b=P
  ·subst hb
   obtain ⟨ps,hp,_⟩:=t
   exact ⟨_,hp⟩
  ·exact ⟨o,k b o hb e⟩,λ_ _ q=>q,λ_ _ _ q=>q,λ_ ps q=>⟨#[],by rw [q];simp⟩⟩
 exact I.rT os un hok bare λb z=>absurd z (by simp)
theorem sr {M:Model} {A:Around} {E:Value→Shared→Prop} {env:Env} {pos:Pos} {q:Str} {sc:Scope} {Q:Value→Shared→Prop} {s:Shared} (hc:env.code=.ref c) (Z:i9 X.K c P) (kin:X.K.In s.heap) (t:b8 P s.heap)
  (h:∀code h' tk,(∀b o,b≠P→s.heap.get? b=some o→h'.get? b=some o)→s.heap.objs.size≤h'.objs.size→b8 P h'→Q code { s with heap:=h',toks:=tk }):wpAny M A (genexprCode env pos q sc) Q E s:=by
 obtain ⟨ps,hp,tr⟩:=t
 obtain ⟨ic,ta⟩:=Z.at kin hp tr
 cases hf:codeAmong pos ps.toList with
 | some c'=>exact wpAny_genexprCode_hit hc ic hf (h c' s.heap s.toks (λ_ _ _ e=>e) (D5 _) ⟨ps,hp,tr⟩)
 | none =>
  refine wpAny_genexprCodeX hc ic ta hf λc' h' tk ext l1 l2 ic' _ ta' _=>h _ h' tk (λb o nb e=>ext b o nb e) (E7 (E9 l1 l2)) ⟨_,ta'.2,?_⟩
  obtain ⟨_,_,_,_,_,_,_,_,_,_,_,_,_,_,_,_,_,hop,hpd,tr',_⟩:=ic'
  exact tr'
theorem rO {α:Type} (B:List α) (q:α→Bool):((Ey B.length).all λj=>(B[j]?).elim true q)=B.all q:=by
 rw [EI,Em,Em]
 refine ⟨λh b hb=>?_,λh j hj=>?_⟩
 ·obtain ⟨j,hj,rfl⟩:=List.getElem_of_mem hb
  have:=h j (EM.mpr hj)
  rwa [D9 hj] at this
 ·have hj:=EM.mp hj
  rw [D9 hj]
  exact h _ (EL hj)
def aY (tx:Str) (ch:Nat):Bool:=!(Builtin.Str.occurrences tx ⟨#[ch]⟩ 0 tx.length 1).isEmpty
def uf (P:Addr) (tx:Str) (ti:TE):TE:=λσ H Q=>ti σ H λv H1=>∃y:Str,v=.str y∧H1 P=some (.ext (b8 P))∧Q (.bl (y.cps.toList.all (aY tx))) H1
theorem tR {prog:Program} {w:World} {env:Env} {scope:Scope} {x g:Str} {tx y:Str} {tt:Tok} {C:Addr} {code:Value} {fp wr:List Addr} {href:Heap} {D U:Nat} {p1 p2 p3:Pos} {mg:Str→Option Value} (sck:scope.kind=.function) (hx:scope.names.lookup x=some .local) (hg:scope.names.lookup g=some .globalImplicit)
  (ns:href.Ns env.globals mg) (hm:mg g=some (.str tx tt)) (h1:env.globals∈fp) (h2:env.globals ∉ wr) (hmk:behindInMarks .In (.Name g p2)=false) (hdx:(x == ("__debug__":Str))=false) (hdg:(g == ("__debug__":Str))=false) :
  QuietGenD prog w (genEnv scope [] C code builtinsNs env) x [] (.Compare (.Name x p1) [.In] [.Name g p2] p3) fp wr (SignAt y) (λ_=>true) (λi v=>∃ch,y.cps[i]?=some ch∧v=.bool (aY tx ch)) href D U where
 tests:=λA' E' i v s₂ m₂ _ _ _ _ _ _ _=>wpAny_pure ⟨rfl,_,_,rfl,λ_ _ e=>e⟩
 elt:=λA' E' i v s₂ m₂ _ _ _ hP _ hn hmx hk=>by
  obtain ⟨ch,u,hch,rfl⟩:=hP
  refine wpAny_Compare1 (wpAny_Name (wpAny_loadName_local (show (genEnv scope [] C code builtinsNs env).scope.kind=.function from sck) (show (genEnv scope [] C code builtinsNs env).kindOf x=some .local from hx) hn hmx ?_) hdx) hmk
  refine Calls.Name_function_global (show (genEnv scope [] C code builtinsNs env).scope.kind=.function from sck) (show (genEnv scope [] C code builtinsNs env).kindOf g=some .globalImplicit from hg) (Calls.loadGlobal_global (ns.at' λo e=>hk _ h1 h2 o e) hm ?_) hdg
  exact in_str ⟨⟨ch,hch,rfl⟩,_,_,rfl,λ_ _ e=>e⟩
theorem kD {x g:Str} {p px p1 p2 p3 gpos cpos:Pos} {iter:Expr} {ti:TE} {scope:Scope} {tx:Str} {tt:Tok} (hcalm:X.calm=true) (Bm:BMain X.mg X.base) (hcode:X.env.code=.ref c) (Z:i9 X.K c P) (hdep:X.A.depth < recursionLimit)
  (hgl:Gl X "all") (hma:X.mg "all"=none) (hsg:X.mg g=some (.str tx tt)) (hi:PE X iter ti) (sck:scope.kind=.function) (hco:scope.isCoroutine=false) (hclos:closureFor scope X.env=pure []) (hcell:∀y∈scope.names,y.2≠.cell)
  (h0:scope.names.lookup (".0":Str)=some NameKind.local) (hx:scope.names.lookup x=some .local) (hsc:scope.names.lookup g=some .globalImplicit) (hmk:behindInMarks .In (.Name g p2)=false) (hs:∀x,genFold iter X.env x=pure x)
  (hst:starEach [.GeneratorExp (.Compare (.Name x p1) [.In] [.Name g p2] p3) [⟨.Name x px,iter,[],0⟩] scope gpos] X.env=[(false,eval (.GeneratorExp (.Compare (.Name x p1) [.In] [.Name g p2] p3) [⟨.Name x px,iter,[],0⟩] scope gpos) X.env)])
  (hdx:(x == ("__debug__":Str))=false) (hdg:(g == ("__debug__":Str))=false) :
  PE X (.Call (.Name "all" p) [.GeneratorExp (.Compare (.Name x p1) [.In] [.Name g p2] p3) [⟨.Name x px,iter,[],0⟩] scope gpos] [] cpos) (uf P tx ti):=by
 intro pins s σ H Q I h
 refine wpAny_Call_Name_kw (ib I hgl hma PyProof.Rows.Boot.«all» ?_)
 refine PyProof.Rows.callWith_builtin1 ?_ hst rfl
 rw [hst]
 show wpAny _ _ (spliced ((false,eval (.GeneratorExp (.Compare (.Name x p1) [.In] [.Name g p2] p3) [⟨.Name x px,iter,[],0⟩] scope gpos) X.env) :: [])) _ _ s
 refine Calls.spliced_cons ?_
 refine wpAny_GeneratorExp_walksQD (I.ok.hd hcalm) hco hclos hcell h0 hx sck hdep ?_ hs
 refine bA (hi pins s σ H _ I h) λxv s1 ⟨v,H1,I1,r1,y,ev,hP,q⟩=>?_
 subst ev
 obtain ⟨ty,rfl⟩:=r1
 have t1:b8 P s1.heap:=(I1.hok P _ hP).1
 have ltP:P < s1.heap.objs.size:=I1.hok.lt hP
 refine wpAny_pyIter_str λo St W st0=>?_
 have k1:∀b ob,s1.heap.get? b=some ob→(s1.heap.push o).get? b=some ob:=λb ob e=>Heap.get?_push_of_some _ e
 refine ⟨I1.nolimit.keeps k1,?_⟩
 have t2:b8 P (s1.heap.push o):=let ⟨ps,hp,tr⟩:=t1;⟨ps,k1 _ _ hp,tr⟩
 refine sr (X:=X) (s:={ s1 with heap:=s1.heap.push o }) hcode Z (I1.jX.keeps k1) t2 λcode h' tk k sz t'=>?_
 have kk:∀b ob,b≠P→s1.heap.get? b=some ob→h'.get? b=some ob:=λb ob nb e=>k b ob nb (k1 b ob e)
 have nsP:∀(b:Addr) (m:Str→Option Value),s1.heap.Ns b m→b≠P:=λb m hn z=>by
  obtain ⟨ob,es,ep,ho,hd,_⟩:=hn
  obtain ⟨ps,hp,_⟩:=t1
  rw [z,hp] at ho;cases ho;cases hd
 have nsK:∀(b:Addr) (m:Str→Option Value),s1.heap.Ns b m→h'.Ns b m:=λb m hn=>hn.at' λob e=>kk b ob (nsP b m hn) e
 have nsG:s1.heap.Ns X.env.globals X.mg:=by rw [I1.ok.glob];exact I1.mod.glob.keeps I1.bk
 have nl:h'.NoLimit:=let ⟨mc,h1,h2⟩:=I1.nolimit;⟨mc,nsK _ _ h1,h2⟩
 have ltC:cStatics < s1.heap.objs.size:=let ⟨mc,h1,_⟩:=I1.nolimit;h1.lt
 have szI:s1.heap.objs.size < h'.objs.size:=D4 (by rw [Heap.size_push];exact Nat.lt_succ_self _) sz
 obtain ⟨bm,ob,b1,b2,b3,b4,b5,b6⟩:=Bm
 have b3':=I1.bk _ _ b3
 have nbm:bm≠P:=λz=>by
  obtain ⟨ps,hp,_⟩:=t1
  rw [z,hp] at b3'
  rw [← Option.some.inj b3'] at b6;cases b6
 refine wpAny_builtinsFor (nsK _ _ nsG) b1 b2 (kk _ _ nbm b3') b4 b5 b6 ?_
 refine ⟨s1.heap.objs.size,[s1.heap.objs.size],[s1.heap.objs.size],y.cps.size,SignAt y,St,λ_=>true,λi v=>∃ch,y.cps[i]?=some ch∧v=.bool (aY tx ch),rfl,W,
  (W X.A (I.ok.hd hcalm)).frame _ _ _ st0 λb hb o' e=>k b o' (by rw [Es.mp hb];exact Fm ltP) e,λb hb=>by rw [Es.mp hb];exact szI,nl,
  λhb=>Ej ltC (Es.mp hb),λhref kh=>tR sck hx hsc ((nsK _ _ nsG).keeps kh) hsg (EM.mpr (nsK _ _ nsG).lt) (λhb=>Ej nsG.lt (Es.mp hb)) hmk hdx hdg,λa h5 tk5 gs hgs ltA szA k5 WS G=>?_⟩
 refine Calls.spliced_nil ?_
 have pall:passing (λ_=>true) y.cps.size 0=Ey y.cps.size:=by simp [passing]
 have WS:=WS.in4_1
 refine call_all_walkS (WS.self 0 _ _ _ G ⟨a,_,_,_,_,_,_,(λj=>(y.cps.toList[j]?).elim true (aY tx)),rfl,WS,G,λj v s Q E hv hQ=>?_,λs' hm=>?_⟩)
 ·obtain ⟨i,hi,ch,hch,rfl⟩:=hv
  rw [pall] at hi
  have hji:i=j:=by
   obtain ⟨hj,e⟩:=D'.mp hi
   simpa using e.symm
  subst hji
  have e:y.cps.toList[i]?=some ch:=by simpa using hch
  simp only [e,Option.elim] at hQ
  exact wpAny_truthy_bool hQ
 ·have nwr:∀b,b < s1.heap.objs.size→b ∉ h'.objs.size :: [s1.heap.objs.size]:=λb hb hm=>by
   rcases D6.mp hm with z | z
   ·omega
   ·have:=Es.mp z
    omega
  refine ⟨.bl _,H1,uY I1 hP hm.os ((I1.bare.push hgs).movedS hm) (λb o' nb e=>hm.heap b o' (nwr b (Heap.lt_size e)) (k5 b o' (kk b o' nb e))) ?_,rfl,?_⟩
  ·obtain ⟨ps,hp,tr⟩:=t'
   exact ⟨ps,hm.heap P _ (nwr P ltP) (k5 P _ hp),tr⟩
  ·rw [pall]
   have e:y.cps.size=y.cps.toList.length:=by simp
   have z:=rO y.cps.toList (aY tx)
   rw [E4,e,z]
   exact q
end
section
variable {X:Cx} {c P:Addr}
theorem tD {x g:Str} {p px p1 p2 p3 gpos cpos:Pos} {iter:Expr} {ti:TE} {scope:Scope} {tx:Str} {tt:Tok} {k:Nat} (hcalm:X.calm=true) (Bm:BMain X.mg X.base) (hcode:X.env.code=.ref c) (Z:i9 X.K c P) (hr:bj k X.A)
  (hgl:Gl X "all") (hma:X.mg "all"=none) (hsg:X.mg g=some (.str tx tt)) (hi:QE X iter ti) (sck:scope.kind=.function:=by rfl) (hco:scope.isCoroutine=false:=by rfl) (hclos:closureFor scope X.env=pure []:=by rfl) (hcell:∀y∈scope.names,y.2≠.cell:=by decide)
  (h0:scope.names.lookup (".0":Str)=some NameKind.local:=by rfl) (hx:scope.names.lookup x=some .local:=by rfl) (hsc:scope.names.lookup g=some .globalImplicit:=by rfl) (hmk:behindInMarks .In (.Name g p2)=false:=by with_unfolding_all rfl) (hs:∀x,genFold iter X.env x=pure x:=by intro _;rfl)
  (hst:starEach [.GeneratorExp (.Compare (.Name x p1) [.In] [.Name g p2] p3) [⟨.Name x px,iter,[],0⟩] scope gpos] X.env=[(false,eval (.GeneratorExp (.Compare (.Name x p1) [.In] [.Name g p2] p3) [⟨.Name x px,iter,[],0⟩] scope gpos) X.env)]:=by rfl)
  (hdx:(x == ("__debug__":Str))=false:=by decide) (hdg:(g == ("__debug__":Str))=false:=by decide) :
  QE X (.Call (.Name "all" p) [.GeneratorExp (.Compare (.Name x p1) [.In] [.Name g p2] p3) [⟨.Name x px,iter,[],0⟩] scope gpos] [] cpos) (uf P tx ti) :=
 ⟨kD hcalm Bm hcode Z (by have:=hr.dp;omega) hgl hma hsg hi.run sck hco hclos hcell h0 hx hsc hmk hs hst hdx hdg⟩
end
structure nr (K:PySem.W.Frag) (mg:Str→Option Value) (x:Str) (st:Stmt) (P:Addr) (f:Addr) (fd:FuncData) (c:Addr):Prop where
 fn:cu K x x st f fd
 mg:mg x=some (.ref f)
 code:fd.code=.ref c
 tab:i9 K c P
 out:K.lookup P=none
def i_ (K:PySem.W.Frag) (mg:Str→Option Value) (x:Str) (st:Stmt) (P:Addr):Prop:=∃f fd c,nr K mg x st P f fd c
section
variable {P:Program} {w:World} {K:PySem.W.Frag} {mg:Str→Option Value} {base:Heap}
theorem DS {x:Str} {st:Stmt} {T f c:Addr} {fd:FuncData} {N ps:List Str} {k:Nat} {sp:Sp} (F:nr K mg x st T f fd c) (S:ax N ps (aj st)) (len:∀vs H Q E,sp vs H Q E→vs.length=ps.length)
  (hbody:∀(A:Around) (outer:List Env) (s:Shared) (H:Hp) (vs:List V) (Q:VK) (E:XK),bj k (A.deeper (envOfC x (aj st) s.heap.objs.size f (.ref c)))→sp vs H Q E →
   ∃t,QB (kY kQ P w K mg base N x (aj st) f (.ref c) A outer s H E).yj (bg st) t∧t { nx:=λ_ H'=>Q .non H',rt:=Q } (start N vs) H):aM P w K mg base kQ (k + 1) f fd ps sp:=by
 obtain ⟨oc,od,kV,doc,pm,an,cdv,ct,osl,rfl,lk,hcd⟩:=F.fn.ex
 obtain rfl:cdv=.ref c:=F.code
 refine o5 lk hcd S len λA outer s H vs Q E hr hsp=>?_
 obtain ⟨t,h,q⟩:=hbody A outer s H vs Q E hr hsp
 exact ⟨t,h.run.yj,q⟩
theorem i_.xE {x:Str} {st:Stmt} {T:Addr} {k:Nat} {ps:List Str} {sp:Sp} (D:i_ K mg x st T)
  (h:∀f fd c,nr K mg x st T f fd c→aM P w K mg base kQ k f fd ps sp)
  (hb:∀(kV doc pm:Value) (an:Option Addr) (cdv ct:Value) (us:List Value),us.length=ps.length→bindArgs (PySem.W.fnOf x x (bW st) (bg st) (aj st) .none kV doc pm an cdv ct) ⟨us,[]⟩=pure (ps.zip us)) :
  qg P w K mg base k x ps sp:=by
 obtain ⟨f,fd,c,F⟩:=D
 exact ⟨f,fd,h f fd c F,F.fn.binds hb,F.fn.kp,F.mg⟩
end
def codeB (vs:Array Value):Bool:=(match vs.getD 18 .none with | .str _ _=>true | _=>false) && (match vs.getD 7 .none with | .int _ _=>true | _=>false) && (match vs.getD 9 .none with | .bool _=>true | _=>false) && (match vs.getD 10 .none with | .int _ _=>true | _=>false)
theorem oY {K:PySem.W.Frag} {h:Heap} {mg:Str→Option Value} {x:Str} {st:Stmt} (X:K.In h) (G:h.Ns mainGlobals mg) {f c T:Addr} {od an od':Option Addr} {sl sl':Array (Option Value)} {vs:Array Value} {oc kV dc pm ct:Value}
  (a:PySem.W.nsIn K mainGlobals x=some (some (.ref f))) (l:K.lookup f=some ⟨oc,od,.func (PySem.W.fnOf x x (bW st) (bg st) (aj st) .none kV dc pm an (.ref c) ct),sl⟩) (cc:PySem.W.codeIn K (.ref c) x=true) (k:PySem.W.keepIn K (.ref f)=true)
  (t:K.lookup c=some ⟨.type "code",od',.fields vs,sl'⟩) (p:vs[11]?=some (.ref T)) (b:codeB vs=true) (ne:c≠T) (out:K.lookup T=none):i_ K mg x st T:=by
 refine ⟨f,_,c,sk l cc k,PySem.W.mg_of X G a,rfl,⟨ne,?_⟩,out⟩
 simp only [codeB,Eh] at b
 obtain ⟨⟨⟨b1,b2⟩,b3⟩,b4⟩:=b
 cases e1:vs.getD 18 .none with
 | str file tf =>
  cases e2:vs.getD 7 .none with
  | int fl tg =>
   cases e3:vs.getD 9 .none with
   | bool inF =>
    cases e4:vs.getD 10 .none with
    | int text tt=>exact ⟨_,vs,file,tf,fl,tg,inF,text,tt,t,rfl,rfl,p,e1,e2,e3,e4⟩
    | _=>rw [e4] at b4;cases b4
   | _=>rw [e3] at b3;cases b3
  | _=>rw [e2] at b2;cases b2
 | _=>rw [e1] at b1;cases b1
def zF (K:PySem.W.Frag) (mg:Str→Option Value) (names:List Str) (T:Addr):Prop:=∃x∈names,∃st,i_ K mg x st T
theorem qz {P:Program} {w:World} {K:PySem.W.Frag} {mg mb:Str→Option Value} {k:Nat} {fa a:Addr} {fd:FuncData} {x:Str} {sp:Sp} {s₁:Shared} {vs:List Value} {ns:List Int} {tabs:List Addr}
  (KX:K.In s₁.heap) (hns:s₁.heap.Ns mainGlobals mg) (hb:s₁.heap.Ns builtinsNs mb) (hbb:∀x:Str,x≠"__name__"→mb x=bootBuiltins x) (hlim:s₁.heap.NoLimit) (hg:s₁.gens=#[])
  (ha:s₁.heap.get? a=some { cls:=.type "list",data:=.seq vs.toArray }) (hi:IntsAre vs ns) (hl:ns.length≤sizeLine) (hr:bj k callerA) (hbm:BMain mg s₁.heap)
  (htab:∀T∈tabs,isCodeTable s₁.heap T∧s₁.heap.get? T=some { cls:=.none,data:=.fields #[] }∧K.lookup T=none)
  (F:∀base:Heap,K.In base→base.Ns mainGlobals mg→BMain mg base→aM P w K mg base kQ k fa fd [x] sp) (hbind:∀(s:Shared) (u:Value),BindsTo s fd ⟨[u],[]⟩ [(x,u)])
  (hsp:∀H:Hp,(∀T∈tabs,H T=some (.ext (b8 T)))→bO K H a (ns.map V.int)→(∀b,H b≠none→b=a∨b∈tabs)→(∀u,H a=some u→∃o xs,u=.ky o (.lst xs))→sp [.ref a] H (λv H'=>v=.bl true∧aN H H') λ_ _ _=>False) :
  codeAny (model P w) callerA (.call (.ref fa) ⟨[.ref a],[]⟩) (λr s'=>r=.ok (.ret (.bool true))∧OldK s₁.heap s'.heap∧s'.os=s₁.os∧AllBare s'.gens) s₁:=by
 have rv:=kO hi
 have lenV:=hi.length
 have naT:∀T∈tabs,T≠a:=λT hT z=>by
  have:=(htab T hT).2.1
  rw [z,ha] at this
  have h1:=congrArg Obj.cls (Option.some.inj this)
  cases h1
 have core:∀H:Hp,(∀T∈tabs,H T=some (.ext (b8 T)))→bO K H a (ns.map V.int)→fK P w H s₁.heap→(∀b,H b≠none→b=a∨b∈tabs)→(∀u,H a=some u→K.lookup a=none∧∃o xs,u=.ky o (.lst xs)) →
   codeAny (model P w) callerA (.call (.ref fa) ⟨[.ref a],[]⟩) (λr s'=>r=.ok (.ret (.bool true))∧OldK s₁.heap s'.heap∧s'.os=s₁.os∧AllBare s'.gens) s₁:=by
  intro H hT hS hok hA hK
  have base_of:∀{b:Addr} {o:Obj},s₁.heap.get? b=some o→H b=none→(j6 s₁.heap H).get? b=some o:=λe n=>su e n
  have no:∀{b:Addr} {o:Obj},s₁.heap.get? b=some o→(∀xs n,o.data≠.seq xs n)→(∀xs,o.data≠.fields xs)→H b=none:=λ{b o} e d1 d2=>by
   cases q:H b with
   | none=>rfl
   | some u =>
    rcases hA b (by rw [q];simp) with rfl | hb
    ·rw [ha] at e;cases e;exact absurd rfl (d1 _ _)
    ·rw [(htab b hb).2.1] at e;cases e;exact absurd rfl (d2 _)
  have nsK:∀{b:Addr} {m:Str→Option Value},s₁.heap.Ns b m→(j6 s₁.heap H).Ns b m:=λ{b m} ⟨o,es,ep,e,d,r⟩=>⟨o,es,ep,base_of e (no e (λ_ _ z=>by rw [d] at z;cases z) λ_ z=>by rw [d] at z;cases z),d,r⟩
  have hKb:K.In (j6 s₁.heap H):=λb o e=>base_of (KX b o e) (by
   cases q:H b with
   | none=>rfl
   | some u =>
    rcases hA b (by rw [q];simp) with rfl | hb
    ·have:=(hK u q).1
     exact absurd (this.symm.trans e) (λz=>nomatch z)
    ·have:=(htab b hb).2.2
     exact absurd (this.symm.trans e) (λz=>nomatch z))
  have hM:Mod K mg (j6 s₁.heap H):=⟨hKb,nsK hns,⟨mb,nsK hb,hbb⟩,let ⟨mc,h1,h2⟩:=hlim;⟨mc,nsK h1,h2⟩⟩
  have hbm':BMain mg (j6 s₁.heap H):=by
   obtain ⟨bm,ob,b1,b2,b3,b4,b5,b6⟩:=hbm
   exact ⟨bm,ob,b1,b2,base_of b3 (no b3 (λ_ _ z=>by rw [b6] at z;cases z) λ_ z=>by rw [b6] at z;cases z),b4,b5,b6⟩
  have e0:uB P w K mg (j6 s₁.heap H) callerA [] s₁ H:=⟨rfl,hM,λb o e=>vi e,Nat.le_of_eq (qv _ _),trivial,λb hb=>absurd (show b∈([]:List Addr) from hb) (by simp),hok,.of_eq hg⟩
  refine codeAny_mono ((F _ hKb (nsK hns) hbm').run callerA [] s₁ H ⟨[.ref a],[]⟩ [.ref a] [.ref a] _ _ hr e0 (hbind s₁ (.ref a)) (.cons rfl .nil) (hsp H hT hS hA λu z=>(hK u z).2)) λr s' h=>?_
  cases r with
  | error e=>exact False.elim h
  | ok fl =>
   cases fl with
   | next=>exact False.elim h
   | brk=>exact False.elim h
   | cont=>exact False.elim h
   | ret u =>
    obtain ⟨v,H',os,bare,un,hok',r',rfl,same⟩:=h
    obtain rfl:u=Value.bool true:=r'
    refine ⟨rfl,⟨λb o e=>?_,λb o e=>?_⟩,os,bare⟩
    ·cases q:H b with
     | none=>exact .inl (un.keep b o e q (by intro z;exact absurd (show b∈([]:List Addr) from z) (by simp)) (by simp))
     | some u =>
      have q':=same b u q
      rcases hA b (by rw [q];simp) with rfl | hb'
      ·obtain ⟨_,ob,xs,rfl⟩:=hK u q
       obtain ⟨e1,_⟩:=hok _ _ q
       obtain ⟨e2,_⟩:=hok' _ _ q'
       rw [e] at e1;cases e1
       exact .inl e2
      ·have hz:=hT b hb'
       rw [q] at hz;cases hz
       obtain ⟨⟨ps,hp,_⟩,_⟩:=hok' _ _ q'
       obtain ⟨t1,t2,_⟩:=htab b hb'
       rw [t2] at e;cases e
       exact .inr (.inl ⟨t1,rfl,#[],ps,rfl,by rw [hp];simp⟩)
    ·exact un.there b o e (by simp)
 have hTt:∀T∈tabs,∀H:Hp,bJ P w H s₁.heap T (.ext (b8 T)):=λT hT H=>by
  have:=(htab T hT).2.1
  exact ⟨⟨#[],this,trivial⟩,⟨_,this⟩,λh1 h2 ⟨ps,hp,tr⟩ kk=>⟨ps,kk _ hp,tr⟩⟩
 cases hk:K.lookup a with
 | some o =>
  have e:=KX a o hk
  rw [ha] at e
  cases e
  refine core (λb=>if b∈tabs then some (.ext (b8 b)) else none) (λT hT=>if_pos hT) (.inr ⟨_,vs.toArray,_,hk,rfl,rfl,rfl,by rw [D3,lenV];exact hl,by simpa using rv⟩) (λb u z=>?_) (λb z=>?_) λu z=>?_
  ·by_cases hb:b∈tabs
   ·have z':=(if_pos hb).symm.trans z
    cases z'
    exact hTt b hb _
   ·have z':=(if_neg hb).symm.trans z
    cases z'
  ·by_cases hb:b∈tabs
   ·exact .inr hb
   ·exact absurd (if_neg hb) z
  ·have hb:a ∉ tabs:=λhb=>naT a hb rfl
   have z':=(if_neg hb).symm.trans z
   cases z'
 | none =>
  refine core (λb=>if b=a then some (.ky { cls:=.type "list",data:=.seq vs.toArray } (.lst (ns.map V.int))) else if b∈tabs then some (.ext (b8 b)) else none) (λT hT=>?_) (.inl (.inr ⟨{ cls:=.type "list",data:=.seq vs.toArray },if_pos rfl⟩)) (λb u z=>?_) (λb z=>?_) λu z=>?_
  ·show (if T=a then _ else _)=_
   rw [if_neg (naT T hT),if_pos hT]
  ·by_cases hb:b=a
   ·have z':=(if_pos hb).symm.trans z
    cases z'
    subst hb
    exact ⟨ha,by rw [D0];exact hl,vs,_,rv,ha⟩
   ·have z:=(if_neg hb).symm.trans z
    by_cases hb:b∈tabs
    ·have z':=(if_pos hb).symm.trans z
     cases z'
     exact hTt b hb _
    ·have z':=(if_neg hb).symm.trans z
     cases z'
  ·by_cases hb:b=a
   ·exact .inl hb
   ·by_cases hb':b∈tabs
    ·exact .inr hb'
    ·exact absurd ((if_neg hb).trans (if_neg hb')) z
  ·have z':=(if_pos rfl).symm.trans z
   cases z'
   exact ⟨hk,_,_,rfl⟩
theorem y_ {p:Program} {loose:List Str} {mean:ExcName→Option Value} {mg mb:Str→Option Value} {h:Heap} {K:PySem.W.Frag} {x:Str} {st:Stmt} {T:Addr} (Tp:Top p loose mean mg mb h) (KX:K.In h) (hx:∃d∈recsOf p,d.name=x) (D:i_ K mg x st T) :
  isCodeTable h T∧h.get? T=some { cls:=.none,data:=.fields #[] }∧K.lookup T=none:=by
 obtain ⟨f,fd,c,F⟩:=D
 obtain ⟨d,hd,rfl⟩:=hx
 obtain ⟨a',o',fd',c',P',h1,h2,h3,h4,h5,h6⟩:=Tp.tab d hd
 rw [F.mg] at h1;cases h1
 obtain ⟨oc,od,kV,doc,pm,an,cdv,ct,osl,rfl,lk,_⟩:=F.fn.ex
 have:=KX _ _ lk
 rw [h2] at this;cases this
 have e3:fd'=_:=(Data.func.inj h3).symm
 subst e3
 have e4:=F.code.symm.trans h4
 cases e4
 obtain ⟨_,oo,vs,_,_,_,_,_,_,_,lk',_,hd',h11,_⟩:=F.tab
 obtain ⟨⟨o2,vs2,g1,g2,g3,g4⟩,g5⟩:=id h6
 rw [KX _ _ lk'] at g1;cases g1
 rw [hd'] at g3;cases g3
 rw [h11] at g4;cases g4
 exact ⟨h6.isCodeTable,g5,F.out⟩
theorem uj {l:PySem.W.OpenLaw} {n k:Nat} {q:Program} {loose:List Str} {XP:(Str→Option Value)→Heap→Prop} {YP:World→Heap→Prop} {d:DefRec} {K:Params→PySem.W.Frag} {sp:List Addr→PySem.W.Frag→Sp} {x:Str} (names:List Str)
  (hn:l.most=some n) (hn2:n≤sizeLine) (hdf:d.params.defaults=[]) (hr:bj k callerA) (hY:∀(w:World) (h:Heap),YP w h→(K w.params).In h) (hnm:∀x∈names,∃d∈recsOf q,d.name=x)
  (F:∀(w:World) (mg:Str→Option Value) (fa:Addr) (h:Heap),(K w.params).In h→h.Ns mainGlobals mg→mg d.name=some (.ref fa) →
   ∃(fd:FuncData) (tabs:List Addr),(∀(s:Shared) (u:Value),BindsTo s fd ⟨[u],[]⟩ [(x,u)])∧(∀T∈tabs,zF (K w.params) mg names T) ∧
    ∀base:Heap,(K w.params).In base→base.Ns mainGlobals mg→BMain mg base→aM l.prog w (K w.params) mg base kQ k fa fd [x] (sp tabs (K w.params)))
  (hsp:∀(tabs:List Addr) (K:PySem.W.Frag) (H:Hp) (a:Addr) (ns:List Int),ns.length≤n→(∀T∈tabs,H T=some (.ext (b8 T)))→bO K H a (ns.map V.int)→(∀b,H b≠none→b=a∨b∈tabs)→(∀u,H a=some u→∃o xs,u=.ky o (.lst xs))→sp tabs K [.ref a] H (λv H'=>v=.bl true∧aN H H') λ_ _ _=>False) :
  PySem.W.WalkO q loose XP YP l.row.toRowW d [] (λf vs=>PySem.call f vs):=by
 refine Att.mf hn hdf λw s₀ s₁ mg mb fa o pm cd doc a vs ns G Y ho hd hcd hmg hobj hints hlen hg=>?_
 have KX:=hY w _ Y
 obtain ⟨fd,tabs,hb,ht,hF⟩:=F w mg fa _ KX G.T.g hmg
 refine qz KX G.T.g G.T.b G.T.builtins G.T.nolimit hg hobj hints (D1 hlen hn2) hr G.T.bmain (λT hT=>?_) hF hb (λH hT hS hA hK=>hsp tabs _ H a ns hlen hT hS hA hK)
 obtain ⟨x,hx,st,D⟩:=ht T hT
 exact y_ G.T KX (hnm x hx) D
def sx (s:Str):Value→Bool
 | .str y _=>y == s
 | _=>false
def sv (i:Int):Value→Bool
 | .int j _=>j == i
 | _=>false
theorem kq {K:PySem.W.Frag} {h:Heap} {mg:Str→Option Value} {x s:Str} {u:Value} (X:K.In h) (G:h.Ns mainGlobals mg) (e:PySem.W.nsIn K mainGlobals x=some (some u)) (hu:sx s u=true):∃t,mg x=some (.str s t):=by
 cases u with
 | str y t =>
  have:y=s:=by simpa [sx] using hu
  subst this
  exact ⟨t,PySem.W.mg_of X G e⟩
 | _=>cases hu
theorem const_int {K:PySem.W.Frag} {h:Heap} {mg:Str→Option Value} {x:Str} {i:Int} {u:Value} (X:K.In h) (G:h.Ns mainGlobals mg) (e:PySem.W.nsIn K mainGlobals x=some (some u)) (hu:sv i u=true):∃t,mg x=some (.int i t):=by
 cases u with
 | int y t =>
  have:y=i:=by simpa [sv] using hu
  subst this
  exact ⟨t,PySem.W.mg_of X G e⟩
 | _=>cases hu
def sgn (ch:Nat):Str:=⟨#[ch]⟩
def Dk (y:Str):It:=⟨λi _=>i < y.cps.size,λi H x H'=>H'=H∧∃ch,y.cps[i]?=some ch∧x=.str (sgn ch),λi _=>y.cps.size≤i⟩
theorem ng {P:Program} {w:World} {K:PySem.W.Frag} {tg:Expr} {y:Str} {t:Tok} {T:String} (hT:T="str_ascii_iterator"∨T="str_iterator") (it:Addr):Turn P w K tg (Dk y) [it] it (λi h=>h.IsStrIter it T y t i) where
 mem:=by simp
 obj:=λi h st b hb=>by
  obtain rfl:b=it:=by simpa using hb
  obtain ⟨o,e,c,d⟩:=st
  exact ⟨o,e,λv z=>by rw [d] at z;cases z⟩
 keep:=λi h h' ⟨o,e,r⟩ k=>⟨o,k it (by simp) o e,r⟩
 item:=by
  intro X hP hw hK hc i pins s σ H E I hf st hg
  subst hP hw hK
  have hi:i < y.cps.size:=hg
  obtain ⟨f0,f1,f2,f3,f4,f5⟩:=hf it (by simp)
  have hch:y.cps[i]?=some y.cps[i]:=by simp [hi]
  rcases hT with rfl | rfl
  ·refine wpAny_pyNext_ascii_item st hch λh' st' sb=>?_
   have I1:Inv X pins σ H { s with heap:=h',toks:=s.toks + 1 }:=I.turned (t':=s.toks + 1) (λb o hb e=>(sb.2 b hb).trans e) f0 f1 f3 f4 f5
   obtain ⟨o,e,c,d⟩:=id st'
   exact ⟨_,rfl,mr (s:={ s with heap:=h',toks:=s.toks + 1 }) e c d (by decide) ⟨.str (sgn y.cps[i]),H,I1,⟨_,rfl⟩,⟨rfl,_,hch,rfl⟩,st',λb hb=>(hf b hb).1⟩⟩
  ·refine wpAny_pyNext_wide_item st hch λh' st' sb=>?_
   have I1:Inv X pins σ H { s with heap:=h',toks:=s.toks + 1 }:=I.turned (t':=s.toks + 1) (λb o hb e=>(sb.2 b hb).trans e) f0 f1 f3 f4 f5
   obtain ⟨o,e,c,d⟩:=id st'
   exact ⟨_,rfl,mr (s:={ s with heap:=h',toks:=s.toks + 1 }) e c d (by decide) ⟨.str (sgn y.cps[i]),H,I1,⟨_,rfl⟩,⟨rfl,_,hch,rfl⟩,st',λb hb=>(hf b hb).1⟩⟩
 done:=by
  intro X hP hw hK hc i pins s σ H E I hf st hg
  subst hP hw hK
  have hi:y.cps.size≤i:=hg
  obtain ⟨f0,f1,f2,f3,f4,f5⟩:=hf it (by simp)
  have hch:y.cps[i]?=none:=by simp [hi]
  rcases hT with rfl | rfl
  ·exact wpAny_pyNext_ascii_end (I.ok.hd hc) st hch λh' eb=>⟨rfl,I.turned (t':=s.toks) (λb o hb e=>eb b o hb e) f0 f1 f3 f4 f5⟩
  ·exact wpAny_pyNext_wide_end (I.ok.hd hc) st hch λh' eb=>⟨rfl,I.turned (t':=s.toks) (λb o hb e=>eb b o hb e) f0 f1 f3 f4 f5⟩
 self:=λ_ _ _ _ _ st h=>by
  rcases hT with rfl | rfl
  ·exact wpAny_pyIter_striter_ascii st h
  ·exact wpAny_pyIter_striter_wide st h
def BZ (tl:TE):TI:=λσ H R=>tl σ H λx H1=>∃y,x=.str y∧R (Dk y) H1
section
variable {X:Cx} {tg:Expr}
theorem vC {l:Expr} {tl:TE} (hl:PE X l tl):PI X tg l (BZ tl):=by
 intro pins s σ H R I h
 refine bA (hl pins s σ H _ I h) λv s1 ⟨x,H1,I1,r1,y,e,q⟩=>?_
 subst e
 obtain ⟨t,rfl⟩:=r1
 have fp:∀b∈[s1.heap.objs.size],gu X pins H1 b:=λb hb=>by
  obtain rfl:b=s1.heap.objs.size:=by simpa using hb
  exact I1.uS (D5 _) (I1.hok.fresh (D5 _))
 cases ha:y.cps.all (· < 128)
 ·exact wpAny_pyIter_wide ha ⟨s1.heap.objs.size,[s1.heap.objs.size],_,_,H1,rfl,I1.kept (t':=s1.toks) λb o e=>Heap.get?_push_of_some _ e,ng (t:=t) (.inr rfl) _,⟨_,Heap.get?_push_size _ rfl,rfl,rfl⟩,fp,q⟩
 ·exact wpAny_pyIter_ascii ha ⟨s1.heap.objs.size,[s1.heap.objs.size],_,_,H1,rfl,I1.kept (t':=s1.toks) λb o e=>Heap.get?_push_of_some _ e,ng (t:=t) (.inl rfl) _,⟨_,Heap.get?_push_size _ rfl,rfl,rfl⟩,fp,q⟩
end
theorem si (ch n:Nat):∀acc:Array Nat,(Ea n #[ch]).foldl (· ++ ·) acc=acc ++ (Ea n ch).toArray:=by
 induction n with
 | zero=>intro acc;simp
 | succ n ih =>
  intro acc
  rw [ED,Fp,ih,ED]
  apply Array.ext'
  simp
end Ov
namespace Ov
open PySem PySem.Spec PyProof.Rows
open L2 (V HO Hp Inv Cx VK XK TE TT TA TS TG jW TI TO dA Ends jc Loc Gl Rd RelV Vals cn jb aZ gh h8 hU dQ R2 upd aq aB bO dz Sp g_ It aN)
inductive PV where
 | non | bl (b:Bool) | int (i:Int) | str (x:Str) | ref (a:Addr) | ty (n:String) | tup (xs:List PV) | fl (xs:List PV)
inductive HQ where
 | lst (xs:List PV) | ins (C:Addr) (fs:List (Str × PV)) | dct (kvs:List (Str × PV)) (ep:Nat) | tab | dtp (hs:List Str→Int) (ks:List (List Str))
def BN (hs:List Str→Int) (a:Addr) (xs:List (List Str × Addr × Value)) (h:Heap):Prop:=(a == sysModules)=false∧xs.length≤sizeLine∧(xs.map (·.1)).Nodup∧∃o es ep,h.get? a=some o∧o.ExactDict∧o.data=.dict es ep∧es.toList=xs.map λx=>(⟨hs x.1,.ref x.2.1,x.2.2⟩:DictEntry)
abbrev Hq:=Addr→Option HQ
def put (J:Hq) (a:Addr) (o:HQ):Hq:=λb=>if b=a then some o else J b
theorem bq {J:Hq} {a:Addr} {o:HQ}:put J a o a=some o:=by unfold put;rw [if_pos rfl]
theorem dm {J:Hq} {a b:Addr} {o:HQ} (h:b≠a):put J a o b=J b:=by unfold put;rw [if_neg h]
theorem lM {J:Hq} {a:Addr} {o u:HQ}:put (put J a o) a u=put J a u:=by
 funext b;unfold put;split <;> rfl
def cut (J:Hq) (a:Addr):Hq:=λb=>if b=a then none else J b
def rE (K:PySem.W.Frag) (J:Hq) (H:Hp) (a:Addr) (vs:List V):Prop:=(J a=none∧Rd H a (.lst vs))∨∃(o:Obj) (aQ:Array Value) (n:Nat),K.lookup a=some o∧o.cls=.type "list"∧o.dict=none∧o.data=.seq aQ n∧aQ.size≤sizeLine∧Vals vs aQ.toList
theorem rE.sq {K:PySem.W.Frag} {J:Hq} {H:Hp} {a:Addr} {vs:List V} (h:rE K J H a vs):bO K H a vs:=by
 rcases h with h | h
 ·exact .inl h.2
 ·exact .inr h
section
variable (K:PySem.W.Frag)
mutual
def bK (J:Hq) (H:Hp):PV→V→Prop
 | .non,v=>v=.non
 | .bl b,v=>v=.bl b
 | .int i,v=>v=.int i
 | .str x,v=>v=.str x
 | .ref a,v=>v=.ref a
 | .ty n,v=>v=.ty n
 | .tup xs,v=>∃a vs,v=.ref a∧dz K H a vs∧aC J H xs vs
 | .fl xs,v=>∃a vs,v=.ref a∧rE K J H a vs∧aC J H xs vs
def aC (J:Hq) (H:Hp):List PV→List V→Prop
 | [],vs=>vs=[]
 | x :: xs,vs=>∃v us,vs=v :: us∧bK J H x v∧aC J H xs us
end
def iI {κ:Type} (J:Hq) (H:Hp) (fs:List (κ × PV)) (gs:List (κ × V)):Prop:=fs.map (·.1)=gs.map (·.1)∧aC K J H (fs.map (·.2)) (gs.map (·.2))
def rN (J:Hq) (H:Hp) (a:Addr):HQ→Prop
 | .lst xs=>∃vs,H a=some (.lst vs)∧aC K J H xs vs
 | .ins C fs=>∃dx gs,H a=some (.ins C dx gs)∧iI K J H fs gs
 | .dct kvs ep=>∃gs,H a=some (.dE gs ep)∧iI K J H kvs gs
 | .tab=>H a=some (.ext (b8 a))
 | .dtp hs ks=>∃xs:List (List Str × Addr × Value),xs.map (·.1)=ks∧H a=some (.ext (BN hs a xs))∧∀x∈xs,dz K H x.2.1 (x.1.map V.str)
def Rep (J:Hq) (H:Hp):Prop:=∀a o,J a=some o→rN K J H a o
structure Ext (J:Hq) (H:Hp) (J':Hq) (H':Hp):Prop where
 tup:∀a vs,dz K H a vs→dz K H' a vs
 ll:∀a o,J a=none→H a=some o→((∃vs,o=.lst vs)∨∃ob vs,o=.ky ob (.lst vs))→J' a=none∧H' a=some o
end
section
variable {K:PySem.W.Frag} {J J' J'':Hq} {H H' H'':Hp}
theorem Ext.fl (e:Ext K J H J' H') (a:Addr) (vs:List V) (n:J a=none) (h:Rd H a (.lst vs)):J' a=none∧Rd H' a (.lst vs):=by
 rcases h with h | ⟨o,h⟩
 ·obtain ⟨a,b⟩:=e.ll a _ n h (.inl ⟨_,rfl⟩);exact ⟨a,.inl b⟩
 ·obtain ⟨a,b⟩:=e.ll a _ n h (.inr ⟨_,_,rfl⟩);exact ⟨a,.inr ⟨o,b⟩⟩
theorem Ext.flat (e:Ext K J H J' H') {a:Addr} {vs:List V} (h:rE K J H a vs):rE K J' H' a vs:=by
 rcases h with h | h
 ·exact .inl (e.fl a vs h.1 h.2)
 ·exact .inr h
mutual
theorem Ext.rep (e:Ext K J H J' H'):∀{x:PV} {v:V},bK K J H x v→bK K J' H' x v
 | .non,_,h=>h
 | .bl _,_,h=>h
 | .int _,_,h=>h
 | .str _,_,h=>h
 | .ref _,_,h=>h
 | .ty _,_,h=>h
 | .tup xs,_,⟨a,vs,e1,h,k⟩=>⟨a,vs,e1,e.tup _ _ h,Ext.fJ e k⟩
 | .fl xs,_,⟨a,vs,e1,h,k⟩=>⟨a,vs,e1,e.flat h,Ext.fJ e k⟩
theorem Ext.fJ (e:Ext K J H J' H'):∀{xs:List PV} {vs:List V},aC K J H xs vs→aC K J' H' xs vs
 | [],_,h=>h
 | _ :: _,_,⟨v,us,e1,h,k⟩=>⟨v,us,e1,Ext.rep e h,Ext.fJ e k⟩
end
theorem Ext.refl:Ext K J H J H:=⟨λ_ _ h=>h,λ_ _ n h _=>⟨n,h⟩⟩
theorem Ext.trans (a:Ext K J H J' H') (b:Ext K J' H' J'' H''):Ext K J H J'' H'' :=
 ⟨λc vs h=>b.tup c vs (a.tup c vs h),λc o n h z=>b.ll c o (a.ll c o n h z).1 (a.ll c o n h z).2 z⟩
theorem Ext.qX {κ:Type} (e:Ext K J H J' H') {fs:List (κ × PV)} {gs:List (κ × V)} (h:iI K J H fs gs):iI K J' H' fs gs:=⟨h.1,e.fJ h.2⟩
theorem Ext.same (s:aN H H'):Ext K J H J H':=⟨λa vs h=>s.tup h,λa o n h _=>⟨n,s _ _ h⟩⟩
theorem rN.same (s:aN H H') {a:Addr} {o:HQ} (h:rN K J H a o):rN K J H' a o:=by
 have e:=Ext.same (K:=K) (J:=J) s
 cases o with
 | lst xs=>obtain ⟨vs,h1,h2⟩:=h;exact ⟨vs,s _ _ h1,e.fJ h2⟩
 | ins C fs=>obtain ⟨dx,gs,h1,h2⟩:=h;exact ⟨dx,gs,s _ _ h1,e.qX h2⟩
 | dct kvs ep=>obtain ⟨gs,h1,h2⟩:=h;exact ⟨gs,s _ _ h1,e.qX h2⟩
 | tab=>exact s _ _ (show H a=some (.ext (b8 a)) from h)
 | dtp hs ks=>obtain ⟨xs,h0,h1,h2⟩:=h;exact ⟨xs,h0,s _ _ h1,λx hx=>s.tup (h2 x hx)⟩
theorem Rep.same (s:aN H H') (h:Rep K J H):Rep K J H':=λa o q=>(h a o q).same s
theorem Ext.less (h:∀a,J' a=J a∨J' a=none):Ext K J H J' H:=⟨λ_ _ h=>h,λa o n z _=>⟨(h a).elim (λe=>e.trans n) (λe=>e),z⟩⟩
theorem Rep.less (h:∀a,J' a=J a∨J' a=none) (r:Rep K J H):Rep K J' H:=λa o q=>by
 have e:J a=some o:=by
  rcases h a with e | e
  ·rw [← e];exact q
  ·rw [e] at q;cases q
 have x:=Ext.less (K:=K) (H:=H) h
 have z:=r a o e
 cases o with
 | lst xs=>obtain ⟨vs,h1,h2⟩:=z;exact ⟨vs,h1,x.fJ h2⟩
 | ins C fs=>obtain ⟨dx,gs,h1,h2⟩:=z;exact ⟨dx,gs,h1,x.qX h2⟩
 | dct kvs ep=>obtain ⟨gs,h1,h2⟩:=z;exact ⟨gs,h1,x.qX h2⟩
 | tab=>exact z
 | dtp hs ks=>exact z
theorem aC.length:∀{xs:List PV} {vs:List V},aC K J H xs vs→xs.length=vs.length
 | [],_,h=>by cases h;rfl
 | _ :: xs,_,⟨v,us,e1,_,k⟩=>by subst e1;simp [aC.length k]
theorem aC.get:∀{xs:List PV} {vs:List V} {i:Nat} {x:PV},aC K J H xs vs→xs[i]?=some x→∃v,vs[i]?=some v∧bK K J H x v
 | [],_,i,x,h,e=>by simp at e
 | y :: xs,_,0,x,⟨v,us,e1,h,k⟩,e=>by subst e1;simp at e;subst e;exact ⟨v,rfl,h⟩
 | y :: xs,_,i + 1,x,⟨v,us,e1,h,k⟩,e=>by
  subst e1
  obtain ⟨w,h1,h2⟩:=aC.get (i:=i) (x:=x) k (by simpa using e)
  exact ⟨w,by simpa using h1,h2⟩
theorem aC.get':∀{xs:List PV} {vs:List V} {i:Nat} {v:V},aC K J H xs vs→vs[i]?=some v→∃x,xs[i]?=some x∧bK K J H x v
 | [],_,i,x,h,e=>by cases h;simp at e
 | y :: xs,_,0,x,⟨v,us,e1,h,k⟩,e=>by subst e1;simp at e;subst e;exact ⟨y,rfl,h⟩
 | y :: xs,_,i + 1,x,⟨v,us,e1,h,k⟩,e=>by
  subst e1
  obtain ⟨w,h1,h2⟩:=aC.get' (i:=i) (v:=x) k (by simpa using e)
  exact ⟨w,by simpa using h1,h2⟩
theorem aC.append:∀{xs ys:List PV} {vs us:List V},aC K J H xs vs→aC K J H ys us→aC K J H (xs ++ ys) (vs ++ us)
 | [],_,_,_,h,k=>by cases h;exact k
 | x :: xs,ys,_,us,⟨v,ws,e1,h,h'⟩,k=>by subst e1;exact ⟨v,ws ++ us,rfl,h,aC.append h' k⟩
theorem aC.drop:∀(n:Nat) {xs:List PV} {vs:List V},aC K J H xs vs→aC K J H (xs.drop n) (vs.drop n)
 | 0,_,_,h=>h
 | n + 1,[],_,h=>by cases h;rfl
 | n + 1,x :: xs,_,⟨v,ws,e1,h,h'⟩=>by subst e1;exact aC.drop n h'
theorem aC.take:∀(n:Nat) {xs:List PV} {vs:List V},aC K J H xs vs→aC K J H (xs.take n) (vs.take n)
 | 0,_,_,h=>rfl
 | n + 1,[],_,h=>by cases h;rfl
 | n + 1,x :: xs,_,⟨v,ws,e1,h,h'⟩=>by subst e1;exact ⟨v,_,rfl,h,aC.take n h'⟩
theorem iI.look {κ:Type} [BEq κ] [LawfulBEq κ] {f:κ}:∀{fs:List (κ × PV)} {gs:List (κ × V)} {x:PV},iI K J H fs gs→fs.lookup f=some x→∃v,gs.lookup f=some v∧bK K J H x v
 | [],_,_,_,e=>by cases e
 | (k,y) :: fs,[],x,h,e=>by cases h.1
 | (k,y) :: fs,(k',w) :: gs,x,h,e=>by
  obtain ⟨h1,v,us,h2,h3,h4⟩:=h
  simp only [D_,List.cons.injEq] at h1 h2
  obtain ⟨rfl,h1⟩:=h1
  obtain ⟨rfl,rfl⟩:=h2
  rw [EK] at e ⊢
  cases hk:f == k with
  | true=>rw [hk] at e;cases e;exact ⟨w,rfl,h3⟩
  | false=>rw [hk] at e;exact iI.look ⟨h1,h4⟩ e
theorem iI.none {κ:Type} [BEq κ] [LawfulBEq κ] {f:κ}:∀{fs:List (κ × PV)} {gs:List (κ × V)},iI K J H fs gs→fs.lookup f=none→gs.lookup f=none
 | [],[],_,_=>rfl
 | [],_ :: _,h,e=>by cases h.1
 | (k,y) :: fs,[],h,e=>by cases h.1
 | (k,y) :: fs,(k',w) :: gs,h,e=>by
  obtain ⟨h1,v,us,h2,h3,h4⟩:=h
  simp only [D_,List.cons.injEq] at h1 h2
  obtain ⟨rfl,h1⟩:=h1
  obtain ⟨rfl,rfl⟩:=h2
  rw [EK] at e ⊢
  cases hk:f == k with
  | true=>rw [hk] at e;cases e
  | false=>rw [hk] at e;exact iI.none ⟨h1,h4⟩ e
end
section
variable {K:PySem.W.Frag} {J J':Hq} {H H':Hp} {p:Addr}
theorem vf {a p:Addr} {o:HQ} (r:Rep K J H) (h:J a=some o) (n:H p=none):a≠p:=by
 intro e;subst e
 have:=r _ _ h
 cases o with
 | lst xs=>obtain ⟨vs,h1,_⟩:=this;rw [n] at h1;cases h1
 | ins C fs=>obtain ⟨dx,gs,h1,_⟩:=this;rw [n] at h1;cases h1
 | dct kvs ep=>obtain ⟨gs,h1,_⟩:=this;rw [n] at h1;cases h1
 | tab=>have h1:H a=some (.ext (b8 a)):=this;rw [n] at h1;cases h1
 | dtp hs ks=>obtain ⟨xs,_,h1,_⟩:=this;rw [n] at h1;cases h1
theorem Rep.free (r:Rep K J H) (n:H p=none):J p=none:=by
 cases e:J p with
 | none=>rfl
 | some o=>exact absurd rfl (vf r e n)
theorem Ext.laid {o:HO} {u:HQ} (n:H p=none):Ext K J H (put J p u) (upd H p o):=by
 refine ⟨λa vs h=>(aN.new n o).tup h,λa o' z h _=>⟨?_,aN.new n o _ _ h⟩⟩
 have ne:a≠p:=by intro e;subst e;rw [n] at h;cases h
 rw [dm ne];exact z
theorem Rep.zg {J':Hq} {H':Hp} (e:Ext K J H J' H') (r:Rep K J H) (p:Addr) (q:∀a,a≠p→J' a=J a) (s:∀a o,a≠p→J a≠none→H a=some o→H' a=some o) (h:∀u,J' p=some u→rN K J' H' p u):Rep K J' H':=λa o z=>by
 by_cases ep:a=p
 ·subst ep;exact h o z
 ·rw [q a ep] at z
  have t:=r a o z
  have jn:J a≠none:=by rw [z];exact λy=>nomatch y
  cases o with
  | lst xs=>obtain ⟨vs,h1,h2⟩:=t;exact ⟨vs,s _ _ ep jn h1,e.fJ h2⟩
  | ins C fs=>obtain ⟨dx,gs,h1,h2⟩:=t;exact ⟨dx,gs,s _ _ ep jn h1,e.qX h2⟩
  | dct kvs eq=>obtain ⟨gs,h1,h2⟩:=t;exact ⟨gs,s _ _ ep jn h1,e.qX h2⟩
  | tab=>exact s _ _ ep jn (show H a=some (.ext (b8 a)) from t)
  | dtp hs ks=>obtain ⟨xs,h0,h1,h2⟩:=t;exact ⟨xs,h0,s _ _ ep jn h1,λx hx=>e.tup _ _ (h2 x hx)⟩
theorem Rep.sF {xs:List PV} {vs:List V} (r:Rep K J H) (n:H p=none) (h:aC K J H xs vs):Rep K (put J p (.lst xs)) (upd H p (.lst vs)):=by
 have e:=Ext.laid (K:=K) (J:=J) (o:=.lst vs) (u:=.lst xs) n
 refine r.zg e p (λa ne=>dm ne) (λa o ne _ z=>by rw [aB ne];exact z) λu z=>?_
 rw [bq] at z;cases z
 exact ⟨vs,aq,e.fJ h⟩
theorem Ext.wrote {xs ys:List PV} {ws vs:List V} (h:J p=some (.lst xs)) (k:H p=some (.lst ws)):Ext K J H (put J p (.lst ys)) (upd H p (.lst vs)):=by
 have sm:∀a u,(∀l,u≠HO.lst l)∨a≠p→Rd H a u→Rd (upd H p (.lst vs)) a u:=λa u d z=>by
  have ne:a≠p:=by
   rcases d with d | d
   ·intro e;subst e
    rcases z with z | ⟨o,z⟩
    ·rw [k] at z;cases z;exact d _ rfl
    ·rw [k] at z;cases z
   ·exact d
  rcases z with z | ⟨o,z⟩
  ·exact .inl (by rw [aB ne];exact z)
  ·exact .inr ⟨o,by rw [aB ne];exact z⟩
 refine ⟨λa vs' z=>?_,λa o z q _=>?_⟩
 ·rcases z with z | z
  ·exact .inl (sm a _ (.inl λl e=>nomatch e) z)
  ·exact .inr z
 ·have ne:a≠p:=by intro e;subst e;rw [h] at z;cases z
  exact ⟨by rw [dm ne];exact z,by rw [aB ne];exact q⟩
theorem Rep.wrote {xs ys:List PV} {ws vs:List V} (r:Rep K J H) (h:J p=some (.lst xs)) (k:H p=some (.lst ws)) (q:aC K J H ys vs):Rep K (put J p (.lst ys)) (upd H p (.lst vs)):=by
 have e:=Ext.wrote (K:=K) (ys:=ys) (vs:=vs) h k
 refine r.zg e p (λa ne=>dm ne) (λa o ne _ z=>by rw [aB ne];exact z) λu z=>?_
 rw [bq] at z;cases z
 exact ⟨vs,aq,e.fJ q⟩
end
abbrev Sr:=List (Option PV)
abbrev bQ:=Sr→Hq→(PV→Hq→Prop)→Prop
abbrev iO:=Sr→Hq→(Bool→Hq→Prop)→Prop
abbrev i':=Sr→Hq→(List PV→Hq→Prop)→Prop
structure En where
 nx:Sr→Hq→Prop
 rt:PV→Hq→Prop
 bk:Sr→Hq→Prop:=λ_ _=>False
 ct:Sr→Hq→Prop:=λ_ _=>False
abbrev eM:=En→Sr→Hq→Prop
structure gw (K:PySem.W.Frag) (J:Hq) (H:Hp) (τ:Sr) (σ:L2.St):Prop where
 len:τ.length=σ.length
 get:∀(i:Nat) (x:PV),τ[i]?=some (some x)→∃v,σ[i]?=some (some v)∧bK K J H x v
theorem gw.ext {K:PySem.W.Frag} {J J':Hq} {H H':Hp} {τ:Sr} {σ:L2.St} (r:gw K J H τ σ) (e:Ext K J H J' H'):gw K J' H' τ σ :=
 ⟨r.len,λi x h=>let ⟨v,a,b⟩:=r.get i x h;⟨v,a,e.rep b⟩⟩
theorem gw.set {K:PySem.W.Frag} {J:Hq} {H:Hp} {τ:Sr} {σ:L2.St} (r:gw K J H τ σ) {x:PV} {v:V} (i:Nat) (h:bK K J H x v):gw K J H (τ.set i (some x)) (σ.set i (some v)):=by
 refine ⟨by rw [EZ,EZ,r.len],λj y e=>?_⟩
 by_cases hj:i=j
 ·subst hj
  by_cases hl:i < τ.length
  ·rw [Eg hl] at e
   cases e
   exact ⟨v,Eg (by rw [← r.len];exact hl),h⟩
  ·rw [EG (by rw [EZ];omega)] at e
   cases e
 ·rw [EA hj] at e ⊢
  exact r.get j y e
abbrev G2:=Hq × Hp
structure nq (K:PySem.W.Frag) (G:G2) (τ:Sr) (J:Hq) (σ:L2.St) (H:Hp):Prop where
 sl:gw K J H τ σ
 hp:Rep K J H
 ext:Ext K G.1 G.2 J H
section
variable (K:PySem.W.Frag) (G:G2)
def LE (t:bQ):TE:=λσ H Q=>∃τ J Q2,nq K G τ J σ H∧t τ J Q2∧∀x J' v H',bK K J' H' x v→Rep K J' H'→Ext K J H J' H'→Q2 x J'→Q v H'
def LT (t:iO):TT:=λσ H Q=>∃τ J Q2,nq K G τ J σ H∧t τ J Q2∧∀b J' H',Rep K J' H'→Ext K J H J' H'→Q2 b J'→Q b H'
def LA (t:i'):TA:=λσ H Q=>∃τ J Q2,nq K G τ J σ H∧t τ J Q2∧∀xs J' vs H',aC K J' H' xs vs→Rep K J' H'→Ext K J H J' H'→Q2 xs J'→Q vs H'
structure Goes (J:Hq) (H:Hp) (D2:En) (D:Ends):Prop where
 nx:∀τ J' σ H',gw K J' H' τ σ→Rep K J' H'→Ext K J H J' H'→D2.nx τ J'→D.nx σ H'
 rt:∀x J' v H',bK K J' H' x v→Rep K J' H'→Ext K J H J' H'→D2.rt x J'→D.rt v H'
 bk:∀τ J' σ H',gw K J' H' τ σ→Rep K J' H'→Ext K J H J' H'→D2.bk τ J'→D.bk σ H'
 ct:∀τ J' σ H',gw K J' H' τ σ→Rep K J' H'→Ext K J H J' H'→D2.ct τ J'→D.ct σ H'
def LS (t:eM):TS:=λD σ H=>∃τ J D2,nq K G τ J σ H∧t D2 τ J∧Goes K J H D2 D
end
theorem Goes.ext {K:PySem.W.Frag} {J J':Hq} {H H':Hp} {D2:En} {D:Ends} (g:Goes K J H D2 D) (e:Ext K J H J' H'):Goes K J' H' D2 D :=
 ⟨λτ J1 σ H1 a b c=>g.nx τ J1 σ H1 a b (e.trans c),λx J1 v H1 a b c=>g.rt x J1 v H1 a b (e.trans c),λτ J1 σ H1 a b c=>g.bk τ J1 σ H1 a b (e.trans c),λτ J1 σ H1 a b c=>g.ct τ J1 σ H1 a b (e.trans c)⟩
theorem nq.go {K:PySem.W.Frag} {G:G2} {τ:Sr} {J J':Hq} {σ:L2.St} {H H':Hp} (a:nq K G τ J σ H) (r:Rep K J' H') (e:Ext K J H J' H'):nq K G τ J' σ H':=⟨a.sl.ext e,r,a.ext.trans e⟩
structure RE (X:Cx) (G:G2) (e:Expr) (t:bQ):Prop where
 run:L2.PE X e (LE X.K G t)
structure RT (X:Cx) (G:G2) (e:Expr) (t:iO):Prop where
 run:L2.PT X e (LT X.K G t)
structure RW (X:Cx) (G:G2) (e:Expr) (t:iO):Prop where
 run:L2.PW X e (LT X.K G t)
structure RA (X:Cx) (G:G2) (es:List Expr) (t:i'):Prop where
 run:L2.PA X es (LA X.K G t)
structure RS (X:Cx) (G:G2) (st:Stmt) (t:eM):Prop where
 run:L2.PS X st (LS X.K G t)
structure RB (X:Cx) (G:G2) (st:List Stmt) (t:eM):Prop where
 run:L2.j3 X st (LS X.K G t)
theorem iD {X:Cx} {e:Expr} {t t':TE} (h:L2.PE X e t) (k:∀σ H Q,t' σ H Q→t σ H Q):L2.PE X e t':=λpins s σ H Q I q=>h pins s σ H Q I (k _ _ _ q)
theorem Cv {X:Cx} {e:Expr} {t t':TT} (h:L2.PT X e t) (k:∀σ H Q,t' σ H Q→t σ H Q):L2.PT X e t':=λpins s σ H Q I q=>h pins s σ H Q I (k _ _ _ q)
theorem DA {X:Cx} {e:Expr} {t t':TT} (h:L2.PW X e t) (k:∀σ H Q,t' σ H Q→t σ H Q):L2.PW X e t':=λwh pins s σ H Q I q=>h wh pins s σ H Q I (k _ _ _ q)
theorem Ct {X:Cx} {e:List Expr} {t t':TA} (h:L2.PA X e t) (k:∀σ H Q,t' σ H Q→t σ H Q):L2.PA X e t':=λpos pins s σ H Q I q=>h pos pins s σ H Q I (k _ _ _ q)
theorem wL {X:Cx} {e:Stmt} {t t':TS} (h:L2.PS X e t) (k:∀D σ H,t' D σ H→t D σ H):L2.PS X e t':=λpins s σ H D I q=>h pins s σ H D I (k _ _ _ q)
theorem Cu {X:Cx} {e:List Stmt} {t t':TS} (h:L2.j3 X e t) (k:∀D σ H,t' D σ H→t D σ H):L2.j3 X e t':=λpins s σ H D I q=>h pins s σ H D I (k _ _ _ q)
end Ov
namespace Ov
open PySem PySem.Spec PyProof.Rows
open L2 (V HO Hp Inv Cx VK XK TE TT TA TS TG jW TI TO dA Ends jc Loc Gl Rd RelV Vals cn jb aZ gh h8 hU dQ R2 upd aq aB bO dz Sp g_ It aN bf bj Passes ka bS Meth Mk Binds aM cu ax bN b9)
def dP {α:Sort _} (_:α):Type:=Unit
def dp {α:Sort _} {k:α}:dP k:=()
def mL {α:Type} (o:Option α) (k:α→Prop) (_:dP k:=dp):Prop:=match o with | some x=>k x | none=>False
def Ak (o:Option (Option PV)) (k:PV→Prop) (_:dP k:=dp):Prop:=match o with | some (some x)=>k x | _=>False
def qR (x:PV) (k:Int→Prop) (_:dP k:=dp):Prop:=match x with | .int i=>k i | _=>False
def zt (x:PV) (k:Bool→Prop) (_:dP k:=dp):Prop:=match x with | .bl i=>k i | _=>False
def nk (x:PV) (k:Str→Prop) (_:dP k:=dp):Prop:=match x with | .str i=>k i | _=>False
def wB (x:PV) (k:Addr→Prop) (_:dP k:=dp):Prop:=match x with | .ref a=>k a | _=>False
def Az (x:PV) (k:List PV→Prop) (_:dP k:=dp):Prop:=match x with | .tup a=>k a | _=>False
def qQ (xs:List PV) (k:PV→Prop) (_:dP k:=dp):Prop:=match xs with | [x]=>k x | _=>False
def BE (o:Option HQ) (k:List PV→Prop) (_:dP k:=dp):Prop:=match o with | some (.lst xs)=>k xs | _=>False
def Ap (o:Option HQ) (k:List (Str × PV)→Nat→Prop) (_:dP k:=dp):Prop:=match o with | some (.dct xs e)=>k xs e | _=>False
def BD (C:Addr) (o:Option HQ) (k:List (Str × PV)→Prop) (_:dP k:=dp):Prop:=match o with | some (.ins C' fs)=>if C'=C then k fs else False | _=>False
def Dy (xs:List PV) (k:Prop) (_:dP k:=dp):Prop:=match xs with | []=>k | _=>False
def Ao (xs:List PV) (k:PV→List PV→Prop) (_:dP k:=dp):Prop:=match xs with | x :: r=>k x r | []=>False
def zu (xs:List PV) (k:PV→PV→Prop) (_:dP k:=dp):Prop:=match xs with | [x,y]=>k x y | _=>False
theorem Au {k:Prop} {d:dP k}:Dy [] k d=k:=rfl
theorem yo {x:PV} {r:List PV} {k:PV→List PV→Prop} {d:dP k}:Ao (x :: r) k d=k x r:=rfl
theorem Av {x y:PV} {k:PV→PV→Prop} {d:dP k}:zu [x,y] k d=k x y:=rfl
theorem nQ {xs:List PV} {k:PV→PV→Prop} {d:dP k} (h:zu xs k d):∃x y,xs=[x,y]∧k x y:=by
 unfold zu at h
 split at h
 ·exact ⟨_,_,rfl,h⟩
 ·exact h.elim
theorem Ax {α:Type} {x:α} {k:α→Prop} {d:dP k}:mL (some x) k d=k x:=rfl
theorem Al {x:PV} {k:PV→Prop} {d:dP k}:Ak (some (some x)) k d=k x:=rfl
theorem Ar {x:Int} {k:Int→Prop} {d:dP k}:qR (.int x) k d=k x:=rfl
theorem Am {x:Bool} {k:Bool→Prop} {d:dP k}:zt (.bl x) k d=k x:=rfl
theorem Ay {x:Str} {k:Str→Prop} {d:dP k}:nk (.str x) k d=k x:=rfl
theorem Aw {x:Addr} {k:Addr→Prop} {d:dP k}:wB (.ref x) k d=k x:=rfl
theorem AA {x:List PV} {k:List PV→Prop} {d:dP k}:Az (.tup x) k d=k x:=rfl
theorem Aj {x:PV} {k:PV→Prop} {d:dP k}:qQ [x] k d=k x:=rfl
theorem As {x:List PV} {k:List PV→Prop} {d:dP k}:BE (some (.lst x)) k d=k x:=rfl
theorem Aq {x:List (Str × PV)} {e:Nat} {k:List (Str × PV)→Nat→Prop} {d:dP k}:Ap (some (.dct x e)) k d=k x e:=rfl
theorem An {C:Addr} {x:List (Str × PV)} {k:List (Str × PV)→Prop} {d:dP k}:BD C (some (.ins C x)) k d=k x:=if_pos rfl
theorem eo {α:Type} {o:Option α} {k:α→Prop} {d:dP k} (h:mL o k d):∃x,o=some x∧k x:=by cases o with | none=>exact h.elim | some x=>exact ⟨x,rfl,h⟩
theorem lH {α:Type} {o:Option α} {x:α} {k:α→Prop} (e:o=some x) (h:k x):mL o k:=by rw [e];exact h
theorem yn {o:Option (Option PV)} {k:PV→Prop} {d:dP k} (h:Ak o k d):∃x,o=some (some x)∧k x:=by
 unfold Ak at h
 split at h
 ·exact ⟨_,rfl,h⟩
 ·exact h.elim
theorem dg {x:PV} {k:Int→Prop} {d:dP k} (h:qR x k d):∃i,x=.int i∧k i:=by cases x <;> first | exact ⟨_,rfl,h⟩ | exact False.elim h
theorem lG {x:PV} {k:Bool→Prop} {d:dP k} (h:zt x k d):∃i,x=.bl i∧k i:=by cases x <;> first | exact ⟨_,rfl,h⟩ | exact False.elim h
theorem cO {x:PV} {k:Str→Prop} {d:dP k} (h:nk x k d):∃i,x=.str i∧k i:=by cases x <;> first | exact ⟨_,rfl,h⟩ | exact False.elim h
theorem nR {x:PV} {k:Addr→Prop} {d:dP k} (h:wB x k d):∃i,x=.ref i∧k i:=by cases x <;> first | exact ⟨_,rfl,h⟩ | exact False.elim h
theorem yq {x:PV} {k:List PV→Prop} {d:dP k} (h:Az x k d):∃i,x=.tup i∧k i:=by cases x <;> first | exact ⟨_,rfl,h⟩ | exact False.elim h
theorem eV {xs:List PV} {k:PV→Prop} {d:dP k} (h:qQ xs k d):∃x,xs=[x]∧k x:=by
 unfold qQ at h
 split at h
 ·exact ⟨_,rfl,h⟩
 ·exact h.elim
theorem yp {o:Option HQ} {k:List PV→Prop} {d:dP k} (h:BE o k d):∃x,o=some (.lst x)∧k x:=by
 unfold BE at h
 split at h
 ·exact ⟨_,rfl,h⟩
 ·exact h.elim
theorem sX {o:Option HQ} {k:List (Str × PV)→Nat→Prop} {d:dP k} (h:Ap o k d):∃x e,o=some (.dct x e)∧k x e:=by
 unfold Ap at h
 split at h
 ·exact ⟨_,_,rfl,h⟩
 ·exact h.elim
section
variable {X:Cx} {G:G2} {a b c e o:Expr} {es rest:List Expr} {ta tb te tc to:bQ} {tA tB':iO} {t:i'} {pos px p p2 apos cpos:Pos} {x:Str} {i j:Nat}
def A_ (i:Nat):bQ:=λτ J Q=>Ak τ[i]? λx=>Q x J
theorem rv (i:Nat) {x:Str} {pos:Pos} (hN:X.N[i]?=some x:=by rfl) (hv:jc X.env.scope x:=by first | exact Or.inl rfl | exact Or.inr (Or.inl rfl) | exact Or.inr (Or.inr rfl)) (hd:(x == ("__debug__":Str))=false:=by decide)
  (hcd:(x == ("__classdict__":Str))=false:=by decide):RE X G (.Name x pos) (A_ i) :=
 ⟨iD (L2.nZ hN hv hd hcd) λσ H Q ⟨τ,J,Q2,a2,hq,k⟩=>let ⟨y,ey,q⟩:=yn hq;let ⟨v,e1,r⟩:=a2.sl.get i y ey;⟨v,e1,k y J v H r a2.hp .refl q⟩⟩
def rC (x:PV):bQ:=λ_ J Q=>Q x J
theorem ag {i:Int} {j pos}:RE X G (.Constant (.int i) j pos) (rC (.int i)):=⟨iD L2.aJ λσ H Q ⟨τ,J,Q2,a2,q,k⟩=>k (.int i) J _ H rfl a2.hp .refl q⟩
theorem kG {b:Bool} {j pos}:RE X G (.Constant (.bool b) j pos) (rC (.bl b)):=⟨iD L2.mO λσ H Q ⟨τ,J,Q2,a2,q,k⟩=>k (.bl b) J _ H rfl a2.hp .refl q⟩
theorem cE {j pos}:RE X G (.Constant .none j pos) (rC .non):=⟨iD L2.nW λσ H Q ⟨τ,J,Q2,a2,q,k⟩=>k .non J _ H rfl a2.hp .refl q⟩
theorem aw {x:Str} {j pos}:RE X G (.Constant (.str x) j pos) (rC (.str x)):=⟨iD L2.fV λσ H Q ⟨τ,J,Q2,a2,q,k⟩=>k (.str x) J _ H rfl a2.hp .refl q⟩
theorem vN {v:V} {u:Value} (y:PV) (hg:Gl X x) (hm:X.mg x=some u) (r:RelV v u) (hr:∀J H,bK X.K J H y v) (hd:(x == ("__debug__":Str))=false:=by decide):RE X G (.Name x pos) (rC y) :=
 ⟨iD (L2.bI hg hm r hd) λσ H Q ⟨τ,J,Q2,a2,q,k⟩=>k y J v H (hr J H) a2.hp .refl q⟩
theorem kH {n:String} (hg:Gl X x) (hm:X.mg x=none) (hv:bootBuiltins x=some (.type n)) (hn:x≠"__name__":=by decide) (hd:(x == ("__debug__":Str))=false:=by decide):RE X G (.Name x pos) (rC (.ty n)) :=
 ⟨iD (L2.iV (v:=.ty n) hg hm hv rfl hn hd) λσ H Q ⟨τ,J,Q2,a2,q,k⟩=>k (.ty n) J _ H rfl a2.hp .refl q⟩
abbrev iH:=PV→PV→Hq→(PV→Hq→Prop)→Prop
abbrev zD:=PV→Hq→(PV→Hq→Prop)→Prop
abbrev nj:=List PV→Hq→(PV→Hq→Prop)→Prop
def Kn (K:PySem.W.Frag) (J:Hq) (H:Hp) (Q2:PV→Hq→Prop) (Q:VK):Prop:=∀z J' u H',bK K J' H' z u→Rep K J' H'→Ext K J H J' H'→Q2 z J'→Q u H'
def LR (K:PySem.W.Frag) (r:R2) (q:iH):Prop:=∀J H x y v w Q2 Q,bK K J H x v→bK K J H y w→Rep K J H→q x y J Q2→Kn K J H Q2 Q→r v w H Q
def DJ (K:PySem.W.Frag) (r:V→Hp→VK→Prop) (q:zD):Prop:=∀J H x v Q2 Q,bK K J H x v→Rep K J H→q x J Q2→Kn K J H Q2 Q→r v H Q
def Dp (K:PySem.W.Frag) (r:List V→Hp→VK→Prop) (q:nj):Prop:=∀J H xs vs Q2 Q,aC K J H xs vs→Rep K J H→q xs J Q2→Kn K J H Q2 Q→r vs H Q
def j1 (X:Cx) (f:Value→Value→Sem Value) (q:iH):Prop:=∃r,cn X f r∧LR X.K r q
def Ds (X:Cx) (f:Value→Sem Value) (q:zD):Prop:=∃r,jb X f r∧DJ X.K r q
def Bz (X:Cx) (q:iH):Prop:=∃r,gh X r∧LR X.K r q
def uv (X:Cx) (f:Value) (q:nj):Prop:=∃r,aZ X f r∧Dp X.K r q
def zv (q:iH) (ta tb:bQ):bQ:=λτ J Q=>ta τ J λx J1=>tb τ J1 λy J2=>q x y J2 Q
def DI (q:zD) (ta:bQ):bQ:=λτ J Q=>ta τ J λx J1=>q x J1 Q
theorem iU {r:R2} {q:iH} (lr:LR X.K r q):∀σ H Q,LE X.K G (zv q ta tb) σ H Q→L2.uh r (LE X.K G ta) (LE X.K G tb) σ H Q:=λσ H Q ⟨τ,J,Q2,a2,h,k⟩ =>
 ⟨τ,J,_,a2,h,λx J1 v H1 rx r1 e1 q1=>⟨τ,J1,_,a2.go r1 e1,q1,λy J2 w H2 ry r2 e2 q2 =>
  lr J2 H2 x y v w Q2 Q (e2.rep rx) ry r2 q2 λz J' u H' rz rr ee qq=>k z J' u H' rz rr ((e1.trans e2).trans ee) qq⟩⟩
theorem aE {op:Operator} {q:iH} (ho:j1 X (binaryOp op) q) (ha:RE X G a ta) (hb:RE X G b tb):RE X G (.BinOp a op b pos) (zv q ta tb):=by
 obtain ⟨r,h,lr⟩:=ho
 exact ⟨iD (L2.bc h ha.run hb.run) (iU lr)⟩
theorem Bc {op:UnaryOp} {q:zD} (ho:Ds X (unaryOp op) q) (ha:RE X G a ta):RE X G (.UnaryOp op a pos) (DI q ta):=by
 obtain ⟨r,h,lr⟩:=ho
 exact ⟨iD (L2.tF h ha.run) λσ H Q ⟨τ,J,Q2,a2,h,k⟩=>⟨τ,J,_,a2,h,λx J1 v H1 rx r1 e1 q1 =>
  lr J1 H1 x v Q2 Q rx r1 q1 λz J' u H' rz rr ee qq=>k z J' u H' rz rr (e1.trans ee) qq⟩⟩
theorem ar {q:iH} (hr:Bz X q) (ha:RE X G a ta) (hb:RE X G b tb) (hs:bf b:=by exact λ_ _=>rfl):RE X G (.Subscript a b pos) (zv q ta tb):=by
 obtain ⟨r,h,lr⟩:=hr
 exact ⟨iD (L2.dI h ha.run hb.run hs) (iU lr)⟩
theorem f6 {op:CmpOp} {q:iH} (ho:j1 X (compareOp op) q) (ha:RE X G a ta) (hb:RE X G b tb) (hm:behindInMarks op b=false:=by first | exact L2.df _ | with_unfolding_all rfl):RE X G (.Compare a [op] [b] pos) (zv q ta tb):=by
 obtain ⟨r,h,lr⟩:=ho
 exact ⟨iD (L2.lI h ha.run hb.run hm) (iU lr)⟩
def rB (t:bQ):iO:=λτ J Q=>t τ J λx J1=>zt x λk=>Q k J1
theorem ay {op:CmpOp} {q:iH} (ho:j1 X (compareOp op) q) (ha:RE X G a ta) (hb:RE X G b tb) (hm:behindInMarks op b=false:=by first | exact L2.df _ | with_unfolding_all rfl):RT X G (.Compare a [op] [b] pos) (rB (zv q ta tb)):=by
 obtain ⟨r,h,lr⟩:=ho
 refine ⟨Cv (L2.bX h ha.run hb.run hm) λσ H Q ⟨τ,J,Q2,a2,h,k⟩=>?_⟩
 refine iU lr σ H _ ⟨τ,J,_,a2,h,λz J' u H' rz rr ee qq=>?_⟩
 obtain ⟨b,rfl,q⟩:=lG qq
 exact ⟨b,rz,k b J' H' rr ee q⟩
theorem dn (h:RE X G e te) (he:∀whole,isTrue e X.env whole=(do let v ← whole;standAt e.pos;holding [v] (truthy v)):=by intro _;rfl):RT X G e (rB te) :=
 ⟨Cv (L2.n9 h.run he) λσ H Q ⟨τ,J,Q2,a2,h,k⟩=>⟨τ,J,_,a2,h,λz J' u H' rz rr ee qq=>by obtain ⟨b,eb,q⟩:=lG qq;subst eb;exact ⟨b,rz,k b J' H' rr ee q⟩⟩⟩
def oG (J:Hq):PV→Option Bool
 | .non=>some false
 | .bl b=>some b
 | .int i=>some (i != 0)
 | .tup xs=>some (!xs.isEmpty)
 | .fl xs=>some (!xs.isEmpty)
 | .ref a=>match J a with
  | some (.lst xs)=>some (!xs.isEmpty)
  | some (.dct kvs _)=>some (!kvs.isEmpty)
  | _=>none
 | _=>none
def CS (te:bQ):iO:=λτ J Q=>te τ J λx J1=>mL (oG J1 x) λk=>Q k J1
def yL (t u:iO):iO:=λτ J Q=>t τ J λc J1=>if c=true then u τ J1 Q else Q false J1
def CO (t u:iO):iO:=λτ J Q=>t τ J λc J1=>if c=true then Q true J1 else u τ J1 Q
def A3 (t:iO):iO:=λτ J Q=>t τ J λc J1=>Q (!c) J1
theorem dU (ha:RT X G a tA):RT X G (.UnaryOp .Not a pos) (A3 tA):=⟨Cv (L2.n8 ha.run) λσ H Q ⟨τ,J,Q2,a2,h,k⟩=>⟨τ,J,_,a2,h,λb J' H' rr ee q=>k _ J' H' rr ee q⟩⟩
theorem cf (ha:RT X G a tA):RW X G (.BoolOp .And [a] pos) tA:=⟨L2.iX ha.run⟩
theorem fc (ha:RT X G a tA):RW X G (.BoolOp .Or [a] pos) tA:=⟨L2.lO ha.run⟩
theorem rR {σ:L2.St} {H:Hp} {Q:Bool→Hp→Prop}:LT X.K G (yL tA tB') σ H Q→L2.ug (LT X.K G tA) (LT X.K G tB') σ H Q:=λ⟨τ,J,Q2,a2,h,k⟩ =>
 ⟨τ,J,_,a2,h,λb J' H' rr ee q=>by
  cases b with
  | true=>simp only [if_true] at q ⊢;exact ⟨τ,J',Q2,a2.go rr ee,q,λb J2 H2 r2 e2 q2=>k b J2 H2 r2 (ee.trans e2) q2⟩
  | false=>simp only [Ef,if_false] at q ⊢;exact k _ J' H' rr ee q⟩
theorem vw {σ:L2.St} {H:Hp} {Q:Bool→Hp→Prop}:LT X.K G (CO tA tB') σ H Q→L2.Bk (LT X.K G tA) (LT X.K G tB') σ H Q:=λ⟨τ,J,Q2,a2,h,k⟩ =>
 ⟨τ,J,_,a2,h,λb J' H' rr ee q=>by
  cases b with
  | false=>simp only [Ef,if_false] at q ⊢;exact ⟨τ,J',Q2,a2.go rr ee,q,λb J2 H2 r2 e2 q2=>k b J2 H2 r2 (ee.trans e2) q2⟩
  | true=>simp only [if_true] at q ⊢;exact k _ J' H' rr ee q⟩
theorem dq (ha:RT X G a tA) (hb:RW X G (.BoolOp .And (b :: rest) pos) tB'):RW X G (.BoolOp .And (a :: b :: rest) pos) (yL tA tB'):=⟨DA (L2.lN ha.run hb.run) λσ H Q h=>rR h⟩
theorem d6 (ha:RT X G a tA) (hb:RW X G (.BoolOp .Or (b :: rest) pos) tB'):RW X G (.BoolOp .Or (a :: b :: rest) pos) (CO tA tB'):=⟨DA (L2.pM ha.run hb.run) λσ H Q h=>vw h⟩
theorem cg (h:RW X G e tA):RT X G e tA:=⟨h.run.pt⟩
def wV (ta tb:bQ):bQ:=λτ J Q=>ta τ J λx J1=>zt x λc=>if c=true then tb τ J1 Q else Q (.bl false) J1
def CP (ta tb:bQ):bQ:=λτ J Q=>ta τ J λx J1=>zt x λc=>if c=true then Q (.bl true) J1 else tb τ J1 Q
def w6 (ta:bQ):bQ:=λτ J Q=>ta τ J λx J1=>zt x λc=>Q (.bl (!c)) J1
theorem oi {op} (h:RE X G a ta):RE X G (.BoolOp op [a] pos) ta:=⟨L2.nY h.run⟩
theorem oh (ha:RE X G a ta) (hb:RE X G (.BoolOp .And (b :: rest) pos) tb):RE X G (.BoolOp .And (a :: b :: rest) pos) (wV ta tb):=⟨iD (L2.nU ha.run hb.run) λσ H Q ⟨τ,J,Q2,a2,h,k⟩ =>
 ⟨τ,J,_,a2,h,λx J' v H' rx rr ee qq=>by
  obtain ⟨c,ec,q⟩:=lG qq
  subst ec
  refine ⟨c,rx,?_⟩
  cases c with
  | true=>simp only [if_true] at q ⊢;exact ⟨τ,J',Q2,a2.go rr ee,q,λz J2 u H2 rz r2 e2 q2=>k z J2 u H2 rz r2 (ee.trans e2) q2⟩
  | false=>simp only [Ef,if_false] at q ⊢;exact k (.bl false) J' _ H' rfl rr ee q⟩⟩
theorem yS (ha:RE X G a ta):RE X G (.UnaryOp .Not a pos) (w6 ta):=⟨iD (L2.nX ha.run) λσ H Q ⟨τ,J,Q2,a2,h,k⟩ =>
 ⟨τ,J,_,a2,h,λx J' v H' rx rr ee qq=>by obtain ⟨c,ec,q⟩:=lG qq;subst ec;exact ⟨c,rx,k (.bl (!c)) J' _ H' rfl rr ee q⟩⟩⟩
def DF (t:iO) (ta tb:bQ):bQ:=λτ J Q=>t τ J λc J1=>if c=true then ta τ J1 Q else tb τ J1 Q
theorem Ba (hc:RT X G c tA) (ha:RE X G a ta) (hb:RE X G b tb):RE X G (.IfExp c a b pos) (DF tA ta tb):=⟨iD (L2.jC hc.run ha.run hb.run) λσ H Q ⟨τ,J,Q2,a2,h,k⟩ =>
 ⟨τ,J,_,a2,h,λc J' H' rr ee q=>by
  cases c with
  | true=>simp only [if_true] at q ⊢;exact ⟨τ,J',Q2,a2.go rr ee,q,λz J2 u H2 rz r2 e2 q2=>k z J2 u H2 rz r2 (ee.trans e2) q2⟩
  | false=>simp only [Ef,if_false] at q ⊢;exact ⟨τ,J',Q2,a2.go rr ee,q,λz J2 u H2 rz r2 e2 q2=>k z J2 u H2 rz r2 (ee.trans e2) q2⟩⟩⟩
def A2:i':=λ_ J Q=>Q [] J
def wX (ta:bQ) (tr:i'):i':=λτ J Q=>ta τ J λx J1=>tr τ J1 λxs J2=>Q (x :: xs) J2
theorem ah:RA X G [] A2:=⟨Ct L2.aL λσ H Q ⟨τ,J,Q2,a2,h,k⟩=>k [] J [] H rfl a2.hp .refl h⟩
theorem af (ha:RE X G e te) (hr:RA X G es t) (hs:starEach (e :: es) X.env=(false,eval e X.env) :: starEach es X.env:=by rfl):RA X G (e :: es) (wX te t) :=
 ⟨Ct (L2.ak ha.run hr.run hs) λσ H Q ⟨τ,J,Q2,a2,h,k⟩=>⟨τ,J,_,a2,h,λx J' v H' rx rr ee q=>⟨τ,J',_,a2.go rr ee,q,λxs J2 vs H2 rs r2 e2 q2=>k (x :: xs) J2 (v :: vs) H2 ⟨v,vs,rfl,e2.rep rx,rs⟩ r2 (ee.trans e2) q2⟩⟩⟩
def vP:V→PV
 | .non=>.non | .bl b=>.bl b | .int i=>.int i | .str x=>.str x | _=>.non
theorem jH {K:PySem.W.Frag} {J:Hq} {H:Hp}:∀{es:List Expr} {vs:List V},es.map kW=vs.map some→aC K J H (vs.map vP) vs
 | [],[],_=>rfl
 | [],_ :: _,h=>by cases h
 | _ :: _,[],h=>by cases h
 | e :: es,v :: vs,h=>by
  rw [D_,D_] at h
  injection h with h1 h2
  refine ⟨v,vs,rfl,?_,jH h2⟩
  cases e with
  | Constant c j pos =>
   cases c with
   | int i=>cases h1;rfl
   | str x=>cases h1;rfl
   | bool b=>cases h1;rfl
   | _=>cases h1
  | _=>cases h1
theorem jF {es:List Expr} (vs:List V) (h:es.map kW=vs.map some) (xs:List PV) (hx:vs.map vP=xs):RA X G es (λ_ J Q=>Q xs J) :=
 ⟨Ct (jA vs h) λσ H Q ⟨τ,J,Q2,a2,q,k⟩=>k _ J _ H (by rw [← hx];exact jH h) a2.hp .refl q⟩
def A9 (t:i'):bQ:=λτ J Q=>t τ J λxs J1=>xs.length≤sizeLine∧Q (.tup xs) J1
theorem bz {x1} (h:RA X G es t):RE X G (.Tuple es x1 pos) (A9 t):=⟨iD (L2.lJ h.run) λσ H Q ⟨τ,J,Q2,a2,h,k⟩=>⟨τ,J,_,a2,h,λxs J' vs H' rs rr ee ⟨hl,q⟩ =>
 ⟨by rw [← rs.length];exact hl,λp hp=>by
  have sm:=aN.new hp (.tup vs)
  have e2:=Ext.same (K:=X.K) (J:=J') sm
  exact k (.tup xs) J' (.ref p) _ ⟨p,vs,rfl,.inl (.inl aq),e2.fJ rs⟩ (rr.same sm) (ee.trans e2) q⟩⟩⟩
def AZ (t:i'):bQ:=λτ J Q=>t τ J λxs J1=>xs.length≤sizeLine∧∀p,J1 p=none→Q (.ref p) (put J1 p (.lst xs))
theorem yR (h:RA X G es t):RE X G (.List es pos) (AZ t):=⟨iD (L2.eB h.run) λσ H Q ⟨τ,J,Q2,a2,h,k⟩=>⟨τ,J,_,a2,h,λxs J' vs H' rs rr ee ⟨hl,q⟩ =>
 ⟨by rw [← rs.length];exact hl,λp hp=>k (.ref p) _ (.ref p) _ rfl (rr.sF hp rs) (ee.trans (.laid hp)) (q p (rr.free hp))⟩⟩⟩
def DE (t:i'):bQ:=λτ J Q=>t τ J λxs J1=>xs.length≤sizeLine∧Q (.fl xs) J1
theorem jy {K:PySem.W.Frag} {J:Hq} {H:Hp} {xs:List PV} {vs:List V} {p:Addr} (rr:Rep K J H) (rs:aC K J H xs vs) (hp:H p=none):bK K J (upd H p (.lst vs)) (.fl xs) (.ref p)∧Rep K J (upd H p (.lst vs))∧Ext K J H J (upd H p (.lst vs)):=by
 have sm:=aN.new hp (.lst vs)
 have e2:=Ext.same (K:=K) (J:=J) sm
 exact ⟨⟨p,vs,rfl,.inl ⟨rr.free hp,.inl aq⟩,e2.fJ rs⟩,rr.same sm,e2⟩
theorem cQ (h:RA X G es t):RE X G (.List es pos) (DE t):=⟨iD (L2.eB h.run) λσ H Q ⟨τ,J,Q2,a2,h,k⟩=>⟨τ,J,_,a2,h,λxs J' vs H' rs rr ee ⟨hl,q⟩ =>
 ⟨by rw [← rs.length];exact hl,λp hp=>let ⟨x1,x2,x3⟩:=jy rr rs hp;k (.fl xs) _ (.ref p) _ x1 x2 (ee.trans x3) q⟩⟩⟩
abbrev zq:=Sr→Hq→(Option Int→Hq→Prop)→Prop
def LO (K:PySem.W.Frag) (G:G2) (t:zq):TO:=λσ H Q=>∃τ J Q2,nq K G τ J σ H∧t τ J Q2∧∀b J' H',Rep K J' H'→Ext K J H J' H'→Q2 b J'→Q b H'
structure RO (X:Cx) (G:G2) (e:Option Expr) (t:zq):Prop where
 run:L2.PO X e (LO X.K G t)
theorem Dz {X:Cx} {e:Option Expr} {t t':TO} (h:L2.PO X e t) (k:∀σ H Q,t' σ H Q→t σ H Q):L2.PO X e t':=λpins s σ H Q I q=>h pins s σ H Q I (k _ _ _ q)
def pQ:zq:=λ_ J Q=>Q none J
def w8 (t:bQ):zq:=λτ J Q=>t τ J λx J1=>qR x λi=>Q (some i) J1
theorem bp:RO X G none pQ:=⟨Dz L2.iW λσ H Q ⟨τ,J,Q2,a2,h,k⟩=>k none J H a2.hp .refl h⟩
theorem a_ (h:RE X G e te):RO X G (some e) (w8 te):=⟨Dz (L2.fw h.run) λσ H Q ⟨τ,J,Q2,a2,h,k⟩=>⟨τ,J,_,a2,h,λx J' v H' rx rr ee qq=>by obtain ⟨i,ei,q⟩:=dg qq;subst ei;exact ⟨i,rx,k _ J' H' rr ee q⟩⟩⟩
abbrev nu:=PV→Option Int→Option Int→Hq→(PV→Hq→Prop)→Prop
def BO (X:Cx) (q:nu):Prop:=∃r,h8 X r∧∀J H x lo hi v Q2 Q,bK X.K J H x v→Rep X.K J H→q x lo hi J Q2→Kn X.K J H Q2 Q→r v lo hi H Q
def DH (q:nu) (te:bQ) (tl th:zq):bQ:=λτ J Q=>te τ J λx J1=>tl τ J1 λl J2=>th τ J2 λu J3=>q x l u J3 Q
theorem aT {lo hi:Option Expr} {tl th:zq} {q:nu} (hr:BO X q) (he:RE X G e te) (hl:RO X G lo tl) (hu:RO X G hi th):RE X G (.Subscript e (.Slice lo hi none p2) pos) (DH q te tl th):=by
 obtain ⟨r,h,lr⟩:=hr
 exact ⟨iD (L2.eX h he.run hl.run hu.run) λσ H Q ⟨τ,J,Q2,a2,h,k⟩=>⟨τ,J,_,a2,h,λx J' v H' rx rr ee q1=>⟨τ,J',_,a2.go rr ee,q1,λl J2 H2 r2 e2 q2 =>
  ⟨τ,J2,_,a2.go r2 (ee.trans e2),q2,λu J3 H3 r3 e3 q3=>lr J3 H3 x l u v Q2 Q ((e2.trans e3).rep rx) r3 q3 λz J4 w H4 rz r4 e4 q4=>k z J4 w H4 rz r4 (((ee.trans e2).trans e3).trans e4) q4⟩⟩⟩⟩
def BH (q:nj) (t:i'):bQ:=λτ J Q=>t τ J λxs J1=>q xs J1 Q
theorem oP {r:List V→Hp→VK→Prop} {q:nj} (lr:Dp X.K r q):∀σ H Q,LE X.K G (BH q t) σ H Q→L2.vW r (LA X.K G t) σ H Q:=λσ H Q ⟨τ,J,Q2,a2,h,k⟩ =>
 ⟨τ,J,_,a2,h,λxs J1 vs H1 rs r1 e1 q1=>lr J1 H1 xs vs Q2 Q rs r1 q1 λz J' u H' rz rr ee qq=>k z J' u H' rz rr (e1.trans ee) qq⟩
theorem aH {id:String} {q:nj} (hc:uv X (.builtin id) q) (hg:Gl X x) (hm:X.mg x=none) (hv:bootBuiltins x=some (.builtin id)) (ha:RA X G (e :: es) t) (hn:x≠"__name__":=by decide) (hdb:(x == ("__debug__":Str))=false:=by decide)
  (he:starEach (e :: es) X.env=(false,eval e X.env) :: starEach es X.env:=by rfl) (hpl:(backTo pos (starEach es X.env)).any (·.1)=false:=by rfl):RE X G (.Call (.Name x p) (e :: es) [] pos) (BH q t):=by
 obtain ⟨r,h,lr⟩:=hc
 exact ⟨iD (L2.aO h hg hm hv ha.run hn hdb he hpl) (oP lr)⟩
theorem bE {T:String} {q:nj} (hc:uv X (.type T) q) (hg:Gl X x) (hm:X.mg x=none) (hv:bootBuiltins x=some (.type T)) (ha:RA X G (e :: es) t) (hn:x≠"__name__":=by decide) (hdb:(x == ("__debug__":Str))=false:=by decide)
  (he:starEach (e :: es) X.env=(false,eval e X.env) :: starEach es X.env:=by rfl) (hpl:(backTo pos (starEach es X.env)).any (·.1)=false:=by rfl):RE X G (.Call (.Name x p) (e :: es) [] pos) (BH q t):=by
 obtain ⟨r,h,lr⟩:=hc
 exact ⟨iD (L2.ij h hg hm hv ha.run hn hdb he hpl) (oP lr)⟩
abbrev rM:=PV→List PV→Hq→(PV→Hq→Prop)→Prop
def zC (X:Cx) (T id:String) (q:rM):Prop:=∃r,hU X id r∧∀J H x xs v vs Q2 Q,bK X.K J H x v→aC X.K J H xs vs→Rep X.K J H→q x xs J Q2→Kn X.K J H Q2 Q→r v vs H Q
def zy (T:String) (J:Hq):PV→Prop
 | .str _=>T="str"
 | .fl _=>T="list"
 | .ref a=>(T="list"∧∃xs,J a=some (.lst xs))∨(T="dict"∧∃kvs ep,J a=some (.dct kvs ep))
 | _=>False
theorem v9 {K:PySem.W.Frag} {T:String} {J:Hq} {H:Hp} {x:PV} {v:V} (r:bK K J H x v) (hp:Rep K J H) (h:zy T J x):L2.C0 K T v H:=by
 cases x with
 | str s=>cases r;exact h
 | fl xs=>obtain ⟨a,vs,rfl,h1,h2⟩:=r;exact .inl ⟨h,vs,h1.sq⟩
 | ref a =>
  cases r
  rcases h with ⟨h,xs,e⟩ | ⟨h,kvs,ep,e⟩
  ·obtain ⟨vs,h1,_⟩:=hp _ _ e;exact .inl ⟨h,vs,.inl (.inl h1)⟩
  ·obtain ⟨gs,h1,_⟩:=hp _ _ e;exact .inr (.inr (.inl ⟨h,.inr ⟨gs,ep,h1⟩⟩))
 | _=>cases h
def DC (T:String) (q:rM) (to:bQ) (t:i'):bQ:=λτ J Q=>to τ J λx J1=>zy T J1 x∧t τ J1 λxs J2=>q x xs J2 Q
def CD (T:String) (q:rM) (to:bQ):bQ:=λτ J Q=>to τ J λx J1=>zy T J1 x∧q x [] J1 Q
theorem gW {name:Str} {T id:String} {q:rM} (pa:PlainAttrs T) (slot:Slot T name id) (hty:typeOf (.builtin id)=pure (.type "method_descriptor")) (hm:zC X T id q) (ho:RE X G o to) (ha:RA X G (e :: es) t)
  (hbase:attributeBase o name X.env (eval o X.env)=eval o X.env:=by rfl)
  (hfew:((backTo cpos (starEach (e :: es) X.env)).all (λx=>!x.1) && (backToKw cpos (keywordEach [] X.env)).all (λx=>x.1.isSome)
   && decide ((e :: es).length + ([]:List Keyword).length + (if ([]:List Keyword).isEmpty then 0 else 1) < 30))=true:=by rfl)
  (hline:(apos.endLine == cpos.line)=true:=by rfl) (hs:starEach (e :: es) X.env=(false,eval e X.env) :: starEach es X.env:=by rfl) (hplain:(backTo cpos (starEach es X.env)).any (·.1)=false:=by rfl) :
  RE X G (.Call (.Attribute o name apos) (e :: es) [] cpos) (DC T q to t):=by
 obtain ⟨r,h,lr⟩:=hm
 exact ⟨iD (L2.jB pa slot hty h ho.run ha.run hbase hfew hline hs hplain) λσ H Q ⟨τ,J,Q2,a2,h,k⟩=>⟨τ,J,_,a2,h,λx J1 v H1 rx r1 e1 ⟨ty,q1⟩=>⟨v9 rx r1 ty,τ,J1,_,a2.go r1 e1,q1,λxs J2 vs H2 rs r2 e2 q2 =>
  lr J2 H2 x xs v vs Q2 Q (e2.rep rx) rs r2 q2 λz J' u H' rz rr ee qq=>k z J' u H' rz rr ((e1.trans e2).trans ee) qq⟩⟩⟩
end
end Ov
namespace Ov
open PySem PySem.Spec PyProof.Rows
open L2 (V HO Hp Inv Cx VK XK TE TT TA TS TG jW TI TO dA Ends jc Loc Gl Rd RelV Vals cn jb aZ gh h8 hU dQ R2 upd aq aB bO dz Sp g_ It aN bf bj Passes ka bS Meth Mk Binds aM cu ax bN b9 fI)
abbrev d8:=List PV→Hq→(PV→Hq→Prop)→(Addr→Hq→Prop)→Prop
def wj (K:PySem.W.Frag) (J:Hq) (H:Hp) (E2:Addr→Hq→Prop) (E:XK):Prop:=∀c J' H',Rep K J' H'→Ext K J H J' H'→E2 c J'→E (.ref c) none H'
def hE (K:PySem.W.Frag) (sp:d8):Sp:=λvs H Q E=>∃xs J Q2 E2,aC K J H xs vs∧Rep K J H∧sp xs J Q2 E2∧Kn K J H Q2 Q∧wj K J H E2 E
theorem wj.ext {K:PySem.W.Frag} {J J':Hq} {H H':Hp} {E2:Addr→Hq→Prop} {E:XK} (k:wj K J H E2 E) (e:Ext K J H J' H'):wj K J' H' E2 E:=λc J1 H1 r x q=>k c J1 H1 r (e.trans x) q
theorem _root_.L2.aM.DM {P:Program} {w:World} {K:PySem.W.Frag} {mg:Str→Option Value} {base:Heap} {k:Nat} {f:Addr} {fd:FuncData} {ps:List Str} {sp:Sp} (F:aM P w K mg base L2.kQ k f fd ps sp):aM P w K mg base (cU P w) k f fd ps sp :=
 ⟨F.len,λA outer s H args us vs Q E hr he hb hv hs=>codeAny_mono (F.run A outer s H args us vs Q E hr he hb hv hs) λr s' q=>by
  cases r with
  | error e=>exact False.elim q
  | ok fl=>cases fl <;> exact q⟩
theorem _root_.L2.aM.Bw {P:Program} {w:World} {K:PySem.W.Frag} {mg:Str→Option Value} {base:Heap} {k:Nat} {f:Addr} {fd:FuncData} {ps:List Str} {sp:Sp} (F:aM P w K mg base (cU P w) k f fd ps sp):aM P w K mg base L2.kQ k f fd ps (λvs H Q _=>sp vs H Q L2.E0) :=
 ⟨λvs H Q E q=>F.len vs H Q _ q,λA outer s H args us vs Q E hr he hb hv hs=>codeAny_mono (F.run A outer s H args us vs Q _ hr he hb hv hs) λr s' q=>by
  cases r with
  | error e=>obtain ⟨_,_,_,_,_,z⟩:=q;exact z.elim
  | ok fl=>cases fl <;> exact q⟩
def bB (P:Program) (w:World) (K:PySem.W.Frag) (mg:Str→Option Value) (base:Heap) (k:Nat) (x:Str) (ps:List Str) (sp:d8):Prop:=rm P w K mg base k x ps (hE K sp)
theorem _root_.Ov.qg.lift {P:Program} {w:World} {K:PySem.W.Frag} {mg:Str→Option Value} {base:Heap} {k:Nat} {x:Str} {ps:List Str} {sp:Sp} (C:qg P w K mg base k x ps sp) {sp':d8}
  (h:∀xs J vs H Q2 E2 Q E,aC K J H xs vs→Rep K J H→sp' xs J Q2 E2→Kn K J H Q2 Q→sp vs H Q E):bB P w K mg base k x ps sp':=by
 obtain ⟨f,fd,F,r⟩:=C
 exact ⟨f,fd,(F.DM).imp λvs H Q E ⟨xs,J,Q2,E2,a,b,c,d,_⟩=>h xs J vs H Q2 E2 Q E a b c d,r⟩
theorem rm.lift {P:Program} {w:World} {K:PySem.W.Frag} {mg:Str→Option Value} {base:Heap} {k:Nat} {x:Str} {ps:List Str} {sp:Sp} (C:rm P w K mg base k x ps sp) {sp':d8}
  (h:∀xs J vs H Q2 E2 Q E,aC K J H xs vs→Rep K J H→sp' xs J Q2 E2→Kn K J H Q2 Q→wj K J H E2 E→sp vs H Q E):bB P w K mg base k x ps sp':=by
 obtain ⟨f,fd,F,r⟩:=C
 exact ⟨f,fd,F.imp λvs H Q E ⟨xs,J,Q2,E2,a,b,c,d,e⟩=>h xs J vs H Q2 E2 Q E a b c d e,r⟩
section
variable {X:Cx} {G:G2} {a b c e o value:Expr} {es rest:List Expr} {ta tb te tc to tv:bQ} {tA tB':iO} {t:i'} {pos px p p2 apos cpos pos':Pos} {x:Str} {i j:Nat} {E:XK} {E2:Addr→Hq→Prop}
structure uA (X:Cx) (G:G2) (E2:Addr→Hq→Prop) (E:XK):Prop where
 pass:Passes (cU X.prog X.w) X E
 kn:wj X.K G.1 G.2 E2 E
def wW (sp:d8) (E2:Addr→Hq→Prop) (t:i'):bQ:=λτ J Q=>t τ J λxs J1=>sp xs J1 Q E2
theorem aS {k k':Nat} {ps:List Str} {sp:d8} (C:bB X.prog X.w X.K X.mg X.base k x ps sp) (B:uA X G E2 E) (hr:bj k' X.A) (ha:RA X G (e :: es) t) (hk:k≤k':=by decide) (hg:Gl X x:=by rfl)
  (hdb:(x == ("__debug__":Str))=false:=by decide) (he:starEach (e :: es) X.env=(false,eval e X.env) :: starEach es X.env:=by rfl) (hpl:(backTo pos (starEach es X.env)).any (·.1)=false:=by rfl) :
  RE X G (.Call (.Name x p) (e :: es) [] pos) (wW sp E2 t) :=
 ⟨iD (vA C B.pass hr hk hg ha.run hdb he hpl) λσ H Q ⟨τ,J,Q2,a2,h,k⟩=>⟨τ,J,_,a2,h,λxs J1 vs H1 rs r1 e1 q1=>by
  simp only [EY]
  exact ⟨xs,J1,Q2,E2,rs,r1,q1,λz J' u H' rz rr ee qq=>k z J' u H' rz rr (e1.trans ee) qq,B.kn.ext (a2.ext.trans e1)⟩⟩⟩
def CI (C:Addr) (ta:bQ) (f:Str):bQ:=λτ J Q=>ta τ J λx J1=>wB x λa=>BD C (J1 a) λfs=>mL (fs.lookup f) λv=>Q v J1
structure xu (P:Program) (w:World) (K:PySem.W.Frag) (mg:Str→Option Value) (base:Heap) (C:Addr) (k:Nat) (m:Str) (ps:List Str) (sp:d8):Prop where
 cl:ka K C
 ex:∃f fd,Meth K C m f∧aM P w K mg base (cU P w) k f fd ps (hE K sp)∧Binds K fd ps []
theorem xu.imp {P:Program} {w:World} {K:PySem.W.Frag} {mg:Str→Option Value} {base:Heap} {C:Addr} {k:Nat} {m:Str} {ps:List Str} {sp sp':d8} (M:xu P w K mg base C k m ps sp) (h:∀xs J Q E,sp' xs J Q E→sp xs J Q E):xu P w K mg base C k m ps sp':=by
 obtain ⟨cl,f,fd,hm,F,r⟩:=M
 exact ⟨cl,f,fd,hm,F.imp λvs H Q E ⟨xs,J,Q2,E2,a,b,c,d⟩=>⟨xs,J,Q2,E2,a,b,h _ _ _ _ c,d⟩,r⟩
def CN (C:Addr) (m:Str) (sp:d8) (E2:Addr→Hq→Prop) (ta:bQ) (t:i'):bQ:=λτ J Q=>ta τ J λx J1=>wB x λa=>BD C (J1 a) λfs=>fs.lookup m=none∧t τ J1 λxs J2=>sp (x :: xs) J2 Q E2
def CL (C:Addr) (sp:d8) (E2:Addr→Hq→Prop) (t:i'):bQ:=λτ J Q=>t τ J λxs J1=>∀a,J1 a=none→sp (.ref a :: xs) (put J1 a (.ins C [])) (λv J2=>v=.non∧Q (.ref a) J2) E2
end
section
variable {X:Cx} {G:G2} {st:Stmt} {rest:List Stmt} {t u:eM} {e tg o value:Expr} {es:List Expr} {te ta tv:bQ} {tc:iO} {pos pos':Pos}
def tT:eM:=λD τ J=>D.nx τ J
def ba (t u:eM):eM:=λD τ J=>t { D with nx:=u D } τ J
theorem aD:RB X G [] tT:=⟨Cu L2.dM λD σ H ⟨τ,J,D2,a2,h,g⟩=>g.nx τ J σ H a2.sl a2.hp .refl h⟩
theorem ai (h1:RS X G st t) (h2:RB X G rest u):RB X G (st :: rest) (ba t u):=⟨Cu (L2.aG h1.run h2.run) λD σ H ⟨τ,J,D2,a2,h,g⟩=>⟨τ,J,{ D2 with nx:=u D2 },a2,h,
 { nx:=λτ' J' σ' H' rs rr ee q=>⟨τ',J',D2,⟨rs,rr,a2.ext.trans ee⟩,q,g.ext ee⟩,rt:=g.rt,bk:=g.bk,ct:=g.ct }⟩⟩
theorem ao (h1:RS X G st t):RB X G [st] t:=⟨L2.bh h1.run⟩
def CH (t u:eM):eM:=λD τ J=>∃M:Sr→Hq→Prop,t { D with nx:=M } τ J∧∀τ' J',M τ' J'→u D τ' J'
theorem iY (h1:RS X G st t) (h2:RB X G rest u):RB X G (st :: rest) (CH t u):=⟨Cu (L2.aG h1.run h2.run) λD σ H ⟨τ,J,D2,a2,⟨M,h,hm⟩,g⟩=>⟨τ,J,{ D2 with nx:=M },a2,h,
 { nx:=λτ' J' σ' H' rs rr ee q=>⟨τ',J',D2,⟨rs,rr,a2.ext.trans ee⟩,hm _ _ q,g.ext ee⟩,rt:=g.rt,bk:=g.bk,ct:=g.ct }⟩⟩
def CF:eM:=λD τ J=>D.bk τ J
def CG:eM:=λD τ J=>D.ct τ J
def wY (te:bQ):eM:=λD τ J=>te τ J λ_ J1=>D.nx τ J1
theorem pR (he:RE X G e te) (hs:swapsWith e none pos.line X.env=pure false:=by rfl):RS X G (.Expr e pos) (wY te):=⟨wL (L2.fx he.run hs) λD σ H ⟨τ,J,D2,a2,h,g⟩ =>
 ⟨τ,J,_,a2,h,λx J' v H' rx rr ee q=>g.nx τ J' σ H' (a2.sl.ext ee) rr ee q⟩⟩
def A5 (te:bQ):eM:=λD τ J=>te τ J D.rt
theorem az (he:RE X G e te):RS X G (.Return (some e) pos) (A5 te):=⟨wL (L2.cD he.run) λD σ H ⟨τ,J,D2,a2,h,g⟩=>⟨τ,J,_,a2,h,λx J' v H' rx rr ee q=>g.rt x J' v H' rx rr ee q⟩⟩
def A6:eM:=λD _ J=>D.rt .non J
def yN (c:iO) (t u:eM):eM:=λD τ J=>c τ J λb J1=>if b=true then t D τ J1 else u D τ J1
theorem aK {c:Expr} {a b:List Stmt} (hc:RT X G c tc) (ha:RB X G a t) (hb:RB X G b u):RS X G (.If c a b pos) (yN tc t u):=⟨wL (L2.iE hc.run ha.run hb.run) λD σ H ⟨τ,J,D2,a2,h,g⟩ =>
 ⟨τ,J,_,a2,h,λc J' H' rr ee q=>by
  cases c with
  | true=>simp only [if_true] at q ⊢;exact ⟨τ,J',D2,a2.go rr ee,q,g.ext ee⟩
  | false=>simp only [Ef,if_false] at q ⊢;exact ⟨τ,J',D2,a2.go rr ee,q,g.ext ee⟩⟩⟩
abbrev qm:=PV→Sr→Hq→(Sr→Hq→Prop)→Prop
abbrev uG:=List PV→Sr→Hq→(Sr→Hq→Prop)→Prop
def LG (K:PySem.W.Frag) (G:G2) (t:qm):TG:=λv σ H Q=>∃x τ J Q2,bK K J H x v∧nq K G τ J σ H∧t x τ J Q2∧∀τ' J' σ' H',gw K J' H' τ' σ'→Rep K J' H'→Ext K J H J' H'→Q2 τ' J'→Q σ' H'
structure RG (X:Cx) (G:G2) (e:Expr) (t:qm):Prop where
 run:L2.PG X e (LG X.K G t)
theorem DV {X:Cx} {e:Expr} {t t':TG} (h:L2.PG X e t) (k:∀v σ H Q,t' v σ H Q→t v σ H Q):L2.PG X e t':=λpins s σ H v u Q I r q=>h pins s σ H v u Q I r (k _ _ _ _ q)
def BX (i:Nat):qm:=λx τ J Q=>Q (τ.set i (some x)) J
theorem dN {i:Nat} {x:Str} (hN:X.N.Nodup) (hi:X.N[i]?=some x:=by rfl) (hx:Loc X.env.scope x:=by first | exact .inl rfl | exact .inr rfl) (hf:X.fn x=true∨X.env.scope.names.lookup x=some .local:=by first | exact .inl rfl | exact .inr rfl | assumption):RG X G (.Name x pos) (BX i) :=
 ⟨DV (L2.fv hN hi hx hf) λv σ H Q ⟨x,τ,J,Q2,rx,a2,q,k⟩=>k _ J _ H (a2.sl.set i rx) a2.hp .refl q⟩
def DO:uG:=λvs τ J Q=>Dy vs (Q τ J)
def DN (t:qm) (u:uG):uG:=λvs τ J Q=>Ao vs λv r=>t v τ J λτ' J'=>u r τ' J' Q
def DQ (n:Nat) (t:uG):qm:=λx τ J Q=>Az x λxs=>xs.length=n∧t xs τ J Q
def AO (te:bQ) (g:qm):eM:=λD τ J=>te τ J λx J1=>g x τ J1 D.nx
theorem aI {i:Nat} {x:Str} {pos':Pos} (hN:X.N.Nodup) (he:RE X G e te) (hi:X.N[i]?=some x:=by rfl) (hx:Loc X.env.scope x:=by first | exact .inl rfl | exact .inr rfl) (hs:swapsWith e (some (.Name x pos')) pos.line X.env=pure false:=by rfl) (hf:X.fn x=true∨X.env.scope.names.lookup x=some .local:=by first | exact .inl rfl | exact .inr rfl | assumption) :
  RS X G (.Assign [.Name x pos'] e pos) (AO te (BX i)):=⟨wL (L2.bG hN hi hx he.run hs hf) λD σ H ⟨τ,J,D2,a2,h,g⟩ =>
 ⟨τ,J,_,a2,h,λx J' v H' rx rr ee q=>g.nx _ J' _ H' ((a2.sl.ext ee).set i rx) rr ee q⟩⟩
def A4 (i j:Nat) (ta:i'):eM:=λD τ J=>ta τ J λvs J1=>zu vs λv w=>D.nx ((τ.set i (some v)).set j (some w)) J1
theorem yW {i j:Nat} {x y:Str} {a b:Expr} {ta:i'} {px py pt:Pos} {kt k2 pt2} (hc:X.calm=true) (hN:X.N.Nodup) (hi:X.N[i]?=some x) (hj:X.N[j]?=some y) (hij:i≠j)
  (hx:X.env.scope.names.lookup x=some .local) (hy:X.env.scope.names.lookup y=some .local) (ha:RA X G [a,b] ta)
  (hw:swappedStores [.Tuple [.Name x px,.Name y py] kt pt] (.Tuple [a,b] k2 pt2) X.env=pure (some [x,y]))
  (hs:swapsWithSole [.Tuple [.Name x px,.Name y py] kt pt] (.Tuple [a,b] k2 pt2) pos.line X.env=pure false:=by rfl) :
  RS X G (.Assign [.Tuple [.Name x px,.Name y py] kt pt] (.Tuple [a,b] k2 pt2) pos) (A4 i j ta):=⟨wL (L2.ip hc hN hi hj hij hx hy ha.run hw hs) λD σ H ⟨τ,J,D2,a2,h,g⟩ =>
 ⟨τ,J,_,a2,h,λxs J' vs H' rs rr ee hh=>by
  obtain ⟨v,w,e,q⟩:=nQ hh
  subst e
  obtain ⟨v',us,rfl,rv,w',us',rfl,rw',e'⟩:=rs
  cases e'
  exact ⟨v',w',rfl,g.nx _ J' _ H' (((a2.sl.ext ee).set i rv).set j rw') rr ee q⟩⟩⟩
def yF (f:Str) (v:PV):List (Str × PV)→List (Str × PV)
 | []=>[(f,v)]
 | (g,w) :: r=>if g=f then (g,v) :: r else (g,w) :: yF f v r
def AQ (C:Addr) (ta tv:bQ) (f:Str):eM:=λD τ J=>tv τ J λy J1=>ta τ J1 λx J2=>wB x λa=>BD C (J2 a) λfs=>fs.length < 1000∧D.nx τ (put J2 a (.ins C (yF f y fs)))
structure nt where
 xs:List PV
 ok:Hq→Prop
structure kc (K:PySem.W.Frag) (it:nt) (I:It) (J:Hq) (H:Hp):Prop where
 go:∀J' H',Ext K J H J' H'→Rep K J' H'→it.ok J'→∀i,i < it.xs.length→I.go i H'
 yl:∀J' H',Ext K J H J' H'→Rep K J' H'→it.ok J'→∀i,i < it.xs.length→∀v H2,I.yld i H' v H2→∃x,it.xs[i]?=some x∧bK K J' H2 x v∧Rep K J' H2∧Ext K J' H' J' H2
 stop:∀J' H',Ext K J H J' H'→Rep K J' H'→it.ok J'→I.stop it.xs.length H'
abbrev l4:=Sr→Hq→(nt→Hq→Prop)→Prop
def LI (K:PySem.W.Frag) (G:G2) (t:l4):TI:=λσ H R=>∃τ J R2,nq K G τ J σ H∧t τ J R2∧∀it J' I H',kc K it I J' H'→Rep K J' H'→Ext K J H J' H'→R2 it J'→R I H'
structure RI (X:Cx) (G:G2) (tg e:Expr) (t:l4):Prop where
 run:L2.PI X tg e (LI X.K G t)
theorem AG {X:Cx} {tg e:Expr} {t t':TI} (h:L2.PI X tg e t) (k:∀σ H Q,t' σ H Q→t σ H Q):L2.PI X tg e t':=λpins s σ H Q I q=>h pins s σ H Q I (k _ _ _ q)
def AR (wi:l4) (g:qm) (tb:eM):eM:=λD τ J=>wi τ J λit J1=>∃Pv:Nat→Sr→Hq→Prop,Pv 0 τ J1∧(∀i τ J,Pv i τ J→it.ok J) ∧
 (∀i x τ J,it.xs[i]?=some x→Pv i τ J→g x τ J λτ2 J2=>tb { D with nx:=Pv (i + 1),ct:=Pv (i + 1),bk:=D.nx } τ2 J2)∧∀τ J,Pv it.xs.length τ J→D.nx τ J
theorem fb {iter:Expr} {body:List Stmt} {wi:l4} {g:qm} {tb:eM} {pos:Pos} (hp:PassesOwn (model X.prog X.w) X.A X.env X.xe) (hc:X.calm=true) (hi:RI X G tg iter wi) (hg:RG X G tg g) (hb:RB X G body tb)
  (hs:∀x,foldedSetIterable iter X.env x=pure x:=by intro _;rfl):RS X G (.For tg iter body [] pos) (AR wi g tb):=⟨wL (L2.il hp hc hi.run hg.run hb.run hs) λD σ H ⟨τ,J,D2,a2,h,g⟩=>by
 refine ⟨τ,J,_,a2,h,λit J1 I H1 ir r1 e1 ⟨Pv,p0,pok,step,fin⟩=>?_⟩
 refine ⟨λi m σ' H'=>m=it.xs.length - i∧i≤it.xs.length∧∃τ' J',nq X.K G τ' J' σ' H'∧Ext X.K J1 H1 J' H'∧Pv i τ' J',⟨_,rfl,Ex _,τ,J1,a2.go r1 e1,.refl,p0⟩,?_⟩
 rintro i m σ2 H2 ⟨rfl,hil,τ2,J2,a3,e3,p3⟩
 by_cases hlt:i < it.xs.length
 ·refine .inr ⟨ir.go J2 H2 e3 a3.hp (pok _ _ _ p3) i hlt,λσ' H'=>∃τ' J',nq X.K G τ' J' σ' H'∧Ext X.K J1 H1 J' H'∧Pv (i + 1) τ' J',λσ' H' z=>⟨_,by omega,rfl,hlt,z⟩,λv H4 y=>?_⟩
  obtain ⟨x,ex,rx,r4,e4⟩:=ir.yl J2 H2 e3 a3.hp (pok _ _ _ p3) i hlt v H4 y
  refine ⟨x,τ2,J2,_,rx,a3.go r4 e4,step i x τ2 J2 ex p3,λτ5 J5 σ5 H5 rs5 r5 e5 q5=>?_⟩
  have ae:=(a3.ext.trans e4).trans e5
  have ge:=g.ext (((e1.trans e3).trans e4).trans e5)
  refine ⟨τ5,J5,{ D2 with nx:=Pv (i + 1),ct:=Pv (i + 1),bk:=D2.nx },⟨rs5,r5,ae⟩,q5,?_⟩
  exact { nx:=λτ' J' σ' H' rs rr ee q=>⟨τ',J',⟨rs,rr,ae.trans ee⟩,((e3.trans e4).trans e5).trans ee,q⟩,rt:=ge.rt,bk:=ge.nx,ct:=λτ' J' σ' H' rs rr ee q=>⟨τ',J',⟨rs,rr,ae.trans ee⟩,((e3.trans e4).trans e5).trans ee,q⟩ }
 ·have ei:i=it.xs.length:=by omega
  subst ei
  exact .inl ⟨ir.stop J2 H2 e3 a3.hp (pok _ _ _ p3),g.nx τ2 J2 σ2 H2 a3.sl a3.hp (e1.trans e3) (fin _ _ p3)⟩⟩
def BC (J:Hq):PV→Option nt
 | .fl xs=>some ⟨xs,λ_=>True⟩
 | .ref a=>match J a with
  | some (.lst xs)=>some ⟨xs,λJ'=>J' a=some (.lst xs)⟩
  | _=>none
 | _=>none
def Du (te:bQ):l4:=λτ J R=>te τ J λx J1=>mL (BC J1 x) λit=>R it J1
theorem kc.list {K:PySem.W.Frag} {it:nt} {a:Addr} {J:Hq} {H:Hp} (h:∀J' H',Ext K J H J' H'→Rep K J' H'→it.ok J'→∃vs,bO K H' a vs∧aC K J' H' it.xs vs):kc K it (L2.uC K a) J H where
 go:=λJ' H' e r o i hi=>by
  obtain ⟨vs,s,rs⟩:=h J' H' e r o
  exact ⟨vs,vs[i]'(by rw [← rs.length];exact hi),s,by simp⟩
 yl:=λJ' H' e r o i hi v H2 y=>by
  obtain ⟨vs,s,rs⟩:=h J' H' e r o
  obtain ⟨e1,y⟩:=y
  subst e1
  obtain ⟨x,ex,rx⟩:=rs.get' (y vs s)
  exact ⟨x,ex,rx,r,.refl⟩
 stop:=λJ' H' e r o=>by
  obtain ⟨vs,s,rs⟩:=h J' H' e r o
  exact ⟨vs,s,by rw [rs.length];exact D5 _⟩
theorem iZ {l:Expr} {tl:bQ} (hl:RE X G l tl):RI X G tg l (Du tl):=⟨AG (L2.gP hl.run) λσ H R ⟨τ,J,R2,a2,h,k⟩=>⟨τ,J,_,a2,h,λx J1 v H1 rx r1 e1 hh=>by
 obtain ⟨it,ei,q⟩:=eo hh
 cases x with
 | fl xs =>
  obtain ⟨a,vs,rfl,h1,h2⟩:=rx
  cases ei
  refine ⟨a,rfl,⟨vs,h1.sq⟩,k _ J1 _ H1 (.list λJ' H' e r _=>⟨vs,(e.flat h1).sq,e.fJ h2⟩) r1 e1 q⟩
 | ref a =>
  cases rx
  unfold BC at ei
  dsimp only at ei
  cases ej:J1 a with
  | none=>rw [ej] at ei;cases ei
  | some o =>
   rw [ej] at ei
   cases o with
   | lst xs =>
    cases ei
    obtain ⟨vs,h1,h2⟩:=r1 _ _ ej
    refine ⟨a,rfl,⟨vs,.inl (.inl h1)⟩,k _ J1 _ H1 (.list λJ' H' e r o=>?_) r1 e1 q⟩
    obtain ⟨vs',h1',h2'⟩:=r _ _ o
    exact ⟨vs',.inl (.inl h1'),h2'⟩
   | _=>cases ei
 | _=>cases ei⟩⟩
def Dx (te:bQ):l4:=λτ J R=>te τ J λx J1=>Az x λxs=>R ⟨xs,λ_=>True⟩ J1
theorem yU {l:Expr} {tl:bQ} (hl:RE X G l tl):RI X G tg l (Dx tl):=⟨AG (L2.n4 hl.run) λσ H R ⟨τ,J,R2,a2,h,k⟩=>⟨τ,J,_,a2,h,λx J1 v H1 rx r1 e1 hh=>by
 obtain ⟨xs,ei,q⟩:=yq hh
 subst ei
 obtain ⟨a,vs,rfl,h1,h2⟩:=rx
 refine ⟨a,rfl,⟨vs,h1⟩,k _ J1 _ H1 ?_ r1 e1 q⟩
 exact {
  go:=λJ' H' e r o i hi=>⟨vs,vs[i]'(by rw [← h2.length];exact hi),e.tup _ _ h1,by simp⟩
  yl:=λJ' H' e r o i hi v H2 y=>by
   obtain ⟨e1,y⟩:=y
   subst e1
   obtain ⟨x,ex,rx⟩:=(e.fJ h2).get' (y vs (e.tup _ _ h1))
   exact ⟨x,ex,rx,r,.refl⟩
  stop:=λJ' H' e r o=>⟨vs,e.tup _ _ h1,by rw [h2.length];exact D5 _⟩ }⟩⟩
def lh (lo:Int) (n:Nat):List PV:=(Ey n).map λ(i:Nat)=>PV.int (lo + (i:Int))
theorem gI (lo:Int) (n:Nat):(lh lo n).length=n:=by simp [lh]
theorem mx (lo:Int) (n i:Nat) (x:PV):(lh lo n)[i]?=some x↔i < n∧x=.int (lo + i):=by
 unfold lh
 rw [Eb]
 by_cases h:i < n
 ·rw [List.getElem?_range h];simp [h,eq_comm]
 ·rw [EG (by simpa using h)];simp [h]
theorem kc.yV {K:PySem.W.Frag} {J:Hq} {H:Hp} (lo:Int) (n:Nat):kc K ⟨lh lo n,λ_=>True⟩ (L2.rF lo n) J H where
 go:=λJ' H' e r o i hi=>by
  show i < n
  simpa [gI] using hi
 yl:=λJ' H' e r o i hi v H2 y=>by
  obtain ⟨e1,y⟩:=y
  subst e1 y
  exact ⟨.int (lo + i),(mx lo n i _).mpr ⟨by simpa [gI] using hi,rfl⟩,rfl,r,.refl⟩
 stop:=λJ' H' e r o=>by
  show n≤(lh lo n).length
  rw [gI];exact D5 _
def Dv (ta:i'):l4:=λτ J R=>ta τ J λvs J1=>qQ vs λx=>qR x λj=>-(2 ^ 62)≤j∧j < 2 ^ 62∧R ⟨lh 0 j.toNat,λ_=>True⟩ J1
def Dw (ta:i'):l4:=λτ J R=>ta τ J λvs J1=>zu vs λx y=>qR x λi=>qR y λj=>(-(2 ^ 62)≤i∧i < 2 ^ 62∧-(2 ^ 62)≤j∧j < 2 ^ 62)∧R ⟨lh i (j - i).toNat,λ_=>True⟩ J1
theorem qZ {a:Expr} {ta:i'} {p pos:Pos} (hg:Gl X "range") (hm:X.mg "range"=none) (ha:RA X G [a] ta) (hs:starEach [a] X.env=[(false,eval a X.env)]:=by rfl):RI X G tg (.Call (.Name "range" p) [a] [] pos) (Dv ta) :=
 ⟨AG (L2.cY hg hm ha.run hs) λσ H R ⟨τ,J,R2,a2,h,k⟩=>⟨τ,J,_,a2,h,λxs J1 vs H1 rs r1 e1 hh=>by
  obtain ⟨x,ex,hh⟩:=eV hh;obtain ⟨j,ej,l1,l2,q⟩:=dg hh;subst ej ex
  obtain ⟨v,us,rfl,rv,e'⟩:=rs
  cases rv;cases e'
  exact ⟨j,rfl,l1,l2,k _ J1 _ H1 (.yV 0 _) r1 e1 q⟩⟩⟩
theorem kJ {a b:Expr} {ta:i'} {p pos:Pos} (hg:Gl X "range") (hm:X.mg "range"=none) (ha:RA X G [a,b] ta) (hs:starEach [a,b] X.env=[(false,eval a X.env),(false,eval b X.env)]:=by rfl) (hs2:starEach [b] X.env=[(false,eval b X.env)]:=by rfl) :
  RI X G tg (.Call (.Name "range" p) [a,b] [] pos) (Dw ta) :=
 ⟨AG (L2.ik hg hm ha.run hs hs2) λσ H R ⟨τ,J,R2,a2,h,k⟩=>⟨τ,J,_,a2,h,λxs J1 vs H1 rs r1 e1 hh=>by
  obtain ⟨x,y,ex,hh⟩:=nQ hh;obtain ⟨i,ei,hh⟩:=dg hh;obtain ⟨j,ej,l1,q⟩:=dg hh;subst ei ej ex
  obtain ⟨v,us,rfl,rv,w,us',rfl,rw',e'⟩:=rs
  cases rv;cases rw';cases e'
  exact ⟨i,j,rfl,l1,k _ J1 _ H1 (.yV i _) r1 e1 q⟩⟩⟩
def fZ (C:Addr) (E2:Addr→Hq→Prop) (t:i'):eM:=λ_ τ J=>t τ J λxs J1=>xs.length≤sizeLine∧E2 C J1
theorem dZ {E:XK} {E2:Addr→Hq→Prop} {C:Addr} {x:Str} {t:i'} {np cpos:Pos} (O:Own X.K X.mg x C) (hc:X.calm=true) (hx:Throws X E) (kn:wj X.K G.1 G.2 E2 E) (hg:Gl X x) (ha:RA X G (e :: es) t)
  (hd:(x == ("__debug__":Str))=false:=by decide) (he:starEach (e :: es) X.env=(false,eval e X.env) :: starEach es X.env:=by rfl) (hpl:(backTo cpos (starEach es X.env)).any (·.1)=false:=by rfl) :
  RS X G (.Raise (some (.Call (.Name x np) (e :: es) [] cpos)) none pos) (fZ C E2 t):=⟨wL (qW O hc hx hg ha.run hd he hpl) λD σ H ⟨τ,J,D2,a2,h,g⟩ =>
 ⟨τ,J,_,a2,h,λxs J1 vs H1 rs r1 e1 ⟨hl,q⟩=>⟨by rw [← rs.length];exact hl,kn C J1 H1 r1 (a2.ext.trans e1) q⟩⟩⟩
end
section
variable {P:Program} {w:World} {K:PySem.W.Frag} {mg:Str→Option Value} {base:Heap}
section
variable {α β:Type} {a b:α} {l m:List α} {i:Nat} {f:α→β} {c:Bool}
theorem zo:FZ f (a :: l)=f a :: FZ f l:=rfl
theorem zp:FZ f []=[]:=rfl
theorem zl:(a :: l).length=l.length + 1:=rfl
theorem zm:([]:List α).length=0:=rfl
theorem zj:(a :: l) ++ m=a :: (l ++ m):=rfl
theorem zk:[] ++ m=m:=rfl
theorem C8:(a :: l)[0]?=some a:=rfl
theorem C9:(a :: l)[i + 1]?=l[i]?:=rfl
theorem Dh:(a :: l).set 0 b=b :: l:=rfl
theorem Di:(a :: l).set (i + 1) b=a :: l.set i b:=rfl
theorem De:Option.map f (some a)=some (f a):=rfl
theorem Dd:(some a).getD b=a:=rfl
theorem Dc:(!true)=false:=rfl
theorem C_:(!false)=true:=rfl
theorem Dj:(true && c)=c:=rfl
theorem C7:(false && c)=false:=rfl
theorem Df:Ea 0 a=[]:=rfl
theorem Dg:Ea (i + 1) a=a :: Ea i a:=rfl
theorem Bx:(a :: l).isEmpty=false:=rfl
theorem By:([]:List α).isEmpty=true:=rfl
end
def jS (N:List Str) (xs:List PV):Sr:=xs.map some ++ Ea (N.length - xs.length) none
theorem m9 {J:Hq} {H:Hp} {N:List Str} {xs:List PV} {vs:List V} (r:aC K J H xs vs):gw K J H (jS N xs) (L2.start N vs):=by
 refine ⟨by simp [jS,L2.start,r.length],λi x e=>?_⟩
 unfold jS at e
 unfold L2.start
 by_cases hi:i < xs.length
 ·rw [EH (by simpa using hi),Eb] at e
  cases ex:xs[i]? with
  | none=>rw [ex] at e;cases e
  | some y =>
   rw [ex] at e
   cases e
   obtain ⟨v,h1,h2⟩:=r.get ex
   exact ⟨v,by rw [EH (by rw [D0,← r.length];exact hi),Eb,h1];rfl,h2⟩
 ·rw [EE (by simpa using hi)] at e
  have:=Ed e
  rw [List.mem_replicate] at this
  cases this.2
theorem Cn {x qual:Str} {st:Stmt} {f:Addr} {fd:FuncData} {N ps:List Str} {k:Nat} {sp:d8} (F:cu K x qual st f fd) (S:ax N ps (L2.aj st)) (len:∀xs J Q E,sp xs J Q E→xs.length=ps.length)
  (hbody:∀(cdv:Value) (A:Around) (outer:List Env) (s:Shared) (H:Hp) (E:XK) (G:G2) (xs:List PV) (J:Hq) (Q:PV→Hq→Prop) (E2:Addr→Hq→Prop),bj k (A.deeper (envOfC qual (L2.aj st) s.heap.objs.size f cdv))→sp xs J Q E2 →
   uA (l5 P w K mg base N qual (L2.aj st) f cdv A outer s H E) G E2 E →
   ∃t,RB (l5 P w K mg base N qual (L2.aj st) f cdv A outer s H E) G (L2.bg st) t∧t { nx:=λ_ J'=>Q .non J',rt:=Q } (jS N xs) J):aM P w K mg base (cU P w) (k + 1) f fd ps (hE K sp):=by
 refine DU F S (λvs H Q E ⟨xs,J,Q2,E2,a,_,b,_⟩=>by rw [← a.length];exact len _ _ _ _ b) λcdv A outer s H vs Q E hr ⟨xs,J,Q2,E2,rs,rr,hs,kn,ke⟩=>?_
 obtain ⟨t,hb,q⟩:=hbody cdv A outer s H E (J,H) xs J Q2 E2 hr hs ⟨jh,ke⟩
 refine ⟨_,⟨hb.run⟩,jS N xs,J,_,⟨m9 rs,rr,.refl⟩,q,?_⟩
 exact { nx:=λτ J' σ H' _ r e q=>kn .non J' .non H' rfl r e q,rt:=λx J' v H' rx r e q=>kn x J' v H' rx r e q,bk:=λ_ _ _ _ _ _ _ q=>q.elim,ct:=λ_ _ _ _ _ _ _ q=>q.elim }
theorem DT {x qual:Str} {st:Stmt} {f:Addr} {fd:FuncData} {N ps:List Str} {k:Nat} {sp:d8} {t:(Addr→Hq→Prop)→eM} (F:cu K x qual st f fd) (S:ax N ps (L2.aj st)) (len:∀xs J Q E,sp xs J Q E→xs.length=ps.length)
  (rd:∀(cdv:Value) (A:Around) (outer:List Env) (s:Shared) (H:Hp) (E:XK) (G:G2) (E2:Addr→Hq→Prop),bj k (A.deeper (envOfC qual (L2.aj st) s.heap.objs.size f cdv)) →
   uA (l5 P w K mg base N qual (L2.aj st) f cdv A outer s H E) G E2 E→RB (l5 P w K mg base N qual (L2.aj st) f cdv A outer s H E) G (L2.bg st) (t E2))
  (run:∀(xs:List PV) (J:Hq) (Q:PV→Hq→Prop) (E2:Addr→Hq→Prop),sp xs J Q E2→∀X:Prop,(t E2 { nx:=λ_ J'=>Q .non J',rt:=Q } (jS N xs) J→X)→X):aM P w K mg base (cU P w) (k + 1) f fd ps (hE K sp) :=
 Cn F S len λcdv A outer s H E G xs J Q E2 hr h B=>⟨_,rd cdv A outer s H E G E2 hr B,run xs J Q E2 h _ id⟩
theorem _root_.Ov.Def.eP {x:Str} {st:Stmt} {k:Nat} {ps:List Str} {sp:d8} (D:Def K mg x st)
  (h:∀f fd,cu K x x st f fd→aM P w K mg base (cU P w) k f fd ps (hE K sp))
  (hb:∀(kV doc pm:Value) (an:Option Addr) (cdv ct:Value) (us:List Value),us.length=ps.length→bindArgs (PySem.W.fnOf x x (L2.bW st) (L2.bg st) (L2.aj st) .none kV doc pm an cdv ct) ⟨us,[]⟩=pure (ps.zip us)) :
  bB P w K mg base k x ps sp:=D.BU h hb
end
section
variable {X:Cx} {K:PySem.W.Frag}
def wQ (g:Int→Int→PV):iH:=λx y J Q=>qR x λi=>qR y λj=>Q (g i j) J
def qI (C:Int→Int→Prop) (g:Int→Int→PV):iH:=λx y J Q=>qR x λi=>qR y λj=>C i j∧Q (g i j) J
theorem kB {g:Int→Int→V} {g':Int→Int→PV} (hg:∀J H i j,bK K J H (g' i j) (g i j)):LR K (L2.ur g) (wQ g'):=λJ H x y v w Q2 Q rx ry r h k=>by
 obtain ⟨i,ex,h⟩:=dg h;obtain ⟨j,ey,q⟩:=dg h
 subst ex ey;exact ⟨i,j,rx,ry,k _ J _ H (hg _ _ _ _) r .refl q⟩
theorem yg {C:Int→Int→Prop} {g:Int→Int→V} {g':Int→Int→PV} (hg:∀J H i j,bK K J H (g' i j) (g i j)):LR K (L2.rI C g) (qI C g'):=λJ H x y v w Q2 Q rx ry r h k=>by
 obtain ⟨i,ex,h⟩:=dg h;obtain ⟨j,ey,c,q⟩:=dg h
 subst ex ey;exact ⟨i,j,rx,ry,c,k _ J _ H (hg _ _ _ _) r .refl q⟩
theorem di:j1 X (binaryOp .Add) (wQ λi j=>.int (i + j)):=⟨_,L2.er,kB λ_ _ _ _=>rfl⟩
theorem dR:j1 X (binaryOp .Sub) (wQ λi j=>.int (i - j)):=⟨_,L2.s_,kB λ_ _ _ _=>rfl⟩
theorem tq:j1 X (binaryOp .Mult) (qI CM λi j=>.int (i * j)):=⟨_,dH,yg λ_ _ _ _=>rfl⟩
theorem eW:j1 X (binaryOp .Mod) (qI (λ_ j=>0 < j) λi j=>.int (i % j)):=⟨_,L2.dh,yg λ_ _ _ _=>rfl⟩
theorem ig:j1 X (binaryOp .Pow) (qI L2.xh λi j=>.int (i ^ j.toNat)):=⟨_,L2.nT,yg λ_ _ _ _=>rfl⟩
theorem kC:j1 X (compareOp .Lt) (wQ λi j=>.bl (decide (i < j))):=⟨_,L2.sZ,kB λ_ _ _ _=>rfl⟩
theorem wJ:j1 X (compareOp .LtE) (wQ λi j=>.bl (decide (i≤j))):=⟨_,L2.wG,kB λ_ _ _ _=>rfl⟩
theorem td:j1 X (compareOp .Gt) (wQ λi j=>.bl (decide (j < i))):=⟨_,L2.wF,kB λ_ _ _ _=>rfl⟩
theorem wI:j1 X (compareOp .GtE) (wQ λi j=>.bl (decide (j≤i))):=⟨_,L2.wD,kB λ_ _ _ _=>rfl⟩
def qU (g:Int→PV):zD:=λx J Q=>qR x λi=>Q (g i) J
theorem zh:Ds X (unaryOp .USub) (qU λi=>.int (-i)):=⟨_,L2.zf,λJ H x v Q2 Q rx r h k=>by obtain ⟨i,ex,q⟩:=dg h;subst ex;exact ⟨i,rx,k (.int (-i)) J _ H rfl r .refl q⟩⟩
def Cw:iH:=λx y J Q=>nk x λi=>nk y λj=>Q (.bl (decide (i.cps.toList < j.cps.toList))) J
def qx:PV→Bool
 | .non=>true
 | _=>false
theorem uZ {J:Hq} {H:Hp} {x:PV} {v:V} (r:bK K J H x v):decide (v=.non)=qx x:=by
 cases x with
 | non=>cases r;rfl
 | tup xs=>obtain ⟨a,vs,rfl,_⟩:=r;rfl
 | fl xs=>obtain ⟨a,vs,rfl,_⟩:=r;rfl
 | _=>cases r;rfl
def wR:iH:=λx y J Q=>y=.non∧Q (.bl (qx x)) J
def yJ:iH:=λx y J Q=>y=.non∧Q (.bl (!qx x)) J
theorem tm:j1 X (compareOp .Is) wR:=⟨_,L2.yw,λJ H x y v w Q2 Q rx ry r ⟨ey,q⟩ k=>by subst ey;cases ry;exact ⟨rfl,by rw [uZ rx];exact k (.bl _) J _ H rfl r .refl q⟩⟩
mutual
def bZ:PV→Py
 | .non=>.non | .bl b=>.bl b | .int i=>.int i | .str x=>.str x | .ref _=>.non | .ty _=>.non | .tup xs=>.tup (cb xs) | .fl xs=>.lst (cb xs)
def cb:List PV→List Py
 | []=>[]
 | x :: xs=>bZ x :: cb xs
end
mutual
def fY:PV→Bool
 | .ref _=>false | .ty _=>false | .tup xs=>dT xs | .fl xs=>dT xs | _=>true
def dT:List PV→Bool
 | []=>true
 | x :: xs=>fY x && dT xs
end
mutual
theorem iP {J:Hq} {H:Hp}:∀{x:PV} {v:V},fY x=true→bK K J H x v→At K H (bZ x) v
 | .non,_,_,h=>h
 | .bl _,_,_,h=>h
 | .int _,_,_,h=>h
 | .str _,_,_,h=>h
 | .tup xs,_,p,⟨a,vs,e,h,k⟩=>⟨a,vs,e,h,gx (by simpa [fY] using p) k⟩
 | .fl xs,_,p,⟨a,vs,e,h,k⟩=>⟨a,vs,e,h.sq,gx (by simpa [fY] using p) k⟩
theorem gx {J:Hq} {H:Hp}:∀{xs:List PV} {vs:List V},dT xs=true→aC K J H xs vs→i6 K H (cb xs) vs
 | [],_,_,h=>h
 | x :: xs,_,p,⟨v,us,e,h,k⟩=>by
  have p':fY x=true∧dT xs=true:=by simpa [dT] using p
  exact ⟨v,us,e,iP p'.1 h,gx p'.2 k⟩
end
def eqQ (x y:PV):Bool:=c_ (bZ x) (bZ y)
def wq (x:PV):Prop:=fY x=true∧dep (bZ x)≤60
def BG (f:Bool→Bool):iH:=λx y J Q=>wq x∧fY y=true∧Q (.bl (f (eqQ x y))) J
theorem wA (f:Bool→Bool):LR K (rP K f) (BG f):=λJ H x y v w Q2 Q rx ry r ⟨⟨px,d⟩,py,q⟩ k=>⟨bZ x,bZ y,iP px rx,iP py ry,d,k (.bl _) J _ H rfl r .refl q⟩
theorem aV (hu:X.A.units + 61 < cLine):j1 X (compareOp .Eq) (BG id):=⟨_,yu hu,wA id⟩
theorem gN (hu:X.A.units + 61 < cLine):j1 X (compareOp .NotEq) (BG not):=⟨_,yx hu,wA not⟩
def mz (J:Hq):PV→PV→Option PV
 | .tup xs,.int i=>bN xs i
 | .fl xs,.int i=>bN xs i
 | .ref a,.int i=>match J a with
  | some (.lst xs)=>bN xs i
  | _=>none
 | _,_=>none
theorem aC.bN {J:Hq} {H:Hp} {xs:List PV} {vs:List V} {i:Int} {x:PV} (r:aC K J H xs vs) (h:L2.bN xs i=some x):∃v,L2.bN vs i=some v∧bK K J H x v:=by
 unfold L2.bN at h ⊢
 rw [← r.length]
 cases e:L2.sC xs.length i with
 | none=>rw [e] at h;cases h
 | some j =>
  rw [e] at h
  obtain ⟨v,h1,h2⟩:=r.get h
  exact ⟨v,h1,h2⟩
def DB:iH:=λx y J Q=>mL (mz J x y) λv=>Q v J
theorem au:Bz X DB:=⟨_,L2.iR.or L2.x6,λJ H x y v w Q2 Q rx ry r h k=>by
 obtain ⟨z,ez,q⟩:=eo h
 cases y with
 | int i =>
  cases ry
  cases x with
  | tup xs =>
   obtain ⟨a,vs,rfl,h1,h2⟩:=rx
   obtain ⟨u,e1,e2⟩:=h2.bN (show L2.bN xs i=some z from ez)
   exact .inr ⟨a,vs,i,u,rfl,rfl,h1,e1,k z J u H e2 r .refl q⟩
  | fl xs =>
   obtain ⟨a,vs,rfl,h1,h2⟩:=rx
   obtain ⟨u,e1,e2⟩:=h2.bN (show L2.bN xs i=some z from ez)
   exact .inl ⟨a,vs,i,u,rfl,rfl,h1.sq,e1,k z J u H e2 r .refl q⟩
  | ref a =>
   cases rx
   unfold mz at ez
   dsimp only at ez
   cases ej:J a with
   | none=>rw [ej] at ez;cases ez
   | some o =>
    rw [ej] at ez
    cases o with
    | lst xs =>
     obtain ⟨vs,h1,h2⟩:=r _ _ ej
     obtain ⟨u,e1,e2⟩:=h2.bN (show L2.bN xs i=some z from ez)
     exact .inl ⟨a,vs,i,u,rfl,rfl,.inl (.inl h1),e1,k z J u H e2 r .refl q⟩
    | _=>cases ez
  | _=>cases ez
 | _=>cases x <;> cases ez⟩
def gA (xs:List PV) (lo hi:Option Int):List PV:=(xs.drop (HT.eJ xs.length 0 lo)).take (HT.eJ xs.length xs.length hi - HT.eJ xs.length 0 lo)
theorem uK {J:Hq} {H:Hp} {xs:List PV} {vs:List V} {lo hi:Option Int} (r:aC K J H xs vs):aC K J H (gA xs lo hi) (L2.j5 vs lo hi):=by
 unfold gA L2.j5
 rw [← r.length]
 exact (r.drop _).take _
def CB:nu:=λx lo hi J Q=>Az x λxs=>¬ (HT.eJ xs.length 0 lo=0∧HT.eJ xs.length xs.length hi=xs.length)∧Q (.tup (gA xs lo hi)) J
def lq (J:Hq):PV→Option (List PV)
 | .fl xs=>some xs
 | .ref a=>match J a with
  | some (.lst xs)=>some xs
  | _=>none
 | _=>none
theorem iT {J:Hq} {H:Hp} {x:PV} {v:V} {xs:List PV} (rx:bK K J H x v) (r:Rep K J H) (h:lq J x=some xs):∃a vs,v=.ref a∧bO K H a vs∧aC K J H xs vs:=by
 cases x with
 | fl ys=>obtain ⟨a,vs,rfl,h1,h2⟩:=rx;cases h;exact ⟨a,vs,rfl,h1.sq,h2⟩
 | ref a =>
  cases rx
  unfold lq at h
  dsimp only at h
  cases ej:J a with
  | none=>rw [ej] at h;cases h
  | some o =>
   rw [ej] at h
   cases o with
   | lst ys=>cases h;obtain ⟨vs,h1,h2⟩:=r _ _ ej;exact ⟨a,vs,rfl,.inl (.inl h1),h2⟩
   | _=>cases h
 | _=>cases h
def AN:nu:=λx lo hi J Q=>mL (lq J x) λxs=>Q (.fl (gA xs lo hi)) J
theorem fQ:BO X AN:=⟨_,L2.lV,λJ H x lo hi v Q2 Q rx r h k=>by
 obtain ⟨xs,ex,q⟩:=eo h
 obtain ⟨a,vs,rfl,h1,h2⟩:=iT rx r ex
 refine ⟨a,vs,rfl,h1,λp hp=>?_⟩
 obtain ⟨x1,x2,x3⟩:=jy r (uK (lo:=lo) (hi:=hi) h2) hp
 exact k _ J _ _ x1 x2 x3 q⟩
def CA:nu:=λx lo hi J Q=>mL (lq J x) λxs=>∀p,J p=none→Q (.ref p) (put J p (.lst (gA xs lo hi)))
def AI:nj:=λxs J Q=>qQ xs λx=>qR x λi=>Q (.int (if i < 0 then -i else i)) J
theorem xJ:uv X (.builtin "abs") AI:=⟨_,L2.gy,λJ H xs vs Q2 Q rs r h k=>by
 obtain ⟨x,ex,h⟩:=eV h;obtain ⟨i,ei,q⟩:=dg h;subst ei
 subst ex;obtain ⟨v,us,rfl,rv,e⟩:=rs;cases rv;cases e
 exact ⟨i,rfl,k (.int _) J _ H rfl r .refl q⟩⟩
def mD (J:Hq):PV→Option Nat
 | .tup xs=>some xs.length
 | x=>(lq J x).map Fc
def AL:nj:=λxs J Q=>qQ xs λx=>mL (mD J x) λn=>Q (.int n) J
theorem bT:uv X (.builtin "len") AL:=⟨_,L2.cR,λJ H xs vs Q2 Q rs r h k=>by
 obtain ⟨x,ex,h⟩:=eV h;obtain ⟨n,en,q⟩:=eo h
 subst ex;obtain ⟨v,us,rfl,rv,e⟩:=rs;cases e
 have go:∀ys,lq J x=some ys→ys.length=n→∃p ws,([v]:List V)=[.ref p]∧(bO X.K H p ws∨dz X.K H p ws)∧Q (.int ws.length) H:=λys h1 h2=>by
  obtain ⟨a,ws,rfl,h3,h4⟩:=iT rv r h1
  exact ⟨a,ws,rfl,.inl h3,by rw [← h4.length,h2];exact k (.int _) J _ H rfl r .refl q⟩
 cases x with
 | tup ys =>
  obtain ⟨a,ws,rfl,h1,h2⟩:=rv
  cases en
  exact ⟨a,ws,rfl,.inr h1,by rw [← h2.length];exact k (.int _) J _ H rfl r .refl q⟩
 | fl ys=>cases en;exact go _ rfl rfl
 | ref a =>
  unfold mD at en
  cases el:lq J (.ref a) with
  | none=>simp [el] at en
  | some ys=>simp [el] at en;exact go _ el en
 | _=>cases en⟩
def rf (J:Hq):PV→Option String
 | .non=>some "NoneType" | .bl _=>some "bool" | .int _=>some "int" | .str _=>some "str" | .tup _=>some "tuple" | .fl _=>some "list"
 | .ref a=>match J a with
  | some (.lst _)=>some "list"
  | some (.dct _ _)=>some "dict"
  | _=>none
 | _=>none
def gf (t n:String):Option Bool :=
 if n∈["int","bool","str","tuple","list"] then some (t == n || (t == "bool" && n == "int")) else none
theorem u9 (K:PySem.W.Frag) {t n:String} {b:Bool} (ht:t∈["NoneType","bool","int","str","tuple","list","dict"]) (h:gf t n=some b):PySem.W.kitOne K (.type t) (.type n)=some b:=by
 unfold gf at h
 by_cases hn:n∈["int","bool","str","tuple","list"]
 ·rw [if_pos hn] at h
  simp only [D6,Ei,or_false] at ht hn
  rcases ht with rfl | rfl | rfl | rfl | rfl | rfl | rfl <;> rcases hn with rfl | rfl | rfl | rfl | rfl <;> cases h <;> with_unfolding_all rfl
 ·rw [if_neg hn] at h;cases h
theorem v8 {J:Hq} {x:PV} {t:String} (h:rf J x=some t):t∈["NoneType","bool","int","str","tuple","list","dict"]:=by
 cases x with
 | ref a =>
  unfold rf at h
  dsimp only at h
  cases ej:J a with
  | none=>rw [ej] at h;cases h
  | some o=>rw [ej] at h;cases o <;> cases h <;> simp
 | ty n=>cases h
 | _=>cases h;simp
def Cr (x:PV) (k:String→Prop) (_:dP k:=dp):Prop:=match x with | .ty n=>k n | _=>False
theorem AB {x:String} {k:String→Prop} {d:dP k}:Cr (.ty x) k d=k x:=rfl
theorem yr {x:PV} {k:String→Prop} {d:dP k} (h:Cr x k d):∃n,x=.ty n∧k n:=by cases x <;> first | exact ⟨_,rfl,h⟩ | exact False.elim h
def AK:nj:=λxs J Q=>zu xs λx y=>Cr y λn=>mL (rf J x) λt=>mL (gf t n) λb=>Q (.bl b) J
theorem qr:aZ X (.builtin "isinstance") (λxs H Q=>∃x n t b,xs=[x,.ty n]∧(b9 X.K H x (.type t)∨(t="tuple"∧∃a vs,x=.ref a∧dz X.K H a vs)∨(t="list"∧∃a vs,x=.ref a∧bO X.K H a vs))∧PySem.W.kitOne X.K (.type t) (.type n)=some b∧Q (.bl b) H):=by
 intro pins s σ H xs us Q I r h
 obtain ⟨x,n,t,b,rfl,ty,e,q⟩:=h
 obtain ⟨u,w',rfl,rx,ry⟩:=L2.vals2 r
 cases (show w'=Value.type n from ry)
 rcases ty with ty | ⟨rfl,a,vs,rfl,hs⟩ | ⟨rfl,a,vs,rfl,hs⟩
 ·exact L2.qy I rx ty e λtk=>⟨.bl b,H,I.tok _,rfl,q⟩
 ·cases rx
  obtain ⟨aQ,_,⟨o,h1,h2,_⟩,_⟩:=I.tuple hs
  exact PySem.W.kia_one PySem.W.kitx_tuple I.jX ⟨o,h1,h2⟩ e (λz=>nomatch z) λtk=>⟨.bl b,H,I.tok _,rfl,q⟩
 ·cases rx
  obtain ⟨aQ,_,⟨o,_,h1,h2,_⟩,_⟩:=I.list hs
  exact PySem.W.kia_one PySem.W.kitx_list I.jX ⟨o,h1,h2⟩ e (λz=>nomatch z) λtk=>⟨.bl b,H,I.tok _,rfl,q⟩
theorem h_:uv X (.builtin "isinstance") AK:=⟨_,qr,λJ H xs vs Q2 Q rs r h k=>by
 obtain ⟨x,y,ex,h⟩:=nQ h;obtain ⟨n,ey,h⟩:=yr h;obtain ⟨t,et,h⟩:=eo h;obtain ⟨b,es,q⟩:=eo h
 subst ey
 subst ex
 obtain ⟨v,us,rfl,rv,w,us',rfl,rw',e⟩:=rs
 cases rw';cases e
 refine ⟨v,n,t,b,rfl,?_,u9 X.K (v8 et) es,k (.bl _) J _ H rfl r .refl q⟩
 cases x with
 | non=>cases rv;cases et;exact .inl .non
 | bl i=>cases rv;cases et;exact .inl (.bl i)
 | int i=>cases rv;cases et;exact .inl (.int i)
 | str i=>cases rv;cases et;exact .inl (.str i)
 | tup xs=>obtain ⟨a,ws,rfl,h1,_⟩:=rv;cases et;exact .inr (.inl ⟨rfl,a,ws,rfl,h1⟩)
 | fl xs =>
  obtain ⟨a,ws,rfl,h1,_⟩:=rv;cases et
  exact .inr (.inr ⟨rfl,a,ws,rfl,h1.sq⟩)
 | ty n=>cases et
 | ref a =>
  cases rv
  unfold rf at et
  dsimp only at et
  cases ej:J a with
  | none=>rw [ej] at et;cases et
  | some o =>
   rw [ej] at et
   have z:=r _ _ ej
   cases o with
   | lst xs=>obtain ⟨ws,h1,_⟩:=z;cases et;exact .inl (.lst h1)
   | dct kvs ep=>obtain ⟨gs,h1,_⟩:=z;cases et;exact .inl (.dE h1)
   | tab=>cases et
   | dtp hs ks=>cases et
   | ins C fs=>cases et⟩
def yH:nj:=λxs J Q=>qQ xs λx=>mL (lq J x) λys=>Q (.fl ys) J
def yI:nj:=λxs J Q=>qQ xs λx=>mL (lq J x) λys=>∀p,J p=none→Q (.ref p) (put J p (.lst ys))
def Cy:nj:=λxs J Q=>∃i j,xs=[.int i,.int j]∧Q (.int (if j > i then j else i)) J
def pN:rM:=λx xs J Q=>wB x λa=>qQ xs λy=>BE (J a) λys=>ys.length < sizeLine∧Q .non (put J a (.lst (ys ++ [y])))
theorem qG:zC X "list" "list.append" pN:=⟨_,L2.cX,λJ H x xs v vs Q2 Q rx rs r h k=>by
 obtain ⟨a,ex,h⟩:=nR h;obtain ⟨y,exs,h⟩:=eV h;obtain ⟨ys,ja,hl,q⟩:=yp h
 subst ex exs;cases rx;obtain ⟨w,us,rfl,rw',e⟩:=rs;cases e
 obtain ⟨ws,h1,h2⟩:=r _ _ ja
 exact ⟨a,ws,w,rfl,rfl,h1,by rw [← h2.length];exact hl,k .non _ _ _ rfl (r.wrote (ys:=ys ++ [y]) ja h1 (h2.append (show aC X.K J H [y] [w] from ⟨w,[],rfl,rw',rfl⟩))) (.wrote ja h1) q⟩⟩
def Cz:rM:=λx xs J Q=>∃a ys y,x=.ref a∧xs=[]∧J a=some (.lst ys)∧ys[ys.length - 1]?=some y∧Q y (put J a (.lst ys.dropLast))
theorem aC.dropLast {J:Hq} {H:Hp} {xs:List PV} {vs:List V} (r:aC K J H xs vs):aC K J H xs.dropLast vs.dropLast:=by
 rw [Fq,Fq,← r.length]
 exact r.take _
def yG:rM:=λx xs J Q=>∃a ys,x=.ref a∧xs=[]∧J a=some (.lst ys)∧Q .non (put J a (.lst []))
def vI:rM:=λx xs J Q=>∃a ys i y,x=.ref a∧xs=[.int (i:Nat),y]∧J a=some (.lst ys)∧i≤ys.length∧ys.length < sizeLine∧i < 2 ^ 62∧Q .non (put J a (.lst (ys.take i ++ y :: ys.drop i)))
end
def mU (ks:List (Str × Nat)) (τ:Sr):Sr:=ks.map λp=>(τ[p.2]?).getD none
theorem pT {K:PySem.W.Frag} {J:Hq} {H:Hp} {τ:Sr} {σ:L2.St} (r:gw K J H τ σ) {x:PV} {v:V} (rx:bK K J H x v) (ks:List (Str × Nat)):gw K J H (some x :: mU ks τ) (some v :: dv ks σ):=by
 refine ⟨by simp [mU,dv],λi y e=>?_⟩
 cases i with
 | zero=>rw [Ff] at e ⊢;cases e;exact ⟨v,rfl,rx⟩
 | succ i =>
  rw [Eo] at e ⊢
  unfold mU at e
  unfold dv
  rw [Eb] at e ⊢
  cases ep:ks[i]? with
  | none=>rw [ep] at e;cases e
  | some p =>
   rw [ep] at e
   have e':(τ[p.2]?).getD none=some y:=Option.some.inj e
   have e2:τ[p.2]?=some (some y):=by
    cases q:τ[p.2]? with
    | none=>rw [q] at e';cases e'
    | some w=>rw [q] at e';exact congrArg some e'
   obtain ⟨v',h1,h2⟩:=r.get _ _ e2
   exact ⟨v',by show some ((σ[p.2]?).getD none)=_;rw [h1];rfl,h2⟩
def Sub (J J':Hq):Prop:=∀a o,J a=some o→J' a=some o
theorem Sub.refl (J:Hq):Sub J J:=λ_ _ h=>h
theorem Sub.put {J:Hq} {D:Addr} {o:HQ} (h:J D=none):Sub J (put J D o):=λa u e=>by
 have ne:a≠D:=by intro z;subst z;rw [h] at e;cases e
 rw [dm ne];exact e
def Dm (it:nt) (J1:Hq) (ks:List (Str × Nat)) (τ:Sr) (tc:iO) (te:bQ) (c:PV→Bool) (g:PV→PV):Prop:=it.xs.length < sizeLine∧∀J',Sub J1 J'→it.ok J' ∧
 ∀x∈it.xs,tc (some x :: mU ks τ) J' (λb J2=>b=c x∧J2=J')∧(c x=true→te (some x :: mU ks τ) J' λy J2=>y=g x∧J2=J')
def yP (wi:l4) (ks:List (Str × Nat)) (tc:iO) (te:bQ):bQ:=λτ J Q=>wi τ J λit J1=>∃(c:PV→Bool) (g:PV→PV),Dm it J1 ks τ tc te c g∧Q (.fl ((it.xs.filter c).map g)) J1
def tU:iO:=λ_ J Q=>Q true J
section
variable {X:Cx} {G:G2}
theorem iG {α:Type} (c:α→Bool) {xs:List α} {i:Nat} {x:α} (h:xs[i]?=some x):(xs.take (i + 1)).filter c=(xs.take i).filter c ++ (if c x=true then [x] else []):=by
 rw [Eu,h,List.filter_append]
 congr 1
 simp only [Option.toList_some,Fj,List.filter_nil]
theorem u_ {K:PySem.W.Frag} {ks:List (Str × Nat)} {tc:iO} {te:bQ} {σ:L2.St} {H:Hp} {Q:VK} {τ:Sr} {J:Hq} (a2:nq K G τ J σ H) {it:nt} {J1:Hq} {I:It} {H1:Hp} (ir:kc K it I J1 H1) (r1:Rep K J1 H1) (e1:Ext K J H J1 H1) {c:PV→Bool} {g:PV→PV}
  (w:Dm it J1 ks τ tc te c g)
  (q:∀D H2,H1 D=none→J1 D=none→Rep K (put J1 D (.lst ((it.xs.filter c).map g))) H2→Ext K J1 H1 (put J1 D (.lst ((it.xs.filter c).map g))) H2→Q (.ref D) H2) :
  ∀D,H1 D=none→∃W:Nat→Nat→Hp→Prop,(∃m,W 0 m (upd H1 D (.lst [])))∧∀i m H2,W i m H2→(I.stop i H2∧Q (.ref D) H2) ∨
   (I.go i H2∧∀v H3,I.yld i H2 v H3→LT K G tc (some v :: dv ks σ) H3 λb H4=>if b=true then LE K G te (some v :: dv ks σ) H4 λy H5=>∃ys,H5 D=some (.lst ys)∧ys.length < sizeLine∧∃m',m' < m∧W (i + 1) m' (upd H5 D (.lst (ys ++ [y]))) else ∃m',m' < m∧W (i + 1) m' H4):=by
 intro D hD
 obtain ⟨hlen,w⟩:=w
 have jD:J1 D=none:=r1.free hD
 refine ⟨λi m H2=>m=it.xs.length - i∧i≤it.xs.length∧Rep K (put J1 D (.lst (((it.xs.take i).filter c).map g))) H2∧Ext K J1 H1 (put J1 D (.lst (((it.xs.take i).filter c).map g))) H2,⟨_,rfl,Ex _,r1.sF (xs:=[]) (vs:=[]) hD rfl,.laid hD⟩,?_⟩
 rintro i m H2 ⟨rfl,hi,r2,e2⟩
 obtain ⟨ok,ww⟩:=w _ (Sub.put (o:=.lst (((it.xs.take i).filter c).map g)) jD)
 by_cases hlt:i < it.xs.length
 ·refine .inr ⟨ir.go _ H2 e2 r2 ok i hlt,λv H3 y=>?_⟩
  obtain ⟨x,ex,rx,r3,e3⟩:=ir.yl _ H2 e2 r2 ok i hlt v H3 y
  obtain ⟨hc,he⟩:=ww x (Ed ex)
  have a3:nq K G (some x :: mU ks τ) _ (some v :: dv ks σ) H3:=⟨pT (a2.sl.ext ((e1.trans e2).trans e3)) rx ks,r3,((a2.ext.trans e1).trans e2).trans e3⟩
  refine ⟨_,_,_,a3,hc,λb J4 H4 r4 e4 ⟨eb,ej⟩=>?_⟩
  subst ej
  cases hb:c x with
  | false =>
   rw [eb,hb]
   simp only [Ef,if_false]
   refine ⟨_,by omega,rfl,hlt,?_⟩
   rw [iG c ex,hb]
   simp only [Ef,if_false,EY]
   exact ⟨r4,(e2.trans e3).trans e4⟩
  | true =>
   rw [eb,hb]
   simp only [if_true]
   refine ⟨_,_,_,a3.go r4 e4,he hb,λz J5 u H5 rz r5 e5 ⟨ez,ej⟩=>?_⟩
   subst ej ez
   obtain ⟨ys,h5,ry⟩:=r5 D _ bq
   have ll:ys.length≤i:=by
    rw [← ry.length,D0]
    exact D1 (List.length_filter_le _ _) (by rw [Ek];omega)
   have r6:=r5.wrote (ys:=((it.xs.take i).filter c).map g ++ [g x]) (vs:=ys ++ [u]) bq h5 (ry.append (show aC K _ H5 [g x] [u] from ⟨u,[],rfl,rz,rfl⟩))
   have e6:=Ext.wrote (K:=K) (ys:=((it.xs.take i).filter c).map g ++ [g x]) (vs:=ys ++ [u]) (J:=put J1 D (.lst (((it.xs.take i).filter c).map g))) bq h5
   rw [lM] at r6 e6
   refine ⟨ys,h5,by omega,_,by omega,rfl,hlt,?_⟩
   rw [iG c ex,hb,if_pos rfl,El]
   exact ⟨r6,(((e2.trans e3).trans e4).trans e5).trans e6⟩
 ·have ei:i=it.xs.length:=by omega
  subst ei
  rw [Ez] at r2 e2 ok
  exact .inl ⟨ir.stop _ H2 e2 r2 ok,q D H2 hD jD r2 e2⟩
theorem freeze {K:PySem.W.Frag} {J1:Hq} {H2:Hp} {D:Addr} {xs:List PV} (jD:J1 D=none) (r:Rep K (put J1 D (.lst xs)) H2):bK K J1 H2 (.fl xs) (.ref D)∧Rep K J1 H2∧Ext K (put J1 D (.lst xs)) H2 J1 H2:=by
 obtain ⟨ys,h,ry⟩:=r D _ bq
 have less:∀a,J1 a=put J1 D (.lst xs) a∨J1 a=none:=λa=>by
  by_cases e:a=D
  ·subst e;exact .inr jD
  ·rw [dm e];exact .inl rfl
 have e:=Ext.less (K:=K) (H:=H2) less
 exact ⟨⟨D,ys,rfl,.inl ⟨jD,.inl h⟩,e.fJ ry⟩,r.less less,e⟩
theorem sG {wi:l4} {ks:List (Str × Nat)} {te:bQ}:∀σ H Q,LE X.K G (yP wi ks tU te) σ H Q→zx (LI X.K G wi) ks (LE X.K G te) σ H Q:=λσ H Q ⟨τ,J,Q2,a2,h,k⟩ =>
 ⟨τ,J,_,a2,h,λit J1 I H1 ir r1 e1 ⟨c,g,w,q⟩ D hD=>by
  obtain ⟨W,w0,turn⟩:=u_ (Q:=Q) a2 ir r1 e1 w (λD H2 hD jD r2 e2=>let ⟨x1,x2,x3⟩:=freeze jD r2;k _ J1 _ H2 x1 x2 ((e1.trans e2).trans x3) q) D hD
  refine ⟨W,w0,λi m H2 hw=>?_⟩
  rcases turn i m H2 hw with z | ⟨go,z⟩
  ·exact .inl z
  ·refine .inr ⟨go,λv H3 y=>?_⟩
   obtain ⟨τ',J',Q',a',t',k'⟩:=z v H3 y
   have:=k' true J' H3 a'.hp .refl t'
   simpa using this⟩
variable {elt iter cnd:Expr} {x y:Str} {px py:Pos} {sc:Scope} {pos spos:Pos} {wi:l4} {te:bQ} {tc:iO} {i:Nat}
theorem Bb (osc:Scope) (N:List Str) (ks:List (Str × Nat)) (hc:X.calm=true) (ho:X.env.scope=osc) (hN:X.N=N) (hi:RI X G (.Name x px) iter wi) (he:∀cl C s₀ H₀ fp pins,RE (gj X sc cl C x ks s₀ H₀ fp pins) G elt te)
  (ok:bR sc osc N x ks:=by decide +kernel) (hs:∀x,foldedSetIterable iter X.env x=pure x:=by intro _;rfl):RE X G (.ListComp elt [⟨.Name x px,iter,[],0⟩] sc pos) (yP wi ks tU te) :=
 ⟨iD (wK osc N ks hc ho hN hi.run (λcl C s₀ H₀ fp pins=>(he cl C s₀ H₀ fp pins).run) ok hs) sG⟩
end
end Ov
namespace Ov
open PySem PySem.Spec PyProof.Rows
section
open HT (lexLt)
open PySem.SeqAt
open PySem.AutoSeq1 (wpAny_loadPart')
open PySem.MeetsSeq PySem.MeetsSeq2 PySem.MeetsSeq3
section
variable {prog:Program} {w:World} {A:Around} {E:Value→Shared→Prop} {s:Shared}
end
end
open L2 (V HO Hp Inv Cx VK XK TE TT TA TS TG jW TI TO dA Ends jc Loc Gl Rd RelV Vals cn jb aZ gh h8 hU dQ R2 upd aq aB bO dz Sp g_ It aN bf bj Passes ka bS Meth Mk Binds aM cu ax bN b9 fI)
section
variable {X:Cx} {K:PySem.W.Frag}
theorem vp:cn X (binaryOp .Add) (λx y H Q=>∃l b xs zs,x=.ref l∧y=.ref b∧bO X.K H l xs∧bO X.K H b zs∧xs.length + zs.length≤sizeLine∧∀p,H p=none→Q (.ref p) (upd H p (.lst (xs ++ zs)))):=by
 intro pins s σ H x y v u Q I rx ry h
 obtain ⟨l,b,xs,zs,rfl,rfl,hH,hB,hz,q⟩:=h
 cases rx;cases ry
 obtain ⟨aQ,r,pl,_⟩:=I.list hH
 obtain ⟨its2,r2,pl2,_⟩:=I.list hB
 have l1:=r.length
 have l2:=r2.length
 obtain ⟨⟨c1,d1,da1,sl1⟩,n,e,hc,hd,hda⟩:=pl
 obtain ⟨⟨c2,d2,da2,sl2⟩,n2,e2,hc2,hd2,hda2⟩:=pl2
 simp only at hc hd hda hc2 hd2 hda2
 subst hc hd hda hc2 hd2 hda2
 refine concat_meets ⟨_,e,rfl⟩ ⟨_,e2,rfl⟩ noFill_list_add seq_list_add PySem.F.slot_list_add PySem.F.entry_list_add (PySem.F.args_list_add_2 _ _) (list_addW l b aQ.toArray its2.toArray n n2 none none sl1 sl2 (by simp only [D3];omega)) ⟨e,e2,?_⟩
 have ea:aQ.toArray ++ its2.toArray=(aQ ++ its2).toArray:=by simp
 rw [ea]
 exact ⟨.ref _,_,I.Cd (t':=s.toks) (r.append r2) (by rw [EF];omega),rfl,q _ I.fresh⟩
def wO:iH:=λx y J Q=>∃xs ys,lq J x=some xs∧lq J y=some ys∧xs.length + ys.length≤sizeLine∧Q (.fl (xs ++ ys)) J
theorem eA:j1 X (binaryOp .Add) wO:=⟨_,vp,λJ H x y v w Q2 Q rx ry r ⟨xs,ys,ex,ey,hl,q⟩ k=>by
 obtain ⟨a,vs,rfl,h1,h2⟩:=iT rx r ex
 obtain ⟨b,ws,rfl,h3,h4⟩:=iT ry r ey
 refine ⟨a,b,vs,ws,rfl,rfl,h1,h3,by rw [← h2.length,← h4.length];exact hl,λp hp=>?_⟩
 obtain ⟨x1,x2,x3⟩:=jy r (h2.append h4) hp
 exact k _ J _ _ x1 x2 x3 q⟩
end
section
variable {P:Program} {w:World} {K:PySem.W.Frag} {mg:Str→Option Value} {base:Heap}
end
theorem Dt {n:Nat} {F:List Value→Prop} (h:∀a us,us.length=n→F (a :: us)) (us:List Value) (hu:us.length=n + 1):F us:=by
 cases us with
 | nil=>cases hu
 | cons a us=>exact h a us (Nat.succ.inj hu)
theorem DL {F:List Value→Prop} (h:F []) (us:List Value) (hu:us.length=0):F us:=by
 cases us with
 | nil=>exact h
 | cons a us=>cases hu
theorem oO {F:List Value→Prop} (h:∀a,F [a]):∀us:List Value,us.length=1→F us:=Dt λa=>DL (F:=λus=>F (a :: us)) (h a)
theorem uI {F:List Value→Prop} (h:∀a b,F [a,b]):∀us:List Value,us.length=2→F us:=Dt λa=>oO (F:=λus=>F (a :: us)) (h a)
end Ov
namespace Ov
open PySem PySem.Spec PyProof.Rows
open L2 (V HO Hp Inv Cx VK XK Rd bO dz Sp aN bj Passes aM cu ax bN upd aq aB)
def fr (q:Rat):PV:=.tup [.int q.num,.int (q.den:Int)]
theorem xR (a b:Rat):(fr a=fr b)=(a=b):=by
 apply propext
 constructor
 ·intro h
  unfold fr at h
  simp only [PV.tup.injEq,List.cons.injEq,PV.int.injEq,and_true] at h
  exact Rat.ext h.1 (by have:=h.2;omega)
 ·intro h;rw [h]
theorem o6 (a:Rat):fr a=.tup [.int a.num,.int (a.den:Int)]:=rfl
theorem xZ (J:Hq) (q:Rat):mz J (fr q) (.int 0)=some (.int q.num):=iA _ _
theorem x4 (J:Hq) (q:Rat):mz J (fr q) (.int 1)=some (.int (q.den:Int)):=jf _ _ _
theorem Bu (J:Hq) (q:Rat):rf J (fr q)=some "tuple":=rfl
theorem yc (J:Hq) (q:Rat):mD J (fr q)=some 2:=rfl
theorem tL (q:Rat):fY (fr q)=true:=by simp [fr,fY,dT]
theorem xX (q:Rat):qx (fr q)=false:=rfl
theorem xO (q:Rat):dep (bZ (fr q))=1:=by simp [fr,bZ,cb,dep,bU]
theorem zN (q:Rat):wq (fr q)=True:=eq_true ⟨tL q,by rw [xO];decide⟩
theorem xF (i:Int):wq (.int i)=True:=eq_true ⟨by simp [fY],by simp [bZ,dep]⟩
theorem xI (i:Str):wq (.str i)=True:=eq_true ⟨by simp [fY],by simp [bZ,dep]⟩
theorem zM (i:Bool):wq (.bl i)=True:=eq_true ⟨by simp [fY],by simp [bZ,dep]⟩
theorem xH:wq .non=True:=eq_true ⟨by simp [fY],by simp [bZ,dep]⟩
theorem pJ (i:Int):fY (.int i)=true:=by simp [fY]
theorem lL (i:Str):fY (.str i)=true:=by simp [fY]
theorem n_ (i:Bool):fY (.bl i)=true:=by simp [fY]
theorem pL:fY .non=true:=by simp [fY]
theorem tK (xs:List PV):fY (.fl xs)=dT xs:=by simp [fY]
theorem kE (x:PV) (xs:List PV):dT (x :: xs)=(fY x && dT xs):=by simp [dT]
theorem tN:dT []=true:=by simp [dT]
theorem jE {α:Type} (g:α→PV) (h:∀a,fY (g a)=true):∀xs:List α,dT (xs.map g)=true
 | []=>by simp [dT]
 | x :: xs=>by simp [dT,h,jE g h xs]
theorem eq_int (a b:Int):eqQ (.int a) (.int b)=decide (a=b):=by unfold eqQ bZ c_;rw [Fs]
theorem eq_str (a b:Str):eqQ (.str a) (.str b)=decide (a=b):=by
 unfold eqQ bZ c_
 cases h:a == b with
 | true=>simp at h;simp [h]
 | false=>simp at h;simp [h]
theorem zQ (a b:Bool):eqQ (.bl a) (.bl b)=decide (a=b):=by unfold eqQ bZ c_;rw [Fs]
def nA (xs ys:List PV):Bool:=eQ (cb xs) (cb ys)
theorem r_ (xs ys:List PV):eqQ (.tup xs) (.tup ys)=nA xs ys:=by unfold eqQ bZ c_ nA;rfl
theorem gC (x y:PV) (xs ys:List PV):nA (x :: xs) (y :: ys)=(eqQ x y && nA xs ys):=by unfold nA eqQ;simp [cb,eQ]
theorem oZ:nA [] []=true:=by unfold nA;simp [cb,eQ]
theorem eq_self (x:PV):eqQ x x=true:=mn _
theorem zR (a b:Rat):eqQ (fr a) (fr b)=decide (a=b):=by
 rw [o6,o6,r_,gC,gC,oZ,eq_int,eq_int,E1,← FP]
 exact decide_eq_decide.mpr (by rw [vM])
theorem DX (a b c:PV):gA [a,b,c] (some 1) none=[b,c]:=rfl
theorem zc:gf "int" "int"=some true:=by simp [gf]
theorem v_:gf "int" "bool"=some false:=by simp [gf]
theorem Bv:gf "bool" "bool"=some true:=by simp [gf]
theorem zd:gf "str" "str"=some true:=by simp [gf]
theorem ze:gf "tuple" "tuple"=some true:=by simp [gf]
theorem wa:gf "list" "list"=some true:=by simp [gf]
theorem br {n:Nat} (h:n≤1000):n≤sizeLine:=E7 (L2.cG h)
theorem z_:(0≤sizeLine)=True:=eq_true (Ex _)
theorem Aa:(1≤sizeLine)=True:=eq_true (br (by decide))
theorem Ab:(2≤sizeLine)=True:=eq_true (br (by decide))
theorem Ac:(3≤sizeLine)=True:=eq_true (br (by decide))
theorem Ad:(4≤sizeLine)=True:=eq_true (br (by decide))
section
variable (J:Hq) (xs:List PV) (a:Addr) (i:Int) (b:Bool) (z:Str) (T:String)
theorem Ca:mz J (.tup xs) (.int i)=bN xs i:=rfl
theorem B9:mz J (.fl xs) (.int i)=bN xs i:=rfl
theorem B_:mz J (.ref a) (.int i)=(match J a with | some (.lst xs)=>bN xs i | _=>none):=rfl
theorem Ce:lq J (.fl xs)=some xs:=rfl
theorem Cf:lq J (.ref a)=(match J a with | some (.lst xs)=>some xs | _=>none):=rfl
theorem zZ:mD J (.tup xs)=some xs.length:=rfl
theorem zX:mD J (.fl xs)=some xs.length:=rfl
theorem zY:mD J (.ref a)=(match J a with | some (.lst xs)=>some xs | _=>none).map Fc:=rfl
theorem C3:rf J .non=some "NoneType":=rfl
theorem Bt:rf J (.bl b)=some "bool":=rfl
theorem C2:rf J (.int i)=some "int":=rfl
theorem C5:rf J (.str z)=some "str":=rfl
theorem C6:rf J (.tup xs)=some "tuple":=rfl
theorem C1:rf J (.fl xs)=some "list":=rfl
theorem C4:rf J (.ref a)=(match J a with | some (.lst _)=>some "list" | some (.dct _ _)=>some "dict" | _=>none):=rfl
theorem Bq:oG J .non=some false:=rfl
theorem Bn:oG J (.bl b)=some b:=rfl
theorem Bp:oG J (.int i)=some (i != 0):=rfl
theorem Bs:oG J (.tup xs)=some (!xs.isEmpty):=rfl
theorem Bo:oG J (.fl xs)=some (!xs.isEmpty):=rfl
theorem Br:oG J (.ref a)=(match J a with | some (.lst xs)=>some (!xs.isEmpty) | some (.dct kvs _)=>some (!kvs.isEmpty) | _=>none):=rfl
theorem B7:BC J (.fl xs)=some ⟨xs,λ_=>True⟩:=rfl
theorem B8:BC J (.ref a)=(match J a with | some (.lst xs)=>some ⟨xs,λJ'=>J' a=some (.lst xs)⟩ | _=>none):=rfl
theorem B3:qx .non=true:=rfl
theorem B0:qx (.bl b)=false:=rfl
theorem B2:qx (.int i)=false:=rfl
theorem B5:qx (.str z)=false:=rfl
theorem B6:qx (.tup xs)=false:=rfl
theorem B1:qx (.fl xs)=false:=rfl
theorem B4:qx (.ref a)=false:=rfl
theorem CV:zy T J (.fl xs)=(T="list"):=rfl
theorem CZ:zy T J (.str z)=(T="str"):=rfl
theorem CY:zy T J (.ref a)=((T="list"∧∃xs,J a=some (.lst xs))∨(T="dict"∧∃kvs ep,J a=some (.dct kvs ep))):=rfl
end
def Fo (it:nt) (g:qm) (tb:eM) (D:En) (τ:Sr) (J1:Hq):Prop:=∃Pv:Nat→Sr→Hq→Prop,Pv 0 τ J1∧(∀i τ J,Pv i τ J→it.ok J) ∧
 (∀i x τ J,it.xs[i]?=some x→Pv i τ J→g x τ J λτ2 J2=>tb { D with nx:=Pv (i + 1),ct:=Pv (i + 1),bk:=D.nx } τ2 J2)∧∀τ J,Pv it.xs.length τ J→D.nx τ J
theorem vL (wi:l4) (g:qm) (tb:eM) (D:En) (τ:Sr) (J:Hq):AR wi g tb D τ J=wi τ J λit J1=>Fo it g tb D τ J1:=rfl
theorem k6 {lo:Int} {n:Nat} {g:qm} {tb:eM} {D:En} {τ:Sr} {J1:Hq} (Pv:Nat→Sr→Hq→Prop) (h0:Pv 0 τ J1)
  (hs:∀(i:Nat) τ J,i < n→Pv i τ J→g (.int (lo + (i:Int))) τ J λτ2 J2=>tb { D with nx:=Pv (i + 1),ct:=Pv (i + 1),bk:=D.nx } τ2 J2) (hd:∀τ J,Pv n τ J→D.nx τ J):Fo ⟨lh lo n,λ_=>True⟩ g tb D τ J1 :=
 ⟨Pv,h0,λ_ _ _ _=>trivial,λi x τ J e p=>by obtain ⟨a,b⟩:=(mx lo n i x).mp e;subst b;exact hs i τ J a p,λτ J p=>hd τ J (by simpa [gI] using p)⟩
structure d9 (mg:Str→Option Value):Prop extends we mg where
 str:mg "str"=none
 dict:mg "dict"=none
 max:mg "max"=none
 zip:mg "zip"=none
 enumerate:mg "enumerate"=none
def rL (J' J:Hq):Prop:=∀a,J' a=J a∨J' a=none
def Fg (Q:PV→Hq→Prop) (v:PV) (J:Hq):Prop:=∃x J',rL J' J∧(x=v∨∃a xs,v=.ref a∧x=.fl xs∧J a=some (.lst xs)∧J' a=none)∧Q x J'
theorem Fg.same {Q:PV→Hq→Prop} {v:PV} {J:Hq} (h:Q v J):Fg Q v J:=⟨v,J,λ_=>.inl rfl,.inl rfl,h⟩
theorem Fg.less {Q:PV→Hq→Prop} {v:PV} {J J':Hq} (l:rL J' J) (h:Q v J'):Fg Q v J:=⟨v,J',l,.inl rfl,h⟩
theorem Fg.ky {Q:PV→Hq→Prop} {a:Addr} {xs:List PV} {J J':Hq} (l:rL J' J) (ha:J a=some (.lst xs)) (hn:J' a=none) (h:Q (.fl xs) J'):Fg Q (.ref a) J:=⟨.fl xs,J',l,.inr ⟨a,xs,rfl,rfl,ha,hn⟩,h⟩
section
variable {P:Program} {w:World} {K:PySem.W.Frag} {mg:Str→Option Value} {base:Heap}
theorem Fg.kn {J:Hq} {H:Hp} {Q2:PV→Hq→Prop} {Q:VK} (k:Kn K J H Q2 Q):Kn K J H (Fg Q2) Q:=λz J1 u H1 rz r1 e1 ⟨x,J',l,hx,q⟩=>by
 have el:=Ext.less (K:=K) (H:=H1) l
 rcases hx with rfl | ⟨a,xs,rfl,rfl,ha,hn⟩
 ·exact k x J' u H1 (el.rep rz) (r1.less l) (e1.trans el) q
 ·cases rz
  obtain ⟨vs,h1,h2⟩:=r1 _ _ ha
  exact k (.fl xs) J' _ H1 ⟨a,vs,rfl,.inl ⟨hn,.inl h1⟩,el.fJ h2⟩ (r1.less l) (e1.trans el) q
theorem DR {x qual:Str} {st:Stmt} {f:Addr} {fd:FuncData} {N ps:List Str} {k:Nat} {sp:d8} (F:cu K x qual st f fd) (S:ax N ps (L2.aj st)) (len:∀xs J Q E,sp xs J Q E→xs.length=ps.length)
  (hbody:∀(cdv:Value) (A:Around) (outer:List Env) (s:Shared) (H:Hp) (E:XK) (G:G2) (xs:List PV) (J:Hq) (Q:PV→Hq→Prop) (E2:Addr→Hq→Prop),bj k (A.deeper (envOfC qual (L2.aj st) s.heap.objs.size f cdv))→sp xs J Q E2 →
   uA (l5 P w K mg base N qual (L2.aj st) f cdv A outer s H E) G E2 E →
   ∃t,RB (l5 P w K mg base N qual (L2.aj st) f cdv A outer s H E) G (L2.bg st) t∧t { nx:=λ_ J'=>Fg Q .non J',rt:=Fg Q } (jS N xs) J):aM P w K mg base (cU P w) (k + 1) f fd ps (hE K sp):=by
 have:=Cn (sp:=λxs J Q E=>∃Q0,Q=Fg Q0∧sp xs J Q0 E) F S (λxs J Q E ⟨Q0,_,h⟩=>len xs J Q0 E h) (λcdv A outer s H E G xs J Q E2 hr ⟨Q0,eq,h⟩ B=>by subst eq;exact hbody cdv A outer s H E G xs J Q0 E2 hr h B)
 exact this.imp λvs H Q E ⟨xs,J,Q2,E2,a,b,c,d,e⟩=>⟨xs,J,Fg Q2,E2,a,b,⟨Q2,rfl,c⟩,Fg.kn d,e⟩
end
section
variable {P:Program} {w:World} {K:PySem.W.Frag} {mg:Str→Option Value} {base:Heap}
theorem Cm {x qual:Str} {st:Stmt} {f:Addr} {fd:FuncData} {N ps:List Str} {k:Nat} {sp:d8} {t:(Addr→Hq→Prop)→eM} (F:cu K x qual st f fd) (S:ax N ps (L2.aj st)) (len:∀xs J Q E,sp xs J Q E→xs.length=ps.length)
  (rd:∀(cdv:Value) (A:Around) (outer:List Env) (s:Shared) (H:Hp) (E:XK) (G:G2) (E2:Addr→Hq→Prop),bj k (A.deeper (envOfC qual (L2.aj st) s.heap.objs.size f cdv)) →
   uA (l5 P w K mg base N qual (L2.aj st) f cdv A outer s H E) G E2 E→RB (l5 P w K mg base N qual (L2.aj st) f cdv A outer s H E) G (L2.bg st) (t E2))
  (run:∀(xs:List PV) (J:Hq) (Q:PV→Hq→Prop) (E2:Addr→Hq→Prop),sp xs J Q E2→∀X:Prop,(t E2 { nx:=λ_ J'=>Fg Q .non J',rt:=Fg Q } (jS N xs) J→X)→X):aM P w K mg base (cU P w) (k + 1) f fd ps (hE K sp) :=
 DR F S len λcdv A outer s H E G xs J Q E2 hr h B=>⟨_,rd cdv A outer s H E G E2 hr B,run xs J Q E2 h _ id⟩
end
theorem iu {K:PySem.W.Frag} {J:Hq} {H:Hp}:∀ns:List Int,aC K J H (ns.map PV.int) (ns.map V.int)
 | []=>rfl
 | n :: ns=>⟨_,_,rfl,rfl,iu ns⟩
end Ov
namespace Ov
open PySem PySem.Spec PyProof.Rows L2
theorem wm {α:Type} (a b c d e:α) (xs:List α):bN (a :: b :: c :: d :: e :: xs) 4=some e:=aU (j:=4) rfl
theorem zG {α:Type} (a b c d e f:α) (xs:List α):bN (a :: b :: c :: d :: e :: f :: xs) 5=some f:=aU (j:=5) rfl
theorem zH {α:Type} (a b c d e f g:α) (xs:List α):bN (a :: b :: c :: d :: e :: f :: g :: xs) 6=some g:=aU (j:=6) rfl
theorem zI {α:Type} (a b c d e f g h:α) (xs:List α):bN (a :: b :: c :: d :: e :: f :: g :: h :: xs) 7=some h:=aU (j:=7) rfl
theorem zJ {α:Type} (a b c d e f g h i:α) (xs:List α):bN (a :: b :: c :: d :: e :: f :: g :: h :: i :: xs) 8=some i:=aU (j:=8) rfl
theorem zK {α:Type} (a b c d e f g h i j:α) (xs:List α):bN (a :: b :: c :: d :: e :: f :: g :: h :: i :: j :: xs) 9=some j:=aU (j:=9) rfl
theorem xA {α:Type} (a b c d e f g h i j k:α) (xs:List α):bN (a :: b :: c :: d :: e :: f :: g :: h :: i :: j :: k :: xs) 10=some k:=aU (j:=10) rfl
theorem xB {α:Type} (a b c d e f g h i j k l:α) (xs:List α):bN (a :: b :: c :: d :: e :: f :: g :: h :: i :: j :: k :: l :: xs) 11=some l:=aU (j:=11) rfl
theorem Ae:(5≤sizeLine)=True:=eq_true (br (by decide))
theorem Af:(6≤sizeLine)=True:=eq_true (br (by decide))
theorem Ag:(7≤sizeLine)=True:=eq_true (br (by decide))
theorem Ah:(8≤sizeLine)=True:=eq_true (br (by decide))
theorem Ai:(9≤sizeLine)=True:=eq_true (br (by decide))
theorem yd:(10≤sizeLine)=True:=eq_true (br (by decide))
theorem ye:(11≤sizeLine)=True:=eq_true (br (by decide))
theorem yf:(12≤sizeLine)=True:=eq_true (br (by decide))
theorem g7 {ss:List Int} (h:ss.all (λs=>decide (0 < s) && decide (s < 2 ^ 63))=true):∀s∈ss,0 < s∧Bd 9000 s:=λs hs=>by
 have:=Em.mp h s hs
 rw [Eh,decide_eq_true_eq,decide_eq_true_eq] at this
 exact ⟨this.1,(Bd.small (by omega) (by omega)).mono (by decide)⟩
end Ov
namespace Ov
open PySem PySem.Spec PyProof.Rows
open L2 (V HO Hp Inv Cx VK XK TE TT TA TS TG jW TI TO dA Ends jc Loc Gl Rd RelV Vals cn jb aZ gh h8 hU dQ R2 upd aq aB bO dz Sp g_ It aN bf bj Passes ka bS Meth Mk Binds aM cu ax bN b9 fI)
section
variable {X:Cx} {G:G2}
abbrev zE:=PV→PV→PV→Hq→(Hq→Prop)→Prop
def DP (to ti:bQ) (t:zE):qm:=λy τ J R=>to τ J λo J1=>ti τ J1 λi J2=>t o i y J2 λJ3=>R τ J3
def AM:zE:=λo i y J R=>∃p xs k j,o=.ref p∧i=.int k∧J p=some (.lst xs)∧L2.sC xs.length k=some j∧R (put J p (.lst (xs.set j y)))
def CC (i:Nat) (te:bQ) (q:iH):eM:=λD τ J=>Ak τ[i]? λx=>te τ J λy J1=>q x y J1 λz J2=>D.nx (τ.set i (some z)) J2
end
theorem jk {xs:List PV} {ok:Hq→Prop} {g:qm} {tb:eM} {D:En} {τ:Sr} {J1:Hq} (Pv:Nat→Sr→Hq→Prop) (h0:Pv 0 τ J1) (hk:∀i τ J,Pv i τ J→ok J)
  (hs:∀(i:Nat) x τ J,xs[i]?=some x→Pv i τ J→g x τ J λτ2 J2=>tb { D with nx:=Pv (i + 1),ct:=Pv (i + 1),bk:=D.nx } τ2 J2) (hd:∀τ J,Pv xs.length τ J→D.nx τ J):Fo ⟨xs,ok⟩ g tb D τ J1:=⟨Pv,h0,hk,hs,hd⟩
theorem sN {J:Hq} {x:PV} {ys:List PV} (h:lq J x=some ys):x=.fl ys∨∃a,x=.ref a∧J a=some (.lst ys):=by
 cases x with
 | fl xs=>cases h;exact .inl rfl
 | ref a =>
  right
  refine ⟨a,rfl,?_⟩
  unfold lq at h
  simp only at h
  split at h
  ·rename_i e;cases h;exact e
  ·cases h
 | _=>cases h
def eR (j:Nat):List PV:=.bl true :: (Ey 10).map λk=>.bl (decide (j=k))
theorem qu {K:PySem.W.Frag} {J:Hq} {H:Hp} (j:Nat):aC K J H (eR j) (kZ j):=by
 unfold eR kZ
 refine ⟨_,_,rfl,rfl,?_⟩
 generalize Ey 10=l
 induction l with
 | nil=>rfl
 | cons k l ih=>exact ⟨_,_,rfl,rfl,ih⟩
def A8 (c:Nat→Addr) (N n:Nat) (t:(Addr→Hq→Prop)→eM):eM:=λD τ J =>
 t (λa J'=>∃j,j < 10∧a=c j∧D.nx ((Ea N none).set n (some (.fl (eR j)))) J') D τ J
section
variable {X:Cx} {G:G2}
theorem yX {body suite:List Stmt} {b₀:Stmt} {x m:Str} {i n:Nat} {W:Addr} {c:Nat→Addr} {t:(Addr→Hq→Prop)→eM} {ts:TS} {np hpos pos:Pos} (Er:qj X.K X.mg W c) (hg:Gl X x) (hm:X.mg x=some (.ref W))
  (hN:X.N.Nodup) (hi:X.N[i]?=some m) (hin:i≠n) (hk:X.env.kindOf m=some .local) (hb:∀pn xe E G' E2,uA (xK X pn xe) G' E2 E→RB (xK X pn xe) G' body (t E2)) (hs:∀pn ea,QB (zr X pn ea) (b₀ :: suite) ts)
  (hq:∀(j:Nat),j < 10→∀(σ:L2.St) (H:Hp) (ea:Addr) (D:Ends),σ[i]?=some (some (.ref ea))→H ea=some (.ext (ExcAt ea (c j)))→(∀l,H l=none→D.nx (σ.set n (some (.ref l))) (upd H l (.lst (kZ j))))→ts D σ H)
  (hst:X.stack=X.env :: X.outer:=by rfl) (hfr:X.env.frame=some X.env.locals:=by rfl) (hex:X.ex=[]:=by rfl) (hd:(x == ("__debug__":Str))=false:=by decide) :
  RS X G (.Try body [.ExceptHandler (some (.Name x np)) (some m) (b₀ :: suite) hpos] [] [] pos) (A8 c X.N.length n t):=by
 have hiN:i < X.N.length:=by
  rcases Ft i X.N.length with e | e
  ·exact e
  ·rw [EG e] at hi;cases hi
 refine ⟨wL (vF (tb:=λE D σ H=>∃(G':G2) (E2:Addr→Hq→Prop),wj X.K G'.1 G'.2 E2 E∧LS X.K G' (t E2) D σ H) hst hfr hex hg hm hN hi hk (λpn xe E hp pins s σ H D I ⟨G',E2,kn,h⟩=>(hb pn xe E G' E2 ⟨hp,kn⟩).run pins s σ H D I h) (λpn ea=>(hs pn ea).run) hd) ?_⟩
 intro D σ H ⟨τ,J,D2,a2,h,g⟩
 refine ⟨(J,H),_,?_,τ,J,D2,⟨a2.sl,a2.hp,.refl⟩,h,g⟩
 intro C J' H' r e ⟨j,hj,hC,q⟩
 subst hC
 refine ⟨c j,rfl,Er.wat j hj,λea he=>?_⟩
 refine hq j hj _ _ ea _ (by rw [Eg (by simpa using hiN)]) aq λl hl=>?_
 have s1:aN H' (upd H' ea (.ext (ExcAt ea (c j)))):=aN.new he _
 have r1:=r.same s1
 obtain ⟨x1,x2,x3⟩:=jy (xs:=eR j) r1 (qu j) hl
 refine g.nx _ J' _ _ ?_ x2 ((e.trans (.same s1)).trans x3) q
 refine ⟨by simp,λk y hy=>?_⟩
 have hkn:k=n:=by
  rcases Ft k X.N.length with hlt | hge
  ·by_cases e:n=k
   ·exact e.symm
   ·rw [EA e,List.getElem?_replicate_of_lt hlt] at hy;cases hy
  ·rw [EG (by simpa using hge)] at hy;cases hy
 subst hkn
 have hkN:k < X.N.length:=by
  rcases Ft k X.N.length with e | e
  ·exact e
  ·rw [EG (by simpa using e)] at hy;cases hy
 rw [Eg (by simpa using hkN)] at hy
 cases hy
 exact ⟨.ref l,by rw [EA hin,Eg (by simpa using hkN)],x1⟩
end
theorem yZ {a b:eM} {D:En} {τ:Sr} {J:Hq} (h:∀N:Sr→Hq→Prop,(∀τ' J',b D τ' J'→N τ' J')→a { D with nx:=N } τ J):ba a b D τ J:=h _ λ_ _ z=>z
def BI (J:Hq):PV→Option (List PV)
 | .tup xs=>some xs
 | .fl xs=>some xs
 | .ref a=>match J a with
  | some (.lst xs)=>some xs
  | _=>none
 | _=>none
theorem y2 {K:PySem.W.Frag} {J:Hq} {H:Hp} {y:PV} {u:V} {xs:List PV} (h:BI J y=some xs) (r:bK K J H y u) (rr:Rep K J H):∃p vs,u=.ref p∧(bO K H p vs∨dz K H p vs)∧aC K J H xs vs:=by
 cases y with
 | tup ys=>cases h;obtain ⟨a,vs,rfl,h1,h2⟩:=r;exact ⟨a,vs,rfl,.inr h1,h2⟩
 | fl ys=>cases h;obtain ⟨a,vs,rfl,h1,h2⟩:=r;exact ⟨a,vs,rfl,.inl h1.sq,h2⟩
 | ref a =>
  cases r
  unfold BI at h
  simp only at h
  split at h
  ·rename_i e;cases h
   obtain ⟨vs,h1,h2⟩:=rr _ _ e
   exact ⟨a,vs,rfl,.inl (bO.of h1),h2⟩
  ·cases h
 | _=>cases h
theorem gY {K:PySem.W.Frag} {J:Hq} {H:Hp}:∀{ns:List Str} {vs:List V},aC K J H (ns.map PV.str) vs→vs=ns.map V.str
 | [],_,h=>h
 | n :: ns,_,⟨v,us,e,h,k⟩=>by subst e;cases h;rw [gY k];rfl
section
variable {X:Cx} {G:G2}
end
end Ov
namespace L2
open PySem PySem.Spec PyProof.Rows
section
variable {X:Cx} {tg:Expr}
end
end L2
namespace Ov
open PySem PySem.Spec PyProof.Rows
open L2 (V HO Hp Inv Cx VK XK TE TT TA TS TG jW TI TO dA Ends jc Loc Gl Rd RelV Vals cn jb aZ gh h8 hU dQ R2 upd aq aB bO dz Sp g_ It aN bf bj Passes ka bS Meth Mk Binds aM cu ax bN b9 fI)
section
variable {X:Cx} {G:G2} {tg:Expr}
theorem sO {K:PySem.W.Frag} {J:Hq} {H:Hp} {y:PV} {u:V} {xs:List PV} (h:lq J y=some xs) (r:bK K J H y u) (rr:Rep K J H):∃p vs,u=.ref p∧bO K H p vs∧aC K J H xs vs:=by
 rcases sN h with rfl | ⟨a,rfl,ha⟩
 ·obtain ⟨a,vs,rfl,h1,h2⟩:=r;exact ⟨a,vs,rfl,h1.sq,h2⟩
 ·cases r
  obtain ⟨vs,h1,h2⟩:=rr _ _ ha
  exact ⟨a,vs,rfl,bO.of h1,h2⟩
theorem aC.flat {K:PySem.W.Frag} {J:Hq} {H:Hp} {xs:List PV} {vs:List V} (r:aC K J H xs vs):∀k:Nat,aC K J H (Ea k xs).flatten (Ea k vs).flatten
 | 0=>rfl
 | k + 1=>by rw [ED,ED,E3,E3];exact r.append (aC.flat r k)
def og:nj:=λxs J Q=>∃x ys,xs=[x]∧lq J x=some ys∧Q (.tup ys) J
theorem gz:uv X (.type "tuple") og:=⟨_,L2.j4,λJ H xs vs Q2 Q rs r ⟨x,ys,ex,el,q⟩ k=>by
 subst ex;obtain ⟨v,us,rfl,rv,e⟩:=rs;cases e
 obtain ⟨a,ws,rfl,h3,h4⟩:=sO el rv r
 refine ⟨a,ws,rfl,.inl ⟨h3,λp hp=>?_⟩⟩
 have sm:=aN.new hp (.tup ws)
 exact k (.tup ys) J (.ref p) _ ⟨p,ws,rfl,dz.of aq,(Ext.same (K:=X.K) (J:=J) sm).fJ h4⟩ (r.same sm) (.same sm) q⟩
end
end Ov
namespace L2
open PySem PySem.Spec PyProof.Rows
section
variable {X:Cx}
abbrev TJ:=Str→TE
theorem kU:aZ X (.type "str") (λxs H Q=>∃x,xs=[.str x]∧Q (.str x) H):=by
 intro pins s σ H xs us Q I r h
 obtain ⟨x,rfl,q⟩:=h
 obtain ⟨u,rfl,t,rfl⟩:=vals1 r
 exact PySem.P.str_of_str ⟨.str _,H,I,⟨_,rfl⟩,q⟩
end
end L2
namespace Ov
open PySem PySem.Spec PyProof.Rows
open L2 (V HO Hp Inv Cx VK XK TE TT TA TS TG jW TI TO dA Ends jc Loc Gl Rd RelV Vals cn jb aZ gh h8 hU dQ R2 upd aq aB bO dz Sp g_ It aN bf bj Passes ka bS Meth Mk Binds aM cu ax bN b9 fI TJ)
section
variable {X:Cx} {G:G2}
def vK:nj:=λxs J Q=>(∃i:Int,xs=[.int i]∧i.natAbs.log2 < 1920∧Q (.str (toString i)) J)∨∃x,xs=[.str x]∧Q (.str x) J
theorem kX:uv X (.type "str") vK:=⟨_,L2.kT.or L2.kU,λJ H xs vs Q2 Q rs r h k=>by
 rcases h with ⟨i,ex,hi,q⟩ | ⟨x,ex,q⟩
 ·subst ex;obtain ⟨v,us,rfl,rv,e⟩:=rs;cases e;cases rv
  exact .inl ⟨i,rfl,hi,k (.str _) J _ H rfl r .refl q⟩
 ·subst ex;obtain ⟨v,us,rfl,rv,e⟩:=rs;cases e;cases rv
  exact .inr ⟨x,rfl,k (.str _) J _ H rfl r .refl q⟩⟩
def fP:iH:=λx y J Q=>∃i j:Str,x=.str i∧y=.str j∧i.length + j.length≤sizeLine∧Q (.str (i ++ j)) J
theorem bo:j1 X (binaryOp .Add) fP:=⟨_,L2.nS,λJ H x y v w Q2 Q rx ry r ⟨i,j,ex,ey,hl,q⟩ k=>by
 subst ex ey;cases rx;cases ry;exact ⟨i,j,rfl,rfl,hl,k (.str _) J _ H rfl r .refl q⟩⟩
def tP:rM:=λx xs J Q=>∃z y ys,x=.str z∧xs=[y]∧lq J y=some (ys.map .str)∧(ys.map (·.length)).sum + ys.length * z.length≤16777216∧Q (.str (Txt.join z ys)) J
theorem ph:zC X "str" "str.join" tP:=⟨_,pj,λJ H x xs v vs Q2 Q rx rs r ⟨z,y,ys,ex,exs,hy,hl,q⟩ k=>by
 subst ex exs;cases rx;obtain ⟨w,us,rfl,rw',e⟩:=rs;cases e
 obtain ⟨a,ws,rfl,h1,h2⟩:=sO hy rw' r
 cases gY h2
 exact ⟨z,a,ys,rfl,rfl,h1,hl,k (.str _) J _ H rfl r .refl q⟩⟩
end
end Ov
namespace L2
open PySem PySem.Spec PyProof.Rows
section
variable {X:Cx} {pins:List (Addr × Obj)} {σ:St} {H:Hp} {s:Shared} {h':Heap}
end
section
variable {X:Cx}
end
end L2
namespace Ov
open PySem PySem.Spec PyProof.Rows
open L2 (V HO Hp Inv Cx VK XK TE TT TA TS TG jW TI TO dA Ends jc Loc Gl Rd RelV Vals cn jb aZ gh h8 hU dQ R2 upd aq aB bO dz Sp g_ It aN bf bj Passes ka bS Meth Mk Binds aM cu ax bN b9 fI)
section
variable {X:Cx} {G:G2}
end
end Ov
namespace L2
open PySem PySem.Spec PyProof.Rows
section
variable {α β:Type}
def l3 (kvs:List (Str × α)) (k:Str):Option α:=(kvs.find? λkv=>decide (kv.1=k)).map (·.2)
def wM (kvs:List (Str × α)) (k:Str) (v:α):List (Str × α):=if kvs.any (λkv=>decide (kv.1=k)) then kvs.map (λkv=>if kv.1=k then (kv.1,v) else kv) else kvs ++ [(k,v)]
def wu (kvs:List (Str × α)) (k:Str):List (Str × α):=kvs.filter λkv=>decide (kv.1≠k)
theorem bV (p:Str × α) (r:List (Str × α)) (k:Str):l3 (p :: r) k=if p.1=k then some p.2 else l3 r k:=by
 unfold l3
 rw [List.find?_cons]
 by_cases h:p.1=k <;> simp [h]
abbrev hZ (R:α→β→Prop):List (Str × α)→List (Str × β)→Prop:=Paired λp q=>p.1=q.1∧R p.2 q.2
variable {R:α→β→Prop}
theorem hZ.va {kvs:List (Str × α)} {vs:List (Str × β)} (h:hZ R kvs vs) (k:Str):(∀x,l3 kvs k=some x→∃y,l3 vs k=some y∧R x y)∧(l3 kvs k).isSome=(l3 vs k).isSome:=by
 induction h with
 | nil=>exact ⟨λx e=>by simp [l3] at e,rfl⟩
 | @cons p q kvs vs r _ ih =>
  rw [bV,bV,← r.1]
  by_cases e:p.1=k
  ·rw [if_pos e,if_pos e];exact ⟨λx z=>by cases z;exact ⟨_,rfl,r.2⟩,rfl⟩
  ·rw [if_neg e,if_neg e];exact ih
theorem hZ.any {kvs:List (Str × α)} {vs:List (Str × β)} (h:hZ R kvs vs) (k:Str):(kvs.any λkv=>decide (kv.1=k))=vs.any λkv=>decide (kv.1=k):=by
 induction h with
 | nil=>rfl
 | cons r _ ih=>rw [Fh,Fh,ih,r.1]
theorem hZ.snoc {kvs:List (Str × α)} {vs:List (Str × β)} (h:hZ R kvs vs) {k:Str} {x:α} {y:β} (r:R x y):hZ R (kvs ++ [(k,x)]) (vs ++ [(k,y)]):=by
 induction h with
 | nil=>exact .cons ⟨rfl,r⟩ .nil
 | cons q _ ih=>exact .cons q ih
theorem hZ.pu {kvs:List (Str × α)} {vs:List (Str × β)} (h:hZ R kvs vs) {k:Str} {x:α} {y:β} (r:R x y):hZ R (wM kvs k x) (wM vs k y):=by
 unfold wM
 rw [h.any k]
 split
 ·rename_i hany;clear hany
  induction h with
  | nil=>exact .nil
  | @cons p q kvs vs z _ ih =>
   rw [D_,D_]
   refine .cons ?_ ih
   by_cases e:p.1=k
   ·rw [if_pos e,if_pos (z.1 ▸ e)];exact ⟨z.1,r⟩
   ·rw [if_neg e,if_neg (z.1 ▸ e)];exact z
 ·exact h.snoc r
theorem hZ.dr {kvs:List (Str × α)} {vs:List (Str × β)} (h:hZ R kvs vs) (k:Str):hZ R (wu kvs k) (wu vs k):=by
 unfold wu
 induction h with
 | nil=>exact .nil
 | @cons p q kvs vs z _ ih =>
  rw [Fj,Fj,z.1]
  split
  ·exact .cons z ih
  ·exact ih
theorem hZ.len {kvs:List (Str × α)} {vs:List (Str × β)} (h:hZ R kvs vs):kvs.length=vs.length:=Paired.length h
theorem hZ.keys {kvs:List (Str × α)} {vs:List (Str × β)} (h:hZ R kvs vs):kvs.map (·.1)=vs.map (·.1):=by
 induction h with
 | nil=>rfl
 | cons r _ ih=>rw [D_,D_,ih,r.1]
end
theorem rg (vs:List (Str × Value)) (k:Str):valueAt vs k=l3 vs k:=rfl
theorem str_is {P:Program} {w:World} {k:Str} {u:Value} (r:RelV (.str k) u):(PySem.strKind P w).is k u=true:=by
 obtain ⟨t,rfl⟩:=r
 simp [PySem.strKind,Value.isStrOf]
section
variable {X:Cx} {pins:List (Addr × Obj)} {σ:St} {H:Hp} {s:Shared} {a:Addr} {A:Around} {E:Value→Shared→Prop} {kvs:List (Str × V)} {ep:Nat}
theorem rX (I:Inv X pins σ H s) (e:H a=some (.dE kvs ep)):kvs.length≤sizeLine∧(a == sysModules)=false∧∃vs,hZ RelV kvs vs∧s.heap.DictAt (PySem.strKind X.prog X.w) a vs ep:=I.hok a _ e
theorem rY {h':Heap} {t':Nat} {kvs':List (Str × V)} {vs':List (Str × Value)} (I:Inv X pins σ H s) (e:H a=some (.dE kvs ep)) (hs:Heap.SameBut a s.heap h') (hz:kvs'.length≤sizeLine) (hd:(a == sysModules)=false) (rel:hZ RelV kvs' vs') (dd:h'.DictOf (PySem.strKind X.prog X.w) a vs') :
  ∃ep',Inv X pins σ (upd H a (.dE kvs' ep')) { s with heap:=h',toks:=t' }:=by
 obtain ⟨ep',da⟩:=dd.dictAt
 refine ⟨ep',I.write (x:=a) (e:=a) (by rw [e];exact True.intro) (.inl rfl) (λb q hb z=>(hs.2 b hb).trans z) (let ⟨q,_,_,hq,_⟩:=dd;⟨q,hq⟩) ⟨hz,hd,vs',rel,da⟩⟩
theorem Inv.BR (I:Inv X pins σ H s):sysModules < s.heap.objs.size:=by
 have h:mainGlobals < s.heap.objs.size:=(I.mod.glob.keeps I.bk).lt
 exact Nat.lt_trans (by decide) h
end
def CK:R2:=λx y H Q=>∃a kvs ep k v,x=.ref a∧y=.str k∧H a=some (.dE kvs ep)∧l3 kvs k=some v∧Q v H
def AS (f:Bool→Bool):R2:=λx y H Q=>∃a kvs ep k,x=.str k∧y=.ref a∧H a=some (.dE kvs ep)∧Q (.bl (f (l3 kvs k).isSome)) H
section
variable {X:Cx}
theorem zW:gh X CK:=by
 intro value slice pins s σ H x y v u Q I rx ry q hs
 obtain ⟨a,kvs,ep,k,z,rfl,rfl,hp,hz,q⟩:=q
 cases rx
 obtain ⟨_,hd,vs,rel,da⟩:=rX I hp
 have hT:s.TypeIs (.ref a) "dict":=da.dictOf.typeIs
 obtain ⟨w',hw,rw'⟩:=(rel.va k).1 z hz
 unfold subscriptTail
 refine wpAny_bind ?_
 rw [getitemInPython_of_ne hT.not_modules]
 refine wpAny_bind (wpAny_specialOf hT PySem.F.slot_dict_getitem.lookup ?_)
 have fin:wpAny (model X.prog X.w) X.A (subscripted slice false (.ref a) u) (λr s₃=>wpAny (model X.prog X.w) X.A (letTemporaryGo value (.ref a) r >>= λ_=>pure r) (EP X pins σ Q) X.xe s₃) X.xe s:=by
  rw [hs]
  exact wpAny_operating (wpAny_getItem_of (str_is ry) da.dictOf.mapOf hw (wpAny_bind (wpAny_letTemporaryGo (wpAny_pure ⟨z,H,I.tok _,rw',q⟩))))
 first
  | exact wpAny_pure (wpAny_bind fin)
  | exact wpAny_bind (wpAny_pure (wpAny_bind fin))
  | exact wpAny_bind fin
theorem qS:cn X (compareOp .NotIn) (AS not):=by
 intro pins s σ H x y v u Q I rx ry ⟨a,kvs,ep,k,ex,ey,hp,q⟩
 subst ex ey
 cases ry
 obtain ⟨_,hd,vs,rel,da⟩:=rX I hp
 refine wpAny_notIn_of (str_is rx) hd da.dictOf.mapOf ?_
 exact ⟨.bl _,H,I.tok _,by rw [rg,← (rel.va k).2];rfl,q⟩
end
end L2
namespace Ov
open PySem PySem.Spec PyProof.Rows L2
section
variable {prog:Program} {w:World} {A:Around} {R:Result→Shared→Prop} {s:Shared}
end
section
variable {X:Cx}
end
end Ov
namespace Ov
open PySem PySem.Spec PyProof.Rows
open L2 (V HO Hp Inv Cx VK XK TE TT TA TS TG jW TI TO dA Ends jc Loc Gl Rd RelV Vals cn jb aZ gh h8 hU dQ R2 upd aq aB bO dz Sp g_ It aN bf bj Passes ka bS Meth Mk Binds aM cu ax bN b9 fI l3 wM wu hZ)
section
variable {K:PySem.W.Frag} {J:Hq} {H:Hp}
theorem jG:∀{kvs:List (Str × PV)} {gs:List (Str × V)},iI K J H kvs gs→hZ (bK K J H) kvs gs
 | [],[],_=>.nil
 | [],_ :: _,h=>by cases h.1
 | _ :: _,[],h=>by cases h.1
 | (k,y) :: fs,(k',w) :: gs,h=>by
  obtain ⟨h1,v',us,h2,h3,h4⟩:=h
  simp only [D_,List.cons.injEq] at h1 h2
  obtain ⟨rfl,h1⟩:=h1
  obtain ⟨rfl,rfl⟩:=h2
  exact .cons ⟨rfl,h3⟩ (jG ⟨h1,h4⟩)
end
def yK:iH:=λx y J Q=>wB x λa=>nk y λk=>Ap (J a) λkvs _=>mL (l3 kvs k) λv=>Q v J
def vH (f:Bool→Bool):iH:=λx y J Q=>nk x λk=>wB y λa=>Ap (J a) λkvs _=>Q (.bl (f (l3 kvs k).isSome)) J
section
variable {X:Cx} {G:G2}
theorem xW:Bz X yK:=⟨_,L2.zW,λJ H x y v w Q2 Q rx ry r h kn=>by
 obtain ⟨a,ex,h⟩:=nR h;obtain ⟨k,ey,h⟩:=cO h;obtain ⟨kvs,ep,ja,h⟩:=sX h;obtain ⟨z,hz,q⟩:=eo h
 subst ex ey
 cases rx;cases ry
 obtain ⟨gs,h1,h2⟩:=r _ _ ja
 obtain ⟨u,hu,ru⟩:=((jG h2).va k).1 z hz
 exact ⟨a,gs,ep,k,u,rfl,rfl,h1,hu,kn z J u H ru r .refl q⟩⟩
theorem yh (f:Bool→Bool):LR X.K (L2.AS f) (vH f):=λJ H x y v w Q2 Q rx ry r h kn=>by
 obtain ⟨k,ex,h⟩:=cO h;obtain ⟨a,ey,h⟩:=nR h;obtain ⟨kvs,ep,ja,q⟩:=sX h
 subst ex ey
 cases rx;cases ry
 obtain ⟨gs,h1,h2⟩:=r _ _ ja
 exact ⟨a,gs,ep,k,rfl,rfl,h1,by rw [← ((jG h2).va k).2];exact kn (.bl _) J _ H rfl r .refl q⟩
theorem vt:j1 X (compareOp .NotIn) (vH not):=⟨_,L2.qS,yh not⟩
variable {kx vx iter cnd:Expr} {x y:Str} {px py:Pos} {sc:Scope} {pos spos:Pos} {wi:l4} {tk te:bQ} {tc:iO} {i:Nat}
end
def oy (tabs:List Addr):d8:=λxs J Q _=>∃ns:List Int,xs=[.fl (ns.map .int)]∧ns.length≤63∧(∀T∈tabs,J T=some .tab)∧(∀a,a ∉ tabs→J a=none)∧∀J',(∀T∈tabs,J' T=some .tab)→Q (.bl true) J'
def uc (tabs:List Addr) (K:PySem.W.Frag):Sp:=λvs H Q _=>∃(a:Addr) (ns:List Int),vs=[.ref a]∧bO K H a (ns.map V.int)∧ns.length≤63∧(∀T∈tabs,H T=some (.ext (b8 T))) ∧
 (∀b,H b≠none→b=a∨b∈tabs)∧(∀u,H a=some u→∃o xs,u=.ky o (.lst xs))∧∀H',aN H H'→Q (.bl true) H'
theorem qA {P:Program} {w:World} {K:PySem.W.Frag} {mg:Str→Option Value} {base:Heap} {k:Nat} {f:Addr} {fd:FuncData} {ps:List Str} {tabs:List Addr} (F:aM P w K mg base (cU P w) k f fd ps (hE K (oy tabs))) :
  aM P w K mg base L2.kQ k f fd ps (uc tabs K) :=
 F.Bw.imp λvs H Q E ⟨a,ns,e,hS,hl,hT,hA,hK,q⟩=>by
  subst e
  classical
  have na:∀u,H a=some u→a ∉ tabs:=λu hu hm=>by
   obtain ⟨o,xs,rfl⟩:=hK u hu
   rw [hT a hm] at hu;cases hu
  refine ⟨[.fl (ns.map .int)],λb=>if b∈tabs then some .tab else none,λx J'=>x=.bl true∧∀T∈tabs,J' T=some .tab,λ_ _=>False,⟨.ref a,[],rfl,⟨a,ns.map V.int,rfl,?_,iu ns⟩,rfl⟩,?_,⟨ns,rfl,hl,λT hT=>if_pos hT,λb hb=>if_neg hb,λJ' h=>⟨rfl,h⟩⟩,?_,?_⟩
  ·rcases hS with h | h
   ·refine .inl ⟨?_,h⟩
    have:a ∉ tabs:=by
     rcases h with h | ⟨o,h⟩
     ·exact na _ h
     ·exact na _ h
    exact if_neg this
   ·exact .inr h
  ·intro b o z
   by_cases hb:b∈tabs
   ·have z':=(if_pos hb).symm.trans z
    cases z'
    exact hT b hb
   ·have z':=(if_neg hb).symm.trans z
    cases z'
  ·rintro z J' u H' rz rr ee ⟨rfl,ht⟩
   cases rz
   refine q H' λb o hb=>?_
   rcases hA b (by rw [hb];simp) with rfl | hm
   ·obtain ⟨ob,xs,rfl⟩:=hK o hb
    exact (ee.ll b _ (if_neg (na _ hb)) hb (.inr ⟨_,_,rfl⟩)).2
   ·have:=hT b hm
    rw [hb] at this;cases this
    exact rr b _ (ht b hm)
  ·intro _ _ _ _ _ z;exact z.elim
end Ov
namespace L2
open PySem PySem.Spec PyProof.Rows
section
variable {X:Cx}
end
end L2
namespace Ov
open PySem PySem.Spec PyProof.Rows
open L2 (V HO Hp Inv Cx VK XK TE TT TA TS TG jW TI TO dA Ends jc Loc Gl Rd RelV Vals cn jb aZ gh h8 hU dQ R2 upd aq aB bO dz Sp g_ It aN bf bj Passes ka bS Meth Mk Binds aM cu ax bN b9 fI)
section
variable {X:Cx} {G:G2}
variable {a b c:Expr} {ta tb tc:bQ} {pos:Pos}
end
end Ov
namespace L2
open PySem PySem.Spec PyProof.Rows
section
variable {X:Cx}
end
end L2
namespace Ov
open PySem PySem.Spec PyProof.Rows
open L2 (V HO Hp Inv Cx VK XK TE TT TA TS TG jW TI TO dA Ends jc Loc Gl Rd RelV Vals cn jb aZ gh h8 hU dQ R2 upd aq aB bO dz Sp g_ It aN bf bj Passes ka bS Meth Mk Binds aM cu ax bN b9 fI)
section
variable {X:Cx} {G:G2}
end
theorem tX {v v':V} {u:Value} (h:RelV v u) (k:RelV v' u):v=v':=by
 cases v <;> cases v' <;> simp only [L2.RelV] at h k <;> (first | (obtain ⟨t,rfl⟩:=h) | subst h) <;> (first | (obtain ⟨t',e⟩:=k;cases e;rfl) | (obtain ⟨t',e⟩:=k;cases e) | (cases k;rfl) | cases k)
section
variable {X:Cx} {pins:List (Addr × Obj)} {σ:L2.St} {H:Hp} {s:Shared}
open Classical in
def eT (K:PySem.W.Frag) (H:Hp) (zs:List Py) (y:Py) (u:Value):Bool:=decide (∃z∈zs,∃v,RelV v u∧At K H z v∧c_ z y=true)
theorem zO (I:Inv X pins σ H s) {zs:List Py} {y z:Py} {v:V} {u:Value} (hz:z∈zs) (hc:∀z∈zs,∀z'∈zs,c_ z z'=true→c_ z y=c_ z' y) (h:At X.K H z v) (r:RelV v u):eT X.K H zs y u=c_ z y:=by
 unfold eT
 classical
 cases e:c_ z y with
 | true=>exact decide_eq_true ⟨z,hz,v,r,h,e⟩
 | false =>
  refine decide_eq_false ?_
  rintro ⟨z',hz',v',r',h',e'⟩
  cases tX r r'
  have:=hc z' hz' z hz (At.one I h' h)
  rw [e',e] at this;cases this
theorem nz (I:Inv X pins σ H s) {y:Py} {v':V} {u':Value} {A:Around} (k:At X.K H y v') (r':RelV v' u') (zs₀:List Py) (hc:∀z∈zs₀,∀z'∈zs₀,c_ z z'=true→c_ z y=c_ z' y) :
  ∀{zs:List Py} {vs:List V} {us:List Value},(∀z∈zs,z∈zs₀)→i6 X.K H zs vs→Vals vs us→(∀z∈zs,A.units + dep z < cLine)→(∀u∈us,SeqAt.EqAt A s u u' (eT X.K H zs₀ y u))∧us.any (eT X.K H zs₀ y)=zs.any λz=>c_ z y
 | [],_,_,_,h,r,_=>by
  cases h
  cases r
  exact ⟨λu hu=>(by cases hu),rfl⟩
 | z :: zs,_,_,hs,⟨v,ws,e,h,hh⟩,r,hd=>by
  subst e
  cases r with
  | cons r1 r2 =>
   have ih:=nz I k r' zs₀ hc (zs:=zs) (λz hz=>hs z (D8 _ hz)) hh r2 (λz hz=>hd z (D8 _ hz))
   have e1:=zO I (hs z (by simp)) hc h r1
   refine ⟨λu hu=>?_,?_⟩
   ·rcases D6.mp hu with rfl | hu
    ·rw [e1];exact zP I z y h k r1 r' (hd z (by simp))
    ·exact ih.1 u hu
   ·rw [Fh,Fh,e1,ih.2]
def CJ (K:PySem.W.Frag):R2:=λv v' H Q=>∃(p:Addr) (vs:List V) (zs:List Py) (y:Py),v'=.ref p∧(bO K H p vs∨dz K H p vs)∧i6 K H zs vs∧At K H y v∧(∀z∈zs,dep z≤60)∧(∀z∈zs,∀z'∈zs,c_ z z'=true→c_ z y=c_ z' y)∧Q (.bl (zs.any λz=>c_ z y)) H
theorem yv (hu:X.A.units + 61 < cLine):cn X (compareOp .In) (CJ X.K):=by
 intro pins s σ H x y v u Q I rx ry h
 obtain ⟨p,vs,zs,py,rfl,hq,ha,hy,hd,hc,q⟩:=h
 cases ry
 rcases hq with hq | hq
 ·obtain ⟨aQ,r,pl,hz⟩:=I.list hq
  obtain ⟨h1,h2⟩:=nz (A:=X.A.in1) I hy rx zs hc (λ_ h=>h) ha r (λz hz=>by have:=hd z hz;show X.A.units + 1 + dep z < cLine;omega)
  refine SeqAt.in_listAt (eT X.K H zs py) pl.isList (λw hw=>h1 w (by simpa using hw)) ⟨.bl _,H,I,rfl,?_⟩
  rw [show aQ.toArray.any (eT X.K H zs py)=aQ.any (eT X.K H zs py) by simp,h2]
  exact q
 ·obtain ⟨aQ,r,pl,hz⟩:=I.tuple hq
  obtain ⟨h1,h2⟩:=nz (A:=X.A.in1) I hy rx zs hc (λ_ h=>h) ha r (λz hz=>by have:=hd z hz;show X.A.units + 1 + dep z < cLine;omega)
  refine SeqAt.in_tupleAt (eT X.K H zs py) pl (λw hw=>h1 w (by simpa using hw)) ⟨.bl _,H,I,rfl,?_⟩
  rw [show aQ.toArray.any (eT X.K H zs py)=aQ.any (eT X.K H zs py) by simp,h2]
  exact q
end
theorem ft:∀{xs:List PV} {z:Py},z∈cb xs→∃x∈xs,z=bZ x
 | [],_,h=>by cases h
 | x :: xs,z,h=>by
  rcases D6.mp h with rfl | h
  ·exact ⟨x,by simp,rfl⟩
  ·obtain ⟨y,hy,e⟩:=ft h;exact ⟨y,D8 _ hy,e⟩
theorem ki (f:Py→Bool):∀xs:List PV,(cb xs).any f=xs.any λx=>f (bZ x)
 | []=>rfl
 | x :: xs=>by show (f (bZ x) || (cb xs).any f)=_;rw [ki f xs];rfl
section
variable {X:Cx} {G:G2}
def AJ:iH:=λx y J Q=>fY x=true∧∃ys,BI J y=some ys∧dT ys=true∧(∀z∈ys,dep (bZ z)≤60)∧(∀z∈ys,∀z'∈ys,eqQ z z'=true→eqQ z x=eqQ z' x)∧Q (.bl (ys.any λz=>eqQ z x)) J
theorem yz (hu:X.A.units + 61 < cLine):j1 X (compareOp .In) AJ:=⟨_,yv hu,λJ H x y v w Q2 Q rx ry r ⟨px,ys,hy,pys,hd,hc,q⟩ k=>by
 obtain ⟨p,vs,rfl,hq,h2⟩:=y2 hy ry r
 refine ⟨p,vs,cb ys,bZ x,rfl,hq,gx pys h2,iP px rx,λz hz=>?_,λz hz z' hz'=>?_,k (.bl _) J _ H ?_ r .refl q⟩
 ·obtain ⟨a,ha,rfl⟩:=ft hz;exact hd a ha
 ·obtain ⟨a,ha,rfl⟩:=ft hz;obtain ⟨b,hb,rfl⟩:=ft hz';exact hc a ha b hb
 ·rw [ki];rfl⟩
end
end Ov
namespace Ov
open PySem
inductive aA where
 | join (n:Str) (p v:Int)
 | turn (n:Str) (v:Int)
 | leave (n:Str)
 | about
 | watch (m:Str) (ns:List Str)
 | unwatch (m:Str)
 | go (q:Rat)
def bH (x:Str) (ys:List Str):Str:=ys.foldl (λacc y=>acc ++ (" ":Str) ++ y) x
theorem mB (x:Str) (ys:List Str):Txt.join (" ":Str) (x :: ys)=bH x ys:=by
 have key:∀(ys:List Str) (x:Str),(⟨ys.foldl (λacc (p:Str)=>acc ++ (" ":Str).cps ++ p.cps) x.cps⟩:Str)=bH x ys:=by
  intro ys
  induction ys with
  | nil=>intro x;rfl
  | cons y ys ih=>intro x;exact ih (x ++ (" ":Str) ++ y)
 exact key ys x
theorem iF (x:Str) (ys:List Str) (y:Str):bH x (ys ++ [y])=bH x ys ++ (" ":Str) ++ y:=by
 unfold bH;rw [List.foldl_append];rfl
theorem aX (a b:Str):(a ++ b).length=a.length + b.length:=by
 show (a.cps ++ b.cps).size=_
 rw [Array.size_append];rfl
theorem eD:(" ":Str).length=1:=by decide +kernel
theorem f' {x:Str} {ys:List Str} {n:Nat} (hx:x.length≤n) (hy:∀y∈ys,y.length≤n):(bH x ys).length≤n + ys.length * (n + 1):=by
 induction ys generalizing x with
 | nil=>simpa [bH] using hx
 | cons y ys ih =>
  have key:∀(zs:List Str) (x:Str),(∀y∈zs,y.length≤n)→(bH x zs).length≤x.length + zs.length * (n + 1):=by
   intro zs
   induction zs with
   | nil=>intro x _;simp [bH]
   | cons z zs ih =>
    intro x hz
    have h1:=ih (x ++ (" ":Str) ++ z) (λy h=>hz y (D8 _ h))
    have h2:=hz z Ep
    rw [aX,aX,eD] at h1
    show (bH (x ++ (" ":Str) ++ z) zs).length≤_
    rw [Ee,Nat.succ_mul]
    omega
  have:=key (y :: ys) x hy
  omega
def txt (i:Int):Str:=Str.ofString (toString i)
theorem fF {i:Int} (h:i.natAbs < 10 ^ 13):(txt i).length≤30:=by
 have e:=int_text_length_le10 (k:=13) (by decide) h
 unfold txt
 rw [ofString_length];omega
theorem lp {i:Int} (h:i.natAbs < 10 ^ 13):i.natAbs.log2 < 1920:=by
 by_cases e:i.natAbs=0
 ·rw [e];decide
 ·exact (Nat.log2_lt e).mpr (D4 h (by
   have:(10:Nat) ^ 13≤2 ^ 44:=by decide
   exact D1 this (E5 (by decide) (by decide))))
def aA.head:aA→Str
 | .join ..=>"join" | .turn ..=>"turn" | .leave ..=>"leave" | .about=>"about" | .watch ..=>"watch" | .unwatch ..=>"unwatch" | .go ..=>"go"
def aA.rest:aA→List Str
 | .join n p v=>[n,txt p,txt v]
 | .turn n v=>[n,txt v]
 | .leave n=>[n]
 | .about=>[]
 | .watch m ns=>m :: ns
 | .unwatch m=>[m]
 | .go _=>[]
def aA.line:aA→Str
 | .go q=>("go ":Str) ++ txt q.num ++ ("/":Str) ++ txt q.den
 | d=>bH d.head d.rest
structure aA.Ok (d:aA):Prop where
 ws:∀y∈d.rest,y.length≤30
 len:d.rest.length≤20
 nums:match d with
  | .join _ p v=>p.natAbs < 10 ^ 13∧v.natAbs < 10 ^ 13
  | .turn _ v=>v.natAbs < 10 ^ 13
  | .go q=>q.num.natAbs < 10 ^ 13∧q.den < 10 ^ 13
  | _=>True
end Ov
namespace L2
open PySem PySem.Spec PyProof.Rows PySem.Builtin PySem.Builtin.Str
section
variable {X:Cx}
theorem y1:h8 X (λx lo hi H Q=>∃y,x=.str y∧y.length≤sizeLine∧Q (.str (Txt.slice y lo hi)) H):=by
 intro pins s σ H x v vl vu lo hi sl Q I rx hs pl pu h
 obtain ⟨y,rfl,hy,q⟩:=h
 obtain ⟨t,rfl⟩:=rx
 have go:∀l u:Option (Int × Tok),vl=partValue l→vu=partValue u→lo=l.map (·.1)→hi=u.map (·.1)→wpAny (model X.prog X.w) X.A (getItem (.str y t) (.ref sl)) (EP X pins σ Q) X.xe s:=λl u e1 e2 e3 e4=>by
  subst e3 e4
  refine wpAny_getItem_str_slice (l:=l) (u:=u) (st:=none) (by obtain ⟨o,h1,h2,h3⟩:=hs;exact ⟨o,h1,h2,by rw [h3,e1,e2];rfl⟩) rfl (post_val_or_str ⟨D1 (Txt.slice_le y _ _) hy,λt' k=>?_⟩)
  exact ⟨.str _,H,I.tok _,⟨_,rfl⟩,q⟩
 refine ⟨"str",_,F.slot_str_getitem.lookup,typeIs_str _ _ _,?_⟩
 cases pl with
 | none=>cases pu with
  | none=>exact go none none rfl rfl rfl rfl
  | int j tj=>exact go none (some (j,tj)) rfl rfl rfl rfl
 | int i ti=>cases pu with
  | none=>exact go (some (i,ti)) none rfl rfl rfl rfl
  | int j tj=>exact go (some (i,ti)) (some (j,tj)) rfl rfl rfl rfl
theorem split_len (x y:Str):(Txt.split x y).length≤x.length + 2:=by
 unfold Txt.split
 split
 ·simp
 ·split
  ·simp
  ·have e1:=StrLaws.occ_length_le x y 0 x.length (x.length + 1)
   rw [length_partsBetween];omega
theorem kP:∀l:List (Str × Tok),Vals ((l.map (·.1)).map V.str) (strValues l)
 | []=>.nil
 | p :: r=>.cons ⟨p.2,rfl⟩ (kP r)
theorem sQ:hU X "str.split" (λx vs H Q=>∃y z,x=.str y∧vs=[.str z]∧(z.length == 0)=false∧y.length + 2≤sizeLine∧∀p,H p=none→Q (.ref p) (upd H p (.lst ((Txt.split y z).map V.str)))):=by
 intro pins s σ H x vs v us Q I rx rv h
 obtain ⟨y,z,rfl,rfl,hz,hl,q⟩:=h
 obtain ⟨t,rfl⟩:=rx
 obtain ⟨u,rfl,tu,rfl⟩:=vals1 rv
 have fin:∀(l:List (Str × Tok)) k,l.map (·.1)=Txt.split y z→EP X pins σ Q (.ref s.heap.objs.size) { s with toks:=k,heap:=s.heap.push { cls:=.type "list",data:=.seq (strValues l).toArray } }:=λl k e=>by
  refine ⟨.ref _,_,I.laid (t':=k) (o:=.lst ((Txt.split y z).map .str)) (λb ob q=>Heap.get?_push_of_some _ q) (D5 _) ⟨?_,_,0,?_,Heap.get?_push_size _ rfl⟩,rfl,q _ (I.hok.fresh (D5 _))⟩
  ·rw [D0];exact D1 (split_len y z) hl
  ·rw [← e];exact kP l
 have hn:(partsBetween y (occurrences y z 0 y.length (y.length + 1)) z.length).length≤sizeLine:=by
  have e1:=StrLaws.occ_length_le y z 0 y.length (y.length + 1)
  rw [length_partsBetween];omega
 cases h1:(decide (y.length < z.length) || decide (strKind y < strKind z))
 ·cases hf:(occurrences y z 0 y.length (y.length + 1)).isEmpty
  ·refine call_meets F.slot_str_split (typeIs_str _ _ _) F.entry_str_split (F.args_str_split_2 _ _) (meets_str_split_sep y z t tu h1 hz hf (by omega) hn) ?_
   show wants _ _ _ { s with toks:=_,heap:=s.heap.push { cls:=.type "list",data:=.seq (strsFrom s.toks (partsBetween y (occurrences y z 0 y.length (y.length + 1)) z.length)).toArray } }
   rw [strsFrom_eq]
   exact fin (numbered s.toks _) _ ((numbered_texts _ _).trans ((if_neg (ne_true_of_eq_false h1)).trans (if_neg (ne_true_of_eq_false hf))).symm)
  ·exact call_meets F.slot_str_split (typeIs_str _ _ _) F.entry_str_split (F.args_str_split_2 _ _) (meets_str_split_not_found y z t tu h1 hz hf) (fin [(y,t)] s.toks ((if_neg (ne_true_of_eq_false h1)).trans (if_pos hf)).symm)
 ·exact call_meets F.slot_str_split (typeIs_str _ _ _) F.entry_str_split (F.args_str_split_2 _ _) (meets_str_split_cannot_occur y z t tu h1) (fin [(y,t)] s.toks (if_pos h1).symm)
theorem qH:hU X "str.startswith" (λx vs H Q=>∃y z,x=.str y∧vs=[.str z]∧Q (.bl (Txt.startswith y z)) H):=by
 intro pins s σ H x vs v us Q I rx rv h
 obtain ⟨y,z,rfl,rfl,q⟩:=h
 obtain ⟨t,rfl⟩:=rx
 obtain ⟨u,rfl,tu,rfl⟩:=vals1 rv
 exact SC.startswith ⟨.bl _,H,I,rfl,q⟩
theorem qp:aZ X (.type "int") (λxs H Q=>∃y n,xs=[.str y]∧PySem.intText? y=some n∧y.length≤640∧Q (.int n) H):=by
 intro pins s σ H xs us Q I r h
 obtain ⟨y,n,rfl,hn,hl,q⟩:=h
 obtain ⟨u,rfl,t,rfl⟩:=vals1 r
 exact PySem.W.KIN.call_text hn hl ⟨.int n,H,I.tok _,⟨_,rfl⟩,q⟩
end
end L2
namespace Ov
open PySem PySem.Spec PyProof.Rows
open L2 (V HO Hp Inv Cx VK XK TE TT TA TS TG jW TI TO dA Ends jc Loc Gl Rd RelV Vals cn jb aZ gh h8 hU dQ R2 upd aq aB bO dz Sp g_ It aN bf bj Passes ka bS Meth Mk Binds aM cu ax bN b9 fI)
section
variable {X:Cx} {G:G2}
def oa:nu:=λx lo hi J Q=>nk x λy=>y.length≤sizeLine∧Q (.str (Txt.slice y lo hi)) J
theorem dw:BO X oa:=⟨_,L2.y1,λJ H x lo hi v Q2 Q rx r h k=>by
 obtain ⟨y,ex,hl,q⟩:=cO h
 subst ex;cases rx
 exact ⟨y,rfl,hl,k (.str _) J _ H rfl r .refl q⟩⟩
def mP:nj:=λxs J Q=>qQ xs λx=>nk x λy=>y.length≤sizeLine∧Q (.int y.length) J
theorem fo:uv X (.builtin "len") mP:=⟨_,L2.eg,λJ H xs vs Q2 Q rs r h k=>by
 obtain ⟨x,ex,h⟩:=eV h;obtain ⟨y,ey,hl,q⟩:=cO h
 subst ex ey;obtain ⟨v,us,rfl,rv,e⟩:=rs;cases e;cases rv
 exact ⟨y,rfl,hl,k (.int _) J _ H rfl r .refl q⟩⟩
def iq:rM:=λx xs J Q=>nk x λy=>qQ xs λw=>nk w λz=>(z.length == 0)=false∧y.length + 2≤sizeLine∧Q (.fl ((Txt.split y z).map .str)) J
theorem eU:zC X "str" "str.split" iq:=⟨_,L2.sQ,λJ H x xs v vs Q2 Q rx rs r h k=>by
 obtain ⟨y,ex,h⟩:=cO h;obtain ⟨w,exs,h⟩:=eV h;obtain ⟨z,ez,hz,hl,q⟩:=cO h
 subst ex exs ez;cases rx;obtain ⟨w,us,rfl,rw',e⟩:=rs;cases e;cases rw'
 refine ⟨y,z,rfl,rfl,hz,hl,λp hp=>?_⟩
 have rs:aC X.K J H ((Txt.split y z).map PV.str) ((Txt.split y z).map V.str):=by
  generalize Txt.split y z=l
  induction l with
  | nil=>rfl
  | cons a l ih=>exact ⟨_,_,rfl,rfl,ih⟩
 obtain ⟨x1,x2,x3⟩:=jy r rs hp
 exact k _ J _ _ x1 x2 x3 q⟩
def pO:rM:=λx xs J Q=>nk x λy=>qQ xs λw=>nk w λz=>Q (.bl (Txt.startswith y z)) J
theorem j7:zC X "str" "str.startswith" pO:=⟨_,L2.qH,λJ H x xs v vs Q2 Q rx rs r h k=>by
 obtain ⟨y,ex,h⟩:=cO h;obtain ⟨w,exs,h⟩:=eV h;obtain ⟨z,ez,q⟩:=cO h
 subst ex exs ez;cases rx;obtain ⟨w,us,rfl,rw',e⟩:=rs;cases e;cases rw'
 exact ⟨y,z,rfl,rfl,k (.bl _) J _ H rfl r .refl q⟩⟩
def tO:nj:=λxs J Q=>qQ xs λx=>nk x λy=>mL (PySem.intText? y) λn=>y.length≤640∧Q (.int n) J
theorem oQ:uv X (.type "int") tO:=⟨_,L2.qp,λJ H xs vs Q2 Q rs r h k=>by
 obtain ⟨x,ex,h⟩:=eV h;obtain ⟨y,ey,h⟩:=cO h;obtain ⟨n,en,hl,q⟩:=eo h
 subst ex ey;obtain ⟨v,us,rfl,rv,e⟩:=rs;cases e;cases rv
 exact ⟨y,n,rfl,en,hl,k (.int _) J _ H rfl r .refl q⟩⟩
def tS (P:Addr) (tx:Str) (ti:bQ):bQ:=λτ J Q=>ti τ J λx J1=>nk x λy=>J1 P=some .tab∧Q (.bl (y.cps.toList.all (aY tx))) J1
theorem tV {c P:Addr} {x g:Str} {p px p1 p2 p3 gpos cpos:Pos} {iter:Expr} {ti:bQ} {scope:Scope} {tx:Str} {tt:Tok} {k:Nat} (hcalm:X.calm=true) (Bm:BMain X.mg X.base) (hcode:X.env.code=.ref c) (Z:i9 X.K c P) (hr:bj k X.A)
  (hgl:Gl X "all") (hma:X.mg "all"=none) (hsg:X.mg g=some (.str tx tt)) (hi:RE X G iter ti) (sck:scope.kind=.function:=by rfl) (hco:scope.isCoroutine=false:=by rfl) (hclos:closureFor scope X.env=pure []:=by rfl) (hcell:∀y∈scope.names,y.2≠.cell:=by decide)
  (h0:scope.names.lookup (".0":Str)=some NameKind.local:=by rfl) (hx:scope.names.lookup x=some .local:=by rfl) (hsc:scope.names.lookup g=some .globalImplicit:=by rfl) (hmk:behindInMarks .In (.Name g p2)=false:=by with_unfolding_all rfl) (hs:∀x,genFold iter X.env x=pure x:=by intro _;rfl)
  (hst:starEach [.GeneratorExp (.Compare (.Name x p1) [.In] [.Name g p2] p3) [⟨.Name x px,iter,[],0⟩] scope gpos] X.env=[(false,eval (.GeneratorExp (.Compare (.Name x p1) [.In] [.Name g p2] p3) [⟨.Name x px,iter,[],0⟩] scope gpos) X.env)]:=by rfl)
  (hdx:(x == ("__debug__":Str))=false:=by decide) (hdg:(g == ("__debug__":Str))=false:=by decide) :
  RE X G (.Call (.Name "all" p) [.GeneratorExp (.Compare (.Name x p1) [.In] [.Name g p2] p3) [⟨.Name x px,iter,[],0⟩] scope gpos] [] cpos) (tS P tx ti) :=
 ⟨iD (kD hcalm Bm hcode Z (by have:=hr.dp;omega) hgl hma hsg hi.run sck hco hclos hcell h0 hx hsc hmk hs hst hdx hdg) λσ H Q ⟨τ,J,Q2,a2,h,k⟩=>⟨τ,J,_,a2,h,λx J1 v H1 rx r1 e1 hh=>by
  obtain ⟨y,ex,hP,q⟩:=cO hh
  subst ex;cases rx
  exact ⟨y,rfl,r1 _ _ hP,k (.bl _) J1 _ H1 rfl r1 e1 q⟩⟩⟩
end
section
variable {P:Program} {w:World} {K:PySem.W.Frag} {mg:Str→Option Value} {base:Heap}
theorem Co {x:Str} {st:Stmt} {T f c:Addr} {fd:FuncData} {N ps:List Str} {k:Nat} {sp:d8} (F:nr K mg x st T f fd c) (S:ax N ps (L2.aj st)) (len:∀xs J Q E,sp xs J Q E→xs.length=ps.length)
  (hbody:∀(A:Around) (outer:List Env) (s:Shared) (H:Hp) (E:XK) (G:G2) (xs:List PV) (J:Hq) (Q:PV→Hq→Prop) (E2:Addr→Hq→Prop),bj k (A.deeper (envOfC x (L2.aj st) s.heap.objs.size f (.ref c)))→sp xs J Q E2 →
   uA (l5 P w K mg base N x (L2.aj st) f (.ref c) A outer s H E) G E2 E →
   ∃t,RB (l5 P w K mg base N x (L2.aj st) f (.ref c) A outer s H E) G (L2.bg st) t∧t { nx:=λ_ J'=>Q .non J',rt:=Q } (jS N xs) J):aM P w K mg base (cU P w) (k + 1) f fd ps (hE K sp):=by
 obtain ⟨oc,od,kV,doc,pm,an,cdv,ct,osl,rfl,lk,hcd⟩:=F.fn.ex
 obtain rfl:cdv=.ref c:=F.code
 refine L2.o5 lk hcd S (λvs H Q E ⟨xs,J,Q2,E2,a,_,b,_⟩=>by rw [← a.length];exact len _ _ _ _ b) λA outer s H vs Q E hr ⟨xs,J,Q2,E2,rs,rr,hs,kn,ke⟩=>?_
 obtain ⟨t,hb,q⟩:=hbody A outer s H E (J,H) xs J Q2 E2 hr hs ⟨jh,ke⟩
 refine ⟨_,hb.run,jS N xs,J,_,⟨m9 rs,rr,.refl⟩,q,?_⟩
 exact { nx:=λτ J' σ H' _ r e q=>kn .non J' .non H' rfl r e q,rt:=λx J' v H' rx r e q=>kn x J' v H' rx r e q,bk:=λ_ _ _ _ _ _ _ q=>q.elim,ct:=λ_ _ _ _ _ _ _ q=>q.elim }
theorem i_.eP {x:Str} {st:Stmt} {T:Addr} {k:Nat} {ps:List Str} {sp:d8} (D:i_ K mg x st T)
  (h:∀f fd c,nr K mg x st T f fd c→aM P w K mg base (cU P w) k f fd ps (hE K sp))
  (hb:∀(kV doc pm:Value) (an:Option Addr) (cdv ct:Value) (us:List Value),us.length=ps.length→bindArgs (PySem.W.fnOf x x (L2.bW st) (L2.bg st) (L2.aj st) .none kV doc pm an cdv ct) ⟨us,[]⟩=pure (ps.zip us)) :
  bB P w K mg base k x ps sp:=by
 obtain ⟨f,fd,c,F⟩:=D
 exact ⟨f,fd,h f fd c F,F.fn.binds hb,F.fn.kp,F.mg⟩
end
end Ov
namespace Ov
open PySem PySem.StrLaws PySem.NumText PyProof.Rows
theorem vV (tx:Str) (c:Nat):aY tx c=decide (c∈tx.cps.toList):=found_one tx c
theorem uR (c:Nat):aY "0123456789" c=true↔48≤c∧c≤57:=by
 rw [vV,show ("0123456789":Str).cps.toList=[48,49,50,51,52,53,54,55,56,57] by decide +kernel,decide_eq_true_eq]
 simp only [D6,Ei,or_false]
 omega
theorem ml {c:Nat}:∀{p q t u:List Nat},c ∉ p→c ∉ q→(t=[]∨∃t',t=c :: t')→(u=[]∨∃u',u=c :: u')→p ++ t=q ++ u→p=q∧t=u
 | [],[],_,_,_,_,_,_,e=>⟨rfl,e⟩
 | [],y :: q,t,u,_,hq,ht,_,e=>by
  rcases ht with rfl | ⟨t',rfl⟩
  ·cases e
  ·injection e with e1 _;subst e1;exact absurd Ep hq
 | x :: p,[],t,u,hp,_,_,hu,e=>by
  rcases hu with rfl | ⟨t',rfl⟩
  ·cases e
  ·injection e with e1 _;subst e1;exact absurd Ep hp
 | x :: p,y :: q,t,u,hp,hq,ht,hu,e=>by
  injection e with e1 e2
  obtain ⟨h1,h2⟩:=ml (λh=>hp (D8 _ h)) (λh=>hq (D8 _ h)) ht hu e2
  exact ⟨by rw [e1,h1],h2⟩
def jl (c:Nat):List (List Nat)→List Nat
 | []=>[]
 | [p]=>p
 | p :: q :: r=>p ++ c :: jl c (q :: r)
theorem pf (c:Nat) (p:List Nat) (r:List (List Nat)):∃t,jl c (p :: r)=p ++ t∧((t=[]∧r=[])∨∃q s,r=q :: s∧t=c :: jl c r):=by
 cases r with
 | nil=>exact ⟨[],(EY p).symm,.inl ⟨rfl,rfl⟩⟩
 | cons q s=>exact ⟨_,rfl,.inr ⟨q,s,rfl,rfl⟩⟩
theorem sD (c:Nat):∀ps qs:List (List Nat),ps≠[]→qs≠[]→(∀p∈ps,c ∉ p)→(∀q∈qs,c ∉ q)→jl c ps=jl c qs→ps=qs
 | [],_,h,_,_,_,_=>absurd rfl h
 | _,[],_,h,_,_,_=>absurd rfl h
 | p :: r,q :: s,_,_,hp,hq,e=>by
  obtain ⟨t,et,ht⟩:=pf c p r
  obtain ⟨u,eu,hu⟩:=pf c q s
  rw [et,eu] at e
  obtain ⟨e1,e2⟩:=ml (hp p Ep) (hq q Ep) (ht.imp (λh=>h.1) λ⟨a,b,_,h⟩=>⟨_,h⟩) (hu.imp (λh=>h.1) λ⟨a,b,_,h⟩=>⟨_,h⟩) e
  rcases ht with ⟨t0,r0⟩ | ⟨a,b,rr,t1⟩ <;> rcases hu with ⟨u0,s0⟩ | ⟨a',b',ss,u1⟩
  ·rw [e1,r0,s0]
  ·rw [t0,u1] at e2;cases e2
  ·rw [t1,u0] at e2;cases e2
  ·rw [t1,u1] at e2
   injection e2 with _ e3
   rw [e1,sD c r s (by rw [rr];simp) (by rw [ss];simp) (λx hx=>hp x (D8 _ hx)) (λx hx=>hq x (D8 _ hx)) e3]
theorem lj (c:Nat):∀ps:List Str,(Str.join ⟨#[c]⟩ ps).cps.toList=jl c (ps.map λp=>p.cps.toList)
 | []=>rfl
 | [p]=>rfl
 | p :: q :: r=>by
  have ih:=lj c (q :: r)
  show (p.cps ++ #[c] ++ (Str.join ⟨#[c]⟩ (q :: r)).cps).toList=p.cps.toList ++ c :: jl c ((q :: r).map λp=>p.cps.toList)
  rw [← ih]
  simp
theorem fh (x:Str) (c:Nat):Txt.split x ⟨#[c]⟩≠[]:=by
 unfold Txt.split
 split
 ·simp
 ·split
  ·simp
  ·rw [partsBetween_eq]
   obtain ⟨p,r,e⟩:=partsFrom_ne x (⟨#[c]⟩:Str).length 0 (Builtin.Str.occurrences x ⟨#[c]⟩ 0 x.length (x.length + 1))
   rw [e];simp
theorem map_inj {α β:Type} {f:α→β} (hf:∀a b,f a=f b→a=b):∀{xs ys:List α},xs.map f=ys.map f→xs=ys
 | [],[],_=>rfl
 | [],_ :: _,h=>by cases h
 | _ :: _,[],h=>by cases h
 | x :: xs,y :: ys,h=>by
  rw [D_,D_] at h
  injection h with h1 h2
  rw [hf _ _ h1,map_inj hf h2]
theorem fB {x y:Str} (h:x.cps.toList=y.cps.toList):x=y:=Str.ext' (Array.toList_inj.mp h)
theorem jQ {c:Nat} {x:Str} {ps:List Str} (hne:ps≠[]) (hf:∀p∈ps,c ∉ p.cps.toList) (hx:Str.join ⟨#[c]⟩ ps=x):Txt.split x ⟨#[c]⟩=ps:=by
 have h1:=join_split x ⟨#[c]⟩
 have h2:=split_free x c
 have h3:=fh x c
 generalize Txt.split x ⟨#[c]⟩=qs at h1 h2 h3
 refine map_inj (f:=λp:Str=>p.cps.toList) (λa b=>fB) (sD c _ _ (by simpa using h3) (by simpa using hne) ?_ ?_ ?_)
 ·intro p hp;obtain ⟨s,hs,rfl⟩:=EB.mp hp;exact h2 s hs
 ·intro p hp;obtain ⟨s,hs,rfl⟩:=EB.mp hp;exact hf s hs
 ·rw [← lj,← lj,h1,hx]
def nd (m:Nat):List Nat:=(Nat.toDigits 10 m).map Char.toNat
theorem i4 (m:Nat):(txt (m:Int)).cps.toList=nd m:=PySem.W.KIN.signs_num m
theorem i5 (m:Nat):(txt (Int.negSucc m)).cps.toList=45 :: nd (m + 1):=by
 unfold txt
 rw [signs_ofString]
 show ("-" ++ Nat.repr (m + 1)).toList.map Char.toNat=_
 rw [String.toList_append,El,Nat.toList_repr]
 rfl
theorem cA (m:Nat):AllDigits (nd m):=by
 have h:∀c∈nd m,48≤c∧c≤57:=λc hc=>by
  obtain ⟨ch,hch,e⟩:=EB.mp hc
  have r:=digit_range (Nat.isDigit_of_mem_toDigits (by decide) (by decide) hch)
  rw [← e];exact r
 exact h
theorem sR (m:Nat):nd m≠[]:=by
 intro e
 have h:=toDigits_len_ge 10 m
 rw [List.map_eq_nil_iff.mp e] at h
 exact absurd h (by decide)
theorem lA {m k:Nat} (hk:1≤k) (h:m < 10 ^ k):(nd m).length≤k:=by
 unfold nd;rw [D0];exact toDigits_len_pow (by decide) hk h
theorem qc:∀(cs:List Nat) (acc:Nat),AllDigits cs→cs.foldl (λacc c=>acc * 10 + (c - 48)) acc < (acc + 1) * 10 ^ cs.length
 | [],acc,_=>by simp
 | c :: cs,acc,h=>by
  have h1:=qc cs (acc * 10 + (c - 48)) h.tail
  have h2:=h.head
  rw [Fp,Ee,Nat.pow_succ]
  refine D4 h1 ?_
  rw [Nat.mul_comm (10 ^ cs.length) 10,← Nat.mul_assoc]
  exact EU _ (by omega)
theorem oJ {cs:List Nat} (h:AllDigits cs):digitsVal cs < 10 ^ cs.length:=by
 have:=qc cs 0 h;simpa [digitsVal] using this
theorem len_list (x:Str):x.cps.toList.length=x.length:=Array.length_toList
def aF (y:Str):Str:=if Txt.startswith y "-"=true then Txt.slice y (some 1) none else y
theorem mH:("-":Str)=⟨#[45]⟩:=by decide +kernel
theorem gd (y:Str):Txt.startswith y "-"=true↔∃cs,y.cps.toList=45 :: cs:=by
 rw [mH]
 have h:=subAt_one y 45 0
 unfold Txt.startswith
 rw [Eh,decide_eq_true_eq,h]
 cases y.cps.toList with
 | nil=>simp
 | cons a l=>simp
theorem ou {y:Str} {c:Nat} {cs:List Nat} (h:y.cps.toList=c :: cs):(Txt.slice y (some 1) none).cps.toList=cs:=by
 have e:=sliceText_from (x:=y) (i:=1) ⟨by decide,by rw [h];simp;omega⟩
 show (sliceText y (some 1) none).cps.toList=cs
 rw [e,h]
 simp
theorem gE {y:Str} {cs:List Nat} (h:y.cps.toList=45 :: cs):(aF y).cps.toList=cs:=by
 unfold aF;rw [if_pos ((gd y).mpr ⟨cs,h⟩)];exact ou h
theorem gF {y:Str} (h:∀cs,y.cps.toList≠45 :: cs):aF y=y:=by
 unfold aF;rw [if_neg λz=>?_]
 obtain ⟨cs,e⟩:=(gd y).mp z;exact h cs e
theorem pq (m:Nat) (cs:List Nat):nd m≠45 :: cs:=λe=>by
 have:=cA m 45 (by rw [e];simp);omega
def fS (y:Str):Prop:=1≤(aF y).length∧(aF y).length≤12∧(aF y).cps.toList.all (aY "0123456789")=true
theorem jd {cs:List Nat}:cs.all (aY "0123456789")=true↔AllDigits cs:=by
 rw [Em];exact forall_congr' λc=>forall_congr' λ_=>uR c
theorem fu {n:Int} (h:n.natAbs < 10 ^ 12):fS (txt n)∧intText? (txt n)=some n:=by
 have fin:∀(m:Nat) (y:Str),m < 10 ^ 12→(aF y).cps.toList=nd m→fS y:=λm y hm e=>by
  have h1:=lA (m:=m) (k:=12) (by decide) hm
  have h2:=Fw.mpr (sR m)
  rw [← e] at h1 h2
  rw [len_list] at h1 h2
  exact ⟨h2,h1,by rw [e];exact jd.mpr (cA m)⟩
 cases n with
 | ofNat m =>
  have e:(txt (Int.ofNat m)).cps.toList=nd m:=i4 m
  have hm:m < 10 ^ 12:=h
  refine ⟨fin m _ hm (by rw [gF λcs=>by rw [e];exact pq m cs,e]),?_⟩
  have h1:=lA (m:=m) (k:=12) (by decide) hm
  rw [← e,len_list] at h1
  rw [intText_digits (by rw [e];exact cA m) (by rw [e];exact sR m) (by omega),e]
  show some (((digitsVal (nd m):Nat):Int))=_
  rw [show digitsVal (nd m)=m from PySem.W.KIN.val_back m];rfl
 | negSucc m =>
  have e:=i5 m
  have hm:m + 1 < 10 ^ 12:=h
  refine ⟨fin (m + 1) _ hm (gE e),?_⟩
  have h1:=lA (m:=m + 1) (k:=12) (by decide) hm
  have h2:=len_list (txt (Int.negSucc m))
  rw [e,Ee] at h2
  rw [intText_neg e (cA _) (sR _) (by omega),show digitsVal (nd (m + 1))=m + 1 from PySem.W.KIN.val_back (m + 1)]
  rfl
theorem mI {y:Str} (h:fS y):y.length≤13∧∃m:Int,intText? y=some m∧m.natAbs < 10 ^ 12:=by
 obtain ⟨h1,h2,h3⟩:=h
 have hd:=jd.mp h3
 have hb:digitsVal (aF y).cps.toList < 10 ^ 12:=D4 (oJ hd) (E5 (by decide) (by rw [len_list];exact h2))
 have hne:(aF y).cps.toList≠[]:=by
  intro e;have:=len_list (aF y);rw [e] at this;simp at this;omega
 by_cases z:∃cs,y.cps.toList=45 :: cs
 ·obtain ⟨cs,e⟩:=z
  have ef:=gE e
  rw [ef] at hd hb hne
  have hl:=len_list y
  have hl2:=len_list (aF y)
  rw [e,Ee] at hl
  rw [ef] at hl2
  refine ⟨by omega,_,intText_neg e hd hne (by omega),?_⟩
  rw [Int.natAbs_neg];exact hb
 ·have ef:=gF (y:=y) λcs e=>z ⟨cs,e⟩
  rw [ef] at hd hb hne h2
  exact ⟨by omega,_,intText_digits hd hne (by omega),hb⟩
theorem rb (i:Int):∀c∈(txt i).cps.toList,c=45∨(48≤c∧c≤57):=by
 cases i with
 | ofNat m=>rw [show (txt (Int.ofNat m)).cps.toList=nd m from i4 m];exact λc hc=>.inr (cA m c hc)
 | negSucc m =>
  rw [i5]
  intro c hc
  rcases D6.mp hc with rfl | hc
  ·exact .inl rfl
  ·exact .inr (cA _ c hc)
theorem cM {a b:Int} (ha:a.natAbs < 10 ^ 12) (h:txt a=txt b) (hb:b.natAbs < 10 ^ 12):a=b:=by
 have h1:=(fu ha).2
 have h2:=(fu hb).2
 rw [h,h2] at h1
 exact (Option.some.inj h1).symm
def aA.words:aA→List Str
 | .go q=>[("go":Str),txt q.num ++ ("/":Str) ++ txt q.den]
 | d=>d.head :: d.rest
theorem mC (sep:Str) (ps:List Str):Txt.join sep ps=Str.join sep ps:=glued_eq_join sep ps
theorem qo (a b c:Str):a ++ b ++ c=a ++ (b ++ c):=by
 show (⟨a.cps ++ b.cps ++ c.cps⟩:Str)=⟨a.cps ++ (b.cps ++ c.cps)⟩
 rw [Array.append_assoc]
theorem kA (d:aA):d.line=Str.join (" ":Str) d.words:=by
 have hs:∀(x:Str) (ys:List Str),bH x ys=Str.join (" ":Str) (x :: ys):=λx ys=>by rw [← mB,mC]
 cases d with
 | go q =>
  show ("go ":Str) ++ txt q.num ++ ("/":Str) ++ txt q.den=("go":Str) ++ (" ":Str) ++ (txt q.num ++ ("/":Str) ++ txt q.den)
  rw [show ("go ":Str)=("go":Str) ++ (" ":Str) by decide +kernel]
  simp only [qo]
 | _=>exact hs _ _
theorem eO:(" ":Str)=⟨#[32]⟩:=by decide +kernel
theorem mV:("/":Str)=⟨#[47]⟩:=by decide +kernel
end Ov
namespace L2
open PySem PySem.Spec PyProof.Rows
end L2
namespace Ov
open PySem PySem.Spec PyProof.Rows
open L2 (V HO Hp Inv Cx VK XK TE TT TA TS TG jW TI TO dA Ends jc Loc Gl Rd RelV Vals cn jb aZ gh h8 hU dQ R2 upd aq aB bO dz Sp g_ It aN bf bj Passes ka bS Meth Mk Binds aM cu ax bN b9 fI l3 wM wu hZ)
end Ov
namespace Ov
open PySem PySem.Spec PyProof.Rows L2
section
variable {X:Cx}
end
end Ov
namespace Ov
open PySem PySem.Spec PyProof.Rows
open L2 (V HO Hp Inv Cx VK XK TE TT TA TS TG jW TI TO dA Ends jc Loc Gl Rd RelV Vals cn jb aZ gh h8 hU dQ R2 upd aq aB bO dz Sp g_ It aN bf bj Passes ka bS Meth Mk Binds aM cu ax bN b9 fI l3 wM wu hZ)
section
variable {X:Cx} {G:G2} {kx vx iter cnd:Expr} {x y:Str} {px py:Pos} {sc:Scope} {pos spos:Pos} {wi:l4} {tk te:bQ} {tc:iO} {i:Nat}
end
end Ov
namespace L2
open PySem PySem.Spec PySem.W PySem.Calls PyProof.Rows
theorem vq {X:Cx}:cn X (compareOp .NotIn) (λx y H Q=>∃a b,x=.str a∧y=.str b∧Q (.bl (!(!(Builtin.Str.occurrences b a 0 b.length 1).isEmpty))) H):=by
 intro pins s σ H x y v u Q I rx ry h
 obtain ⟨a,b,rfl,rfl,q⟩:=h
 obtain ⟨t,rfl⟩:=rx
 obtain ⟨t',rfl⟩:=ry
 exact PySem.P.notIn_str ⟨.bl _,H,I,rfl,q⟩
end L2
namespace Ov
open PySem PySem.Spec PyProof.Rows
open L2 (V HO Hp Inv Cx VK XK TE TT TA TS TG jW TI TO dA Ends jc Loc Gl Rd RelV Vals cn jb aZ gh h8 hU dQ R2 upd aq aB bO dz Sp g_ It aN bf bj Passes ka bS Meth Mk Binds aM cu ax bN b9 fI l3 wM wu hZ)
section
variable {X:Cx} {G:G2}
def tQ:iH:=λx y J Q=>∃a b,x=.str a∧y=.str b∧Q (.bl (!(!(Builtin.Str.occurrences b a 0 b.length 1).isEmpty))) J
theorem pE:j1 X (compareOp .NotIn) tQ:=⟨_,L2.vq,λJ H x y v w Q2 Q rx ry r ⟨a,b,ex,ey,q⟩ k=>by
 subst ex ey;cases rx;cases ry
 exact ⟨a,b,rfl,rfl,k (.bl _) J _ H rfl r .refl q⟩⟩
def BY (te:bQ):l4:=λτ J R=>te τ J λx J1=>nk x λy=>R ⟨y.cps.toList.map λch=>.str (sgn ch),λ_=>True⟩ J1
theorem tZ {tg l:Expr} {tl:bQ} (hl:RE X G l tl):RI X G tg l (BY tl):=⟨AG (vC hl.run) λσ H R ⟨τ,J,R2,a2,h,k⟩=>⟨τ,J,_,a2,h,λx J1 v H1 rx r1 e1 hh=>by
 obtain ⟨y,ex,q⟩:=cO hh
 subst ex;cases rx
 refine ⟨y,rfl,k _ J1 _ H1 ?_ r1 e1 q⟩
 exact {
  go:=λJ' H' e r o i hi=>by
   rw [D0,Array.length_toList] at hi;exact hi
  yl:=λJ' H' e r o i hi v H2 yy=>by
   obtain ⟨e1,ch,hc,ev⟩:=yy
   subst e1 ev
   exact ⟨.str (sgn ch),by rw [Eb,Array.getElem?_toList,hc];rfl,rfl,r,.refl⟩
  stop:=λJ' H' e r o=>by
   show y.cps.size≤_
   rw [D0,Array.length_toList];exact D5 _ }⟩⟩
end
end Ov
namespace Ov
open PySem PySem.Spec PyProof.Rows
open L2 (V HO Hp Inv Cx VK XK TE TT TA TS TG jW TI TO dA Ends jc Loc Gl Rd RelV Vals cn jb aZ gh h8 hU dQ R2 upd aq aB bO dz Sp g_ It aN bf bj Passes ka bS Meth Mk Binds aM cu ax bN b9 fI cV Un fK It Turn gu PE PI EP TP bA)
theorem sd {h h' base base':Heap} {C:Addr} (k:∀b,b≠C→h'.get? b=h.get? b) (kb:∀b,base.get? b=none→base'.get? b=none):∀{l:List Env},h.FunFrames base l→(∀env∈l,env.frame≠some C)→h'.FunFrames base' l
 | [],_,_=>trivial
 | env :: r,⟨hk,⟨L,o,hf,hn,ho,hd⟩,hr⟩,n=>⟨hk,⟨L,o,hf,kb L hn,(k L λz=>n env (.head _) (by rw [hf,z])).trans ho,hd⟩,sd k kb hr λe he=>n e (.tail _ he)⟩
section
variable {X:Cx} {pins:List (Addr × Obj)} {σ:L2.St} {H H':Hp} {s:Shared} {ea t C:Addr} {cls:Value} {B B' h1 h2:Heap}
theorem sh {s2:Shared} (I:Inv X pins σ H s) (hst:X.stack=X.env :: X.outer) (hfr:X.env.frame=some X.env.locals) (hex:X.ex=[]) (hC0:X.s₀.heap.objs.size≤C) (nC:C ∉ cV X.stack) (hC':H' C=none) (os:s2.os=s.os) (bare:AllBare s2.gens) (un:Un (cV X.stack) [] H H' s.heap h1) (ok:fK X.prog X.w H' h1)
  (cov:∀b o,h1.get? b=some o→(H' b≠none∨∃o₀,s.heap.get? b=some o₀)→b ∉ cV X.stack→b≠C→B.get? b=some o) (up:∀b o,b≠C→h1.get? b=some o→(∀vs,o.data≠.fields vs)→∃sl,s2.heap.get? b=some { o with slots:=sl })
  (hB:B.StaysIn s2.heap) (fl:Heap.FlyingW B X.outer ea cls (.ref t) s2.heap):eL X.prog X.w X.outer X.H₀ X.s₀ ea cls H' s2:=by
 have old:∀b o,X.s₀.heap.get? b=some o→b≠C:=λb o e z=>by
  have:=Heap.lt_size e
  rw [z] at this
  exact Ew _ (D4 this hC0)
 have nst:∀b o,X.s₀.heap.get? b=some o→b ∉ X.fs→b ∉ cV X.stack:=λb o e nb hb=>by
  rcases D6.mp (I.fi b hb) with z | z
  ·have:=D4 (Heap.lt_size e) I.ok.above
   rw [z] at this
   exact Ew _ this
  ·exact nb z
 have sub:∀b,b∈X.fs→b∈cV X.stack:=λb hb=>by rw [hst];unfold cV;rw [EJ,hfr];exact D8 _ hb
 have nx:∀b:Addr,b ∉ X.ex:=λb=>by rw [hex];simp
 have nf:∀b u,H' b=some u→b ∉ cV X.stack:=λb u q hb=>by
  have:=(b_ I un hb).1
  rw [q] at this;cases this
 have y':∀b u o,H' b=some u→h1.get? b=some o→s2.heap.get? b=some o:=λb u o q e =>
  hB b o (cov b o e (.inl (by rw [q];exact λz=>nomatch z)) (nf b u q) λz=>by rw [z,hC'] at q;cases q)
 refine ⟨os.trans I.os,bare,⟨λb o e n hb _=>?_,λb o e n hb _=>?_,λb o e n _=>?_,λb o e _=>?_,λb xs q=>un.tups b xs (I.base.tups b xs q),λb o xs q=>un.frzs b o xs (I.base.frzs b o xs q),λb ps q=>?_⟩,λa o e=>?_,B,t,fl,λb o e hb nb=>?_⟩
 ·have e1:=I.base.keep b o e n hb (nx b)
  exact hB b o (cov b o (un.keep b o e1 (I.base.free b o e n (nx b)) (nst b o e hb) (by simp)) (.inr ⟨o,e1⟩) (nst b o e hb) (old b o e))
 ·obtain ⟨sl,e1⟩:=I.base.slot b o e n hb (nx b)
  obtain ⟨sl',e2⟩:=un.slot b _ e1 (I.base.free b o e n (nx b)) (sub b hb) (by simp)
  obtain ⟨_,o',e3,hn⟩:=b_ I un (sub b hb)
  rw [e2] at e3;cases e3
  obtain ⟨sl2,e4⟩:=up b _ (old b o e) e2 hn
  exact ⟨sl2,e4⟩
 ·obtain ⟨o',e1⟩:=I.base.there b o e (nx b)
  exact un.free b o' e1 (I.base.free b o e n (nx b)) (by simp)
 ·obtain ⟨o',e1⟩:=I.base.there b o e (nx b)
  obtain ⟨o2,e2⟩:=un.there b o' e1 (by simp)
  by_cases hb:b∈cV X.stack
  ·obtain ⟨_,o3,e3,hn⟩:=b_ I un hb
   obtain ⟨sl,e4⟩:=up b _ (old b o e) e3 hn
   exact ⟨_,e4⟩
  ·exact ⟨o2,hB b o2 (cov b o2 e2 (.inr ⟨o',e1⟩) hb (old b o e))⟩
 ·obtain ⟨m1,e1⟩:=I.base.tbls b ps q
  obtain ⟨m2,e2⟩:=un.tbls b _ e1
  exact ⟨m1 ++ m2,by rw [e2,Array.append_assoc]⟩
 ·refine (ok a o e).j' (λb u hb q=>?_) (λ_ q=>q) λ_ _ q=>q
  rcases hb with rfl | hb
  ·exact y' _ _ _ e q
  ·exact y' _ _ _ hb q
 ·have no2:b ∉ cV X.stack:=by
   rcases hb with z | ⟨o₀,z⟩
   ·exact λhb=>z (b_ I un hb).1
   ·exact nst b o₀ z nb
  have nC:b≠C:=by
   rcases hb with z | ⟨o₀,z⟩
   ·exact λq=>z (by rw [q];exact hC')
   ·exact old b o₀ z
  have hs:H' b≠none∨∃o₀,s.heap.get? b=some o₀:=hb.imp id λ⟨o₀,z⟩=>I.base.there b o₀ z (nx b)
  have:∃o1,h1.get? b=some o1:=by
   rcases hs with z | ⟨o₀,z⟩
   ·cases q:H' b with
    | none=>exact absurd q z
    | some u=>exact pD (ok b u q)
   ·exact un.there b o₀ z (by simp)
  obtain ⟨o1,e1⟩:=this
  have c:=cov b o1 e1 hs no2 nC
  have:=hB b o1 c
  rw [e] at this;cases this
  exact c
def LetGo (X:Cx) (C:Addr) (e:Value) (s':Shared):Prop:=∃m,s'.heap.Ns C m∧∀h',Heap.SameBut C s'.heap h'→∀(env:Env) (Q:Value→Shared→Prop) (what:String),env.frame=X.env.frame→wpAny (model X.prog X.w) X.A (PySem.passOn what e env) Q X.xe { s' with heap:=h' }
theorem sf {E:XK} {e:Value} {s':Shared} {cenv:Env} (I:Inv X pins σ H s) (hst:X.stack=X.env :: X.outer) (hfr:X.env.frame=some X.env.locals) (hex:X.ex=[]) (hL:∀e s,wpAny (model X.prog X.w) X.A (leaving X.env e) (λ_ s''=>cU X.prog X.w X.outer X.H₀ X.s₀ E e s'') (λe' s''=>cU X.prog X.w X.outer X.H₀ X.s₀ E e' s'') s→X.xe e s)
  (hC:H C=none) (hCl:C≠X.env.locals) (hC0:X.s₀.heap.objs.size≤C) (hns:∃m,s.heap.Ns C m) (hcf:cenv.frame=X.env.frame) (F:cU X.prog X.w X.stack H s E e s'):notedBy (model X.prog X.w) X.A cenv (LetGo X C) e s':=by
 obtain ⟨ea,cls,H',rfl,F,q⟩:=F
 obtain ⟨B,t,fl,cov⟩:=F.fl
 have nC:C ∉ cV X.stack:=λhb=>by
  rcases D6.mp (I.fi C hb) with z | z
  ·exact hCl z
  ·obtain ⟨_,o,ho,_⟩:=I.ok.fG.mem z
   exact Ew _ (D4 (Heap.lt_size ho) hC0)
 have nfr:∀env∈X.env :: X.outer,env.frame≠some C:=λenv he z=>nC (by rw [hst];exact EX.mpr ⟨env,he,z⟩)
 have e1:noteFrame (.ref ea) cenv=noteFrame (.ref ea) X.env:=by unfold noteFrame PySem.frameOf;rw [hcf]
 show wpAny _ _ (noteFrame (.ref ea) cenv) _ _ _
 rw [e1]
 refine wpAny_looks_onW (by rw [I.ok.frames,hst]) hfr (hst ▸ fl) λh4 held4 up4=>?_
 obtain ⟨m,hm⟩:=hns
 obtain ⟨o0,es0,ep0,ho0,hd0,hr0⟩:=id hm
 have c1:=F.un.keep C o0 ho0 hC nC (by simp)
 have cB:=cov C o0 c1 (.inr ⟨o0,ho0⟩) nC
 refine ⟨m,up4.ns ⟨o0,es0,ep0,c1,hd0,hr0⟩,λh' hsb env2 Q what hf2=>?_⟩
 obtain ⟨f1,f2,f3,oe,vs,T,oT,ts,he,hcls,hd,hv1,hnT,hTe,hT,hdT,h3⟩:=held4
 have ne1:ea≠C:=λz=>by rw [z,cB] at f2;cases f2
 have neT:T≠C:=λz=>by rw [z,cB] at hnT;cases hnT
 have hb2:∀b o,(PySem.W.hideAll B [C]).get? b=some o→B.get? b=some o∧b≠C:=λb o e =>
  ⟨PySem.W.of_hideAll _ e,λz=>by rw [z,PySem.W.hideAll_none _ (List.mem_singleton_self C)] at e;cases e⟩
 have hb0:∀b,B.get? b=none→(PySem.W.hideAll B [C]).get? b=none:=λb e=>by
  cases z:(PySem.W.hideAll B [C]).get? b with
  | none=>rfl
  | some o=>rw [(hb2 b o z).1] at e;cases e
 have hs5:3 < ts.size:=(Array.getElem?_eq_some_iff.mp h3).1
 have he':h'.get? ea=some oe:=(hsb.2 ea ne1).trans he
 have hT':h'.get? T=some oT:=(hsb.2 T neT).trans hT
 have ff':h'.FunFrames (PySem.W.hideAll B [C]) (X.env :: X.outer):=sd (λb n=>hsb.2 b n) hb0 f3 nfr
 unfold PySem.passOn
 refine wpAny_bind (wpAny_field he' hd hv1 ?_)
 rw [if_neg (show ¬ (Value.ref T == Value.none)=true from by simp)]
 try refine wpAny_bind (wpAny_pure ?_)
 unfold setFlight
 refine wpAny_bind (wpAny_bind (wpAny_field he' hd hv1 ?_))
 rw [if_pos (show (Value.ref T != Value.none)=true from by simp),hf2,hfr]
 refine wpAny_setField hT' hdT hs5 (wpAny_throw (hL _ _ ?_))
 have other:∀b,b≠T→(h'.update T (Obj.mapFields (·.setIfInBounds 3 ((some X.env.locals:Option Addr).elim Value.none λf=>rawInt f)))).get? b=h'.get? b:=λb hb=>Heap.get?_update_other _ _ (Ne.symm hb)
 have noRec:∀b o,h'.get? b=some o→(∀vs,o.data≠.fields vs)→b≠T:=λb o hb hnf z=>by rw [z,hT'] at hb;cases hb;exact hnf ts hdT
 have held5:Heap.HeldW (PySem.W.hideAll B [C]) (X.env :: X.outer) ea cls (.ref t) X.env.locals (h'.update T (Obj.mapFields (·.setIfInBounds 3 ((some X.env.locals:Option Addr).elim Value.none λf=>rawInt f)))):=by
  refine ⟨λb o e=>?_,hb0 _ f2,ff'.of_keeps λb o hb hnf=>⟨o,(other b (noRec b o hb hnf)).trans hb,rfl⟩,oe,vs,T,_,_,(other ea (Ne.symm hTe)).trans he',hcls,hd,hv1,hb0 _ hnT,hTe,Heap.get?_update_self _ hT' (Obj.isFreed_of_fields (Obj.data_mapFields hdT _)),Obj.data_mapFields hdT _,by simp [hs5]⟩
  obtain ⟨e2,n2⟩:=hb2 b o e
  exact (other b λz=>by rw [z,hnT] at e2;cases e2).trans ((hsb.2 b n2).trans (f1 b o e2))
 unfold leaving
 refine wpAny_bind (wpAny_noteFrame_againW hfr held5.2.2.2 (wpAny_landsW held5 λh5 fl5 up5=>?_))
 obtain ⟨k1,k2,⟨_,_,k3⟩,k4⟩:=fl5
 refine ⟨ea,cls,H',rfl,sh (h1:=s'.heap) (B:=PySem.W.hideAll B [C]) I hst hfr hex hC0 nC (F.un.free C o0 ho0 hC (by simp)) F.os F.bare F.un F.hok (λb o e hb nb n=>PySem.W.hideAll_get _ (cov b o e hb nb) (by simpa using n)) (λb o n e hn=>?_) k1 ⟨k1,k2,k3,k4⟩,q⟩
 obtain ⟨sl,e4⟩:=up4 b o e hn
 have e5:h'.get? b=some { o with slots:=sl }:=(hsb.2 b n).trans e4
 have e6:=(other b (noRec b _ e5 hn)).trans e5
 obtain ⟨sl2,e7⟩:=up5 b _ e6 hn
 exact ⟨sl2,e7⟩
end
def rj (X:Cx) (sc:Scope) (C:Addr) (x:Str) (s₀:Shared) (H₀:Hp) (fp:List Addr) (pins:List (Addr × Obj)) (E:XK):Cx :=
 { gj X sc [] C x [] s₀ H₀ fp pins with xe:=λe s'=>∃pn σ H s,Inv (gj X sc [] C x [] s₀ H₀ fp pins) pn σ H s∧cU X.prog X.w X.stack H s E e s' }
theorem nE {X:Cx} {xe:Value→Shared→Prop} {pins:List (Addr × Obj)} {σ:L2.St} {H:Hp} {s:Shared} (I:Inv X pins σ H s):Inv { X with xe:=xe } pins σ H s :=
 ⟨⟨I.ok.mod,I.ok.kind,I.ok.glob,I.ok.blt,I.ok.above,I.ok.inj,I.ok.has,I.ok.cab,I.ok.hd,I.ok.frames,I.ok.stk,I.ok.exf,I.ok.bs,I.ok.bsz,I.ok.noex,I.ok.exfs,I.ok.fG,I.ok.frf⟩,I.os,I.bare,I.base,I.loc,I.cell,I.free,I.freeC,I.pin,I.hok,I.len⟩
section
variable {prog:Program} {w:World} {A:Around} {R:Result→Shared→Prop} {s:Shared}
theorem nJ {elt iter:Expr} {x:Str} {px:Pos} {sc:Scope} {pos:Pos} {it acc:Value} {env:Env} {XE:Value→Shared→Prop} (hx:∀e s',XE e s'→notedBy (model prog w) A env (λe s'=>R (.error e) s') e s') (I:Nat→Shared→Prop)
  (turn:∀n s,I n s→wpAny (model prog w) A (pyNext it) (λr s₁=>match r with
   | none=>R (.ok .next) s₁
   | some v=>wpAny (model prog w) A (letOwnedTupleGo (.Name x px) it v) (λ_ s₂=>wpAny (model prog w) A (assign (.Name x px) env v) (λ_ s₃=>wpAny (model prog w) A (eval elt env) (λy s₄ =>
     wpAny (model prog w) A (call (.builtin "list.append") [acc,y]) (λ_ s₅=>∃m,m < n∧I m s₅) XE s₄) XE s₃) XE s₂) XE s₁) XE s)
  (n:Nat) (h:I n s):codeAny (model prog w) A (.compLoop (.ListComp elt [⟨.Name x px,iter,[],0⟩] sc pos) 0 it acc env) R s:=by
 refine codeAny_loop rfl I (λn s hI=>?_) n h
 show wpAny _ _ ((compTurn (.ListComp elt [⟨.Name x px,iter,[],0⟩] sc pos) 0 it acc env).onRaise (λx=>do noteFrame x env;theTreesLotGoes x)) _ _ s
 refine wpAny_noted ?_
 rw [compTurn_list]
 refine wpAny_bind (wpAny_standAt (wpAny_bind (wpAny_mono (turn n s hI) (λr s₁ h₁=>?_) hx)))
 cases r with
 | none=>exact wpAny_pure h₁
 | some v =>
  refine wpAny_bind (wpAny_mono h₁ (λ_ s₂ h₂=>?_) hx)
  refine wpAny_bind (wpAny_mono h₂ (λ_ s₃ h₃=>wpAny_bind (wpAny_tests_nil ?_)) hx)
  exact wpAny_bind (wpAny_bind (wpAny_mono h₃ (λy s₄ h₄=>wpAny_bind (wpAny_mono h₄ (λ_ s₅ h₅=>wpAny_pure (wpAny_pure ⟨rfl,h₅⟩)) hx)) hx))
end
theorem relabel_id {sc:Scope} {env:Env} (h:∀y∈sc.names,y.2≠.free):relabel sc env=sc:=by
 unfold relabel
 have e:(sc.names.map λ(n,k)=>if (k == .free && env.scope.kind == .function && env.kindOf n == some .cell) then (n,NameKind.cell) else (n,k))=sc.names:=by
  refine (Fx λy hy=>?_).trans (FR _)
  obtain ⟨n,k⟩:=y
  have:(k == NameKind.free)=false:=by simpa using h _ hy
  simp [this]
 rw [e]
section
variable {X:Cx} {E:XK}
theorem yC {elt iter:Expr} {x:Str} {px:Pos} {sc:Scope} {pos:Pos} {wi:TI} {te:TE} (osc:Scope) (N:List Str) (hc:X.calm=true) (ho:X.env.scope=osc) (hN:X.N=N) (hst:X.stack=X.env :: X.outer) (hfr:X.env.frame=some X.env.locals) (hex:X.ex=[])
  (hL:∀e s,wpAny (model X.prog X.w) X.A (leaving X.env e) (λ_ s''=>cU X.prog X.w X.outer X.H₀ X.s₀ E e s'') (λe' s''=>cU X.prog X.w X.outer X.H₀ X.s₀ E e' s'') s→X.xe e s) (hi:PI X (.Name x px) iter wi)
  (he:∀C s₀ H₀ fp pins,PE (rj X sc C x s₀ H₀ fp pins E) elt te) (ok:bR sc osc N x []:=by decide +kernel) (hfree:∀y∈sc.names,y.2≠.free:=by decide) (hs:∀x,foldedSetIterable iter X.env x=pure x:=by intro _;rfl) :
  PE X (.ListComp elt [⟨.Name x px,iter,[],0⟩] sc pos) (zx wi [] te):=by
 intro pins s0 σ H0 Q I0 hw
 have ok':bR sc X.env.scope X.N x []:=by rw [ho,hN];exact ok
 refine wpAny_ListComp hfree ok.1 ok.2.2.2.1 (bA (hi pins s0 σ H0 _ I0 hw) λv s1 h3=>bA h3 λitv s h4=>?_) hs
 obtain ⟨it,fp,tn,J,H,rfl,I,T,st,f,hw⟩:=h4
 obtain ⟨kd,nc,lx,ll,fr,kk,nd⟩:=ok'
 have ok':bR sc X.env.scope X.N x []:=⟨kd,nc,lx,ll,fr,kk,nd⟩
 have hD0:H s.heap.objs.size=none:=I.hok.fresh (D5 _)
 obtain ⟨W,⟨m0,w0⟩,turn⟩:=hw s.heap.objs.size hD0
 refine wpAny_newObj_type ?_
 have I3:Inv X pins σ (upd H s.heap.objs.size (.lst [])) { s with heap:=s.heap.push { cls:=.type "list",dict:=none,data:=.seq ([]:List Value).toArray } } :=
  I.laid (t':=s.toks) (λb u e=>Heap.get?_push_of_some _ e) (D5 _) (show L2.bJ X.prog X.w _ _ _ (.lst []) from ⟨Ex _,[],0,.nil,Heap.get?_push_size _ rfl⟩)
 have st3:tn 0 (s.heap.push { cls:=.type "list",dict:=none,data:=.seq ([]:List Value).toArray }):=T.keep 0 _ _ st λb hb o e=>Heap.get?_push_of_some _ e
 generalize hD:s.heap.objs.size=D at *
 generalize hH:upd H D (.lst [])=H3 at *
 generalize hs3:({ s with heap:=s.heap.push { cls:=.type "list",dict:=none,data:=.seq ([]:List Value).toArray } }:Shared)=s3 at *
 have e3:s.heap.push { cls:=.type "list",dict:=none,data:=.seq ([]:List Value).toArray }=s3.heap:=by rw [← hs3]
 rw [e3] at st3
 have fD:∀b∈fp,b≠D:=λb hb z=>by
  obtain ⟨o,ho,_⟩:=T.obj 0 _ st b hb
  have:=Heap.lt_size ho
  rw [z,← hD] at this
  exact Ew _ this
 have f3:∀b∈fp,gu X pins H3 b:=λb hb=>⟨by rw [← hH,aB (fD b hb)];exact (f b hb).1,(f b hb).2⟩
 have g3:∀b∈fp,∃o,s3.heap.get? b=some o:=λb hb=>by
  obtain ⟨o,ho,_⟩:=T.obj 0 _ st3 b hb
  exact ⟨o,ho⟩
 refine wpAny_newFunctionEnv nc (by intro y hy;simp at hy) (λh₁ hns hsb=>?_) kd
 have kp:∀b o,s3.heap.get? b=some o→h₁.get? b=some o:=λb o e=>hsb.extBut b o (Ej (Heap.lt_size e)) (Heap.get?_push_of_some _ e)
 have J0:=mw (fp:=fp) (cl:=[]) (t':=s3.toks + ([]:List (Str × Value)).length) I3 ok' (λy c z=>by cases z) (λy hy z=>absurd z (hfree y hy)) (λb hb=>⟨f3 b hb,g3 b hb⟩) hns kp
 have st4:tn 0 h₁:=T.keep 0 _ _ st3 λb hb o e=>kp b o e
 have ltC:∀b o,s3.heap.get? b=some o→b≠s3.heap.objs.size:=λb o e=>Ej (Heap.lt_size e)
 have cC:∀y c,X.env.cells.lookup y=some c→c≠s3.heap.objs.size:=λy c e=>by
  obtain ⟨v,o,ho,_⟩:=I3.cell y c e
  exact ltC c o ho
 have pC:∀p∈X.pn ++ pins,p.1≠s3.heap.objs.size:=λp hp=>ltC _ _ (I3.pin p hp).1
 have lC:s3.heap.objs.size≠X.env.locals:=Fm I3.lt
 generalize hCC:s3.heap.objs.size=C at *
 have fX:∀{H':Hp},(∀b∈fp,H' b=none)→∀b∈fp,gu (rj X sc C x s3 H3 fp pins E) [] H' b:=λhn b hb=>by
  obtain ⟨o,ho⟩:=g3 b hb
  obtain ⟨_,q1,q2,q3,q4,q5⟩:=f b hb
  refine ⟨hn b hb,ltC b o ho,λz=>?_,.inl hb,λy c e=>(by cases e),λp hp=>q5 p (by simpa [rj,gj] using hp)⟩
  rcases D6.mp (I3.fi b z) with e | e
  ·exact q1 e
  ·exact q2 e
 have back:∀{pn:List (Addr × Obj)} {σ2:L2.St} {H':Hp} {s':Shared},Inv (gj X sc [] C x [] s3 H3 fp pins) pn σ2 H' s'→Inv X pins σ H' s':=λ{pn σ2 H' s'} J=>by
  obtain ⟨hh,g,d,t,os'⟩:=s'
  obtain rfl:os'=s3.os:=J.os
  exact I3.call (h':=hh) (g':=g) (d':=d) (t':=t) (ch:=fp) J.base J.hok J.bare λb hb=>⟨(f b hb).2.2.2.1,(f b hb).2.1,(f b hb).2.2.2.2.1,(f b hb).2.2.2.2.2⟩
 have lookX:(relabel sc X.env).names.lookup x=some .local:=lookup_relabel_local lx
 have eenv:({ newEnv sc C X.env.globals [] X.env.qual none .none (some X.env) builtinsNs with scope:=sc }:Env)=compEnvC sc [] C X.env:=by
  unfold compEnvC newEnv
  rw [relabel_id hfree]
 obtain ⟨R,hR⟩:∃R:Result→Shared→Prop,R=λr s'=>∃m,s'.heap.Ns C m∧∀h',Heap.SameBut C s'.heap h' →
   match r with | .ok _=>EP X pins σ Q (.ref D) { s' with heap:=h' } | .error x=>wpAny (model X.prog X.w) X.A (PySem.passOn "comprehension.variables-let-go" x (compEnvC sc [] C X.env)) (EP X pins σ Q) X.xe { s' with heap:=h' }:=⟨_,rfl⟩
 have hx:∀e s',(rj X sc C x s3 H3 fp pins E).xe e s'→notedBy (model X.prog X.w) X.A (compEnvC sc [] C X.env) (λe s'=>R (.error e) s') e s':=λe s' ⟨pn,σ2,H',s2,J,F⟩=>by
  have I2:=back J
  obtain ⟨m,hm,_⟩:=J.loc
  refine wpAny_mono (sf (C:=C) I2 hst hfr hex hL J.free lC (by rw [← hCC];exact I3.sz) ⟨m,hm⟩ rfl F) (λ_ s2 ⟨m2,hm2,k⟩=>?_) λe2 s2 ⟨m2,hm2,k⟩=>?_
  ·rw [hR];exact ⟨m2,hm2,λh' hsb=>k h' hsb _ _ _ rfl⟩
  ·rw [hR];exact ⟨m2,hm2,λh' hsb=>k h' hsb _ _ _ rfl⟩
 have loop:∀s',(∃(i:Nat) (o:Option V) (H':Hp),Inv (rj X sc C x s3 H3 fp pins E) [] [o] H' s'∧tn i s'.heap∧(∀b∈fp,H' b=none)∧W i m0 H') →
   codeAny (model X.prog X.w) X.A (.compLoop (.ListComp elt [⟨.Name x px,iter,[],0⟩] sc pos) 0 (.ref it) (.ref D) (compEnvC sc [] C X.env)) R s':=by
  intro s' hs'
  refine nJ hx (λn s'=>∃(i:Nat) (o:Option V) (H':Hp),Inv (rj X sc C x s3 H3 fp pins E) [] [o] H' s'∧tn i s'.heap∧(∀b∈fp,H' b=none)∧W i n H') ?_ m0 hs'
  rintro n s5 ⟨i,o,H5,J5,t5,n5,w5⟩
  rcases turn i n H5 w5 with ⟨stop,hq⟩ | ⟨go,step⟩
  ·refine bA (T.done (rj X sc C x s3 H3 fp pins E) rfl rfl rfl hc i [] s5 _ H5 _ J5 (fX n5) t5 stop) λr s6 ⟨hr,J6⟩=>?_
   subst hr
   obtain ⟨m,hm,_⟩:=J6.loc
   have J6':=back (nE (xe:=λ_ _=>False) J6)
   rw [hR]
   exact ⟨m,hm,λh' hsb=>⟨.ref D,H5,J6'.turned (t':=s6.toks) (it:=C) (λb o ne e=>hsb.extBut b o ne e) J6.free lC (.inr (by rw [← hCC];exact I3.sz)) cC pC,rfl,hq⟩⟩
  ·refine bA (T.item (rj X sc C x s3 H3 fp pins E) rfl rfl rfl hc i [] s5 _ H5 _ J5 (fX n5) t5 go) λr s6 ⟨u,hr,h6⟩=>?_
   subst hr
   refine bA h6 λ_ s7 ⟨v,H7,J7,r7,y7,t7,n7⟩=>?_
   have J7':=J7.pinned (fX n7) (T.obj _ _ t7)
   refine wpAny_assign_Name (L2.dy (X:=rj X sc C x s3 H3 fp pins E) (i:=0) J7' nd rfl (.inl lookX) r7 (λs8 J8=>?_) (.inr lookX))
   refine bA (he C s3 H3 fp pins _ s8 _ H7 _ J8 (step v H7 y7)) λy s9 ⟨vy,H9,J9,r9,ys,hys,hz,m',hm,w'⟩=>?_
   refine bA (L2.cX (X:=rj X sc C x s3 H3 fp pins E) _ s9 _ H9 (.ref D) [vy] (.ref D) [y] (λ_ H'=>H'=upd H9 D (.lst (ys ++ [vy]))) J9 rfl (.cons r9 .nil) ⟨D,ys,vy,rfl,rfl,hys,hz,rfl⟩) λ_ s10 ⟨_,H10,J10,_,eH⟩=>?_
   subst eH
   refine ⟨m',hm,i + 1,_,_,J10.d7,?_,?_,w'⟩
   ·exact T.keep _ _ _ t7 λb hb o e=>(J10.pin (b,o) (D7 _ (D7 _ (L2.bM hb e)))).1
   ·intro b hb
    obtain ⟨o,e,d⟩:=T.obj _ _ t7 b hb
    exact (J10.pin (b,o) (D7 _ (D7 _ (L2.bM hb e)))).2.1
 have l0:=loop _ ⟨0,none,H3,nE J0,st4,λb hb=>(f3 b hb).1,w0⟩
 have key:∀r8:Env,r8=compEnvC sc [] C X.env→codeAny (model X.prog X.w) X.A (.compStart (.ListComp elt [⟨.Name x px,iter,[],0⟩] sc pos) 0 (.ref it) (.ref D) r8) R _:=λr8 e=>by
  rw [e]
  exact codeAny_compStart_list l0 (T.self _ 0 _ _ _ st4 l0)
 subst hR
 have:=key _ eenv
 rw [← eenv] at this
 exact this
variable {G:G2} {E2:Addr→Hq→Prop}
theorem BV {sc:Scope} {C:Addr} {x:Str} {s₀:Shared} {H₀:Hp} {fp:List Addr} {pins:List (Addr × Obj)} (B:uA X G E2 E):uA (rj X sc C x s₀ H₀ fp pins E) G E2 E:=⟨λpn σ H s e s' I h=>⟨pn,σ,H,s,nE (xe:=λ_ _=>False) I,h⟩,B.kn⟩
def yO (wi:l4) (te:bQ):bQ:=λτ J Q=>wi τ J λit J1=>∃(okp:PV→Prop) (g:PV→PV),(it.xs.length < sizeLine∧∀J',Sub J1 J'→it.ok J'∧∀x∈it.xs,te [some x] J' λy J2=>okp x∧y=g x∧J2=J')∧((∀x∈it.xs,okp x)→Q (.fl (it.xs.map g)) J1)
theorem sH {wi:l4} {te:bQ}:∀σ H Q,LE X.K G (yO wi te) σ H Q→zx (LI X.K G wi) [] (LE X.K G te) σ H Q:=λσ H Q ⟨τ,J,Q2,a2,h,k⟩ =>
 ⟨τ,J,_,a2,h,λit J1 I H1 ir r1 e1 ⟨okp,g,⟨hlen,w⟩,q⟩ D hD=>by
  have jD:J1 D=none:=r1.free hD
  refine ⟨λi m H2=>m=it.xs.length - i∧i≤it.xs.length∧(∀x∈it.xs.take i,okp x)∧Rep X.K (put J1 D (.lst ((it.xs.take i).map g))) H2∧Ext X.K J1 H1 (put J1 D (.lst ((it.xs.take i).map g))) H2,⟨_,rfl,Ex _,by simp,r1.sF (xs:=[]) (vs:=[]) hD rfl,.laid hD⟩,?_⟩
  rintro i m H2 ⟨rfl,hi,hok,r2,e2⟩
  obtain ⟨ok,ww⟩:=w _ (Sub.put (o:=.lst ((it.xs.take i).map g)) jD)
  by_cases hlt:i < it.xs.length
  ·refine .inr ⟨ir.go _ H2 e2 r2 ok i hlt,λv H3 y=>?_⟩
   obtain ⟨x,ex,rx,r3,e3⟩:=ir.yl _ H2 e2 r2 ok i hlt v H3 y
   have a3:nq X.K G (some x :: mU [] τ) _ (some v :: dv [] σ) H3:=⟨pT (a2.sl.ext ((e1.trans e2).trans e3)) rx [],r3,((a2.ext.trans e1).trans e2).trans e3⟩
   refine ⟨_,_,_,a3,ww x (Ed ex),λz J5 u H5 rz r5 e5 ⟨oz,ez,ej⟩=>?_⟩
   subst ej ez
   obtain ⟨ys,h5,ry⟩:=r5 D _ bq
   have ll:ys.length≤i:=by
    rw [← ry.length,D0,Ek];omega
   have r6:=r5.wrote (ys:=(it.xs.take i).map g ++ [g x]) (vs:=ys ++ [u]) bq h5 (ry.append (show aC X.K _ H5 [g x] [u] from ⟨u,[],rfl,rz,rfl⟩))
   have e6:=Ext.wrote (K:=X.K) (ys:=(it.xs.take i).map g ++ [g x]) (vs:=ys ++ [u]) (J:=put J1 D (.lst ((it.xs.take i).map g))) bq h5
   rw [lM] at r6 e6
   have et:it.xs.take (i + 1)=it.xs.take i ++ [x]:=by rw [Eu,ex];rfl
   refine ⟨ys,h5,by omega,_,by omega,rfl,hlt,?_⟩
   rw [et,El]
   exact ⟨λa ha=>(EC.mp ha).elim (hok a) λha=>by rw [Es.mp ha];exact oz,r6,((e2.trans e3).trans e5).trans e6⟩
  ·have ei:i=it.xs.length:=by omega
   subst ei
   rw [Ez] at r2 e2 ok hok
   let ⟨x1,x2,x3⟩:=freeze jD r2
   exact .inl ⟨ir.stop _ H2 e2 r2 ok,k _ J1 _ H2 x1 x2 ((e1.trans e2).trans x3) (q hok)⟩⟩
theorem yQ {elt iter:Expr} {x:Str} {px:Pos} {sc:Scope} {pos:Pos} {wi:l4} {te:bQ} (osc:Scope) (N:List Str) (hc:X.calm=true) (ho:X.env.scope=osc) (hN:X.N=N) (hst:X.stack=X.env :: X.outer) (hfr:X.env.frame=some X.env.locals) (hex:X.ex=[])
  (hL:∀e s,wpAny (model X.prog X.w) X.A (leaving X.env e) (λ_ s''=>cU X.prog X.w X.outer X.H₀ X.s₀ E e s'') (λe' s''=>cU X.prog X.w X.outer X.H₀ X.s₀ E e' s'') s→X.xe e s) (hi:RI X G (.Name x px) iter wi)
  (he:∀C s₀ H₀ fp pins,RE (rj X sc C x s₀ H₀ fp pins E) G elt te) (ok:bR sc osc N x []:=by decide +kernel) (hfree:∀y∈sc.names,y.2≠.free:=by decide) (hs:∀x,foldedSetIterable iter X.env x=pure x:=by intro _;rfl) :
  RE X G (.ListComp elt [⟨.Name x px,iter,[],0⟩] sc pos) (yO wi te):=⟨iD (yC osc N hc ho hN hst hfr hex hL hi.run (λC s₀ H₀ fp pins=>(he C s₀ H₀ fp pins).run) ok hfree hs) sH⟩
end
end Ov
namespace L2
open PySem PySem.Spec PyProof.Rows
def u6:Option Expr→Option Str
 | some (.Constant (.str x) _ _)=>some x
 | _=>none
def xV:Expr→Option Int
 | .Constant (.int i) _ _=>some i
 | _=>none
def wo (ks:List (Str × Int)):List (Str × V):=ks.map λx=>(x.1,V.int x.2)
theorem tH {α β:Type} {R:α→β→Prop} {kvs:List (Str × α)} {vs:List (Str × β)} (h:hZ R kvs vs):vs.map (·.1)=kvs.map (·.1):=by
 induction h with
 | nil=>rfl
 | cons r _ ih=>rw [D_,D_,ih,r.1]
section
variable {X:Cx} {pins:List (Addr × Obj)} {σ:St} {H:Hp}
theorem iC {pos:Pos}:∀(ks:List (Str × Int)) {keys:List (Option Expr)} {values:List Expr} {s:Shared} {Q:List (Value × Value)→Shared→Prop},keys.map u6=ks.map (λx=>some x.1)→values.map xV=ks.map (λx=>some x.2)→Inv X pins σ H s →
  (∀vs s',Inv X pins σ H s'→allStrKeys vs=true→hZ RelV (wo ks) (strPairs vs)→Q vs s')→wpAny (model X.prog X.w) X.A (evalPairs (pairTrees keys values X.env pos)) Q X.xe s
 | [],[],[],s,Q,_,_,I,h=>pairTrees_nil_walk (h [] s I rfl .nil)
 | [],_ :: _,_,_,_,hk,_,_,_=>by cases hk
 | [],[],_ :: _,_,_,_,hv,_,_=>by cases hv
 | _ :: _,[],_,_,_,hk,_,_,_=>by cases hk
 | _ :: _,_ :: _,[],_,_,_,hv,_,_=>by cases hv
 | (k,n) :: ks,e :: keys,v :: values,s,Q,hk,hv,I,h=>by
  rw [D_,D_] at hk hv
  injection hk with k1 k2
  injection hv with v1 v2
  obtain ⟨j,p,rfl⟩:∃j p,e=some (.Constant (.str k) j p):=by
   cases e with
   | none=>cases k1
   | some e =>
    cases e with
    | Constant c j p =>
     cases c with
     | str x=>cases k1;exact ⟨j,p,rfl⟩
     | _=>cases k1
    | _=>cases k1
  obtain ⟨j2,p2,rfl⟩:∃j p,v=.Constant (.int n) j p:=by
   cases v with
   | Constant c j p =>
    cases c with
    | int i=>cases v1;exact ⟨j,p,rfl⟩
    | _=>cases v1
   | _=>cases v1
  refine pairTrees_cons_walk (bA (fV pins s σ H (λx H'=>x=.str k∧H'=H) I ⟨rfl,rfl⟩) λkv s1 ⟨x,H1,I1,r1,ex,eH⟩=>?_)
  subst ex
  rw [eH] at I1
  refine bA (aJ pins s1 σ H (λx H'=>x=.int n∧H'=H) I1 ⟨rfl,rfl⟩) λvv s2 ⟨y,H2,I2,r2,ey,eH⟩=>?_
  subst ey
  rw [eH] at I2
  obtain ⟨t,rfl⟩:=r1
  exact iC ks k2 v2 I2 λvs s' I3 ha hr=>h _ s' I3 ha (.cons ⟨rfl,r2⟩ hr)
theorem tE {keys:List (Option Expr)} {values:List Expr} {pos:Pos} (ks:List (Str × Int)) (hk:keys.map u6=ks.map (λx=>some x.1)) (hv:values.map xV=ks.map (λx=>some x.2)) (hn:(ks.map (·.1)).Nodup) (h0:ks≠[]) (hl:ks.length≤15) :
  PE X (.Dict keys values pos) (λ_ H Q=>∀p,H p=none→∀ep,Q (.ref p) (upd H p (.dE (wo ks) ep))):=by
 intro pins s σ H Q I h
 have l1:keys.length=ks.length:=by have:=congrArg Fc hk;rw [D0,D0] at this;exact this
 have l2:values.length=ks.length:=by have:=congrArg Fc hv;rw [D0,D0] at this;exact this
 have hall:keys.all (·.isSome)=true:=by
  rw [Em]
  intro e he
  have:u6 e∈ks.map (λx=>some x.1):=by rw [← hk];exact EB.mpr ⟨e,he,rfl⟩
  obtain ⟨y,_,ey⟩:=EB.mp this
  cases e with
  | none=>cases ey
  | some _=>rfl
 refine wpAny_Dict_walk (knd:=PySem.strKind X.prog X.w) hall (by omega) (λz=>h0 (Et (by rw [← l1,z];rfl))) (by omega) ?_
 have hd:(s.heap.push { cls:=.type "dict",data:=.dict #[] }).DictOf (PySem.strKind X.prog X.w) s.heap.objs.size []:=Heap.DictOf.new s.heap
 obtain ⟨ep,da⟩:=hd.dictAt
 have hsys:(s.heap.objs.size == sysModules)=false:=beq_eq_false_iff_ne.mpr (Ne.symm (Ej I.BR))
 have I0:Inv X pins σ (upd H s.heap.objs.size (.dE [] ep)) { s with heap:=s.heap.push { cls:=.type "dict",data:=.dict #[] } }:=I.laid (a:=s.heap.objs.size) (o:=.dE [] ep) (t':=s.toks) (λ_ _ q=>Heap.get?_push_of_some _ q) (D5 _) ⟨Ex _,hsys,[],.nil,da⟩
 refine iC ks hk hv I0 λvs s1 I1 ha hr=>?_
 obtain ⟨_,_,vs0,rel0,da0⟩:=rX I1 aq
 cases rel0
 refine display_done_str ha (by rw [tH hr];unfold wo;rw [Fu];exact hn) da0.dictOf λh' dd hs=>?_
 obtain ⟨ep',I2⟩:=rY (t':=s1.toks + vs.length) I1 aq hs (by unfold wo;rw [D0];exact D1 hl (by decide)) hsys hr dd
 rw [wb] at I2
 exact ⟨.ref s.heap.objs.size,_,I2,rfl,h _ (I.hok.fresh (D5 _)) ep'⟩
end
end L2
namespace Ov
open PySem PySem.Spec PyProof.Rows
open L2 (V HO Hp Inv Cx VK XK TE TT TA TS TG jW TI TO dA Ends jc Loc Gl Rd RelV Vals cn jb aZ gh h8 hU dQ R2 upd aq aB bO dz Sp g_ It aN bf bj Passes ka bS Meth Mk Binds aM cu ax bN b9 fI l3 wM wu hZ)
def yM (ks:List (Str × Int)):bQ:=λ_ J Q=>∀p,J p=none→∀ep,Q (.ref p) (put J p (.dct (ks.map λx=>(x.1,PV.int x.2)) ep))
theorem tY {K:PySem.W.Frag} {J:Hq} {H:Hp}:∀ks:List (Str × Int),iI K J H (ks.map λx=>(x.1,PV.int x.2)) (L2.wo ks)
 | []=>⟨rfl,rfl⟩
 | x :: ks=>by
  obtain ⟨h1,h2⟩:=tY (K:=K) (J:=J) (H:=H) ks
  exact ⟨congrArg (x.1 :: ·) h1,_,_,rfl,rfl,h2⟩
theorem qY {K:PySem.W.Frag} {J:Hq} {H:Hp} {p:Addr} {ep:Nat} (ks:List (Str × Int)) (r:Rep K J H) (n:H p=none):Rep K (put J p (.dct (ks.map λx=>(x.1,PV.int x.2)) ep)) (upd H p (.dE (L2.wo ks) ep)):=by
 have e:=Ext.laid (K:=K) (J:=J) (o:=.dE (L2.wo ks) ep) (u:=.dct (ks.map λx=>(x.1,PV.int x.2)) ep) n
 refine r.zg e p (λa ne=>dm ne) (λa o ne _ z=>by rw [aB ne];exact z) λu z=>?_
 rw [bq] at z;cases z
 exact ⟨L2.wo ks,aq,tY ks⟩
theorem tW {X:Cx} {G:G2} {keys:List (Option Expr)} {values:List Expr} {pos:Pos} (ks:List (Str × Int)) (hk:keys.map L2.u6=ks.map (λx=>some x.1)) (hv:values.map L2.xV=ks.map (λx=>some x.2)) (hn:(ks.map (·.1)).Nodup:=by decide +kernel) (h0:ks≠[]:=by simp) (hl:ks.length≤15:=by decide):RE X G (.Dict keys values pos) (yM ks) :=
 ⟨iD (L2.tE ks hk hv hn h0 hl) λσ H Q ⟨τ,J,Q2,a2,q,k⟩ p hp ep=>k (.ref p) _ _ _ rfl (qY ks a2.hp hp) (.laid hp) (q p (a2.hp.free hp) ep)⟩
section
variable {X:Cx}
def vJ:iH:=λx y J Q=>nk x λz=>qR y λi=>mL (bN z.cps.toList i) λc=>z.length≤sizeLine∧Q (.str (sgn c)) J
theorem nF:Bz X vJ:=⟨_,L2.nG,λJ H x y v w Q2 Q rx ry r h k=>by
 obtain ⟨z,ex,h⟩:=cO h;obtain ⟨i,ey,h⟩:=dg h;obtain ⟨c,ec,hl,q⟩:=eo h
 subst ex ey;cases rx;cases ry
 exact ⟨z,i,c,rfl,rfl,hl,ec,k (.str _) J _ H rfl r .refl q⟩⟩
theorem vr:cn X (binaryOp .Mult) (λx z H Q=>∃(ch:Nat) (n:Int),x=.str (sgn ch)∧z=.int n∧2≤n∧n≤10000∧Q (.str ⟨(Ea n.toNat ch).toArray⟩) H):=by
 intro pins s σ H x z v u Q I rx rz h
 obtain ⟨ch,n,rfl,rfl,h0,h1,q⟩:=h
 obtain ⟨t,rfl⟩:=rx
 obtain ⟨t',rfl⟩:=rz
 have hl:(sgn ch).length=1:=rfl
 have z4:(10000:Nat)≤sizeLine:=by decide
 refine PySem.P.mul_str (by simp only [Bool.or_eq_false_iff,decide_eq_false_iff_not];omega) (λa _=>?_) (λ_ _=>?_) ?_
 ·rw [hl]
  have:(1:Int)≤(2 ^ 63 - 1) / n:=by
   rw [Int.le_ediv_iff_mul_le (by omega)]
   omega
  show ¬ (((1:Nat):Int) > _)
  omega
 ·rw [hl]
  show decide (_ > sizeLine)=false
  simp only [decide_eq_false_iff_not]
  omega
 ·rw [if_neg (show ¬ n < 1 by omega)]
  have e:(n == 1 || (sgn ch).length == 0)=false:=by
   rw [hl]
   have:n≠1:=by omega
   simp [this]
  rw [e]
  have f:=si ch n.toNat #[]
  have g:(Ea n.toNat (sgn ch).cps).foldl (· ++ ·) #[]=(Ea n.toNat ch).toArray:=by
   rw [show (sgn ch).cps=#[ch] from rfl,f]
   simp
  rw [if_neg Ec,g]
  refine ⟨?_,⟨.str _,H,I.tok _,⟨_,rfl⟩,q⟩⟩
  show ((Ea n.toNat ch).toArray).size≤sizeLine
  simp only [D3,ES]
  omega
def wU:iH:=λx y J Q=>∃(ch:Nat) (n:Int),x=.str (sgn ch)∧y=.int n∧2≤n∧n≤10000∧Q (.str ⟨(Ea n.toNat ch).toArray⟩) J
theorem pF:j1 X (binaryOp .Mult) wU:=⟨_,vr,λJ H x y v w Q2 Q rx ry r ⟨ch,n,ex,ey,h0,h1,q⟩ k=>by
 subst ex ey;cases rx;cases ry
 exact ⟨ch,n,rfl,rfl,h0,h1,k (.str _) J _ H rfl r .refl q⟩⟩
end
end Ov
namespace Ov
open PySem PySem.StrLaws PySem.NumText PyProof.Rows
theorem pw {m:Nat} {r:List Nat} (h:nd m=48 :: r):r=[]:=by
 cases r with
 | nil=>rfl
 | cons a r =>
  have hd:=cA m
  rw [h] at hd
  have h2:digitsVal (nd m)=m:=PySem.W.KIN.val_back m
  rw [h] at h2
  have h3:digitsVal (48 :: a :: r)=digitsVal (a :: r):=rfl
  have h4:=oJ hd.tail
  rw [← h3,h2] at h4
  have h5:=lA (k:=(a :: r).length) (by simp) h4
  rw [h] at h5
  simp at h5
  omega
theorem pk {cs:List Nat} (hd:AllDigits cs) (ne:cs≠[]) (h:cs=[48]∨cs.head?≠some 48):nd (digitsVal cs)=cs:=by
 obtain ⟨c,r,rfl⟩:∃c r,cs=c :: r:=by cases cs with
  | nil=>exact absurd rfl ne
  | cons c r=>exact ⟨c,r,rfl⟩
 have e:Nat.toDigits 10 (digitsVal (c :: r))=(c :: r).map Char.ofNat:=by
  refine toDigits_digitsVal r.length (c :: r) rfl hd ?_
  rcases h with h | h
  ·injection h with _ h2;rw [h2];exact .inl rfl
  ·refine .inr ⟨c,r,rfl,?_⟩
   have h1:=hd.head
   have h2:c≠48:=λz=>h (by rw [z];rfl)
   omega
 unfold nd
 rw [e,Fu]
 refine (Fx λx hx=>?_).trans (FR _)
 have hx:=hd x hx
 show (Char.ofNat x).toNat=x
 unfold Char.ofNat
 rw [dif_pos (show x.isValidChar from .inl (by omega))]
 show (UInt32.ofNatLT x _).toNat=x
 rfl
theorem g9:("0":Str)=⟨#[48]⟩:=by decide +kernel
theorem lE {y:Str}:(∃n:Int,n.natAbs < 10 ^ 12∧y=txt n)↔fS y∧¬ ((aF y).cps.toList.head?=some 48∧y≠("0":Str)):=by
 constructor
 ·rintro ⟨n,hn,rfl⟩
  refine ⟨(fu hn).1,λ⟨h1,h2⟩=>?_⟩
  cases n with
  | ofNat m =>
   have e:(txt (Int.ofNat m)).cps.toList=nd m:=i4 m
   rw [gF λcs=>by rw [e];exact pq m cs,e] at h1
   obtain ⟨r,hr⟩:=Fl.mp h1
   have:=pw hr
   subst this
   exact h2 (fB (by rw [e,hr,g9]))
  | negSucc m =>
   have e:=i5 m
   rw [gE e] at h1
   obtain ⟨r,hr⟩:=Fl.mp h1
   have:=pw hr
   subst this
   have h3:digitsVal (nd (m + 1))=m + 1:=PySem.W.KIN.val_back (m + 1)
   rw [hr] at h3
   have:digitsVal [48]=0:=rfl
   omega
 ·rintro ⟨ok,hz⟩
  obtain ⟨h1,h2,h3⟩:=ok
  have hd:=jd.mp h3
  have hb:digitsVal (aF y).cps.toList < 10 ^ 12:=D4 (oJ hd) (E5 (by decide) (by rw [len_list];exact h2))
  have hne:(aF y).cps.toList≠[]:=by
   intro e;have:=len_list (aF y);rw [e] at this;simp at this;omega
  by_cases z:∃cs,y.cps.toList=45 :: cs
  ·obtain ⟨cs,e⟩:=z
   have ef:=gE e
   rw [ef] at hd hb hne hz
   have y0:y≠("0":Str):=λq=>by rw [q,g9] at e;cases e
   have hh:cs.head?≠some 48:=λq=>hz ⟨q,y0⟩
   have hb2:=pk hd hne (.inr hh)
   obtain ⟨k,hk⟩:∃k,digitsVal cs=k + 1:=by
    cases q:digitsVal cs with
    | zero=>rw [q] at hb2;exact absurd (by rw [← hb2];rfl) hh
    | succ k=>exact ⟨k,rfl⟩
   refine ⟨Int.negSucc k,by show k + 1 < _;omega,fB ?_⟩
   rw [i5,← hk,hb2,e]
  ·have ef:=gF (y:=y) λcs e=>z ⟨cs,e⟩
   rw [ef] at hd hb hne hz
   have hh:y.cps.toList=[48]∨y.cps.toList.head?≠some 48:=by
    by_cases q:y=("0":Str)
    ·left;rw [q,g9]
    ·exact .inr λq2=>hz ⟨q2,q⟩
   have hb2:=pk hd hne hh
   refine ⟨Int.ofNat (digitsVal y.cps.toList),by show digitsVal _ < _;exact hb,fB ?_⟩
   rw [show (txt (Int.ofNat (digitsVal y.cps.toList))).cps.toList=nd _ from i4 _,hb2]
theorem kK (y:Str):(Txt.slice y none (some 1)=("-":Str))=(Txt.startswith y "-"=true):=propext (by
 rw [gd,mH]
 have hl:=len_list y
 cases hy:y.cps.toList with
 | nil =>
  rw [hy] at hl
  have h1:=Txt.slice_le y none (some 1)
  constructor
  ·intro h
   rw [h] at h1
   have:(⟨#[45]⟩:Str).length=1:=rfl
   simp at hl
   omega
  ·rintro ⟨cs,h⟩;cases h
 | cons a l =>
  have e:(Txt.slice y none (some 1)).cps.toList=[a]:=by
   have:=sliceText_to (x:=y) (j:=1) ⟨by decide,by rw [hy];simp;omega⟩
   show (sliceText y none (some 1)).cps.toList=[a]
   rw [this,hy]
   simp
  constructor
  ·intro h
   rw [h] at e
   injection e with e1 _
   exact ⟨l,by rw [← e1]⟩
  ·rintro ⟨cs,h⟩
   injection h with h1 _
   exact fB (by rw [e,h1]))
end Ov
set_option maxHeartbeats 4000000
namespace Ov
open PySem PySem.Spec PyProof.Rows L2
def top (i:Nat):Stmt:=PySem.Challenge.pw_overhaul_k53_lines_refused.main.body.getD i (.Pass ⟨0,0,0,0⟩)
set_option compiler.extract_closed false
set_option hygiene false
local macro_rules | `(tactic| dsimp! [$ls,*])=>`(tactic| simp only [v5,p9,m_,iB,v3,xf,vX,qb,uh,BM,oF,tC,rI,ur,rU,DD,DG,vS,vR,vT,Int.reduceLT,vZ,cq,oE,vW,jT,v7,q_,vY,p_,p7,Bl,ug,Bk,tB,BK,p8,BJ,pP,zU,wx,zT,o8,o9,o_,AV,AX,wZ,AY,DW,iA,jf,me,rS,HO.lst.injEq,HO.tup.injEq,List.set_cons_zero,List.set_cons_succ,List.getElem?_cons_zero,List.getElem?_cons_succ,Option.some.injEq,exists_eq_left',exists_eq_left,exists_and_left,exists_eq,exists_eq',V.int.injEq,V.bl.injEq,V.ref.injEq,V.str.injEq,V.ty.injEq,decide_eq_true_eq,true_and,and_true,List.cons.injEq,List.append_nil,List.cons_append,List.nil_append,reduceCtorEq,Bool.not_eq_true',decide_eq_false_iff_not,and_assoc,ite_not,if_true,if_false,Bool.false_eq_true,decide_true,decide_false,L2.start,List.map_cons,List.map_nil,List.length_cons,List.length_nil,Nat.reduceAdd,Nat.reduceSub,List.replicate,kY,Cx.yj,Cx.jV,false_and,and_false,exists_false,false_or,or_false,id,dv,Option.getD_some,AW,BL,qa,i2,A7,y6,uT,w9,$ls,*])
local macro_rules | `(tactic| simp_arith [$t:term])=>`(tactic| refine Cn F $t (fun xs J Q E h=>?_) (fun cdv A outer s H E G xs J Q E2 hr h B=>?_))
local macro_rules | `(tactic| simp_arith [$t:term,$r:term])=>`(tactic| refine DT F $t (fun xs J Q E h=>?_) (fun cdv A outer s H E G E2 hr B=>$r) (fun xs J Q E2 h X hX=>?_))
local macro_rules | `(tactic| simp_arith [$t:term,$r:term,$u:term])=>`(tactic| refine Cm F $t (fun xs J Q E h=>?_) (fun cdv A outer s H E G E2 hr B=>$r) (fun xs J Q E2 h X hX=>?_))
local macro_rules | `(tactic| simp_arith! [$ls,*])=>`(tactic| simp only [vL,A8,DP,AM,CC,A_,rC,zv,DI,rB,CS,yL,CO,A3,wV,CP,w6,DF,A2,wX,A9,AZ,DE,pQ,w8,DH,BH,DC,CD,wW,CI,CN,CL,tT,wY,A5,A6,yN,BX,DO,DN,DQ,AO,A4,AQ,yF,tU,Du,Dx,Dv,Dw,CF,CG,wQ,qI,qU,Cw,wR,yJ,DB,CB,AN,CA,AI,AL,AK,yH,yI,Cy,pN,Cz,yG,vI,wO,Ca,B9,B_,Ce,Cf,zZ,zX,zY,C3,Bt,C2,C5,C6,C1,C4,Bq,Bn,Bp,Bs,Bo,Br,B7,B8,B3,B0,B2,B5,B6,B1,B4,CV,CZ,CY,BG,xF,xI,zM,xH,zN,pJ,lL,n_,pL,tL,eq_int,eq_str,zQ,zR,xZ,x4,Bu,yc,xX,xR,jS,zo,zp,zl,zm,Nat.reduceAdd,Nat.reduceSub,Nat.reduceLeDiff,Df,Dg,zj,zk,List.append_nil,C8,C9,Dh,Di,Option.some.injEq,exists_eq_left',exists_eq_left,exists_and_left,exists_eq,exists_eq',PV.int.injEq,PV.bl.injEq,PV.ref.injEq,PV.str.injEq,PV.ty.injEq,PV.tup.injEq,PV.fl.injEq,HQ.lst.injEq,HQ.ins.injEq,HQ.dct.injEq,decide_eq_true_eq,true_and,and_true,List.cons.injEq,reduceCtorEq,Bool.not_eq_true',decide_eq_false_iff_not,and_assoc,ite_not,if_true,if_false,Bool.false_eq_true,decide_true,decide_false,false_and,and_false,exists_false,false_or,or_false,id,iA,jf,me,rS,wm,zG,zH,zI,zJ,zK,xA,xB,DX,Dc,C_,De,bq,Bool.and_true,Dj,Bool.and_false,C7,z_,Aa,Ab,Ac,Ad,Ae,Af,Ag,Ah,Ai,yd,ye,yf,Bv,zc,v_,zd,ze,wa,String.reduceEq,Bx,By,mU,Dd,List.not_mem_nil,exists_const,Ax,Al,Ar,Am,Ay,Aw,AA,Aj,As,Aq,An,Au,yo,Av,AB,$ls,*])
local macro_rules | `(tactic| simp_all! [$ls,*])=>`(tactic| repeat (first | (with_reducible refine hNq _ _ ?_;clear hNq Nq) | with_reducible refine yZ fun Nq hNq=>?_ | simp_arith! [$ls,*]))
section
variable {P:Program} {w:World} {K:PySem.W.Frag} {mg:Str→Option Value} {base:Heap}
abbrev jL:Stmt:=(top 13)
abbrev fy:List Str:=["one","two"]
theorem iy:L2.ax ["one","two"] ["one","two"] (L2.aj jL):=jm
def m7:Sp:=λvs H Q _=>∃a b:Int,vs=[.int a,.int b]∧Q (.int (Int.gcd a b:Nat)) H
theorem qM {f:Addr} {fd:FuncData} (F:cu K "shared" "shared" jL f fd) (Z:we mg):aM P w K mg base kQ 1 f fd fy m7:=by
 refine F.ok iy (λvs H Q E h=>?_) (λcdv A outer s H vs Q E hr h=>?_)
 ·obtain ⟨a,b,rfl,_⟩:=h
  rfl
 obtain ⟨a,b,rfl,q⟩:=h
 refine ⟨_,(QB.run (aG (ip (i:=0) (j:=1) rfl iy.nd rfl rfl (by decide) rfl rfl (ak (aO gy rfl Z.abs boot_abs (ak (pv 0) aL)) (ak (aO gy rfl Z.abs boot_abs (ak (pv 1) aL)) aL)) rfl)
   (aG (gU PassesOwn.never (bX wH (pv 1) aJ (df _)) (bh (ip (i:=0) (j:=1) rfl iy.nd rfl rfl (by decide) rfl rfl (ak (pv 1) (ak (bc dh (pv 0) (pv 1)) aL)) rfl)))
   (bh (cD (pv 0)))))),?_⟩
 refine ⟨_,rfl,a,rfl,_,rfl,b,rfl,_,_,rfl,?_⟩
 refine ni (λσ H'=>∃x y:Int,σ=[some (.int x),some (.int y)]∧H=H'∧0≤x∧0≤y∧Int.gcd x y=Int.gcd a b) (λσ _=>match σ with | [_,some (.int y)]=>y.toNat | _=>0)
  ⟨_,_,rfl,rfl,by split <;> omega,by split <;> omega,uU a b⟩ ?_ (λσ H Q Q' m h=>?_)
 ·rintro σ H' ⟨x,y,rfl,rfl,hx,hy,hg⟩
  dsimp! [rJoin]
  split
  ·rename_i hy0
   subst hy0
   rw [← hg,o7 hx] at q
   exact q
  ·rename_i hy0
   have h1:=Int.emod_lt_of_pos x (show 0 < y by omega)
   have h2:=Int.emod_nonneg x hy0
   exact ⟨by omega,hy,h2,(mq hy0).trans hg,by omega⟩
 ·obtain ⟨v,e,hs,k,ek,hq⟩:=h
  exact ⟨v,e,hs,k,ek,m _ _ hq⟩
def Dig:List Int→List Int→Prop
 | [],[]=>True
 | d :: ds,s :: ss=>(0≤d∧d < s)∧Dig ds ss
 | _,_=>False
theorem Dig.snoc:∀{ds ss:List Int} {d s:Int},Dig ds ss→0≤d→d < s→Dig (ds ++ [d]) (ss ++ [s])
 | [],[],_,_,_,h0,h1=>⟨⟨h0,h1⟩,trivial⟩
 | _ :: _,_ :: _,_,_,h,h0,h1=>⟨h.1,Dig.snoc h.2 h0 h1⟩
 | [],_ :: _,_,_,h,_,_=>h.elim
 | _ :: _,[],_,_,h,_,_=>h.elim
theorem Dig.cons:∀{ds ss:List Int} {s:Int},Dig ds (s :: ss)→∃d r,ds=d :: r∧0≤d∧d < s∧Dig r ss
 | [],_,_,h=>h.elim
 | d :: r,_,_,h=>⟨d,r,rfl,h.1.1,h.1.2,h.2⟩
theorem Dig.nil:∀{ds:List Int},Dig ds []→ds=[]
 | [],_=>rfl
 | _ :: _,h=>h.elim
theorem Dig.len:∀{ds ss:List Int},Dig ds ss→ds.length=ss.length
 | [],[],_=>rfl
 | _ :: _,_ :: _,h=>congrArg Nat.succ (Dig.len h.2)
 | [],_ :: _,h=>h.elim
 | _ :: _,[],h=>h.elim
theorem take_snoc {xs:List Int} {i:Nat} {x:Int} (h:xs[i]?=some x):xs.take (i + 1)=xs.take i ++ [x]:=by
 rw [Eu,h]
 rfl
theorem jr {ns:List Int} {i:Nat} {y:V} (h:(ns.map V.int)[i]?=some y):∃z,y=V.int z∧ns[i]?=some z:=by
 rw [Eb] at h
 cases e:ns[i]? with
 | none=>rw [e] at h;cases h
 | some z=>rw [e] at h;exact ⟨z,(Option.some.inj h).symm,rfl⟩
abbrev oj:Stmt:=(top 27)
abbrev cS:List Str:=["_law_script","_law_k"]
theorem vO:L2.ax ["_law_script","_law_k"] ["_law_script","_law_k"] (L2.aj oj):=jm
def ua (K:PySem.W.Frag):Sp:=λvs H Q _=>∃(a:Addr) (ns:List Int) (k:Int),vs=[.ref a,.int k]∧bO K H a (ns.map V.int)∧0≤k∧k < 1000∧∀c,Q (.int c) H
theorem vj {f:Addr} {fd:FuncData} (F:cu K "_law_cell" "_law_cell" oj f fd) (Z:we mg):aM P w K mg base kQ 1 f fd cS (ua K):=by
 refine F.ok vO (λvs H Q E h=>?_) (λcdv A outer s H vs Q E hr h=>?_)
 ·obtain ⟨a,ns,k,rfl,_⟩:=h
  rfl
 obtain ⟨a,ns,k,rfl,hS,h0,h1,q⟩:=h
 refine ⟨_,(QB.run (aG (iE (bX sZ (pv 1) (aO cR rfl Z.len boot_len (ak (pv 0) aL)) (df _)) (bh (cD (dI iR (pv 0) (pv 1) (λ_ _=>rfl)))) dM)
   (bh (cD (bc er aJ (bc dH aJ (pv 1))))))),?_⟩
 refine ⟨_,rfl,_,rfl,a,_,rfl,.inl hS,_,_,rfl,rfl,_,rfl,?_⟩
 refine fU (λc=>?_) (λc=>?_)
 ·have c':k < (((ns.map V.int).length:Nat):Int):=of_decide_eq_true c
  rw [D0] at c'
  have e:(ns.map V.int)[k.toNat]?=some (.int (ns[k.toNat]'(by omega))):=by
   rw [Eb,D9 (by omega)]
   rfl
  have e2:=aU e
  rw [show ((k.toNat:Nat):Int)=k by omega] at e2
  exact ⟨_,rfl,_,rfl,a,_,k,_,rfl,rfl,hS,e2,q _⟩
 ·exact ⟨_,rfl,_,_,rfl,rfl,.of (Bd.small (by decide) (by decide)) (Bd.small (x:=k) (by omega) (by omega)),_,_,rfl,rfl,q _⟩
abbrev jI:Stmt:=(top 28)
abbrev bx:List Str:=["_law_cell_here","_law_sizes"]
theorem bP:L2.ax ["_law_cell_here","_law_sizes","_law_out","_law_rest","_law_size","_law_one","_law_k","_law_two"] ["_law_cell_here","_law_sizes"] (L2.aj jI):=jm
def jN (K:PySem.W.Frag):Sp:=λvs H Q _=>∃(c:Int) (a:Addr) (ss:List Int),vs=[.int c,.ref a]∧bO K H a (ss.map V.int)∧(∀s∈ss,0 < s∧Bd 9000 s)∧ss.length≤1000 ∧
 ∀(r:Addr) (H':Hp) (ds:List Int),H r=none→aN H H'→H' r=some (.lst (ds.map V.int))→Dig ds ss→Q (.ref r) H'
theorem qL {f:Addr} {fd:FuncData} (F:cu K "_law_digits" "_law_digits" jI f fd) (Z:we mg):aM P w K mg base kQ 1 f fd bx (jN K):=by
 refine F.ok bP (λvs H Q E h=>?_) (λcdv A outer s H vs Q E hr h=>?_)
 ·obtain ⟨c,a,ss,rfl,_⟩:=h
  rfl
 obtain ⟨c,a,ss,rfl,hS,hs,hl,q⟩:=h
 refine ⟨_,(QB.run (aG (bG (i:=2) bP.nd rfl (Or.inl rfl) (eB aL))
   (aG (iE (bX wD (pv 0) (bc nT aJ aJ) (df _)) (aG (bG (i:=3) bP.nd rfl (Or.inl rfl) (bc s_ (pv 0) (bc nT aJ aJ)))
   (aG (il PassesOwn.never rfl (gP (pv 1)) (fv (i:=4) bP.nd rfl (Or.inl rfl)) (aG (fx (jB PySem.F.plainAttrs_list PySem.F.slot_list_append PySem.F.type_list_append cX (pv 2) (ak (bc dh (pv 3) (pv 4)) aL)))
   (bh (bG (i:=3) bP.nd rfl (Or.inl rfl) (bc gM (pv 3) (pv 4))))))
   (bh (cD (pv 2))))) dM)
   (aG (bG (i:=5) bP.nd rfl (Or.inl rfl) (bc dh (pv 0) aJ))
   (aG (il PassesOwn.never rfl (cY rfl Z.range (ak (aO cR rfl Z.len boot_len (ak (pv 1) aL)) aL)) (fv (i:=6) bP.nd rfl (Or.inl rfl)) (aG (bG (i:=5) bP.nd rfl (Or.inl rfl) (bc dh (bc er (bc dH (pv 5) aJ) (bc dH aJ (bc er (pv 6) aJ))) aJ))
   (aG (bG (i:=7) bP.nd rfl (Or.inl rfl) (bc dh (bc er (bc er (bc dH (pv 5) (pv 5)) (bc dH aJ (pv 5))) (pv 6)) aJ))
   (bh (fx (jB PySem.F.plainAttrs_list PySem.F.slot_list_append PySem.F.type_list_append cX (pv 2) (ak (bc dh (bc gM (pv 7) aJ) (dI iR (pv 1) (pv 6) (λ_ _=>rfl))) aL)))))))
   (bh (cD (pv 2)))))))),?_⟩
 refine ⟨Ex _,λr hr'=>?_⟩
 have g0:=aN.new hr' (.lst [])
 refine ⟨_,rfl,_,_,rfl,rfl,⟨by decide,by decide,by decide⟩,_,_,rfl,rfl,_,rfl,?_⟩
 refine fU (λ_=>?_) (λ_=>?_)
 ·refine ⟨_,rfl,_,_,rfl,rfl,⟨by decide,by decide,by decide⟩,_,_,rfl,rfl,?_⟩
  refine ⟨_,rfl,a,rfl,⟨_,g0.seq hS⟩,sj (K:=K) (a:=a) (xs:=ss.map V.int) (λi σ H2=>∃(ds:List Int) (rest:Int) (u:Option V),σ=[some (.int c),some (.ref a),some (.ref r),some (.int rest),u,none,none,none] ∧
   aN H H2∧H2 r=some (.lst (ds.map V.int))∧Dig ds (ss.take i)) ⟨[],_,none,rfl,g0,aq,trivial⟩ (λi σ H2 _ ⟨_,_,_,_,s2,_⟩=>s2.seq hS) ?_ ?_⟩
  ·rintro i y σ H2 hi ⟨ds,rest,u,rfl,s2,hd,hD⟩
   obtain ⟨z,rfl,hz⟩:=jr hi
   obtain ⟨z0,zb⟩:=hs z (Ed hz)
   have hil:i < ss.length:=(D'.mp hz).1
   have dl:=hD.len
   rw [Ek] at dl
   refine ⟨_,rfl,.inl ⟨rfl,_,bO.of hd⟩,_,rfl,_,rfl,_,_,rfl,rfl,z0,r,_,_,rfl,rfl,hd,?_,?_⟩
   ·rw [D0]
    exact cG (by omega)
   refine ⟨_,rfl,_,rfl,_,_,rfl,rfl,⟨by omega,zb⟩,?_⟩
   refine ⟨ds ++ [rest % z],_,_,rfl,s2.zw hr' _,?_,?_⟩
   ·rw [aq,El]
    rfl
   ·rw [take_snoc hz]
    exact hD.snoc (Int.emod_nonneg _ (by omega)) (Int.emod_lt_of_pos _ z0)
  ·rintro σ H2 ⟨ds,rest,u,rfl,s2,hd,hD⟩
   rw [D0,Ez] at hD
   exact ⟨_,rfl,q r H2 ds hr' s2 hd hD⟩
 ·refine ⟨_,rfl,_,_,rfl,rfl,(show (0:Int) < 2147483647 by decide),?_⟩
  refine ⟨_,rfl,a,_,rfl,.inl (g0.seq hS),_,rfl,?_,?_,ku (lo:=0) (n:=(ss.map V.int).length) (λi σ H2=>∃(ds:List Int) (one:Int) (u v:Option V),σ=[some (.int c),some (.ref a),some (.ref r),none,none,some (.int one),u,v] ∧
   0≤one∧one < 2147483647∧aN H H2∧H2 r=some (.lst (ds.map V.int))∧Dig ds (ss.take i)) ⟨[],_,none,none,rfl,Int.emod_nonneg _ (by decide),Int.emod_lt_of_pos _ (by decide),g0,aq,trivial⟩ ?_ ?_⟩
  ·omega
  ·rw [D0];omega
  ·rintro i σ H2 hi ⟨ds,one,u,v,rfl,o0,o1,s2,hd,hD⟩
   rw [D0] at hi
   have hz:ss[i]?=some ss[i]:=D9 hi
   obtain ⟨z0,zb⟩:=hs ss[i] (EL hi)
   have dl:=hD.len
   rw [Ek] at dl
   have e1:bN (ss.map V.int) (0 + (i:Int))=some (.int ss[i]):=by
    rw [Int.zero_add]
    exact aU (by rw [Eb,hz];rfl)
   dsimp! [rJoin]
   have A0:0≤(one * 48271 + 10007 * (0 + (i:Int) + 1)) % 2147483629:=Int.emod_nonneg _ (by decide)
   have A1:(one * 48271 + 10007 * (0 + (i:Int) + 1)) % 2147483629 < 2147483629:=Int.emod_lt_of_pos _ (by decide)
   generalize (one * 48271 + 10007 * (0 + (i:Int) + 1)) % 2147483629=A at A0 A1 ⊢
   generalize ((A * A + 69621 * A + (0 + (i:Int))) % 2147483563).fdiv 11=B
   have small:∀x:Int,0≤x→x < 2147483648→Bd 64 x:=λx h1 h2=>Bd.small (by omega) (by omega)
   refine ⟨.of (small _ o0 (by omega)) (small _ (by decide) (by decide)),.of (small _ (by decide) (by decide)) (small _ (by omega) (by omega)),.of (small _ A0 (by omega)) (small _ A0 (by omega)),
    .of (small _ (by decide) (by decide)) (small _ A0 (by omega)),.inl ⟨rfl,_,bO.of hd⟩,⟨by decide,(small _ (by decide) (by decide)).mono (by decide)⟩,_,s2.seq hS,_,e1,_,rfl,z0,_,hd,?_,A0,by omega,s2.zw hr' _,ds ++ [B % ss[i]],?_,?_⟩
   ·rw [D0]
    exact cG (by omega)
   ·rw [aq,El]
    rfl
   ·rw [take_snoc hz]
    exact hD.snoc (Int.emod_nonneg _ (by omega)) (Int.emod_lt_of_pos _ z0)
  ·rintro σ H2 ⟨ds,one,u,v,rfl,o0,o1,s2,hd,hD⟩
   rw [D0,Ez] at hD
   exact ⟨_,rfl,q r H2 ds hr' s2 hd hD⟩
def Dr (H:Hp) (q:Rat) (Q:VK):Prop:=∀(r:Addr) (H':Hp),aN H H'→H' r=some (.tup [.int q.num,.int q.den])→Q (.ref r) H'
theorem xS {n:Nat} {t b:Int} (h:b≠0) (hb:Bd n b):Bd n ((Int.gcd t b:Nat):Int):=hb.le (by have:=xT (t:=t) h;omega)
abbrev t6:Stmt:=(top 30)
abbrev cN:List Str:=["_law_top","_law_bottom"]
theorem lT:L2.ax ["_law_top","_law_bottom","_law_one","_law_two"] ["_law_top","_law_bottom"] (L2.aj t6):=jm
def xa:Sp:=λvs H Q _=>∃t b:Int,vs=[.int t,.int b]∧0 < b∧Bd 9000 b∧Dr H (Rat.divInt t b) Q
theorem ym {f:Addr} {fd:FuncData} (F:cu K "_law_low" "_law_low" t6 f fd) (Z:we mg):aM P w K mg base kQ 1 f fd cN xa:=by
 refine F.ok lT (λvs H Q E h=>?_) (λcdv A outer s H vs Q E hr h=>?_)
 ·obtain ⟨t,b,rfl,_⟩:=h
  rfl
 obtain ⟨t,b,rfl,hb,bb,q⟩:=h
 have hg:=uV (t:=t) (show b≠0 by omega)
 have gb:=xS (t:=t) (show b≠0 by omega) bb
 refine ⟨_,(QB.run (aG (bG (i:=2) lT.nd rfl (Or.inl rfl) (aO gy rfl Z.abs boot_abs (ak (pv 0) aL)))
   (aG (bG (i:=3) lT.nd rfl (Or.inl rfl) (pv 1))
   (aG (gU PassesOwn.never (bX wH (pv 3) aJ (df _)) (bh (ip (i:=2) (j:=3) rfl lT.nd rfl rfl (by decide) rfl rfl (ak (pv 3) (ak (bc dh (pv 2) (pv 3)) aL)) rfl)))
   (bh (cD (lJ (ak (bc gM (pv 0) (pv 2)) (ak (bc gM (pv 1) (pv 2)) aL))))))))),?_⟩
 refine ⟨_,rfl,t,rfl,_,rfl,?_⟩
 refine ni (λσ H'=>∃x y:Int,σ=[some (.int t),some (.int b),some (.int x),some (.int y)]∧H=H'∧0≤x∧0≤y∧Int.gcd x y=Int.gcd t b) (λσ _=>match σ with | [_,_,_,some (.int y)]=>y.toNat | _=>0)
  ⟨_,_,rfl,rfl,by split <;> omega,by omega,so t b⟩ ?_ (λσ H Q Q' m h=>?_)
 ·rintro σ H' ⟨x,y,rfl,rfl,hx,hy,hg'⟩
  dsimp! [rJoin]
  split
  ·rename_i hy0
   subst hy0
   have ex:x=((Int.gcd t b:Nat):Int):=by rw [← hg',o7 hx]
   subst ex
   refine ⟨⟨by omega,gb⟩,⟨by omega,gb⟩,(by show 2≤sizeLine;decide),λp hp=>?_⟩
   exact q p _ (aN.new hp _) (by rw [aq,pB hb,den_pos hb])
  ·rename_i hy0
   have h1:=Int.emod_lt_of_pos x (show 0 < y by omega)
   have h2:=Int.emod_nonneg x hy0
   exact ⟨by omega,hy,h2,(mq hy0).trans hg',by omega⟩
 ·obtain ⟨v,e,hs,k,ek,hq⟩:=h
  exact ⟨v,e,hs,k,ek,m _ _ hq⟩
abbrev dO:Stmt:=(top 18)
abbrev cT:List Str:=["text"]
theorem lS:L2.ax ["text"] ["text"] (L2.aj dO):=jm
def aP:Str:="abcdefghijklmnopqrstuvwxyz0123456789"
def good (y:Str):Bool:=decide (1≤y.cps.size) && decide (y.cps.size≤8) && y.cps.toList.all (aY aP)
def ub (T:Addr):Sp:=λvs H Q _=>∃y:Str,vs=[.str y]∧y.length≤sizeLine∧H T=some (.ext (b8 T))∧Q (.bl (good y)) H
theorem lF {T f c:Addr} {fd:FuncData} (F:nr K mg "good_name" dO T f fd c) (Z:we mg) (Bm:BMain mg base) {fE i3:Tok} (dY:mg "LONGEST"=some (.int 8 fE)) (gG:mg "SIGNS"=some (.str "abcdefghijklmnopqrstuvwxyz0123456789" i3)) :
  aM P w K mg base kQ 1 f fd cT (ub T):=by
 refine DS F lS (λvs H Q E h=>?_) (λA outer s H vs Q E hr h=>?_)
 ·obtain ⟨y,rfl,_⟩:=h
  rfl
 obtain ⟨y,rfl,hz,hT,q⟩:=h
 refine ⟨_,(aG (iE (wN (pM (bX sZ (aO eg rfl Z.len boot_len (ak (pv 0) aL)) aJ (df _)) (lO (bX wF (aO eg rfl Z.len boot_len (ak (pv 0) aL)) (bI (v:=.int 8) rfl dY ⟨_,rfl⟩) (df _))))) (bh (cD mO)) dM)
   (bh (cD (tD rfl Bm rfl F.tab hr rfl Z.all gG (pv 0))))),?_⟩
 have el:y.cps.size=y.length:=rfl
 refine ⟨_,rfl,y,rfl,hz,_,_,rfl,rfl,_,rfl,fU (λe=>?_) (λe=>⟨_,rfl,y,rfl,hz,_,_,rfl,rfl,_,rfl,fU (λe2=>?_) (λe2=>?_)⟩)⟩
 ·have e:(y.length:Int) < 1:=of_decide_eq_true e
  have z:good y=false:=by
   unfold good
   rw [decide_eq_false (show ¬ 1≤y.cps.size by omega)]
   rfl
  show Q (.bl false) H
  rw [← z]
  exact q
 ·have e2:(8:Int) < (y.length:Int):=of_decide_eq_true e2
  have z:good y=false:=by
   unfold good
   rw [decide_eq_false (show ¬ y.cps.size≤8 by omega),EN]
   rfl
  show Q (.bl false) H
  rw [← z]
  exact q
 ·have e:¬ (y.length:Int) < 1:=of_decide_eq_false (Fb.mpr e)
  have e2:¬ (8:Int) < (y.length:Int):=of_decide_eq_false (Fb.mpr e2)
  have z:good y=y.cps.toList.all (aY aP):=by
   unfold good
   rw [decide_eq_true (show 1≤y.cps.size by omega),decide_eq_true (show y.cps.size≤8 by omega)]
   rfl
  refine ⟨_,rfl,y,rfl,hT,?_⟩
  show Q (.bl (y.cps.toList.all (aY aP))) H
  rw [← z]
  exact q
abbrev gZ:Stmt:=(top 32)
abbrev cK:List Str:=["_law_cell_here","_law_many"]
theorem ck:L2.ax ["_law_cell_here","_law_many","_law_signs","_law_row","_law_some","_law_body","_law_at","_law_out","_law_k"] ["_law_cell_here","_law_many"] (L2.aj gZ):=jm
def pZ:Sp:=λvs H Q _=>∃c m:Int,vs=[.int c,.int m]∧0≤m∧m≤36∧∀(r:Addr) (H':Hp) (xs:List Str),H r=none→aN H H'→H' r=some (.lst (xs.map V.str))→(xs.length:Int)=m→xs.Nodup→(∀x∈xs,good x=true)→Q (.ref r) H'
def menu:List Str:=["m","ab","a","zebra9","b0","0","abc","9zz","q7q7q7q7","aa","z","a1b2c3d4"]
def bC:Str:="abcdefghijklmnopqrstuvwxyz0123456789"
theorem vd:menu.Nodup:=by decide +kernel
theorem rQ:bC.cps.toList.Nodup:=by decide +kernel
theorem fm:bC.cps.toList.length=36:=by decide +kernel
theorem xC {α:Type} {xs:List α} {j:Int} (h0:0≤j) (h1:j < xs.length):bN xs j=some (xs[j.toNat]'(by omega)):=by
 have h:=aU (xs:=xs) (j:=j.toNat) (D9 (by omega))
 rw [show ((j.toNat:Nat):Int)=j by omega] at h
 exact h
def wt {α:Type} (xs:List α) (z:α) (d:Int) (k:Nat):α:=xs.getD ((d + 5 * (k:Int)) % (xs.length:Int)).toNat z
section
variable {α:Type} {xs:List α} {z:α} (d:Int)
theorem ji (h:0 < xs.length) (k:Nat):0≤(d + 5 * (k:Int)) % (xs.length:Int)∧(d + 5 * (k:Int)) % (xs.length:Int) < (xs.length:Int):=⟨Int.emod_nonneg _ (by omega),Int.emod_lt_of_pos _ (by omega)⟩
theorem gB (h:0 < xs.length) (k:Nat):xs[((d + 5 * (k:Int)) % (xs.length:Int)).toNat]?=some (wt xs z d k):=by
 have:=ji d h k
 unfold wt
 rw [List.getD_eq_getElem?_getD,D9 (by omega)]
 rfl
theorem xM (h:0 < xs.length) (k:Nat):bN xs ((d + 5 * (k:Int)) % (xs.length:Int))=some (wt xs z d k):=by
 have:=aU (gB (z:=z) d h k)
 rwa [Int.toNat_of_nonneg (ji d h k).1] at this
theorem oU (h:0 < xs.length) (k:Nat):wt xs z d k∈xs:=Ed (gB d h k)
theorem BW {M a b d u v:Int} (g:5 * u=1 + M * v) (a0:0≤a) (a1:a < M) (b0:0≤b) (b1:b < M) (e:(d + 5 * a) % M=(d + 5 * b) % M):a=b:=by
 have h:M ∣ 5 * (a - b):=by
  have:=Int.dvd_of_emod_eq_zero (Int.emod_eq_emod_iff_emod_sub_eq_zero.mp e)
  rwa [show d + 5 * a - (d + 5 * b)=5 * (a - b) by omega] at this
 obtain ⟨c,hc⟩:M ∣ a - b:=by
  obtain ⟨c,hc⟩:=h
  refine ⟨u * c - v * (a - b),?_⟩
  have h1:5 * u * (a - b)=u * (M * c):=by rw [← hc];grind
  rw [g] at h1
  grind
 rcases Int.lt_trichotomy c 0 with k | k | k
 ·have:M * c≤M * (-1):=Int.mul_le_mul_of_nonneg_left (by omega) (by omega)
  omega
 ·subst k;omega
 ·have:M * 1≤M * c:=Int.mul_le_mul_of_nonneg_left (by omega) (by omega)
  omega
theorem oS (u v:Int) (hn:xs.Nodup) (g:5 * u=1 + (xs.length:Int) * v) {i j:Nat} (hi:i < xs.length) (hj:j < xs.length) (e:wt xs z d i=wt xs z d j):i=j:=by
 have h:0 < xs.length:=by omega
 have a:=gB (z:=z) d h i
 have b:=gB (z:=z) d h j
 rw [e] at a
 obtain ⟨a1,a2⟩:=D'.mp a
 obtain ⟨b1,b2⟩:=D'.mp b
 have e1:=(FE hn).mp (a2.trans b2.symm)
 have:=ji d h i
 have:=ji d h j
 exact Int.ofNat.inj (BW g (Int.natCast_nonneg i) (Int.ofNat_lt.mpr hi) (Int.natCast_nonneg j) (Int.ofNat_lt.mpr hj) (show (d + 5 * (i:Int)) % _=(d + 5 * (j:Int)) % _ by omega))
end
theorem sP:menu.length=12:=by decide +kernel
abbrev pick:Int→Nat→Str:=wt menu ""
theorem vD (d:Int) (k:Nat):bN (menu.map V.str) ((d + 5 * (k:Int)) % 12)=some (.str (pick d k)):=by
 have h:=ji (xs:=menu) d (by decide +kernel) k
 have g:=aU (xs:=menu.map V.str) (j:=((d + 5 * (k:Int)) % (menu.length:Int)).toNat) (by rw [Eb,gB (xs:=menu) (z:="") d (by decide +kernel) k];rfl)
 rw [Int.toNat_of_nonneg h.1,sP] at g
 exact g
theorem tG (d:Int) {m:Nat} (hm:m≤12):((Ey m).map (pick d)).Nodup:=by
 refine List.Pairwise.map (R:=λi j=>i < 12∧j < 12∧i≠j) _ (λi j ⟨a,b,c⟩ e=>c (oS d 5 2 vd (by decide +kernel) a b e)) ?_
 refine List.Pairwise.imp_of_mem (R:=λi j=>i≠j) (λ{i j} hi hj ne=>?_) (List.nodup_range)
 rw [EM] at hi hj
 exact ⟨by omega,by omega,ne⟩
theorem qF:∀x∈menu,good x=true:=by decide +kernel
theorem je:∀c∈bC.cps.toList,aY aP c=true:=by decide +kernel
theorem qT (d:Int) (k:Nat):good (pick d k)=true:=qF _ (oU d (by decide +kernel) k)
theorem uW {cs:List Nat} (h0:0 < cs.length) (h1:cs.length≤8) (h:∀c∈cs,aY aP c=true):good ⟨cs.toArray⟩=true:=by
 unfold good
 rw [Eh,Eh]
 refine ⟨⟨decide_eq_true ?_,decide_eq_true ?_⟩,Em.mpr λc hc=>h c (by simpa using hc)⟩
 ·show 1≤cs.toArray.size;rw [D3];omega
 ·show cs.toArray.size≤8;rw [D3];omega
abbrev sign:Int→Nat→Nat:=wt bC.cps.toList 0
theorem vU (d:Int) (k:Nat):bN bC.cps.toList ((d + 5 * (k:Int)) % 36)=some (sign d k):=by
 have h:=xM (xs:=bC.cps.toList) (z:=0) d (by decide +kernel) k
 rw [fm] at h
 exact h
theorem q9 (d:Int) (k:Nat):aY aP (sign d k)=true:=je _ (oU d (by decide +kernel) k)
theorem t_ (d:Int) {i j:Nat} (hi:i < 36) (hj:j < 36) (e:sign d i=sign d j):i=j:=oS d (-7) (-1) rQ (by decide +kernel) (by rw [fm];exact hi) (by rw [fm];exact hj) e
theorem ui {d:Int} {n:Nat} {xs:List Str} (hl:xs.length≤36) (h:∀k x,xs[k]?=some x→x.cps.toList[n]?=some (sign d k)):xs.Nodup:=by
 refine List.pairwise_iff_getElem.mpr λi j hi hj hij e=>?_
 have a:=h i _ (D9 hi)
 have b:=h j _ (D9 hj)
 rw [e] at a
 rw [a] at b
 have:=t_ d (by omega) (by omega) (Option.some.inj b)
 omega
theorem rW {xs:List V} {k:Int} (h:0≤k):j5 xs none (some k)=xs.take k.toNat:=by
 obtain ⟨j,rfl⟩:∃j:Nat,k=(j:Int):=⟨k.toNat,by omega⟩
 unfold j5
 rw [HT.t4,HT.lP,List.drop_zero,Int.toNat_natCast]
 rcases Nat.le_total j xs.length with e | e
 ·rw [Nat.min_eq_left e]
  rfl
 ·rw [Nat.min_eq_right e,Nat.sub_zero,EO (D5 _),EO e]
theorem sY (cs:List Nat):((cs.map one).map (·.length)).sum=cs.length:=by
 induction cs with
 | nil=>rfl
 | cons c cs ih =>
  rw [D_,D_,List.sum_cons,ih,Ee]
  show 1 + cs.length=cs.length + 1
  omega
theorem Bf {ds:List Int} (hD:Dig ds [3,36,8,36,36,36,36,36,36,36,36,840]):∃(d0 d1 d2 d11:Int) (es:List Int),bN (ds.map V.int) 0=some (.int d0)∧bN (ds.map V.int) 1=some (.int d1)∧bN (ds.map V.int) 2=some (.int d2)∧bN (ds.map V.int) 11=some (.int d11) ∧
  j5 (ds.map V.int) (some 3) (some 11)=es.map V.int∧es.length=8∧(∀e∈es,0≤e∧e < 36)∧0≤d2∧d2 < 8:=by
 obtain ⟨d0,ds,rfl,_,_,hD⟩:=hD.cons
 obtain ⟨d1,ds,rfl,_,_,hD⟩:=hD.cons
 obtain ⟨d2,ds,rfl,d20,d21,hD⟩:=hD.cons
 have key:∀(n:Nat) {ds:List Int},Dig ds (Ea n 36 ++ [840])→∃es d,ds=es ++ [d]∧es.length=n∧∀e∈es,0≤e∧e < 36:=by
  intro n
  induction n with
  | zero=>intro ds h;obtain ⟨d,ds,rfl,_,_,h⟩:=h.cons;cases h.nil;exact ⟨[],d,rfl,rfl,λe he=>by cases he⟩
  | succ n ih =>
   intro ds h
   obtain ⟨d,ds,rfl,h0,h1,h⟩:=h.cons
   obtain ⟨es,x,rfl,hl,he⟩:=ih h
   exact ⟨d :: es,x,rfl,congrArg Nat.succ hl,List.forall_mem_cons.mpr ⟨⟨h0,h1⟩,he⟩⟩
 obtain ⟨es,d11,rfl,hl,he⟩:=key 8 hD
 refine ⟨d0,d1,d2,d11,es,aU (j:=0) rfl,aU (j:=1) rfl,aU (j:=2) rfl,aU (j:=11) ?_,?_,hl,he,d20,d21⟩
 ·rw [Eb,Eo,Eo,Eo,EE (by omega),hl];rfl
 ·have h11:((d0 :: d1 :: d2 :: (es ++ [d11])).map V.int).length=12:=by simp [hl]
  unfold j5
  rw [show (some (3:Int))=some ((3:Nat):Int) from rfl,show (some (11:Int))=some ((11:Nat):Int) from rfl,HT.lP,HT.lP,h11]
  show List.take 8 ((es ++ [d11]).map V.int)=_
  rw [El,List.take_append_of_le_length (by simp [hl]),EO (by simp [hl])]
theorem u5 {p q a b:Prop} [Decidable p] [Decidable q]:(if p then if q then a else b else b)=if p∧q then a else b:=by by_cases hp:p <;> by_cases hq:q <;> simp [hp,hq]
theorem sT {f:Addr} {fd:FuncData} (F:cu K "_law_names" "_law_names" gZ f fd) (Z:we mg) (b7:qg P w K mg base 1 "_law_digits" bx (jN K)):aM P w K mg base kQ 2 f fd cK pZ:=by
 refine F.ok ck (λvs H Q E h=>?_) (λcdv A outer s H vs Q E hr h=>?_)
 ·obtain ⟨c,m,rfl,_⟩:=h
  rfl
 obtain ⟨c,m,rfl,m0,m1,q⟩:=h
 refine ⟨_,(QB.run (aG (bG (i:=2) ck.nd rfl (Or.inr rfl) fV)
   (aG (bG (i:=3) ck.nd rfl (Or.inr rfl) (AF b7 hr (by decide) rfl (ak (pv 0) (ak (eB (tw [.int 3,.int 36,.int 8,.int 36,.int 36,.int 36,.int 36,.int 36,.int 36,.int 36,.int 36,.int 840] rfl)) aL))))
   (aG (iE (wN (lN (bX wC (dI de (pv 3) aJ (λ_ _=>rfl)) aJ (df _)) (iX (bX wG (pv 1) aJ (df _))))) (aG (bG (i:=4) ck.nd rfl (Or.inr rfl) (eB (tw [.str "m",.str "ab",.str "a",.str "zebra9",.str "b0",.str "0",.str "abc",.str "9zz",.str "q7q7q7q7",.str "aa",.str "z",.str "a1b2c3d4"] rfl)))
   (bh (cD (vB (aj gZ) ["_law_cell_here","_law_many","_law_signs","_law_row","_law_some","_law_body","_law_at","_law_out","_law_k"] [("_law_row",3),("_law_some",4)] rfl rfl rfl (cY rfl Z.range (ak (pv 1) aL)) (λ_ _ _ _ _ _=>(dI de (pv 2) (bc dh (bc er (dI de (pv 1) aJ (λ_ _=>rfl)) (bc dH aJ (pv 0))) aJ) (λ_ _=>rfl))))))) dM)
   (aG (vE (i:=5) (aj gZ) ["_law_cell_here","_law_many","_law_signs","_law_row","_law_some","_law_body","_law_at","_law_out","_law_k"] [("_law_signs",2)] rfl rfl rfl ck.nd rfl (Or.inl rfl) (gP (eX lV (pv 3) (fw aJ) (fw aJ))) (λ_ _ _ _ _ _=>(dI nG (pv 1) (pv 0) (λ_ _=>rfl))))
   (tJ (iE (bX wC (dI de (pv 3) aJ (λ_ _=>rfl)) aJ (df _)) (bh (bG (i:=5) ck.nd rfl (Or.inl rfl) (eX lV (pv 5) iW (fw (bc er (dI de (pv 3) aJ (λ_ _=>rfl)) aJ))))) dM)
   (aG (bG (i:=6) ck.nd rfl (Or.inl rfl) (bc dh (dI de (pv 3) aJ (λ_ _=>rfl)) (aO cR rfl Z.len boot_len (ak (pv 5) aL))))
   (aG (bG (i:=7) ck.nd rfl (Or.inl rfl) (eB aL))
   (aG (il PassesOwn.never rfl (cY rfl Z.range (ak (pv 1) aL)) (fv (i:=8) ck.nd rfl (Or.inl rfl)) (aG (n6 (dI nG (pv 2) (bc dh (bc er (dI de (pv 3) aJ (λ_ _=>rfl)) (bc dH aJ (pv 8))) aJ) (λ_ _=>rfl)) (n1 (pv 5) (pv 6) set_list))
   (bh (fx (jB PySem.F.plainAttrs_list PySem.F.slot_list_append PySem.F.type_list_append cX (pv 7) (ak (jB PySem.F.plainAttrs_str PySem.F.slot_str_join PySem.F.type_str_join pj fV (ak (pv 5) aL)) aL))))))
   (bh (cD (pv 7)))))))))))),?_⟩
 refine ⟨_,rfl,(by show 12≤sizeLine;decide),λp hp=>?_⟩
 have ss:=g7 (ss:=[3,36,8,36,36,36,36,36,36,36,36,840]) (by decide)
 refine ⟨c,p,[3,36,8,36,36,36,36,36,36,36,36,840],rfl,bO.of aq,ss,by decide,λr H1 ds _ g1 hr1 hD=>?_⟩
 obtain ⟨d0,d1,d2,d11,es,at0,at1,at2,at11,hcut,el,be,d20,d21⟩:=Bf hD
 clear hD
 generalize ds.map V.int=row at hr1 at0 at1 at2 at11 hcut
 have g1:=(aN.new hp _).trans g1
 dsimp! [rJoin,hr1,at0,at1]
 rw [u5]
 split
 ·refine ⟨(by show 12≤sizeLine;decide),λp2 hp2=>?_⟩
  have g2:=aN.new hp2 (.lst (menu.map V.str))
  have h2:(upd H1 p2 (.lst (menu.map V.str))) p2=some (.lst (menu.map V.str)):=aq
  have hr2:=g2 _ _ hr1
  refine ⟨_,rfl,m,rfl,by omega,by omega,λD hD=>?_⟩
  refine sI (lo:=0) (n:=m.toNat) (λi H'=>aN (upd H1 p2 (.lst (menu.map V.str))) H'∧H' D=some (.lst (((Ey i).map (pick d1)).map V.str))) ⟨aN.new hD _,aq⟩ ?_ ?_
  ·rintro i H' R hi ⟨g,hd⟩ k
   have hr3:=g _ _ hr2
   have h3:=g _ _ h2
   dsimp! [rJoin,hr3,h3,at1,Int.zero_add]
   refine ⟨.of (Bd.small (by decide) (by decide)) (Bd.small (x:=(i:Int)) (by omega) (by omega)),_,vD d1 i,?_⟩
   refine k _ _ _ hd (by rw [D0,D0,E4];exact cG (by omega)) ⟨g.zw hD _,?_⟩
   rw [aq]
   simp [List.range_succ]
  ·rintro H' ⟨g,hd⟩
   exact q D H' _ (g1.free (g2.free hD)) (g1.trans (g2.trans g)) hd (by rw [D0,E4];omega) (tG d1 (by omega)) (λx hx=>by obtain ⟨k,_,rfl⟩:=EB.mp hx;exact qT d1 k)
 refine ⟨_,rfl,3,rfl,11,rfl,r,_,rfl,bO.of hr1,λp2 hp2=>⟨p2,rfl,⟨_,bO.of aq⟩,λD hD=>?_⟩⟩
 rw [hcut] at hD ⊢
 have g2:=aN.new hp2 (.lst (es.map V.int))
 have hr2:=g2 _ _ hr1
 have h2:(upd H1 p2 (.lst (es.map V.int))) p2=some (.lst (es.map V.int)):=aq
 have al:=fm
 have al2:bC.length≤sizeLine:=by decide +kernel
 refine vb (K:=K) (a:=p2) (xs:=es.map V.int) (λi H'=>aN (upd H1 p2 (.lst (es.map V.int))) H'∧∃cs:List Nat,cs.length=i∧(∀c∈cs,aY aP c=true)∧H' D=some (.lst ((cs.map one).map V.str)))
  ⟨aN.new hD _,[],rfl,(λc hc=>by cases hc),aq⟩ (λi H' _ ⟨g,_⟩=>bO.of (g _ _ h2)) ?_ ?_
 ·rintro i y H' R hi ⟨g,cs,hcs,hca,hd⟩ k
  have hil:=(D'.mp hi).1
  obtain ⟨z,rfl,hz⟩:=jr hi
  obtain ⟨z0,z1⟩:=be z (Ed hz)
  have at1:=xC (xs:=bC.cps.toList) z0 (by rw [al];exact z1)
  dsimp! [rJoin]
  refine ⟨al2,_,at1,?_⟩
  refine k _ _ _ hd (by rw [D0,D0,hcs];rw [D0] at hil;exact cG (by omega)) ⟨g.zw hD _,cs ++ [bC.cps.toList[z.toNat]'(by rw [al];omega)],by rw [EF,hcs];rfl,?_,?_⟩
  ·intro c hc
   rcases EC.mp hc with hc | hc
   ·exact hca c hc
   ·rw [Es] at hc;subst hc;exact je _ (EL _)
  rw [aq,El,El]
  rfl
 rintro H2 ⟨g,cs,hcs,hca,hd⟩
 have hr3:=g _ _ hr2
 have g:=g1.trans (g2.trans g)
 have hcs:cs.length=8:=hcs.trans ((D0 _).trans el)
 obtain ⟨M,hM⟩:∃M:L2.St→Hp→Prop,∀σ' H',M σ' H'↔∃(D:Addr) (cs:List Nat),σ'=[some (.int c),some (.int m),some (.str bC),some (.ref r),none,some (.ref D),none,none,none]∧aN H H'∧H D=none∧H' r=some (.lst row)∧D≠r∧0 < cs.length∧cs.length≤8∧(∀c∈cs,aY aP c=true)∧H' D=some (.lst ((cs.map one).map V.str)):=⟨_,λ_ _=>Iff.rfl⟩
 have fD:H D=none:=g1.free (g2.free hD)
 have nDr:D≠r:=(aR hr2 hD).symm
 refine ⟨M,?_,?_⟩
 ·dsimp! [rJoin,hr3,at0,at2]
  split
  ·refine ⟨_,bO.of hd,λp4 hp4=>(hM _ _).mpr ⟨p4,cs.take (d2 + 1).toNat,rfl,g.trans (aN.new hp4 _),g.free hp4,?_,?_,?_,?_,(λc hc=>hca c (EV hc)),?_⟩⟩
   ·exact (aN.new hp4 _) _ _ hr3
   ·exact (aR hr3 hp4).symm
   ·rw [Ek];omega
   ·rw [Ek];omega
   ·rw [aq,rW (by omega),Fi,Fi]
  ·exact (hM _ _).mpr ⟨D,cs,rfl,g,fD,hr3,nDr,by omega,by omega,hca,hd⟩
 clear hca hd hr3 g fD nDr hcs
 intro σ5 H5 hm
 obtain ⟨D,cs,rfl,g,fD,hr3,nDr,l0,l1,hca,hd⟩:=(hM _ _).mp hm
 clear hm hM M
 have e0s:(Str.ofString "").length=0:=by decide +kernel
 have hl:((cs.map one).map V.str).length=cs.length:=by rw [D0,D0]
 have hlp:(0:Int) < (((cs.map one).map V.str).length:Nat):=by rw [hl];omega
 have a0:=Int.emod_nonneg d11 (show (((cs.map one).map V.str).length:Int)≠0 by omega)
 have a1:=Int.emod_lt_of_pos d11 hlp
 refine ⟨_,rfl,r,_,11,_,rfl,rfl,hr3,at11,_,rfl,D,rfl,_,.inl (bO.of hd),_,_,rfl,rfl,hlp,?_⟩
 generalize hat:d11 % (((cs.map one).map V.str).length:Int)=at' at a0 a1
 rw [hl] at a1
 refine ⟨Ex _,λO hO=>?_⟩
 have gO:=aN.new hO (.lst [])
 have nOD:O≠D:=(aR hd hO).symm
 have nOr:O≠r:=(aR hr3 hO).symm
 have fO:H O=none:=g.free hO
 refine ⟨_,rfl,m,rfl,by omega,by omega,ku (lo:=0) (n:=m.toNat) (λi σ H'=>∃(v:Option V) (cs':List Nat) (xs:List Str),σ=[some (.int c),some (.int m),some (.str bC),some (.ref r),none,some (.ref D),some (.int at'),some (.ref O),v] ∧
  aN H H'∧H' r=some (.lst row)∧cs'.length=cs.length∧(∀c∈cs',aY aP c=true)∧H' D=some (.lst ((cs'.map one).map V.str))∧H' O=some (.lst (xs.map V.str))∧xs.length=i∧(∀x∈xs,good x=true)∧∀k x,xs[k]?=some x→x.cps.toList[at'.toNat]?=some (sign d1 k)) ?_ ?_ ?_⟩
 ·exact ⟨none,cs,[],by rw [← hat];rfl,g.trans gO,gO _ _ hr3,rfl,hca,gO _ _ hd,aq,rfl,(λx hx=>by cases hx),λk x e=>by cases e⟩
 ·rintro i σ H' hi ⟨v,cs',xs,rfl,g',hr',hl',hca',hd',ho',hx,hxl,hs⟩
  have al2:bC.length≤sizeLine:=by decide +kernel
  have sg:=vU d1 i
  refine ⟨_,rfl,_,rfl,r,_,1,_,rfl,rfl,hr',at1,_,rfl,_,_,rfl,rfl,.of (Bd.small (by decide) (by decide)) (Bd.small (x:=0 + (i:Int)) (by omega) (by omega)),_,_,rfl,rfl,_,_,rfl,rfl,(show (0:Int) < 36 by decide),_,_,_,rfl,rfl,al2,(by rw [Int.zero_add];exact sg),?_⟩
  have ix:sC ((cs'.map one).map V.str).length at'=some at'.toNat:=by
   unfold sC
   rw [if_pos a0,if_pos (by rw [D0,D0,hl'];exact a1)]
  refine ⟨_,rfl,_,rfl,D,_,at',_,rfl,rfl,hd',ix,?_⟩
  have es:((cs'.map one).map V.str).set at'.toNat (.str ⟨#[sign d1 i]⟩)=((cs'.set at'.toNat (sign d1 i)).map one).map V.str:=by
   rw [List.map_set,List.map_set]
   rfl
  have gD:=aN.zw fD g' (.lst (((cs'.map one).map V.str).set at'.toNat (.str ⟨#[sign d1 i]⟩)))
  have hD2:(upd H' D (.lst (((cs'.map one).map V.str).set at'.toNat (.str ⟨#[sign d1 i]⟩)))) D=some (.lst (((cs'.set at'.toNat (sign d1 i)).map one).map V.str)):=by rw [aq,es]
  have hr2:(upd H' D (.lst (((cs'.map one).map V.str).set at'.toNat (.str ⟨#[sign d1 i]⟩)))) r=_:=(aB nDr.symm).trans hr'
  have ho2:(upd H' D (.lst (((cs'.map one).map V.str).set at'.toNat (.str ⟨#[sign d1 i]⟩)))) O=_:=(aB nOD).trans ho'
  have lc:(cs'.set at'.toNat (sign d1 i)).length=cs.length:=by rw [EZ,hl']
  have hcn:∀c∈cs'.set at'.toNat (sign d1 i),aY aP c=true:=λc hc=>by
   rcases List.mem_or_eq_of_mem_set hc with h | h
   ·exact hca' c h
   ·rw [h];exact q9 d1 i
  refine ⟨_,rfl,.inl ⟨rfl,_,bO.of ho2⟩,rfl,_,rfl,_,D,(cs'.set at'.toNat (sign d1 i)).map one,rfl,rfl,bO.of hD2,?_,O,_,_,rfl,rfl,ho2,?_,?_⟩
  ·rw [sY,D0,lc,e0s]
   omega
  ·rw [D0,hx]
   exact cG (by omega)
  ·rw [join_ones]
   refine ⟨_,cs'.set at'.toNat (sign d1 i),xs ++ [⟨(cs'.set at'.toNat (sign d1 i)).toArray⟩],rfl,gD.zw fO _,(aB nOr.symm).trans hr2,lc,hcn,(aB nOD.symm).trans hD2,?_,by rw [EF,hx];rfl,?_,?_⟩
   ·rw [aq,El]
    rfl
   ·intro x hx2
    rcases EC.mp hx2 with h | h
    ·exact hxl x h
    ·simp only [D6,Ei,or_false] at h
     subst h
     exact uW (by rw [lc];exact l0) (by rw [lc];exact l1) hcn
   ·intro k x e
    rcases Ft k xs.length with hk | hk
    ·rw [EH hk] at e
     exact hs k x e
    ·rw [EE hk] at e
     have ek:k=i:=by
      cases hz:k - xs.length with
      | zero=>omega
      | succ z=>rw [hz] at e;cases e
     rw [show k - xs.length=0 by omega] at e
     have ex:=Option.some.inj e
     subst ex
     rw [ek]
     show (cs'.set at'.toNat (sign d1 i))[at'.toNat]?=some (sign d1 i)
     rw [Eg (by omega)]
 ·rintro σ H' ⟨v,cs',xs,rfl,g',hr',hl',hca',hd',ho',hx,hxl,hs⟩
  exact ⟨_,rfl,q O H' xs fO g' ho' (by omega) (ui (by omega) hs) hxl⟩
theorem k_ {K:PySem.W.Frag} {J:Hq} {H:Hp}:∀{ns:List Int} {vs:List V},aC K J H (ns.map PV.int) vs→vs=ns.map V.int
 | [],_,h=>h
 | n :: ns,_,⟨v,us,e,h,k⟩=>by subst e;cases h;rw [k_ k];rfl
theorem yt {K:PySem.W.Frag} {J:Hq} {H:Hp} {x:PV} {vs:List V} (h:aC K J H [x] vs):∃v,vs=[v]∧bK K J H x v:=by
 obtain ⟨v,us,rfl,h1,h2⟩:=h;cases h2;exact ⟨v,rfl,h1⟩
theorem jU {K:PySem.W.Frag} {J:Hq} {H:Hp} {x y:PV} {vs:List V} (h:aC K J H [x,y] vs):∃v u,vs=[v,u]∧bK K J H x v∧bK K J H y u:=by
 obtain ⟨v,us,rfl,h1,u,us',rfl,h2,h3⟩:=h;cases h3;exact ⟨v,u,rfl,h1,h2⟩
theorem yT {K:PySem.W.Frag} {J:Hq} {H:Hp} {q:Rat} {Q2:PV→Hq→Prop} {Q:VK} (r:Rep K J H) (k:Kn K J H Q2 Q) (h:Q2 (fr q) J):Dr H q Q:=λa H' s e =>
 k (fr q) J (.ref a) H' ⟨a,_,rfl,dz.of e,⟨_,_,rfl,rfl,_,_,rfl,rfl,rfl⟩⟩ (r.same s) (.same s) h
def pV:d8:=λxs J Q _=>∃(ns:List Int) (k:Int),xs=[.fl (ns.map .int),.int k]∧0≤k∧k < 1000∧∀c:Int,Q (.int c) J
theorem qC (C:qg P w K mg base 1 "_law_cell" cS (ua K)):bB P w K mg base 1 "_law_cell" cS pV:=C.lift λxs J vs H Q2 E2 Q E rs r ⟨ns,k,ex,h0,h1,q⟩ kn=>by
 subst ex
 obtain ⟨v,u,rfl,⟨a,ws,rfl,h2,h3⟩,r2⟩:=jU rs
 cases r2;cases k_ h3
 exact ⟨a,ns,k,rfl,h2.sq,h0,h1,λc=>kn (.int c) J _ H rfl r .refl (q c)⟩
def ow:d8:=λxs J Q _=>∃(c:Int) (ss:List Int),xs=[.int c,.fl (ss.map .int)]∧(∀s∈ss,0 < s∧Bd 9000 s)∧ss.length≤1000∧∀ds,Dig ds ss→Q (.fl (ds.map .int)) J
theorem mE (C:qg P w K mg base 1 "_law_digits" bx (jN K)):bB P w K mg base 1 "_law_digits" bx ow:=C.lift λxs J vs H Q2 E2 Q E rs r ⟨c,ss,ex,h0,h1,q⟩ kn=>by
 subst ex
 obtain ⟨v,u,rfl,r1,⟨a,ws,rfl,h2,h3⟩⟩:=jU rs
 cases r1;cases k_ h3
 refine ⟨c,a,ss,rfl,h2.sq,h0,h1,λp H' ds hp s e D=>kn (.fl (ds.map .int)) J (.ref p) H' ⟨p,_,rfl,.inl ⟨r.free hp,.inl e⟩,iu ds⟩ (r.same s) (.same s) (q ds D)⟩
def oA:d8:=λxs J Q _=>∃t b:Int,xs=[.int t,.int b]∧0 < b∧Bd 9000 b∧Q (fr (Rat.divInt t b)) J
theorem sM (C:qg P w K mg base 1 "_law_low" cN xa):bB P w K mg base 1 "_law_low" cN oA:=C.lift λxs J vs H Q2 E2 Q E rs r ⟨t,b,ex,h0,h1,q⟩ kn=>by
 subst ex
 obtain ⟨v,u,rfl,r1,r2⟩:=jU rs
 cases r1;cases r2
 exact ⟨t,b,rfl,h0,h1,yT r kn q⟩
def m4:d8:=λxs J Q _=>∃c m:Int,xs=[.int c,.int m]∧0≤m∧m≤36∧∀ns:List Str,(ns.length:Int)=m→ns.Nodup→(∀x∈ns,good x=true)→Q (.fl (ns.map .str)) J
theorem kI {K:PySem.W.Frag} {J:Hq} {H:Hp}:∀ns:List Str,aC K J H (ns.map PV.str) (ns.map V.str)
 | []=>rfl
 | n :: ns=>⟨_,_,rfl,rfl,kI ns⟩
theorem nH (C:qg P w K mg base 2 "_law_names" cK pZ):bB P w K mg base 2 "_law_names" cK m4:=C.lift λxs J vs H Q2 E2 Q E rs r ⟨c,m,ex,h0,h1,q⟩ kn=>by
 subst ex
 obtain ⟨v,u,rfl,r1,r2⟩:=jU rs
 cases r1;cases r2
 exact ⟨c,m,rfl,h0,h1,λp H' ns hp s e hl nd lx=>kn (.fl (ns.map .str)) J (.ref p) H' ⟨p,_,rfl,.inl ⟨r.free hp,.inl e⟩,kI ns⟩ (r.same s) (.same s) (q ns hl nd lx)⟩
def pW (T:Addr):d8:=λxs J Q _=>∃y:Str,xs=[.str y]∧y.length≤sizeLine∧J T=some .tab∧Q (.bl (good y)) J
theorem jx {T:Addr} (C:qg P w K mg base 1 "good_name" cT (ub T)):bB P w K mg base 1 "good_name" cT (pW T):=C.lift λxs J vs H Q2 E2 Q E rs r ⟨y,ex,hl,hT,q⟩ kn=>by
 subst ex
 obtain ⟨v,rfl,r1⟩:=yt rs
 cases r1
 exact ⟨y,rfl,hl,r _ _ hT,kn (.bl _) J _ H rfl r .refl q⟩
def iz:d8:=λxs J Q _=>∃a b:Int,xs=[.int a,.int b]∧Q (.int (Int.gcd a b:Nat)) J
theorem mF (C:qg P w K mg base 1 "shared" fy m7):bB P w K mg base 1 "shared" fy iz:=C.lift λxs J vs H Q2 E2 Q E rs r ⟨a,b,ex,q⟩ kn=>by
 subst ex
 obtain ⟨v,u,rfl,r1,r2⟩:=jU rs
 cases r1;cases r2
 exact ⟨a,b,rfl,kn (.int _) J _ H rfl r .refl q⟩
abbrev cj:Stmt:=(top 14)
abbrev dj:List Str:=["pair"]
theorem f_:L2.ax ["pair"] ["pair"] (L2.aj cj):=jm
def m3:d8:=λxs J Q _=>∃a b:Int,xs=[.tup [.int a,.int b]]∧Q (.bl (decide (1≤b∧Int.gcd a b=1))) J
theorem fH {f:Addr} {fd:FuncData} (F:cu K "in_lowest_terms" "in_lowest_terms" cj f fd) (Z:d9 mg) (i8:bB P w K mg base 1 "shared" fy iz):aM P w K mg base (cU P w) 2 f fd dj (hE K m3):=by
 simp_arith [f_,(ao (az (oh (f6 wI (ar au (rv 0) ag) ag) (oi (f6 (aV hr.av) (aS i8 B hr (af (ar au (rv 0) ag) (af (ar au (rv 0) ag) ah))) ag)))))]
 ·obtain ⟨a,b,rfl,_⟩:=h;rfl
 obtain ⟨a,b,rfl,q⟩:=h
 refine hX ?_
 simp_all! []
 by_cases c:1≤b
 ·simp only [c,decide_true,true_and,if_true] at q ⊢
  simp_all! [iz]
  have:decide (((Int.gcd a b:Nat):Int)=1)=decide (Int.gcd a b=1):=decide_eq_decide.mpr (by omega)
  rw [this];exact q
 ·simp only [c,decide_false,false_and] at q ⊢
  rw [if_neg (λz=>z)]
  exact q
def ud (eN T:Addr):d8:=λxs J Q E=>∃y:Str,xs=[.str y]∧y.length≤sizeLine∧J T=some .tab∧(∀n:Int,n.natAbs < 10 ^ 12→y=txt n→Q (.int n) J)∧((∀n:Int,n.natAbs < 10 ^ 12→y≠txt n)→E eN J)
abbrev cL:Stmt:=(top 23)
abbrev dk:List Str:=["text"]
theorem du:L2.ax ["text","figures","number"] ["text"] (L2.aj cL):=jm
theorem dG {c:iO} {a u:eM} {D:En} {τ:Sr} {J:Hq} (b:Bool) (hc:∀R:Bool→Hq→Prop,R b J→c τ J R) (h1:b=true→∀N,a { D with nx:=N } τ J) (h2:b=false→u D τ J):ba (yN c a tT) u D τ J:=by
 refine hc _ ?_
 cases b with
 | true=>rw [if_pos rfl];exact h1 rfl _
 | false=>rw [if_neg (by decide)];exact h2 rfl
theorem iM {T f c eN:Addr} {fd:FuncData} (F:nr K mg "number_from" cL T f fd c) (Z:d9 mg) (Bm:BMain mg base) {cm fC:Tok} (bL:mg "MOST_FIGURES"=some (.int 12 cm)) (dX:mg "FIGURES"=some (.str "0123456789" fC)) (bt:Own K mg "NoTale" eN):aM P w K mg base (cU P w) 1 f fd dk (hE K (ud eN T)):=by
 refine Co F du (λxs J Q E h=>?_) (λA outer s H E G xs J Q E2 hr h B=>?_)
 ·obtain ⟨y,rfl,_⟩:=h;rfl
 obtain ⟨y,rfl,hl,hT,q,qe⟩:=h
 refine ⟨_,(ai (aI (i:=1) du.nd (Ba (dn (gW PySem.F.plainAttrs_str PySem.F.slot_str_startswith PySem.F.type_str_startswith j7 (rv 0) (af aw ah))) (aT dw (rv 0) (a_ ag) bp) (rv 0)))
   (ai (aK (cg (d6 (ay kC (aH fo rfl Z.len boot_len (af (rv 1) ah)) ag) (d6 (ay td (aH fo rfl Z.len boot_len (af (rv 1) ah)) (vN (v:=.int 12) (.int 12) rfl bL ⟨_,rfl⟩ (λ_ _=>rfl))) (fc (dU (dn (tV rfl Bm rfl F.tab hr rfl Z.all dX (rv 1)))))))) (ao (dZ bt rfl cy B.kn rfl (af aw ah))) aD)
   (ai (aI (i:=2) du.nd (bE oQ rfl Z.int boot_int (af (rv 0) ah)))
   (ai (aK (ay (gN hr.av) (bE kX rfl Z.str boot_str (af (rv 2) ah)) (rv 0)) (ao (dZ bt rfl cy B.kn rfl (af aw ah))) aD)
   (ao (az (rv 2))))))),?_⟩
 simp_all! [pO,oa]
 suffices hh:Nq [some (PV.str y),some (PV.str (aF y)),none] J by
  unfold aF at hh
  by_cases z:Txt.startswith y "-"=true
  ·rw [if_pos z] at hh ⊢;exact ⟨hl,hh⟩
  ·rw [if_neg z] at hh ⊢;exact hh
 refine hNq _ _ ?_
 clear hNq Nq
 have fl:(aF y).length≤sizeLine:=by
  unfold aF;split
  ·exact D1 (Txt.slice_le y _ _) hl
  ·exact hl
 refine dG (!(decide (1≤(aF y).length) && decide ((aF y).length≤12) && (aF y).cps.toList.all (aY "0123456789"))) (λR hR=>?_) (λhb N=>?_) (λhb=>?_)
 ·simp_arith! [ba,mP,tS,hT]
  refine ⟨fl,?_⟩
  by_cases h1:1≤(aF y).length
  ·rw [if_neg (by omega)]
   refine ⟨fl,?_⟩
   by_cases h2:(aF y).length≤12
   ·rw [if_neg (by omega)]
    rw [decide_eq_true h1,decide_eq_true h2] at hR
    exact hR
   ·rw [if_pos (by omega)]
    rw [decide_eq_false h2,EN] at hR
    exact hR
  ·rw [if_pos (by omega)]
   rw [decide_eq_false h1] at hR
   exact hR
 ·simp_arith! [ba,fZ]
  refine qe λn hn e=>?_
  subst e
  obtain ⟨⟨h1,h2,h3⟩,_⟩:=fu hn
  rw [decide_eq_true h1,decide_eq_true h2,h3] at hb
  cases hb
 have ok:fS y:=by
  simp only [Fy,Eh,decide_eq_true_eq] at hb
  exact ⟨hb.1.1,hb.1.2,hb.2⟩
 obtain ⟨l13,m,hm,hm12⟩:=mI ok
 simp_all! [tO,hm]
 refine ⟨D1 l13 (by decide),?_⟩
 refine hNq _ _ ?_
 clear hNq Nq
 refine dG (!decide (txt m=y)) (λR hR=>?_) (λhb N=>?_) (λhb=>?_)
 ·simp_arith! [ba,vK]
  exact ⟨lp (D4 hm12 (by decide)),hR⟩
 ·simp_arith! [ba,fZ]
  refine qe λn hn e=>?_
  subst e
  have:=(fu hn).2
  rw [hm] at this
  cases this
  rw [decide_eq_true rfl] at hb;cases hb
 simp_arith! [ba]
 exact q m hm12 (by
  have:txt m=y:=by simpa using hb
  exact this.symm)
def pX (eN T:Addr):d8:=λxs J Q E=>∃y:Str,xs=[.str y]∧y.length≤sizeLine∧J T=some .tab∧(good y=true→Q (.str y) J)∧(good y=false→E eN J)
abbrev ff:Stmt:=(top 22)
abbrev gT:List Str:=["text"]
theorem lU:L2.ax ["text"] ["text"] (L2.aj ff):=jm
theorem j9 {T eN f:Addr} {fd:FuncData} (F:cu K "name_from" "name_from" ff f fd) (Z:d9 mg) (bt:Own K mg "NoTale" eN) (eK:bB P w K mg base 1 "good_name" cT (pW T)):aM P w K mg base (cU P w) 2 f fd gT (hE K (pX eN T)):=by
 simp_arith [lU,(ai (aK (dU (dn (aS eK B hr (af (rv 0) ah)))) (ao (dZ bt rfl cy B.kn rfl (af aw ah))) aD)
   (ao (az (rv 0))))]
 ·obtain ⟨y,rfl,_⟩:=h;rfl
 obtain ⟨y,rfl,hl,hT,q,qe⟩:=h
 refine hX ?_
 refine dG (!good y) (λR hR=>?_) (λhb N=>?_) (λhb=>?_)
 ·simp_arith! [ba]
  exact ⟨y,rfl,hl,hT,hR⟩
 ·simp_arith! [ba,fZ]
  exact qe (by simpa using hb)
 simp_arith! [ba]
 exact q (by simpa using hb)
def d_ (q:Rat):Prop:=0≤q.num∧q.num.natAbs < 10 ^ 12∧q.den < 10 ^ 12
def eE (q:Rat):Str:=txt q.num ++ ("/":Str) ++ txt q.den
theorem pz {i:Int} {c:Nat} (h:c≠45∧(c < 48∨57 < c)):c ∉ (txt i).cps.toList:=λhc=>by
 have:=rb i c hc;omega
theorem cH (q:Rat):Txt.split (eE q) ("/":Str)=[txt q.num,txt q.den]:=by
 rw [mV]
 refine jQ (by simp) (λp hp=>?_) ?_
 ·simp only [D6,Ei,or_false] at hp
  rcases hp with rfl | rfl <;> exact pz (by omega)
 ·unfold eE;rw [mV];rfl
theorem jP {y a b:Str} (h:Txt.split y ("/":Str)=[a,b]):y=a ++ ("/":Str) ++ b:=by
 have:=PySem.StrLaws.join_split y ("/":Str);rw [h] at this;exact this.symm
def xb (eN T:Addr):d8:=λxs J Q E=>∃y:Str,xs=[.str y]∧y.length + 2≤sizeLine∧J T=some .tab∧(∀q:Rat,d_ q→y=eE q→Q (fr q) J)∧((∀q:Rat,d_ q→y≠eE q)→E eN J)
abbrev dW:Stmt:=(top 24)
abbrev e9:List Str:=["text"]
theorem dt:L2.ax ["text","parts","moment"] ["text"] (L2.aj dW):=jm
theorem iL {T eN f:Addr} {fd:FuncData} (F:cu K "moment_from" "moment_from" dW f fd) (Z:d9 mg) (bt:Own K mg "NoTale" eN) (bD:bB P w K mg base 1 "number_from" dk (ud eN T)) (gq:bB P w K mg base 2 "in_lowest_terms" dj m3):aM P w K mg base (cU P w) 3 f fd e9 (hE K (xb eN T)):=by
 simp_arith [dt,(ai (aI (i:=1) dt.nd (gW PySem.F.plainAttrs_str PySem.F.slot_str_split PySem.F.type_str_split eU (rv 0) (af aw ah)))
   (ai (aK (ay (gN hr.av) (aH bT rfl Z.len boot_len (af (rv 1) ah)) ag) (ao (dZ bt rfl cy B.kn rfl (af aw ah))) aD)
   (ai (aI (i:=2) dt.nd (bz (af (aS bD B hr (af (ar au (rv 1) ag) ah)) (af (aS bD B hr (af (ar au (rv 1) ag) ah)) ah))))
   (ai (aK (cg (d6 (ay kC (ar au (rv 2) ag) ag) (fc (dU (dn (aS gq B hr (af (rv 2) ah))))))) (ao (dZ bt rfl cy B.kn rfl (af aw ah))) aD)
   (ao (az (rv 2)))))))]
 ·obtain ⟨y,rfl,_⟩:=h;rfl
 obtain ⟨y,rfl,hl,hT,q,qe⟩:=h
 refine hX ?_
 have l47:(("/":Str).length == 0)=false:=by decide +kernel
 simp_all! [iq,l47]
 refine ⟨hl,hNq _ _ ?_⟩
 clear hNq Nq
 have hsub:∀p∈Txt.split y ("/":Str),p.length≤sizeLine:=λp hp=>D1 (part_short hp) (by omega)
 by_cases hn:(Txt.split y ("/":Str)).length=2
 rotate_left
 ·refine dG true (λR hR=>?_) (λhb N=>?_) (λhb=>nomatch hb)
  ·simp_arith! [ba,D0]
   rw [decide_eq_false (by omega)];exact hR
  ·simp_arith! [ba,fZ]
   refine qe λz hz e=>hn ?_
   rw [e,cH];rfl
 obtain ⟨a,b,hab⟩:∃a b,Txt.split y ("/":Str)=[a,b]:=by
  generalize Txt.split y ("/":Str)=l at hn
  match l,hn with
  | [a,b],_=>exact ⟨a,b,rfl⟩
 have hs:∀z,d_ z→y=eE z→a=txt z.num∧b=txt z.den:=λz hz e=>by
  rw [e,cH] at hab
  injection hab with h1 h2
  injection h2 with h2 _
  exact ⟨h1.symm,h2.symm⟩
 have hla:=hsub a (by rw [hab];simp)
 have hlb:=hsub b (by rw [hab];simp)
 rw [hab]
 refine dG false (λR hR=>?_) (λhb N=>nomatch hb) (λhb=>?_)
 ·simp_arith! [ba];exact hR
 simp_all! []
 refine ⟨a,rfl,hla,hT,λn hn1 ea=>⟨b,rfl,hlb,hT,λm hm1 eb=>hNq _ _ ?_,λhe=>qe λz hz e=>he z.den (by have:=hz.2.2;simpa using this) (hs z hz e).2⟩,λhe=>qe λz hz e=>he z.num hz.2.1 (hs z hz e).1⟩
 clear hNq Nq
 refine dG (!decide (0≤n∧1≤m∧Int.gcd n m=1)) (λR hR=>?_) (λhb N=>?_) (λhb=>?_)
 ·simp_arith! [ba]
  by_cases c1:n < 0
  ·rw [if_pos c1]
   rw [decide_eq_false (λz=>by omega)] at hR;exact hR
  ·rw [if_neg c1]
   refine ⟨n,m,rfl,?_⟩
   have:decide (1≤m∧Int.gcd n m=1)=decide (0≤n∧1≤m∧Int.gcd n m=1):=decide_eq_decide.mpr ⟨λz=>⟨by omega,z⟩,λz=>z.2⟩
   simp only [this]
   exact hR
 ·simp_arith! [ba,fZ]
  have hb:¬ (0≤n∧1≤m∧Int.gcd n m=1):=by rw [FC,decide_eq_false_iff_not] at hb;exact hb
  refine qe λz hz e=>hb ?_
  obtain ⟨h1,h2⟩:=hs z hz e
  have h3:=cM hn1 (ea.symm.trans h1) hz.2.1
  have h4:=cM hm1 (eb.symm.trans h2) (by have:=hz.2.2;simpa using this)
  subst h3 h4
  refine ⟨hz.1,by have:=z.den_pos;omega,?_⟩
  have:=z.reduced
  unfold Int.gcd;simpa using this
 have hb:0≤n∧1≤m∧Int.gcd n m=1:=by simpa using hb
 simp_arith! [ba]
 obtain ⟨k,rfl⟩:=Int.eq_ofNat_of_zero_le (show 0≤m by omega)
 have hz:d_ ⟨n,k,by omega,by have:=hb.2.2;unfold Int.gcd at this;simpa using this⟩:=⟨hb.1,hn1,by simpa using hm1⟩
 exact q _ hz (by rw [jP hab,ea,eb];rfl)
def aA.aQ:aA→List PV
 | .join n p v=>[.str n,.int p,.int v]
 | .turn n v=>[.str n,.int v]
 | .leave n=>[.str n]
 | .about=>[]
 | .watch m ns=>[.str m,.tup (ns.map .str)]
 | .unwatch m=>[.str m]
 | .go q=>[fr q]
def aA.V (d:aA):PV:=.tup (.str d.head :: d.aQ)
def aA.plain:aA→Bool
 | .go _=>false
 | .watch ..=>false
 | _=>true
theorem xY {d:aA} (o:d.Ok) (hp:d.plain=true):d.aQ.length=d.rest.length∧∀(i:Nat) x,d.aQ[i]?=some x→(∃j:Int,x=.int j∧j.natAbs < 10 ^ 13∧d.rest[i]?=some (txt j))∨∃s,x=.str s∧d.rest[i]?=some s:=by
 have hn:=o.nums
 cases d with
 | join n p v =>
  refine ⟨rfl,λi x h=>?_⟩
  rcases i with _ | _ | _ | i
  ·cases h;exact .inr ⟨n,rfl,rfl⟩
  ·cases h;exact .inl ⟨p,rfl,hn.1,rfl⟩
  ·cases h;exact .inl ⟨v,rfl,hn.2,rfl⟩
  ·simp [aA.aQ] at h
 | turn n v =>
  refine ⟨rfl,λi x h=>?_⟩
  rcases i with _ | _ | i
  ·cases h;exact .inr ⟨n,rfl,rfl⟩
  ·cases h;exact .inl ⟨v,rfl,hn,rfl⟩
  ·simp [aA.aQ] at h
 | leave n =>
  refine ⟨rfl,λi x h=>?_⟩
  rcases i with _ | i
  ·cases h;exact .inr ⟨n,rfl,rfl⟩
  ·simp [aA.aQ] at h
 | unwatch n =>
  refine ⟨rfl,λi x h=>?_⟩
  rcases i with _ | i
  ·cases h;exact .inr ⟨n,rfl,rfl⟩
  ·simp [aA.aQ] at h
 | about=>exact ⟨rfl,λi x h=>by simp [aA.aQ] at h⟩
 | watch m ns=>cases hp
 | go q=>cases hp
theorem k7 (d:aA):(d.head=("go":Str))=(match d with | .go _=>True | _=>False):=by cases d <;> simp only [aA.head,eq_iff_iff,iff_true,iff_false] <;> decide +kernel
theorem jq (d:aA):(d.head=("watch":Str))=(match d with | .watch ..=>True | _=>False):=by cases d <;> simp only [aA.head,eq_iff_iff,iff_true,iff_false] <;> decide +kernel
theorem mv (d:aA):d.head.length≤30:=by cases d <;> (simp only [aA.head];decide +kernel)
theorem nI {d:aA} (hp:d.plain=true):d.line=bH d.head d.rest:=by cases d <;> first | rfl | cases hp
section
variable {X:Cx}
end
def mZ:d8:=λxs J Q _=>∃d:aA,xs=[d.V]∧d.Ok∧Q (.str d.line) J
abbrev om:Stmt:=(top 34)
abbrev gQ:List Str:=["_law_deed"]
theorem eC:L2.ax ["_law_deed","_law_line_here","_law_name","_law_k"] ["_law_deed"] (L2.aj om):=jm
theorem sU {f:Addr} {fd:FuncData} (F:cu K "_law_line" "_law_line" om f fd) (Z:d9 mg):aM P w K mg base (cU P w) 1 f fd gQ (hE K mZ):=by
 simp_arith [eC,(ai (aK (ay (aV hr.av) (ar au (rv 0) ag) aw) (ao (az (aE bo (aE bo (aE bo aw (bE kX rfl Z.str boot_str (af (ar au (ar au (rv 0) ag) ag) ah))) aw) (bE kX rfl Z.str boot_str (af (ar au (ar au (rv 0) ag) ag) ah))))) aD)
   (ai (aI (i:=1) eC.nd (ar au (rv 0) ag))
   (ai (aK (ay (aV hr.av) (ar au (rv 0) ag) aw) (ai (aI (i:=1) eC.nd (aE bo (aE bo (rv 1) aw) (ar au (rv 0) ag)))
   (ai (fb dD rfl (yU (ar au (rv 0) ag)) (dN (i:=2) eC.nd) (ao (aI (i:=1) eC.nd (aE bo (aE bo (rv 1) aw) (rv 2)))))
   (ao (az (rv 1))))) aD)
   (ai (fb dD rfl (kJ rfl Z.range (af ag (af (aH bT rfl Z.len boot_len (af (rv 0) ah)) ah))) (dN (i:=3) eC.nd) (ao (aI (i:=1) eC.nd (aE bo (aE bo (rv 1) aw) (bE kX rfl Z.str boot_str (af (ar au (rv 0) (rv 3)) ah))))))
   (ao (az (rv 1)))))))]
 ·obtain ⟨d,rfl,_⟩:=h;rfl
 obtain ⟨d,rfl,o,q⟩:=h
 refine hX ?_
 have h0:mz J d.V (.int 0)=some (.str d.head):=iA _ _
 have lg:(("go ":Str)).length=3:=by decide +kernel
 have ls:(("/":Str)).length=1:=by decide +kernel
 have shape:(∃q,d=.go q)∨(∃m ns,d=.watch m ns)∨d.plain=true:=by cases d <;> simp [aA.plain]
 rcases shape with ⟨z,rfl⟩ | ⟨m,ns,rfl⟩ | hp
 ·have e1:eqQ (.str (aA.go z).head) (.str "go")=true:=eq_self _
  have h1:mz J (aA.go z).V (.int 1)=some (fr z):=jf _ _ _
  have hn:=o.nums
  have l1:=fF hn.1
  have l2:(txt (z.den:Int)).length≤30:=fF (by simpa using hn.2)
  simp_arith! [ba,h0,e1,h1,fP,vK,or_false,aX,lg,ls]
  exact ⟨lp hn.1,br (by show 3 + (txt z.num).length≤1000;omega),br (by show 3 + (txt z.num).length + 1≤1000;omega),lp (by simpa using hn.2),br (by show 3 + (txt z.num).length + 1 + (txt (z.den:Int)).length≤1000;omega),q⟩
 ·have e1:eqQ (.str (aA.watch m ns).head) (.str "go")=false:=by rw [eq_str];exact decide_eq_false λh=>Eq.mp (k7 (.watch m ns)) h
  have e2:eqQ (.str (aA.watch m ns).head) (.str "watch")=true:=eq_self _
  have h1:mz J (aA.watch m ns).V (.int 1)=some (.str m):=jf _ _ _
  have h2:mz J (aA.watch m ns).V (.int 2)=some (.tup (ns.map .str)):=me _ _ _ _
  simp_arith! [ba,h0,e1,e2,h1,h2,fP]
  have hw:=o.ws
  have hl:ns.length + 1≤20:=o.len
  have hm:m.length≤30:=hw m (by simp [aA.rest])
  have hns:∀y∈ns,y.length≤60:=λy hy=>D1 (hw y (by simp [aA.rest,hy])) (by decide)
  have hh:(aA.watch m ns).head.length=5:=by show (("watch":Str)).length=5;decide +kernel
  have lx:((aA.watch m ns).head ++ (" ":Str) ++ m).length≤60:=by rw [aX,aX,eD,hh];omega
  refine ⟨br (by rw [eD,hh];decide),br (by rw [aX,eD,hh];omega),?_⟩
  obtain ⟨Inv,hInv⟩:∃Inv:Nat→Sr→Hq→Prop,∀i τ J',Inv i τ J'↔∃(u2 u3:Option PV),τ=[some (aA.watch m ns).V,some (.str (bH ((aA.watch m ns).head ++ (" ":Str) ++ m) (ns.take i))),u2,u3]∧J'=J:=⟨_,λ_ _ _=>Iff.rfl⟩
  refine jk Inv ((hInv _ _ _).mpr ⟨_,_,rfl,rfl⟩) (λ_ _ _ _=>trivial) ?_ ?_
  ·intro i y τ J' hy hv
   obtain ⟨u2,u3,rfl,rfl⟩:=(hInv _ _ _).mp hv
   have hi:i < ns.length:=by have:=(D'.mp hy).1;simpa using this
   rw [Eb,D9 hi] at hy
   cases hy
   have et:ns.take (i + 1)=ns.take i ++ [ns[i]]:=by rw [Eu,D9 hi];rfl
   have ll:=f' (ys:=ns.take i) lx (λy hy=>hns y (EV hy))
   rw [Ek] at ll
   have hmul:min i ns.length * 61≤20 * 61:=EU _ (by omega)
   have ly:=hns _ (EL hi)
   simp_arith! [ba,fP,aX,eD]
   refine ⟨D1 (show _≤60 + 20 * 61 + 1 by omega) (by decide),D1 (show _≤60 + 20 * 61 + 1 + 60 by omega) (by decide),?_⟩
   exact (hInv _ _ _).mpr ⟨_,_,by rw [et,iF],rfl⟩
  ·intro τ J' hv
   obtain ⟨u2,u3,rfl,rfl⟩:=(hInv _ _ _).mp hv
   rw [D0,Ez]
   simp_arith! [ba]
   exact q
 ·have e1:eqQ (.str d.head) (.str "go")=false:=by rw [eq_str];exact decide_eq_false λh=>by have h':=Eq.mp (k7 d) h;cases d <;> first | exact h' | cases hp
  have e2:eqQ (.str d.head) (.str "watch")=false:=by rw [eq_str];exact decide_eq_false λh=>by have h':=Eq.mp (jq d) h;cases d <;> first | exact h' | cases hp
  simp_all! [h0,e1,e2]
  obtain ⟨hlen,hit⟩:=xY o hp
  have hw:∀y∈d.rest,y.length≤60:=λy hy=>D1 (o.ws y hy) (by decide)
  have hl:=o.len
  have lx:d.head.length≤60:=D1 (mv d) (by decide)
  refine lH (show mD J d.V=some (d.aQ.length + 1) from rfl) ⟨⟨by decide,by decide,by omega,by omega⟩,?_⟩
  have e3:(((d.aQ.length + 1:Nat):Int) - 1).toNat=d.rest.length:=by omega
  rw [e3]
  obtain ⟨Inv,hInv⟩:∃Inv:Nat→Sr→Hq→Prop,∀i τ J',Inv i τ J'↔∃(u2 u3:Option PV),τ=[some d.V,some (.str (bH d.head (d.rest.take i))),u2,u3]∧J'=J:=⟨_,λ_ _ _=>Iff.rfl⟩
  refine k6 Inv ((hInv _ _ _).mpr ⟨_,_,rfl,rfl⟩) ?_ ?_
  ·intro i τ J' hi hv
   obtain ⟨u2,u3,rfl,rfl⟩:=(hInv _ _ _).mp hv
   obtain ⟨x,hx⟩:∃x,d.aQ[i]?=some x:=⟨_,D9 (by omega)⟩
   have ha:mz J' d.V (.int (1 + (i:Int)))=some x:=by
    show bN (PV.str d.head :: d.aQ) (1 + (i:Int))=some x
    rw [show 1 + (i:Int)=((i + 1:Nat):Int) by omega]
    exact aU (by rw [Eo];exact hx)
   have et:d.rest.take (i + 1)=d.rest.take i ++ [d.rest[i]]:=by rw [Eu,D9 hi];rfl
   have ll:=f' (ys:=d.rest.take i) lx (λy hy=>hw y (EV hy))
   rw [Ek] at ll
   have hmul:min i d.rest.length * 61≤20 * 61:=EU _ (by omega)
   have ly:=hw _ (EL hi)
   have fin:∀y:Str,d.rest[i]?=some y→(bH d.head (d.rest.take i) ++ (" ":Str)).length + y.length≤sizeLine∧Inv (i + 1) [some d.V,some (.str (bH d.head (d.rest.take i) ++ (" ":Str) ++ y)),u2,some (.int (1 + (i:Int)))] J':=λy hy=>by
    have:y=d.rest[i]:=by rw [D9 hi] at hy;exact (Option.some.inj hy).symm
    subst this
    refine ⟨?_,(hInv _ _ _).mpr ⟨_,_,by rw [et,iF],rfl⟩⟩
    rw [aX,eD]
    exact D1 (show _≤60 + 20 * 61 + 1 + 60 by omega) (by decide)
   simp_arith! [ba,ha,fP,vK]
   refine ⟨by rw [eD];exact D1 (show _≤60 + 20 * 61 + 1 by omega) (by decide),?_⟩
   rcases hit i x hx with ⟨j,rfl,hj,hr⟩ | ⟨s',rfl,hr⟩
   ·exact .inl ⟨j,rfl,lp hj,fin _ hr⟩
   ·exact .inr ⟨s',rfl,fin _ hr⟩
  ·intro τ J' hv
   obtain ⟨u2,u3,rfl,rfl⟩:=(hInv _ _ _).mp hv
   rw [Ez]
   refine hNq _ _ ?_
   simp_arith! [ba]
   rw [nI hp] at q
   exact q
def aA.Good:aA→Prop
 | .join n p v=>good n=true∧p.natAbs < 10 ^ 12∧v.natAbs < 10 ^ 12
 | .turn n v=>good n=true∧v.natAbs < 10 ^ 12
 | .leave n=>good n=true
 | .about=>True
 | .watch m ns=>good m=true∧∀n∈ns,good n=true
 | .unwatch m=>good m=true
 | .go q=>d_ q
theorem fq {n:Str} {c:Nat} (hg:good n=true) (hc:aY aP c=false):c ∉ n.cps.toList:=λh=>by
 unfold good at hg
 rw [Eh] at hg
 have:=Em.mp hg.2 c h
 rw [hc] at this;cases this
theorem qJ:aY aP 32=false:=by decide +kernel
theorem jo {n:Str} (hg:good n=true):n.length≤8:=by
 unfold good at hg
 rw [Eh,Eh] at hg
 exact of_decide_eq_true hg.1.2
theorem oK {d:aA} (g:d.Good):∀p∈d.words,32 ∉ p.cps.toList:=by
 have hd:∀d:aA,32 ∉ d.head.cps.toList:=λd=>by cases d <;> (simp only [aA.head];decide +kernel)
 have tx:∀i:Int,32 ∉ (txt i).cps.toList:=λi=>pz (by omega)
 have go:∀d:aA,(∀p∈d.rest,32 ∉ p.cps.toList)→d.words=d.head :: d.rest→∀p∈d.words,32 ∉ p.cps.toList:=λd h e p hp=>by
  rw [e] at hp
  rcases D6.mp hp with rfl | hp
  ·exact hd d
  ·exact h p hp
 cases d with
 | join n p v =>
  refine go _ (λx hx=>?_) rfl;simp only [aA.rest,D6,Ei,or_false] at hx
  rcases hx with rfl | rfl | rfl
  ·exact fq g.1 qJ
  ·exact tx _
  ·exact tx _
 | turn n v =>
  refine go _ (λx hx=>?_) rfl;simp only [aA.rest,D6,Ei,or_false] at hx
  rcases hx with rfl | rfl
  ·exact fq g.1 qJ
  ·exact tx _
 | leave n=>refine go _ (λx hx=>?_) rfl;simp only [aA.rest,D6,Ei,or_false] at hx;subst hx;exact fq g qJ
 | about=>refine go _ (λx hx=>by cases hx) rfl
 | unwatch n=>refine go _ (λx hx=>?_) rfl;simp only [aA.rest,D6,Ei,or_false] at hx;subst hx;exact fq g qJ
 | watch m ns =>
  refine go _ (λx hx=>?_) rfl
  rcases D6.mp hx with rfl | hx
  ·exact fq g.1 qJ
  ·exact fq (g.2 _ hx) qJ
 | go q =>
  intro p hp
  simp only [aA.words,D6,Ei,or_false] at hp
  rcases hp with rfl | rfl
  ·decide +kernel
  ·show 32 ∉ ((txt q.num).cps ++ ("/":Str).cps ++ (txt q.den).cps).toList
   simp only [Array.toList_append,EC,not_or]
   exact ⟨⟨tx _,by decide +kernel⟩,tx _⟩
theorem eh {d:aA} (g:d.Good):Txt.split d.line (" ":Str)=d.words:=by
 rw [kA,eO]
 exact jQ (by cases d <;> simp [aA.words]) (oK g) rfl
theorem jO {d:aA} {y:Str} (h:Txt.split y (" ":Str)=d.words):y=d.line:=by
 have:=PySem.StrLaws.join_split y (" ":Str)
 rw [h,← kA] at this;exact this.symm
theorem sS (a b:String):(Str.ofString a=Str.ofString b)=(a=b):=by
 refine propext ⟨λh=>?_,λh=>by rw [h]⟩
 have h1:a.toList.map Char.toNat=b.toList.map Char.toNat:=by
  rw [← signs_ofString,← signs_ofString,h]
 exact String.toList_inj.mp (map_inj (λx y e=>Char.ext (UInt32.toNat_inj.mp e)) h1)
theorem vc {d:aA} (o:d.Ok):d.line.length≤900:=by
 have hw:=o.ws
 have hl:=o.len
 have key:∀d:aA,d.line=bH d.head d.rest→d.Ok→d.line.length≤900:=λd e o=>by
  rw [e]
  have h1:=f' (n:=30) (mv d) o.ws
  have h2:=o.len
  have:=EU (30 + 1) h2
  omega
 cases d with
 | go q =>
  have hn:=o.nums
  have l1:=fF hn.1
  have l2:(txt (q.den:Int)).length≤30:=fF (by simpa using hn.2)
  have lg:(("go ":Str)).length=3:=by decide +kernel
  have ls:(("/":Str)).length=1:=by decide +kernel
  show (("go ":Str) ++ txt q.num ++ ("/":Str) ++ txt q.den).length≤900
  simp only [aX,lg,ls];omega
 | _=>exact key _ rfl o
theorem cx (x:PV) (xs:List PV):gA (x :: xs) (some 1) none=xs:=by
 have e1:HT.eJ (x :: xs).length 0 (some 1)=1:=by simp [HT.eJ]
 have e2:HT.eJ (x :: xs).length (x :: xs).length none=(x :: xs).length:=by simp [HT.eJ]
 unfold gA
 rw [e1,e2]
 simp
theorem fU {p q:Prop} [Decidable p] [Decidable q] {A B:Prop}:(if p then if q then A else B else B)=(if p∧q then A else B):=by
 by_cases h:p
 ·by_cases k:q <;> simp [h,k]
 ·simp [h]
def aA.tail:aA→List Str
 | .go q=>[eE q]
 | d=>d.rest
theorem eF (d:aA):d.words=d.head :: d.tail:=by cases d <;> rfl
theorem pb {d:aA} (h:d.head=("join":Str)):∃n p v,d=.join n p v:=by cases d <;> first | exact ⟨_,_,_,rfl⟩ | exact absurd h (by simp only [aA.head];decide +kernel)
theorem pd {d:aA} (h:d.head=("turn":Str)):∃n v,d=.turn n v:=by cases d <;> first | exact ⟨_,_,rfl⟩ | exact absurd h (by simp only [aA.head];decide +kernel)
theorem my {d:aA} (h:d.head=("leave":Str)):∃n,d=.leave n:=by cases d <;> first | exact ⟨_,rfl⟩ | exact absurd h (by simp only [aA.head];decide +kernel)
theorem jt {d:aA} (h:d.head=("unwatch":Str)):∃n,d=.unwatch n:=by cases d <;> first | exact ⟨_,rfl⟩ | exact absurd h (by simp only [aA.head];decide +kernel)
theorem sy {d:aA} (h:d.head=("about":Str)):d=.about:=by cases d <;> first | rfl | exact absurd h (by simp only [aA.head];decide +kernel)
theorem sA {d:aA} (h:d.head=("go":Str)):∃q,d=.go q:=by cases d <;> first | exact ⟨_,rfl⟩ | exact absurd h (by simp only [aA.head];decide +kernel)
theorem ju {d:aA} (h:d.head=("watch":Str)):∃m ns,d=.watch m ns:=by cases d <;> first | exact ⟨_,_,rfl⟩ | exact absurd h (by simp only [aA.head];decide +kernel)
theorem sJ {α:Type} {l:List α} (h:l.length=1):∃a,l=[a]:=by match l,h with | [a],_=>exact ⟨a,rfl⟩
theorem yb {α:Type} {l:List α} (h:l.length=2):∃a b,l=[a,b]:=by match l,h with | [a,b],_=>exact ⟨a,b,rfl⟩
theorem Cc {α:Type} {l:List α} (h:l.length=3):∃a b c,l=[a,b,c]:=by match l,h with | [a,b,c],_=>exact ⟨a,b,c,rfl⟩
def lX (eN T T':Addr):d8:=λxs J Q E=>∃y:Str,xs=[.str y]∧y.length≤100000∧J T=some .tab∧J T'=some .tab∧(∀d:aA,d.Good→y=d.line→Q d.V J)∧((∀d:aA,d.Good→y≠d.line)→∀J',Sub J J'→E eN J')
abbrev fz:Stmt:=(top 25)
abbrev fW:List Str:=["line"]
theorem f7:L2.ax ["line","words","word","rest"] ["line"] (L2.aj fz):=jm
theorem mK {T T' eN f:Addr} {fd:FuncData} (F:cu K "deed_of" "deed_of" fz f fd) (Z:d9 mg) (bt:Own K mg "NoTale" eN) (bY:bB P w K mg base 2 "name_from" gT (pX eN T)) (bD:bB P w K mg base 1 "number_from" dk (ud eN T')) (jY:bB P w K mg base 3 "moment_from" e9 (xb eN T')):aM P w K mg base (cU P w) 4 f fd fW (hE K (lX eN T T')):=by
 simp_arith [f7,(ai (aI (i:=1) f7.nd (gW PySem.F.plainAttrs_str PySem.F.slot_str_split PySem.F.type_str_split eU (rv 0) (af aw ah)))
   (ai (yW (i:=2) (j:=3) rfl f7.nd rfl rfl (by decide) rfl rfl (af (ar au (rv 1) ag) (af (aT fQ (rv 1) (a_ ag) bp) ah)) rfl)
   (ai (aK (cg (dq (ay (aV hr.av) (rv 2) aw) (cf (ay (aV hr.av) (aH bT rfl Z.len boot_len (af (rv 3) ah)) ag)))) (ao (az (bz (af aw (af (aS bY B hr (af (ar au (rv 3) ag) ah)) (af (aS bD B hr (af (ar au (rv 3) ag) ah)) (af (aS bD B hr (af (ar au (rv 3) ag) ah)) ah))))))) aD)
   (ai (aK (cg (dq (ay (aV hr.av) (rv 2) aw) (cf (ay (aV hr.av) (aH bT rfl Z.len boot_len (af (rv 3) ah)) ag)))) (ao (az (bz (af aw (af (aS bY B hr (af (ar au (rv 3) ag) ah)) ah))))) aD)
   (ai (aK (cg (dq (ay (aV hr.av) (rv 2) aw) (cf (ay (aV hr.av) (aH bT rfl Z.len boot_len (af (rv 3) ah)) ag)))) (ao (az (bz (af aw (af (aS bY B hr (af (ar au (rv 3) ag) ah)) (af (aS bD B hr (af (ar au (rv 3) ag) ah)) ah)))))) aD)
   (ai (aK (cg (dq (ay (aV hr.av) (rv 2) aw) (cf (ay (aV hr.av) (aH bT rfl Z.len boot_len (af (rv 3) ah)) ag)))) (ao (az (bz (af aw ah)))) aD)
   (ai (aK (cg (dq (ay (aV hr.av) (rv 2) aw) (cf (ay (aV hr.av) (aH bT rfl Z.len boot_len (af (rv 3) ah)) ag)))) (ao (az (bz (af aw (af (aS jY B hr (af (ar au (rv 3) ag) ah)) ah))))) aD)
   (ai (aK (cg (dq (ay (aV hr.av) (rv 2) aw) (cf (ay wI (aH bT rfl Z.len boot_len (af (rv 3) ah)) ag)))) (ao (az (bz (af aw (af (aS bY B hr (af (ar au (rv 3) ag) ah)) (af (bE gz rfl Z.tuple boot_tuple (af (yQ (L2.aj fz) ["line","words","word","rest"] rfl rfl rfl rfl rfl rfl (λ_ _ h=>h) (iZ (aT fQ (rv 3) (a_ ag) bp)) (λ_ _ _ _ _=>(aS bY (BV B) hr (af (rv 0) ah)))) ah)) ah)))))) aD)
   (ai (aK (cg (dq (ay (aV hr.av) (rv 2) aw) (cf (ay (aV hr.av) (aH bT rfl Z.len boot_len (af (rv 3) ah)) ag)))) (ao (az (bz (af aw (af (aS bY B hr (af (ar au (rv 3) ag) ah)) ah))))) aD)
   (ao (dZ bt rfl cy B.kn rfl (af aw ah))))))))))))]
 ·obtain ⟨d,rfl,_⟩:=h;rfl
 obtain ⟨y,rfl,hl,hT,hT',q,qe⟩:=h
 refine hX ?_
 have l32:((" ":Str).length == 0)=false:=by decide +kernel
 have qe0:=λhh=>qe hh J (Sub.refl J)
 obtain ⟨w0,rest,hws⟩:∃w0 rest,Txt.split y (" ":Str)=w0 :: rest:=by
  have:=fh y 32
  rw [← eO] at this
  cases h:Txt.split y (" ":Str) with
  | nil=>exact absurd h this
  | cons a l=>exact ⟨a,l,rfl⟩
 have hsub:∀p∈w0 :: rest,p.length + 2≤sizeLine:=λp hp=>D1 (EW (part_short (by rw [hws];exact hp)) 2) (D1 (EW hl 2) (by decide))
 have isd:∀d:aA,d.Good→y=d.line→d.words=w0 :: rest:=λd g e=>by rw [← hws,e,eh g]
 have line:∀d:aA,d.words=w0 :: rest→y=d.line:=λd e=>jO (by rw [hws,e])
 have hwn:rest.length + 2≤sizeLine:=by
  have:=L2.split_len y (" ":Str)
  rw [hws,Ee] at this
  exact D1 (show _≤100100 by omega) (by decide)
 simp_all! [iq,l32,hws]
 refine ⟨D1 (show _≤100100 by omega) (by decide),hNq _ _ ?_⟩
 clear hNq Nq
 have isd2:∀d:aA,d.Good→y=d.line→d.head=w0∧d.tail=rest:=λd g e=>by
  have:=isd d g e
  rw [eF] at this
  injection this with h1 h2
  exact ⟨h1,h2⟩
 have small4:∀{k:Nat},k≤4→k≤sizeLine:=λh=>D1 h (by decide)
 have hs:∀p∈rest,p.length + 2≤sizeLine:=λp hp=>hsub p (D8 _ hp)
 simp_all! [cx]
 rw [fU]
 by_cases c1:w0=("join":Str)∧(((rest.map PV.str).length:Nat):Int)=3
 ·rw [if_pos c1]
  obtain ⟨rfl,hk⟩:=c1
  obtain ⟨a,b,c,rfl⟩:=Cc (l:=rest) (by rw [D0] at hk;omega)
  have is:∀d:aA,d.Good→y=d.line→∃n p v,d=.join n p v∧n=a∧txt p=b∧txt v=c:=λd g e=>by
   obtain ⟨h1,h2⟩:=isd2 d g e
   obtain ⟨n,p,v,rfl⟩:=pb h1
   injection h2 with h2 h3
   injection h3 with h3 h4
   injection h4 with h4 _
   exact ⟨n,p,v,rfl,h2,h3,h4⟩
  have la:=hs a (by simp)
  have lb:=hs b (by simp)
  have lc:=hs c (by simp)
  simp_arith! [ba]
  refine ⟨a,rfl,by omega,hT,λga=>⟨b,rfl,by omega,hT',λn hn eb=>⟨c,rfl,by omega,hT',λm hm ec=>q (.join a n m) ⟨ga,hn,hm⟩ (line _ (by rw [eb,ec];rfl)),λno=>qe0 λd g e=>?_⟩,λno=>qe0 λd g e=>?_⟩,λno=>qe0 λd g e=>?_⟩
  ·obtain ⟨n',p',v',rfl,e1,e2,e3⟩:=is d g e
   exact no v' g.2.2 e3.symm
  ·obtain ⟨n',p',v',rfl,e1,e2,e3⟩:=is d g e
   exact no p' g.2.1 e2.symm
  ·obtain ⟨n',p',v',rfl,e1,e2,e3⟩:=is d g e
   rw [← e1] at no
   rw [g.1] at no;cases no
 rw [if_neg c1]
 refine hNq _ _ ?_
 clear hNq Nq
 simp_all! [cx]
 rw [fU]
 by_cases c2:w0=("leave":Str)∧(((rest.map PV.str).length:Nat):Int)=1
 ·rw [if_pos c2]
  obtain ⟨rfl,hk⟩:=c2
  obtain ⟨a,rfl⟩:=sJ (l:=rest) (by rw [D0] at hk;omega)
  have la:=hs a (by simp)
  simp_arith! [ba]
  refine ⟨a,rfl,by omega,hT,λga=>q (.leave a) ga (line _ rfl),λno=>qe0 λd g e=>?_⟩
  obtain ⟨h1,h2⟩:=isd2 d g e
  obtain ⟨n,rfl⟩:=my h1
  injection h2 with h2 _
  subst h2
  rw [show good n=true from g] at no;cases no
 rw [if_neg c2]
 refine hNq _ _ ?_
 clear hNq Nq
 simp_all! [cx]
 rw [fU]
 by_cases c3:w0=("turn":Str)∧(((rest.map PV.str).length:Nat):Int)=2
 ·rw [if_pos c3]
  obtain ⟨rfl,hk⟩:=c3
  obtain ⟨a,b,rfl⟩:=yb (l:=rest) (by rw [D0] at hk;omega)
  have la:=hs a (by simp)
  have lb:=hs b (by simp)
  have is:∀d:aA,d.Good→y=d.line→∃n v,d=.turn n v∧n=a∧txt v=b:=λd g e=>by
   obtain ⟨h1,h2⟩:=isd2 d g e
   obtain ⟨n,v,rfl⟩:=pd h1
   injection h2 with h2 h3
   injection h3 with h3 _
   exact ⟨n,v,rfl,h2,h3⟩
  simp_arith! [ba]
  refine ⟨a,rfl,by omega,hT,λga=>⟨b,rfl,by omega,hT',λn hn eb=>q (.turn a n) ⟨ga,hn⟩ (line _ (by rw [eb];rfl)),λno=>qe0 λd g e=>?_⟩,λno=>qe0 λd g e=>?_⟩
  ·obtain ⟨n',v',rfl,e1,e2⟩:=is d g e
   exact no v' g.2 e2.symm
  ·obtain ⟨n',v',rfl,e1,e2⟩:=is d g e
   rw [← e1] at no
   rw [g.1] at no;cases no
 rw [if_neg c3]
 refine hNq _ _ ?_
 clear hNq Nq
 simp_all! [cx]
 rw [fU]
 by_cases c4:w0=("about":Str)∧(((rest.map PV.str).length:Nat):Int)=0
 ·rw [if_pos c4]
  obtain ⟨rfl,hk⟩:=c4
  have hr0:rest=[]:=Et (by rw [D0] at hk;omega)
  subst hr0
  exact q .about trivial (line _ rfl)
 rw [if_neg c4]
 refine hNq _ _ ?_
 clear hNq Nq
 simp_all! [cx]
 rw [fU]
 by_cases c5:w0=("go":Str)∧(((rest.map PV.str).length:Nat):Int)=1
 ·rw [if_pos c5]
  obtain ⟨rfl,hk⟩:=c5
  obtain ⟨a,rfl⟩:=sJ (l:=rest) (by rw [D0] at hk;omega)
  have la:=hs a (by simp)
  simp_arith! [ba]
  refine ⟨a,rfl,la,hT',λz hz ez=>q (.go z) hz (line _ (by rw [ez];rfl)),λno=>qe0 λd g e=>?_⟩
  obtain ⟨h1,h2⟩:=isd2 d g e
  obtain ⟨z,rfl⟩:=sA h1
  injection h2 with h2 _
  exact no z g h2.symm
 rw [if_neg c5]
 refine hNq _ _ ?_
 clear hNq Nq
 simp_all! [cx]
 rw [fU]
 by_cases c6:w0=("watch":Str)∧(1:Int)≤(((rest.map PV.str).length:Nat):Int)
 ·rw [if_pos c6]
  obtain ⟨rfl,hk⟩:=c6
  obtain ⟨m,ns,rfl⟩:∃m ns,rest=m :: ns:=by
   cases rest with
   | nil=>simp at hk
   | cons m ns=>exact ⟨m,ns,rfl⟩
  have lm:=hs m (by simp)
  simp_arith! [ba,cx,yO]
  have is:∀d:aA,d.Good→y=d.line→good m=true∧∀n∈ns,good n=true:=λd g e=>by
   obtain ⟨h1,h2⟩:=isd2 d g e
   obtain ⟨m',ns',rfl⟩:=ju h1
   injection h2 with h2 h3
   subst h2 h3
   exact g
  refine ⟨m,rfl,by omega,hT,λgm=>⟨?_,λx=>∃n,x=.str n∧good n=true,id,λJ' sub x hx=>?_,λhok=>?_⟩,λno=>qe0 λd g e=>by rw [(is d g e).1] at no;cases no⟩
  ·rw [D0]
   rw [Ee] at hwn
   omega
  ·obtain ⟨n,hn,rfl⟩:=EB.mp hx
   have ln:=hs n (D8 _ hn)
   exact ⟨n,rfl,by omega,sub _ _ hT,λg=>⟨⟨n,rfl,g⟩,rfl,rfl⟩,λno=>qe (λd g e=>by rw [(is d g e).2 n hn] at no;cases no) J' sub⟩
  ·rw [FR]
   have all:∀n∈ns,good n=true:=λn hn=>by
    obtain ⟨n',e,g⟩:=hok _ (EB.mpr ⟨n,hn,rfl⟩)
    cases e;exact g
   exact ⟨_,_,rfl,rfl,q (.watch m ns) ⟨gm,all⟩ (line _ rfl)⟩
 rw [if_neg c6]
 refine hNq _ _ ?_
 clear hNq Nq
 simp_all! [cx]
 rw [fU]
 by_cases c7:w0=("unwatch":Str)∧(((rest.map PV.str).length:Nat):Int)=1
 ·rw [if_pos c7]
  obtain ⟨rfl,hk⟩:=c7
  obtain ⟨a,rfl⟩:=sJ (l:=rest) (by rw [D0] at hk;omega)
  have la:=hs a (by simp)
  simp_arith! [ba]
  refine ⟨a,rfl,by omega,hT,λga=>q (.unwatch a) ga (line _ rfl),λno=>qe0 λd g e=>?_⟩
  obtain ⟨h1,h2⟩:=isd2 d g e
  obtain ⟨n,rfl⟩:=jt h1
  injection h2 with h2 _
  subst h2
  rw [show good n=true from g] at no;cases no
 rw [if_neg c7]
 refine hNq _ _ ?_
 clear hNq Nq
 simp_arith! [ba,fZ]
 rw [D0] at *
 refine qe0 λd g e=>?_
 obtain ⟨h1,h2⟩:=isd2 d g e
 subst h1 h2
 cases d with
 | join n p v=>exact c1 ⟨rfl,rfl⟩
 | leave n=>exact c2 ⟨rfl,rfl⟩
 | turn n v=>exact c3 ⟨rfl,rfl⟩
 | about=>exact c4 ⟨rfl,rfl⟩
 | go z=>exact c5 ⟨rfl,rfl⟩
 | watch m ns=>exact c6 ⟨rfl,by show (1:Int)≤(((ns.length + 1:Nat)):Int);omega⟩
 | unwatch n=>exact c7 ⟨rfl,rfl⟩
abbrev lR:Stmt:=(top 29)
abbrev dS:List Str:=["_law_found"]
theorem t8:L2.ax ["_law_found"] ["_law_found"] (L2.aj lR):=jm
def fg:d8:=λxs J Q _=>∃i:Int,xs=[.int i]∧Q (.bl true) J
theorem qP {f:Addr} {fd:FuncData} (F:cu K "_law_whole" "_law_whole" lR f fd) (Z:d9 mg):aM P w K mg base (cU P w) 1 f fd dS (hE K fg):=by
 simp_arith [t8,(ao (az (oh (aH h_ rfl Z.isinstance boot_isinstance (af (rv 0) (af (kH rfl Z.int boot_int) ah))) (oi (yS (aH h_ rfl Z.isinstance boot_isinstance (af (rv 0) (af (kH rfl Z.bool boot_bool) ah))))))))]
 ·obtain ⟨i,rfl,_⟩:=h;rfl
 obtain ⟨i,rfl,q⟩:=h
 refine hX ?_
 simp_arith! [ba]
 exact q
abbrev oq:Stmt:=(top 31)
abbrev gR:List Str:=["_law_found","_law_due"]
theorem vQ:L2.ax ["_law_found","_law_due"] ["_law_found","_law_due"] (L2.aj oq):=jm
def p5:d8:=λxs J Q _=>∃a:Rat,xs=[fr a,fr a]∧Q (.bl true) J
theorem sV {f:Addr} {fd:FuncData} (F:cu K "_law_part" "_law_part" oq f fd) (Z:d9 mg) (iN:bB P w K mg base 1 "_law_whole" dS fg):aM P w K mg base (cU P w) 2 f fd gR (hE K p5):=by
 simp_arith [vQ,(ai (aK (cg (d6 (dU (dn (aH h_ rfl Z.isinstance boot_isinstance (af (rv 0) (af (kH rfl Z.tuple boot_tuple) ah))))) (fc (ay (gN hr.av) (aH bT rfl Z.len boot_len (af (rv 0) ah)) ag)))) (ao (az kG)) aD)
   (ai (aK (cg (d6 (dU (dn (aS iN B hr (af (ar au (rv 0) ag) ah)))) (fc (dU (dn (aS iN B hr (af (ar au (rv 0) ag) ah))))))) (ao (az kG)) aD)
   (ao (az (f6 (aV hr.av) (rv 0) (rv 1))))))]
 ·obtain ⟨a,rfl,_⟩:=h;rfl
 obtain ⟨a,rfl,q⟩:=h
 refine hX ?_
 simp_arith! [ba,fg]
 exact q
abbrev jJ:Stmt:=(top 35)
abbrev eY:List Str:=["_law_text"]
theorem fA:L2.ax ["_law_text","_law_figures","_law_sign"] ["_law_text"] (L2.aj jJ):=jm
def oB:d8:=λxs J Q _=>∃y:Str,xs=[.str y]∧y.length≤sizeLine∧(∀n:Int,n.natAbs < 10 ^ 12→y=txt n→Q (.int n) J)∧((∀n:Int,n.natAbs < 10 ^ 12→y≠txt n)→Q .non J)
theorem nM {f:Addr} {fd:FuncData} (F:cu K "_law_number" "_law_number" jJ f fd) (Z:d9 mg):aM P w K mg base (cU P w) 1 f fd eY (hE K oB):=by
 simp_arith [fA,(ai (aI (i:=1) fA.nd (rv 0))
   (iY (aK (ay (aV hr.av) (aT dw (rv 0) bp (a_ ag)) aw) (ao (aI (i:=1) fA.nd (aT dw (rv 0) (a_ ag) bp))) aD)
   (ai (aK (cg (d6 (ay (aV hr.av) (rv 1) aw) (fc (ay td (aH fo rfl Z.len boot_len (af (rv 1) ah)) ag)))) (ao (az cE)) aD)
   (ai (fb dD rfl (tZ (rv 1)) (dN (i:=2) fA.nd) (ao (aK (ay pE (rv 2) aw) (ao (az cE)) aD)))
   (ai (aK (cg (dq (ay (aV hr.av) (ar nF (rv 1) ag) aw) (cf (ay (gN hr.av) (rv 0) aw)))) (ao (az cE)) aD)
   (ao (az (bE oQ rfl Z.int boot_int (af (rv 0) ah)))))))))]
 ·obtain ⟨y,rfl,_⟩:=h;rfl
 obtain ⟨y,rfl,hl,q,qn⟩:=h
 refine hX ?_
 have no:¬ fS y→Q .non J:=λh=>qn λn hn e=>h (lE.mp ⟨n,hn,e⟩).1
 simp_all! []
 obtain ⟨M,hM⟩:∃M:Sr→Hq→Prop,∀τ' J',M τ' J'↔τ'=[some (.str y),some (.str (aF y)),none]∧J'=J:=⟨_,λ_ _=>Iff.rfl⟩
 refine ⟨M,?_,?_⟩
 ·simp_all! [oa]
  unfold aF at hM
  refine ⟨hl,?_⟩
  by_cases z:Txt.startswith y "-"=true
  ·rw [if_pos z] at hM
   rw [if_pos ((kK y).mpr z)];exact ⟨hl,(hM _ _).mpr ⟨rfl,rfl⟩⟩
  ·rw [if_neg z] at hM
   rw [if_neg λh=>z ((kK y).mp h)];exact (hM _ _).mpr ⟨rfl,rfl⟩
 intro τ' J' hm
 obtain ⟨rfl,rfl⟩:=(hM _ _).mp hm
 clear hm hM M
 have fl:(aF y).length≤sizeLine:=by
  unfold aF;split
  ·exact D1 (Txt.slice_le y _ _) hl
  ·exact hl
 refine dG (!(decide (1≤(aF y).length) && decide ((aF y).length≤12))) (λR hR=>?_) (λhb N=>?_) (λhb=>?_)
 ·simp_arith! [ba,mP]
  by_cases e:aF y=("":Str)
  ·rw [if_pos e]
   have:(aF y).length=0:=by rw [e];decide +kernel
   rw [this] at hR
   exact hR
  ·rw [if_neg e]
   refine ⟨fl,?_⟩
   have:1≤(aF y).length:=by
    cases h:(aF y).length with
    | zero=>exact absurd (fB (by rw [show ("":Str).cps.toList=[] by decide +kernel];exact Et (by rw [len_list];exact h))) e
    | succ k=>omega
   rw [decide_eq_true this,Bool.true_and] at hR
   by_cases h2:(aF y).length≤12
   ·rw [decide_eq_true h2] at hR
    rw [decide_eq_false (by omega)];exact hR
   ·rw [decide_eq_false h2] at hR
    rw [decide_eq_true (by omega)];exact hR
 ·simp_arith! [ba]
  exact no λ⟨h1,h2,_⟩=>by simp [h1,h2] at hb
 simp only [Fy,Eh,decide_eq_true_eq] at hb
 simp_all! [BY]
 obtain ⟨Inv,hInv⟩:∃Inv:Nat→Sr→Hq→Prop,∀i τ J2,Inv i τ J2↔∃(u2:Option PV),τ=[some (.str y),some (.str (aF y)),u2]∧J2=J'∧((aF y).cps.toList.take i).all (aY "0123456789")=true:=⟨_,λ_ _ _=>Iff.rfl⟩
 refine jk Inv ((hInv _ _ _).mpr ⟨_,rfl,rfl,rfl⟩) (λ_ _ _ _=>trivial) ?_ ?_
 ·intro i x τ J2 hx hv
  obtain ⟨u2,rfl,rfl,hall⟩:=(hInv _ _ _).mp hv
  rw [Eb] at hx
  obtain ⟨c,hc,rfl⟩:=ER.mp hx
  have et:(aF y).cps.toList.take (i + 1)=(aF y).cps.toList.take i ++ [c]:=by rw [Eu,hc];rfl
  simp_arith! [ba,tQ]
  have hs:(!(Builtin.Str.occurrences ("0123456789":Str) (sgn c) 0 ("0123456789":Str).length 1).isEmpty)=aY "0123456789" c:=rfl
  rw [hs]
  cases hb:aY "0123456789" c with
  | false =>
   rw [if_pos rfl]
   refine no λ⟨_,_,h3⟩=>?_
   have:=Em.mp h3 c (Ed hc)
   rw [this] at hb;cases hb
  | true =>
   rw [if_neg (by decide)]
   refine (hInv _ _ _).mpr ⟨_,rfl,rfl,?_⟩
   rw [et,FT,hall]
   simpa using hb
 intro τ J2 hv
 obtain ⟨u2,rfl,rfl,hall⟩:=(hInv _ _ _).mp hv
 clear hv hInv Inv
 rw [D0,Ez] at hall
 refine hNq _ _ ?_
 clear hNq Nq
 have ok:fS y:=⟨hb.1,hb.2,hall⟩
 obtain ⟨c,cs,hcs⟩:∃c cs,(aF y).cps.toList=c :: cs:=by
  cases h:(aF y).cps.toList with
  | nil=>have:=len_list (aF y);rw [h] at this;simp at this;omega
  | cons c cs=>exact ⟨c,cs,rfl⟩
 have h0:bN (aF y).cps.toList (0:Int)=some c:=by rw [hcs];exact iA _ _
 have hsg:(sgn c=("0":Str))=(c=48):=propext ⟨λh=>by
  have:=congrArg (λs:Str=>s.cps.toList) h
  rw [g9] at this
  injection this,λh=>by rw [h,g9];rfl⟩
 simp_all! [vJ,h0]
 refine ⟨fl,?_⟩
 have fin:¬ ((aF y).cps.toList.head?=some 48∧y≠("0":Str))→Nq [some (PV.str y),some (PV.str (aF y)),u2] J2:=λh=>by
  obtain ⟨n,hn,e⟩:=lE.mpr ⟨ok,h⟩
  have ht:=(fu hn).2
  rw [← e] at ht
  refine hNq _ _ ?_
  simp_arith! [ba,tO,ht]
  exact ⟨by have:=(mI ok).1;omega,q n hn e⟩
 by_cases hc0:sgn c=("0":Str)
 ·rw [if_pos hc0]
  by_cases hy:y=("0":Str)
  ·rw [if_pos hy];exact fin λh=>h.2 hy
  ·rw [if_neg hy]
   refine qn λn hn e=>(lE.mp ⟨n,hn,e⟩).2 ⟨?_,hy⟩
   rw [hcs,hsg.mp hc0];rfl
 ·rw [if_neg hc0]
  refine fin λh=>hc0 (hsg.mpr ?_)
  rw [hcs] at h
  exact Option.some.inj h.1
abbrev lQ:Stmt:=(top 36)
abbrev fN:List Str:=["_law_text"]
theorem mT:L2.ax ["_law_text","_law_sign"] ["_law_text"] (L2.aj lQ):=jm
def pY:d8:=λxs J Q _=>∃y:Str,xs=[.str y]∧y.length≤sizeLine∧Q (.bl (good y)) J
theorem qO {f:Addr} {fd:FuncData} (F:cu K "_law_named" "_law_named" lQ f fd) (Z:d9 mg):aM P w K mg base (cU P w) 1 f fd fN (hE K pY):=by
 simp_arith [mT,(ai (fb dD rfl (tZ (rv 0)) (dN (i:=1) mT.nd) (ao (aK (ay pE (rv 1) aw) (ao (az kG)) aD)))
   (ao (az (oh (f6 wJ ag (aH fo rfl Z.len boot_len (af (rv 0) ah))) (oi (f6 wJ (aH fo rfl Z.len boot_len (af (rv 0) ah)) ag))))))]
 ·obtain ⟨y,rfl,_⟩:=h;rfl
 obtain ⟨y,rfl,hl,q⟩:=h
 refine hX ?_
 have hlen:y.cps.size=y.length:=rfl
 unfold good at q
 rw [hlen] at q
 simp_all! [BY]
 obtain ⟨Inv,hInv⟩:∃Inv:Nat→Sr→Hq→Prop,∀i τ J2,Inv i τ J2↔∃(u1:Option PV),τ=[some (.str y),u1]∧J2=J∧(y.cps.toList.take i).all (aY aP)=true:=⟨_,λ_ _ _=>Iff.rfl⟩
 refine jk Inv ((hInv _ _ _).mpr ⟨_,rfl,rfl,rfl⟩) (λ_ _ _ _=>trivial) ?_ ?_
 ·intro i x τ J2 hx hv
  obtain ⟨u1,rfl,rfl,hall⟩:=(hInv _ _ _).mp hv
  rw [Eb] at hx
  obtain ⟨c,hc,rfl⟩:=ER.mp hx
  have et:y.cps.toList.take (i + 1)=y.cps.toList.take i ++ [c]:=by rw [Eu,hc];rfl
  simp_arith! [ba,tQ]
  have hs:(!(Builtin.Str.occurrences ("abcdefghijklmnopqrstuvwxyz0123456789":Str) (sgn c) 0 ("abcdefghijklmnopqrstuvwxyz0123456789":Str).length 1).isEmpty)=aY aP c:=rfl
  rw [hs]
  cases hb:aY aP c with
  | false =>
   rw [if_pos rfl]
   have:y.cps.toList.all (aY aP)=false:=by
    rw [← Bool.not_eq_true,Em]
    intro h
    rw [h c (Ed hc)] at hb;cases hb
   rw [this,EN] at q
   exact q
  | true =>
   rw [if_neg (by decide)]
   refine (hInv _ _ _).mpr ⟨_,rfl,rfl,?_⟩
   rw [et,FT,hall]
   simpa using hb
 intro τ J2 hv
 obtain ⟨u1,rfl,rfl,hall⟩:=(hInv _ _ _).mp hv
 clear hv hInv Inv
 rw [D0,Ez] at hall
 rw [hall,E1] at q
 refine hNq _ _ ?_
 clear hNq Nq
 simp_arith! [ba,mP]
 refine ⟨hl,?_⟩
 by_cases h1:1≤y.length
 ·rw [if_pos (by omega)]
  refine ⟨hl,?_⟩
  rw [decide_eq_true h1,Bool.true_and] at q
  rw [show decide (((y.length:Nat):Int)≤8)=decide (y.length≤8) from decide_eq_decide.mpr (by omega)]
  exact q
 ·rw [if_neg (by omega)]
  rw [decide_eq_false h1,Fv] at q
  exact q
abbrev jK:Stmt:=(top 37)
abbrev eZ:List Str:=["_law_line_here"]
theorem bF:L2.ax ["_law_line_here","_law_words","_law_many","_law_parts","_law_top","_law_under","_law_numbers","_law_word","_law_out"] ["_law_line_here"] (L2.aj jK):=jm
theorem oR (x z:PV) (xs:List PV):gA (x :: z :: xs) (some 2) none=xs:=by
 have e1:HT.eJ (x :: z :: xs).length 0 (some 2)=2:=by simp [HT.eJ]
 have e2:HT.eJ (x :: z :: xs).length (x :: z :: xs).length none=(x :: z :: xs).length:=by simp [HT.eJ]
 unfold gA
 rw [e1,e2]
 simp
theorem uO (q:Rat) (a b:Int):eqQ (fr q) (.tup [.int a,.int b])=decide (q.num=a∧(q.den:Int)=b):=by
 rw [o6,r_,gC,gC,oZ,eq_int,eq_int,E1,← FP]
theorem tM (a b:Int):fY (.tup [.int a,.int b])=true:=by simp [fY,dT]
theorem gK {J:Hq} {l:Addr} {o:HQ} (h:J l=none):rL J (put J l o):=λa=>by
 by_cases e:a=l
 ·subst e;exact .inr h
 ·rw [dm e];exact .inl rfl
theorem sL {J:Hq} {p o:Addr} {a b:HQ} (hp:J p=none) (ho:J o=none):rL J (put (put J p a) o b):=λx=>by
 by_cases e:x=o
 ·subst e;exact .inr ho
 ·by_cases e2:x=p
  ·subst e2;exact .inr hp
  ·rw [dm e,dm e2];exact .inl rfl
def kr (z:PV):Prop:=(∃s,z=.str s)∨(∃n,z=.int n)∨z=.non
theorem xP {z:PV} (h:kr z):(eqQ z .non=true↔z=.non)∧(eqQ .non z=true↔z=.non)∧fY z=true∧dep (bZ z)≤60:=by
 rcases h with ⟨s,rfl⟩ | ⟨n,rfl⟩ | rfl
 ·exact ⟨⟨λh=>(nomatch h),λh=>(nomatch h)⟩,⟨λh=>(nomatch h),λh=>(nomatch h)⟩,lL _,by simp [bZ,dep]⟩
 ·exact ⟨⟨λh=>(nomatch h),λh=>(nomatch h)⟩,⟨λh=>(nomatch h),λh=>(nomatch h)⟩,pJ _,by simp [bZ,dep]⟩
 ·exact ⟨⟨λ_=>rfl,λ_=>rfl⟩,⟨λ_=>rfl,λ_=>rfl⟩,pL,by simp [bZ,dep]⟩
theorem kF:∀{l:List PV},(∀z∈l,kr z)→dT l=true
 | [],_=>rfl
 | x :: l,h=>by rw [kE,(xP (h x (by simp))).2.2.1,kF λz hz=>h z (by simp [hz])];rfl
theorem uN {z z':PV} (h:kr z) (h':kr z') (e:eqQ z z'=true):eqQ z .non=eqQ z' .non:=by
 have key:z=.non↔z'=.non:=by
  constructor
  ·rintro rfl;exact (xP h').2.1.mp e
  ·rintro rfl;exact (xP h).1.mp e
 rw [EI,(xP h).1,(xP h').1]
 exact key
def arity (w:Str):Option Nat:=if w=("join":Str) then some 2 else if w=("turn":Str) then some 1 else if w=("leave":Str)∨w=("unwatch":Str) then some 0 else none
theorem nh (w:Str):l3 [(("join":Str),PV.int 2),("turn",.int 1),("leave",.int 0),("unwatch",.int 0)] w=(arity w).map λk=>PV.int (k:Nat):=by
 unfold arity
 by_cases h1:w=("join":Str)
 ·rw [if_pos h1,L2.bV,if_pos h1.symm];rfl
 rw [if_neg h1,L2.bV,if_neg λz=>h1 z.symm]
 by_cases h2:w=("turn":Str)
 ·rw [if_pos h2,L2.bV,if_pos h2.symm];rfl
 rw [if_neg h2,L2.bV,if_neg λz=>h2 z.symm]
 by_cases h3:w=("leave":Str)
 ·rw [if_pos (.inl h3),L2.bV,if_pos h3.symm];rfl
 rw [L2.bV,if_neg λz=>h3 z.symm]
 by_cases h4:w=("unwatch":Str)
 ·rw [if_pos (.inr h4),L2.bV,if_pos h4.symm];rfl
 rw [if_neg λz=>z.elim h3 h4,L2.bV,if_neg λz=>h4 z.symm];rfl
open Classical in
def gL (y:Str):PV:=if h:∃n:Int,n.natAbs < 10 ^ 12∧y=txt n then .int h.choose else .non
theorem se (y:Str):kr (gL y):=by
 unfold gL
 split
 ·exact .inr (.inl ⟨_,rfl⟩)
 ·exact .inr (.inr rfl)
theorem pA {y:Str} {n:Int} (hn:n.natAbs < 10 ^ 12) (e:y=txt n):gL y=.int n:=by
 unfold gL
 have h:∃n:Int,n.natAbs < 10 ^ 12∧y=txt n:=⟨n,hn,e⟩
 rw [dif_pos h]
 have:=h.choose_spec
 exact congrArg PV.int (cM this.1 (this.2.symm.trans e) hn)
theorem lB {y:Str} (h:∀n:Int,n.natAbs < 10 ^ 12→y≠txt n):gL y=.non:=by
 unfold gL
 rw [dif_neg (λ⟨n,hn,e⟩=>h n hn e)]
theorem lD (y:Str):(∃n:Int,n.natAbs < 10 ^ 12∧y=txt n∧gL y=.int n)∨((∀n:Int,n.natAbs < 10 ^ 12→y≠txt n)∧gL y=.non):=by
 by_cases h:∃n:Int,n.natAbs < 10 ^ 12∧y=txt n
 ·obtain ⟨n,hn,e⟩:=h
  exact .inl ⟨n,hn,e,pA hn e⟩
 ·have:∀n:Int,n.natAbs < 10 ^ 12→y≠txt n:=λn hn e=>h ⟨n,hn,e⟩
  exact .inr ⟨this,lB this⟩
theorem yk {y:Str} {J:Hq} {Q:PV→Hq→Prop} {E:Addr→Hq→Prop} (hl:y.length≤sizeLine) (q:Q (gL y) J):oB [.str y] J Q E:=⟨y,rfl,hl,λn hn e=>by rw [pA hn e] at q;exact q,λh=>by rw [lB h] at q;exact q⟩
def m6:d8:=λxs J Q _=>∃y:Str,xs=[.str y]∧y.length≤100000∧(∀d:aA,d.Good→y=d.line→Q d.V J)∧((∀d:aA,d.Good→y≠d.line)→Q .non J)
theorem nN {f:Addr} {fd:FuncData} (F:cu K "_law_reader" "_law_reader" jK f fd) (Z:d9 mg) (i7:bB P w K mg base 1 "_law_number" eY oB) (oM:bB P w K mg base 1 "_law_named" fN pY) (l7:bB P w K mg base 1 "_law_low" cN oA):aM P w K mg base (cU P w) 2 f fd eZ (hE K m6):=by
 simp_arith [bF,(ai (aI (i:=1) bF.nd (gW PySem.F.plainAttrs_str PySem.F.slot_str_split PySem.F.type_str_split eU (rv 0) (af aw ah)))
   (ai (aI (i:=2) bF.nd (aH bT rfl Z.len boot_len (af (rv 1) ah)))
   (ai (aK (cg (dq (ay (aV hr.av) (ar au (rv 1) ag) aw) (cf (ay (aV hr.av) (rv 2) ag)))) (ao (az (bz (af aw ah)))) aD)
   (ai (aK (cg (dq (ay (aV hr.av) (ar au (rv 1) ag) aw) (cf (ay (aV hr.av) (rv 2) ag)))) (ai (aI (i:=3) bF.nd (gW PySem.F.plainAttrs_str PySem.F.slot_str_split PySem.F.type_str_split eU (ar au (rv 1) ag) (af aw ah)))
   (ai (aK (ay (gN hr.av) (aH bT rfl Z.len boot_len (af (rv 3) ah)) ag) (ao (az cE)) aD)
   (ai (aI (i:=4) bF.nd (aS i7 B hr (af (ar au (rv 3) ag) ah)))
   (ai (aI (i:=5) bF.nd (aS i7 B hr (af (ar au (rv 3) ag) ah)))
   (ai (aK (cg (d6 (ay tm (rv 4) cE) (d6 (ay tm (rv 5) cE) (d6 (ay kC (rv 4) ag) (fc (ay kC (rv 5) ag)))))) (ao (az cE)) aD)
   (ai (aK (ay (gN hr.av) (aS l7 B hr (af (rv 4) (af (rv 5) ah))) (bz (af (rv 4) (af (rv 5) ah)))) (ao (az cE)) aD)
   (ao (az (bz (af aw (af (bz (af (rv 4) (af (rv 5) ah))) ah))))))))))) aD)
   (ai (aI (i:=6) bF.nd (tW [("join",2),("turn",1),("leave",0),("unwatch",0)] rfl rfl))
   (ai (aK (cg (dq (ay (aV hr.av) (ar au (rv 1) ag) aw) (cf (ay td (rv 2) ag)))) (ai (fb dD rfl (iZ (aT fQ (rv 1) (a_ ag) bp)) (dN (i:=7) bF.nd) (ao (aK (dU (dn (aS oM B hr (af (rv 7) ah)))) (ao (az cE)) aD)))
   (ao (az (bz (af aw (af (ar au (rv 1) ag) (af (bE gz rfl Z.tuple boot_tuple (af (aT fQ (rv 1) (a_ ag) bp) ah)) ah))))))) aD)
   (ai (aK (cg (d6 (ay vt (ar au (rv 1) ag) (rv 6)) (d6 (ay (gN hr.av) (rv 2) (aE di ag (ar xW (rv 6) (ar au (rv 1) ag)))) (fc (dU (dn (aS oM B hr (af (ar au (rv 1) ag) ah)))))))) (ao (az cE)) aD)
   (ai (aI (i:=8) bF.nd (yR (af (ar au (rv 1) ag) (af (ar au (rv 1) ag) ah))))
   (ai (fb dD rfl (iZ (aT fQ (rv 1) (a_ ag) bp)) (dN (i:=7) bF.nd) (ao (pR (gW PySem.F.plainAttrs_list PySem.F.slot_list_append PySem.F.type_list_append qG (rv 8) (af (aS i7 B hr (af (rv 7) ah)) ah)))))
   (ai (aK (ay (yz hr.av) cE (rv 8)) (ao (az cE)) aD)
   (ao (az (bE gz rfl Z.tuple boot_tuple (af (rv 8) ah)))))))))))))),F]
 ·obtain ⟨y,rfl,_⟩:=h;rfl
 obtain ⟨y,rfl,hl,q,qn⟩:=h
 refine hX ?_
 have l32:((" ":Str).length == 0)=false:=by decide +kernel
 have l47:(("/":Str).length == 0)=false:=by decide +kernel
 obtain ⟨w0,rest,hws⟩:∃w0 rest,Txt.split y (" ":Str)=w0 :: rest:=by
  have:=fh y 32
  rw [← eO] at this
  cases h:Txt.split y (" ":Str) with
  | nil=>exact absurd h this
  | cons a l=>exact ⟨a,l,rfl⟩
 have hs:∀p∈rest,p.length + 2≤sizeLine:=λp hp=>D1 (EW (part_short (by rw [hws];exact D8 _ hp)) 2) (D1 (EW hl 2) (by decide))
 have isd:∀d:aA,d.Good→y=d.line→d.head=w0∧d.tail=rest:=λd g e=>by
  have:d.words=w0 :: rest:=by rw [← hws,e,eh g]
  rw [eF] at this
  injection this with h1 h2
  exact ⟨h1,h2⟩
 have line:∀d:aA,d.words=w0 :: rest→y=d.line:=λd e=>jO (by rw [hws,e])
 have hwn:rest.length + 2≤100010:=by
  have:=L2.split_len y (" ":Str)
  rw [hws,Ee] at this
  omega
 simp_all! [iq,l32,hws]
 refine ⟨D1 (show _≤100010 by omega) (by decide),hNq _ _ ?_⟩
 clear hNq Nq
 simp_all! [cx]
 rw [fU]
 by_cases c1:w0=("about":Str)∧(((rest.map PV.str).length + 1:Nat):Int)=1
 ·rw [if_pos c1]
  obtain ⟨rfl,hk⟩:=c1
  have hr0:rest=[]:=Et (by rw [D0] at hk;omega)
  subst hr0
  exact Fg.same (q .about trivial (line _ rfl))
 rw [if_neg c1]
 refine hNq _ _ ?_
 clear hNq Nq
 simp_all! [cx]
 rw [fU]
 by_cases c2:w0=("go":Str)∧(((rest.map PV.str).length + 1:Nat):Int)=2
 ·rw [if_pos c2]
  obtain ⟨rfl,hk⟩:=c2
  obtain ⟨a,rfl⟩:=sJ (l:=rest) (by rw [D0] at hk;omega)
  have la:=hs a (by simp)
  have isg:∀d:aA,d.Good→y=d.line→∃z,d=.go z∧d_ z∧eE z=a:=λd g e=>by
   obtain ⟨h1,h2⟩:=isd d g e
   obtain ⟨z,rfl⟩:=sA h1
   injection h2 with h2 _
   exact ⟨z,rfl,g,h2⟩
  simp_all! [iq,l47]
  refine ⟨la,hNq _ _ ?_⟩
  clear hNq Nq
  simp_all! [D0]
  by_cases hn:(Txt.split a ("/":Str)).length=2
  rotate_left
  ·rw [if_neg (by omega)]
   refine Fg.same (qn λd g e=>?_)
   obtain ⟨z,rfl,_,ez⟩:=isg d g e
   rw [← ez,cH] at hn
   exact hn rfl
  rw [if_pos (by omega)]
  obtain ⟨p1,p2,hab⟩:=yb hn
  have hp:∀p∈[p1,p2],p.length≤sizeLine:=λp hp=>D1 (part_short (by rw [hab];exact hp)) (by omega)
  have isz:∀d:aA,d.Good→y=d.line→∃z,d=.go z∧d_ z∧p1=txt z.num∧p2=txt z.den:=λd g e=>by
   obtain ⟨z,rfl,hz,ez⟩:=isg d g e
   rw [← ez,cH] at hab
   injection hab with h1 h2
   injection h2 with h2 _
   exact ⟨z,rfl,hz,h1.symm,h2.symm⟩
  rw [hab]
  refine hNq _ _ ?_
  clear hNq Nq
  simp_all! []
  refine yk (hp p1 (by simp)) ?_
  refine hNq _ _ ?_
  clear hNq Nq
  simp_all! []
  refine yk (hp p2 (by simp)) ?_
  refine hNq _ _ ?_
  clear hNq Nq
  rcases lD p1 with ⟨n,hn1,e1,v1⟩ | ⟨no1,v1⟩
  rotate_left
  ·rw [v1]
   simp_arith! [ba,wR]
   refine Fg.same (qn λd g e=>?_)
   obtain ⟨z,rfl,hz,h1,h2⟩:=isz d g e
   exact no1 _ hz.2.1 h1
  rcases lD p2 with ⟨m,hm1,e2,v2⟩ | ⟨no2,v2⟩
  rotate_left
  ·rw [v1,v2]
   simp_arith! [ba,wR]
   refine Fg.same (qn λd g e=>?_)
   obtain ⟨z,rfl,hz,h1,h2⟩:=isz d g e
   exact no2 _ (by have:=hz.2.2;simpa using this) h2
  rw [v1,v2]
  have isq:∀d:aA,d.Good→y=d.line→∃z:Rat,d=.go z∧d_ z∧n=z.num∧m=z.den:=λd g e=>by
   obtain ⟨z,rfl,hz,h1,h2⟩:=isz d g e
   exact ⟨z,rfl,hz,cM hn1 (e1.symm.trans h1) hz.2.1,cM hm1 (e2.symm.trans h2) (by have:=hz.2.2;simpa using this)⟩
  by_cases c:n < 0∨m < 1
  ·have:Fg Q .non J:=Fg.same (qn λd g e=>by
    obtain ⟨z,rfl,hz,h1,h2⟩:=isq d g e
    have:=z.den_pos
    have:=hz.1
    omega)
   simp_all! [wR]
   (repeat' split) <;> first | exact this | (exfalso;omega)
  simp_all! [wR]
  rw [if_neg (λz=>c (.inl z)),if_neg (λz=>c (.inr z))]
  refine hNq _ _ ?_
  clear hNq Nq
  have hm0:0 < m:=by omega
  simp_all! []
  refine ⟨n,m,rfl,hm0,(Bd.small (by omega) (by omega)).mono (by decide),?_⟩
  simp_all! [uO,tM]
  have hz0:0≤n:=by omega
  by_cases e:(Rat.divInt n m).num=n∧((Rat.divInt n m).den:Int)=m
  ·rw [if_pos e]
   simp_all! []
   have hz:d_ (Rat.divInt n m):=⟨by rw [e.1];exact hz0,by rw [e.1];exact hn1,by have:=e.2;omega⟩
   have ev:PV.tup [.int n,.int m]=fr (Rat.divInt n m):=by rw [o6,e.1,e.2]
   rw [ev]
   refine Fg.same (q (.go (Rat.divInt n m)) hz (line _ ?_))
   show [("go":Str),eE (Rat.divInt n m)]=_
   unfold eE
   rw [e.1,e.2,← e1,← e2,← jP hab]
  ·rw [if_neg e]
   simp_all! []
   refine Fg.same (qn λd g e'=>e ?_)
   obtain ⟨z,rfl,hz,h1,h2⟩:=isq d g e'
   rw [h1,h2,Rat.num_divInt_den]
   exact ⟨rfl,rfl⟩
 rw [if_neg c2]
 refine hNq _ _ ?_
 clear hNq Nq
 simp_all! [cx]
 intro D hD ep
 refine hNq _ _ ?_
 clear hNq Nq
 simp_all! [cx]
 rw [fU]
 by_cases c3:w0=("watch":Str)∧(1:Int) < (((rest.map PV.str).length + 1:Nat):Int)
 ·rw [if_pos c3]
  obtain ⟨rfl,hk⟩:=c3
  obtain ⟨m,ns,rfl⟩:∃m ns,rest=m :: ns:=by
   cases rest with
   | nil=>simp at hk
   | cons m ns=>exact ⟨m,ns,rfl⟩
  have isw:∀d:aA,d.Good→y=d.line→good m=true∧∀n∈ns,good n=true:=λd g e=>by
   obtain ⟨h1,h2⟩:=isd d g e
   obtain ⟨m',ns',rfl⟩:=ju h1
   injection h2 with h2 h3
   subst h2 h3
   exact g
  simp_all! [cx]
  obtain ⟨Inv,hInv⟩:∃Inv:Nat→Sr→Hq→Prop,∀i τ J2,Inv i τ J2↔∃(u7:Option PV),τ=[some (.str y),some (.fl (.str "watch" :: .str m :: ns.map .str)),some (.int ((ns.map PV.str).length + 1 + 1:Nat)),none,none,none,some (.ref D),u7,none]∧J2=put J D (.dct [("join",.int 2),("turn",.int 1),("leave",.int 0),("unwatch",.int 0)] ep)∧∀n∈(m :: ns).take i,good n=true:=⟨_,λ_ _ _=>Iff.rfl⟩
  refine jk Inv ((hInv _ _ _).mpr ⟨_,rfl,rfl,by simp⟩) (λ_ _ _ _=>trivial) ?_ ?_
  ·intro i x τ J2 hx hv
   obtain ⟨u7,rfl,rfl,hall⟩:=(hInv _ _ _).mp hv
   have hx':((m :: ns).map PV.str)[i]?=some x:=hx
   rw [Eb] at hx'
   obtain ⟨n,hn,rfl⟩:=ER.mp hx'
   have hmem:=Ed hn
   have et:(m :: ns).take (i + 1)=(m :: ns).take i ++ [n]:=by rw [Eu,hn];rfl
   simp_arith! [ba]
   refine ⟨n,rfl,by have:=hs n hmem;omega,?_⟩
   cases hg:good n with
   | true =>
    simp_arith! [ba]
    exact (hInv _ _ _).mpr ⟨_,rfl,rfl,λa ha=>by
     rw [et] at ha
     rcases EC.mp ha with ha | ha
     ·exact hall a ha
     ·rw [Es.mp ha];exact hg⟩
   | false =>
    simp_arith! [ba]
    refine Fg.less (gK hD) (qn λd g e=>?_)
    obtain ⟨gm,gn⟩:=isw d g e
    rcases D6.mp hmem with rfl | h
    ·rw [gm] at hg;cases hg
    ·rw [gn n h] at hg;cases hg
  ·intro τ J2 hv
   obtain ⟨u7,rfl,rfl,hall⟩:=(hInv _ _ _).mp hv
   have hall':∀n∈m :: ns,good n=true:=λn hn=>hall n (by rw [EO (by simp)];exact hn)
   refine hNq _ _ ?_
   clear hNq Nq
   simp_arith! [ba,oR]
   refine ⟨_,_,rfl,rfl,Fg.less (gK hD) (q (.watch m ns) ⟨hall' m (by simp),λn hn=>hall' n (by simp [hn])⟩ (line _ rfl))⟩
 rw [if_neg c3]
 refine hNq _ _ ?_
 clear hNq Nq
 have isa:∀d:aA,d.Good→y=d.line→∃k n ws,arity w0=some k∧rest=n :: ws∧ws.length=k∧good n=true∧∀x∈ws,∃i:Int,i.natAbs < 10 ^ 12∧x=txt i:=λd g e=>by
  obtain ⟨h1,h2⟩:=isd d g e
  subst h1 h2
  rw [D0] at c1 c2 c3
  cases d with
  | join n p v=>exact ⟨2,n,[txt p,txt v],rfl,rfl,rfl,g.1,λx hx=>by
    simp only [D6,Ei,or_false] at hx
    rcases hx with rfl | rfl
    ·exact ⟨p,g.2.1,rfl⟩
    ·exact ⟨v,g.2.2,rfl⟩⟩
  | leave n=>exact ⟨0,n,[],rfl,rfl,rfl,g,by simp⟩
  | turn n v=>exact ⟨1,n,[txt v],rfl,rfl,rfl,g.1,λx hx=>by
    rw [Es] at hx;exact ⟨v,g.2,hx⟩⟩
  | about=>exact absurd ⟨rfl,rfl⟩ c1
  | go z=>exact absurd ⟨rfl,rfl⟩ c2
  | watch m ns=>exact absurd ⟨rfl,by show (1:Int) < ((ns.length + 1 + 1:Nat):Int);omega⟩ c3
  | unwatch n=>exact ⟨0,n,[],rfl,rfl,rfl,g,by simp⟩
 have hne:∀(k:Nat),(∀n ws,rest=n :: ws→ws.length=k→good n=true→False)→arity w0=some k→Fg Q .non (put J D (.dct [("join",.int 2),("turn",.int 1),("leave",.int 0),("unwatch",.int 0)] ep)):=λk no ha=>Fg.less (gK hD) (qn λd g e=>by
  obtain ⟨k',n,ws,ha',hr',hl',hg',_⟩:=isa d g e
  rw [ha] at ha'
  injection ha' with ha'
  exact no n ws hr' (by rw [hl',ha']) hg')
 have hda:∀{o:HQ},put J D o D=some o:=bq
 cases harr:arity w0 with
 | none =>
  simp_all! [vH,yK,hda,nh,harr]
  rw [if_pos rfl]
  refine Fg.less (gK hD) (qn λd g e=>?_)
  obtain ⟨k,_,_,ha,_⟩:=isa d g e
  rw [harr] at ha;cases ha
 | some k =>
  simp_all! [vH,yK,hda,nh,harr]
  rw [if_neg (λz=>nomatch z)]
  by_cases hk:rest.length + 1=2 + k
  rotate_left
  ·rw [if_neg (by rw [D0];omega)]
   exact hne k (λn ws hr hl _=>hk (by rw [hr,Ee];omega)) harr
  rw [if_pos (by rw [D0];omega)]
  obtain ⟨w1,ws,rfl⟩:∃w1 ws,rest=w1 :: ws:=by
   cases rest with
   | nil=>simp at hk;omega
   | cons a l=>exact ⟨a,l,rfl⟩
  have hwl:ws.length=k:=by rw [Ee] at hk;omega
  have hk2:k≤2:=by
   unfold arity at harr
   split at harr
   ·injection harr with harr;omega
   split at harr
   ·injection harr with harr;omega
   split at harr
   ·injection harr with harr;omega
   ·cases harr
  have l1:=hs w1 (by simp)
  simp_arith! [ba]
  refine ⟨w1,rfl,by omega,?_⟩
  cases hg:good w1 with
  | false =>
   simp_arith! [ba]
   refine hne k (λn ws' hr _ hg'=>?_) harr
   injection hr with hr _
   rw [← hr,hg] at hg';cases hg'
  | true =>
   simp_arith! [ba]
   refine hNq _ _ ?_
   clear hNq Nq
   simp_all! []
   intro r hr'
   have hr0:J r=none:=by
    by_cases e:r=D
    ·subst e;exact hD
    ·rw [dm e] at hr';exact hr'
   refine hNq _ _ ?_
   clear hNq Nq
   simp_all! [oR]
   obtain ⟨Inv,hInv⟩:∃Inv:Nat→Sr→Hq→Prop,∀i τ J2,Inv i τ J2↔∃(u7:Option PV),τ=[some (.str y),some (.fl (.str w0 :: .str w1 :: ws.map .str)),some (.int (ws.length + 1 + 1:Nat)),none,none,none,some (.ref D),u7,some (.ref r)]∧J2=put (put J D (.dct [("join",.int 2),("turn",.int 1),("leave",.int 0),("unwatch",.int 0)] ep)) r (.lst (.str w0 :: .str w1 :: (ws.take i).map gL)):=⟨_,λ_ _ _=>Iff.rfl⟩
   refine jk Inv ((hInv _ _ _).mpr ⟨_,by rw [D0],rfl⟩) (λ_ _ _ _=>trivial) ?_ ?_
   ·intro i x τ J2 hx hv
    obtain ⟨u7,rfl,rfl⟩:=(hInv _ _ _).mp hv
    rw [Eb] at hx
    obtain ⟨n,hn,rfl⟩:=ER.mp hx
    have ln:=hs n (by simp [Ed hn])
    have hi:=(D'.mp hn).1
    have et:ws.take (i + 1)=ws.take i ++ [n]:=by rw [Eu,hn];rfl
    simp_arith! [ba]
    refine yk (by omega) ?_
    simp_arith! [ba,bq,Ee,D0,Ek]
    refine ⟨cG (by omega),(hInv _ _ _).mpr ⟨_,rfl,?_⟩⟩
    rw [lM,et,El];rfl
   intro τ J2 hv
   obtain ⟨u7,rfl,rfl⟩:=(hInv _ _ _).mp hv
   clear hv hInv Inv
   rw [D0,Ez]
   refine hNq _ _ ?_
   clear hNq Nq
   have lss:=sL (a:=HQ.dct [("join",.int 2),("turn",.int 1),("leave",.int 0),("unwatch",.int 0)] ep) (b:=.lst (.str w0 :: .str w1 :: ws.map gL)) hD hr0
   simp_all! [AJ,BI,bq]
   have hfl:∀z∈PV.str w0 :: PV.str w1 :: ws.map gL,kr z:=λz hz=>by
    rcases D6.mp hz with rfl | hz
    ·exact .inl ⟨_,rfl⟩
    rcases D6.mp hz with rfl | hz
    ·exact .inl ⟨_,rfl⟩
    obtain ⟨n,_,rfl⟩:=EB.mp hz
    exact se n
   refine ⟨kF hfl,λz hz=>(xP (hfl z hz)).2.2.2,λz hz z' hz' e=>uN (hfl z hz) (hfl z' hz') e,?_⟩
   by_cases hno:∃x∈ws,∀n:Int,n.natAbs < 10 ^ 12→x≠txt n
   ·obtain ⟨x,hx,no⟩:=hno
    rw [if_pos (FJ.mpr ⟨gL x,by simp only [D6,EB];exact .inr (.inr ⟨x,hx,rfl⟩),by rw [lB no];rfl⟩)]
    refine Fg.less lss (qn λd g e=>?_)
    obtain ⟨_,n,ws',_,hr,_,_,hw⟩:=isa d g e
    injection hr with _ hr
    obtain ⟨i,hi,ei⟩:=hw x (by rw [← hr];exact hx)
    exact no i hi ei
   have hyes:∀x∈ws,∃n:Int,n.natAbs < 10 ^ 12∧x=txt n∧gL x=.int n:=λx hx=>by
    rcases lD x with h | ⟨h,_⟩
    ·exact h
    ·exact absurd ⟨x,hx,h⟩ hno
   rw [if_neg (λz=>by
    obtain ⟨v,hv,ev⟩:=FJ.mp z
    have:=(xP (hfl v hv)).1.mp ev
    subst this
    simp only [D6,EB] at hv
    rcases hv with h | h | ⟨x,hx,ex⟩
    ·cases h
    ·cases h
    ·obtain ⟨n,_,_,e⟩:=hyes x hx
     rw [e] at ex;cases ex)]
   refine hNq _ _ ?_
   clear hNq Nq
   simp_arith! [ba,og,lq,bq]
   refine Fg.less lss ?_
   unfold arity at harr
   split at harr
   ·rename_i e0
    subst e0
    injection harr with harr
    subst harr
    obtain ⟨b,c,rfl⟩:=yb hwl
    obtain ⟨n,hn,en,vn⟩:=hyes b (by simp)
    obtain ⟨m,hm,em,vm⟩:=hyes c (by simp)
    have:=q (.join w1 n m) ⟨hg,hn,hm⟩ (line _ (by rw [en,em];rfl))
    rw [D_,D_,E8,vn,vm]
    exact this
   split at harr
   ·rename_i e0
    subst e0
    injection harr with harr
    subst harr
    obtain ⟨b,rfl⟩:=sJ hwl
    obtain ⟨n,hn,en,vn⟩:=hyes b (by simp)
    have:=q (.turn w1 n) ⟨hg,hn⟩ (line _ (by rw [en];rfl))
    rw [D_,E8,vn]
    exact this
   split at harr
   ·rename_i e0
    injection harr with harr
    subst harr
    have hw0:ws=[]:=Et hwl
    subst hw0
    rcases e0 with rfl | rfl
    ·exact q (.leave w1) hg (line _ rfl)
    ·exact q (.unwatch w1) hg (line _ rfl)
   ·cases harr
abbrev jM:Stmt:=(top 41)
abbrev e8:List Str:=["_law_line_here","_law_row"]
theorem cZ:L2.ax ["_law_line_here","_law_row","_law_some","_law_at","_law_sign","_law_words"] ["_law_line_here","_law_row"] (L2.aj jM):=jm
def eI (ps:List Str):Nat:=(ps.map λx=>x.length).sum + ps.length
theorem cW (p:Str) (ps:List Str):eI (p :: ps)=p.length + 1 + eI ps:=by unfold eI;rw [D_,List.sum_cons,Ee];omega
theorem jw:∀ps qs:List Str,eI (ps ++ qs)=eI ps + eI qs
 | [],qs=>by show eI qs=0 + eI qs;omega
 | p :: ps,qs=>by rw [FK,cW,cW,jw ps qs];omega
theorem gJ {ps qs:List Str} (h:ps.Sublist qs):eI ps≤eI qs:=by
 induction h with
 | slnil=>exact D5 _
 | cons a _ ih=>rw [cW];omega
 | cons_cons a _ ih=>rw [cW,cW];omega
theorem jv:∀ps:List Str,ps≠[]→(Str.join (" ":Str) ps).length + 1=eI ps
 | [],h=>absurd rfl h
 | [p],_=>by show p.length + 1=p.length + 0 + 1;omega
 | p :: q :: r,_=>by
  have ih:=jv (q :: r) (by simp)
  rw [cW,← ih]
  show (p ++ (" ":Str) ++ Str.join (" ":Str) (q :: r)).length + 1=_
  rw [aX,aX,eD];omega
theorem oC (y:Str):eI (Txt.split y (" ":Str))=y.length + 1:=by
 have h:=PySem.StrLaws.join_split y (" ":Str)
 have ne:=fh y 32
 rw [← eO] at ne
 rw [← jv _ ne,h]
theorem uL (cs:List Str) (lo hi:Option Int):∃cs':List Str,gA (cs.map .str) lo hi=cs'.map .str∧cs'.Sublist cs:=by
 refine ⟨(cs.drop (HT.eJ cs.length 0 lo)).take (HT.eJ cs.length cs.length hi - HT.eJ cs.length 0 lo),?_,(Fz _ _).trans (List.drop_sublist _ _)⟩
 unfold gA;rw [D0,Fi,List.map_drop]
theorem join_le {ps:List Str} {n:Nat} (h:eI ps≤n):(Txt.join (" ":Str) ps).length≤n:=by
 rw [mC]
 by_cases e:ps=[]
 ·subst e;exact Ex _
 ·have:=jv ps e;omega
theorem xg {tx:Str} {i:Int} (h0:0≤i) (h1:i < (tx.cps.toList.length:Int)):∃c,bN tx.cps.toList i=some c:=by
 obtain ⟨j,rfl⟩:=Int.eq_ofNat_of_zero_le h0
 have hj:j < tx.cps.toList.length:=by omega
 exact ⟨tx.cps.toList[j],aU (D9 hj)⟩
def m8:d8:=λxs J Q _=>∃(y:Str) (a b c:Int),xs=[.str y,.fl [.int a,.int b,.int c]]∧y.length≤30000∧0≤a∧0≤b∧0≤c∧c < 95∧∀z:Str,z.length≤3 * y.length + 3→Q (.str z) J
theorem nO {f:Addr} {fd:FuncData} (F:cu K "_law_spoilt" "_law_spoilt" jM f fd) (Z:d9 mg):aM P w K mg base (cU P w) 1 f fd e8 (hE K m8):=by
 simp_arith [cZ,(ai (aI (i:=2) cZ.nd aw)
   (ai (aI (i:=3) cZ.nd (aE eW (ar au (rv 1) ag) (aE di (aH fo rfl Z.len boot_len (af (rv 0) ah)) ag)))
   (ai (aI (i:=4) cZ.nd (ar nF (rv 2) (ar au (rv 1) ag)))
   (ai (aK (ay (aV hr.av) (ar au (rv 1) ag) ag) (ao (az (aE bo (aE bo (aT dw (rv 0) bp (a_ (rv 3))) (rv 4)) (aT dw (rv 0) (a_ (rv 3)) bp)))) aD)
   (ai (aK (ay (aV hr.av) (ar au (rv 1) ag) ag) (ao (az (aE bo (aT dw (rv 0) bp (a_ (rv 3))) (aT dw (rv 0) (a_ (aE di (rv 3) ag)) bp)))) aD)
   (ai (aK (ay (aV hr.av) (ar au (rv 1) ag) ag) (ao (az (aE bo (aE bo (aT dw (rv 0) bp (a_ (rv 3))) (rv 4)) (aT dw (rv 0) (a_ (aE di (rv 3) ag)) bp)))) aD)
   (ai (aK (ay (aV hr.av) (ar au (rv 1) ag) ag) (ao (az (aE bo (aE bo (aT dw (rv 0) bp (a_ (rv 3))) (ar nF aw (aE eW (ar au (rv 1) ag) ag))) (aT dw (rv 0) (a_ (rv 3)) bp)))) aD)
   (ai (aI (i:=5) cZ.nd (gW PySem.F.plainAttrs_str PySem.F.slot_str_split PySem.F.type_str_split eU (rv 0) (af aw ah)))
   (ai (aK (ay (aV hr.av) (ar au (rv 1) ag) ag) (ao (az (gW PySem.F.plainAttrs_str PySem.F.slot_str_join PySem.F.type_str_join ph aw (af (aT fQ (rv 5) bp (a_ (Bc zh ag))) ah)))) aD)
   (ai (aI (i:=3) cZ.nd (aE eW (ar au (rv 1) ag) (aH bT rfl Z.len boot_len (af (rv 5) ah))))
   (ao (az (gW PySem.F.plainAttrs_str PySem.F.slot_str_join PySem.F.type_str_join ph aw (af (aE eA (aE eA (aT fQ (rv 5) bp (a_ (rv 3))) (aT fQ (rv 5) (a_ (rv 3)) (a_ (aE di (rv 3) ag)))) (aT fQ (rv 5) (a_ (rv 3)) bp)) ah))))))))))))))]
 ·obtain ⟨y,a,b,c,rfl,_⟩:=h;rfl
 obtain ⟨y,a,b,c,rfl,hl,a0,b0,c0,c1,q⟩:=h
 refine hX ?_
 have ly:y.length≤sizeLine:=D1 hl (by decide)
 have sl:∀lo hi,(Txt.slice y lo hi).length≤y.length:=λlo hi=>Txt.slice_le y lo hi
 have l32:((" ":Str).length == 0)=false:=by decide +kernel
 simp_all! [mP]
 refine ⟨ly,by omega,?_⟩
 simp_all! [vJ]
 obtain ⟨ch,hch⟩:=xg (tx:=(" !\"#$&'()*+,-./0123456789:;<=>?@ABCDEFGHIJKLMNOPQRSTUVWXYZ[\\]^_`abcdefghijklmnopqrstuvwxyz{|}~\n":Str)) c0 (by rw [show (" !\"#$&'()*+,-./0123456789:;<=>?@ABCDEFGHIJKLMNOPQRSTUVWXYZ[\\]^_`abcdefghijklmnopqrstuvwxyz{|}~\n":Str).cps.toList.length=95 by decide +kernel];exact c1)
 refine lH hch ⟨by decide +kernel,?_⟩
 have l1:(sgn ch).length=1:=rfl
 obtain ⟨k,hk,hk0⟩:∃k:Int,b % ((y.length:Int) + 1)=k∧0≤k:=⟨_,rfl,Int.emod_nonneg _ (by omega)⟩
 rw [hk]
 refine hNq _ _ ?_
 clear hNq Nq hch
 have s1:=sl none (some k)
 have s2:=sl (some k) none
 have s3:=sl (some (k + 1)) none
 by_cases h0:a=0
 ·simp_all! [h0,oa,fP,aX,l1]
  exact ⟨ly,D1 (show _≤30001 by omega) (by decide),ly,D1 (show _≤60001 by omega) (by decide),q _ (by simp only [aX,l1];omega)⟩
 by_cases h1:a=1
 ·simp_all! [h1,oa,fP,aX,l1,Int.reduceEq]
  exact ⟨ly,ly,D1 (show _≤60001 by omega) (by decide),q _ (by simp only [aX,l1];omega)⟩
 by_cases h2:a=2
 ·simp_all! [h2,oa,fP,aX,l1,Int.reduceEq]
  exact ⟨ly,D1 (show _≤30001 by omega) (by decide),ly,D1 (show _≤60001 by omega) (by decide),q _ (by simp only [aX,l1];omega)⟩
 by_cases h3:a=3
 ·simp_all! [h3,oa,fP,vJ,aX,l1,Int.reduceEq]
  obtain ⟨c2,hc2⟩:=xg (tx:=(" 0-1/":Str)) (i:=c % 5) (Int.emod_nonneg _ (by decide)) (by rw [show (" 0-1/":Str).cps.toList.length=5 by decide +kernel];exact Int.emod_lt_of_pos _ (by decide))
  have l2:(sgn c2).length=1:=rfl
  refine ⟨ly,by decide,lH hc2 ⟨by decide +kernel,_,_,rfl,rfl,D1 (show _≤30001 by omega) (by decide),ly,_,_,rfl,rfl,D1 (show _≤60001 by simp only [aX,l2];omega) (by decide),q _ (by simp only [aX,l2];omega)⟩⟩
 have hsum:=oC y
 obtain ⟨ws,hws⟩:∃ws,Txt.split y (" ":Str)=ws:=⟨_,rfl⟩
 rw [hws] at hsum
 have hwl:ws.length≤y.length + 1:=by have:ws.length≤eI ws:=Nat.le_add_left _ _;omega
 have cut:=uL ws
 have fin:∀(ps:List Str) (J':Hq),eI ps≤3 * eI ws→J'=J→(ps.map λx=>x.length).sum + ps.length * (" ":Str).length≤16777216∧Q (.str (Txt.join (" ":Str) ps)) J':=λps J' h e=>by
  subst e
  refine ⟨?_,q _ (D1 (join_le (n:=eI ps) (D5 _)) (by omega))⟩
  rw [eD,Nat.mul_one]
  show eI ps≤_
  omega
 simp_all! [h0,h1,h2,h3,iq,l32,hws]
 refine ⟨D1 (show _≤30002 by omega) (by decide),hNq _ _ ?_⟩
 clear hNq Nq
 simp_all! []
 by_cases h4:a=4
 ·obtain ⟨ps,hps,hsub⟩:=cut none (some (-1))
  simp_all! [h4,tP,hps]
  exact ⟨ps,rfl,fin ps J (by have:=gJ hsub;omega) rfl⟩
 have hne:0 < ws.length:=by
  have ne:=fh y 32
  rw [← eO,hws] at ne
  exact Fw.mpr ne
 simp_all! [h4]
 refine ⟨by rw [D0];omega,?_⟩
 generalize b % ((ws.map PV.str).length:Int)=m
 obtain ⟨p1,e1,s1'⟩:=cut none (some m)
 obtain ⟨p2,e2,s2'⟩:=cut (some m) (some (m + 1))
 obtain ⟨p3,e3,s3'⟩:=cut (some m) none
 have q1:=gJ s1'
 have q2:=gJ s2'
 have q3:=gJ s3'
 have r1:=s1'.length_le
 have r2:=s2'.length_le
 have r3:=s3'.length_le
 refine hNq _ _ ?_
 clear hNq Nq
 simp_arith! [ba,tP,e1,e2,e3]
 refine ⟨D1 (show _≤60002 by simp only [D0];omega) (by decide),D1 (show _≤90003 by simp only [EF,D0];omega) (by decide),p1 ++ p2 ++ p3,by rw [El,El],fin _ J ?_ rfl⟩
 rw [jw,jw]
 omega
def nB:List Str:=["BadName","Taken","Full","NoCraft","TooFar","BadMoment","Past","NotThere","NoWatch","NoTale"]
theorem xQ:∀i,i < 10→dF i≠"":=by decide +kernel
theorem uP (i:Nat) (hi:i < 10):nB.map (λx=>decide (x=dF i))=(Ey 10).map λj=>decide (i=j):=by
 have:∀i,i < 10→nB.map (λx=>decide (x=dF i))=(Ey 10).map λj=>decide (i=j):=by decide +kernel
 exact this i hi
def qd (i:Nat):Str:=if i < 10 then dF i else ""
def fT (i:Nat):List PV:=if i < 10 then eR i else []
theorem mi (j:Nat):wq (.fl (fT j)):=by
 unfold fT
 split
 ·exact ⟨by simp [eR,tK,kE,n_,jE (λk=>PV.bl (decide (j=k))) (λk=>n_ _)],by simp [eR,bZ,cb,dep,bU,Ey,List.range.loop]⟩
 ·exact ⟨by simp [tK,tN],by simp [bZ,cb,dep,bU]⟩
abbrev i0:Stmt:=(top 33)
abbrev fM:List Str:=["_law_due"]
theorem mS:L2.ax ["_law_due","_law_some"] ["_law_due"] (L2.aj i0):=jm
def BQ:PV→Str
 | .str x=>x
 | _=>""
def mY:d8:=λxs J Q _=>∃i,xs=[.str (qd i)]∧Q (.fl (fT i)) J
theorem qN {f:Addr} {fd:FuncData} (F:cu K "_law_flags" "_law_flags" i0 f fd) (Z:d9 mg):aM P w K mg base (cU P w) 1 f fd fM (hE K mY):=by
 simp_arith [mS,(ai (aI (i:=1) mS.nd (cQ (jF [.str "BadName",.str "Taken",.str "Full",.str "NoCraft",.str "TooFar",.str "BadMoment",.str "Past",.str "NotThere",.str "NoWatch",.str "NoTale"] rfl [.str "BadName",.str "Taken",.str "Full",.str "NoCraft",.str "TooFar",.str "BadMoment",.str "Past",.str "NotThere",.str "NoWatch",.str "NoTale"] rfl)))
   (ai (aK (ay (aV hr.av) (rv 0) aw) (ao (az (cQ ah))) aD)
   (ao (az (aE eA (cQ (af kG ah)) (Bb (L2.aj i0) ["_law_due","_law_some"] [("_law_due",0)] rfl rfl rfl (iZ (rv 1)) (λ_ _ _ _ _ _=>(f6 (aV hr.av) (rv 0) (rv 1)))))))))]
 ·obtain ⟨i,rfl,_⟩:=h;rfl
 obtain ⟨i,rfl,q⟩:=h
 refine hX ?_
 simp_all! []
 by_cases hi:i < 10
 ·unfold qd fT at *
  rw [if_pos hi] at q ⊢
  rw [if_neg (xQ i hi)]
  simp_all! [yP]
  refine ⟨λ_=>true,λx=>.bl (decide (BQ x=dF i)),⟨by decide +kernel,λJ' _=>⟨trivial,λx hx=>⟨⟨rfl,rfl⟩,λ_=>?_⟩⟩⟩,?_⟩
  ·obtain ⟨y,hy,rfl⟩:∃y∈nB,x=.str y:=by
    simp only [D6,Ei,or_false] at hx
    rcases hx with h | h | h | h | h | h | h | h | h | h <;> subst h <;> exact ⟨_,by decide +kernel,rfl⟩
   simp_arith! [ba,BQ]
   exact rfl
  ·have e:(([.str "BadName",.str "Taken",.str "Full",.str "NoCraft",.str "TooFar",.str "BadMoment",.str "Past",.str "NotThere",.str "NoWatch",.str "NoTale"]:List PV).filter λ_=>true).map (λx=>PV.bl (decide (BQ x=dF i)))=(Ey 10).map λj=>PV.bl (decide (i=j)):=by
    have:=congrArg (FZ PV.bl) (uP i hi)
    rw [Fu,Fu] at this
    exact this
   simp_arith! [ba,e]
   refine ⟨by rw [D0,E4];exact br (by decide),q⟩
 ·unfold qd fT at *
  rw [if_neg hi] at q ⊢
  rw [if_pos rfl]
  simp_all! []
  exact q
theorem ny:xh 10 12=True:=eq_true ⟨by decide,by decide,by decide⟩
theorem Cs:(10:Int) ^ Int.toNat 12=1000000000000:=by decide
theorem rV (cs:List Str) (lo hi:Option Int):∃cs':List Str,gA (cs.map .str) lo hi=cs'.map .str∧cs'.length≤cs.length∧∀y∈cs',y∈cs:=by
 refine ⟨(cs.drop (HT.eJ cs.length 0 lo)).take (HT.eJ cs.length cs.length hi - HT.eJ cs.length 0 lo),?_,?_,λy hy=>List.mem_of_mem_drop (EV hy)⟩
 ·unfold gA;rw [D0,Fi,List.map_drop]
 ·rw [Ek,FF];omega
theorem oD {ns:List Str} {i:Int} (h0:0≤i) (h1:i < (ns.length:Int)):∃x∈ns,bN (ns.map PV.str) i=some (.str x):=by
 obtain ⟨j,rfl⟩:=Int.eq_ofNat_of_zero_le h0
 have hj:j < ns.length:=by omega
 exact ⟨ns[j],EL hj,aU (by rw [Eb,D9 hj];rfl)⟩
abbrev iw:Stmt:=(top 38)
abbrev eG:List Str:=["_law_cell_here","_law_name_cell"]
theorem cF:L2.ax ["_law_cell_here","_law_name_cell","_law_row","_law_names_here","_law_numbers"] ["_law_cell_here","_law_name_cell"] (L2.aj iw):=jm
def w_:d8:=λxs J Q _=>∃c n:Int,xs=[.int c,.int n]∧∀d:aA,d.Ok→d.Good→Q d.V J
theorem mJ {f:Addr} {fd:FuncData} (F:cu K "_law_anydeed" "_law_anydeed" iw f fd) (Z:d9 mg) (b7:bB P w K mg base 1 "_law_digits" bx ow) (kR:bB P w K mg base 2 "_law_names" cK m4) (l7:bB P w K mg base 1 "_law_low" cN oA):aM P w K mg base (cU P w) 3 f fd eG (hE K w_):=by
 simp_arith [cF,(ai (aI (i:=2) cF.nd (aS b7 B hr (af (rv 0) (af (cQ (af ag (af (aE dR (aE tq ag (aE ig ag ag)) ag) (af (aE dR (aE tq ag (aE ig ag ag)) ag) (af (aE dR (aE ig ag ag) ag) (af ag (af ag ah))))))) ah))))
   (ai (aI (i:=3) cF.nd (aS kR B hr (af (rv 1) (af ag ah))))
   (ai (aI (i:=4) cF.nd (cQ (af (aE di (aE dR (ar au (rv 2) ag) (aE ig ag ag)) ag) (af (aE di (aE dR (ar au (rv 2) ag) (aE ig ag ag)) ag) ah))))
   (iY (aK (ay kC (ar au (rv 2) ag) ag) (ao (aI (i:=4) cF.nd (cQ (af (aE dR (aE eW (ar au (rv 2) ag) ag) ag) (af (aE dR (aE eW (ar au (rv 2) ag) ag) ag) ah))))) aD)
   (iY (aK (ay (aV hr.av) (ar au (rv 2) ag) ag) (ao (aI (i:=4) cF.nd (cQ (af (aE dR (aE eW (ar au (rv 2) ag) ag) ag) (af (aE dR (aE eW (ar au (rv 2) ag) ag) ag) ah))))) aD)
   (ai (aK (ay kC (ar au (rv 2) ag) ag) (ao (az (bz (af aw (af (ar au (rv 3) ag) (af (ar au (rv 4) ag) (af (ar au (rv 4) ag) ah))))))) aD)
   (ai (aK (ay (aV hr.av) (ar au (rv 2) ag) ag) (ao (az (bz (af aw (af (ar au (rv 3) (ar au (rv 2) ag)) (af (ar au (rv 4) ag) ah)))))) aD)
   (ai (aK (ay (aV hr.av) (ar au (rv 2) ag) ag) (ao (az (bz (af aw (af (ar au (rv 3) (ar au (rv 2) ag)) ah))))) aD)
   (ai (aK (ay (aV hr.av) (ar au (rv 2) ag) ag) (ao (az (bz (af aw ah)))) aD)
   (ai (aK (ay (aV hr.av) (ar au (rv 2) ag) ag) (ao (az (bz (af aw (af (ar au (rv 3) ag) (af (bE gz rfl Z.tuple boot_tuple (af (aT fQ (rv 3) (a_ ag) (a_ (aE di ag (ar au (rv 2) ag)))) ah)) ah)))))) aD)
   (ai (aK (ay (aV hr.av) (ar au (rv 2) ag) ag) (ao (az (bz (af aw (af (ar au (rv 3) (ar au (rv 2) ag)) ah))))) aD)
   (ao (az (bz (af aw (af (aS l7 B hr (af (aH xJ rfl Z.abs boot_abs (af (ar au (rv 4) ag) ah)) (af (aE di ag (aE eW (ar au (rv 2) ag) (ar au (cQ (af ag (af ag (af ag (af ag (af (aE dR (aE ig ag ag) ag) ah)))))) (ar au (rv 2) ag)))) ah))) ah))))))))))))))))]
 ·obtain ⟨c,n,rfl,_⟩:=h;rfl
 obtain ⟨c,n,rfl,q⟩:=h
 refine hX ?_
 simp_all! []
 have b64:∀n:Int,-(2 ^ 60)≤n→n≤2 ^ 60→Bd 64 n:=λn h1 h2=>.small (by omega) (by omega)
 have c2:CM 2 1000000000000:=.of (b64 2 (by decide) (by decide)) (b64 1000000000000 (by decide) (by decide))
 simp only [ny,Cs,true_and]
 refine ⟨c2,c2,c,[8,2 * 1000000000000 - 1,2 * 1000000000000 - 1,1000000000000 - 1,5,13],rfl,g7 (by decide),by decide,λds hD=>?_⟩
 obtain ⟨d0,ds,rfl,d00,d01,hD⟩:=hD.cons
 obtain ⟨d1,ds,rfl,d10,d11,hD⟩:=hD.cons
 obtain ⟨d2,ds,rfl,d20,d21,hD⟩:=hD.cons
 obtain ⟨d3,ds,rfl,d30,d31,hD⟩:=hD.cons
 obtain ⟨d4,ds,rfl,d40,d41,hD⟩:=hD.cons
 obtain ⟨d5,ds,rfl,d50,d51,hD⟩:=hD.cons
 cases hD.nil
 simp_all! []
 refine ⟨n,13,rfl,by decide,by decide,λnames nl nd nx=>?_⟩
 simp_all! [ny,Cs]
 obtain ⟨M,hM⟩:∃M:Sr→Hq→Prop,∀τ' J',M τ' J'↔∃a b:Int,τ'=[some (.int c),some (.int n),some (.fl [.int d0,.int d1,.int d2,.int d3,.int d4,.int d5]),some (.fl (names.map .str)),some (.fl [.int a,.int b])]∧J'=J∧a.natAbs < 1000000000000∧b.natAbs < 1000000000000:=⟨_,λ_ _=>Iff.rfl⟩
 refine ⟨M,?_,?_⟩
 ·simp_all! []
  split
  ·exact ⟨by decide,by decide,(hM _ _).mpr ⟨_,_,rfl,rfl,by omega,by omega⟩⟩
  ·exact (hM _ _).mpr ⟨_,_,rfl,rfl,by omega,by omega⟩
 intro τ' J' hm
 obtain ⟨a,b,rfl,rfl,ha,hb⟩:=(hM _ _).mp hm
 refine ⟨M,?_,?_⟩
 ·simp_all! []
  split
  ·exact ⟨by decide,by decide,(hM _ _).mpr ⟨_,_,rfl,rfl,by omega,by omega⟩⟩
  ·exact hm
 clear hm
 intro τ' J'' hm
 obtain ⟨a,b,rfl,rfl,ha,hb⟩:=(hM _ _).mp hm
 clear hm hM M
 obtain ⟨x0,m0,hx0⟩:=oD (ns:=names) (i:=0) (by decide) (by omega)
 obtain ⟨x5,m5,hx5⟩:=oD (ns:=names) (i:=d5) d50 (by omega)
 obtain ⟨ks,hks,lks,mks⟩:=rV names (some 1) (some (1 + d5))
 have g0:=nx _ m0
 have g5:=nx _ m5
 have n0:x0.length≤30:=D1 (jo g0) (by decide)
 have n5:x5.length≤30:=D1 (jo g5) (by decide)
 have t12:(10:Nat) ^ 12=1000000000000:=by decide
 have ta:(txt a).length≤30:=fF (by omega)
 have tb:(txt b).length≤30:=fF (by omega)
 obtain ⟨u,hu,u0,u1⟩:∃u:Int,bN [PV.int 60,PV.int 64,PV.int 1000,PV.int 7,PV.int (1000000000000 - 1)] d4=some (.int u)∧1≤u∧u < 1000000000000:=by
  rcases (by omega:d4=0∨d4=1∨d4=2∨d4=3∨d4=4) with e | e | e | e | e <;> subst e
  ·exact ⟨_,iA _ _,by decide,by decide⟩
  ·exact ⟨_,jf _ _ _,by decide,by decide⟩
  ·exact ⟨_,me _ _ _ _,by decide,by decide⟩
  ·exact ⟨_,rS _ _ _ _ _,by decide,by decide⟩
  ·exact ⟨_,wm _ _ _ _ _ _,by decide,by decide⟩
 simp_arith! [ba,hx0,hx5,hks,ny,Cs,hu,og]
 have o3:∀{y:Str} {l:List Str},y.length≤30→(∀z∈l,z.length≤30)→∀z∈y :: l,z.length≤30:=λh k z hz=>by
  rcases D6.mp hz with rfl | hz
  ·exact h
  ·exact k z hz
 have on:∀z∈([]:List Str),z.length≤30:=λz hz=>by cases hz
 split
 ·exact q (.join x0 a b) ⟨o3 n0 (o3 ta (o3 tb on)),by show (3:Nat)≤20;decide,by omega,by omega⟩ ⟨g0,by omega,by omega⟩
 split
 ·exact q (.turn x5 b) ⟨o3 n5 (o3 tb on),by show (2:Nat)≤20;decide,show b.natAbs < 10 ^ 13 by omega⟩ ⟨g5,by omega⟩
 split
 ·exact q (.leave x5) ⟨o3 n5 on,by show (1:Nat)≤20;decide,trivial⟩ g5
 split
 ·exact q .about ⟨on,by show (0:Nat)≤20;decide,trivial⟩ trivial
 split
 ·exact q (.watch x0 ks) ⟨o3 n0 (λz hz=>D1 (jo (nx z (mks z hz))) (by decide)),by show ks.length + 1≤20;omega,trivial⟩ ⟨g0,λz hz=>nx z (mks z hz)⟩
 split
 ·exact q (.unwatch x5) ⟨o3 n5 on,by show (1:Nat)≤20;decide,trivial⟩ g5
 have v0:0≤d3 % u:=Int.emod_nonneg _ (by omega)
 have v1:d3 % u < u:=Int.emod_lt_of_pos _ (by omega)
 refine ⟨by omega,_,_,rfl,by omega,(b64 (1 + d3 % u) (by omega) (by omega)).mono (by decide),?_⟩
 have e1:=vg (if a < 0 then -a else a) (1 + d3 % u)
 have e2:=uM (t:=if a < 0 then -a else a) (b:=1 + d3 % u) (by omega)
 have e3:(if a < 0 then -a else a).natAbs < 1000000000000:=by split <;> omega
 have e4:0≤(Rat.divInt (if a < 0 then -a else a) (1 + d3 % u)).num:=Rat.num_nonneg.mpr (Rat.divInt_nonneg (by split <;> omega) (by omega))
 exact q (.go (Rat.divInt (if a < 0 then -a else a) (1 + d3 % u))) ⟨on,by show (0:Nat)≤20;decide,by omega,by omega⟩ ⟨e4,by omega,by omega⟩
def pU:d8:=λxs J Q _=>∃d:aA,xs=[d.V,d.V]∧Q (.bl true) J
abbrev fe:Stmt:=(top 39)
abbrev dJ:List Str:=["_law_found","_law_due"]
theorem g6:L2.ax ["_law_found","_law_due","_law_k"] ["_law_found","_law_due"] (L2.aj fe):=jm
theorem pK (d:aA):fY d.V=true:=by
 have h:∀ns:List Str,dT (ns.map PV.str)=true:=jE _ λa=>lL a
 cases d <;> simp [aA.V,aA.aQ,fY,dT,h,fr]
theorem mm:∀ns:List Str,bU (cb (ns.map PV.str))=0
 | []=>by simp [cb,bU]
 | n :: ns=>by simp [cb,bZ,bU,dep,mm ns]
theorem xG (d:aA):wq d.V:=⟨pK d,by cases d <;> simp [aA.V,aA.aQ,bZ,cb,dep,bU,fr,mm]⟩
theorem j8 {f:Addr} {fd:FuncData} (F:cu K "_law_deedalike" "_law_deedalike" fe f fd) (Z:d9 mg) (xj:bB P w K mg base 2 "_law_part" gR p5) (iN:bB P w K mg base 1 "_law_whole" dS fg):aM P w K mg base (cU P w) 3 f fd dJ (hE K pU):=by
 simp_arith [g6,(ai (aK (cg (d6 (dU (dn (aH h_ rfl Z.isinstance boot_isinstance (af (rv 0) (af (kH rfl Z.tuple boot_tuple) ah))))) (d6 (ay (gN hr.av) (aH bT rfl Z.len boot_len (af (rv 0) ah)) (aH bT rfl Z.len boot_len (af (rv 1) ah))) (fc (ay (gN hr.av) (rv 0) (rv 1)))))) (ao (az kG)) aD)
   (ai (aK (ay (aV hr.av) (ar au (rv 1) ag) aw) (ao (az (aS xj B hr (af (ar au (rv 0) ag) (af (ar au (rv 1) ag) ah))))) aD)
   (ai (aK (ay (aV hr.av) (ar au (rv 1) ag) aw) (ao (az (aH h_ rfl Z.isinstance boot_isinstance (af (ar au (rv 0) ag) (af (kH rfl Z.tuple boot_tuple) ah))))) aD)
   (ai (fb dD rfl (kJ rfl Z.range (af ag (af (aH bT rfl Z.len boot_len (af (rv 1) ah)) ah))) (dN (i:=2) g6.nd) (ao (aK (dU (dn (aS iN B hr (af (ar au (rv 0) (rv 2)) ah)))) (ao (az kG)) aD)))
   (ao (az (aH h_ rfl Z.isinstance boot_isinstance (af (ar au (rv 0) ag) (af (kH rfl Z.str boot_str) ah)))))))))]
 ·obtain ⟨d,rfl,_⟩:=h;rfl
 obtain ⟨d,rfl,q⟩:=h
 refine hX ?_
 have h0:mz J d.V (.int 0)=some (.str d.head):=iA _ _
 have ht:rf J d.V=some "tuple":=rfl
 have hl:mD J d.V=some (d.aQ.length + 1):=rfl
 have hp:=pK d
 have hc:=xG d
 have he:=eq_self d.V
 refine dG false (λR hR=>?_) (λhb N=>nomatch hb) (λhb=>?_)
 ·simp_arith! [ba,ht,hl,hp,hc,he]
  exact hR
 have shape:(∃q,d=.go q)∨(∃m ns,d=.watch m ns)∨d.plain=true:=by cases d <;> simp [aA.plain]
 rcases shape with ⟨z,rfl⟩ | ⟨m,ns,rfl⟩ | hp
 ·have h1:mz J (aA.go z).V (.int 1)=some (fr z):=jf _ _ _
  simp_all! [h0,h1,aA.head,eq_str,sS]
  exact ⟨z,rfl,q⟩
 ·have h2:mz J (aA.watch m ns).V (.int 2)=some (.tup (ns.map .str)):=me _ _ _ _
  simp_all! [h0,h2,aA.head,eq_str,sS]
  exact q
 have e1:eqQ (.str d.head) (.str "go")=false:=by rw [eq_str];exact decide_eq_false λh=>by have h':=Eq.mp (k7 d) h;cases d <;> first | exact h' | cases hp
 have e2:eqQ (.str d.head) (.str "watch")=false:=by rw [eq_str];exact decide_eq_false λh=>by have h':=Eq.mp (jq d) h;cases d <;> first | exact h' | cases hp
 simp_all! [h0,e1,e2,hl]
 have hlen:d.aQ.length≤3:=by cases d <;> first | exact D5 3 | exact (by decide:2≤3) | exact (by decide:1≤3) | exact Ex 3 | cases hp
 refine ⟨by decide,by decide,by omega,by omega,?_⟩
 obtain ⟨Inv,hInv⟩:∃Inv:Nat→Sr→Hq→Prop,∀i τ J',Inv i τ J'↔∃(u:Option PV),τ=[some d.V,some d.V,u]∧J'=J:=⟨_,λ_ _ _=>Iff.rfl⟩
 refine k6 Inv ((hInv _ _ _).mpr ⟨_,rfl,rfl⟩) ?_ ?_
 ·intro i τ J' hi hv
  obtain ⟨u,rfl,rfl⟩:=(hInv _ _ _).mp hv
  have hx:∃j:Int,d.aQ[i + 1]?=some (.int j):=by
   cases d with
   | join n p v =>
    have hi:i < 2:=by
     have:(((aA.join n p v).aQ.length + 1:Nat):Int)=4:=rfl
     omega
    rcases (by omega:i=0∨i=1) with rfl | rfl
    ·exact ⟨_,rfl⟩
    ·exact ⟨_,rfl⟩
   | turn n v =>
    have hi:i < 1:=by
     have:(((aA.turn n v).aQ.length + 1:Nat):Int)=3:=rfl
     omega
    obtain rfl:i=0:=by omega
    exact ⟨_,rfl⟩
   | leave n=>exact absurd hi (by
     have:(((aA.leave n).aQ.length + 1:Nat):Int)=2:=rfl
     omega)
   | unwatch n=>exact absurd hi (by
     have:(((aA.unwatch n).aQ.length + 1:Nat):Int)=2:=rfl
     omega)
   | about=>exact absurd hi (by
     have:((aA.about.aQ.length + 1:Nat):Int)=1:=rfl
     omega)
   | _=>cases hp
  obtain ⟨j,hj⟩:=hx
  have ha:mz J' d.V (.int (2 + (i:Int)))=some (.int j):=by
   show bN (PV.str d.head :: d.aQ) (2 + (i:Int))=some (.int j)
   rw [show 2 + (i:Int)=((i + 2:Nat):Int) by omega]
   exact aU (by rw [Eo];exact hj)
  simp_arith! [ba,ha,fg]
  exact (hInv _ _ _).mpr ⟨_,rfl,rfl⟩
 ·intro τ J' hv
  obtain ⟨u,rfl,rfl⟩:=(hInv _ _ _).mp hv
  have h0':mz J' d.V (.int 0)=some (.str d.head):=iA _ _
  refine hNq _ _ ?_
  simp_arith! [ba,h0']
  exact q
abbrev ot:Stmt:=(top 40)
abbrev gS:List Str:=["_law_line_here"]
theorem i1:L2.ax ["_law_line_here","_law_said_here","e"] ["_law_line_here"] (L2.aj ot):=jm
def p6 (T T':Addr):d8:=λxs J Q _=>∃y:Str,xs=[.str y]∧y.length≤100000∧J T=some .tab∧J T'=some .tab∧(∀d:aA,d.Good→y≠d.line)∧∀J',Sub J J'→Q (.fl (fT 9)) J'
theorem sW {T T' f W:Addr} {c:Nat→Addr} {fd:FuncData} (F:cu K "_law_said" "_law_said" ot f fd) (Z:d9 mg) (Er:qj K mg W c) (hW:bB P w K mg base 4 "deed_of" fW (lX (c 9) T T')):aM P w K mg base (cU P w) 5 f fd gS (hE K (p6 T T')):=by
 simp_arith [i1]
 ·obtain ⟨y,rfl,_⟩:=h;rfl
 obtain ⟨y,rfl,hl,hT,hT',no,q⟩:=h
 refine ⟨_,(ai (aI (i:=1) i1.nd (cQ ah))
   (ai (yX (i:=2) (n:=1) Er rfl Er.mW i1.nd rfl (by decide) rfl (λ_ _ _ _ _ hx=>(ao (pR (aS hW hx hr (af (rv 0) ah)))))
   (λ_ _=>(bh (bG (i:=1) i1.nd rfl (Or.inl rfl) (eB (ak (aO (bw (K:=K) rfl) rfl Z.isinstance boot_isinstance (ak (pv 2) (ak (iV (v:=.ty "ValueError") rfl Er.nV PyProof.Rows.Boot.«ValueError» rfl) aL))) (ak (aO (bw (K:=K) rfl) rfl Z.isinstance boot_isinstance (ak (pv 2) (ak (bI (v:=.ref (c 0)) rfl (Er.own 0 (by decide)).mg rfl) aL))) (ak (aO (bw (K:=K) rfl) rfl Z.isinstance boot_isinstance (ak (pv 2) (ak (bI (v:=.ref (c 1)) rfl (Er.own 1 (by decide)).mg rfl) aL))) (ak (aO (bw (K:=K) rfl) rfl Z.isinstance boot_isinstance (ak (pv 2) (ak (bI (v:=.ref (c 2)) rfl (Er.own 2 (by decide)).mg rfl) aL))) (ak (aO (bw (K:=K) rfl) rfl Z.isinstance boot_isinstance (ak (pv 2) (ak (bI (v:=.ref (c 3)) rfl (Er.own 3 (by decide)).mg rfl) aL))) (ak (aO (bw (K:=K) rfl) rfl Z.isinstance boot_isinstance (ak (pv 2) (ak (bI (v:=.ref (c 4)) rfl (Er.own 4 (by decide)).mg rfl) aL))) (ak (aO (bw (K:=K) rfl) rfl Z.isinstance boot_isinstance (ak (pv 2) (ak (bI (v:=.ref (c 5)) rfl (Er.own 5 (by decide)).mg rfl) aL))) (ak (aO (bw (K:=K) rfl) rfl Z.isinstance boot_isinstance (ak (pv 2) (ak (bI (v:=.ref (c 6)) rfl (Er.own 6 (by decide)).mg rfl) aL))) (ak (aO (bw (K:=K) rfl) rfl Z.isinstance boot_isinstance (ak (pv 2) (ak (bI (v:=.ref (c 7)) rfl (Er.own 7 (by decide)).mg rfl) aL))) (ak (aO (bw (K:=K) rfl) rfl Z.isinstance boot_isinstance (ak (pv 2) (ak (bI (v:=.ref (c 8)) rfl (Er.own 8 (by decide)).mg rfl) aL))) (ak (aO (bw (K:=K) rfl) rfl Z.isinstance boot_isinstance (ak (pv 2) (ak (bI (v:=.ref (c 9)) rfl (Er.own 9 (by decide)).mg rfl) aL))) aL))))))))))))))) (λj hj σ H ea D h1 h2 q=>ue Er hj h1 h2 q))
   (ao (az (rv 1))))),?_⟩
 have f9:fT 9=eR 9:=rfl
 rw [f9] at q
 simp_all! []
 refine ⟨y,rfl,hl,hT,hT',λd g e=>absurd e (no d g),λ_ J' sub=>⟨9,by decide,rfl,hNq _ _ ?_⟩⟩
 exact q J' sub
theorem rh {d d':aA} (g:d.Good) (g':d'.Good) (h:d.words=d'.words):d=d':=by
 rw [eF,eF] at h
 injection h with h1 h2
 cases d with
 | join n p v =>
  obtain ⟨n',p',v',rfl⟩:=pb h1.symm
  injection h2 with e1 h2
  injection h2 with e2 h2
  injection h2 with e3 _
  rw [e1,cM g.2.1 e2 g'.2.1,cM g.2.2 e3 g'.2.2]
 | turn n v =>
  obtain ⟨n',v',rfl⟩:=pd h1.symm
  injection h2 with e1 h2
  injection h2 with e2 _
  rw [e1,cM g.2 e2 g'.2]
 | leave n =>
  obtain ⟨n',rfl⟩:=my h1.symm
  injection h2 with e1 _
  rw [e1]
 | about=>exact (sy h1.symm).symm
 | watch m ns =>
  obtain ⟨m',ns',rfl⟩:=ju h1.symm
  injection h2 with e1 e2
  rw [e1,e2]
 | unwatch n =>
  obtain ⟨n',rfl⟩:=jt h1.symm
  injection h2 with e1 _
  rw [e1]
 | go z =>
  obtain ⟨z',rfl⟩:=sA h1.symm
  injection h2 with e _
  have t1:=cH z
  rw [e,cH z'] at t1
  injection t1 with a1 a2
  injection a2 with a2 _
  have h3:=cM g'.2.1 a1 g.2.1
  have h4:=cM (show (z'.den:Int).natAbs < 10 ^ 12 by have:=g'.2.2;simpa using this) a2 (show (z.den:Int).natAbs < 10 ^ 12 by have:=g.2.2;simpa using this)
  rw [Rat.ext h3 (by omega)]
theorem gX (ch:Nat):({ cps:=(Ea (Int.toNat 5000) ch).toArray }:Str).length=5000:=by
 show (Ea 5000 ch).toArray.size=5000
 rw [D3,ES]
def lz:List Str:=[""," ","about "," about","About","go","go 1","go 1/","go /1","go 2/4","go 0/1","go 0/2","go -1/2","go 1/0","go 1/-1","go 1/1/1","join a 1","join a 01 1","join a -0 1","join a +1 1","turn a 1000000000000","turn a 999999999999","watch","watch ","watch m","watch m  a","leave","leave a b","unwatch A","stay a"]
theorem nL:∀x∈lz,x.length≤6000:=by decide +kernel
def grow:Nat→Nat
 | 0=>900
 | i + 1=>3 * grow i + 3
abbrev pS:Stmt:=(top 42)
abbrev yD:List Str:=["_law_script"]
theorem cP:L2.ax ["_law_script","_law_head","_law_line_here","_law_k","_law_some","_law_due"] ["_law_script"] (L2.aj pS):=jm
theorem vk {T T' f:Addr} {c:Nat→Addr} {fd:FuncData} (F:cu K "law" "law" pS f fd) (Z:d9 mg) (hV:bB P w K mg base 1 "_law_cell" cS pV) (b7:bB P w K mg base 1 "_law_digits" bx ow) (qf:bB P w K mg base 3 "_law_anydeed" eG w_) (xi:bB P w K mg base 1 "_law_line" gQ mZ) (rl:bB P w K mg base 1 "_law_spoilt" e8 m8) (rk:bB P w K mg base 2 "_law_reader" eZ m6) (xk:bB P w K mg base 5 "_law_said" gS (p6 T T')) (uu:bB P w K mg base 1 "_law_flags" fM mY) (hW:bB P w K mg base 4 "deed_of" fW (lX (c 9) T T')) (l6:bB P w K mg base 3 "_law_deedalike" dJ pU):aM P w K mg base (cU P w) 6 f fd yD (hE K (oy [T,T'])):=by
 simp_arith [cP,(ai (aI (i:=1) cP.nd (aS b7 B hr (af (aS hV B hr (af (rv 0) (af ag ah))) (af (cQ (af ag (af ag (af ag ah)))) ah))))
   (ai (aI (i:=2) cP.nd (aS xi B hr (af (aS qf B hr (af (aS hV B hr (af (rv 0) (af ag ah))) (af (aS hV B hr (af (rv 0) (af ag ah))) ah))) ah)))
   (ai (fb dD rfl (qZ rfl Z.range (af (aE di ag (ar au (rv 1) ag)) ah)) (dN (i:=3) cP.nd) (ao (aI (i:=2) cP.nd (aS rl B hr (af (rv 2) (af (aS b7 B hr (af (aS hV B hr (af (rv 0) (af (aE di ag (rv 3)) ah))) (af (cQ (af ag (af ag (af ag ah)))) ah))) ah))))))
   (iY (aK (ay (aV hr.av) (ar au (rv 1) ag) ag) (ai (aI (i:=4) cP.nd (cQ (jF [.str "",.str " ",.str "about ",.str " about",.str "About",.str "go",.str "go 1",.str "go 1/",.str "go /1",.str "go 2/4",.str "go 0/1"] rfl [.str "",.str " ",.str "about ",.str " about",.str "About",.str "go",.str "go 1",.str "go 1/",.str "go /1",.str "go 2/4",.str "go 0/1"] rfl)))
   (ai (aI (i:=4) cP.nd (aE eA (rv 4) (cQ (jF [.str "go 0/2",.str "go -1/2",.str "go 1/0",.str "go 1/-1",.str "go 1/1/1",.str "join a 1",.str "join a 01 1"] rfl [.str "go 0/2",.str "go -1/2",.str "go 1/0",.str "go 1/-1",.str "go 1/1/1",.str "join a 1",.str "join a 01 1"] rfl))))
   (ai (aI (i:=4) cP.nd (aE eA (rv 4) (cQ (jF [.str "join a -0 1",.str "join a +1 1",.str "turn a 1000000000000",.str "turn a 999999999999",.str "watch"] rfl [.str "join a -0 1",.str "join a +1 1",.str "turn a 1000000000000",.str "turn a 999999999999",.str "watch"] rfl))))
   (ai (aI (i:=4) cP.nd (aE eA (rv 4) (cQ (jF [.str "watch ",.str "watch m",.str "watch m  a",.str "leave",.str "leave a b",.str "unwatch A",.str "stay a"] rfl [.str "watch ",.str "watch m",.str "watch m  a",.str "leave",.str "leave a b",.str "unwatch A",.str "stay a"] rfl))))
   (ai (aI (i:=4) cP.nd (aE eA (rv 4) (cQ (af (aE bo aw (aE pF aw ag)) (af (aE bo (aE bo aw (aE pF aw ag)) aw) ah)))))
   (ao (aI (i:=2) cP.nd (ar au (rv 4) (ar au (rv 1) ag))))))))) aD)
   (ai (aI (i:=5) cP.nd (aS rk B hr (af (rv 2) ah)))
   (ai (aK (ay tm (rv 5) cE) (ao (az (f6 (aV hr.av) (aS xk B hr (af (rv 2) ah)) (aS uu B hr (af aw ah))))) aD)
   (ao (az (aS l6 B hr (af (aS hW B hr (af (rv 2) ah)) (af (rv 5) ah)))))))))))]
 ·obtain ⟨ns,rfl,_⟩:=h;rfl
 obtain ⟨ns,rfl,hl,hT,hJ,q⟩:=h
 refine hX ?_
 have hT1:=hT T (by simp)
 have hT2:=hT T' (by simp)
 simp_all! []
 refine ⟨ns,2,rfl,by decide,by decide,λc0=>⟨c0,[5,3,32],rfl,g7 (by decide),by decide,λds hD=>?_⟩⟩
 obtain ⟨d0,ds,rfl,d00,d01,hD⟩:=hD.cons
 obtain ⟨d1,ds,rfl,d10,d11,hD⟩:=hD.cons
 obtain ⟨d2,ds,rfl,d20,d21,hD⟩:=hD.cons
 cases hD.nil
 simp_all! []
 refine ⟨ns,0,rfl,by decide,by decide,λa0=>⟨ns,1,rfl,by decide,by decide,λa1=>⟨a0,a1,rfl,λd o g=>⟨d,rfl,o,?_⟩⟩⟩⟩
 have hl0:d.line.length≤grow 0:=vc o
 simp_all! []
 refine ⟨by omega,by omega,?_⟩
 obtain ⟨Inv,hInv⟩:∃Inv:Nat→Sr→Hq→Prop,∀i τ J',Inv i τ J'↔∃(z:Str) (u3:Option PV),τ=[some (.fl (ns.map .int)),some (.fl [.int d0,.int d1,.int d2]),some (.str z),u3,none,none]∧J'=J∧z.length≤grow i:=⟨_,λ_ _ _=>Iff.rfl⟩
 refine k6 Inv ((hInv _ _ _).mpr ⟨_,_,rfl,rfl,hl0⟩) ?_ ?_
 ·intro i τ J' hi hv
  obtain ⟨z,u3,rfl,rfl,hz⟩:=(hInv _ _ _).mp hv
  clear hv
  have gi:grow i≤30000:=by
   rcases (by omega:i=0∨i=1∨i=2) with rfl | rfl | rfl <;> decide
  simp_all! []
  refine ⟨ns,_,rfl,by omega,by omega,λc3=>⟨c3,[6,840,95],rfl,g7 (by decide),by decide,λds hG=>?_⟩⟩
  obtain ⟨r0,ds,rfl,r00,r01,hG⟩:=hG.cons
  obtain ⟨r1,ds,rfl,r10,r11,hG⟩:=hG.cons
  obtain ⟨r2,ds,rfl,r20,r21,hG⟩:=hG.cons
  cases hG.nil
  refine ⟨z,r0,r1,r2,rfl,by omega,r00,r10,r20,r21,λz' hz'=>(hInv _ _ _).mpr ⟨z',_,rfl,rfl,?_⟩⟩
  show z'.length≤3 * grow i + 3
  omega
 intro τ J' hv
 obtain ⟨z,u3,rfl,rfl,hz⟩:=(hInv _ _ _).mp hv
 clear hv hInv Inv
 have hz:z.length≤30000:=D1 hz (by
  rcases (by omega:(1 + d1).toNat=0∨(1 + d1).toNat=1∨(1 + d1).toNat=2∨(1 + d1).toNat=3) with e | e | e | e <;> rw [e] <;> decide)
 refine hNq _ _ ?_
 clear hNq Nq
 simp_all! []
 obtain ⟨M,hM⟩:∃M:Sr→Hq→Prop,∀τ' J2,M τ' J2↔∃(z:Str) (u4:Option PV),τ'=[some (.fl (ns.map .int)),some (.fl [.int d0,.int d1,.int d2]),some (.str z),u3,u4,none]∧J2=J'∧z.length≤30000:=⟨_,λ_ _=>Iff.rfl⟩
 refine ⟨M,?_,?_⟩
 ·simp_all! []
  by_cases e0:d0=0
  rotate_left
  ·rw [if_neg e0];exact (hM _ _).mpr ⟨z,_,rfl,rfl,hz⟩
  rw [if_pos e0]
  simp_all! []
  refine ⟨by decide,hNq _ _ ?_⟩
  clear hNq Nq
  simp_all! []
  refine ⟨by decide,hNq _ _ ?_⟩
  clear hNq Nq
  simp_all! []
  refine ⟨by decide,hNq _ _ ?_⟩
  clear hNq Nq
  simp_all! [wU,fP]
  refine ⟨55,by decide +kernel,by decide,by decide,by rw [gX];decide +kernel,49,by decide +kernel,by decide,by decide,by rw [gX];decide +kernel,by rw [aX,gX];decide +kernel,by decide,hNq _ _ ?_⟩
  clear hNq Nq
  obtain ⟨b1,hb1,lb1⟩:∃b:Str,("go 1/":Str) ++ { cps:=(Ea (Int.toNat 5000) 55).toArray }=b∧b.length≤6000:=⟨_,rfl,by rw [aX,gX];decide +kernel⟩
  obtain ⟨b2,hb2,lb2⟩:∃b:Str,("join a ":Str) ++ { cps:=(Ea (Int.toNat 5000) 49).toArray } ++ (" 1":Str)=b∧b.length≤6000:=⟨_,rfl,by rw [aX,aX,gX];decide +kernel⟩
  rw [hb1,hb2]
  have hall:∀x∈lz ++ [b1,b2],x.length≤6000:=λx hx=>by
   rcases EC.mp hx with hx | hx
   ·exact nL x hx
   ·simp only [D6,Ei,or_false] at hx
    rcases hx with rfl | rfl
    ·exact lb1
    ·exact lb2
  obtain ⟨x,hx,ex⟩:=oD (ns:=lz ++ [b1,b2]) d20 (by show d2 < 32;exact d21)
  unfold lz at ex
  simp only [FK,List.nil_append,D_,E8] at ex
  simp_all! []
  refine lH (x:=.str x) ex ((hM _ _).mpr ⟨x,_,rfl,rfl,by have:=hall x hx;omega⟩)
 intro τ' J2 hm
 obtain ⟨z,u4,rfl,rfl,hz⟩:=(hM _ _).mp hm
 clear hm hM M
 simp_all! []
 have ql:=q J2 hT
 refine ⟨z,rfl,by omega,λd' g' e'=>?_,λno=>?_⟩
 ·refine hNq _ _ ?_
  clear hNq Nq
  have hn:qx d'.V=false:=rfl
  simp_all! [wR,hn]
  refine ⟨z,rfl,by omega,hT1,hT2,λd2' g2 e2=>⟨d',?_,ql⟩,λno=>absurd e' (no d' g')⟩
  have hw:d2'.words=d'.words:=by rw [← eh g2,← eh g',← e2,← e']
  rw [rh g2 g' hw]
 ·refine hNq _ _ ?_
  clear hNq Nq
  have hn:qx .non=true:=rfl
  simp_all! [wR,hn]
  refine ⟨z,rfl,by omega,hT1,hT2,no,λJ3 sub=>?_⟩
  simp_all! []
  exact ⟨9,by rw [show qd 9=("NoTale":Str) by decide +kernel],mi 9,(mi 9).1,by rw [eq_self];exact q J3 λT hT'=>sub _ _ (hT T hT')⟩
end
theorem xy {P:Program} {w:World} {K:PySem.W.Frag} {mg:Str→Option Value} (Z:d9 mg) {W:Addr} {c:Nat→Addr} (Er:qj K mg W c) {fC:Tok} (dX:mg "FIGURES"=some (.str "0123456789" fC)) {fE:Tok} (dY:mg "LONGEST"=some (.int 8 fE)) {cm:Tok} (bL:mg "MOST_FIGURES"=some (.int 12 cm)) {i3:Tok} (gG:mg "SIGNS"=some (.str "abcdefghijklmnopqrstuvwxyz0123456789" i3)) (xl:Def K mg "_law_cell" oj) (rn:Def K mg "_law_digits" jI) (rA:Def K mg "shared" jL) (zB:Def K mg "_law_low" t6) {dC:Addr} (dB:i_ K mg "good_name" dO dC) (uy:Def K mg "_law_names" gZ) (gr:Def K mg "in_lowest_terms" cj) (uz:Def K mg "_law_whole" lR) (xn:Def K mg "_law_part" oq) {cJ:Addr} (cI:i_ K mg "number_from" cL cJ) (l9:Def K mg "name_from" ff) (jZ:Def K mg "moment_from" dW) (qi:Def K mg "deed_of" fz) (uw:Def K mg "_law_flags" i0) (xm:Def K mg "_law_line" om) (qh:Def K mg "_law_anydeed" iw) (rp:Def K mg "_law_number" jJ) (ux:Def K mg "_law_named" lQ) (rq:Def K mg "_law_reader" jK) (rD:Def K mg "_law_spoilt" jM) (xo:Def K mg "_law_said" ot) (l8:Def K mg "_law_deedalike" fe) {f:Addr} {fd:FuncData} (F:cu K "law" "law" pS f fd) (base:Heap) (Bm:BMain mg base) :
  aM P w K mg base (cU P w) 6 f fd ["_law_script"] (hE K (oy [dC,cJ])):=by
 have bt:=Er.own 9 (by decide)
 have hV:=xl.xE (P:=P) (w:=w) (base:=base) (λ_ _ F=>vj F Z.towe) λ_ _ _ _ _ _=>uI λ_ _=>rfl
 have xp:=qC hV
 have b7:=rn.xE (P:=P) (w:=w) (base:=base) (λ_ _ F=>qL F Z.towe) λ_ _ _ _ _ _=>uI λ_ _=>rfl
 have l':=mE b7
 have i8:=rA.xE (P:=P) (w:=w) (base:=base) (λ_ _ F=>qM F Z.towe) λ_ _ _ _ _ _=>uI λ_ _=>rfl
 have rJ:=mF i8
 have l7:=zB.xE (P:=P) (w:=w) (base:=base) (λ_ _ F=>ym F Z.towe) λ_ _ _ _ _ _=>uI λ_ _=>rfl
 have wk:=sM l7
 have eK:=dB.xE (P:=P) (w:=w) (base:=base) (λ_ _ _ F=>lF F Z.towe Bm dY gG) λ_ _ _ _ _ _=>oO λ_=>rfl
 have ma:=jx eK
 have kR:=uy.xE (λ_ _ F=>sT F Z.towe b7) λ_ _ _ _ _ _=>uI λ_ _=>rfl
 have uF:=nH kR
 have gv:=gr.eP (λ_ _ F=>fH F Z rJ) λ_ _ _ _ _ _=>oO λ_=>rfl
 have oN:=uz.eP (P:=P) (w:=w) (base:=base) (λ_ _ F=>qP F Z) λ_ _ _ _ _ _=>oO λ_=>rfl
 have xr:=xn.eP (λ_ _ F=>sV F Z oN) λ_ _ _ _ _ _=>uI λ_ _=>rfl
 have fL:=cI.eP (P:=P) (w:=w) (base:=base) (λ_ _ _ F=>iM F Z Bm bL dX bt) λ_ _ _ _ _ _=>oO λ_=>rfl
 have md:=l9.eP (λ_ _ F=>j9 F Z bt ma) λ_ _ _ _ _ _=>oO λ_=>rfl
 have j0:=jZ.eP (λ_ _ F=>iL F Z bt fL gv) λ_ _ _ _ _ _=>oO λ_=>rfl
 have kg:=qi.eP (λ_ _ F=>mK F Z bt md fL j0) λ_ _ _ _ _ _=>oO λ_=>rfl
 have uD:=uw.eP (P:=P) (w:=w) (base:=base) (λ_ _ F=>qN F Z) λ_ _ _ _ _ _=>oO λ_=>rfl
 have xq:=xm.eP (P:=P) (w:=w) (base:=base) (λ_ _ F=>sU F Z) λ_ _ _ _ _ _=>oO λ_=>rfl
 have qk:=qh.eP (λ_ _ F=>mJ F Z l' uF wk) λ_ _ _ _ _ _=>uI λ_ _=>rfl
 have rG:=rp.eP (P:=P) (w:=w) (base:=base) (λ_ _ F=>nM F Z) λ_ _ _ _ _ _=>oO λ_=>rfl
 have uE:=ux.eP (P:=P) (w:=w) (base:=base) (λ_ _ F=>qO F Z) λ_ _ _ _ _ _=>oO λ_=>rfl
 have rH:=rq.eP (λ_ _ F=>nN F Z rG uE wk) λ_ _ _ _ _ _=>oO λ_=>rfl
 have rK:=rD.eP (P:=P) (w:=w) (base:=base) (λ_ _ F=>nO F Z) λ_ _ _ _ _ _=>uI λ_ _=>rfl
 have xt:=xo.eP (λ_ _ F=>sW F Z Er kg) λ_ _ _ _ _ _=>oO λ_=>rfl
 have l_:=l8.eP (λ_ _ F=>j8 F Z xr oN) λ_ _ _ _ _ _=>uI λ_ _=>rfl
 exact vk F Z xp l' qk xq rK rH xt uD kg l_
end Ov
namespace PySem.W.Fast
def tw16856828860197376259:=0
def tw14973880895953824877:=0
def tw11513844116569143934:=0
def tw10750067227324026992:=0
def tw1232371339146734291:=0
def tw17289768682999256844:=0
def tw11349030712046518901:=0
def tw14216978086132863902:=0
def tw10928718385055969140:=0
def tw17153058937609626505:=0
def tw16040656181431269240:=0
def tw16838528419821828953:=0
def tw4396101677084949735:=0
def tw11403532358408195368:=0
def tw13882306994566786085:=0
def tw16608202489540158045:=0
def tw4598563371269844949:=0
def tw14187746786537880412:=0
def tw18038516638789586387:=0
def tw860946640104179410:=0
def tw17286613791752227497:=0
def tw8032769585648241498:=0
def tw898615762276516989:=0
def tw8913403221101945541:=0
def tw5416614520643684583:=0
def tw11241027382282764704:=0
def tw10276833827589074364:=0
def tw3404620530098324300:=0
def tw1701349581272680189:=0
def tw14952249567979865931:=0
def tw12055865961069408590:=0
def tw13065252918609312975:=0
def tw238681160735970523:=0
def tw4725974984113917054:=0
def tw10098443756182742333:=0
def tw1412805713188927598:=0
def tw2708874494292622476:=0
def tw2861114940326563424:=0
def tw2363949392181626894:=0
def tw12937452073089280287:=0
def tw8971396387016629852:=0
def tw1472375258977237120:=0
def tw15962074043672087688:=0
def tw3294672152019350503:=0
def tw1344686038241270517:=0
def tw9330520601276344730:=0
def tw11815991174408014202:=0
def tw8593990469095447580:=0
def tw322028424026352334:=0
def tw8664381282408955183:=0
def tw1176162571223187137:=0
def tw1705125504090684705:=0
def tw5643736105805552743:=0
def tw14837949272866791878:=0
def tw15020775517996492444:=0
def tw16307432114236193873:=0
def tw12061239431560419418:=0
def tw7276788470501572502:=0
def tw10715610545650038221:=0
def tw10030449916336409877:=0
def tw5025824580027148256:=0
def tw2936712546088426436:=0
def tw11690360145346592479:=0
def tw7967108240813433184:=0
def tw4300668035144598054:=0
def tw9660943335617557727:=0
def tw15196145868464926383:=0
def tw14699370604544185820:=0
def tw16665547665969056:=0
def tw14654444261635656447:=0
def tw581683988634559175:=0
def tw998609444307676647:=0
def tw5822579153496972350:=0
def tw14669127964492709300:=0
def tw3244952014222476292:=0
def tw5905367184201070131:=0
def tw703665532526143183:=0
def tw8636499484605520444:=0
def tw7408832902399115790:=0
def tw10516898060560949273:=0
def tw2903352433692737977:=0
def tw9586632741100608214:=0
def tw226684409610492975:=0
def tw18359409032388286524:=0
def tw5812384392477584308:=0
def tw7422936412321579472:=0
def tw4025608384799805631:=0
def tw9461244683785398557:=0
def tw4952920219997343557:=0
def tw1746782055510903020:=0
def tw7551584446371879531:=0
def tw4944665959703750886:=0
def tw4076330198163814227:=0
def tw17042847019710854854:=0
def tw14460743322063577753:=0
def tw9604239724672541673:=0
def tw9512836972727363104:=0
def tw5766025962717850131:=0
def tw4827945841802369815:=0
def tw1992902743199680468:=0
def tw18181728694954745937:=0
def tw18120249295368571863:=0
def tw15898408149231014624:=0
def tw11272073294617031350:=0
def tw13090309753727996942:=0
def tw15590848643549750384:=0
def tw1414346694926410149:=0
def tw17578341806480646182:=0
def tw10984966102006917620:=0
def tw2919298705997721162:=0
def tw7407345945046226400:=0
def tw15257453204793175397:=0
def tw10660881540616791106:=0
def tw5071704887128725118:=0
def tw2299535565689210034:=0
def tw8192103295240136301:=0
def tw12548654034568527390:=0
def tw7973442107322994000:=0
def tw11130880696764205774:=0
def tw15598806985862444746:=0
def tw10242052057862394416:=0
def tw11105068689776943715:=0
def tw9085598717958212878:=0
def tw14927193874818897175:=0
def tw17100801904407229246:=0
def tw2620234210268367667:=0
def tw15207780985054182686:=0
def tw5555439156946829850:=0
def tw6091691051541372250:=0
def tw10113903436396775790:=0
def tw903258967671247273:=0
def tw18202810751850452447:=0
def tw18052349791781032896:=0
def tw11638051691095843215:=0
def tw959386175094498933:=0
def tw9589859361978331628:=0
def tw909005551724829708:=0
def tw3106853200242874423:=0
def tw14156167153051704244:=0
def tw12898885038911216529:=0
def tw4057037782865211793:=0
def tw8783442655952766938:=0
def tw15459688662777759691:=0
def tw10776891077150977431:=0
def tw10362056847561079240:=0
def tw10163433238479477616:=0
def tw9038415981459090984:=0
def tw8308501651226445065:=0
def tw4883348912459161307:=0
def tw18128494470053951892:=0
def tw1766582791454714403:=0
def tw325850099325466446:=0
def tw2006316026324206139:=0
def tw17611436559671029287:=0
def tw8456676734459207548:=0
def tw16121207779451518355:=0
def tw1386638609035135868:=0
def tw8119811489060195917:=0
def tw16400803597539424581:=0
def tw1126903399993677836:=0
def tw6706751404577122995:=0
def tw10339312173804094565:=0
def tw4845976904417940902:=0
def tw3345533204077396163:=0
def tw14268350517312819792:=0
def tw539663753461829431:=0
def tw7258641707629816794:=0
def tw8076351661969228268:=0
end PySem.W.Fast
open PySem PySem.W PyProof.Rows
set_option hygiene false
local macro_rules | `(tactic| simp_arith)=>`(tactic| (dsimp only [L2.wg];refine' Ov.xN KX G ?a ?l ?c ?k;(case a=>k_is);(case l=>k_is);(case c=>k_is);(case k=>k_is)))
set_option maxRecDepth 100000 in
set_option maxHeartbeats 0 in
theorem PySem.Challenge.cw_overhaul_k53_lines_refused_holds : PySem.Challenge.rw_overhaul_k53_lines_refused.Holds := by
 w_on;o_law;k_head;(case hw=>w_witness2)
 k_fill
 refine Ov.uj (l:=PySem.Challenge.rw_overhaul_k53_lines_refused) (n:=63) (k:=6) (x:="_law_script") (sp:=Ov.uc) ["good_name","number_from"] rfl (by decide) rfl ⟨rfl,by decide,by decide⟩ (λw h Y=>PySem.W.kIn_of Y) ?Nm ?F (λtabs K H a ns hl hT hS hA hK=>⟨a,ns,rfl,hS,hl,hT,hA,hK,λ_ e=>⟨rfl,e⟩⟩)
 case Nm=>decide +kernel
 case F =>
  intro w mg fa h KX G hmg
  obtain ⟨dC,dB⟩:∃T,Ov.i_ (L2.wg KX) mg "good_name" Ov.dO T:=by
   dsimp only [L2.wg]
   refine' ⟨_,Ov.oY KX G ?ga ?gl ?gc ?gk ?gt ?gp ?gb ?ge ?go⟩
   (case ga=>k_is);(case gl=>k_is);(case gc=>k_is);(case gk=>k_is);(case gt=>k_is);(case gp=>rfl);(case gb=>kernel_rfl);(case ge=>decide);(case go=>kernel_rfl)
  obtain ⟨cJ,cI⟩:∃T,Ov.i_ (L2.wg KX) mg "number_from" Ov.cL T:=by
   dsimp only [L2.wg]
   refine' ⟨_,Ov.oY KX G ?ga ?gl ?gc ?gk ?gt ?gp ?gb ?ge ?go⟩
   (case ga=>k_is);(case gl=>k_is);(case gc=>k_is);(case gk=>k_is);(case gt=>k_is);(case gp=>rfl);(case gb=>kernel_rfl);(case ge=>decide);(case go=>kernel_rfl)
  have zA:Ov.Def (L2.wg KX) mg "law" Ov.pS:=by simp_arith
  have Z:Ov.d9 mg:=by
   refine' ⟨Ov.we.mk (PySem.W.mg_none_of KX G ?z0) (PySem.W.mg_none_of KX G ?z1) (PySem.W.mg_none_of KX G ?z2) (PySem.W.mg_none_of KX G ?z3) (PySem.W.mg_none_of KX G ?z4) (PySem.W.mg_none_of KX G ?z5) (PySem.W.mg_none_of KX G ?z6) (PySem.W.mg_none_of KX G ?z7) (PySem.W.mg_none_of KX G ?z8) (PySem.W.mg_none_of KX G ?z9),PySem.W.mg_none_of KX G ?w0,PySem.W.mg_none_of KX G ?w1,PySem.W.mg_none_of KX G ?w2,PySem.W.mg_none_of KX G ?w3,PySem.W.mg_none_of KX G ?w4⟩
   (case z0=>k_is);(case z1=>k_is);(case z2=>k_is);(case z3=>k_is);(case z4=>k_is);(case z5=>k_is);(case z6=>k_is);(case z7=>k_is);(case z8=>k_is);(case z9=>k_is);(case w0=>k_is);(case w1=>k_is);(case w2=>k_is);(case w3=>k_is);(case w4=>k_is)
  obtain ⟨W,c,Er⟩:∃W c,Ov.qj (L2.wg KX) mg W c:=by
   dsimp only [L2.wg]
   refine' Ov.uQ KX G ?v ?w ?a0 ?a1 ?a2 ?a3 ?a4 ?a5 ?a6 ?a7 ?a8 ?a9 ?b
   (case v=>k_is);(case w=>k_is);(case a0=>k_is);(case a1=>k_is);(case a2=>k_is);(case a3=>k_is);(case a4=>k_is);(case a5=>k_is);(case a6=>k_is);(case a7=>k_is);(case a8=>k_is);(case a9=>k_is)
   (case b=>kernel_rfl)
  obtain ⟨fC,dX⟩:∃t,mg "FIGURES"=some (.str "0123456789" t):=by
   refine' Ov.kq KX G ?cz ?cw
   (case cz=>k_is);(case cw=>kernel_rfl)
  obtain ⟨fE,dY⟩:∃t,mg "LONGEST"=some (.int 8 t):=by
   refine' Ov.const_int KX G ?cz ?cw
   (case cz=>k_is);(case cw=>kernel_rfl)
  obtain ⟨cm,bL⟩:∃t,mg "MOST_FIGURES"=some (.int 12 t):=by
   refine' Ov.const_int KX G ?cz ?cw
   (case cz=>k_is);(case cw=>kernel_rfl)
  obtain ⟨i3,gG⟩:∃t,mg "SIGNS"=some (.str "abcdefghijklmnopqrstuvwxyz0123456789" t):=by
   refine' Ov.kq KX G ?cz ?cw
   (case cz=>k_is);(case cw=>kernel_rfl)
  obtain ⟨fd,F,hb⟩:=Ov.ya zA hmg (λ_ _ _ _ _ _ _=>rfl)
  exact ⟨fd,[dC,cJ],hb,(λT hT=>by simp only [D6,Ei,or_false] at hT;rcases hT with rfl | rfl <;> first | exact ⟨_,by simp,_,dB⟩ | exact ⟨_,by simp,_,cI⟩),λbase _ _ Bm=>Ov.qA (Ov.xy Z Er dX dY bL gG (by simp_arith) (by simp_arith) (by simp_arith) (by simp_arith) dB (by simp_arith) (by simp_arith) (by simp_arith) (by simp_arith) cI (by simp_arith) (by simp_arith) (by simp_arith) (by simp_arith) (by simp_arith) (by simp_arith) (by simp_arith) (by simp_arith) (by simp_arith) (by simp_arith) (by simp_arith) (by simp_arith) F base Bm)⟩
