import PyProof.Rows.All
import Wide.All
import OpenK.AllK
import Wide.FinOn
import Lean
import PyProof.EqAt
import PyProof.EqKinds
import PyProof.TupleCall
import PyProof.NeKinds
import PyProof.ListRange
import OpenK.KOwn
import KE.KTryMore
import KE.KSorted
import KE.KSort
import PyProof.Rows.SortWalk
import PyProof.SeqI3
import PyProof.Rows.SumAny
import PyProof.Rows.SeqMore2
import KE.KListMore
import PyProof.Rows.Range3
import PyProof.Cells
import KE.KTabLook
import PyProof.SliceStr2
import PyProof.StrBlockI
import PyProof.Rows.FStr
import PyProof.Rows.StrNews2
import PyProof.ListStr
import PyProof.Rows.StrStep
import PyProof.Rows.StrJoinStr
import PyProof.AutoSeq1
import PyProof.ListRange
import KE.KRevIter
import PyProof.CollectIter
import PyProof.FactsAll.range_iterator_1
import PyProof.Rows.RuleM_int
import PyProof.FactsAll.int_6
import OpenK.AllK
import PySem.Challenge.RW_braidcomb_k35_forms_refused
open PySem.W (instObj methodObj lookIn plainGet hasDictIn findIn handedIn plainGet_of isFn plainOver takerIn Looks makesIn typeIn emptyDict looks_findIn keepIn specialIn takesIn mroIn kitOne kia_one kitx_none kitx_list kitx_tuple kitx_dict callWith_K methodCall_KW cellsFrom_some codeIn nsIn excIn exmOne clsIn subIn findObj KitX kitAny kia_tup mg_of mg_none_of kIn_of)
open Nat (lt_of_lt_of_le ne_of_lt le_trans le_of_lt ne_of_gt zero_le le_of_eq lt_succ_self le_succ lt_trans zero_add sub_zero min_eq_left sub_self reduceAdd reduceSub reduceEqDiff ble)
open List (range mem_filter mem_range mem_cons_self mem_cons_of_mem mem_cons mem_append mem_append_left getElem?_set_self getElem?_set_ne mem_append_right size_toArray length_cons map_cons length_map append_nil nodup_cons of_mem_zip replicate length length_take getElem?_append_right getElem?_replicate getElem?_append_left getElem?_map mem_of_getElem? length_append length_replicate map_nil length_drop length_set all_cons any_cons reverse_cons replicate_succ flatten_cons foldl length_singleton length_reverse nil_append Pairwise find?_cons cons_append length_nil getElem_of_mem getElem?_eq_getElem dropLast_eq_take drop_zero drop_length lookup_cons not_mem_nil getElem?_reverse range_succ_eq_map range' range'_succ length_range map_take map_drop map_map map_append take_length take_of_length_le map_set map_reverse mem_singleton getElem?_eq_none reverse getElem_idxOf mem_reverse reverse_perm range_succ flatten_append mem_map mem_of_mem_take take_succ map pairwise_map Nodup Perm length_filter_le sum_append sum_cons length_zipIdx map_congr_left map_dropLast mem_of_getLast? getLast?_map foldl_append reverse_reverse getElem_mem map_id cons_ne_nil mem_of_mem_drop any)
open Array (toList)
open Option (isSome_iff_exists getD_none map_some isSome_map getD_some bind_some)
open Int (toNat_natCast emod_nonneg emod_lt_of_pos)
open Bool (and_eq_true false_eq_true or_eq_true)
open PySem.F (slot_dict_get entry_dict_get plainAttrs_list slot_list_pop type_list_pop slot_range_reversed slot_dict_len)
open Classical (propDecidable byContradiction)
set_option hygiene false
local macro_rules
|`(tactic|dsimp [$l,*] $[$c]?)=>`(tactic|simp -implicitDefEqProofs only [reduceIte,ah,ai,aC,aD,aE,aF,$l,*] $[$c]?)
|`(tactic|dsimp $[$c:location]?)=>`(tactic|simp -implicitDefEqProofs only [reduceIte,ah,ai,aC,aD,aE,aF] $[$c]?)
local macro_rules
|`(tactic|simp_all [$l,*])=>`(tactic|simp -implicitDefEqProofs only [mS,mD,mF,eI,aJ,reduceAdd,reduceSub,reduceEqDiff,reduceIte,ah,ai,aC,aD,aE,aF,$l,*])
|`(tactic|simp_all)=>`(tactic|simp -implicitDefEqProofs only [mS,mD,mF,eI,aJ,reduceAdd,reduceSub,reduceEqDiff,reduceIte,ah,ai,aC,aD,aE,aF])
local macro_rules|`(tactic|simp_all only [$l,*])=>`(tactic|simp -implicitDefEqProofs only [$l,*])
local macro_rules|`($a>=>$b)=>`(R.bind $a $b)
local macro_rules|`($c:char)=>do
 match c.getChar with
 |'a'=>`((by omega))
 |'b'=>`(PySem.W.Frag)
 |'c'=>`((dD (qc P w) P w K mg base N qual scope f cd A outer s H E))
 |'d'=>`((hr.mono (by decide)))
 |'e'=>`(starEach (e::es) X.env=(false,eval e X.env)::starEach es X.env)
 |_=>Lean.Macro.throwUnsupported
set_option hygiene true
noncomputable section
set_option Elab.async false
set_option linter.all false
set_option maxRecDepth 100000
namespace L2
open PySem PySem.Spec PyProof.Rows
abbrev Key:=Sum Int Str
def zA:Key->Value->Bool
 |.inl k,v=>Value.isInt k v
 |.inr x,v=>Value.isStrOf x v
def Z4(w:World):Key->Int
 |.inl k=>hashInt k
 |.inr x=>hashStr w x
theorem cY:∀{k:Key}{v:Value},zA k v=true->(∃i t,k=Sum.inl i/\v=Value.int i t)\/(∃x t,k=Sum.inr x/\v=Value.str x t)
 |.inl i,v,h=>by
  obtain⟨t,e⟩:=Value.isInt_shape (k:=i) (v:=v) h
  exact .inl ⟨i,t,rfl,e⟩
 |.inr x,v,h=>by
  obtain⟨t,e⟩:=Value.isStrOf_shape (x:=x) (v:=v) h
  exact .inr ⟨x,t,rfl,e⟩
theorem G3(i:Int)(t:Tok):zA (.inl i) (.int i t)=true:=by simp[zA,Value.isInt]
theorem G4(x:Str)(t:Tok):zA (.inr x) (.str x t)=true:=by simp[zA,Value.isStrOf]
theorem Rt(a b:Int):decide ((Sum.inl a:Key)=Sum.inl b)=(a==b):=by
 by_cases e:a=b
 ·subst e;simp
 ·have h:¬(Sum.inl a:Key)=Sum.inl b:=fun q=>e (Sum.inl.inj q)
  rw[decide_eq_false h]
  exact(beq_eq_false_iff_ne.mpr e).symm
theorem Ru(a b:Str):decide ((Sum.inr a:Key)=Sum.inr b)=decide (a=b):=by
 by_cases e:a=b
 ·subst e;simp
 ·have h:¬(Sum.inr a:Key)=Sum.inr b:=fun q=>e (Sum.inr.inj q)
  rw[decide_eq_false h,decide_eq_false e]
theorem Rv(a:Int)(b:Str):decide ((Sum.inl a:Key)=Sum.inr b)=false:=decide_eq_false (fun q=>nomatch q)
theorem Rw(a:Str)(b:Int):decide ((Sum.inr a:Key)=Sum.inl b)=false:=decide_eq_false (fun q=>nomatch q)
def dB(prog:Program)(w:World):PySem.KeyKind prog w Key where
 is:=zA
 hash:=Z4 w
 inj:=fun v a b ha hb=>by
  rcases cY ha with⟨i,t,rfl,rfl⟩|⟨x,t,rfl,rfl⟩
  ·rcases cY hb with⟨j,u,rfl,e⟩|⟨y,u,rfl,e⟩
   ·injection e with e1 _;rw[e1]
   ·exact nomatch e
  ·rcases cY hb with⟨j,u,rfl,e⟩|⟨y,u,rfl,e⟩
   ·exact nomatch e
   ·injection e with e1 _;rw[e1]
 byValue:=fun k v h=>by
  rcases cY h with⟨i,t,rfl,rfl⟩|⟨x,t,rfl,rfl⟩<;>rfl
 pyHash:=fun hv h=>by
  rcases cY hv with⟨i,t,rfl,rfl⟩|⟨x,t,rfl,rfl⟩
  ·exact wpAny_pyHash_int h
  ·exact wpAny_pyHash_str h
 eqBool:=fun hu hv h=>by
  rcases cY hu with⟨i,t,rfl,rfl⟩|⟨x,t,rfl,rfl⟩
  ·rcases cY hv with⟨j,u,rfl,rfl⟩|⟨y,u,rfl,rfl⟩
   ·rw[Rt]at h;exact wpAny_eqBool_int h
   ·rw[Rv]at h;exact SeqAt.EqAt.int_str i t y u _ _ _ _ h
  ·rcases cY hv with⟨j,u,rfl,rfl⟩|⟨y,u,rfl,rfl⟩
   ·rw[Rw]at h;exact SeqAt.EqAt.str_int x t j u _ _ _ _ h
   ·rw[Ru]at h;exact wpAny_eqBool_str h
 «strs»:=fun k x t v h=>by
  rcases cY h with⟨i,u,rfl,e⟩|⟨y,u,rfl,e⟩
  ·exact nomatch e
  ·injection e with e1 _
   subst e1
   cases v<;>rfl
theorem BC(prog:Program)(w:World)(i:Int)(t:Tok):(dB prog w).is (.inl i) (.int i t)=true:=G3 i t
theorem BD(prog:Program)(w:World)(x:Str)(t:Tok):(dB prog w).is (.inr x) (.str x t)=true:=G4 x t
end L2
namespace L2
open PySem PySem.Spec PyProof.Rows
inductive V where
 |non|bl (b:Bool)|int (i:Int)|str (x:Str)|IK (b:Array UInt8)|Rx (b:UInt64)|ref (a:Addr)|ty (n:String)
 deriving DecidableEq
def RelV:V->Value->Prop
 |.non,u=>u=Value.none
 |.bl b,u=>u=Value.bool b
 |.int i,u=>∃t,u=Value.int i t
 |.str x,u=>∃t,u=Value.str x t
 |.IK b,u=>∃t,u=Value.bytes b t
 |.Rx b,u=>∃t,u=Value.float b t
 |.ref a,u=>u=Value.ref a
 |.ty n,u=>u=Value.type n
abbrev Vals:List V->List Value->Prop:=Paired RelV
theorem Vals.length {xs:List V}{us:List Value}(r:Vals xs us):xs.length=us.length:=Paired.length r
theorem Vals.get:∀{xs:List V}{us:List Value}{i:Nat}{x:V},Vals xs us->xs[i]?=some x->∃u,us[i]?=some u/\RelV x u
 |_,_,_,_,.nil,e=>by simp at e
 |_,_,0,_,.cons r _,e=>by simp at e;subst e;exact⟨_,rfl,r⟩
 |_,_,i+1,x,.cons _ t,e=>by
  obtain⟨u,h1,h2⟩:=Vals.get (i:=i) (x:=x) t (by simpa using e)
  exact⟨u,by simpa using h1,h2⟩
theorem Vals.set {x:V}{u:Value}(r:RelV x u):∀{xs:List V}{us:List Value}(i:Nat),Vals xs us->Vals (xs.set i x) (us.set i u)
 |_,_,_,.nil=>.nil
 |_,_,0,.cons _ t=>.cons r t
 |_,_,i+1,.cons q t=>.cons q (Vals.set r i t)
theorem Vals.append:∀{xs ys:List V}{us ws:List Value},Vals xs us->Vals ys ws->Vals (xs++ys) (us++ws)
 |_,_,_,_,.nil,s=>s
 |_,_,_,_,.cons r t,s=>.cons r (Vals.append t s)
theorem Vals.take:∀{xs:List V}{us:List Value}(n:Nat),Vals xs us->Vals (xs.take n) (us.take n)
 |_,_,0,_=>.nil
 |_,_,_+1,.nil=>.nil
 |_,_,n+1,.cons r t=>.cons r (Vals.take n t)
theorem Vals.drop:∀{xs:List V}{us:List Value}(n:Nat),Vals xs us->Vals (xs.drop n) (us.drop n)
 |_,_,0,r=>r
 |_,_,_+1,.nil=>.nil
 |_,_,n+1,.cons _ t=>Vals.drop n t
def pP:Option V->Option Value->Prop
 |some v,some u=>RelV v u
 |none,none=>True
 |_,_=>False
def KV{κ:Type}:List (κ×V)->List (κ×Value)->Prop:=Paired fun(p:κ×V)(q:κ×Value)=>p.1=q.1/\RelV p.2 q.2
def kV:Key->V
 |.inl i=>.int i
 |.inr x=>.str x
inductive HO where
 |lst (xs:List V)
 |tup (xs:List V)
 |dK (kvs:List (Key×V))|dT (kvs:List (List Key×V))
 |set (S:Int->Bool) (n:Nat)
 |ins (C dx:Addr) (fs:List (Str×V))
 |own (x:Addr)
 |xd (fs:List (Str×V))
 |met (f x:Addr)
 |Y7 (lo hi:Int)
 |nW (o:Obj) (u:HO)
 |PD (ps:Array Value)
 |ext (φ:Heap->Prop)
abbrev Hp:=Addr->Option HO
def upd(H:Hp)(a:Addr)(o:HO):Hp:=fun b=>if b=a then some o else H b
theorem ak{H:Hp}{a:Addr}{o:HO}:upd H a o a=some o:=by unfold upd;rw[if_pos rfl]
theorem aj{H:Hp}{a b:Addr}{o:HO}(h:b≠a):upd H a o b=H b:=by unfold upd;rw[if_neg h]
theorem bO{H:Hp}{a b:Addr}{o u:HO}(h:H a=some o)(h':H b=some u)(d:o≠u):a≠b:=by
 intro e;subst e;rw[h]at h';exact d (Option.some.inj h')
theorem az{H:Hp}{a b:Addr}{o:HO}(h:H a=some o)(h':H b=none):a≠b:=by
 intro e;subst e;rw[h]at h';cases h'
section
variable(P:Program)(w:World)
def cD(H:Hp)(h:Heap)(a:Addr):HO->Prop
 |.lst xs=>xs.length<=sizeLine/\∃(its:List Value)(n:Nat),Vals xs its/\h.get? a=some {cls:=.type "list",data:=.seq its.toArray n}
 |.tup xs=>xs.length<=sizeLine/\∃its:List Value,Vals xs its/\IsTup h a its.toArray
 |.dK kvs=>kvs.length<=sizeLine/\(a==sysModules)=false/\∃vs,KV kvs vs/\h.DictOf (dB P w) a vs
 |.dT kvs=>kvs.length<=sizeLine/\(a==sysModules)=false/\∃xs:List (List Key×Addr×Value),
   Paired (fun(p:List Key×V)(q:List Key×Addr×Value)=>p.1=q.1/\H q.2.1=some (.tup (p.1.map kV))/\RelV p.2 q.2.2) kvs xs/\
   ∃o es ep,h.get? a=some o/\o.ExactDict/\o.data=.dict es ep/\es.toList=xs.map (entryOfKey (tupleKind (dB P w)))/\(xs.map (·.1)).Nodup
 |.set S n=>h.SetOf (intKind P w) a S n
 |.ins C dx fs=>H dx=some (.own a)/\fs.length<=1000/\dx≠a/\h.get? a=some (instObj C dx)/\
   ∃mA,h.Ns1 dx mA/\(∀f,pP (fs.lookup f) (mA f))/\PySem.Within mA (fs.map (·.1))
 |.own _=>∃o,h.get? a=some o
 |.xd fs=>∃mA,h.Ns1 a mA/\∀f,pP (fs.lookup f) (mA f)
 |.Y7 lo hi=>∃t u v,h.get? a=some {cls:=.type "range",data:=.fields #[.int lo t,.int hi u,.int 1 v]}
 |.nW o u=>h.get? a=some o/\cD H h a u
 |.PD ps=>h.get? a=some {cls:=.none,data:=.fields ps}
 |.met f x=>h.get? a=some (methodObj (.ref f) (.ref x))
 |.ext φ=>φ h/\(∃o,h.get? a=some o)/\∀h1 h2:Heap,φ h1->(∀o,h1.get? a=some o->h2.get? a=some o)->φ h2
def nX(H:Hp)(h:Heap):Prop:=∀a o,H a=some o->cD P w H h a o
end
section
variable{P:Program}{w:World}{H H':Hp}{h h':Heap}{a:Addr}{o:HO}
theorem cD.lt (x:cD P w H h a o):a<h.objs.size:=by
 cases o with
 |lst xs=>obtain⟨_,_,_,_,e⟩:=x;exact Heap.lt_size e
 |tup xs=>obtain⟨_,_,_,p⟩:=x;exact p.lt
 |dK kvs=>obtain⟨_,_,_,_,o,_,_,e,_⟩:=x;exact Heap.lt_size e
 |dT kvs=>obtain⟨_,_,_,_,o,_,_,e,_⟩:=x;exact Heap.lt_size e
 |set S n=>obtain⟨o,_,_,_,e,_⟩:=x;exact Heap.lt_size e
 |ins C dx fs=>obtain⟨_,_,_,e,_⟩:=x;exact Heap.lt_size e
 |own y=>obtain⟨_,e⟩:=x;exact Heap.lt_size e
 |xd fs=>obtain⟨_,⟨_,_,_,e,_⟩,_⟩:=x;exact Heap.lt_size e
 |Y7 lo hi=>obtain⟨_,_,_,e⟩:=x;exact Heap.lt_size e
 |nW ob u=>obtain⟨e,_⟩:=x;exact Heap.lt_size e
 |PD ps=>exact Heap.lt_size (show h.get? a=some _ from x)
 |met f y=>exact Heap.lt_size (show h.get? a=some _ from x)
 |ext φ=>obtain⟨_,⟨_,e⟩,_⟩:=x;exact Heap.lt_size e
theorem Paired.Ry {α β:Type}{F G:α->β->Prop}:∀{l₁:List α}{l₂:List β},Paired F l₁ l₂->(∀a b,F a b->G a b)->Paired G l₁ l₂
 |_,_,.nil,_=>.nil
 |_,_,.cons r t,f=>.cons (f _ _ r) (Paired.Ry t f)
theorem cD.pQ (x:cD P w H h a o)(k:∀b u,(b=a\/H b=some (.own a))->h.get? b=some u->h'.get? b=some u)
  (ho:∀b,H b=some (.own a)->H' b=some (.own a))(ht:∀b xs,H b=some (.tup xs)->H' b=some (.tup xs)):cD P w H' h' a o:=by
 induction o with
 |lst xs=>obtain⟨z,its,n,r,e⟩:=x;exact⟨z,its,n,r,k _ _ (.inl rfl) e⟩
 |tup xs=>obtain⟨z,its,r,ob,e,c⟩:=x;exact⟨z,its,r,ob,k _ _ (.inl rfl) e,c⟩
 |dK kvs=>obtain⟨z,y,vs,r,ob,es,ep,e,c⟩:=x;exact⟨z,y,vs,r,ob,es,ep,k _ _ (.inl rfl) e,c⟩
 |dT kvs=>
  obtain⟨z,y,xs,r,ob,es,ep,e,c⟩:=x
  exact⟨z,y,xs,Paired.Ry r fun p q z=>⟨z.1,ht _ _ z.2.1,z.2.2⟩,ob,es,ep,k _ _ (.inl rfl) e,c⟩
 |set S n=>obtain⟨ob,es,ep,t,e,c⟩:=x;exact⟨ob,es,ep,t,k _ _ (.inl rfl) e,c⟩
 |ins C dx fs=>
  obtain⟨d,z,ne,e,mA,⟨od,es,ep,e2,c⟩,r⟩:=x
  exact⟨ho _ d,z,ne,k _ _ (.inl rfl) e,mA,⟨od,es,ep,k _ _ (.inr d) e2,c⟩,r⟩
 |own y=>obtain⟨ob,e⟩:=x;exact⟨ob,k _ _ (.inl rfl) e⟩
 |xd fs=>obtain⟨mA,⟨od,es,ep,e,c⟩,r⟩:=x;exact⟨mA,⟨od,es,ep,k _ _ (.inl rfl) e,c⟩,r⟩
 |Y7 lo hi=>obtain⟨t,u,v,e⟩:=x;exact⟨t,u,v,k _ _ (.inl rfl) e⟩
 |nW ob u ih=>obtain⟨e,q⟩:=x;exact⟨k _ _ (.inl rfl) e,ih q⟩
 |PD ps=>
  have e:h.get? a=some {cls:=.none,data:=.fields ps}:=x
  show h'.get? a=some {cls:=.none,data:=.fields ps}
  exact k a _ (.inl rfl) e
 |met f y=>
  have e:h.get? a=some (methodObj (.ref f) (.ref y)):=x
  show h'.get? a=some (methodObj (.ref f) (.ref y))
  exact k a _ (.inl rfl) e
 |ext φ=>obtain⟨p,⟨o,e⟩,st⟩:=x;exact⟨st _ _ p fun o q=>k _ _ (.inl rfl) q,⟨o,k _ _ (.inl rfl) e⟩,st⟩
theorem nX.lt (x:nX P w H h)(e:H a=some o):a<h.objs.size:=(x a o e).lt
theorem nX.fresh (x:nX P w H h)(e:h.objs.size<=a):H a=none:=by
 cases q:H a with
 |none=>rfl
 |some u=>exact absurd (lt_of_lt_of_le (x.lt q) e) (Nat.lt_irrefl _)
theorem nX.kept (x:nX P w H h)(k:∀b u,h.get? b=some u->h'.get? b=some u):nX P w H h':=fun a o e=>
 (x a o e).pQ (fun b u _ q=>k b u q) (fun _ q=>q) fun _ _ q=>q
theorem nX.laid (x:nX P w H h)(k:∀b u,h.get? b=some u->h'.get? b=some u)(hp:h.objs.size<=a)(new:cD P w (upd H a o) h' a o):nX P w (upd H a o) h':=fun b u e=>by
 have hn:=x.fresh hp
 by_cases hb:b=a
 ·subst hb;rw[ak]at e;cases e;exact new
 ·rw[aj hb]at e
  exact(x b u e).pQ (fun c v _ q=>k c v q) (fun c q=>by rw[aj (az q hn)];exact q) fun c xs q=>by rw[aj (az q hn)];exact q
end
def Rd(H:Hp)(a:Addr)(u:HO):Prop:=H a=some u\/∃o,H a=some (.nW o u)
theorem Rd.ok {P:Program}{w:World}{H:Hp}{h:Heap}{a:Addr}{u:HO}(r:Rd H a u)(x:nX P w H h):cD P w H h a u:=by
 rcases r with r|⟨o,r⟩
 ·exact x a u r
 ·obtain⟨_,q⟩:=x a _ r
  exact q
def VW:Option HO->Prop
 |some (.lst _)=>True
 |some (.dK _)=>True
 |some (.dT _)=>True
 |some (.set _ _)=>True
 |some (.ins _ _ _)=>True
 |some (.ext _)=>True
 |_=>False
section
variable{P:Program}{w:World}{H:Hp}{h h':Heap}{x e:Addr}{o':HO}
theorem nX.write (ok:nX P w H h)(mu:VW (H x))(he:e=x\/H e=some (.own x))(k:∀b u,b≠e->h.get? b=some u->h'.get? b=some u)(Vu:∃u,h'.get? e=some u)
  (new:cD P w (upd H x o') h' x o'):nX P w (upd H x o') h':=fun b u q=>by
 have VX:∀c y,H c=some (.own y)->c≠x:=fun c y r z=>by subst z;rw[r]at mu;exact mu
 have Z5:∀c xs,H c=some (.tup xs)->c≠x:=fun c xs r z=>by subst z;rw[r]at mu;exact mu
 by_cases hb:b=x
 ·subst hb;rw[ak]at q;cases q;exact new
 ·rw[aj hb]at q
  by_cases Rz:b=e
  ·have q':H b=some (.own x):=by
    rcases he with z|z
    ·exact absurd (Rz.trans z) hb
    ·rw[Rz];exact z
   rw[q]at q';cases q'
   obtain⟨v,hv⟩:=Vu
   exact⟨v,by rw[Rz];exact hv⟩
  ·refine(ok b u q).pQ (fun c v hc r=>k c v ?_ r) (fun c r=>by rw[aj (VX c b r)];exact r) fun c xs r=>by rw[aj (Z5 c xs r)];exact r
   rcases hc with rfl|hc
   ·exact Rz
   ·rintro rfl
    rcases he with z|z
    ·exact VX c b hc z
    ·rw[hc]at z;cases z;exact hb rfl
end
structure Un(fs ex:List Addr)(H H':Hp)(h h':Heap):Prop where
 keep:∀b o,h.get? b=some o->H b=none->b∉fs->b∉ex->h'.get? b=some o
 slot:∀b o,h.get? b=some o->H b=none->b∈fs->b∉ex->∃sl,h'.get? b=some {o with slots:=sl}
 free:∀b o,h.get? b=some o->H b=none->b∉ex->H' b=none
 there:∀b o,h.get? b=some o->b∉ex->∃o',h'.get? b=some o'
 tups:∀b xs,H b=some (.tup xs)->H' b=some (.tup xs)
 uv:∀b o u,H b=some (.nW o u)->H' b=some (.nW o u)
 we:∀b ps,H b=some (.PD ps)->∃more,H' b=some (.PD (ps++more))
section
variable{fs Y8 ex Y9:List Addr}{H H1 H2:Hp}{h h1 h2 h':Heap}{a x e:Addr}{o:HO}
theorem Un.any (u:Un fs ex H H1 h h1){b:Addr}{ob:Obj}(q:h.get? b=some ob)(n:H b=none)(hx:b∉ex):∃sl,h1.get? b=some {ob with slots:=sl}:=by
 by_cases hb:b∈fs
 ·exact u.slot b ob q n hb hx
 ·exact⟨ob.slots,u.keep b ob q n hb hx⟩
theorem Un.kept (k:∀b u,h.get? b=some u->h'.get? b=some u):Un fs ex H H h h':=
 ⟨fun b ob q _ _ _=>k b ob q,fun b ob q _ _ _=>⟨ob.slots,k b ob q⟩,fun _ _ _ n _=>n,fun b ob q _=>⟨ob,k b ob q⟩,fun _ _ q=>q,fun _ _ _ q=>q,fun _ ps q=>⟨#[],by rw[q];simp⟩⟩
theorem Un.refl:Un fs ex H H h h:=Un.kept fun _ _ q=>q
theorem Un.laid (k:∀b u,h.get? b=some u->h'.get? b=some u)(hp:h.objs.size<=a)(hn:H a=none):Un fs ex H (upd H a o) h h' where
 keep:=fun b u q _ _ _=>k b u q
 slot:=fun b u q _ _ _=>⟨u.slots,k b u q⟩
 free:=fun b u q n _=>by rw[aj (ne_of_lt (lt_of_lt_of_le (Heap.lt_size q) hp))];exact n
 there:=fun b u q _=>⟨u,k b u q⟩
 tups:=fun b xs q=>by rw[aj (az q hn)];exact q
 uv:=fun b u xs q=>by rw[aj (az q hn)];exact q
 we:=fun b ps q=>⟨#[],by rw[aj (az q hn),q];simp⟩
theorem Un.write (mu:VW (H x))(he:e=x\/H e=some (.own x))(k:∀b u,b≠e->h.get? b=some u->h'.get? b=some u)(Vu:∃u,h'.get? e=some u):Un fs ex H (upd H x o) h h':=by
 have hx:∀b,H b=none->b≠x:=fun b n z=>by subst z;rw[n]at mu;exact mu
 have hb:∀b,H b=none->b≠e:=fun b n z=>by
  subst z
  rcases he with r|r
  ·exact hx b n r
  ·rw[n]at r;cases r
 have hm:∀b u,H b=some u->¬VW (some u)->b≠x:=fun b u q nm z=>by subst z;rw[q]at mu;exact nm mu
 refine⟨fun b u q n _ _=>k b u (hb b n) q,fun b u q n _ _=>⟨u.slots,k b u (hb b n) q⟩,fun b u q n _=>by rw[aj (hx b n)];exact n,fun b u q _=>?_,
  fun b xs q=>by rw[aj (hm b _ q fun z=>z)];exact q,fun b u xs q=>by rw[aj (hm b _ q fun z=>z)];exact q,fun b ps q=>⟨#[],by rw[aj (hm b _ q fun z=>z),q];simp⟩⟩
 by_cases Rz:b=e
 ·subst Rz;exact Vu
 ·exact⟨u,k b u Rz q⟩
end
def Za(h:Heap)(H:Hp):List Addr:=(range h.objs.size).filter fun a=>(H a).isSome
def An(h:Heap)(H:Hp):Heap:=PySem.W.hideAll h (Za h H)
theorem G5(h:Heap)(H:Hp):(An h H).objs.size=h.objs.size:=PySem.W.hideAll_size _ _
theorem I9{h:Heap}{H:Hp}{b:Addr}{o:Obj}(e:h.get? b=some o)(n:H b=none):(An h H).get? b=some o:=
 PySem.W.hideAll_get _ e fun hm=>by
  have q:(H b).isSome=true:=(mem_filter.mp hm).2
  rw[n]at q;simp at q
theorem Ni{h:Heap}{H:Hp}{b:Addr}{o:Obj}(e:(An h H).get? b=some o):h.get? b=some o/\H b=none:=by
 have e':h.get? b=some o:=PySem.W.of_hideAll (Za h H) e
 refine⟨e',?_⟩
 cases q:H b with
 |none=>rfl
 |some x=>
  have hm:b∈Za h H:=mem_filter.mpr ⟨mem_range.mpr (Heap.lt_size e'),by simp[q]⟩
  have z:(An h H).get? b=none:=PySem.W.hideAll_none (Za h H) hm
  rw[z]at e;cases e
def Nj(g h:Heap)(L:Addr):List (Addr×Obj):=(range h.objs.size).filterMap fun a=>if a=L\/(g.get? a).isSome=true then none else(h.get? a).map fun o=>(a,o)
def rest(g h:Heap)(L d:Addr):List (Addr×Obj):=(Nj g h L).filter fun p=>decide (p.1≠d)
end L2
namespace L2
open PySem PySem.Spec PyProof.Rows
structure Mod(K:'b')(mg:Str->Option Value)(base:Heap):Prop where
 RA:K.In base
 glob:base.Ns mainGlobals mg
 blt:∃mb,base.Ns builtinsNs mb/\∀x:Str,x≠"__name__"->mb x=bootBuiltins x
 nolimit:base.NoLimit
structure Cx where
 prog:Program
 w:World
 K:PySem.W.Frag
 mg:Str->Option Value
 base:Heap
 A:Around
 N:List Str
 s₀:Shared
 H₀:Hp
 env:Env
 outer:List Env
 stack:List Env
 ex:List Addr
 fn:Str->Bool
 calm:Bool
 pn:List (Addr×Obj)
 xe:Value->Shared->Prop
def Ao(l:List Env):List Addr:=l.filterMap (·.frame)
abbrev Cx.fs (X:Cx):List Addr:=Ao X.outer
def yT(sc:Scope)(x:Str):Prop:=sc.names.lookup x=some .local\/sc.names.lookup x=some .cell\/sc.names.lookup x=some .free
def Loc(sc:Scope)(x:Str):Prop:=sc.names.lookup x=some .local\/sc.names.lookup x=some .cell
def Look(env:Env)(h:Heap)(m:Str->Option Value)(x:Str)(u:Value):Prop:=
 (env.kindOf x=some .local/\m x=some u)\/((env.kindOf x=some .cell\/env.kindOf x=some .free)/\∃c,env.cells.lookup x=some c/\h.IsCell c (some u))
structure Cx.Ok (X:Cx):Prop where
 mod:Mod X.K X.mg X.base
 kind:X.env.scope.kind=.function
 glob:X.env.globals=mainGlobals
 blt:X.env.builtins=builtinsNs
 above:X.s₀.heap.objs.size<=X.env.locals
 inj:∀x y c,X.env.cells.lookup x=some c->X.env.cells.lookup y=some c->x=y
 has:∀x,(X.env.kindOf x=some .cell\/X.env.kindOf x=some .free)->∃c,X.env.cells.lookup x=some c
 PF:∀x c,X.fn x=true->X.env.cells.lookup x=some c->X.s₀.heap.objs.size<=c
 hd:X.calm=true->X.A.handled=none
 frames:X.A.frames=some X.stack
 RB:X.stack=X.outer\/(X.stack=X.env::X.outer/\X.env.frame=some X.env.locals)
 RD:∀b∈X.ex,b≠X.env.locals/\∀x c,X.env.cells.lookup x=some c->c≠b
 bs:∀b o,X.base.get? b=some o->X.s₀.heap.get? b=some o/\X.H₀ b=none
 IL:X.base.objs.size<=X.s₀.heap.objs.size
 BE:∀b o,X.base.get? b=some o->b∉X.ex
 Aq:∀b∈X.ex,b∉X.fs
 rZ:X.s₀.heap.FunFrames X.base X.outer
 MV:∀b∈X.fs,X.H₀ b=none
structure Inv(X:Cx)(pins:List (Addr×Obj))(σ:List (Option V))(H:Hp)(s:Shared):Prop where
 ok:X.Ok
 os:s.os=X.s₀.os
 bare:AllBare s.gens
 base:Un X.fs X.ex X.H₀ H X.s₀.heap s.heap
 loc:∃m,s.heap.Ns X.env.locals m/\∀(i:Nat)(x:Str)(v:V),X.N[i]?=some x->σ[i]?=some (some v)->yT X.env.scope x->∃u,RelV v u/\Look X.env s.heap m x u
 cell:∀x c,X.env.cells.lookup x=some c->∃v,s.heap.IsCell c v
 free:H X.env.locals=none
 lN:∀x c,X.env.cells.lookup x=some c->H c=none
 pin:∀p∈X.pn++pins,s.heap.get? p.1=some p.2/\H p.1=none/\p.1≠X.env.locals/\p.1∉X.fs/\∀v,p.2.data≠.cell v
 hok:nX X.prog X.w H s.heap
 len:σ.length=X.N.length
section
variable{X:Cx}{pins:List (Addr×Obj)}{σ:List (Option V)}{H H':Hp}{s:Shared}{h':Heap}
theorem Cx.Ok.Z6 (ok:X.Ok){b:Addr}{o:Obj}(e:X.base.get? b=some o):b∉X.fs:=fun hb=>by
 have:=(ok.rZ.mem hb).1
 rw[e]at this;cases this
theorem Inv.bs (I:Inv X pins σ H s):∀b o,X.base.get? b=some o->s.heap.get? b=some o/\H b=none:=fun b o e=>
 ⟨I.base.keep b o (I.ok.bs b o e).1 (I.ok.bs b o e).2 (I.ok.Z6 e) (I.ok.BE b o e),I.base.free b o (I.ok.bs b o e).1 (I.ok.bs b o e).2 (I.ok.BE b o e)⟩
theorem Inv.bk (I:Inv X pins σ H s):∀b o,X.base.get? b=some o->s.heap.get? b=some o:=fun b o e=>(I.bs b o e).1
theorem Inv.mod (I:Inv X pins σ H s):Mod X.K X.mg X.base:=I.ok.mod
theorem Inv.qM (I:Inv X pins σ H s):X.K.In s.heap:=I.ok.mod.RA.keeps I.bk
theorem Inv.lt (I:Inv X pins σ H s):X.env.locals<s.heap.objs.size:=let⟨_,hn,_⟩:=I.loc;hn.lt
theorem Inv.sz (I:Inv X pins σ H s):X.s₀.heap.objs.size<=s.heap.objs.size:=le_trans I.ok.above (le_of_lt I.lt)
theorem Inv.Z7 (I:Inv X pins σ H s){a:Addr}(h:s.heap.objs.size<=a):a∉X.fs:=fun hb=>by
 obtain⟨_,o,ho,_⟩:=I.ok.rZ.mem hb
 exact absurd (lt_of_lt_of_le (Heap.lt_size ho) (le_trans I.sz h)) (Nat.lt_irrefl _)
theorem Inv.Nk (I:Inv X pins σ H s):∀x c,X.env.cells.lookup x=some c->c≠X.env.locals:=fun x c e z=>by
 obtain⟨v,o,ho,hd⟩:=I.cell x c e
 obtain⟨m,⟨o',es,ep,RE,Nm,_⟩,_⟩:=I.loc
 rw[z,RE]at ho;cases ho;rw[Nm]at hd;cases hd
theorem Inv.rZ (I:Inv X pins σ H s):s.heap.FunFrames X.base X.outer:=by
 have all:∀(l:List Env),(∀b∈Ao l,b∈X.fs)->X.s₀.heap.FunFrames X.base l->s.heap.FunFrames X.base l:=by
  intro l
  induction l with
  |nil=>intro _ _;trivial
  |cons env r ih=>
   intro hs hl
   obtain⟨hk,⟨L,o,hf,hn,ho,hd⟩,hr⟩:=hl
   have hL:L∈X.fs:=hs L (by unfold Ao;rw[List.filterMap_cons,hf];exact mem_cons_self)
   obtain⟨sl,e⟩:=I.base.slot L o ho (I.ok.MV L hL) hL fun z=>I.ok.Aq L z hL
   exact⟨hk,⟨L,_,hf,hn,e,hd⟩,ih (fun b hb=>hs b (by unfold Ao;rw[List.filterMap_cons,hf];exact mem_cons_of_mem _ hb)) hr⟩
 exact all X.outer (fun _ hb=>hb) I.ok.rZ
theorem Inv.stack (I:Inv X pins σ H s):s.heap.FunFrames X.base X.stack:=by
 rcases I.ok.RB with e|⟨e,hf⟩
 ·rw[e];exact I.rZ
 ·rw[e]
  obtain⟨m,hn,_⟩:=I.loc
  refine .cons (by rw[I.ok.kind];decide) hf hn ?_ I.rZ
  exact Heap.get?_none_of_le (le_trans I.ok.IL I.ok.above)
theorem Inv.xo (I:Inv X pins σ H s):∀b∈Ao X.stack,b∈X.env.locals::X.fs:=fun b hb=>by
 rcases I.ok.RB with e|⟨e,hf⟩
 ·rw[e]at hb;exact mem_cons_of_mem _ hb
 ·rw[e]at hb
  unfold Ao at hb
  rw[List.filterMap_cons,hf]at hb
  exact hb
theorem Inv.wJ (I:Inv X pins σ H s):∀b∈Ao X.stack,H b=none:=fun b hb=>by
 rcases mem_cons.mp (I.xo b hb)with e|hb
 ·rw[e];exact I.free
 ·obtain⟨_,o,ho,_⟩:=I.ok.rZ.mem hb
  exact I.base.free b o ho (I.ok.MV b hb) fun z=>I.ok.Aq b z hb
theorem Inv.step {g':Array GenState}{t':Nat}{d':Drawn}{ch:List Addr}(I:Inv X pins σ H s)
  (hch:∀b∈ch,(b∈X.ex\/X.s₀.heap.objs.size<=b)/\b≠X.env.locals/\(∀x c,X.env.cells.lookup x=some c->c≠b)/\∀p∈X.pn++pins,p.1≠b)
  (keep:∀b o,b≠X.env.locals->b∉X.fs->b∉ch->s.heap.get? b=some o->H b=none->h'.get? b=some o)
  (slot:∀b o,b≠X.env.locals->b∈X.fs->b∉ch->s.heap.get? b=some o->H b=none->∃sl,h'.get? b=some {o with slots:=sl})(free:∀b o,b∉ch->s.heap.get? b=some o->H b=none->H' b=none)
  (there:∀b o,b∉ch->s.heap.get? b=some o->∃o',h'.get? b=some o')
  (tups:∀b xs,H b=some (.tup xs)->H' b=some (.tup xs))(uv:∀b o u,H b=some (.nW o u)->H' b=some (.nW o u))(we:∀b ps,H b=some (.PD ps)->∃more,H' b=some (.PD (ps++more)))
  (ns:∀m,s.heap.Ns X.env.locals m->h'.Ns X.env.locals m)(hok:nX X.prog X.w H' h')(hg:AllBare g'):
  Inv X pins σ H' {s with heap:=h',gens:=g',drawn:=d',toks:=t'}:=by
 have neL:∀b o,X.s₀.heap.get? b=some o->b≠X.env.locals:=fun b o e=>ne_of_lt (lt_of_lt_of_le (Heap.lt_size e) I.ok.above)
 have Zb:∀b o,X.s₀.heap.get? b=some o->b∉X.ex->b∉ch:=fun b o e hx hb=>by
  rcases(hch b hb).1 with z|z
  ·exact hx z
  ·exact absurd (lt_of_lt_of_le (Heap.lt_size e) z) (Nat.lt_irrefl _)
 have cellK:∀x c,X.env.cells.lookup x=some c->∀v,s.heap.IsCell c v->h'.IsCell c v:=fun x c e v ⟨o,ho,hd⟩=>by
  have VY:c∉ch:=fun z=>(hch c z).2.2.1 x c e rfl
  by_cases hc:c∈X.fs
  ·obtain⟨sl,q⟩:=slot c o (I.Nk x c e) hc VY ho (I.lN x c e)
   exact⟨_,q,hd⟩
  ·exact⟨o,keep c o (I.Nk x c e) hc VY ho (I.lN x c e),hd⟩
 refine⟨I.ok,I.os,hg,⟨fun b o e n hb hx=>?_,fun b o e n hb hx=>?_,fun b o e n hx=>?_,fun b o e hx=>?_,fun b xs e=>tups b xs (I.base.tups b xs e),fun b o xs e=>uv b o xs (I.base.uv b o xs e),fun b ps e=>?_⟩,?_,fun x c e=>?_,?_,fun x c e=>?_,fun p hp=>?_,hok,I.len⟩
 ·exact keep b o (neL b o e) hb (Zb b o e hx) (I.base.keep b o e n hb hx) (I.base.free b o e n hx)
 ·obtain⟨sl,e1⟩:=I.base.slot b o e n hb hx
  obtain⟨sl',e2⟩:=slot b _ (neL b o e) hb (Zb b o e hx) e1 (I.base.free b o e n hx)
  exact⟨sl',e2⟩
 ·obtain⟨o',e1⟩:=I.base.there b o e hx
  exact free b o' (Zb b o e hx) e1 (I.base.free b o e n hx)
 ·obtain⟨o',e1⟩:=I.base.there b o e hx
  exact there b o' (Zb b o e hx) e1
 ·obtain⟨m1,e1⟩:=I.base.we b ps e
  obtain⟨m2,e2⟩:=we b _ e1
  exact⟨m1++m2,by rw[e2,Array.append_assoc]⟩
 ·obtain⟨m,hn,hl⟩:=I.loc
  refine⟨m,ns m hn,fun i x v e1 e2 e3=>?_⟩
  obtain⟨u,r,l⟩:=hl i x v e1 e2 e3
  refine⟨u,r,?_⟩
  rcases l with l|⟨k,c,e,z⟩
  ·exact .inl l
  ·exact .inr ⟨k,c,e,cellK x c e _ z⟩
 ·obtain⟨v,z⟩:=I.cell x c e
  exact⟨v,cellK x c e v z⟩
 ·obtain⟨m,⟨o,_,_,ho,_⟩,_⟩:=I.loc
  exact free _ o (fun z=>(hch _ z).2.1 rfl) ho I.free
 ·obtain⟨v,o,ho,hd⟩:=I.cell x c e
  exact free c o (fun z=>(hch c z).2.2.1 x c e rfl) ho (I.lN x c e)
 ·obtain⟨e,n,ne,nf,d⟩:=I.pin p hp
  have VY:p.1∉ch:=fun z=>(hch p.1 z).2.2.2 p hp rfl
  exact⟨keep p.1 p.2 ne nf VY e n,free p.1 p.2 VY e n,ne,nf,d⟩
theorem Inv.un {t':Nat}(I:Inv X pins σ H s)(u:Un X.fs [] H H' s.heap h')(hok:nX X.prog X.w H' h'):Inv X pins σ H' {s with heap:=h',toks:=t'}:=by
 obtain⟨m,⟨o,es,ep,ho,r⟩,_⟩:=id I.loc
 obtain⟨sl,hL⟩:=u.any ho I.free (by simp)
 exact I.step (g':=s.gens) (d':=s.drawn) (ch:=[]) (fun _ z=>nomatch z) (fun b o _ hb _ e n=>u.keep b o e n hb (by simp)) (fun b o _ hb _ e n=>u.slot b o e n hb (by simp)) (fun b o _ e n=>u.free b o e n (by simp)) (fun b o _ e=>u.there b o e (by simp)) u.tups u.uv u.we (fun m' hm=>by
  obtain⟨o',Z8,Z9,RE,r'⟩:=hm
  rw[ho]at RE;cases RE
  exact⟨_,Z8,Z9,hL,r'⟩) hok I.bare
theorem Inv.call {g':Array GenState}{t':Nat}{d':Drawn}{ch:List Addr}(I:Inv X pins σ H s)(u:Un (Ao X.stack) ch H H' s.heap h')(hok:nX X.prog X.w H' h')(hg:AllBare g')
  (hch:∀b∈ch,(b∈X.ex\/X.s₀.heap.objs.size<=b)/\b≠X.env.locals/\(∀x c,X.env.cells.lookup x=some c->c≠b)/\∀p∈X.pn++pins,p.1≠b):
  Inv X pins σ H' {s with heap:=h',gens:=g',drawn:=d',toks:=t'}:=by
 obtain⟨m,⟨o,es,ep,ho,r⟩,_⟩:=id I.loc
 obtain⟨sl,hL⟩:=u.any ho I.free fun z=>(hch _ z).2.1 rfl
 exact I.step (ch:=ch) hch (fun b o hL hb hc e n=>u.keep b o e n (fun z=>(mem_cons.mp (I.xo b z)).elim hL hb) hc) (fun b o _ _ hc e n=>u.any e n hc) (fun b o hc e n=>u.free b o e n hc) (fun b o hc e=>u.there b o e hc) u.tups u.uv u.we (fun m' hm=>by
  obtain⟨o',Z8,Z9,RE,r'⟩:=hm
  rw[ho]at RE;cases RE
  exact⟨_,Z8,Z9,hL,r'⟩) hok hg
theorem Inv.turned {t':Nat}{it:Addr}(I:Inv X pins σ H s)(k:∀b o,b≠it->s.heap.get? b=some o->h'.get? b=some o)(hn:H it=none)(hL:it≠X.env.locals)
  (h1:it∈X.ex\/X.s₀.heap.objs.size<=it)(h2:∀x c,X.env.cells.lookup x=some c->c≠it)(h3:∀p∈X.pn++pins,p.1≠it):Inv X pins σ H {s with heap:=h',toks:=t'}:=by
 have nit:∀b u,H b=some u->b≠it:=fun b u e z=>by rw[z,hn]at e;cases e
 refine I.step (g':=s.gens) (d':=s.drawn) (ch:=[it]) (fun b hb=>?_) (fun b o _ _ hc e _=>k b o (fun z=>hc (by simp[z])) e) (fun b o _ _ hc e _=>⟨o.slots,k b o (fun z=>hc (by simp[z])) e⟩) (fun _ _ _ _ n=>n)
  (fun b o hc e=>⟨o,k b o (fun z=>hc (by simp[z])) e⟩) (fun _ _ e=>e) (fun _ _ _ e=>e) (fun b ps e=>⟨#[],by rw[e];simp⟩) (fun m hm=>?_) (fun b u e=>?_) I.bare
 ·have e:b=it:=by simpa using hb
  subst e
  exact⟨h1,hL,h2,h3⟩
 ·obtain⟨o,es,ep,ho,r⟩:=hm
  exact⟨o,es,ep,k _ o (Ne.symm hL) ho,r⟩
 ·refine(I.hok b u e).pQ (fun c v hc q=>k c v ?_ q) (fun _ q=>q) fun _ _ q=>q
  rcases hc with z|z
  ·rw[z];exact nit b u e
  ·exact nit c _ z
theorem Inv.tok (I:Inv X pins σ H s)(t:Nat):Inv X pins σ H {s with toks:=t}:=I.un (h':=s.heap) (t':=t) Un.refl I.hok
theorem Inv.kept {t':Nat}(I:Inv X pins σ H s)(k:∀b u,s.heap.get? b=some u->h'.get? b=some u):Inv X pins σ H {s with heap:=h',toks:=t'}:=I.un (Un.kept k) (I.hok.kept k)
theorem Inv.laid {a:Addr}{o:HO}{t':Nat}(I:Inv X pins σ H s)(k:∀b u,s.heap.get? b=some u->h'.get? b=some u)(hp:s.heap.objs.size<=a)(new:cD X.prog X.w (upd H a o) h' a o):
  Inv X pins σ (upd H a o) {s with heap:=h',toks:=t'}:=I.un (Un.laid k hp (I.hok.fresh hp)) (I.hok.laid k hp new)
theorem Inv.write {x e:Addr}{o:HO}{t':Nat}(I:Inv X pins σ H s)(mu:VW (H x))(he:e=x\/H e=some (.own x))(k:∀b u,b≠e->s.heap.get? b=some u->h'.get? b=some u)(Vu:∃u,h'.get? e=some u)
  (new:cD X.prog X.w (upd H x o) h' x o):Inv X pins σ (upd H x o) {s with heap:=h',toks:=t'}:=I.un (Un.write mu he k Vu) (I.hok.write mu he k Vu new)
theorem Inv.EV {PH:List (Addr×Obj)}(I:Inv X pins σ H s)(h:∀p∈PH,s.heap.get? p.1=some p.2/\H p.1=none/\p.1≠X.env.locals/\p.1∉X.fs/\∀v,p.2.data≠.cell v):Inv X PH σ H s:=
 ⟨I.ok,I.os,I.bare,I.base,I.loc,I.cell,I.free,I.lN,fun p hp=>(mem_append.mp hp).elim (fun z=>I.pin p (mem_append_left _ z)) (h p),I.hok,I.len⟩
theorem xp{N:List Str}(hN:N.Nodup){i j:Nat}{x:Str}(a:N[i]?=some x)(b:N[j]?=some x):i=j:=by
 obtain⟨h1,e1⟩:=List.getElem?_eq_some_iff.mp a
 obtain⟨h2,e2⟩:=List.getElem?_eq_some_iff.mp b
 exact(List.getElem_inj hN).mp (e1.trans e2.symm)
theorem G6{M:Model}{A:Around}{E:Value->Shared->Prop}{i:Nat}{x:Str}{v:V}{u:Value}{Q:Unit->Shared->Prop}(I:Inv X pins σ H s)(hN:X.N.Nodup)(hi:X.N[i]?=some x)(hx:Loc X.env.scope x)(r:RelV v u)
  (h:∀s',Inv X pins (σ.set i (some v)) H s'->(∃a,Heap.SameBut a s.heap s'.heap/\(a=X.env.locals\/X.env.cells.lookup x=some a))->Q () s')(hf:X.fn x=true\/X.env.scope.names.lookup x=some .local:=by first|exact .inl rfl|exact .inr rfl|assumption):wpAny M A (storeName X.env x u) Q E s:=by
 obtain⟨m,hn,hl⟩:=id I.loc
 have hcls:(X.env.scope.kind==.class||(X.env.scope.kind==.module&&X.env.locals !=X.env.globals))=false:=by rw[I.ok.kind];rfl
 have Zc:i<σ.length:=by rw[I.len];exact(List.getElem?_eq_some_iff.mp hi).1
 have Nk:=I.Nk
 have tracked:∀{a:Addr}{h':Heap},(∃o,s.heap.get? a=some o/\H a=none)->Heap.SameBut a s.heap h'->nX X.prog X.w H h':=fun{a h'} ha hs b ob e=>by
  obtain⟨_,_,hfree⟩:=ha
  refine(I.hok b ob e).pQ (fun c w' hc q=>(hs.2 c ?_).trans q) (fun _ q=>q) fun _ _ q=>q
  rintro rfl
  rcases hc with rfl|hc
  ·rw[hfree]at e;cases e
  ·rw[hfree]at hc;cases hc
 rcases hx with hk|hk
 ·refine wpAny_storeName_local hk hn (fun h' hn' hs=>?_) hcls
  obtain⟨oL,_,_,hoL,_⟩:=id hn
  refine h _ ⟨I.ok,I.os,I.bare,⟨fun b o e n hb hx=>?_,fun b o e n hb hx=>?_,I.base.free,fun b o e hx=>?_,I.base.tups,I.base.uv,I.base.we⟩,⟨_,hn',fun j y v' e1 e2 e3=>?_⟩,fun y c e=>?_,I.free,I.lN,fun p hp=>?_,tracked ⟨oL,hoL,I.free⟩ hs,by simpa using I.len⟩ ⟨_,hs,.inl rfl⟩
  ·exact(hs.2 b (ne_of_lt (lt_of_lt_of_le (Heap.lt_size e) I.ok.above))).trans (I.base.keep b o e n hb hx)
  ·obtain⟨sl,e1⟩:=I.base.slot b o e n hb hx
   exact⟨sl,(hs.2 b (ne_of_lt (lt_of_lt_of_le (Heap.lt_size e) I.ok.above))).trans e1⟩
  ·obtain⟨o',e1⟩:=I.base.there b o e hx
   exact⟨o',(hs.2 b (ne_of_lt (lt_of_lt_of_le (Heap.lt_size e) I.ok.above))).trans e1⟩
  ·by_cases hj:j=i
   ·subst hj
    rw[hi]at e1;cases e1
    rw[getElem?_set_self Zc]at e2
    cases e2
    exact⟨u,r,.inl ⟨hk,by simp⟩⟩
   ·rw[getElem?_set_ne (Ne.symm hj)]at e2
    obtain⟨u',r',q⟩:=hl j y v' e1 e2 e3
    refine⟨u',r',?_⟩
    rcases q with⟨k,e⟩|⟨k,c,e,z⟩
    ·refine .inl ⟨k,?_⟩
     have:y≠x:=fun e=>hj (xp hN e1 (e▸hi))
     simp[this,e]
    ·exact .inr ⟨k,c,e,z.sameBut hs (Nk y c e)⟩
  ·obtain⟨w',z⟩:=I.cell y c e
   exact⟨w',z.sameBut hs (Nk y c e)⟩
  ·obtain⟨e,n,ne,nf,d⟩:=I.pin p hp
   exact⟨(hs.2 p.1 ne).trans e,n,ne,nf,d⟩
 ·have hfn:X.fn x=true:=by
   rcases hf with z|z
   ·exact z
   ·rw[z]at hk;cases hk
  obtain⟨c,hc⟩:=I.ok.has x (.inl hk)
  obtain⟨w',z⟩:=I.cell x c hc
  refine wpAny_storeName_cell I.ok.kind hk hc z (fun h' Ja hs=>?_)
  obtain⟨oc,hoc,aab⟩:=id z
  refine h {s with heap:=h'} ⟨I.ok,I.os,I.bare,⟨fun b o e n hb hx=>?_,fun b o e n hb hx=>?_,I.base.free,fun b o e hx=>?_,I.base.tups,I.base.uv,I.base.we⟩,⟨m,hn.sameBut hs (Ne.symm (Nk x c hc)),fun j y v' e1 e2 e3=>?_⟩,fun y c' e=>?_,I.free,I.lN,fun p hp=>?_,tracked ⟨oc,hoc,I.lN x c hc⟩ hs,by simpa using I.len⟩ ⟨c,hs,.inr hc⟩
  ·exact(hs.2 b (ne_of_lt (lt_of_lt_of_le (Heap.lt_size e) (I.ok.PF x c hfn hc)))).trans (I.base.keep b o e n hb hx)
  ·obtain⟨sl,e1⟩:=I.base.slot b o e n hb hx
   exact⟨sl,(hs.2 b (ne_of_lt (lt_of_lt_of_le (Heap.lt_size e) (I.ok.PF x c hfn hc)))).trans e1⟩
  ·obtain⟨o',e1⟩:=I.base.there b o e hx
   exact⟨o',(hs.2 b (ne_of_lt (lt_of_lt_of_le (Heap.lt_size e) (I.ok.PF x c hfn hc)))).trans e1⟩
  ·by_cases hj:j=i
   ·subst hj
    rw[hi]at e1;cases e1
    rw[getElem?_set_self Zc]at e2
    cases e2
    exact⟨u,r,.inr ⟨.inl hk,c,hc,Ja⟩⟩
   ·rw[getElem?_set_ne (Ne.symm hj)]at e2
    obtain⟨u',r',q⟩:=hl j y v' e1 e2 e3
    refine⟨u',r',?_⟩
    rcases q with q|⟨k,c',e,z'⟩
    ·exact .inl q
    ·refine .inr ⟨k,c',e,z'.sameBut hs ?_⟩
     rintro rfl
     exact hj (xp hN e1 (I.ok.inj _ _ _ e hc▸hi))
  ·by_cases hcc:c'=c
   ·subst hcc;exact⟨_,Ja⟩
   ·obtain⟨w2,z2⟩:=I.cell y c' e
    exact⟨w2,z2.sameBut hs hcc⟩
  ·obtain⟨e,n,ne,nf,d⟩:=I.pin p hp
   refine⟨(hs.2 p.1 ?_).trans e,n,ne,nf,d⟩
   intro q
   rw[q,hoc]at e
   have q':oc=p.2:=Option.some.inj e
   exact d w' (by rw[<-q'];exact aab)
theorem m9{M:Model}{A:Around}{E:Value->Shared->Prop}{i:Nat}{x:Str}{v:V}{u:Value}{Q:Unit->Shared->Prop}(I:Inv X pins σ H s)(hN:X.N.Nodup)(hi:X.N[i]?=some x)(hx:Loc X.env.scope x)(r:RelV v u)
  (h:∀s',Inv X pins (σ.set i (some v)) H s'->Q () s')(hf:X.fn x=true\/X.env.scope.names.lookup x=some .local:=by first|exact .inl rfl|exact .inr rfl|assumption):wpAny M A (storeName X.env x u) Q E s:=
 G6 I hN hi hx r (fun s' I' _=>h s' I') hf
theorem Inv.xq {s':Shared}{ch:List Addr}(I:Inv X pins σ H s)(ho:s'.os=s.os)(u:Un (Ao X.stack) ch H H' s.heap s'.heap)(hok:nX X.prog X.w H' s'.heap)(hg:AllBare s'.gens)
  (hch:∀b∈ch,(b∈X.ex\/X.s₀.heap.objs.size<=b)/\b≠X.env.locals/\(∀x c,X.env.cells.lookup x=some c->c≠b)/\∀p∈X.pn++pins,p.1≠b):Inv X pins σ H' s':=by
 obtain⟨h',g',d',t',o'⟩:=s'
 have e:o'=s.os:=ho
 subst e
 exact I.call (g':=g') (t':=t') (d':=d') u hok hg hch
end
abbrev XK:=Value->Option Addr->Hp->Prop
abbrev St:=List (Option V)
abbrev VK:=V->Hp->Prop
abbrev TE:=St->Hp->VK->Prop
abbrev TT:=St->Hp->(Bool->Hp->Prop)->Prop
abbrev TA:=St->Hp->(List V->Hp->Prop)->Prop
structure Ends where
 nx:St->Hp->Prop
 rt:VK
 bk:St->Hp->Prop:=fun _ _=>False
 ct:St->Hp->Prop:=fun _ _=>False
abbrev TS:=Ends->St->Hp->Prop
def EP(X:Cx)(pins:List (Addr×Obj))(σ:St)(Q:VK)(u:Value)(s':Shared):Prop:=∃v H',Inv X pins σ H' s'/\RelV v u/\Q v H'
def TP(X:Cx)(pins:List (Addr×Obj))(σ:St)(Q:Bool->Hp->Prop)(b:Bool)(s':Shared):Prop:=∃H',Inv X pins σ H' s'/\Q b H'
def AP(X:Cx)(pins:List (Addr×Obj))(σ:St)(Q:List V->Hp->Prop)(us:List Value)(s':Shared):Prop:=∃vs H',Inv X pins σ H' s'/\Vals vs us/\Q vs H'
def SP(X:Cx)(pins:List (Addr×Obj))(D:Ends)(f:Flow)(s':Shared):Prop:=
 match f with
 |.next=>∃σ' H',Inv X pins σ' H' s'/\D.nx σ' H'
 |.brk=>∃σ' H',Inv X pins σ' H' s'/\D.bk σ' H'
 |.cont=>∃σ' H',Inv X pins σ' H' s'/\D.ct σ' H'
 |.ret u=>∃v σ' H',Inv X pins σ' H' s'/\RelV v u/\D.rt v H'
def PE(X:Cx)(e:Expr)(t:TE):Prop:=
 ∀(pins:List (Addr×Obj))(s:Shared)(σ:St)(H:Hp)(Q:VK),Inv X pins σ H s->t σ H Q->wpAny (model X.prog X.w) X.A (eval e X.env) (EP X pins σ Q) X.xe s
def PT(X:Cx)(e:Expr)(t:TT):Prop:=
 ∀(pins:List (Addr×Obj))(s:Shared)(σ:St)(H:Hp)(Q:Bool->Hp->Prop),Inv X pins σ H s->t σ H Q->wpAny (model X.prog X.w) X.A (isTrue e X.env (eval e X.env)) (TP X pins σ Q) X.xe s
def PW(X:Cx)(e:Expr)(t:TT):Prop:=
 ∀(whole:Sem Value)(pins:List (Addr×Obj))(s:Shared)(σ:St)(H:Hp)(Q:Bool->Hp->Prop),Inv X pins σ H s->t σ H Q->wpAny (model X.prog X.w) X.A (isTrue e X.env whole) (TP X pins σ Q) X.xe s
theorem PW.pt {X:Cx}{e:Expr}{t:TT}(h:PW X e t):PT X e t:=h _
def PA(X:Cx)(es:List Expr)(t:TA):Prop:=
 ∀(pos:Pos)(pins:List (Addr×Obj))(s:Shared)(σ:St)(H:Hp)(Q:List V->Hp->Prop),Inv X pins σ H s->t σ H Q->wpAny (model X.prog X.w) X.A (spliced (backTo pos (starEach es X.env))) (AP X pins σ Q) X.xe s
def PS(X:Cx)(st:Stmt)(t:TS):Prop:=
 ∀(pins:List (Addr×Obj))(s:Shared)(σ:St)(H:Hp)(D:Ends),Inv X pins σ H s->t D σ H->wpAny (model X.prog X.w) X.A (exec st X.env) (SP X pins D) X.xe s
def rB(X:Cx)(st:List Stmt)(t:TS):Prop:=
 ∀(pins:List (Addr×Obj))(s:Shared)(σ:St)(H:Hp)(D:Ends),Inv X pins σ H s->t D σ H->wpAny (model X.prog X.w) X.A (execs st X.env) (SP X pins D) X.xe s
theorem cC{α:Type}{t:Sem α}{Q Q':α->Shared->Prop}{M:Model}{A:Around}{E:Value->Shared->Prop}{s:Shared}(h:wpAny M A t Q E s)(hQ:∀a s,Q a s->Q' a s):wpAny M A t Q' E s:=wpAny_mono h hQ fun _ _ x=>x
end L2
namespace L2
open PySem PySem.Spec PyProof.Rows
section
variable{X:Cx}
def Nn(i:Nat):TE:=fun σ H Q=>∃v,σ[i]?=some (some v)/\Q v H
def tC(v:V):TE:=fun _ H Q=>Q v H
theorem gM{i:Nat}{x:Str}{pos:Pos}(hN:X.N[i]?=some x)(hv:yT X.env.scope x)(hd:(x==("__debug__":Str))=false:=by decide)(hcd:(x==("__classdict__":Str))=false:=by decide):PE X (.Name x pos) (Nn i):=by
 intro pins s σ H Q I h
 obtain⟨v,e,h⟩:=h
 obtain⟨m,hn,hl⟩:=I.loc
 obtain⟨u,r,l⟩:=hl i x v hN e hv
 have fin:EP X pins σ Q u s:=⟨v,H,I,r,h⟩
 rcases l with⟨hk,hm⟩|⟨hk,c,hc,hcell⟩
 ·exact wpAny_Name (wpAny_loadName_local I.ok.kind hk hn hm fin) hd
 ·rcases hk with hk|hk
  ·exact wpAny_Name (wpAny_loadName_cell I.ok.kind hk hc hcell fin) hd
  ·exact wpAny_Name (wpAny_loadName_free I.ok.kind hk hc hcell fin hcd) hd
theorem iB{i j pos}:PE X (.Constant (.int i) j pos) (tC (.int i)):=fun _ _ _ H _ I h=>wpAny_Constant_int ⟨.int i,H,I.tok _,⟨_,rfl⟩,h⟩
theorem VZ{b j pos}:PE X (.Constant (.bool b) j pos) (tC (.bl b)):=fun _ _ _ H _ I h=>Constant_bool ⟨.bl b,H,I,rfl,h⟩
theorem Jb{j pos}:PE X (.Constant .none j pos) (tC .non):=fun _ _ _ H _ I h=>Constant_none ⟨.non,H,I,rfl,h⟩
theorem RG{x j pos}:PE X (.Constant (.str x) j pos) (tC (.str x)):=fun _ _ _ H _ I h=>Calls.Constant_str ⟨.str x,H,I.tok _,⟨_,rfl⟩,h⟩
def Gl(X:Cx)(x:Str):Prop:=X.env.kindOf x=some .globalImplicit
theorem qN{E:Value->Shared->Prop}{pins:List (Addr×Obj)}{s:Shared}{σ:St}{H:Hp}{x:Str}{u:Value}{pos:Pos}{Q:Value->Shared->Prop}(I:Inv X pins σ H s)(hg:Gl X x)(hm:X.mg x=some u)(h:Q u s)
  (hd:(x==("__debug__":Str))=false:=by decide):wpAny (model X.prog X.w) X.A (eval (.Name x pos) X.env) Q E s:=
 Calls.Name_function_global I.ok.kind hg (Calls.loadGlobal_global (by rw[I.ok.glob];exact I.mod.glob.keeps I.bk) hm h) hd
theorem gm{E:Value->Shared->Prop}{pins:List (Addr×Obj)}{s:Shared}{σ:St}{H:Hp}{x:Str}{u:Value}{pos:Pos}{Q:Value->Shared->Prop}(I:Inv X pins σ H s)(hg:Gl X x)(hm:X.mg x=none)(hv:bootBuiltins x=some u)(h:Q u s)
  (hn:x≠"__name__":=by decide)(hd:(x==("__debug__":Str))=false:=by decide):wpAny (model X.prog X.w) X.A (eval (.Name x pos) X.env) Q E s:=by
 obtain⟨mb,h1,h2⟩:=I.mod.blt
 exact Calls.Name_function_global I.ok.kind hg (Calls.loadGlobal_builtin (by rw[I.ok.glob];exact I.mod.glob.keeps I.bk) hm (by rw[I.ok.blt];exact h1.keeps I.bk) ((h2 x hn).trans hv) h) hd
theorem wK{x:Str}{v:V}{u:Value}{pos:Pos}(hg:Gl X x)(hm:X.mg x=some u)(r:RelV v u)(hd:(x==("__debug__":Str))=false:=by decide):PE X (.Name x pos) (tC v):=
 fun _ _ _ H _ I h=>qN I hg hm ⟨v,H,I,r,h⟩ hd
theorem EY{x:Str}{v:V}{u:Value}{pos:Pos}(hg:Gl X x)(hm:X.mg x=none)(hv:bootBuiltins x=some u)(r:RelV v u)(hn:x≠"__name__":=by decide)(hd:(x==("__debug__":Str))=false:=by decide):PE X (.Name x pos) (tC v):=
 fun _ _ _ H _ I h=>gm I hg hm hv ⟨v,H,I,r,h⟩ hn hd
variable{a b:Expr}{ta tb:TE}{pos:Pos}
def PC(X:Cx)(op:CmpOp)(a b:Expr)(t:TE):Prop:=
 ∀(pins:List (Addr×Obj))(s:Shared)(σ:St)(H:Hp)(Q:VK),Inv X pins σ H s->t σ H Q->
  wpAny (model X.prog X.w) X.A (eval a X.env) (fun v s₁=>wpAny (model X.prog X.w) X.A (eval b X.env) (fun u s₂=>wpAny (model X.prog X.w) X.A (compareOp op v u) (EP X pins σ Q) X.xe s₂) X.xe s₁) X.xe s
theorem Jc(b:Expr){op:CmpOp}(h:op≠.In)(h2:op≠.NotIn):behindInMarks op b=false:=by
 have e1:(op==CmpOp.In)=false:=by cases op<;>first|rfl|exact absurd rfl h
 have e2:(op==CmpOp.NotIn)=false:=by cases op<;>first|rfl|exact absurd rfl h2
 cases b<;>simp[behindInMarks,e1,e2]
def tB(t:TE):TT:=fun σ H Q=>t σ H fun x H1=>∃c,x=.bl c/\Q c H1
theorem Dw{op:CmpOp}{t:TE}(h:PC X op a b t)(h1:behindInMarks op b=false:=by first|exact Jc _ (by decide) (by decide)|rfl):PT X (.Compare a [op] [b] pos) (tB t):=by
 intro pins s σ H Q I hw
 refine wpAny_isTrue_Compare1 (cC (h pins s σ H _ I hw) fun v s1 h1=>cC h1 fun u s2 h2=>cC h2 fun c s3 ⟨x,H1,I1,r1,q1⟩=>?_) h1
 obtain⟨d,rfl,q⟩:=q1
 cases r1
 exact wpAny_truthy_bool ⟨H1,I1,q⟩
theorem RH{e:Expr}{t:TE}(h:PE X e t)(he:∀whole,isTrue e X.env whole=(do let v<-whole;standAt e.pos;holding [v] (truthy v)):=by intro _;rfl):PT X e (tB t):=by
 intro pins s σ H Q I hw
 refine isTrue_plain (cC (h pins s σ H _ I hw) fun v s1 ⟨x,H1,I1,r1,q1⟩=>?_) (he _)
 obtain⟨d,rfl,q⟩:=q1
 cases r1
 exact wpAny_truthy_bool ⟨H1,I1,q⟩
variable{tA Zd:TT}{rest:List Expr}
def aac(t u:TT):TT:=fun σ H Q=>t σ H fun c H1=>if c=true then u σ H1 Q else Q false H1
def tOr(t u:TT):TT:=fun σ H Q=>t σ H fun c H1=>if c=true then Q true H1 else u σ H1 Q
def aad(t:TT):TT:=fun σ H Q=>t σ H fun c H1=>Q (!c) H1
theorem pw_and1(ha:PT X a tA):PW X (.BoolOp .And [a] pos) tA:=by
 intro wh pins s σ H Q I h
 refine isTrue_and (cC (ha pins s σ H Q I h) fun c s1 e=>?_)
 cases c with
 |true=>exact isTrue_and_nil e
 |false=>exact e
theorem pw_or1(ha:PT X a tA):PW X (.BoolOp .Or [a] pos) tA:=by
 intro wh pins s σ H Q I h
 refine isTrue_or (cC (ha pins s σ H Q I h) fun c s1 e=>?_)
 cases c with
 |false=>exact isTrue_or_nil e
 |true=>exact e
theorem pw_and(ha:PT X a tA)(hb:PW X (.BoolOp .And (b::rest) pos) Zd):PW X (.BoolOp .And (a::b::rest) pos) (aac tA Zd):=by
 intro wh pins s σ H Q I h
 refine isTrue_and (cC (ha pins s σ H _ I h) fun c s1 ⟨H1,I1,q1⟩=>?_)
 cases c with
 |true=>exact hb wh pins s1 σ H1 Q I1 q1
 |false=>exact⟨H1,I1,q1⟩
theorem pw_or(ha:PT X a tA)(hb:PW X (.BoolOp .Or (b::rest) pos) Zd):PW X (.BoolOp .Or (a::b::rest) pos) (tOr tA Zd):=by
 intro wh pins s σ H Q I h
 refine isTrue_or (cC (ha pins s σ H _ I h) fun c s1 ⟨H1,I1,q1⟩=>?_)
 cases c with
 |true=>exact⟨H1,I1,q1⟩
 |false=>exact hb wh pins s1 σ H1 Q I1 q1
theorem RJ(ha:PT X a tA):PT X (.UnaryOp .Not a pos) (aad tA):=by
 intro pins s σ H Q I h
 exact isTrue_not (ha pins s σ H (fun c H1=>Q (!c) H1) I h)
def V0(ta tb:TE):TE:=fun σ H Q=>ta σ H fun x H1=>∃c,x=.bl c/\if c=true then tb σ H1 Q else Q (.bl false) H1
def V1(ta:TE):TE:=fun σ H Q=>ta σ H fun x H1=>∃c,x=.bl c/\Q (.bl (!c)) H1
theorem RK{op}{t:TE}(h:PE X a t):PE X (.BoolOp op [a] pos) t:=fun pins s σ H Q I hw=>BoolOp_one (h pins s σ H Q I hw)
theorem RL(ha:PE X a ta)(hb:PE X (.BoolOp .And (b::rest) pos) tb):PE X (.BoolOp .And (a::b::rest) pos) (V0 ta tb):=by
 intro pins s σ H Q I h
 refine BoolOp_and (cC (ha pins s σ H _ I h) fun v s1 ⟨x,H1,I1,r1,q1⟩=>?_)
 obtain⟨c,rfl,q1⟩:=q1
 cases r1
 refine wpAny_truthy_bool ?_
 cases c with
 |true=>exact hb pins s1 σ H1 Q I1 q1
 |false=>exact⟨.bl false,H1,I1,rfl,q1⟩
theorem RM(ha:PE X a ta):PE X (.UnaryOp .Not a pos) (V1 ta):=by
 intro pins s σ H Q I h
 refine UnaryOp_ (cC (ha pins s σ H _ I h) fun v s1 ⟨x,H1,I1,r1,q1⟩=>?_)
 obtain⟨c,rfl,q1⟩:=q1
 cases r1
 exact not_of (wpAny_truthy_bool ⟨.bl (!c),H1,I1,rfl,q1⟩)
def tIf(t:TT)(ta tb:TE):TE:=fun σ H Q=>t σ H fun c H1=>if c=true then ta σ H1 Q else tb σ H1 Q
theorem Jd{c:Expr}(hc:PT X c tA)(ha:PE X a ta)(hb:PE X b tb):PE X (.IfExp c a b pos) (tIf tA ta tb):=by
 intro pins s σ H Q I h
 refine wpAny_IfExp (cC (hc pins s σ H _ I h) fun d s1 ⟨H1,I1,q1⟩=>?_)
 cases d with
 |true=>exact ha pins s1 σ H1 Q I1 q1
 |false=>exact hb pins s1 σ H1 Q I1 q1
end
end L2
namespace L2
open PySem PySem.Spec PyProof.Rows
def cV(K:'b')(H:Hp)(a:Addr)(xs:List V):Prop:=
 Rd H a (.lst xs)\/
  ∃(o:Obj)(its:Array Value)(n:Nat),K.lookup a=some o/\o.cls=.type "list"/\o.dict=none/\o.data=.seq its n/\its.size<=sizeLine/\Vals xs its.toList
def Bp(K:'b')(H:Hp)(a:Addr)(xs:List V):Prop:=
 Rd H a (.tup xs)\/
  ∃(o:Obj)(its:Array Value)(n:Nat),K.lookup a=some o/\o.cls=.type "tuple"/\o.data=.seq its n/\its.size<=sizeLine/\Vals xs its.toList
def aae:Value->Option V
 |.none=>some .non
 |.bool b=>some (.bl b)
 |.int i _=>some (.int i)
 |.str x _=>some (.str x)
 |.bytes b _=>some (.IK b)
 |.float b _=>some (.Rx b)
 |.ref a=>some (.ref a)
 |.type n=>some (.ty n)
 |_=>none
theorem RelV.abs {x:V}{u:Value}(r:RelV x u):aae u=some x:=by
 cases x with
 |non=>cases r;rfl
 |bl _=>cases r;rfl
 |int _=>obtain⟨t,rfl⟩:=r;rfl
 |str _=>obtain⟨t,rfl⟩:=r;rfl
 |IK _=>obtain⟨t,rfl⟩:=r;rfl
 |Rx _=>obtain⟨t,rfl⟩:=r;rfl
 |ref _=>cases r;rfl
 |ty _=>cases r;rfl
theorem RelV.inj {x y:V}{u:Value}(r:RelV x u)(q:RelV y u):x=y:=Option.some.inj (r.abs.symm.trans q.abs)
theorem Vals.inj:∀{xs ys:List V}{us:List Value},Vals xs us->Vals ys us->xs=ys
 |_,_,_,.nil,.nil=>rfl
 |_,_,_,.cons r t,.cons r' t'=>by rw[r.inj r',Vals.inj t t']
section
variable{X:Cx}{pins:List (Addr×Obj)}{σ:St}{H:Hp}{s:Shared}{a:Addr}{xs ys:List V}
theorem cV.of {K:'b'}(h:H a=some (.lst xs)):cV K H a xs:=.inl (.inl h)
theorem Bp.of {K:'b'}(h:H a=some (.tup xs)):Bp K H a xs:=.inl (.inl h)
theorem Inv.list (I:Inv X pins σ H s)(h:cV X.K H a xs):∃its:List Value,Vals xs its/\PlainL s.heap a its.toArray/\xs.length<=sizeLine:=by
 rcases h with h|⟨o,its,n,hk,hc,hd,hs,hz,r⟩
 ·obtain⟨z,its,n,r,e⟩:=h.ok I.hok
  exact⟨its,r,⟨_,n,e,rfl,rfl,rfl⟩,z⟩
 ·refine⟨its.toList,r,⟨o,n,I.qM a o hk,hc,hd,by simpa using hs⟩,?_⟩
  have e:=r.length
  simp only [Array.length_toList]at e
  omega
theorem Inv.tuple (I:Inv X pins σ H s)(h:Bp X.K H a xs):∃its:List Value,Vals xs its/\IsTup s.heap a its.toArray/\xs.length<=sizeLine:=by
 rcases h with h|⟨o,its,n,hk,hc,hs,hz,r⟩
 ·obtain⟨z,its,r,p⟩:=h.ok I.hok
  exact⟨its,r,p,z⟩
 ·refine⟨its.toList,r,⟨o,I.qM a o hk,hc,n,by simpa using hs⟩,?_⟩
  have e:=r.length
  simp only [Array.length_toList]at e
  omega
theorem Inv.sL (I:Inv X pins σ H s)(h:cV X.K H a xs)(h':cV X.K H a ys):xs=ys:=by
 obtain⟨its,r,⟨o,n,e,_,_,d⟩,_⟩:=I.list h
 obtain⟨its',r',⟨o',n',e',_,_,d'⟩,_⟩:=I.list h'
 rw[e]at e';cases e'
 rw[d]at d'
 injection d' with d1 _
 have:its=its':=by simpa using congrArg toList d1
 subst this
 exact r.inj r'
theorem Inv.G7 (I:Inv X pins σ H s)(h:Bp X.K H a xs)(h':Bp X.K H a ys):xs=ys:=by
 obtain⟨its,r,⟨o,e,_,n,d⟩,_⟩:=I.tuple h
 obtain⟨its',r',⟨o',e',_,n',d'⟩,_⟩:=I.tuple h'
 rw[e]at e';cases e'
 rw[d]at d'
 injection d' with d1 _
 have:its=its':=by simpa using congrArg toList d1
 subst this
 exact r.inj r'
end
abbrev Cx.xr (X:Cx)(E:Value->Shared->Prop):Cx:={X with xe:=E}
abbrev Cx.G8 (X:Cx):Cx:=X.xr fun _ _=>False
theorem Cx.Ok.xr {X:Cx}(ok:X.Ok)(E:Value->Shared->Prop):(X.xr E).Ok:=
 ⟨ok.mod,ok.kind,ok.glob,ok.blt,ok.above,ok.inj,ok.has,ok.PF,ok.hd,ok.frames,ok.RB,ok.RD,ok.bs,ok.IL,ok.BE,ok.Aq,ok.rZ,ok.MV⟩
theorem Cx.Ok.nY {X:Cx}{E:Value->Shared->Prop}(ok:(X.xr E).Ok):X.Ok:=
 ⟨ok.mod,ok.kind,ok.glob,ok.blt,ok.above,ok.inj,ok.has,ok.PF,ok.hd,ok.frames,ok.RB,ok.RD,ok.bs,ok.IL,ok.BE,ok.Aq,ok.rZ,ok.MV⟩
section
variable{X:Cx}{pins:List (Addr×Obj)}{σ:St}{H:Hp}{s:Shared}{E:Value->Shared->Prop}
theorem Inv.xr (I:Inv X pins σ H s)(E:Value->Shared->Prop):Inv (X.xr E) pins σ H s:=⟨I.ok.xr E,I.os,I.bare,I.base,I.loc,I.cell,I.free,I.lN,I.pin,I.hok,I.len⟩
theorem Inv.nY (I:Inv (X.xr E) pins σ H s):Inv X pins σ H s:=⟨I.ok.nY,I.os,I.bare,I.base,I.loc,I.cell,I.free,I.lN,I.pin,I.hok,I.len⟩
theorem SP.nY {D:Ends}{f:Flow}{s':Shared}(h:SP (X.xr E) pins D f s'):SP X pins D f s':=by
 cases f with
 |next=>obtain⟨σ',H',I,q⟩:=h;exact⟨σ',H',I.nY,q⟩
 |brk=>obtain⟨σ',H',I,q⟩:=h;exact⟨σ',H',I.nY,q⟩
 |cont=>obtain⟨σ',H',I,q⟩:=h;exact⟨σ',H',I.nY,q⟩
 |ret u=>obtain⟨v,σ',H',I,r,q⟩:=h;exact⟨v,σ',H',I.nY,r,q⟩
theorem rB.G8 {st:List Stmt}{t:TS}(h:rB X.G8 st t):rB X st t:=fun pins s σ H D I hw=>
 wpAny_mono (h pins s σ H D (I.xr _) hw) (fun _ _ q=>q.nY) fun _ _ z=>False.elim z
end
section
variable{X:Cx}{st:Stmt}{rest:List Stmt}{t u:TS}{e:Expr}{te:TE}{pos:Pos}
def V2:TS:=fun D σ H=>D.nx σ H
def aaf(t u:TS):TS:=fun D σ H=>t {D with nx:=u D} σ H
theorem lP:rB X [] V2:=fun _ _ σ H _ I h=>wpAny_execs_nil ⟨σ,H,I,h⟩
theorem aK(h1:PS X st t)(h2:rB X rest u):rB X (st::rest) (aaf t u):=by
 intro pins s σ H D I h
 refine wpAny_execs_cons (cC (h1 pins s σ H {D with nx:=u D} I h) fun f s1 q=>?_)
 cases f with
 |next=>
  obtain⟨σ',H',I',q⟩:=q
  exact h2 pins s1 σ' H' D I' q
 |ret v=>exact q
 |brk=>exact q
 |cont=>exact q
theorem b9(h1:PS X st t):rB X [st] t:=by
 intro pins s σ H D I h
 refine wpAny_execs_cons (cC (h1 pins s σ H D I h) fun f s1 q=>?_)
 cases f with
 |next=>exact wpAny_execs_nil q
 |ret v=>exact q
 |brk=>exact q
 |cont=>exact q
def RN:TS:=fun D σ H=>D.bk σ H
theorem Je:PS X (.Break pos) RN:=fun _ _ σ H _ I h=>wpAny_Break ⟨σ,H,I,h⟩
theorem Inv.quiet {pins:List (Addr×Obj)}{σ:St}{H:Hp}{s:Shared}(I:Inv X pins σ H s):interactive X.env=false:=by simp[interactive,I.ok.kind]
def V3(te:TE):TS:=fun D σ H=>te σ H fun _ H1=>D.nx σ H1
theorem fX(he:PE X e te)(hs:swapsWith e none pos.line X.env=pure false:=by rfl):PS X (.Expr e pos) (V3 te):=by
 intro pins s σ H D I h
 exact wpAny_Expr_any (cC (he pins s σ H _ I h) fun v s1 ⟨x,H1,I1,r1,q1⟩=>⟨σ,H1,I1,q1⟩) I.quiet hs
def aag(te:TE):TS:=fun D σ H=>te σ H D.rt
theorem mz(he:PE X e te):PS X (.Return (some e) pos) (aag te):=by
 intro pins s σ H D I h
 exact wpAny_Return_some (cC (he pins s σ H _ I h) fun v s1 ⟨x,H1,I1,r1,q1⟩=>⟨x,σ,H1,I1,r1,q1⟩)
def aah(c:TT)(t u:TS):TS:=fun D σ H=>c σ H fun b H1=>if b=true then t D σ H1 else u D σ H1
theorem vI{c:Expr}{a b:List Stmt}{tc:TT}(hc:PT X c tc)(ha:rB X a t)(hb:rB X b u):PS X (.If c a b pos) (aah tc t u):=by
 intro pins s σ H D I h
 refine wpAny_If (cC (hc pins s σ H _ I h) fun d s1 ⟨H1,I1,q1⟩=>?_)
 cases d with
 |true=>exact ha pins s1 σ H1 D I1 q1
 |false=>exact hb pins s1 σ H1 D I1 q1
end
abbrev TG:=V->St->Hp->(St->Hp->Prop)->Prop
abbrev Np:=List V->St->Hp->(St->Hp->Prop)->Prop
def PG(X:Cx)(target:Expr)(t:TG):Prop:=
 ∀(pins:List (Addr×Obj))(s:Shared)(σ:St)(H:Hp)(v:V)(u:Value)(Q:St->Hp->Prop),Inv X pins σ H s->RelV v u->t v σ H Q->
  wpAny (model X.prog X.w) X.A (assign target X.env u) (fun _ s'=>∃σ' H',Inv X pins σ' H' s'/\Q σ' H') X.xe s
def EZ(X:Cx)(ts:List Expr)(t:Np):Prop:=
 ∀(pins:List (Addr×Obj))(s:Shared)(σ:St)(H:Hp)(vs:List V)(us:List Value)(Q:St->Hp->Prop),Inv X pins σ H s->Vals vs us->t vs σ H Q->
  wpAny (model X.prog X.w) X.A (assignInOrder ((assignEach ts X.env).map (·.2)) us) (fun _ s'=>∃σ' H',Inv X pins σ' H' s'/\Q σ' H') X.xe s
abbrev RO:=V->V->V->Hp->(Hp->Prop)->Prop
def V4(X:Cx)(t:RO):Prop:=
 ∀(pins:List (Addr×Obj))(s:Shared)(σ:St)(H:Hp)(o i v:V)(ov iv u:Value)(Q:Hp->Prop),Inv X pins σ H s->RelV o ov->RelV i iv->RelV v u->t o i v H Q->
  wpAny (model X.prog X.w) X.A (setItem ov iv u) (fun _ s'=>∃H',Inv X pins σ H' s'/\Q H') X.xe s
abbrev Ze:=V->V->Hp->VK->Prop
def Vv(X:Cx)(op:Operator)(t:Ze):Prop:=
 ∀(pins:List (Addr×Obj))(s:Shared)(σ:St)(H:Hp)(x y:V)(v u:Value)(Q:VK),Inv X pins σ H s->RelV x v->RelV y u->t x y H Q->
  wpAny (model X.prog X.w) X.A (inplaceOp op v u) (EP X pins σ Q) X.xe s
section
variable{X:Cx}{pos:Pos}
def Jf(i:Nat):TG:=fun v σ H Q=>Q (σ.set i (some v)) H
theorem wL{i:Nat}{x:Str}(hN:X.N.Nodup)(hi:X.N[i]?=some x)(hx:Loc X.env.scope x)(hf:X.fn x=true\/X.env.scope.names.lookup x=some .local:=by first|exact .inl rfl|exact .inr rfl|assumption):PG X (.Name x pos) (Jf i):=by
 intro pins s σ H v u Q I r h
 exact wpAny_assign_Name (m9 I hN hi hx r (fun s' I'=>⟨_,H,I',h⟩) hf)
def aai:Np:=fun vs σ H Q=>vs=[]/\Q σ H
def V5(t:TG)(u:Np):Np:=fun vs σ H Q=>∃v r,vs=v::r/\t v σ H fun σ' H'=>u r σ' H' Q
theorem E3:EZ X [] aai:=by
 intro pins s σ H vs us Q I r h
 obtain⟨e,h⟩:=h
 subst e
 cases r
 exact assignInOrder_nil ⟨σ,H,I,h⟩
theorem xt{e:Expr}{es:List Expr}{t:TG}{u:Np}(h1:PG X e t)(h2:EZ X es u)
  (hs:(assignEach (e::es) X.env).map (·.2)=assign e X.env::(assignEach es X.env).map (·.2):=by rfl):EZ X (e::es) (V5 t u):=by
 intro pins s σ H vs us Q I r h
 obtain⟨v,vr,e1,h⟩:=h
 subst e1
 cases r with
 |cons r rr=>
  rw[hs]
  refine assignInOrder_cons (cC (h1 pins s σ H _ _ _ I r h) fun _ s1 ⟨σ1,H1,I1,q1⟩=>?_)
  exact h2 pins s1 σ1 H1 _ _ Q I1 rr q1
def aaj(K:'b')(n:Nat)(t:Np):TG:=fun v σ H Q=>∃a xs,v=.ref a/\Bp K H a xs/\xs.length=n/\t xs σ H Q
theorem Jg{es:List Expr}{k:Nat}{t:Np}{n:Nat}(hc:X.calm=true)(h:EZ X es t)
  (hn:(assignEach es X.env).length=n:=by rfl)(hst:(assignEach es X.env).findIdx? (·.1)=none:=by rfl):PG X (.Tuple es k pos) (aaj X.K n t):=by
 intro pins s σ H v u Q I r hw
 obtain⟨a,xs,e1,hq,hl,hw⟩:=hw
 subst e1
 cases r
 obtain⟨its,rv,ht,hz⟩:=I.tuple hq
 refine assign_Tuple_tuple (I.ok.hd hc) ht (by simp[hn,<-hl,rv.length]) hst fun h' hx=>?_
 have I1:Inv X pins σ H {s with heap:=h'}:=I.kept (t':=s.toks) fun b o e=>hx b o (ne_of_lt (Heap.lt_size e)) e
 exact h pins _ σ H xs _ Q I1 (by simpa using rv) hw
def aak(to ti:TE)(t:RO):TG:=fun v σ H Q=>to σ H fun o H1=>ti σ H1 fun i H2=>t o i v H2 fun H3=>Q σ H3
theorem xu{o i:Expr}{to ti:TE}{t:RO}(ho:PE X o to)(hi:PE X i ti)(hs:V4 X t)
  (ha:∀v,assign (.Subscript o i pos) X.env v=(do
   let ov<-holding [v] (eval o X.env)
   let iv<-holding [v,ov] (eval i X.env)
   standAt pos
   holding [v,ov,iv] (setItem ov iv v)
   release [v,ov,iv] []):=by intro _;rfl):PG X (.Subscript o i pos) (aak to ti t):=by
 intro pins s σ H v u Q I r h
 rw[ha]
 refine wpAny_bind (wpAny_holding (cC (ho pins s σ H _ I h) fun ov s1 ⟨x,H1,I1,r1,q1⟩=>?_))
 refine wpAny_bind (wpAny_holding (cC (hi pins s1 σ H1 _ I1 q1) fun iv s2 ⟨y,H2,I2,r2,q2⟩=>?_))
 refine wpAny_bind (wpAny_standAt (wpAny_bind (wpAny_holding (cC (hs pins s2 σ H2 x y v ov iv u _ I2 r1 r2 r q2) fun _ s3 ⟨H3,I3,q3⟩=>?_))))
 exact wpAny_release ⟨σ,H3,I3,q3⟩
def V6(te:TE)(g:TG):TS:=fun D σ H=>te σ H fun x H1=>g x σ H1 D.nx
theorem Ar{tg e:Expr}{te:TE}{g:TG}(he:PE X e te)(hg:PG X tg g)(hs:swapsWithSole [tg] e pos.line X.env=pure false:=by rfl)(hw:swappedStores [tg] e X.env=pure none:=by rfl)
  (h1:(assignEach [tg] X.env).map (·.2)=[assign tg X.env]:=by rfl):PS X (.Assign [tg] e pos) (V6 te g):=by
 intro pins s σ H D I h
 refine wpAny_Assign_stores (cC (he pins s σ H _ I h) fun v s1 ⟨x,H1,I1,r1,q1⟩=>?_) hs hw
 rw[h1]
 exact cC (hg pins s1 σ H1 x v _ I1 r1 q1) fun _ s2 q=>q
theorem dC{i:Nat}{x:Str}{e:Expr}{te:TE}{pos':Pos}(hN:X.N.Nodup)(hi:X.N[i]?=some x)(hx:Loc X.env.scope x)(he:PE X e te)(hs:swapsWith e (some (.Name x pos')) pos.line X.env=pure false:=by rfl)(hf:X.fn x=true\/X.env.scope.names.lookup x=some .local:=by first|exact .inl rfl|exact .inr rfl|assumption):
  PS X (.Assign [.Name x pos'] e pos) (V6 te (Jf i)):=by
 intro pins s σ H D I h
 refine wpAny_Assign_Name (cC (he pins s σ H _ I h) fun v s1 ⟨y,H1,I1,r1,q1⟩=>?_) hs
 exact m9 I1 hN hi hx r1 (fun s2 I2=>⟨_,H1,I2,q1⟩) hf
def aal(i j:Nat)(ta:TA):TS:=fun D σ H=>ta σ H fun vs H1=>∃v w,vs=[v,w]/\D.nx ((σ.set i (some v)).set j (some w)) H1
theorem RQ{i j:Nat}{x y:Str}{a b:Expr}{ta:TA}{px py pt:Pos}{kt k2 RT}(hc:X.calm=true)(hN:X.N.Nodup)(hi:X.N[i]?=some x)(hj:X.N[j]?=some y)(hij:i≠j)
  (hx:X.env.scope.names.lookup x=some .local)(hy:X.env.scope.names.lookup y=some .local)(ha:PA X [a,b] ta)
  (hw:swappedStores [.Tuple [.Name x px,.Name y py] kt pt] (.Tuple [a,b] k2 RT) X.env=pure (some [x,y]))
  (hs:swapsWithSole [.Tuple [.Name x px,.Name y py] kt pt] (.Tuple [a,b] k2 RT) pos.line X.env=pure false:=by rfl):
  PS X (.Assign [.Tuple [.Name x px,.Name y py] kt pt] (.Tuple [a,b] k2 RT) pos) (aal i j ta):=by
 intro pins s σ H D I h
 rw[exec_Assign_arm]
 refine wpAny_bind (wpAny_standAt ?_)
 rw[hs]
 refine wpAny_bind (wpAny_pure ?_)
 rw[if_neg (by decide)]
 refine wpAny_bind (Tuple_ (cC (ha _ pins s σ H _ I h) fun us s1 ⟨vs,H1,I1,r1,q1⟩=>?_))
 obtain⟨v,w,e1,q1⟩:=q1
 subst e1
 obtain⟨u1,u2,rfl,rv,lG⟩:∃u1 u2,us=[u1,u2]/\RelV v u1/\RelV w u2:=by
  cases r1 with
  |cons p q=>
   cases q with
   |cons p' q'=>
    cases q'
    exact⟨_,_,rfl,p,p'⟩
 refine wpAny_newObj_type ?_ (by show 2<=sizeLine;decide)
 have I2:Inv X pins σ H1 {s1 with heap:=s1.heap.push {cls:=.type "tuple",data:=.seq [u1,u2].toArray}}:=I1.kept (t':=s1.toks) fun b o e=>Heap.get?_push_of_some _ e
 rw[hw]
 refine wpAny_bind (wpAny_pure ?_)
 show wpAny (model X.prog X.w) X.A (do rule "assign.swapped-stores";let items<-unpackItems (.ref s1.heap.objs.size) 2 none;assignInOrder [fun v=>bindName X.env y v,fun v=>bindName X.env x v] items.reverse;pure Flow.next) _ _ _
 refine wpAny_bind (wpAny_rule (wpAny_bind (unpackItems_tuple (items:=#[u1,u2]) (I.ok.hd hc) (IsTup.new s1.heap _) fun h' Dy=>?_)))
 have I3:=I2.kept (h':=h') (t':=s1.toks) fun b o e=>Dy b o (ne_of_lt (Heap.lt_size e)) e
 show wpAny _ _ (assignInOrder [fun v=>bindName X.env y v,fun v=>bindName X.env x v] [u2,u1]>>=fun _=>pure Flow.next) _ _ _
 refine wpAny_bind (assignInOrder_cons (wpAny_bindName (m9 I3 hN hj (.inl hy) lG (fun s2 I4=>?_) (.inr hy))))
 refine assignInOrder_cons (wpAny_bindName (m9 I4 hN hi (.inl hx) rv (fun s3 I5=>assignInOrder_nil (wpAny_pure ?_)) (.inr hx)))
 rw[List.set_comm _ _ (Ne.symm hij)]at I5
 exact⟨_,H1,I5,q1⟩
def aam(i:Nat)(te:TE)(ti:Ze):TS:=fun D σ H=>∃x,σ[i]?=some (some x)/\te σ H fun y H1=>ti x y H1 fun z H2=>D.nx (σ.set i (some z)) H2
theorem Dz{i:Nat}{x:Str}{e:Expr}{te:TE}{op:Operator}{ti:Ze}{pos':Pos}(hN:X.N.Nodup)(hi:X.N[i]?=some x)(hx:Loc X.env.scope x)(he:PE X e te)(ho:Vv X op ti)(hf:X.fn x=true\/X.env.scope.names.lookup x=some .local:=by first|exact .inl rfl|exact .inr rfl|assumption):
  PS X (.AugAssign (.Name x pos') op e pos) (aam i te ti):=by
 intro pins s σ H D I h
 obtain⟨v,e1,h⟩:=h
 obtain⟨m,hn,hl⟩:=I.loc
 have vis:yT X.env.scope x:=by rcases hx with k|k;exact .inl k;exact .inr (.inl k)
 obtain⟨u,r,l⟩:=hl i x v hi e1 vis
 refine wpAny_AugAssign_Name ?_
 have go:wpAny (model X.prog X.w) X.A (eval e X.env) (fun w s₂=>wpAny (model X.prog X.w) X.A (inplaceOp op u w) (fun r s₃=>wpAny (model X.prog X.w) X.A (storeName X.env x r) (fun _=>SP X pins D .next) X.xe s₃) X.xe s₂) X.xe s:=by
  refine cC (he pins s σ H _ I h) fun w s1 ⟨y,H1,I1,r1,q1⟩=>?_
  refine cC (ho pins s1 σ H1 v y u w _ I1 r r1 q1) fun z s2 ⟨zv,H2,I2,r2,q2⟩=>?_
  exact m9 I2 hN hi hx r2 (fun s3 I3=>⟨_,H2,I3,q2⟩) hf
 rcases l with⟨hk,hm⟩|⟨hk,c,hc,hcell⟩
 ·exact wpAny_loadName_local I.ok.kind hk hn hm go
 ·rcases hk with hk|hk
  ·exact wpAny_loadName_cell I.ok.kind hk hc hcell go
  ·rcases hx with k|k
   ·have:X.env.scope.names.lookup x=some .free:=hk
    rw[k]at this;cases this
   ·have:X.env.scope.names.lookup x=some .free:=hk
    rw[k]at this;cases this
def V7(f:Int->Int->Int):Ze:=fun x y H Q=>∃i j,x=.int i/\y=.int j/\Q (.int (f i j)) H
theorem Jh:Vv X .Add (V7 fun i j=>i+j):=by
 intro pins s σ H x y v u Q I r1 r2 h
 obtain⟨i,j,e1,e2,q⟩:=h
 subst e1;subst e2
 obtain⟨t,rfl⟩:=r1
 obtain⟨t',rfl⟩:=r2
 exact iadd_int ⟨.int _,H,I.tok _,⟨_,rfl⟩,q⟩
theorem RU:Vv X .Sub (V7 fun i j=>i-j):=by
 intro pins s σ H x y v u Q I r1 r2 h
 obtain⟨i,j,e1,e2,q⟩:=h
 subst e1;subst e2
 obtain⟨t,rfl⟩:=r1
 obtain⟨t',rfl⟩:=r2
 exact isub_int ⟨.int _,H,I.tok _,⟨_,rfl⟩,q⟩
end
section
variable{X:Cx}{pos:Pos}
def RV(c:TT)(tb:TS):TS:=fun D σ H=>∃W:Nat->St->Hp->Prop,(∃m,W m σ H)/\∀m σ H,W m σ H->
 c σ H fun b H1=>if b=true then∃N:St->Hp->Prop,(∀σ' H',N σ' H'->∃m',m'<m/\W m' σ' H')/\tb {D with nx:=N,ct:=N,bk:=D.nx} σ H1 else D.nx σ H1
theorem xw{c:Expr}{body:List Stmt}{tc:TT}{tb:TS}(hp:PassesOwn (model X.prog X.w) X.A X.env X.xe)(hc:PT X c tc)(hb:rB X body tb):PS X (.While c body [] pos) (RV tc tb):=by
 intro pins s σ H D I h
 obtain⟨W,⟨m0,w0⟩,turn⟩:=h
 refine wpAny_While (codeAny_whileLoop (fun n s'=>∃σ' H',Inv X pins σ' H' s'/\W n σ' H') ?_ m0 ⟨σ,H,I,w0⟩)
 rintro n s1 ⟨σ1,H1,I1,w1⟩
 refine wpAny_passesOwn hp (cC (hc pins s1 σ1 H1 _ I1 (turn n σ1 H1 w1)) fun b s2 ⟨H2,I2,q2⟩=>?_)
 cases b with
 |true=>
  obtain⟨N,hN,q2⟩:=q2
  rw[if_pos rfl]
  refine wpAny_passesOwn hp (cC (hb pins s2 σ1 H2 _ I2 q2) fun f s3 q3=>?_)
  cases f with
  |next=>
   obtain⟨σ3,H3,I3,n3⟩:=q3
   obtain⟨m',hm,w3⟩:=hN σ3 H3 n3
   exact⟨m',hm,σ3,H3,I3,w3⟩
  |cont=>
   obtain⟨σ3,H3,I3,n3⟩:=q3
   obtain⟨m',hm,w3⟩:=hN σ3 H3 n3
   exact⟨m',hm,σ3,H3,I3,w3⟩
  |brk=>exact q3
  |ret v=>exact q3
 |false=>
  rw[if_neg Bool.false_ne_true]
  exact wpAny_execs_nil ⟨σ1,H2,I2,q2⟩
end
structure It where
 go:Nat->Hp->Prop
 V8:Nat->Hp->V->Hp->Prop
 stop:Nat->Hp->Prop
def nZ(X:Cx)(pins:List (Addr×Obj))(H:Hp)(b:Addr):Prop:=
 H b=none/\b≠X.env.locals/\b∉X.fs/\(b∈X.ex\/X.s₀.heap.objs.size<=b)/\(∀x c,X.env.cells.lookup x=some c->c≠b)/\∀p∈X.pn++pins,p.1≠b
theorem Inv.G9 {X:Cx}{pins:List (Addr×Obj)}{σ:St}{H H':Hp}{s:Shared}{b:Addr}(I:Inv X pins σ H s)(hb:s.heap.objs.size<=b)(hn:H' b=none):nZ X pins H' b:=by
 refine⟨hn,ne_of_gt (lt_of_lt_of_le I.lt hb),I.Z7 hb,.inr (le_trans I.sz hb),fun x c e z=>?_,fun p hp z=>?_⟩
 ·obtain⟨v,q⟩:=I.cell x c e
  exact absurd (lt_of_lt_of_le q.lt (by rw[z];exact hb)) (Nat.lt_irrefl _)
 ·exact absurd (lt_of_lt_of_le (Heap.lt_size (I.pin p hp).1) (by rw[z];exact hb)) (Nat.lt_irrefl _)
structure Turn(P:Program)(w:World)(K:'b')(tg:Expr)(J:It)(fp:List Addr)(it:Addr)(tn:Nat->Heap->Prop):Prop where
 mem:it∈fp
 obj:∀i h,tn i h->∀b∈fp,∃o,h.get? b=some o/\∀v,o.data≠.cell v
 keep:∀i h h',tn i h->(∀b∈fp,∀o,h.get? b=some o->h'.get? b=some o)->tn i h'
 item:∀(X:Cx),X.prog=P->X.w=w->X.K=K->X.calm=true->∀(i:Nat)(pins:List (Addr×Obj))(s:Shared)(σ:St)(H:Hp)(E:Value->Shared->Prop),Inv X pins σ H s->(∀b∈fp,nZ X pins H b)->tn i s.heap->J.go i H->
  wpAny (model P w) X.A (pyNext (.ref it)) (fun r s1=>∃u,r=some u/\
   wpAny (model P w) X.A (letOwnedTupleGo tg (.ref it) u) (fun _ s2=>∃x H',Inv X pins σ H' s2/\RelV x u/\J.V8 i H x H'/\tn (i+1) s2.heap/\∀b∈fp,H' b=none) E s1) E s
 done:∀(X:Cx),X.prog=P->X.w=w->X.K=K->X.calm=true->∀(i:Nat)(pins:List (Addr×Obj))(s:Shared)(σ:St)(H:Hp)(E:Value->Shared->Prop),Inv X pins σ H s->(∀b∈fp,nZ X pins H b)->tn i s.heap->J.stop i H->
  wpAny (model P w) X.A (pyNext (.ref it)) (fun r s1=>r=none/\Inv X pins σ H s1) E s
 self:∀(A:Around)(i:Nat)(s:Shared)(Q:Value->Shared->Prop)(E:Value->Shared->Prop),tn i s.heap->Q (.ref it) s->wpAny (model P w) A (pyIter (.ref it)) Q E s
abbrev TI:=St->Hp->(It->Hp->Prop)->Prop
def PIE(X:Cx)(pins:List (Addr×Obj))(σ:St)(tg:Expr)(R:It->Hp->Prop)(itv:Value)(s2:Shared):Prop:=
 ∃(it:Addr)(fp:List Addr)(tn:Nat->Heap->Prop)(J:It)(H':Hp),itv=.ref it/\Inv X pins σ H' s2/\Turn X.prog X.w X.K tg J fp it tn/\tn 0 s2.heap/\(∀b∈fp,nZ X pins H' b)/\R J H'
def PI(X:Cx)(tg iter:Expr)(wi:TI):Prop:=
 ∀(pins:List (Addr×Obj))(s:Shared)(σ:St)(H:Hp)(R:It->Hp->Prop),Inv X pins σ H s->wi σ H R->
  wpAny (model X.prog X.w) X.A (eval iter X.env) (fun v s1=>wpAny (model X.prog X.w) X.A (pyIter v) (PIE X pins σ tg R) X.xe s1) X.xe s
theorem Ji{M:Model}{A:Around}{E:Value->Shared->Prop}{s:Shared}{tg:Expr}{it:Addr}{u:Value}{o:Obj}{n:String}{vs:Array Value}{Q:Unit->Shared->Prop}(ho:s.heap.get? it=some o)(hc:o.cls=.type n)(hd:o.data=.fields vs)
  (hn:["enumerate","zip","dict_itemiterator","dict_reverseitemiterator","odict_iterator","itertools.zip_longest","itertools.pairwise"].contains n=false)(hQ:Q () s):wpAny M A (letOwnedTupleGo tg (.ref it) u) Q E s:=by
 unfold letOwnedTupleGo
 cases tg<;>first
  |exact wpAny_pure hQ
  |(cases u<;>first
    |exact wpAny_pure hQ
    |(refine wpAny_bind (wpAny_load ho ?_)
      rw[hc,hd]
      show wpAny M A (if(["enumerate","zip","dict_itemiterator","dict_reverseitemiterator","odict_iterator","itertools.zip_longest","itertools.pairwise"].contains n&&vs[0]?==some (rawInt _))=true then _ else _) Q E s
      rw[if_neg (by intro h;rw[hn,Bool.false_and]at h;cases h)]
      exact wpAny_pure hQ))
def RW(K:'b')(a:Addr):It:=
 ⟨fun i H=>∃xs x,cV K H a xs/\xs[i]?=some x,fun i H x H'=>H'=H/\∀xs,cV K H a xs->xs[i]?=some x,fun i H=>∃xs,cV K H a xs/\xs.length<=i⟩
def V9(lo:Int)(n:Nat):It:=⟨fun i _=>i<n,fun i H x H'=>H'=H/\x=.int (lo+i),fun i _=>n<=i⟩
theorem Ha{P:Program}{w:World}{K:'b'}{tg:Expr}(a it:Addr):Turn P w K tg (RW K a) [it] it (fun i h=>h.IsListIter it a i) where
 mem:=by simp
 obj:=fun i h st b hb=>by
  have e:b=it:=by simpa using hb
  subst e
  obtain⟨o,e,c,d⟩:=st
  exact⟨o,e,fun v z=>by rw[d]at z;cases z⟩
 keep:=fun i h h' st k=>st.at fun o e=>k it (by simp) o e
 item:=by
  intro X hP hw hK hc i pins s σ H E I hf st hg
  subst hP hw hK
  obtain⟨xs,x,hq,hx⟩:=hg
  obtain⟨its,rv,p,hz⟩:=I.list hq
  obtain⟨u,hu,ru⟩:=rv.get hx
  obtain⟨f0,f1,f2,f3,f4,f5⟩:=hf it (by simp)
  refine wpAny_pyNext_list_item st p.isList (x:=u) (by simpa using hu) fun h' Nq sb=>?_
  have I1:Inv X pins σ H {s with heap:=h'}:=I.turned (t':=s.toks) (fun b o hb e=>(sb.2 b hb).trans e) f0 f1 f3 f4 f5
  obtain⟨o,e,c,d⟩:=id Nq
  exact⟨u,rfl,Ji (s:={s with heap:=h'}) e c d (by decide) ⟨x,H,I1,ru,⟨rfl,fun ys hy=>by rw[I.sL hy hq];exact hx⟩,Nq,fun b hb=>(hf b hb).1⟩⟩
 done:=by
  intro X hP hw hK hc i pins s σ H E I hf st hg
  subst hP hw hK
  obtain⟨xs,hq,hx⟩:=hg
  obtain⟨its,rv,p,hz⟩:=I.list hq
  obtain⟨f0,f1,f2,f3,f4,f5⟩:=hf it (by simp)
  have hl:=rv.length
  exact wpAny_pyNext_list_end (I.ok.hd hc) st p.isList (by simp;omega) fun h' eb=>⟨rfl,I.turned (t':=s.toks) (fun b o hb e=>eb b o hb e) f0 f1 f3 f4 f5⟩
 self:=fun _ _ _ _ _ st h=>wpAny_pyIter_listiter st h
theorem DA{P:Program}{w:World}{K:'b'}{tg:Expr}(it:Addr)(lo:Int)(n:Nat):Turn P w K tg (V9 lo n) [it] it (fun i h=>IsRangeIter h it (lo+(i:Nat)*1) ((n:Int)-(i:Nat)) 1) where
 mem:=by simp
 obj:=fun i h st b hb=>by
  have e:b=it:=by simpa using hb
  subst e
  exact⟨_,st,fun v z=>by
   have z':Data.fields _=Data.cell v:=z
   cases z'⟩
 keep:=fun i h h' st k=>k it (by simp) _ st
 item:=by
  intro X hP hw hK hc i pins s σ H E I hf st hg
  subst hP hw hK
  obtain⟨f0,f1,f2,f3,f4,f5⟩:=hf it (by simp)
  have W:=Walks.range (prog:=X.prog) (w:=X.w) (I.ok.hd hc) it lo 1 n
  refine W.item i s _ _ hg st fun v h' tk hv Nq kk=>?_
  obtain⟨t,rfl⟩:=hv
  have I1:Inv X pins σ H {s with heap:=h',toks:=tk}:=I.turned (fun b o hb e=>kk b o (by simpa using hb) e) f0 f1 f3 f4 f5
  refine⟨_,rfl,Ji (s:={s with heap:=h',toks:=tk}) (n:="range_iterator") Nq rfl rfl (by decide) ⟨.int (lo+i),H,I1,⟨t,?_⟩,⟨rfl,rfl⟩,Nq,fun b hb=>(hf b hb).1⟩⟩
  rw[Int.mul_one]
 done:=by
  intro X hP hw hK hc i pins s σ H E I hf st hg
  subst hP hw hK
  obtain⟨f0,f1,f2,f3,f4,f5⟩:=hf it (by simp)
  exact wpAny_pyNext_range_end (I.ok.hd hc) st (by have:n<=i:=hg;omega) fun h' eb=>⟨rfl,I.turned (t':=s.toks) (fun b o hb e=>eb b o hb e) f0 f1 f3 f4 f5⟩
 self:=fun _ _ _ _ _ st h=>wpAny_pyIter_rangeiter st h
end L2
namespace L2
open PySem PySem.Spec PyProof.Rows
section
variable{X:Cx}{tg:Expr}
def Jj(K:'b')(tl:TE):TI:=fun σ H R=>tl σ H fun x H1=>∃a,x=.ref a/\(∃xs,cV K H1 a xs)/\R (RW K a) H1
theorem wM{l:Expr}{tl:TE}(hl:PE X l tl):PI X tg l (Jj X.K tl):=by
 intro pins s σ H R I h
 refine cC (hl pins s σ H _ I h) fun v s1 ⟨x,H1,I1,r1,q1⟩=>?_
 obtain⟨a,e,⟨xs,hq⟩,q⟩:=q1
 subst e
 cases r1
 obtain⟨its,rv,p,hz⟩:=I1.list hq
 refine wpAny_pyIter_list p.isList ?_
 refine⟨s1.heap.objs.size,[s1.heap.objs.size],_,_,H1,rfl,I1.kept (t':=s1.toks) fun b o e=>Heap.get?_push_of_some _ e,Ha a _,⟨_,Heap.get?_push_size _ rfl,rfl,rfl⟩,fun b hb=>?_,q⟩
 have e:b=s1.heap.objs.size:=by simpa using hb
 subst e
 exact I1.G9 (Nat.le_refl _) (I1.hok.fresh (Nat.le_refl _))
theorem BF{pins:List (Addr×Obj)}{σ:St}{H:Hp}{s:Shared}{R:It->Hp->Prop}{E:Value->Shared->Prop}{lo hi:Int}{t u v:Tok}{tk:Nat}(I:Inv X pins σ H s)(h1: -(2^62)<=lo)(h2:lo<2^62)(h3: -(2^62)<=hi)(h4:hi<2^62)
  (q:R (V9 lo (hi-lo).toNat) H):wpAny (model X.prog X.w) X.A (pyIter (.ref s.heap.objs.size)) (PIE X pins σ tg R) E {s with heap:=s.heap.push {cls:=.type "range",data:=.fields #[.int lo t,.int hi u,.int 1 v]},toks:=tk}:=by
 refine wpAny_pyIter_range (IsRange.new ..) (small_one h1 h2 h3 h4) ?_
 have I1:Inv X pins σ H {s with heap:=s.heap.push {cls:=.type "range",data:=.fields #[.int lo t,.int hi u,.int 1 v]},toks:=tk}:=I.kept fun b o e=>Heap.get?_push_of_some _ e
 refine⟨(s.heap.push {cls:=.type "range",data:=.fields #[.int lo t,.int hi u,.int 1 v]}).objs.size,[(s.heap.push {cls:=.type "range",data:=.fields #[.int lo t,.int hi u,.int 1 v]}).objs.size],_,_,H,rfl,
  I1.kept (t':=tk) fun b o e=>Heap.get?_push_of_some _ e,DA _ lo (hi-lo).toNat,?_,fun b hb=>?_,q⟩
 ·have e1:lo+((0:Nat):Int)*1=lo:=by simp
  have e2:(((hi-lo).toNat:Nat):Int)-((0:Nat):Int)=Builtin.Range.rangeSize lo hi 1:=by rw[rangeSize_one];split<;>omega
  show IsRangeIter _ _ (lo+((0:Nat):Int)*1) ((((hi-lo).toNat:Nat):Int)-((0:Nat):Int)) 1
  rw[e1,e2]
  exact Heap.get?_push_size _ rfl
 ·have e:b=(s.heap.push {cls:=.type "range",data:=.fields #[.int lo t,.int hi u,.int 1 v]}).objs.size:=by simpa using hb
  subst e
  exact I1.G9 (Nat.le_refl _) (I1.hok.fresh (Nat.le_refl _))
def Wa(ta:TA):TI:=fun σ H R=>ta σ H fun vs H1=>∃j:Int,vs=[.int j]/\ -(2^62)<=j/\j<2^62/\R (V9 0 j.toNat) H1
def Wb(ta:TA):TI:=fun σ H R=>ta σ H fun vs H1=>∃i j:Int,vs=[.int i,.int j]/\(-(2^62)<=i/\i<2^62/\ -(2^62)<=j/\j<2^62)/\R (V9 i (j-i).toNat) H1
theorem Hb{a:Expr}{ta:TA}{p pos:Pos}(hg:Gl X "range")(hm:X.mg "range"=none)(ha:PA X [a] ta)(hs:starEach [a] X.env=[(false,eval a X.env)]:=by rfl):PI X tg (.Call (.Name "range" p) [a] [] pos) (Wa ta):=by
 intro pins s σ H R I h
 refine Call_ (gm I hg hm boot_range (PyProof.Rows.callWith_type1 (cC (ha pos pins s σ H _ I h) fun us s1 ⟨vs,H1,I1,r1,q1⟩=>?_) hs rfl))
 obtain⟨j,e,q1,q2,q⟩:=q1
 subst e
 cases r1 with
 |cons r rr=>
  cases rr
  obtain⟨t,rfl⟩:=r
  exact call_range_1 (BF I1 'a' 'a' q1 q2 (by simpa using q))
theorem Hc{a b:Expr}{ta:TA}{p pos:Pos}(hg:Gl X "range")(hm:X.mg "range"=none)(ha:PA X [a,b] ta)(hs:starEach [a,b] X.env=[(false,eval a X.env),(false,eval b X.env)]:=by rfl)(hs2:starEach [b] X.env=[(false,eval b X.env)]:=by rfl):
  PI X tg (.Call (.Name "range" p) [a,b] [] pos) (Wb ta):=by
 intro pins s σ H R I h
 refine Call_ (gm I hg hm boot_range (PyProof.Rows.callWith_type1 (cC (ha pos pins s σ H _ I h) fun us s1 ⟨vs,H1,I1,r1,q1⟩=>?_) (by rw[hs,hs2]) (by rw[hs2];rfl)))
 obtain⟨i,j,e,⟨q1,q2,q3,q4⟩,q⟩:=q1
 subst e
 cases r1 with
 |cons r rr=>
  cases rr with
  |cons r' rr=>
   cases rr
   obtain⟨t,rfl⟩:=r
   obtain⟨t',rfl⟩:=r'
   exact call_range_2 (BF I1 q1 q2 q3 q4 q)
def aan(wi:TI)(g:TG)(tb:TS):TS:=fun D σ H=>wi σ H fun J H1=>∃W:Nat->Nat->St->Hp->Prop,(∃m,W 0 m σ H1)/\∀i m σ H,W i m σ H->
 (J.stop i H/\D.nx σ H)\/(J.go i H/\∃N:St->Hp->Prop,(∀σ' H',N σ' H'->∃m',m'<m/\W (i+1) m' σ' H')/\∀x H',J.V8 i H x H'->g x σ H' fun σ2 H2=>tb {D with nx:=N,ct:=N,bk:=D.nx} σ2 H2)
def uw(fp:List Addr)(h:Heap):List (Addr×Obj):=fp.filterMap fun b=>(h.get? b).map fun o=>(b,o)
theorem gO{fp:List Addr}{h:Heap}{b:Addr}{o:Obj}(hb:b∈fp)(e:h.get? b=some o):(b,o)∈uw fp h:=List.mem_filterMap.mpr ⟨b,hb,by rw[e];rfl⟩
theorem Hd{fp:List Addr}{h:Heap}{p:Addr×Obj}(hp:p∈uw fp h):p.1∈fp/\h.get? p.1=some p.2:=by
 obtain⟨b,hb,e⟩:=List.mem_filterMap.mp hp
 cases q:h.get? b with
 |none=>rw[q]at e;cases e
 |some o=>
  rw[q]at e
  have e':(b,o)=p:=Option.some.inj e
  subst e'
  exact⟨hb,q⟩
theorem Inv.pinned {pins:List (Addr×Obj)}{σ:St}{H:Hp}{s:Shared}{fp:List Addr}(I:Inv X pins σ H s)(hf:∀b∈fp,nZ X pins H b)(ho:∀b∈fp,∃o,s.heap.get? b=some o/\∀v,o.data≠.cell v):Inv X (pins++uw fp s.heap) σ H s:=
 I.EV fun p hp=>(mem_append.mp hp).elim (fun z=>I.pin p (mem_append_right _ z)) fun z=>by
  obtain⟨hb,e⟩:=Hd z
  obtain⟨f0,f1,f2,_⟩:=hf p.1 hb
  obtain⟨o,e',d⟩:=ho p.1 hb
  rw[e]at e';cases e'
  exact⟨e,f0,f1,f2,d⟩
theorem Inv.kM {pins pl:List (Addr×Obj)}{σ:St}{H:Hp}{s:Shared}(I:Inv X (pins++pl) σ H s):Inv X pins σ H s:=I.EV fun p hp=>I.pin p (mem_append_right _ (mem_append_left _ hp))
theorem Jk{iter:Expr}{body:List Stmt}{wi:TI}{g:TG}{tb:TS}{pos:Pos}(hp:PassesOwn (model X.prog X.w) X.A X.env X.xe)(hc:X.calm=true)(hi:PI X tg iter wi)(hg:PG X tg g)(hb:rB X body tb)
  (hs:∀x,foldedSetIterable iter X.env x=pure x:=by intro _;rfl):PS X (.For tg iter body [] pos) (aan wi g tb):=by
 intro pins s σ H D I h
 refine wpAny_For (cC (hi pins s σ H _ I h) fun v s1 h1=>cC h1 fun itv s2 h2=>?_) hs
 obtain⟨it,fp,tn,J,H2,e,I2,T,Dh,f2,W,⟨m0,w0⟩,turn⟩:=h2
 subst e
 have RX:∀{H':Hp},(∀b∈fp,H' b=none)->∀b∈fp,nZ X pins H' b:=fun hn b hb=>⟨hn b hb,(f2 b hb).2⟩
 refine codeAny_forLoop_any (fun n s'=>∃i σ' H',Inv X pins σ' H' s'/\tn i s'.heap/\(∀b∈fp,H' b=none)/\W i n σ' H') ?_ m0 ⟨0,σ,H2,I2,Dh,fun b hb=>(f2 b hb).1,w0⟩
 rintro n s3 ⟨i,σ3,H3,I3,st3,ux,w3⟩
 rcases turn i n σ3 H3 w3 with⟨stop,qn⟩|⟨go,N,hN,step⟩
 ·refine wpAny_passesOwn hp (cC (T.done X rfl rfl rfl hc i pins s3 σ3 H3 X.xe I3 (RX ux) st3 stop) fun r s4 ⟨hr,I4⟩=>?_)
  subst hr
  exact wpAny_execs_nil ⟨σ3,H3,I4,qn⟩
 ·refine wpAny_passesOwn hp (cC (T.item X rfl rfl rfl hc i pins s3 σ3 H3 X.xe I3 (RX ux) st3 go) fun r s4 ⟨u,hr,h4⟩=>?_)
  subst hr
  refine wpAny_passesOwn hp (cC h4 fun _ s5 ⟨x,H5,I5,r5,y5,Nr,MX⟩=>?_)
  have I5':=I5.pinned (RX MX) (T.obj _ _ Nr)
  refine wpAny_passesOwn hp (cC (hg _ s5 σ3 H5 x u _ I5' r5 (step x H5 y5)) fun _ s6 ⟨σ6,H6,I6,q6⟩=>?_)
  refine wpAny_passesOwn hp (cC (hb _ s6 σ6 H6 _ I6 q6) fun f s7 q7=>?_)
  have again:∀{σ7:St}{H7:Hp},Inv X (pins++uw fp s5.heap) σ7 H7 s7->N σ7 H7->∃m,m<n/\∃i σ' H',Inv X pins σ' H' s7/\tn i s7.heap/\(∀b∈fp,H' b=none)/\W i m σ' H':=fun{σ7 H7} I7 n7=>by
   obtain⟨m',hm,w7⟩:=hN σ7 H7 n7
   refine⟨m',hm,i+1,σ7,H7,I7.kM,T.keep _ _ _ Nr fun b hb o e=>(I7.pin (b,o) (mem_append_right _ (mem_append_right _ (gO hb e)))).1,fun b hb=>?_,w7⟩
   obtain⟨o,e,d⟩:=T.obj _ _ Nr b hb
   exact(I7.pin (b,o) (mem_append_right _ (mem_append_right _ (gO hb e)))).2.1
  cases f with
  |next=>obtain⟨σ7,H7,I7,n7⟩:=q7;exact again I7 n7
  |cont=>obtain⟨σ7,H7,I7,n7⟩:=q7;exact again I7 n7
  |brk=>obtain⟨σ7,H7,I7,q7⟩:=q7;exact⟨σ7,H7,I7.kM,q7⟩
  |ret v=>obtain⟨x7,σ7,H7,I7,r7,q7⟩:=q7;exact⟨x7,σ7,H7,I7.kM,r7,q7⟩
end
theorem Jl{K:'b'}{a:Addr}{xs:List V}{g:TG}{tb:TS}{D:Ends}{σ:St}{H:Hp}(Pv:Nat->St->Hp->Prop)(h0:Pv 0 σ H)(hl:∀i σ H,i<=xs.length->Pv i σ H->cV K H a xs)
  (hs:∀i x σ H,xs[i]?=some x->Pv i σ H->g x σ H fun σ2 H2=>tb {D with nx:=Pv (i+1),ct:=Pv (i+1),bk:=D.nx} σ2 H2)(hd:∀σ H,Pv xs.length σ H->D.nx σ H):
  ∃W:Nat->Nat->St->Hp->Prop,(∃m,W 0 m σ H)/\∀i m σ H,W i m σ H->
   ((RW K a).stop i H/\D.nx σ H)\/((RW K a).go i H/\∃N:St->Hp->Prop,(∀σ' H',N σ' H'->∃m',m'<m/\W (i+1) m' σ' H')/\∀x H',(RW K a).V8 i H x H'->g x σ H' fun σ2 H2=>tb {D with nx:=N,ct:=N,bk:=D.nx} σ2 H2):=by
 refine⟨fun i m σ H=>m=xs.length-i/\i<=xs.length/\Pv i σ H,⟨xs.length,by simp,zero_le _,h0⟩,?_⟩
 rintro i m σ H ⟨rfl,hi,p⟩
 have q:=hl i σ H hi p
 by_cases hlt:i<xs.length
 ·refine .inr ⟨⟨xs,xs[i],q,by simp[hlt]⟩,Pv (i+1),fun σ' H' p'=>⟨xs.length-(i+1),by omega,rfl,hlt,p'⟩,fun x H' y=>?_⟩
  obtain⟨e,y⟩:=y
  subst e
  exact hs i x σ _ (y xs q) p
 ·have e:i=xs.length:=by omega
  subst e
  exact .inl ⟨⟨xs,q,Nat.le_refl _⟩,hd σ H p⟩
end L2
namespace L2
open PySem PySem.Spec PyProof.Rows
abbrev R2:=V->V->Hp->VK->Prop
def sM(X:Cx)(f:Value->Value->Sem Value)(r:R2):Prop:=
 ∀(pins:List (Addr×Obj))(s:Shared)(σ:St)(H:Hp)(x y:V)(v u:Value)(Q:VK),Inv X pins σ H s->RelV x v->RelV y u->r x y H Q->
  wpAny (model X.prog X.w) X.A (f v u) (EP X pins σ Q) X.xe s
def Wc(X:Cx)(f:Value->Sem Value)(r:V->Hp->VK->Prop):Prop:=
 ∀(pins:List (Addr×Obj))(s:Shared)(σ:St)(H:Hp)(x:V)(v:Value)(Q:VK),Inv X pins σ H s->RelV x v->r x H Q->
  wpAny (model X.prog X.w) X.A (f v) (EP X pins σ Q) X.xe s
def rK(X:Cx)(f:Value)(r:List V->Hp->VK->Prop):Prop:=
 ∀(pins:List (Addr×Obj))(s:Shared)(σ:St)(H:Hp)(xs:List V)(us:List Value)(Q:VK),Inv X pins σ H s->Vals xs us->r xs H Q->
  wpAny (model X.prog X.w) X.A (call f us) (EP X pins σ Q) X.xe s
def Wd(r:R2)(ta tb:TE):TE:=fun σ H Q=>ta σ H fun x H1=>tb σ H1 fun y H2=>r x y H2 Q
def tUn(r:V->Hp->VK->Prop)(ta:TE):TE:=fun σ H Q=>ta σ H fun x H1=>r x H1 Q
def rI(C:Int->Int->Prop)(g:Int->Int->V):R2:=fun x y H Q=>∃i j,x=.int i/\y=.int j/\C i j/\Q (g i j) H
def E4(g:Int->Int->V):R2:=fun x y H Q=>∃i j,x=.int i/\y=.int j/\Q (g i j) H
def rU(g:Int->V):V->Hp->VK->Prop:=fun x H Q=>∃i,x=.int i/\Q (g i) H
section
variable{X:Cx}{a b c:Expr}{ta tb tc:TE}{pos:Pos}
theorem RY(ha:PE X a ta)(hb:PE X b tb){pins:List (Addr×Obj)}{s:Shared}{σ:St}{H:Hp}{R:V->V->Hp->Prop}(I:Inv X pins σ H s)
  (h:ta σ H fun x H1=>tb σ H1 fun y H2=>R x y H2){Q:Value->Shared->Prop}{f:Value->Value->Sem Value}
  (hf:∀v u s2 x y H2,Inv X pins σ H2 s2->RelV x v->RelV y u->R x y H2->wpAny (model X.prog X.w) X.A (f v u) Q X.xe s2):
  wpAny (model X.prog X.w) X.A (eval a X.env) (fun v s₁=>wpAny (model X.prog X.w) X.A (eval b X.env) (fun u s₂=>wpAny (model X.prog X.w) X.A (f v u) Q X.xe s₂) X.xe s₁) X.xe s:=by
 refine cC (ha pins s σ H _ I h) fun v s1 ⟨x,H1,I1,r1,q1⟩=>?_
 refine cC (hb pins s1 σ H1 _ I1 q1) fun u s2 ⟨y,H2,I2,r2,q2⟩=>?_
 exact hf v u s2 x y H2 I2 r1 r2 q2
theorem sN{op:Operator}{r:R2}(ho:sM X (binaryOp op) r)(ha:PE X a ta)(hb:PE X b tb):PE X (.BinOp a op b pos) (Wd r ta tb):=by
 intro pins s σ H Q I h
 exact wpAny_BinOp (RY ha hb I h fun v u s2 x y H2 I2 rx ry q=>ho pins s2 σ H2 x y v u Q I2 rx ry q)
theorem E5{op:UnaryOp}{r:V->Hp->VK->Prop}(ho:Wc X (unaryOp op) r)(ha:PE X a ta):PE X (.UnaryOp op a pos) (tUn r ta):=by
 intro pins s σ H Q I h
 exact UnaryOp_ (cC (ha pins s σ H _ I h) fun v s1 ⟨x,H1,I1,r1,q1⟩=>ho pins s1 σ H1 x v Q I1 r1 q1)
theorem We{f:Value->Value->Sem Value}{C:Int->Int->Prop}{g:Int->Int->Int}
  (rule:∀(i j:Int)(t u:Tok)(s:Shared)(Q:Value->Shared->Prop)(E:Value->Shared->Prop),C i j->Q (.int (g i j) s.toks) {s with toks:=s.toks+1}->wpAny (model X.prog X.w) X.A (f (.int i t) (.int j u)) Q E s):
  sM X f (rI C fun i j=>.int (g i j)):=by
 intro pins s σ H x y v u Q I rx ry h
 obtain⟨i,j,rfl,rfl,hc,q⟩:=h
 obtain⟨t,rfl⟩:=rx
 obtain⟨t',rfl⟩:=ry
 exact rule i j t t' s _ _ hc ⟨.int (g i j),H,I.tok _,⟨_,rfl⟩,q⟩
theorem RZ{f:Value->Value->Sem Value}{g:Int->Int->Int}
  (rule:∀(i j:Int)(t u:Tok)(s:Shared)(Q:Value->Shared->Prop)(E:Value->Shared->Prop),Q (.int (g i j) s.toks) {s with toks:=s.toks+1}->wpAny (model X.prog X.w) X.A (f (.int i t) (.int j u)) Q E s):
  sM X f (E4 fun i j=>.int (g i j)):=by
 intro pins s σ H x y v u Q I rx ry h
 obtain⟨i,j,rfl,rfl,q⟩:=h
 obtain⟨t,rfl⟩:=rx
 obtain⟨t',rfl⟩:=ry
 exact rule i j t t' s _ _ ⟨.int (g i j),H,I.tok _,⟨_,rfl⟩,q⟩
theorem R0{f:Value->Value->Sem Value}{g:Int->Int->Bool}
  (rule:∀(i j:Int)(t u:Tok)(s:Shared)(Q:Value->Shared->Prop)(E:Value->Shared->Prop),Q (.bool (g i j)) s->wpAny (model X.prog X.w) X.A (f (.int i t) (.int j u)) Q E s):
  sM X f (E4 fun i j=>.bl (g i j)):=by
 intro pins s σ H x y v u Q I rx ry h
 obtain⟨i,j,rfl,rfl,q⟩:=h
 obtain⟨t,rfl⟩:=rx
 obtain⟨t',rfl⟩:=ry
 exact rule i j t t' s _ _ ⟨.bl (g i j),H,I,rfl,q⟩
def Wf(i j:Int):Prop:=0<j/\j<1073741824
def He(i j:Int):Prop:=0<=j/\j<=1000000/\i.natAbs<2^64
def Nt(i j:Int):Prop:=(-(2^64)<i/\i<2^64)\/(-(2^64)<j/\j<2^64)
theorem Nt.ok {i j:Int}(h:Nt i j):IntMulOk i j:=by
 rcases h with⟨h1,h2⟩|⟨h1,h2⟩
 ·exact .of_left (intBits_le_64 h1 h2)
 ·exact .of_right (intBits_le_64 h1 h2)
theorem fj:sM X (binaryOp .Add) (E4 fun i j=>.int (i+j)):=RZ fun _ _ _ _ _ _ _ q=>add_int q
theorem bz:sM X (binaryOp .Sub) (E4 fun i j=>.int (i-j)):=RZ fun _ _ _ _ _ _ _ q=>sub_int q
theorem DB:sM X (binaryOp .Mult) (rI Nt fun i j=>.int (i*j)):=We fun _ _ _ _ _ _ _ hc q=>mul_int q hc.ok
theorem jw:sM X (binaryOp .FloorDiv) (rI Wf fun i j=>.int (i/j)):=We fun i j _ _ _ _ _ hc q=>by
 have h1:(0:Int)<j:=hc.1
 have h2:j<1073741824:=hc.2
 exact floordiv_int 'a' (by rw[Int.fdiv_eq_ediv_of_nonneg i 'a'];exact q) (.inl (PyProof.noPylong_small 'a'))
theorem dw:sM X (binaryOp .Mod) (rI (fun _ j=>0<j) fun i j=>.int (i%j)):=We fun i j _ _ _ _ _ hc q=>by
 have h1:(0:Int)<j:=hc
 exact mod_int' 'a' (by rw[Int.fmod_eq_emod_of_nonneg i 'a'];exact q)
theorem Jm:sM X (binaryOp .Pow) (rI He fun i j=>.int (i^j.toNat)):=We fun _ _ _ _ _ _ _ hc q=>pow_int_small hc.1 hc.2.1 hc.2.2 q
theorem R3:sM X (binaryOp .LShift) (rI He fun i j=>.int (i*2^j.toNat)):=We fun _ _ _ _ _ _ _ hc q=>lshift_int_small hc.1 hc.2.1 hc.2.2 q
theorem Jo:sM X (binaryOp .BitAnd) (E4 fun i j=>.int (Builtin.bitAnd i j)):=RZ fun _ _ _ _ _ _ _ q=>and_int q
theorem unI{f:Value->Sem Value}{g:Int->Int}
  (rule:∀(i:Int)(t:Tok)(s:Shared)(Q:Value->Shared->Prop)(E:Value->Shared->Prop),Q (.int (g i) s.toks) {s with toks:=s.toks+1}->wpAny (model X.prog X.w) X.A (f (.int i t)) Q E s):
  Wc X f (rU fun i=>.int (g i)):=by
 intro pins s σ H x v Q I rx h
 obtain⟨i,rfl,q⟩:=h
 obtain⟨t,rfl⟩:=rx
 exact rule i t s _ _ ⟨.int (g i),H,I.tok _,⟨_,rfl⟩,q⟩
theorem gP:Wc X (unaryOp .USub) (rU fun i=>.int (-i)):=unI fun _ _ _ _ _ q=>neg_int q
theorem Jp:Wc X (unaryOp .Invert) (rU fun i=>.int (Builtin.bitNot i)):=unI fun _ _ _ _ _ q=>invert_int q
end
def Jq:V->V->Bool
 |.non,.non=>true|.non,.int _=>true|.int _,.non=>true|.non,.bl _=>true|.bl _,.non=>true|.non,.str _=>true|.str _,.non=>true
 |.int _,.int _=>true|.bl _,.bl _=>true|.str _,.str _=>true|.IK _,.IK _=>true
 |.int _,.str _=>true|.str _,.int _=>true|.bl _,.str _=>true|.str _,.bl _=>true
 |_,_=>false
def rEq:R2:=fun x y H Q=>Jq x y=true/\Q (.bl (decide (x=y))) H
theorem Nu{i j:Int}:decide (V.int i=V.int j)=(i==j):=by
 rw[Bool.eq_iff_iff]
 simp
theorem R4{i j:Bool}:decide (V.bl i=V.bl j)=(i==j):=by
 rw[Bool.eq_iff_iff]
 simp
theorem Nv{i j:Str}:decide (V.str i=V.str j)=(i==j):=by
 rw[Bool.eq_iff_iff]
 simp
theorem Nx{i j:Array UInt8}:decide (V.IK i=V.IK j)=(i.toList==j.toList):=by
 rw[Bool.eq_iff_iff]
 cases i
 cases j
 simp
section
variable{X:Cx}{a b c:Expr}{ta tb tc:TE}{pos:Pos}
theorem fq{pins:List (Addr×Obj)}{σ:St}{H:Hp}{s:Shared}{Q:VK}{k k':Bool}(I:Inv X pins σ H s)(q:Q (.bl k) H)(e:k=k'):EP X pins σ Q (.bool k') s:=by
 subst e
 exact⟨.bl k,H,I,rfl,q⟩
theorem Jr:sM X (compareOp .Eq) rEq:=by
 intro pins s σ H x y v u Q I rx ry h
 obtain⟨hs,q⟩:=h
 cases x with
 |non=>
  cases rx
  cases y with
  |non=>cases ry;exact PySem.EqNone.eq_none_none (fq I q (by simp))
  |bl j=>cases ry;exact PySem.EqNone.eq_none_bool (fq I q (by simp))
  |int j=>obtain⟨t',rfl⟩:=ry;exact PySem.EqNone.eq_none_int (fq I q (by simp))
  |str j=>obtain⟨t',rfl⟩:=ry;exact PySem.EqNone.eq_none_str (fq I q (by simp))
  |_=>exact absurd (show false=true from hs) Bool.false_ne_true
 |bl i=>
  cases rx
  cases y with
  |non=>cases ry;exact PySem.EqNone.eq_bool_none (fq I q (by simp))
  |bl j=>cases ry;exact eq_bool (fq I q R4)
  |str j=>obtain⟨t',rfl⟩:=ry;exact PySem.EqMixed.eq_bool_str (fq I q (by simp))
  |_=>exact absurd (show false=true from hs) Bool.false_ne_true
 |int i=>
  obtain⟨t,rfl⟩:=rx
  cases y with
  |non=>cases ry;exact PySem.EqNone.eq_int_none (fq I q (by simp))
  |int j=>obtain⟨t',rfl⟩:=ry;exact eq_int (fq I q Nu)
  |str j=>obtain⟨t',rfl⟩:=ry;exact PySem.EqMixed.eq_int_str (fq I q (by simp))
  |_=>exact absurd (show false=true from hs) Bool.false_ne_true
 |str i=>
  obtain⟨t,rfl⟩:=rx
  cases y with
  |non=>cases ry;exact PySem.EqNone.eq_str_none (fq I q (by simp))
  |bl j=>cases ry;exact PySem.EqMixed.eq_str_bool (fq I q (by simp))
  |int j=>obtain⟨t',rfl⟩:=ry;exact PySem.EqMixed.eq_str_int (fq I q (by simp))
  |str j=>obtain⟨t',rfl⟩:=ry;exact eq_str (fq I q Nv)
  |_=>exact absurd (show false=true from hs) Bool.false_ne_true
 |IK i=>
  obtain⟨t,rfl⟩:=rx
  cases y with
  |IK j=>obtain⟨t',rfl⟩:=ry;exact PySem.W.eq_bytes (fq I q Nx)
  |_=>exact absurd (show false=true from hs) Bool.false_ne_true
 |_=>cases y<;>exact absurd (show false=true from hs) Bool.false_ne_true
theorem sO:sM X (compareOp .Lt) (E4 fun i j=>.bl (decide (i<j))):=R0 fun _ _ _ _ _ _ _ q=>lt_int q
theorem Wg:sM X (compareOp .LtE) (E4 fun i j=>.bl (decide (i<=j))):=R0 fun _ _ _ _ _ _ _ q=>le_int q
theorem kN:sM X (compareOp .Gt) (E4 fun i j=>.bl (decide (j<i))):=R0 fun _ _ _ _ _ _ _ q=>gt_int q
theorem R5:sM X (compareOp .Is) (fun x y H Q=>y=.non/\Q (.bl (decide (x=.non))) H):=by
 intro pins s σ H x y v u Q I rx ry h
 obtain⟨rfl,q⟩:=h
 cases ry
 refine is_none_gen (fq I q ?_)
 cases x<;>first
  |(cases rx;rfl)
  |(obtain⟨t,rfl⟩:=rx;rfl)
theorem E6:sM X (compareOp .IsNot) (fun x y H Q=>y=.non/\Q (.bl (!decide (x=.non))) H):=by
 intro pins s σ H x y v u Q I rx ry h
 obtain⟨rfl,q⟩:=h
 cases ry
 refine isnot_none_gen (fq I q ?_)
 cases x<;>first
  |(cases rx;rfl)
  |(obtain⟨t,rfl⟩:=rx;rfl)
theorem aG(b:Expr){op:CmpOp}(h:op≠.In:=by decide)(h2:op≠.NotIn:=by decide):behindInMarks op b=false:=by
 have e1:(op==CmpOp.In)=false:=by cases op<;>first|rfl|exact absurd rfl h
 have e2:(op==CmpOp.NotIn)=false:=by cases op<;>first|rfl|exact absurd rfl h2
 cases b<;>simp[behindInMarks,e1,e2]
theorem Ny{op:CmpOp}{r:R2}(ho:sM X (compareOp op) r)(ha:PE X a ta)(hb:PE X b tb)(hm:behindInMarks op b=false):PE X (.Compare a [op] [b] pos) (Wd r ta tb):=by
 intro pins s σ H Q I h
 exact wpAny_Compare1 (RY ha hb I h fun v u s2 x y H2 I2 rx ry q=>ho pins s2 σ H2 x y v u Q I2 rx ry q) hm
def Wh(t:TE):TT:=fun σ H Q=>t σ H fun x H'=>∃k,x=.bl k/\Q k H'
theorem kh{op:CmpOp}{r:R2}(ho:sM X (compareOp op) r)(ha:PE X a ta)(hb:PE X b tb)(hm:behindInMarks op b=false):PT X (.Compare a [op] [b] pos) (Wh (Wd r ta tb)):=by
 intro pins s σ H Q I h
 refine wpAny_isTrue_Compare1 (cC (ha pins s σ H _ I h) fun v s1 ⟨x,H1,I1,r1,q1⟩=>cC (hb pins s1 σ H1 _ I1 q1) fun u s2 ⟨y,H2,I2,r2,q2⟩=>
  cC (ho pins s2 σ H2 x y v u _ I2 r1 r2 q2) fun c s3 ⟨z,H3,I3,r3,k,e,q3⟩=>?_) hm
 subst e
 cases r3
 exact wpAny_truthy_bool ⟨H3,I3,q3⟩
theorem pT:(sizeLine:Nat)<2^63:=by rw[sizeLine_eq];decide
theorem vals1{x:V}{us:List Value}(r:Vals [x] us):∃u,us=[u]/\RelV x u:=by
 cases r with
 |cons r1 r2=>cases r2;exact⟨_,rfl,r1⟩
theorem vals2{x y:V}{us:List Value}(r:Vals [x,y] us):∃u w',us=[u,w']/\RelV x u/\RelV y w':=by
 cases r with
 |cons r1 r2=>
  cases r2 with
  |cons r3 r4=>cases r4;exact⟨_,_,rfl,r1,r3⟩
theorem BG:rK X (.builtin "abs") (fun xs H Q=>∃i,xs=[.int i]/\Q (.int (if i<0 then-i else i)) H):=by
 intro pins s σ H xs us Q I r h
 obtain⟨i,rfl,q⟩:=h
 obtain⟨u,rfl,t,rfl⟩:=vals1 r
 exact call_abs_int fun u tk=>⟨.int (if i<0 then-i else i),H,I.tok _,⟨_,rfl⟩,q⟩
theorem Hf(hc:X.calm=true):rK X (.builtin "max") (fun xs H Q=>∃i j,xs=[.int i,.int j]/\Q (.int (if j>i then j else i)) H):=by
 intro pins s σ H xs us Q I r h
 obtain⟨i,j,rfl,q⟩:=h
 obtain⟨u,w',rfl,⟨t,rfl⟩,⟨t',rfl⟩⟩:=vals2 r
 refine max_two_ints (I.ok.hd hc) fun h' tk k=>⟨_,H,I.kept k,?_,q⟩
 by_cases hj:j>i
 ·rw[if_pos hj,if_pos hj];exact⟨_,rfl⟩
 ·rw[if_neg hj,if_neg hj];exact⟨_,rfl⟩
def Wi(K:'b')(x:V)(H:Hp)(n:Nat):Prop:=
 match x with
 |.str y=>y.length<=sizeLine/\n=y.length
 |.IK y=>y.size<=sizeLine/\n=y.size
 |.ref p=>(∃xs,cV K H p xs/\n=xs.length)\/∃xs,Bp K H p xs/\n=xs.length
 |_=>False
theorem bQ:rK X (.builtin "len") (fun xs H Q=>∃x n,xs=[x]/\Wi X.K x H n/\Q (.int n) H):=by
 intro pins s σ H xs us Q I r h
 obtain⟨x,n,rfl,e,q⟩:=h
 obtain⟨u,rfl,rx⟩:=vals1 r
 have hl:=pT
 have hs:sizeLine=16777216:=sizeLine_eq
 cases x with
 |str y=>
  obtain⟨t,rfl⟩:=rx
  obtain⟨hy,e'⟩:y.length<=sizeLine/\n=y.length:=e
  subst e'
  exact len_str 'a' ⟨.int _,H,I.tok _,⟨_,rfl⟩,q⟩
 |IK y=>
  obtain⟨t,rfl⟩:=rx
  obtain⟨hy,e'⟩:y.size<=sizeLine/\n=y.size:=e
  subst e'
  exact PySem.W.len_bytes 'a' ⟨.int _,H,I.tok _,⟨_,rfl⟩,q⟩
 |ref p=>
  cases rx
  have e':(∃xs,cV X.K H p xs/\n=xs.length)\/∃xs,Bp X.K H p xs/\n=xs.length:=e
  rcases e' with⟨xs,hx,e'⟩|⟨xs,hx,e'⟩
  ·subst e'
   obtain⟨its,r',pl,hz⟩:=I.list hx
   have hlen:=r'.length
   exact Calls.call_len_list pl.isList (by simp only [size_toArray];omega) ⟨.int xs.length,H,I.tok _,⟨_,by simp only [size_toArray];rw[hlen]⟩,q⟩
  ·subst e'
   obtain⟨its,r',pl,hz⟩:=I.tuple hx
   have hlen:=r'.length
   exact len_tuple pl (by simp only [size_toArray];omega) ⟨.int xs.length,H,I.tok _,⟨_,by simp only [size_toArray];rw[hlen]⟩,q⟩
 |_=>exact(show False from e).elim
end
end L2
namespace L2
open PySem PySem.Spec PyProof.Rows
structure DC(h:Heap)(x dx C:Addr)(mA:Str->Option Value):Prop where
 obj:h.get? x=some (instObj C dx)
 ns:h.Ns1 dx mA
 ne:dx≠x
theorem Hg{h:Heap}{dx:Addr}{mA:Str->Option Value}(n:h.Ns1 dx mA):∃od,h.get? dx=some od/\∀name,lookIn name od=some (mA name):=by
 obtain⟨o,es,ep,ho,hd,hk,_,hm⟩:=n
 refine⟨o,ho,fun name=>?_⟩
 have e:=hm name
 unfold nsFind findBy at e
 rw[<-Array.find?_toList]at e
 unfold lookIn
 rw[hd]
 dsimp only
 split
 ·rename_i y q
  rw[q]at e
  exact congrArg some e
 ·rename_i q
  rw[q]at e
  have a:es.toList.any (·.refKey)=false:=by
   rw[List.any_eq_false]
   intro y hy
   obtain⟨z,t,hkey⟩:=hk y (Array.mem_toList_iff.mp hy)
   simp[DictEntry.refKey,hkey]
  have a':¬es.toList.any (·.refKey)=true:=by rw[a];exact Bool.false_ne_true
  rw[if_neg a']
  exact congrArg some e
theorem DC.look {h:Heap}{x dx C:Addr}{mA:Str->Option Value}(I:DC h x dx C mA):∃od,PySem.W.InstAt h x (instObj C dx) C (some od)/\∀name,lookIn name od=some (mA name):=
 let⟨od,ho,hl⟩:=Hg I.ns
 ⟨od,⟨I.obj,rfl,rfl,ho⟩,hl⟩
section
variable{prog:Program}{w:World}{A:Around}{E:Value->Shared->Prop}{s:Shared}{K:'b'}{x dx C f:Addr}{mA:Str->Option Value}{name:Str}{v:Value}
theorem get_map{expr:Bool}{Q:Value->Shared->Prop}(X:K.In s.heap)(I:DC s.heap x dx C mA)(hg:plainGet K C name=true)(hh:hasDictIn K C=true)
  (ha:findIn K (.ref C) name=some none)(hv:mA name=some v)(hv':handedIn v=true)(h:Q v {s with toks:=s.toks+1}):
  wpAny (model prog w) A (getAttr (.ref x) name expr) Q E s:=by
 obtain⟨od,J,hl⟩:=I.look
 exact PySem.W.get_value X J (plainGet_of hg).1 (PySem.W.findObj_own hh ha rfl (by rw[hl,hv])) hv' h
theorem Js{pl:Sem Bool}{Q:Value×List Value->Shared->Prop}(X:K.In s.heap)(I:DC s.heap x dx C mA)(hg:plainGet K C name=true)
  (hf:findIn K (.ref C) name=some (some (.ref f)))(ht:isFn K (.ref f)=true)(hv:mA name=none)(h:Q (.ref f,[.ref x]) s):
  wpAny (model prog w) A (getMethod (.ref x) name pl) Q E s:=by
 obtain⟨od,J,hl⟩:=I.look
 exact PySem.W.method_fn X J (plainGet_of hg).1 (plainGet_of hg).2 hf (beq_iff_eq.mp ht) (by show(lookIn name od).map (·.isSome)=some false;rw[hl,hv];rfl) h
theorem Nz{ns:List Str}{Q:Unit->Shared->Prop}(X:K.In s.heap)(I:DC s.heap x dx C mA)
  (hs:findIn K (.ref C) "__setattr__"=some (some (.builtin "object.__setattr__")))(hp:plainOver K C=true)(ht:takerIn K C name=some none)(hh:hasDictIn K C=true)
  (hw:PySem.Within mA ns)(hsz:ns.length<=sizeLine)
  (h:∀h',DC h' x dx C (fun y=>if y=name then some v else mA y)->Heap.SameBut dx s.heap h'->Q () {s with heap:=h',toks:=s.toks+2}):
  wpAny (model prog w) A (setAttr (.ref x) name v) Q E s:=by
 obtain⟨od,J,hl⟩:=I.look
 refine PySem.W.set_plain X J hs (PySem.W.osa_open (s:={s with toks:=s.toks+1}) (r:=none) X J hp ht fun b=>?_)
 obtain⟨cd,hc,Nm⟩:=PySem.W.any_some hh
 have hx:s.heap.get? x=some ⟨.ref C,some dx,.plain,#[]⟩:=I.obj
 refine wpAny_bind (wpAny_pure (wpAny_bind (wpAny_bind (wpAny_loadPart hx (wpAny_bind (Looks.here (s:={s with toks:=s.toks+1}) (PySem.W.looks_clsIn X hc) ?_))))))
 rw[Nm]
 refine wpAny_pure (a:=some dx) (wpAny_bind (wpAny_pure (wpAny_bind ?_)))
 refine wpAny_nsSet1 (s:={s with toks:=s.toks+1}) I.ns fun h' hn2 hs2=>?_
 obtain⟨oD,esD,epD,hoD,hdD,hcD⟩:=hn2.count (PySem.Within.cons name v hw)
 refine wpAny_bind (wpAny_lookBehind hoD (by rw[hdD];exact pastItsLine_dict (le_trans hcD (by rw[length_cons];omega))) ?_)
 exact wpAny_pure (h _ ⟨(hs2.2 _ (Ne.symm I.ne)).trans I.obj,hn2,I.ne⟩ hs2)
theorem Jt{R:Result->Shared->Prop}{vs:List Value}{kw:List (Str×Value)}(X:K.In s.heap)(hm:makesIn K C=true)
  (hi:findIn K (.ref C) "__init__"=some (some (.ref f)))(hf:typeIn K (.ref f)=some (.type "function"))
  (h:codeAny (model prog w) (A.under (.builtin "type.__call__" ⟨.ref C::vs,kw⟩)) (.call (.ref f) ⟨.ref (s.heap.objs.size+1)::vs,kw⟩) (PySem.W.InitBack (s.heap.objs.size+1) R)
   {s with heap:=(s.heap.push emptyDict).push (instObj C s.heap.objs.size)}):
  codeAny (model prog w) A (.call (.ref C) ⟨vs,kw⟩) R s:=by
 obtain⟨hh,g,d,t,os⟩:=s
 exact PySem.W.make_core (PySem.W.makes_of X hm) (looks_findIn X hi) (fun self=>PySem.W.bind_fn X self hf) (.inl rfl) h
end
def kO(f:Str)(v:V):List (Str×V)->List (Str×V)
 |[]=>[(f,v)]
 |(g,x)::r=>if g=f then(g,v)::r else(g,x)::kO f v r
theorem vJ(f g:Str)(v:V):∀fs:List (Str×V),(kO f v fs).lookup g=if g=f then some v else fs.lookup g
 |[]=>by
  show List.lookup g [(f,v)]=_
  by_cases h:g=f
  ·have hb:(g==f)=true:=beq_iff_eq.mpr h
   simp only [List.lookup,hb,if_pos h]
  ·have hb:(g==f)=false:=beq_eq_false_iff_ne.mpr h
   simp only [List.lookup,hb,if_neg h]
 |(k,x)::r=>by
  have ih:=vJ f g v r
  rw[show kO f v ((k,x)::r)=(if k=f then(k,v)::r else(k,x)::kO f v r)from rfl]
  by_cases hk:k=f
  ·rw[if_pos hk]
   by_cases h:g=k
   ·have hb:(g==k)=true:=beq_iff_eq.mpr h
    simp only [List.lookup,hb,if_pos (h.trans hk)]
   ·have hb:(g==k)=false:=beq_eq_false_iff_ne.mpr h
    simp only [List.lookup,hb,if_neg (fun e:g=f=>h (e.trans hk.symm))]
  ·rw[if_neg hk]
   by_cases h:g=k
   ·have hb:(g==k)=true:=beq_iff_eq.mpr h
    simp only [List.lookup,hb,if_neg (fun e:g=f=>hk (h.symm.trans e))]
   ·have hb:(g==k)=false:=beq_eq_false_iff_ne.mpr h
    simp only [List.lookup,hb]
    exact ih
theorem uy(f:Str)(v:V):∀fs:List (Str×V),f∈(kO f v fs).map (·.1)/\∀g,g∈fs.map (·.1)->g∈(kO f v fs).map (·.1)
 |[]=>⟨by simp[kO],fun g h=>by simp at h⟩
 |(k,x)::r=>by
  obtain⟨i1,i2⟩:=uy f v r
  rw[show kO f v ((k,x)::r)=(if k=f then(k,v)::r else(k,x)::kO f v r)from rfl]
  by_cases hk:k=f
  ·rw[if_pos hk]
   subst hk
   exact⟨by simp,fun g h=>by simpa using h⟩
  ·rw[if_neg hk]
   refine⟨?_,fun g h=>?_⟩
   ·rw[map_cons]
    exact mem_cons_of_mem _ i1
   ·rw[map_cons]at h⊢
    rcases mem_cons.mp h with e|e
    ·exact mem_cons.mpr (.inl e)
    ·exact mem_cons_of_mem _ (i2 g e)
theorem vK(f:Str)(v:V):∀fs:List (Str×V),(kO f v fs).length<=fs.length+1
 |[]=>by simp[kO]
 |(k,x)::r=>by
  have ih:=vK f v r
  rw[show kO f v ((k,x)::r)=(if k=f then(k,v)::r else(k,x)::kO f v r)from rfl]
  by_cases hk:k=f
  ·rw[if_pos hk,length_cons,length_cons];omega
  ·rw[if_neg hk,length_cons,length_cons];omega
theorem pP.some_of {v:V}{o:Option Value}(r:pP (some v) o):∃u,o=some u/\RelV v u:=by
 cases o with
 |none=>exact(show False from r).elim
 |some u=>exact⟨u,rfl,r⟩
theorem pP.none_of {o:Option Value}(r:pP none o):o=none:=by
 cases o with
 |none=>rfl
 |some u=>exact(show False from r).elim
theorem Hh{v:V}{u:Value}(r:RelV v u):handedIn u=true:=by
 cases v with
 |non=>cases (show u=Value.none from r);rfl
 |bl b=>cases (show u=Value.bool b from r);rfl
 |int i=>obtain⟨t,e⟩:=(show∃t,u=Value.int i t from r);cases e;rfl
 |str x=>obtain⟨t,e⟩:=(show∃t,u=Value.str x t from r);cases e;rfl
 |IK b=>obtain⟨t,e⟩:=(show∃t,u=Value.bytes b t from r);cases e;rfl
 |Rx b=>obtain⟨t,e⟩:=(show∃t,u=Value.float b t from r);cases e;rfl
 |ref a=>cases (show u=Value.ref a from r);rfl
 |ty n=>cases (show u=Value.type n from r);rfl
section
variable{P:Program}{w:World}{H H':Hp}{h h':Heap}{a C dx:Addr}{fs Y8:List (Str×V)}
theorem wN(hok:nX P w H h)(e:H a=some (.ins C dx fs)):∃mA,DC h a dx C mA/\(∀f,pP (fs.lookup f) (mA f))/\PySem.Within mA (fs.map (·.1))/\fs.length<=1000/\H dx=some (.own a):=by
 obtain⟨d,z,ne,ob,mA,n,r,q⟩:=(show cD P w H h a (.ins C dx fs)from hok a _ e)
 exact⟨mA,⟨ob,n,ne⟩,r,q,z,d⟩
end
structure Ju(K:'b')(C:Addr):Prop where
 pg:plainGet K C Str.empty=true
 hd:hasDictIn K C=true
 po:plainOver K C=true
 sa:findIn K (.ref C) "__setattr__"=some (some (.builtin "object.__setattr__"))
theorem Ju.get {K:'b'}{C:Addr}(c:Ju K C)(f:Str):plainGet K C f=true:=c.pg
def gn(K:'b')(C:Addr)(f:Str):Prop:=findIn K (.ref C) f=some none
theorem gn.Wj {K:'b'}{C:Addr}{f:Str}(n:gn K C f):takerIn K C f=some none:=by
 unfold takerIn
 rw[show findIn K (.ref C) f=some none from n]
 rfl
structure Meth(K:'b')(C:Addr)(m:Str)(f:Addr):Prop where
 at_:findIn K (.ref C) m=some (some (.ref f))
 fn:isFn K (.ref f)=true
 kp:keepIn K (.ref f)=true
section
variable{X:Cx}{pins:List (Addr×Obj)}{σ:St}{H:Hp}{s:Shared}{a C dx:Addr}{fs:List (Str×V)}{f:Str}{v:V}{A:Around}{E:Value->Shared->Prop}
theorem DD{b:Bool}{Q:Value->Shared->Prop}(I:Inv X pins σ H s)(e:H a=some (.ins C dx fs))(c:Ju X.K C)(n:gn X.K C f)(l:fs.lookup f=some v)
  (h:∀u s',Inv X pins σ H s'->RelV v u->Q u s'):wpAny (model X.prog X.w) A (getAttr (.ref a) f b) Q E s:=by
 obtain⟨mA,O,r,_,_,_⟩:=wN I.hok e
 obtain⟨u,hu,ru⟩:=pP.some_of (v:=v) (o:=mA f) (by rw[<-l];exact r f)
 exact get_map I.qM O (c.get f) c.hd n hu (Hh ru) (h u _ (I.tok _) ru)
theorem xx{m:Str}{g:Addr}{pl:Sem Bool}{Q:Value×List Value->Shared->Prop}(I:Inv X pins σ H s)(e:H a=some (.ins C dx fs))(c:Ju X.K C)(k:Meth X.K C m g)(l:fs.lookup m=none)
  (h:Q (.ref g,[.ref a]) s):wpAny (model X.prog X.w) A (getMethod (.ref a) m pl) Q E s:=by
 obtain⟨mA,O,r,_,_,_⟩:=wN I.hok e
 have hn:mA m=none:=pP.none_of (by rw[<-l];exact r m)
 exact Js I.qM O (c.get m) k.at_ k.fn hn h
theorem DF{y:V}{u:Value}{Q:Unit->Shared->Prop}(I:Inv X pins σ H s)(e:H a=some (.ins C dx fs))(c:Ju X.K C)(n:gn X.K C f)(hl:fs.length<1000)(ry:RelV y u)
  (h:∀s',Inv X pins σ (upd H a (.ins C dx (kO f y fs))) s'->Q () s'):wpAny (model X.prog X.w) A (setAttr (.ref a) f u) Q E s:=by
 obtain⟨mA,O,r,wi,_,ho⟩:=wN I.hok e
 have hz:(fs.map (·.1)).length<=sizeLine:=by rw[length_map,sizeLine_eq];omega
 refine Nz I.qM O c.sa c.po n.Wj c.hd wi hz fun h' O' sb=>h _ ?_
 have hd:∃o,h'.get? dx=some o:=let⟨o,_,_,e',_⟩:=O'.ns;⟨o,e'⟩
 refine I.write (x:=a) (e:=dx) (by rw[e];exact True.intro) (.inr ho) (fun b q hb z=>(sb.2 b hb).trans z) hd ?_
 refine⟨by rw[aj O.ne];exact ho,?_,O.ne,O'.obj,_,O'.ns,fun g=>?_,fun g hg=>?_⟩
 ·have:=vK f y fs;omega
 ·show pP ((kO f y fs).lookup g) (if g=f then some u else mA g)
  rw[vJ]
  by_cases q:g=f
  ·rw[if_pos q,if_pos q];exact ry
  ·rw[if_neg q,if_neg q];exact r g
 ·by_cases q:g=f
  ·rw[q];exact(uy f y fs).1
  ·refine(uy f y fs).2 g (wi g fun z=>hg ?_)
   show(if g=f then some u else mA g)=none
   rw[if_neg q];exact z
theorem Inv.made (I:Inv X pins σ H s):Inv X pins σ (upd (upd H s.heap.objs.size (.own (s.heap.objs.size+1))) (s.heap.objs.size+1) (.ins C s.heap.objs.size []))
  {s with heap:=(s.heap.push emptyDict).push (instObj C s.heap.objs.size)}:=by
 have e1:(s.heap.push emptyDict).get? s.heap.objs.size=some emptyDict:=Heap.get?_push_size s.heap rfl
 have e2:((s.heap.push emptyDict).push (instObj C s.heap.objs.size)).get? (s.heap.objs.size+1)=some (instObj C s.heap.objs.size):=by
  have:=Heap.get?_push_size (s.heap.push emptyDict) (o:=instObj C s.heap.objs.size) rfl
  rwa [Heap.size_push]at this
 have e3:(s.heap.push emptyDict).Ns s.heap.objs.size (fun _=>none):=⟨emptyDict,#[],_,e1,rfl,(fun e he=>absurd he (by simp)),fun _=>rfl⟩
 have I1:=I.laid (a:=s.heap.objs.size) (o:=.own (s.heap.objs.size+1)) (h':=s.heap.push emptyDict) (t':=s.toks) (fun b u q=>Heap.get?_push_of_some _ q) (Nat.le_refl _) ⟨_,e1⟩
 refine I1.laid (a:=s.heap.objs.size+1) (o:=.ins C s.heap.objs.size []) (t':=s.toks) (fun b u q=>Heap.get?_push_of_some _ q) (le_of_eq (Heap.size_push _ _)) ?_
 have ne:s.heap.objs.size≠s.heap.objs.size+1:=ne_of_lt (lt_succ_self _)
 refine⟨by rw[aj ne,ak],zero_le _,ne,e2,fun _=>none,(Heap.Ns1.of_empty e3).at fun o q=>Heap.get?_push_of_some _ q,fun _=>True.intro,fun y hy=>absurd rfl hy⟩
theorem NB{prog:Program}{w:World}{env:Env}{e:Expr}{f:Str}{pos:Pos}{s:Shared}{Q:Value->Shared->Prop}(hb:attributeBase e f env (eval e env)=eval e env)
  (h:wpAny (model prog w) A (eval e env) (fun o s₁=>wpAny (model prog w) A (getAttr o f true) Q E s₁) E s):wpAny (model prog w) A (eval (.Attribute e f pos) env) Q E s:=
 Attribute_any_ h (by rw[arm_eval_Attribute,hb])
end
def Wk(K:'b')(ta:TE)(f:Str):TE:=fun σ H Q=>ta σ H fun x H1=>∃a C dx fs v,x=.ref a/\H1 a=some (.ins C dx fs)/\Ju K C/\gn K C f/\fs.lookup f=some v/\Q v H1
def aao(K:'b')(ta tv:TE)(f:Str):TS:=fun D σ H=>tv σ H fun y H1=>ta σ H1 fun x H2=>∃a C dx fs,x=.ref a/\H2 a=some (.ins C dx fs)/\Ju K C/\gn K C f/\fs.length<1000/\
 D.nx σ (upd H2 a (.ins C dx (kO f y fs)))
section
variable{X:Cx}{o e value:Expr}{f:Str}{pos pos' aap:Pos}{ta tv:TE}
theorem bD(he:PE X e ta)(hb:attributeBase e f X.env (eval e X.env)=eval e X.env):PE X (.Attribute e f pos) (Wk X.K ta f):=by
 intro pins s σ H Q I h
 refine NB hb (cC (he pins s σ H _ I h) fun u s1 ⟨x,H1,I1,rx,a,C,dx,fs,v,ex,ea,c,n,l,q⟩=>?_)
 subst ex
 obtain rfl:u=Value.ref a:=rx
 exact DD I1 ea c n l fun u' s2 I2 ru=>⟨v,H1,I2,ru,q⟩
theorem mB(ha:PE X o ta)(hv:PE X value tv)(hs:swapsWith value (some (.Attribute o f pos')) pos.line X.env=pure false):PS X (.Assign [.Attribute o f pos'] value pos) (aao X.K ta tv f):=by
 intro pins s σ H D I h
 refine plainObj_wpAny_Assign_Attribute (cC (hv pins s σ H _ I h) fun u s1 ⟨y,H1,I1,ry,q⟩=>cC (ha pins s1 σ H1 _ I1 q) fun ov s2 ⟨x,H2,I2,rx,a,C,dx,fs,ex,ea,c,n,l,q2⟩=>?_) hs
 subst ex
 obtain rfl:ov=Value.ref a:=rx
 exact DF I2 ea c n l ry fun s3 I3=>⟨σ,_,I3,q2⟩
end
section
variable{X:Cx}{pins:List (Addr×Obj)}{σ:St}{H:Hp}{s:Shared}{A:Around}{E:Value->Shared->Prop}{Q:Value->Shared->Prop}{c:Value}{b:Bool}
inductive wg (K:'b') (H:Hp):V->Value->Prop where
 |non:wg K H .non (.type "NoneType")
 |bl (x:Bool):wg K H (.bl x) (.type "bool")
 |int (i:Int):wg K H (.int i) (.type "int")
 |str (x:Str):wg K H (.str x) (.type "str")
 |Rx (x:UInt64):wg K H (.Rx x) (.type "float")
 |lst {a:Addr} {xs:List V} (e:H a=some (.lst xs)):wg K H (.ref a) (.type "list")
 |nW {a:Addr} {o:Obj} {xs:List V} (e:H a=some (.nW o (.lst xs))):wg K H (.ref a) (.type "list")
 |tup {a:Addr} {xs:List V} (e:H a=some (.tup xs)):wg K H (.ref a) (.type "tuple")
 |dK {a:Addr} {kvs:List (Key×V)} (e:H a=some (.dK kvs)):wg K H (.ref a) (.type "dict")
 |dT {a:Addr} {kvs:List (List Key×V)} (e:H a=some (.dT kvs)):wg K H (.ref a) (.type "dict")
 |ins {a C dx:Addr} {fs:List (Str×V)} (e:H a=some (.ins C dx fs)) (cl:Ju K C) (ha:findIn K (.ref C) "__class__"=some (some (.builtin "object.__class__")))
   (hn:specialIn K (.builtin "object.__class__") "__get__"=some (some (.builtin "getset_descriptor.__get__"))) (htk:takesIn K (.builtin "object.__class__")=some true)
   (hm:mroIn K C (.type "object")=some true):wg K H (.ref a) (.ref C)
theorem qO{x:V}{u t:Value}(I:Inv X pins σ H s)(rx:RelV x u)(ty:wg X.K H x t)(e:kitOne X.K t c=some b)(h:∀tk,Q (.bool b) {s with toks:=tk}):
  wpAny (model X.prog X.w) A (call (.builtin "isinstance") [u,c]) Q E s:=by
 cases ty with
 |non=>cases (show u=Value.none from rx);exact kia_one kitx_none I.qM True.intro e (fun z=>nomatch z) h
 |bl y=>cases (show u=Value.bool y from rx);exact kia_one PySem.W.kitx_bool I.qM True.intro e (fun z=>nomatch z) h
 |int i=>obtain⟨t,q⟩:=(show∃t,u=Value.int i t from rx);cases q;exact kia_one PySem.W.kitx_int I.qM True.intro e (fun z=>nomatch z) h
 |str y=>obtain⟨t,q⟩:=(show∃t,u=Value.str y t from rx);cases q;exact kia_one PySem.W.kitx_str I.qM True.intro e (fun z=>nomatch z) h
 |Rx y=>obtain⟨t,q⟩:=(show∃t,u=Value.float y t from rx);cases q;exact kia_one PySem.W.kitx_float I.qM True.intro e (fun z=>nomatch z) h
 | @lst a xs ea=>
  cases (show u=Value.ref a from rx)
  obtain⟨_,_,n,_,h1⟩:=(show cD X.prog X.w H s.heap a (.lst xs)from I.hok a _ ea)
  exact kia_one kitx_list I.qM ⟨_,h1,rfl⟩ e (fun z=>nomatch z) h
 | @nW a ob xs ea=>
  cases (show u=Value.ref a from rx)
  obtain⟨_,_,_,n,_,h1⟩:=(show cD X.prog X.w H s.heap a (.nW ob (.lst xs))from I.hok a _ ea)
  exact kia_one kitx_list I.qM ⟨_,h1,rfl⟩ e (fun z=>nomatch z) h
 | @tup a xs ea=>
  cases (show u=Value.ref a from rx)
  obtain⟨_,_,_,p⟩:=(show cD X.prog X.w H s.heap a (.tup xs)from I.hok a _ ea)
  obtain⟨o,h1,h2,_⟩:=p
  exact kia_one kitx_tuple I.qM ⟨o,h1,h2⟩ e (fun z=>nomatch z) h
 | @dK a kvs ea=>
  cases (show u=Value.ref a from rx)
  obtain⟨_,_,vs,_,p⟩:=(show cD X.prog X.w H s.heap a (.dK kvs)from I.hok a _ ea)
  obtain⟨o,es,ep,h1,h2,_⟩:=p
  exact kia_one kitx_dict I.qM ⟨o,h1,h2.1⟩ e (fun z=>nomatch z) h
 | @dT a kvs ea=>
  cases (show u=Value.ref a from rx)
  obtain⟨_,_,xs,_,o,es,ep,h1,h2,_⟩:=(show cD X.prog X.w H s.heap a (.dT kvs)from I.hok a _ ea)
  exact kia_one kitx_dict I.qM ⟨o,h1,h2.1⟩ e (fun z=>nomatch z) h
 | @ins a C dx fs ea cl ha hn htk hm=>
  cases (show u=Value.ref a from rx)
  obtain⟨mA,O,_⟩:=wN I.hok ea
  obtain⟨od,J,_⟩:=O.look
  exact kia_one (PySem.W.kitx_own (cl.get _) cl.hd ha hn htk hm) I.qM J e (fun z=>nomatch z) h
end
end L2
namespace L2
open PySem PySem.Spec PyProof.Rows
structure aY(k:Nat)(A:Around):Prop where
 hd:A.handled=none
 dp:A.depth+3*k+5<recursionLimit
 un:A.units+16*k+200<cLine
theorem aY.mono {j k:Nat}{A:Around}(r:aY k A)(h:j<=k):aY j A:=⟨r.hd,by have:=r.dp;omega,by have:=r.un;omega⟩
theorem aY.deeper {k:Nat}{A:Around}(r:aY (k+1) A)(env:Env):aY k (A.deeper env):=
 ⟨r.hd,by have:=r.dp;show A.depth+1+3*k+5<_;omega,by have:=r.un;show A.units+3+16*k+200<_;omega⟩
theorem DG{A:Around}{C:Addr}{us:List Value}{kw:List (Str×Value)}:(A.under (.builtin "type.__call__" ⟨.ref C::us,kw⟩)).depth=A.depth+1:=by
 first|rfl|simp[Around.under,Code.weight,Code.isCreation,Code.isGuard,Code.isCaller,Code.frames,Code.isFrame,guardIds]
theorem DH{A:Around}{C:Addr}{us:List Value}{kw:List (Str×Value)}:(A.under (.builtin "type.__call__" ⟨.ref C::us,kw⟩)).units=A.units+1:=by
 first|rfl|simp[Around.under,Code.cUnits,Code.frames,Code.isFrame]
theorem aY.make {k:Nat}{A:Around}(r:aY (k+1) A)(C:Addr)(us:List Value)(kw:List (Str×Value)):aY k (A.under (.builtin "type.__call__" ⟨.ref C::us,kw⟩)):=
 ⟨r.hd,by have:=r.dp;rw[DG];omega,by have:=r.un;rw[DH];omega⟩
theorem aY.depth {k:Nat}{A:Around}(r:aY k A):A.depth<recursionLimit:=by have:=r.dp;omega
theorem aY.units {k:Nat}{A:Around}(r:aY k A):A.units+64<cLine:=by have:=r.un;omega
def Jv:TA:=fun _ H Q=>Q [] H
def E7(ta:TE)(tr:TA):TA:=fun σ H Q=>ta σ H fun x H1=>tr σ H1 fun xs H2=>Q (x::xs) H2
section
variable{X:Cx}{e:Expr}{es:List Expr}{te:TE}{t:TA}{pos:Pos}
theorem aL:PA X [] Jv:=fun _ _ _ _ H Q I h=>Calls.spliced_nil ⟨[],H,I,.nil,h⟩
theorem ao(ha:PE X e te)(hr:PA X es t)(hs:'e':=by rfl):PA X (e::es) (E7 te t):=by
 intro pos pins s σ H Q I h
 rw[hs]
 show wpAny _ _ (spliced ((false,eval e X.env)::backTo pos (starEach es X.env))) _ _ s
 refine Calls.spliced_cons (cC (ha pins s σ H _ I h) fun u s1 ⟨x,H1,I1,r1,q1⟩=>?_)
 exact cC (hr pos pins s1 σ H1 _ I1 q1) fun us s2 ⟨xs,H2,I2,r2,q2⟩=>⟨x::xs,H2,I2,.cons r1 r2,q2⟩
def aaq(t:TA):TE:=fun σ H Q=>t σ H fun xs H1=>xs.length<=sizeLine/\∀p,H1 p=none->Q (.ref p) (upd H1 p (.tup xs))
def aar(t:TA):TE:=fun σ H Q=>t σ H fun xs H1=>xs.length<=sizeLine/\∀p,H1 p=none->Q (.ref p) (upd H1 p (.lst xs))
theorem r9{x1}(h:PA X es t):PE X (.Tuple es x1 pos) (aaq t):=by
 intro pins s σ H Q I hq
 refine wpAny_Tuple_spliced (cC (h pos pins s σ H _ I hq) fun us s1 ⟨xs,H1,I1,r,z,q⟩=>⟨by rw[<-r.length];exact z,?_⟩)
 have hf:H1 s1.heap.objs.size=none:=I1.hok.fresh (Nat.le_refl _)
 refine⟨.ref s1.heap.objs.size,upd H1 s1.heap.objs.size (.tup xs),I1.laid (t':=s1.toks) (fun b u e=>Heap.get?_push_of_some _ e) (Nat.le_refl _) ?_,rfl,q _ hf⟩
 exact⟨z,us,r,⟨_,Heap.get?_push_size _ rfl,rfl,_,rfl⟩⟩
theorem uz(h:PA X es t):PE X (.List es pos) (aar t):=by
 intro pins s σ H Q I hq
 refine wpAny_List_spliced (cC (h pos pins s σ H _ I hq) fun us s1 ⟨xs,H1,I1,r,z,q⟩=>⟨by rw[<-r.length];exact z,?_⟩)
 have hf:H1 s1.heap.objs.size=none:=I1.hok.fresh (Nat.le_refl _)
 refine⟨.ref s1.heap.objs.size,upd H1 s1.heap.objs.size (.lst xs),I1.laid (t':=s1.toks) (fun b u e=>Heap.get?_push_of_some _ e) (Nat.le_refl _) ?_,rfl,q _ hf⟩
 exact⟨z,us,0,r,Heap.get?_push_size _ rfl⟩
end
abbrev Sp:=List V->Hp->VK->XK->Prop
abbrev IM:=List Env->Hp->Shared->XK->Value->Shared->Prop
structure DI(P:Program)(w:World)(K:'b')(mg:Str->Option Value)(base:Heap)(A:Around)(outer:List Env)(s:Shared)(H:Hp):Prop where
 frames:A.frames=some outer
 mod:Mod K mg base
 bs:∀b o,base.get? b=some o->s.heap.get? b=some o/\H b=none
 IL:base.objs.size<=s.heap.objs.size
 rZ:s.heap.FunFrames base outer
 MV:∀b∈Ao outer,H b=none
 hok:nX P w H s.heap
 bare:AllBare s.gens
def CE(outer:List Env)(P:Program)(w:World)(H:Hp)(s:Shared)(Q:VK)(u:Value)(s':Shared):Prop:=
 ∃v H',s'.os=s.os/\AllBare s'.gens/\Un (Ao outer) [] H H' s.heap s'.heap/\nX P w H' s'.heap/\RelV v u/\Q v H'
def CR(CX:IM)(outer:List Env)(P:Program)(w:World)(H:Hp)(s:Shared)(Q:VK)(E:XK)(r:Result)(s':Shared):Prop:=
 match r with
 |.ok (.ret u)=>CE outer P w H s Q u s'
 |.ok _=>False
 |.error e=>CX outer H s E e s'
structure b8(P:Program)(w:World)(K:'b')(mg:Str->Option Value)(base:Heap)(CX:IM)(k:Nat)(f:Addr)(fd:FuncData)(ps:List Str)(sp:Sp):Prop where
 len:∀vs H Q E,sp vs H Q E->vs.length=ps.length
 run:∀(A:Around)(outer:List Env)(s:Shared)(H:Hp)(args:Args)(us:List Value)(vs:List V)(Q:VK)(E:XK),aY k A->DI P w K mg base A outer s H->BindsTo s fd args (ps.zip us)->Vals vs us->sp vs H Q E->
  codeAny (model P w) A (.call (.ref f) args) (CR CX outer P w H s Q E) s
theorem DI.make {P:Program}{w:World}{K:'b'}{mg:Str->Option Value}{base:Heap}{A:Around}{outer:List Env}{s:Shared}{H:Hp}(e:DI P w K mg base A outer s H)(C:Addr)(us:List Value)(kw:List (Str×Value)):
  DI P w K mg base (A.under (.builtin "type.__call__" ⟨.ref C::us,kw⟩)) outer s H:=⟨by first|exact e.frames|(simpa[Around.under,Code.envs,Code.isFrame,pushEnvs]using e.frames),e.mod,e.bs,e.IL,e.rZ,e.MV,e.hok,e.bare⟩
section
variable{X:Cx}{pins:List (Addr×Obj)}{σ:St}{H:Hp}{s s':Shared}
theorem Inv.R6 (I:Inv X pins σ H s):DI X.prog X.w X.K X.mg X.base X.A X.stack s H:=
 ⟨I.ok.frames,I.ok.mod,I.bs,le_trans I.ok.IL I.sz,I.stack,I.wJ,I.hok,I.bare⟩
theorem Inv.after {Q:VK}{u:Value}(I:Inv X pins σ H s)(h:CE X.stack X.prog X.w H s Q u s'):EP X pins σ Q u s':=by
 obtain⟨v,H',os,bare,un,hok,r,q⟩:=h
 obtain⟨hh,g,d,t,gu⟩:=s'
 obtain rfl:gu=s.os:=os
 exact⟨v,H',I.call (h':=hh) (g':=g) (d':=d) (t':=t) (ch:=[]) un hok bare (fun b z=>absurd z (by simp)),r,q⟩
end
def Wl(sp:Sp)(yY:List V)(E:XK)(t:TA):TE:=fun σ H Q=>t σ H fun vs H1=>sp (vs++yY) H1 Q E
def PJ(C:Addr)(m:Str)(sp:Sp)(yY:List V)(E:XK)(ta:TE)(t:TA):TE:=fun σ H Q=>ta σ H fun x H1=>∃a dx fs,x=.ref a/\H1 a=some (.ins C dx fs)/\fs.lookup m=none/\
 t σ H1 fun vs H2=>sp (x::(vs++yY)) H2 Q E
def Wm(C:Addr)(sp:Sp)(yY:List V)(E:XK)(t:TA):TE:=fun σ H Q=>t σ H fun vs H1=>∀x dx,H1 x=none->H1 dx=none->dx≠x->
 sp (.ref x::(vs++yY)) (upd (upd H1 dx (.own x)) x (.ins C dx [])) (fun v H2=>v=.non/\Q (.ref x) H2) E
def Binds(K:'b')(fd:FuncData)(ps:List Str)(ds:List Value):Prop:=
 ∀(s:Shared)(us:List Value),K.In s.heap->(us++ds).length=ps.length->BindsTo s fd ⟨us,[]⟩ (ps.zip (us++ds))
theorem Binds.all {K:'b'}{fd:FuncData}{ps:List Str}(h:∀us:List Value,us.length=ps.length->bindArgs fd ⟨us,[]⟩=pure (ps.zip us)):Binds K fd ps []:=fun s us _ hl=>by
 rw[append_nil]at hl⊢
 exact .of_eq (h us hl)
def Passes(CX:IM)(X:Cx)(E:XK):Prop:=∀(pins:List (Addr×Obj))(σ:St)(H:Hp)(s:Shared)(e:Value)(s':Shared),Inv X pins σ H s->CX X.stack H s E e s'->X.xe e s'
section
variable{X:Cx}{CX:IM}{k:Nat}{f C:Addr}{fd:FuncData}{ps:List Str}{sp:Sp}{yY:List V}{ds:List Value}{E:XK}{x m:Str}{p pos apos:Pos}{e o:Expr}{es:List Expr}{ta:TE}{t:TA}
theorem DJ{pins:List (Addr×Obj)}{σ:St}{H:Hp}{s:Shared}{Q:VK}{us:List Value}{vs:List V}(F:b8 X.prog X.w X.K X.mg X.base CX k f fd ps sp)(hr:aY k X.A)(hb:Binds X.K fd ps ds)(hd:Vals yY ds)(hx:Passes CX X E)
  (I:Inv X pins σ H s)(r:Vals vs us)(h:sp (vs++yY) H Q E):wpAny (model X.prog X.w) X.A (call (.ref f) us) (EP X pins σ Q) X.xe s:=by
 have r2:Vals (vs++yY) (us++ds):=r.append hd
 have hl:(us++ds).length=ps.length:=by rw[<-r2.length];exact F.len _ _ _ _ h
 refine wpAny_call (codeAny_mono (F.run X.A X.stack s H ⟨us,[]⟩ (us++ds) (vs++yY) Q E hr I.R6 (hb s us I.qM hl) r2 h) fun r s' hq=>?_)
 cases r with
 |error e=>exact hx pins σ H s e s' I hq
 |ok fl=>
  cases fl with
  |ret u=>exact I.after hq
  |next=>exact False.elim hq
  |brk=>exact False.elim hq
  |cont=>exact False.elim hq
theorem eO(F:b8 X.prog X.w X.K X.mg X.base CX k f fd ps sp)(hr:aY k X.A)(hg:Gl X x)(hm:X.mg x=some (.ref f))(hk:keepIn X.K (.ref f)=true)(hb:Binds X.K fd ps ds)(hd:Vals yY ds)(hx:Passes CX X E)
  (ha:PA X (e::es) t)(hdb:(x==("__debug__":Str))=false:=by decide)(he:'e':=by rfl)(hpl:(backTo pos (starEach es X.env)).any (·.1)=false:=by rfl):
  PE X (.Call (.Name x p) (e::es) [] pos) (Wl sp yY E t):=by
 intro pins s σ H Q I h
 refine wpAny_Call_Name_kw (qN I hg hm ?_ hdb)
 refine callWith_K (h₀:=X.base) I.ok.mod.RA hk (cC (ha pos pins s σ H _ I h) fun us s1 ⟨vs,H1,I1,r,q⟩=>⟨I1.qM,?_⟩) he hpl
 exact DJ F hr hb hd hx I1 r q
theorem jx{pl:Sem Bool}(he:PE X o ta)(c:Ju X.K C)(hm:Meth X.K C m f)(F:b8 X.prog X.w X.K X.mg X.base CX k f fd ps sp)(hr:aY k X.A)(hb:Binds X.K fd ps ds)(hd:Vals yY ds)(hx:Passes CX X E)(ha:PA X (e::es) t)
  (hst:'e':=by rfl)(hpl:(backTo pos (starEach es X.env)).any (·.1)=false:=by rfl)
  (ht:eval (.Call (.Attribute o m apos) (e::es) [] pos) X.env=(do
   let ov<-eval o X.env
   standAt apos.atName
   let(f,first)<-holding [ov] (getMethod ov m pl)
   callWith pos f first (backTo pos (starEach (e::es) X.env)) (backToKw pos (keywordEach [] X.env))):=by rfl):
  PE X (.Call (.Attribute o m apos) (e::es) [] pos) (PJ C m sp yY E ta t):=by
 intro pins s σ H Q I h
 refine methodCall_KW (pl:=pl) (cC (he pins s σ H _ I h) fun u s1 ⟨x,H1,I1,rx,a,dx,fs,ex,ea,l,q⟩=>?_) ht
 subst ex
 obtain rfl:u=Value.ref a:=rx
 refine xx I1 ea c hm l ?_
 refine callWith_K (first:=[.ref a]) (h₀:=X.base) I.ok.mod.RA hm.kp (cC (ha pos pins s1 σ H1 _ I1 q) fun us s2 ⟨vs,H2,I2,r,q2⟩=>⟨I2.qM,?_⟩) hst hpl
 exact DJ (us:=.ref a::us) (vs:=.ref a::vs) F hr hb hd hx I2 (.cons rfl r) q2
theorem Jw{pl:Sem Bool}(he:PE X o ta)(c:Ju X.K C)(hm:Meth X.K C m f)(F:b8 X.prog X.w X.K X.mg X.base CX k f fd ps sp)(hr:aY k X.A)(hb:Binds X.K fd ps ds)(hd:Vals yY ds)(hx:Passes CX X E)
  (ht:eval (.Call (.Attribute o m apos) [] [] pos) X.env=(do
   let ov<-eval o X.env
   standAt apos.atName
   let(f,first)<-holding [ov] (getMethod ov m pl)
   callWith pos f first (backTo pos (starEach [] X.env)) (backToKw pos (keywordEach [] X.env))):=by rfl):
  PE X (.Call (.Attribute o m apos) [] [] pos) (PJ C m sp yY E ta Jv):=by
 intro pins s σ H Q I h
 refine methodCall_KW (pl:=pl) (cC (he pins s σ H _ I h) fun u s1 ⟨x,H1,I1,rx,a,dx,fs,ex,ea,l,q⟩=>?_) ht
 subst ex
 obtain rfl:u=Value.ref a:=rx
 refine xx I1 ea c hm l ?_
 exact PySem.W.callWith_K0 (first:=[.ref a]) I1.qM hm.kp (DJ (us:=[.ref a]) (vs:=[.ref a]) F hr hb hd hx I1 (.cons rfl .nil) q)
structure Mk(K:'b')(C f:Addr):Prop where
 makes:makesIn K C=true
 init:findIn K (.ref C) "__init__"=some (some (.ref f))
 fn:isFn K (.ref f)=true
 kp:keepIn K (.ref C)=true
theorem Jy{pins:List (Addr×Obj)}{σ:St}{H:Hp}{s:Shared}{Q:VK}{us:List Value}{vs:List V}(M:Mk X.K C f)(F:b8 X.prog X.w X.K X.mg X.base CX k f fd ps sp)(hr:aY (k+1) X.A)(hb:Binds X.K fd ps ds)(hd:Vals yY ds)
  (hx:Passes CX X E)(I:Inv X pins σ H s)(r:Vals vs us)
  (h:∀x dx,H x=none->H dx=none->dx≠x->sp (.ref x::(vs++yY)) (upd (upd H dx (.own x)) x (.ins C dx [])) (fun v H2=>v=.non/\Q (.ref x) H2) E):
  wpAny (model X.prog X.w) X.A (call (.ref C) us) (EP X pins σ Q) X.xe s:=by
 have hq:=h (s.heap.objs.size+1) s.heap.objs.size (I.hok.fresh (le_succ _)) (I.hok.fresh (Nat.le_refl _)) (ne_of_lt (lt_succ_self _))
 have I2:=Inv.made (C:=C) I
 have r2:Vals (V.ref (s.heap.objs.size+1)::(vs++yY)) (Value.ref (s.heap.objs.size+1)::(us++ds)):=.cons rfl (r.append hd)
 have hl:(Value.ref (s.heap.objs.size+1)::us++ds).length=ps.length:=by
  have e:=r2.length
  rw[F.len _ _ _ _ hq]at e
  exact e.symm
 refine wpAny_call (Jt (f:=f) I.qM M.makes M.init (beq_iff_eq.mp M.fn) (codeAny_mono (F.run _ X.stack _ _ ⟨Value.ref (s.heap.objs.size+1)::us,[]⟩ (Value.ref (s.heap.objs.size+1)::(us++ds)) _ _ E (hr.make C us [])
  (I2.R6.make C us []) (hb _ (Value.ref (s.heap.objs.size+1)::us) I2.qM hl) r2 hq) fun r s' ND=>?_))
 cases r with
 |error e=>exact hx pins σ _ _ e s' I2 ND
 |ok fl=>
  cases fl with
  |ret u=>
   obtain⟨v,H',I3,rv,ev,q3⟩:=I2.after ND
   subst ev
   exact⟨rv,⟨V.ref (s.heap.objs.size+1),H',I3,rfl,q3⟩⟩
  |next=>exact False.elim ND
  |brk=>exact False.elim ND
  |cont=>exact False.elim ND
theorem NF(M:Mk X.K C f)(F:b8 X.prog X.w X.K X.mg X.base CX k f fd ps sp)(hr:aY (k+1) X.A)(hg:Gl X x)(hm:X.mg x=some (.ref C))(hb:Binds X.K fd ps ds)(hd:Vals yY ds)(hx:Passes CX X E)
  (ha:PA X (e::es) t)(hdb:(x==("__debug__":Str))=false:=by decide)(he:'e':=by rfl)(hpl:(backTo pos (starEach es X.env)).any (·.1)=false:=by rfl):
  PE X (.Call (.Name x p) (e::es) [] pos) (Wm C sp yY E t):=by
 intro pins s σ H Q I h
 refine wpAny_Call_Name_kw (qN I hg hm ?_ hdb)
 refine callWith_K (h₀:=X.base) I.ok.mod.RA M.kp (cC (ha pos pins s σ H _ I h) fun us s1 ⟨vs,H1,I1,r,q⟩=>⟨I1.qM,?_⟩) he hpl
 exact Jy M F hr hb hd hx I1 r q
end
structure aA(N P:List Str)(sc:Scope):Prop where
 kind:sc.kind=.function
 co:sc.isCoroutine=false
 gen:sc.isGenerator=false
 nd:N.Nodup
 pre:N.take P.length=P
 par:∀x∈P,sc.names.lookup x=some .local\/sc.names.lookup x=some .cell
 R7:∀y∈sc.names,y.2≠.free
theorem zB{kindOf:Str->Option NameKind}{x:Str}:∀{binds:List (Str×Value)}{m:Str->Option Value},(∀v,(x,v)∉binds)->bindL kindOf binds m x=m x
 |[],_,_=>rfl
 |(n,v)::r,m,h=>by
  unfold bindL
  rw[zB fun w hw=>h w (mem_cons_of_mem _ hw)]
  split
  ·have:x≠n:=by rintro rfl;exact h v mem_cons_self
   simp[this]
  ·rfl
theorem zC{kindOf:Str->Option NameKind}{x:Str}:∀{binds:List (Str×Value)}{m:Str->Option Value},(∀v,(x,v)∉binds)->bindC kindOf binds m x=m x
 |[],_,_=>rfl
 |(n,v)::r,m,h=>by
  unfold bindC
  rw[zC fun w hw=>h w (mem_cons_of_mem _ hw)]
  split
  ·rfl
  ·have:x≠n:=by rintro rfl;exact h v mem_cons_self
   simp[this]
theorem zD{kindOf:Str->Option NameKind}{x:Str}{v:Value}:∀{P:List Str}{vs:List Value}{i:Nat}{m:Str->Option Value},P.Nodup->P[i]?=some x->vs[i]?=some v->kindOf x=some .local->
  bindL kindOf (P.zip vs) m x=some v
 |[],_,_,_,_,h,_,_=>by simp at h
 |_::_,[],_,_,_,_,h,_=>by simp at h
 |p::P,w::vs,0,m,nd,h1,h2,hk=>by
  simp at h1 h2;subst h1;subst h2
  show bindL kindOf ((p,w)::P.zip vs) m p=_
  unfold bindL
  rw[zB fun v hv=>(nodup_cons.mp nd).1 (of_mem_zip hv).1,if_pos hk]
  simp
 |p::P,w::vs,i+1,m,nd,h1,h2,hk=>by
  show bindL kindOf ((p,w)::P.zip vs) m x=_
  unfold bindL
  exact zD (i:=i) (nodup_cons.mp nd).2 (by simpa using h1) (by simpa using h2) hk
theorem zE{kindOf:Str->Option NameKind}{x:Str}{v:Value}:∀{P:List Str}{vs:List Value}{i:Nat}{m:Str->Option Value},P.Nodup->P[i]?=some x->vs[i]?=some v->kindOf x≠some .local->
  bindC kindOf (P.zip vs) m x=some v
 |[],_,_,_,_,h,_,_=>by simp at h
 |_::_,[],_,_,_,_,h,_=>by simp at h
 |p::P,w::vs,0,m,nd,h1,h2,hk=>by
  simp at h1 h2;subst h1;subst h2
  show bindC kindOf ((p,w)::P.zip vs) m p=_
  unfold bindC
  rw[zC fun v hv=>(nodup_cons.mp nd).1 (of_mem_zip hv).1,if_neg hk]
  simp
 |p::P,w::vs,i+1,m,nd,h1,h2,hk=>by
  show bindC kindOf ((p,w)::P.zip vs) m x=_
  unfold bindC
  exact zE (i:=i) (nodup_cons.mp nd).2 (by simpa using h1) (by simpa using h2) hk
def start(N:List Str)(vs:List V):St:=vs.map some++replicate (N.length-vs.length) none
def dD(CX:IM)(P:Program)(w:World)(K:'b')(mg:Str->Option Value)(base:Heap)(N:List Str)(qual:Str)(scope:Scope)(f:Addr)(cd:Value)(A:Around)(outer:List Env)(s:Shared)(H:Hp)(E:XK):Cx where
 prog:=P
 w:=w
 K:=K
 mg:=mg
 base:=base
 A:=A.deeper (envOfC qual scope s.heap.objs.size f cd)
 N:=N
 s₀:=s
 H₀:=H
 env:=envOfC qual scope s.heap.objs.size f cd
 outer:=outer
 stack:=envOfC qual scope s.heap.objs.size f cd::outer
 ex:=[]
 calm:=true
 fn:=fun _=>true
 pn:=[]
 xe:=fun e s'=>wpAny (model P w) (A.deeper (envOfC qual scope s.heap.objs.size f cd)) (leaving (envOfC qual scope s.heap.objs.size f cd) e) (fun _ s''=>CX outer H s E e s'') (fun e' s''=>CX outer H s E e' s'') s'
theorem BH{sc:Scope}{n:Nat}{x:Str}(h:sc.names.lookup x=some .cell):∃c,(cellsFrom n sc.names []).lookup x=some c:=by
 have q:=cellsFrom_some sc.names n [] (.inl h)
 exact isSome_iff_exists.mp q
theorem Hi{CX:IM}{P:Program}{w:World}{K:'b'}{mg:Str->Option Value}{base:Heap}{N ps:List Str}{qual:Str}{scope:Scope}{f:Addr}{cd:Value}{A:Around}{outer:List Env}{s s1:Shared}{H:Hp}{E:XK}{us:List Value}{vs:List V}
  (S:aA N ps scope)(hd:A.handled=none)(e0:DI P w K mg base A outer s H)(hl:vs.length=ps.length)(r:Vals vs us)
  (x:InCallC s s.heap.objs.size (bindL (envOfC qual scope s.heap.objs.size f cd).kindOf (ps.zip us) fun _=>none) (cellsFrom (s.heap.objs.size+1) scope.names []) (bindC (envOfC qual scope s.heap.objs.size f cd).kindOf (ps.zip us) fun _=>none) s1):
  Inv (dD CX P w K mg base N qual scope f cd A outer s H E) [] (start N vs) H s1:=by
 have hpl:ps.length<=N.length:=by have:=congrArg length S.pre;rw[length_take]at this;omega
 obtain⟨h1,tk,rfl,hk⟩:=x.done
 have Wn:∀b:Addr,b∉(dD CX P w K mg base N qual scope f cd A outer s H E).ex:=fun b z=>absurd (show b∈([]:List Addr)from z) (by simp)
 refine⟨⟨e0.mod,S.kind,rfl,rfl,Nat.le_refl _,fun y z c h1 h2=>?_,fun y hy=>?_,fun y c _ h=>?_,fun _=>hd,Around.frames_deeper e0.frames,.inr ⟨rfl,rfl⟩,fun b z=>absurd z (Wn b),e0.bs,e0.IL,fun b _ _=>Wn b,fun b z=>absurd z (Wn b),e0.rZ,e0.MV⟩,
  rfl,e0.bare,Un.kept hk,⟨_,x.toInCall.ns,fun i y v h1 h2 h3=>?_⟩,fun y c h=>⟨_,x.cell y c h⟩,e0.hok.fresh (Nat.le_refl _),fun y c h=>?_,fun p hp=>absurd (show p∈([]:List (Addr×Obj))from hp) (by simp),e0.hok.kept hk,?_⟩
 ·exact name_of_addr x.apart (PySem.mem_of_lookup h1) (PySem.mem_of_lookup h2)
 ·have hy:scope.names.lookup y=some .cell\/scope.names.lookup y=some .free:=hy
  rcases hy with hy|hy
  ·exact BH hy
  ·exact absurd rfl (S.R7 _ (PySem.mem_of_lookup hy))
 ·exact le_of_lt (x.above y c (PySem.mem_of_lookup h))
 ·have hi:i<vs.length:=by
   unfold start at h2
   by_cases hi:i<vs.length
   ·exact hi
   ·rw[getElem?_append_right (by simpa using hi)]at h2
    rw[getElem?_replicate]at h2
    split at h2<;>cases h2
  have ha:vs[i]?=some v:=by
   unfold start at h2
   rw[getElem?_append_left (by simpa using hi),getElem?_map]at h2
   cases e:vs[i]? with
   |none=>rw[e]at h2;cases h2
   |some a=>rw[e]at h2;cases h2;rfl
  obtain⟨u,hu,rv⟩:=r.get ha
  have hp:ps[i]?=some y:=by
   rw[<-S.pre,List.getElem?_take_of_lt 'a'];exact h1
  have ndP:ps.Nodup:=by rw[<-S.pre];exact S.nd.sublist (List.take_sublist _ _)
  refine⟨u,rv,?_⟩
  rcases S.par y (mem_of_getElem? hp)with k|k
  ·exact .inl ⟨k,zD ndP hp hu k⟩
  ·obtain⟨c,e⟩:=BH (n:=s.heap.objs.size+1) k
   refine .inr ⟨.inl k,c,e,?_⟩
   have q:=x.cell y c e
   rw[zE ndP hp hu (by show scope.names.lookup y≠_;rw[k];decide)]at q
   exact q
 ·exact e0.hok.fresh (le_of_lt (x.above y c (PySem.mem_of_lookup h)))
 ·unfold start
  show _=N.length
  rw[length_append,length_map,length_replicate]
  omega
theorem PK{CX:IM}{P:Program}{w:World}{K:'b'}{mg:Str->Option Value}{base:Heap}{k:Nat}{f:Addr}{name qual:Str}{params:Arguments}{body:List Stmt}{scope:Scope}{dV kV doc pm cdv ct oc:Value}{an od:Option Addr}
  {Hj:Array (Option Value)}{N ps:List Str}{sp:Sp}(lk:K.lookup f=some ⟨oc,od,.func (PySem.W.fnOf name qual params body scope dV kV doc pm an cdv ct),Hj⟩)(hcd:codeIn K cdv qual=true)(S:aA N ps scope)
  (len:∀vs H Q E,sp vs H Q E->vs.length=ps.length)
  (hbody:∀(A:Around)(outer:List Env)(s:Shared)(H:Hp)(vs:List V)(Q:VK)(E:XK),aY k (A.deeper (envOfC qual scope s.heap.objs.size f cdv))->sp vs H Q E->
   ∃t,rB (dD CX P w K mg base N qual scope f cdv A outer s H E) body t/\t {nx:=fun _ H'=>Q .non H',rt:=Q} (start N vs) H):
  b8 P w K mg base CX (k+1) f (PySem.W.fnOf name qual params body scope dV kV doc pm an cdv ct) ps sp:=by
 refine⟨len,fun A outer s H args us vs Q E hr e0 hb r Au=>?_⟩
 have hl:=len _ _ _ _ Au
 have KX:K.In s.heap:=e0.mod.RA.keeps fun b o e=>(e0.bs b o e).1
 have lim:s.heap.NoLimit:=e0.mod.nolimit.keeps fun b o e=>(e0.bs b o e).1
 have hkind:∀y∈ps.zip us,scope.names.lookup y.1=some .local\/(scope.names.lookup y.1=some .cell/\((cellsFrom (s.heap.objs.size+1) scope.names []).lookup y.1).isSome=true):=fun⟨n,v⟩ hy=>by
  rcases S.par n (of_mem_zip hy).1 with q|q
  ·exact .inl q
  ·exact .inr ⟨q,cellsFrom_some _ _ _ (.inl q)⟩
 refine codeAny_call_function hr.depth (KX _ _ lk) rfl S.co S.gen rfl (PySem.W.codeRec_of KX hcd) (hb _ _ _ _ ?_)
 refine wpAny_newFunctionEnv_cells S.kind hkind fun env he s1 x=>?_
 subst he
 refine⟨lim.keeps x.toInCall.keep,codeAny_func ?_⟩
 obtain⟨t,ht,hq⟩:=hbody A outer s H vs Q E (hr.deeper _) Au
 have I:Inv (dD CX P w K mg base N qual scope f cdv A outer s H E) [] (start N vs) H s1:=Hi S hr.hd e0 hl r x
 refine wpAny_mono (ht [] s1 (start N vs) H _ I hq) (fun fl s' hs=>?_) fun e s' hs=>hs
 have fin:∀{σ':St}{H':Hp}{v:V}{u:Value},Inv (dD CX P w K mg base N qual scope f cdv A outer s H E) [] σ' H' s'->RelV v u->Q v H'->CE outer P w H s Q u s':=
  fun{σ' H' v u} J rv q=>⟨v,H',J.os,J.bare,J.base,J.hok,rv,q⟩
 cases fl with
 |ret u=>
  obtain⟨v,σ',H',J,rv,q⟩:=hs
  exact fin J rv q
 |next=>
  obtain⟨σ',H',J,q⟩:=hs
  exact fin (v:=V.non) (u:=Value.none) J rfl q
 |brk=>
  obtain⟨_,_,_,q⟩:=hs
  exact False.elim q
 |cont=>
  obtain⟨_,_,_,q⟩:=hs
  exact False.elim q
end L2
namespace L2
open PySem PySem.Spec PyProof.Rows
section
variable{X:Cx}{x:Str}{p pos:Pos}{e:Expr}{es:List Expr}{t:TA}{id T:String}{r:List V->Hp->VK->Prop}
def tCB(r:List V->Hp->VK->Prop)(t:TA):TE:=fun σ H Q=>t σ H fun vs H1=>r vs H1 Q
theorem fu(hc:rK X (.builtin id) r)(hg:Gl X x)(hm:X.mg x=none)(hv:bootBuiltins x=some (.builtin id))(ha:PA X (e::es) t)(hn:x≠"__name__":=by decide)(hdb:(x==("__debug__":Str))=false:=by decide)
  (he:'e':=by rfl)(hpl:(backTo pos (starEach es X.env)).any (·.1)=false:=by rfl):PE X (.Call (.Name x p) (e::es) [] pos) (tCB r t):=by
 intro pins s σ H Q I h
 refine wpAny_Call_Name_kw (gm I hg hm hv ?_ hn hdb)
 exact PyProof.Rows.callWith_builtin1 (cC (ha pos pins s σ H _ I h) fun us s1 ⟨vs,H1,I1,r1,q1⟩=>hc pins s1 σ H1 vs us Q I1 r1 q1) he hpl
theorem qP(hc:rK X (.type T) r)(hg:Gl X x)(hm:X.mg x=none)(hv:bootBuiltins x=some (.type T))(ha:PA X (e::es) t)(hn:x≠"__name__":=by decide)(hdb:(x==("__debug__":Str))=false:=by decide)
  (he:'e':=by rfl)(hpl:(backTo pos (starEach es X.env)).any (·.1)=false:=by rfl):PE X (.Call (.Name x p) (e::es) [] pos) (tCB r t):=by
 intro pins s σ H Q I h
 refine wpAny_Call_Name_kw (gm I hg hm hv ?_ hn hdb)
 exact PyProof.Rows.callWith_type1 (cC (ha pos pins s σ H _ I h) fun us s1 ⟨vs,H1,I1,r1,q1⟩=>hc pins s1 σ H1 vs us Q I1 r1 q1) he hpl
end
end L2
namespace HT
open PySem PyProof.Rows
section
open PySem.SeqAt
open PySem.AutoSeq1 (wpAny_loadPart')
open PySem.MeetsSeq PySem.MeetsSeq2 PySem.MeetsSeq3
end
section
variable{prog:Program}{w:World}{A:Around}{E:Value->Shared->Prop}{s:Shared}
def xy(n d:Nat):Option Int->Nat
 |none=>d
 |some v=>if v<0 then(v+(n:Int)).toNat else min v.toNat n
theorem pU(n d:Nat):xy n d none=d:=rfl
theorem n8(n d k:Nat):xy n d (some (k:Int))=min k n:=by
 show(if(k:Int)<0 then((k:Int)+(n:Int)).toNat else min (k:Int).toNat n)=min k n
 rw[if_neg 'a',toNat_natCast]
end
end HT
namespace L2
open PySem PySem.Spec PyProof.Rows
abbrev TO:=St->Hp->(Option Int->Hp->Prop)->Prop
def PO(X:Cx)(e:Option Expr)(t:TO):Prop:=
 ∀(pins:List (Addr×Obj))(s:Shared)(σ:St)(H:Hp)(Q:Option Int->Hp->Prop),Inv X pins σ H s->t σ H Q->
  wpAny (model X.prog X.w) X.A (evalPart e X.env) (fun u s'=>∃o H',Inv X pins σ H' s'/\IsPart u o/\Q o H') X.xe s
def NG:TO:=fun _ H Q=>Q none H
def Wo(t:TE):TO:=fun σ H Q=>t σ H fun x H1=>∃i,x=.int i/\Q (some i) H1
theorem intsAre_of{ns:List Int}:∀{us:List Value},Vals (ns.map V.int) us->IntsAre us ns:=by
 induction ns with
 |nil=>intro us r;rw[map_nil]at r;cases r;exact .nil
 |cons n ns ih=>
  intro us r
  rw[map_cons]at r
  cases r with
  |cons r1 r2=>
   obtain⟨t,e⟩:=r1
   subst e
   exact .cons n t (ih r2)
section
variable{X:Cx}{e:Expr}{te:TE}{lo hi:Option Expr}{tl th:TO}{pos p2:Pos}
theorem E8:PO X none NG:=by
 intro pins s σ H Q I h
 rw[evalPart_none]
 exact wpAny_pure ⟨none,H,I,.none,h⟩
theorem E9(h:PE X e te):PO X (some e) (Wo te):=by
 intro pins s σ H Q I hw
 rw[evalPart_some]
 refine cC (h pins s σ H _ I hw) fun u s1 ⟨x,H1,I1,r1,q1⟩=>?_
 obtain⟨i,rfl,q⟩:=q1
 obtain⟨t,rfl⟩:=r1
 exact⟨some i,H1,I1,.int i t,q⟩
def SlR(X:Cx)(r:V->Option Int->Option Int->Hp->VK->Prop):Prop:=
 ∀(pins:List (Addr×Obj))(s:Shared)(σ:St)(H:Hp)(x:V)(v vl vu:Value)(lo hi:Option Int)(sl:Addr)(Q:VK),Inv X pins σ H s->RelV x v->s.heap.IsSliceOf sl vl vu .none->IsPart vl lo->IsPart vu hi->r x lo hi H Q->
  ∃T id,typeLookup (.type T) "__getitem__"=pure (some (.builtin id))/\s.TypeIs v T/\wpAny (model X.prog X.w) X.A (getItem v (.ref sl)) (EP X pins σ Q) X.xe s
def tSl(r:V->Option Int->Option Int->Hp->VK->Prop)(te:TE)(tl th:TO):TE:=fun σ H Q=>te σ H fun x H1=>tl σ H1 fun l H2=>th σ H2 fun u H3=>r x l u H3 Q
theorem BI{r:V->Option Int->Option Int->Hp->VK->Prop}(hr:SlR X r)(he:PE X e te)(hl:PO X lo tl)(hu:PO X hi th):PE X (.Subscript e (.Slice lo hi none p2) pos) (tSl r te tl th):=by
 intro pins s σ H Q I h
 refine Subscript_ (cC (he pins s σ H _ I h) fun v s1 ⟨x,H1,I1,r1,q1⟩=>?_)
 refine wpAny_Slice (cC (hl pins s1 σ H1 _ I1 q1) fun vl s2 ⟨l,H2,I2,pl,q2⟩=>cC (hu pins s2 σ H2 _ I2 q2) fun vu s3 ⟨u,H3,I3,pu,q3⟩=>?_)
 rw[evalPart_none]
 refine wpAny_pure ?_
 have I4:Inv X pins σ H3 {s3 with heap:=s3.heap.push {cls:=.type "slice",data:=.fields #[vl,vu,.none]}}:=I3.kept (t':=s3.toks) fun b ob q=>Heap.get?_push_of_some _ q
 obtain⟨T,id,hT,ht,hg⟩:=hr pins {s3 with heap:=s3.heap.push {cls:=.type "slice",data:=.fields #[vl,vu,.none]}} σ H3 x v vl vu l u s3.heap.objs.size Q I4 r1 (Heap.IsSliceOf.new ..) pl pu q3
 show wpAny (model X.prog X.w) X.A (subscriptTail e (.Slice lo hi none p2) v (.ref s3.heap.objs.size)) (EP X pins σ Q) X.xe {s3 with heap:=s3.heap.push {cls:=.type "slice",data:=.fields #[vl,vu,.none]}}
 exact tail_any (ops:=[.ref s3.heap.objs.size,v]) ht hT hg (by with_unfolding_all rfl)
def yZ(xs:List V)(lo hi:Option Int):List V:=(xs.drop (HT.xy xs.length 0 lo)).take (HT.xy xs.length xs.length hi-HT.xy xs.length 0 lo)
theorem BJ(xs:List V)(lo hi:Option Int):(yZ xs lo hi).length<=xs.length:=by
 unfold yZ
 rw[length_take,length_drop]
 omega
end
end L2
namespace L2
open PySem PySem.Spec PyProof.Rows
def pV(n:Nat)(i:Int):Option Nat:=if 0<=i then(if i<n then some i.toNat else none)else if-(n:Int)<=i then some (i+n).toNat else none
def iC{α:Type}(xs:List α)(i:Int):Option α:=(pV xs.length i).bind fun j=>xs[j]?
theorem Fb{n:Nat}{i:Int}{j:Nat}(h:pV n i=some j):seqIndex? i n=some j/\j<n/\ -(n:Int)<=i/\i<n:=by
 unfold pV at h
 by_cases h0:0<=i
 ·rw[if_pos h0]at h
  by_cases h1:i<n
  ·rw[if_pos h1]at h
   have e:i.toNat=j:=Option.some.inj h
   exact⟨by rw[seqIndex_of h0 h1,e],by omega,by omega,h1⟩
  ·rw[if_neg h1]at h;cases h
 ·rw[if_neg h0]at h
  by_cases h1: -(n:Int)<=i
  ·rw[if_pos h1]at h
   have e:(i+n).toNat=j:=Option.some.inj h
   exact⟨by rw[seqIndex_neg 'a' h1,e],by omega,h1,by omega⟩
  ·rw[if_neg h1]at h;cases h
theorem Av{α:Type}{xs:List α}{i:Int}{v:α}(h:iC xs i=some v):∃j,seqIndex? i xs.length=some j/\xs[j]?=some v/\j<xs.length/\ -(xs.length:Int)<=i/\i<xs.length:=by
 unfold iC at h
 cases e:pV xs.length i with
 |none=>rw[e]at h;cases h
 |some j=>
  rw[e]at h
  obtain⟨h1,h2,h3,h4⟩:=Fb e
  exact⟨j,h1,h,h2,h3,h4⟩
theorem gC{α:Type}{xs:List α}{j:Nat}{v:α}(h:xs[j]?=some v):iC xs (j:Int)=some v:=by
 have hj:j<xs.length:=(List.getElem?_eq_some_iff.mp h).1
 have e:pV xs.length (j:Int)=some j:=by
  unfold pV
  rw[if_pos 'a',if_pos 'a'];simp
 unfold iC;rw[e];exact h
theorem pW{α:Type}(xs:List α)(v:α):iC (xs++[v]) (-1)=some v:=by
 have hl:(xs++[v]).length=xs.length+1:=by simp
 have e:pV (xs++[v]).length (-1)=some xs.length:=by
  unfold pV
  rw[hl,if_neg (by decide),if_pos 'a']
  congr 1
  omega
 unfold iC
 rw[e]
 show(xs++[v])[xs.length]?=some v
 simp
def wO(b:Expr):Prop:=∀o i,subscripted b false o i=operate [o,i] (getItem o i)
def NH(X:Cx)(r:R2):Prop:=
 ∀(value slice:Expr)(pins:List (Addr×Obj))(s:Shared)(σ:St)(H:Hp)(x y:V)(v u:Value)(Q:VK),Inv X pins σ H s->RelV x v->RelV y u->r x y H Q->
  subscripted slice false v u=operate [v,u] (getItem v u)->wpAny (model X.prog X.w) X.A (subscriptTail value slice v u) (EP X pins σ Q) X.xe s
def Zf(X:Cx)(id:String)(r:V->List V->Hp->VK->Prop):Prop:=
 ∀(pins:List (Addr×Obj))(s:Shared)(σ:St)(H:Hp)(x:V)(xs:List V)(v:Value)(us:List Value)(Q:VK),Inv X pins σ H s->RelV x v->Vals xs us->r x xs H Q->
  wpAny (model X.prog X.w) X.A (call (.builtin id) (v::us)) (EP X pins σ Q) X.xe s
section
variable{X:Cx}{a b:Expr}{ta tb:TE}{pos:Pos}
theorem NH.or {r r':R2}(h:NH X r)(h':NH X r'):NH X (fun x y H Q=>r x y H Q\/r' x y H Q):=by
 intro value slice pins s σ H x y v u Q I rx ry q hs
 rcases q with q|q
 ·exact h value slice pins s σ H x y v u Q I rx ry q hs
 ·exact h' value slice pins s σ H x y v u Q I rx ry q hs
theorem jh{r:R2}(hr:NH X r)(ha:PE X a ta)(hb:PE X b tb)(hs:wO b):PE X (.Subscript a b pos) (Wd r ta tb):=by
 intro pins s σ H Q I h
 exact Subscript_ (RY ha hb I h fun v u s2 x y H2 I2 rx ry q=>hr a b pins s2 σ H2 x y v u Q I2 rx ry q (hs _ _))
def R8(K:'b'):R2:=fun x y H Q=>∃p xs i v,x=.ref p/\y=.int i/\cV K H p xs/\iC xs i=some v/\Q v H
def Wq(K:'b'):R2:=fun x y H Q=>∃p xs i v,x=.ref p/\y=.int i/\Bp K H p xs/\iC xs i=some v/\Q v H
def Wr:R2:=fun x y H Q=>∃z i c,x=.str z/\y=.int i/\z.length<=sizeLine/\iC z.cps.toList i=some c/\Q (.str ⟨#[c]⟩) H
theorem dY:NH X (R8 X.K):=by
 intro value slice pins s σ H x y v u Q I rx ry h hs
 obtain⟨p,xs,i,z,rfl,rfl,hq,he,q⟩:=h
 cases rx
 obtain⟨t,rfl⟩:=ry
 obtain⟨its,r,pl,hz⟩:=I.list hq
 obtain⟨j,h1,h2,h3,h4,h5⟩:=Av he
 obtain⟨w,ew,lG⟩:=r.get h2
 have hl:=r.length
 have hn:=pT
 have fin:EP X pins σ Q w s:=⟨z,H,I,lG,q⟩
 by_cases h0:0<=i
 ·have hj:i.toNat=j:=by
   rw[seqIndex_of h0 h5]at h1
   exact Option.some.inj h1
  exact item_listR pl.isList h0 'a' (by rw[hj];simpa using ew) fin hs
 ·have hj:(i+(its.toArray.size:Int)).toNat=j:=by
   rw[seqIndex_neg 'a' h4]at h1
   rw[size_toArray,<-hl]
   exact Option.some.inj h1
  exact subscriptTail_builtinR (x:=w) pl.isList.typeIs slot_list_getitem.lookup
   (wpAny_getItem_list_neg (Q:=fun r s'=>r=w/\EP X pins σ Q r s') pl.isList 'a' (by rw[size_toArray]<;>omega) 'a' (by rw[hj];simpa using ew) ⟨rfl,fin⟩) hs
theorem Aw:NH X (Wq X.K):=by
 intro value slice pins s σ H x y v u Q I rx ry h hs
 obtain⟨p,xs,i,z,rfl,rfl,hq,he,q⟩:=h
 cases rx
 obtain⟨t,rfl⟩:=ry
 obtain⟨its,r,pl,hz⟩:=I.tuple hq
 obtain⟨j,h1,h2,h3,h4,h5⟩:=Av he
 obtain⟨w,ew,lG⟩:=r.get h2
 have hl:=r.length
 have hn:=pT
 have fin:EP X pins σ Q w s:=⟨z,H,I,lG,q⟩
 exact subscriptTail_builtinR (x:=w) pl.typeIs slot_tuple_getitem.lookup
  (getItem_tuple (j:=j) (Q:=fun r s'=>r=w/\EP X pins σ Q r s') pl 'a' 'a' (by rw[size_toArray,<-hl];exact h1) (by simpa using ew) ⟨rfl,fin⟩) hs
theorem R9:NH X Wr:=by
 intro value slice pins s σ H x y v u Q I rx ry h hs
 obtain⟨z,i,c,rfl,rfl,hz,he,q⟩:=h
 obtain⟨t,rfl⟩:=rx
 obtain⟨t',rfl⟩:=ry
 obtain⟨j,h1,h2,h3,h4,h5⟩:=Av he
 have hl:z.cps.toList.length=z.length:=by simp[Str.length]
 rw[hl]at h1 h4 h5
 have hn:=pT
 exact tail_any (typeIs_str s z t) slot_str_getitem.lookup (getItem_str (c:=c) (by
  have e1:decide (i< -(2^63:Int))=false:=decide_eq_false 'a'
  have e2:decide (i>=2^63)=false:=decide_eq_false 'a'
  rw[e1,e2,Bool.or_false]) (by rw[h1];simpa using h2) ⟨.str ⟨#[c]⟩,H,I.tok _,⟨_,rfl⟩,q⟩) hs
def rIx(K:'b'):R2:=fun x y H Q=>R8 K x y H Q\/Wq K x y H Q\/Wr x y H Q
theorem Sd:NH X (rIx X.K):=dY.or (Aw.or R9)
theorem DK(its:List Value)(n j:Nat)(u:Value):Obj.mapSeq (·.setIfInBounds j u) {cls:=.type "list",data:=.seq its.toArray n}={cls:=.type "list",data:=.seq (its.set j u).toArray n}:=by
 simp[Obj.mapSeq]
theorem Inv.lst {pins:List (Addr×Obj)}{σ:St}{H:Hp}{s:Shared}{p:Addr}{xs:List V}(I:Inv X pins σ H s)(h:H p=some (.lst xs)):
  ∃(its:List Value)(n:Nat),Vals xs its/\s.heap.get? p=some {cls:=.type "list",data:=.seq its.toArray n}/\xs.length<=sizeLine:=by
 obtain⟨z,its,n,r,e⟩:=I.hok p _ h
 exact⟨its,n,r,e,z⟩
theorem Inv.Se {pins:List (Addr×Obj)}{σ:St}{H:Hp}{s:Shared}{p:Addr}{xs ys:List V}{its its':List Value}{n n':Nat}{f:Obj->Obj}(I:Inv X pins σ H s)(h:H p=some (.lst xs))
  (ho:s.heap.get? p=some {cls:=.type "list",data:=.seq its.toArray n})(hf:f {cls:=.type "list",data:=.seq its.toArray n}={cls:=.type "list",data:=.seq its'.toArray n'})(r:Vals ys its')(hz:ys.length<=sizeLine)(t:Nat):
  Inv X pins σ (upd H p (.lst ys)) {s with heap:=s.heap.update p f,toks:=t}:=by
 have e:(s.heap.update p f).get? p=some {cls:=.type "list",data:=.seq its'.toArray n'}:=by
  rw[Heap.get?_update_self f ho (by rw[hf]<;>rfl),hf]
 refine I.write (x:=p) (e:=p) (by rw[h];trivial) (.inl rfl) (fun b u hb q=>(Heap.get?_update_other _ _ (Ne.symm hb)).trans q) ⟨_,e⟩ ?_
 exact⟨hz,its',n',r,e⟩
def Ws:V->V->V->Hp->(Hp->Prop)->Prop:=fun o i v H Q=>∃p xs k j,o=.ref p/\i=.int k/\H p=some (.lst xs)/\pV xs.length k=some j/\Q (upd H p (.lst (xs.set j v)))
theorem set_list:V4 X Ws:=by
 intro pins s σ H o i v ov iv u Q I ro ri rv h
 obtain⟨p,xs,k,j,rfl,rfl,hp,hj,q⟩:=h
 cases ro
 obtain⟨t,rfl⟩:=ri
 obtain⟨its,n,r,ho,hz⟩:=I.lst hp
 obtain⟨h1,h2,h3,h4⟩:=Fb hj
 have hl:=r.length
 have hn:=pT
 have I':Inv X pins σ (upd H p (.lst (xs.set j v))) {s with heap:=s.heap.update p (Obj.mapSeq (·.setIfInBounds j u))}:=
  I.Se hp ho (DK its n j u) (r.set rv j) (by rw[length_set];exact hz) s.toks
 by_cases h0:0<=k
 ·have hk:k.toNat=j:=by
   rw[seqIndex_of h0 h4]at h1
   exact Option.some.inj h1
  exact PySem.W.ki_setAt ho h0 'a' (by rw[size_toArray,<-hl];exact h4) (by rw[hk];exact⟨_,I',q⟩)
 ·have hk:(k+(its.toArray.size:Int)).toNat=j:=by
   rw[seqIndex_neg 'a' h3]at h1
   rw[size_toArray,<-hl]
   exact Option.some.inj h1
  exact PySem.W.ki_setBack ho 'a' (by rw[size_toArray,<-hl];exact h3) 'a' (by rw[hk];exact⟨_,I',q⟩)
theorem Ay(lo hi:Option Int)(n:Nat):(sliceBounds lo hi none n).1=((HT.xy n 0 lo:Nat):Int)/\(sliceBounds lo hi none n).2.1=((HT.xy n n hi:Nat):Int)/\(sliceBounds lo hi none n).2.2=1:=by
 refine⟨?_,?_,rfl⟩
 ·cases lo with
  |none=>simp[sliceBounds,HT.xy]
  |some i=>
   simp only [sliceBounds,HT.xy,getD_none,show(1:Int)>0 by decide,if_true]
   by_cases h:i<0
   ·simp only [h,if_true]<;>omega
   ·simp only [h,if_false]<;>omega
 ·cases hi with
  |none=>simp[sliceBounds,HT.xy]
  |some i=>
   simp only [sliceBounds,HT.xy,getD_none,show(1:Int)>0 by decide,if_true]
   by_cases h:i<0
   ·simp only [h,if_true]<;>omega
   ·simp only [h,if_false]<;>omega
theorem y0(its:List Value)(lo hi:Option Int):slicePick its.toArray lo hi none=((its.drop (HT.xy its.length 0 lo)).take (HT.xy its.length its.length hi-HT.xy its.length 0 lo)).toArray:=by
 obtain⟨h1,h2,h3⟩:=Ay lo hi its.toArray.size
 unfold slicePick
 rw[h1,h2,h3]
 simp only [sliceRange_one,pick_run,size_toArray]<;>rfl
def aau(K:'b'):V->Option Int->Option Int->Hp->VK->Prop:=fun x lo hi H Q=>∃a xs,x=.ref a/\cV K H a xs/\∀p,H p=none->Q (.ref p) (upd H p (.lst (yZ xs lo hi)))
theorem Fc:SlR X (aau X.K):=by
 intro pins s σ H x v vl vu lo hi sl Q I rx hs pl pu h
 obtain⟨a,xs,rfl,hx,q⟩:=h
 cases rx
 obtain⟨its,r,ht,hz⟩:=I.list hx
 have hlen:=r.length
 refine⟨"list",_,slot_list_getitem.lookup,ht.isList.typeIs,?_⟩
 refine wpAny_getItem_list_slice ht.isList hs pl pu .none (by simp) ?_ (by rw[size_toArray]<;>omega)
 rw[y0,<-hlen]
 refine⟨.ref s.heap.objs.size,_,I.laid (t':=s.toks) (o:=.lst (yZ xs lo hi)) (fun b ob q=>Heap.get?_push_of_some _ q) (Nat.le_refl _) ?_,rfl,q _ (I.hok.fresh (Nat.le_refl _))⟩
 exact⟨le_trans (BJ xs lo hi) hz,_,0,(r.drop (HT.xy xs.length 0 lo)).take (HT.xy xs.length xs.length hi-HT.xy xs.length 0 lo),Heap.get?_push_size _ rfl⟩
def sP:V->Bool
 |.non=>true
 |.bl _=>true
 |.int _=>true
 |.str _=>true
 |_=>false
def MY:V->V->Bool
 |.non,.non=>true
 |.bl a,.bl b=>a==b
 |.bl a,.int b=>(if a then 1 else 0)==b
 |.int a,.bl b=>a==(if b then 1 else 0)
 |.int a,.int b=>a==b
 |.str a,.str b=>a==b
 |_,_=>false
theorem Sf{A:Around}{s:Shared}{y x:V}{u v:Value}(ry:RelV y u)(rx:RelV x v)(fy:sP y=true)(fx:sP x=true):SeqAt.EqAt A s u v (MY y x):=by
 cases y with
 |non=>
  cases ry
  cases x with
  |non=>cases rx;exact SeqAt.EqAt.same _
  |bl b=>cases rx;exact SeqAt.EqAt.none_bool b
  |int b=>obtain⟨t,rfl⟩:=rx;exact SeqAt.EqAt.none_int b t
  |str b=>obtain⟨t,rfl⟩:=rx;exact SeqAt.EqAt.none_str b t
  |_=>exact absurd (show false=true from fx) Bool.false_ne_true
 |bl a=>
  cases ry
  cases x with
  |non=>cases rx;exact SeqAt.EqAt.bool_none a
  |bl b=>cases rx;exact SeqAt.EqAt.bool_bool a b
  |int b=>obtain⟨t,rfl⟩:=rx;exact SeqAt.EqAt.bool_int a b t
  |str b=>obtain⟨t,rfl⟩:=rx;exact SeqAt.EqAt.bool_str a b t
  |_=>exact absurd (show false=true from fx) Bool.false_ne_true
 |int a=>
  obtain⟨t',rfl⟩:=ry
  cases x with
  |non=>cases rx;exact SeqAt.EqAt.int_none a t'
  |bl b=>cases rx;exact SeqAt.EqAt.int_bool a t' b
  |int b=>obtain⟨t,rfl⟩:=rx;exact SeqAt.EqAt.int_int a t' b t
  |str b=>obtain⟨t,rfl⟩:=rx;exact SeqAt.EqAt.int_str a t' b t
  |_=>exact absurd (show false=true from fx) Bool.false_ne_true
 |str a=>
  obtain⟨t',rfl⟩:=ry
  cases x with
  |non=>cases rx;exact SeqAt.EqAt.str_none a t'
  |bl b=>cases rx;exact SeqAt.EqAt.str_bool a t' b
  |int b=>obtain⟨t,rfl⟩:=rx;exact SeqAt.EqAt.str_int a t' b t
  |str b=>obtain⟨t,rfl⟩:=rx;exact SeqAt.EqAt.str_str a t' b t
  |_=>exact absurd (show false=true from fx) Bool.false_ne_true
 |_=>exact absurd (show false=true from fy) Bool.false_ne_true
def NI(x:V)(u:Value):Bool:=match u with
 |.none=>MY .non x
 |.bool b=>MY (.bl b) x
 |.int i _=>MY (.int i) x
 |.str z _=>MY (.str z) x
 |_=>false
theorem Jz{x y:V}{u:Value}(r:RelV y u)(f:sP y=true):NI x u=MY y x:=by
 cases y with
 |non=>cases r;rfl
 |bl b=>cases r;rfl
 |int i=>obtain⟨t,rfl⟩:=r;rfl
 |str z=>obtain⟨t,rfl⟩:=r;rfl
 |_=>exact absurd (show false=true from f) Bool.false_ne_true
theorem Az{x:V}:∀{xs:List V}{us:List Value},Vals xs us->xs.all sP=true->us.any (NI x)=xs.any fun y=>MY y x
 |_,_,.nil,_=>rfl
 |y::xs,u::us,.cons r t,f=>by
  rw[all_cons,and_eq_true]at f
  rw[any_cons,any_cons,Jz r f.1,Az t f.2]
theorem xA{A:Around}{s:Shared}{x:V}{v:Value}(rx:RelV x v)(fx:sP x=true):∀{xs:List V}{us:List Value},Vals xs us->xs.all sP=true->∀u∈us,SeqAt.EqAt A s u v (NI x u)
 |_,_,.nil,_=>fun u hu=>by cases hu
 |y::xs,u::us,.cons r t,f=>fun u' hu=>by
  rw[all_cons,and_eq_true]at f
  rcases mem_cons.mp hu with rfl|hu
  ·rw[Jz r f.1];exact Sf r rx f.1 fx
  ·exact xA rx fx t f.2 u' hu
def Zg(x:V)(xs:List V):Bool:=xs.any fun y=>MY y x
def rIn(K:'b')(neg:Bool):R2:=fun x y H Q=>∃p xs,y=.ref p/\(cV K H p xs\/Bp K H p xs)/\sP x=true/\xs.all sP=true/\Q (.bl (if neg then !Zg x xs else Zg x xs)) H
theorem AA:sM X (compareOp .NotIn) (rIn X.K true):=by
 intro pins s σ H x y v u Q I rx ry h
 obtain⟨p,xs,rfl,hq,fx,fs,q⟩:=h
 cases ry
 rcases hq with hq|hq
 ·obtain⟨its,r,pl,hz⟩:=I.list hq
  refine SeqAt.notIn_listAt (NI x) pl.isList (fun w hw=>xA rx fx r fs w (by simpa using hw)) ⟨.bl _,H,I,rfl,?_⟩
  rw[show its.toArray.any (NI x)=its.any (NI x)by simp,Az r fs]
  exact q
 ·obtain⟨its,r,pl,hz⟩:=I.tuple hq
  refine SeqAt.notIn_tupleAt (NI x) pl (fun w hw=>xA rx fx r fs w (by simpa using hw)) ⟨.bl _,H,I,rfl,?_⟩
  rw[show its.toArray.any (NI x)=its.any (NI x)by simp,Az r fs]
  exact q
theorem n9:rK X (.builtin "len") (fun xs H Q=>∃p ys,xs=[.ref p]/\(cV X.K H p ys\/Bp X.K H p ys)/\Q (.int ys.length) H):=by
 intro pins s σ H xs us Q I r h
 obtain⟨p,ys,rfl,hq,q⟩:=h
 obtain⟨u,rfl,rx⟩:=vals1 r
 cases rx
 have hn:=pT
 rcases hq with hq|hq
 ·obtain⟨its,r',pl,hz⟩:=I.list hq
  have hlen:=r'.length
  exact Calls.call_len_list pl.isList (by simp only [size_toArray]<;>omega) ⟨.int ys.length,H,I.tok _,⟨s.toks+1,by rw[size_toArray,hlen]⟩,q⟩
 ·obtain⟨its,r',pl,hz⟩:=I.tuple hq
  have hlen:=r'.length
  exact len_tuple pl (by simp only [size_toArray]<;>omega) ⟨.int ys.length,H,I.tok _,⟨s.toks+1,by rw[size_toArray,hlen]⟩,q⟩
theorem og:rK X (.type "list") (fun xs H Q=>∃p ys,xs=[.ref p]/\(cV X.K H p ys\/Bp X.K H p ys)/\∀l,H l=none->Q (.ref l) (upd H l (.lst ys))):=by
 intro pins s σ H xs us Q I r h
 obtain⟨p,ys,rfl,hq,q⟩:=h
 obtain⟨u,rfl,rx⟩:=vals1 r
 cases rx
 have fin:∀(its:List Value),Vals ys its->ys.length<=sizeLine->∀(h':Heap)(c':Nat),(∀b o',s.heap.get? b=some o'->h'.get? b=some o')->
   h'.get? s.heap.objs.size=some {cls:=.type "list",dict:=none,data:=.seq its.toArray c',slots:=#[]}->EP X pins σ Q (.ref s.heap.objs.size) {s with heap:=h'}:=fun its r' hz h' c' kp e=>
  ⟨.ref s.heap.objs.size,_,I.laid (t':=s.toks) kp (Nat.le_refl _) (show cD X.prog X.w _ h' _ (.lst ys)from⟨hz,its,c',r',e⟩),rfl,q _ (I.hok.fresh (Nat.le_refl _))⟩
 rcases hq with hq|hq
 ·obtain⟨its,r',pl,hz⟩:=I.list hq
  have hlen:=r'.length
  obtain⟨o,ho,hc,n,hd⟩:=pl.isList
  exact call_list_seq p (.inl rfl) ho hc hd (fun h' c' kp e=>fin its r' hz h' c' kp e) (by simp only [size_toArray]<;>omega)
 ·obtain⟨its,r',pl,hz⟩:=I.tuple hq
  have hlen:=r'.length
  obtain⟨o,ho,hc,n,hd⟩:=pl
  exact call_list_seq p (.inr rfl) ho hc hd (fun h' c' kp e=>fin its r' hz h' c' kp e) (by simp only [size_toArray]<;>omega)
theorem y4:rK X (.type "tuple") (fun xs H Q=>∃p ys,xs=[.ref p]/\((cV X.K H p ys/\∀l,H l=none->Q (.ref l) (upd H l (.tup ys)))\/(Bp X.K H p ys/\Q (.ref p) H))):=by
 intro pins s σ H xs us Q I r h
 obtain⟨p,ys,rfl,h⟩:=h
 obtain⟨u,rfl,rx⟩:=vals1 r
 cases rx
 rcases h with⟨hq,q⟩|⟨hq,q⟩
 ·obtain⟨its,r',pl,hz⟩:=I.list hq
  have hlen:=r'.length
  refine call_tuple_list pl.isList (fun h' kp=>?_) (by simp only [size_toArray]<;>omega)
  have I1:Inv X pins σ H {s with heap:=h'}:=I.kept (t':=s.toks) kp
  have I2:Inv X pins σ (upd H h'.objs.size (.tup ys)) {s with heap:=h'.push {cls:=.type "tuple",data:=.seq its.toArray}}:=
   I1.laid (t':=s.toks) (fun b o e=>Heap.get?_push_of_some _ e) (Nat.le_refl _) (show cD X.prog X.w _ _ _ (.tup ys)from⟨hz,its,r',IsTup.new _ _⟩)
  exact⟨.ref h'.objs.size,_,I2,rfl,q _ (I1.hok.fresh (Nat.le_refl _))⟩
 ·obtain⟨its,r',pl,hz⟩:=I.tuple hq
  exact call_tuple_same pl ⟨.ref p,H,I,rfl,q⟩
def tyV(K:'b')(T:String)(x:V)(H:Hp):Prop:=match x with
 |.str _=>T="str"
 |.int _=>T="int"
 |.ref p=>(T="list"/\∃xs,cV K H p xs)\/(T="tuple"/\∃o,K.lookup p=some o/\o.cls=.type "tuple"/\o.dict=none)\/
   (T="dict"/\((∃kvs,H p=some (.dK kvs))\/∃kvs,H p=some (.dT kvs)))\/(T="set"/\∃S n,H p=some (.set S n))
 |_=>False
theorem JA{pins:List (Addr×Obj)}{σ:St}{H:Hp}{s:Shared}{T:String}{x:V}{v:Value}(I:Inv X pins σ H s)(r:RelV x v)(ty:tyV X.K T x H):
  s.TypeIs v T/\∀a,v=.ref a->∃ob,s.heap.get? a=some ob/\ob.dict=none:=by
 cases x with
 |str z=>
  obtain⟨t,rfl⟩:=r
  cases (show T="str" from ty)
  exact⟨typeIs_str s z t,fun _ e=>nomatch e⟩
 |int i=>
  obtain⟨t,rfl⟩:=r
  cases (show T="int" from ty)
  exact⟨typeIs_int s i t,fun _ e=>nomatch e⟩
 |ref p=>
  cases r
  rcases ty with⟨rfl,xs,hq⟩|⟨rfl,o,hk,hc,hd⟩|⟨rfl,hk⟩|⟨rfl,S,n,hk⟩
  ·obtain⟨its,_,pl,_⟩:=I.list hq
   refine⟨pl.isList.typeIs,fun a e=>?_⟩
   cases e
   obtain⟨o,n,e,c,hd,_⟩:=pl
   exact⟨o,e,hd⟩
  ·refine⟨⟨o,I.qM p o hk,hc⟩,fun a e=>?_⟩
   cases e
   exact⟨o,I.qM _ o hk,hd⟩
  ·have z:∃o,s.heap.get? p=some o/\o.ExactDict:=by
    rcases hk with⟨kvs,hk⟩|⟨kvs,hk⟩
    ·obtain⟨_,_,_,_,o,_,_,e,ex,_⟩:=I.hok p _ hk
     exact⟨o,e,ex⟩
    ·obtain⟨_,_,_,_,o,_,_,e,ex,_⟩:=I.hok p _ hk
     exact⟨o,e,ex⟩
   obtain⟨o,e,ex⟩:=z
   refine⟨⟨o,e,ex.1⟩,fun a e2=>?_⟩
   cases e2
   exact⟨o,e,ex.2.1⟩
  ·obtain⟨o,_,_,_,e,ex,_⟩:=I.hok p _ hk
   refine⟨⟨o,e,ex.1⟩,fun a e2=>?_⟩
   cases e2
   exact⟨o,e,ex.2.1⟩
 |_=>exact False.elim ty
def aaw(K:'b')(T:String)(r:V->List V->Hp->VK->Prop)(to:TE):TE:=fun σ H Q=>to σ H fun x H1=>tyV K T x H1/\r x [] H1 Q
def tBM(K:'b')(T:String)(r:V->List V->Hp->VK->Prop)(to:TE)(t:TA):TE:=fun σ H Q=>to σ H fun x H1=>tyV K T x H1/\t σ H1 fun xs H2=>r x xs H2 Q
variable{o e:Expr}{es:List Expr}{to:TE}{t:TA}{name:Str}{apos bg:Pos}{T id:String}{r:V->List V->Hp->VK->Prop}
theorem AB(pa:PlainAttrs T)(slot:Slot T name id)(hty:typeOf (.builtin id)=pure (.type "method_descriptor"))(hm:Zf X id r)(ho:PE X o to)
  (hbase:attributeBase o name X.env (eval o X.env)=eval o X.env:=by rfl)(hline:(apos.endLine==bg.line)=true:=by rfl):PE X (.Call (.Attribute o name apos) [] [] bg) (aaw X.K T r to):=by
 intro pins s σ H Q I h
 refine wpAny_Call_method0_late hbase hline (cC (ho pins s σ H _ I h) fun v s1 ⟨x,H1,I1,r1,ty,q1⟩=>?_)
 obtain⟨h1,h2⟩:=JA I1 r1 ty
 exact⟨T,id,pa,slot,hty,h1,h2,Calls.callWith_builtin rfl (PySem.evalArgs_none (hm pins s1 σ H1 x [] v [] Q I1 r1 .nil q1))⟩
theorem sQ(pa:PlainAttrs T)(slot:Slot T name id)(hty:typeOf (.builtin id)=pure (.type "method_descriptor"))(hm:Zf X id r)(ho:PE X o to)(ha:PA X (e::es) t)
  (hbase:attributeBase o name X.env (eval o X.env)=eval o X.env:=by rfl)
  (hfew:((backTo bg (starEach (e::es) X.env)).all (fun x=> !x.1)&&(backToKw bg (keywordEach [] X.env)).all (fun x=>x.1.isSome)
   &&decide ((e::es).length+([]:List Keyword).length+(if([]:List Keyword).isEmpty then 0 else 1)<30))=true:=by rfl)
  (hline:(apos.endLine==bg.line)=true:=by rfl)(hs:'e':=by rfl)(hplain:(backTo bg (starEach es X.env)).any (·.1)=false:=by rfl):
  PE X (.Call (.Attribute o name apos) (e::es) [] bg) (tBM X.K T r to t):=by
 intro pins s σ H Q I h
 refine wpAny_Call_method_late hbase hfew hline rfl (cC (ho pins s σ H _ I h) fun v s1 ⟨x,H1,I1,r1,ty,q1⟩=>?_)
 obtain⟨h1,h2⟩:=JA I1 r1 ty
 refine⟨T,id,pa,slot,hty,h1,h2,?_⟩
 have hA:=ha bg pins s1 σ H1 _ I1 q1
 rw[hs]at hA⊢
 refine Calls.callWith_builtin (by show(false||(backTo bg (starEach es X.env)).any (·.1))=false;rw[hplain]<;>rfl) (Calls.evalArgs_plain ?_)
 exact cC hA fun us s2 ⟨vs,H2,I2,r2,q2⟩=>hm pins s2 σ H2 x vs v us Q I2 r1 r2 q2
end
end L2
namespace L2
open PySem PySem.Spec PyProof.Rows
def Zh(X:Cx)(id:String)(r:V->List V->Hp->VK->Prop):Prop:=
 ∀(pins:List (Addr×Obj))(s:Shared)(σ:St)(H:Hp)(x:V)(xs:List V)(v:Value)(us:List Value)(Q:VK),Inv X pins σ H s->RelV x v->Vals xs us->r x xs H Q->
  wpAny (model X.prog X.w) X.A (call (.builtin id) (v::us)) (EP X pins σ Q) X.xe s
theorem Vals.one:∀{x:V}{us:List Value},Vals [x] us->∃u,us=[u]/\RelV x u
 |_,_,.cons r .nil=>⟨_,rfl,r⟩
theorem Vals.two:∀{x y:V}{us:List Value},Vals [x,y] us->∃u v,us=[u,v]/\RelV x u/\RelV y v
 |_,_,_,.cons r (.cons q .nil)=>⟨_,_,rfl,r,q⟩
theorem Vals.zero:∀{us:List Value},Vals [] us->us=[]
 |_,.nil=>rfl
theorem Vals.dropLast {xs:List V}{us:List Value}(h:Vals xs us):Vals xs.dropLast us.dropLast:=by
 induction h with
 |nil=>exact .nil
 |cons r t ih=>
  cases t with
  |nil=>exact .nil
  |cons q t'=>exact .cons r ih
theorem Vals.reverse {xs:List V}{us:List Value}(h:Vals xs us):Vals xs.reverse us.reverse:=by
 induction h with
 |nil=>exact .nil
 |cons r t ih=>rw[reverse_cons,reverse_cons];exact Vals.append ih (.cons r .nil)
theorem Vals.rep {xs:List V}{us:List Value}(h:Vals xs us):∀k:Nat,Vals (replicate k xs).flatten (replicate k us).flatten
 |0=>.nil
 |k+1=>by
  rw[replicate_succ,replicate_succ,flatten_cons,flatten_cons]
  exact Vals.append h (Vals.rep h k)
theorem DM{α:Type}(l:List α):l.eraseIdx (l.length-1)=l.dropLast:=by
 induction l with
 |nil=>rfl
 |cons a r ih=>
  cases r with
  |nil=>rfl
  |cons b r=>
   have e:(a::b::r).length-1=((b::r).length-1)+1:=by
    have h1:(a::b::r).length=r.length+2:=rfl
    have h2:(b::r).length=r.length+1:=rfl
    omega
   rw[e,List.eraseIdx_cons_succ,ih]
   all_goals rfl
theorem foldl_rep(its:List Value):∀(k:Nat)(acc:List Value),
  foldl (fun x1 x2=>x1++x2) acc.toArray (replicate k its.toArray)=(acc++(replicate k its).flatten).toArray
 |0,acc=>by simp
 |k+1,acc=>by
  have e:acc.toArray++its.toArray=(acc++its).toArray:=by simp
  have e2:(acc++its)++(replicate k its).flatten=acc++(replicate (k+1) its).flatten:=by
   rw[replicate_succ,flatten_cons,List.append_assoc]
  rw[<-e2,<-foldl_rep its k (acc++its),<-e,replicate_succ,List.foldl_cons]
section
variable{X:Cx}{pins:List (Addr×Obj)}{σ:St}{H:Hp}{s:Shared}{l b:Addr}{xs ys zs:List V}
theorem Inv.NJ {its its':List Value}{n:Nat}{f:Array Value->Array Value}{t':Nat}(I:Inv X pins σ H s)(hH:H l=some (.lst xs))
  (e:s.heap.get? l=some {cls:=.type "list",data:=.seq its.toArray n})(hf:f its.toArray=its'.toArray)(hv:Vals ys its')(hz:ys.length<=sizeLine):
  Inv X pins σ (upd H l (.lst ys)) {s with heap:=s.heap.update l (Obj.mapSeq f),toks:=t'}:=by
 have q:=PySem.IsL.update e f
 rw[hf]at q
 refine I.write (x:=l) (e:=l) (by rw[hH];exact trivial) (.inl rfl) (fun b' u hb hu=>(Heap.get?_update_other s.heap (Obj.mapSeq f) (Ne.symm hb)).trans hu) ⟨_,q⟩ ?_
 exact⟨hz,its',_,hv,q⟩
theorem Inv.Wt {its:List Value}{t':Nat}(I:Inv X pins σ H s)(hv:Vals ys its)(hz:ys.length<=sizeLine):
  Inv X pins σ (upd H s.heap.objs.size (.lst ys)) {s with heap:=s.heap.push {cls:=.type "list",data:=.seq its.toArray},toks:=t'}:=
 I.laid (fun _ _ q=>Heap.get?_push_of_some _ q) (Nat.le_refl _) ⟨hz,its,0,hv,Heap.get?_push_size _ rfl⟩
theorem Inv.fresh (I:Inv X pins σ H s):H s.heap.objs.size=none:=I.hok.fresh (Nat.le_refl _)
theorem Inv.JB (I:Inv X pins σ H s)(hH:H l=some (.lst xs)):xs.length<=sizeLine/\∃(its:List Value)(n:Nat),Vals xs its/\xs.length=its.length/\s.heap.get? l=some {cls:=.type "list",data:=.seq its.toArray n}:=by
 obtain⟨z,its,n,r,e⟩:=I.hok l _ hH
 exact⟨z,its,n,r,r.length,e⟩
theorem JC{n:Nat}(h:n<=sizeLine):Builtin.List.listTooLong n=false:=by
 unfold Builtin.List.listTooLong
 exact decide_eq_false 'a'
end
section
variable{X:Cx}
def NK:V->List V->Hp->VK->Prop:=fun x vs H Q=>∃l xs y,x=.ref l/\vs=[y]/\H l=some (.lst xs)/\xs.length<sizeLine/\Q .non (upd H l (.lst (xs++[y])))
theorem fY:Zh X "list.append" NK:=by
 intro pins s σ H x vs v us Q I rx rv h
 obtain⟨l,xs,y,rfl,rfl,hH,hz,q⟩:=h
 cases rx
 obtain⟨u,rfl,ru⟩:=rv.one
 obtain⟨z,its,n,r,hl,e⟩:=I.JB hH
 refine call_meets F.slot_list_append ⟨_,e,rfl⟩ F.entry_list_append (F.args_list_append_2 _ _) (PySem.list_append l its.toArray n u (by rw[size_toArray];omega)) ⟨e,?_⟩
 refine⟨.non,_,I.NJ (its':=its++[u]) hH e (by simp) (r.append (.cons ru .nil)) ?_,rfl,q⟩
 rw[length_append,length_singleton]
 omega
def aax:V->List V->Hp->VK->Prop:=fun x vs H Q=>∃l xs y,x=.ref l/\vs=[]/\H l=some (.lst xs)/\xs[xs.length-1]?=some y/\Q y (upd H l (.lst xs.dropLast))
theorem JD:Zh X "list.pop" aax:=by
 intro pins s σ H x vs v us Q I rx rv h
 obtain⟨l,xs,y,rfl,rfl,hH,hy,q⟩:=h
 cases rx
 have hus:=rv.zero
 subst hus
 obtain⟨z,its,n,r,hl,e⟩:=I.JB hH
 obtain⟨u,hu,ru⟩:=r.get hy
 have hy':its.toArray[its.toArray.size-1]?=some u:=by
  show its.toArray[its.length-1]?=some u
  rw[<-Array.getElem?_toList,<-hl]
  exact hu
 refine call_meets F.slot_list_pop ⟨_,e,rfl⟩ F.entry_list_pop (F.args_list_pop_1 _) (MeetsSeq.list_pop_last l its.toArray n u hy' (by rw[size_toArray];omega)) ⟨e,?_⟩
 refine⟨y,_,I.NJ (its':=its.dropLast) hH e ?_ r.dropLast ?_,ru,q⟩
 ·show its.toArray.eraseIdxIfInBounds (its.toArray.size-1)=its.dropLast.toArray
  rw[size_toArray,List.eraseIdxIfInBounds_toArray,DM]
 ·rw[List.length_dropLast]
  omega
def JE:V->List V->Hp->VK->Prop:=fun x vs H Q=>∃l xs,x=.ref l/\vs=[]/\H l=some (.lst xs)/\Q .non (upd H l (.lst xs.reverse))
theorem DN:Zh X "list.reverse" JE:=by
 intro pins s σ H x vs v us Q I rx rv h
 obtain⟨l,xs,rfl,rfl,hH,q⟩:=h
 cases rx
 have hus:=rv.zero
 subst hus
 obtain⟨z,its,n,r,hl,e⟩:=I.JB hH
 refine call_meets F.slot_list_reverse ⟨_,e,rfl⟩ F.entry_list_reverse (F.args_list_reverse_1 _) (AutoSeq1.list_reverse_list_0 l its.toArray n (by rw[size_toArray];omega)) ⟨e,?_⟩
 refine⟨.non,_,I.NJ (its':=its.reverse) hH e (by simp) r.reverse ?_,rfl,q⟩
 rw[length_reverse]
 omega
def aaA:R2:=fun x y H Q=>∃l k xs,x=.ref l/\y=.int k/\H l=some (.lst xs)/\ -(2^63)<=k/\k<2^63/\xs.length*k.toNat<=sizeLine/\
 ∀p,H p=none->Q (.ref p) (upd H p (.lst (replicate k.toNat xs).flatten))
theorem len_rep{α:Type}(xs:List α)(k:Nat):(replicate k xs).flatten.length=k*xs.length:=by
 induction k with
 |zero=>simp
 |succ k ih=>rw[replicate_succ,flatten_cons,length_append,ih,Nat.succ_mul,Nat.add_comm]
theorem Sg:sM X (binaryOp .Mult) aaA:=by
 intro pins s σ H x y v u Q I rx ry h
 obtain⟨l,k,xs,rfl,rfl,hH,h1,h2,hz,q⟩:=h
 cases rx
 obtain⟨t,rfl⟩:=ry
 obtain⟨z,its,n,r,hl,e⟩:=I.JB hH
 have hlen:its.toArray.size*k.toNat<=sizeLine:=by rw[size_toArray,<-hl];exact hz
 have aaB:¬its.toArray.size*k.toNat>(2^63-1)/8:=by
  have:(sizeLine:Nat)<=(2^63-1)/8:=by decide
  omega
 have hfit:¬(!Builtin.List.listFitsIndex k)=true:=by
  rw[fitsIndex_both h1 h2]
  exact Bool.false_ne_true
 have Wu:¬Builtin.List.listTooLong (its.toArray.size*k.toNat)=true:=by
  rw[JC hlen]
  exact Bool.false_ne_true
 have hnew:foldl (fun x1 x2=>x1++x2) #[] (replicate (if its.toArray.isEmpty=true then 0 else k.toNat) its.toArray)=(replicate k.toNat its).flatten.toArray:=by
  have f0:∀m:Nat,foldl (fun x1 x2=>x1++x2) #[] (replicate m its.toArray)=(replicate m its).flatten.toArray:=fun m=>by
   have:=foldl_rep its m []
   rw[nil_append]at this
   exact this
  rw[f0]
  cases its with
  |nil=>simp
  |cons a r'=>rw[if_neg (by simp)]
 refine wpAny_binaryOp_repeat_ref (T:="list") (U:="int") (by decide) ⟨_,e,rfl⟩ (fun s'=>typeIs_int s' k t) noFill_list_mul F.fills_int_mul F.slot_int_rmul repeat_list F.slot_int_index.lookup
  (call_meets F.slot_int_rmul (typeIs_int s k t) F.entry_int_rmul (F.args_int_rmul_2 _ _) (int___rmul___int_list k t l its.toArray n)
   ⟨e,rfl,⟨_,e,rfl⟩,call_meets F.slot_list_mul ⟨_,e,rfl⟩ F.entry_list_mul (F.args_list_mul_2 _ _) (AutoListH.list___mul___list_int_3 l its.toArray n k t hfit aaB Wu) ⟨e,?_⟩⟩)
 rw[hnew]
 exact⟨.ref _,_,I.Wt (t':=s.toks) (r.rep k.toNat) (by rw[len_rep,Nat.mul_comm];exact hz),rfl,q _ I.fresh⟩
end
section
variable{prog:Program}{w:World}{A:Around}{E:Value->Shared->Prop}{s:Shared}
set_option maxRecDepth 100000 in
end
end L2
namespace Att
open PySem PySem.W PySem.Calls PyProof.Rows
theorem wj{P:Params}{h:Heap}:∀(ns:List Int)(vs:List Value),WellAll P h vs (ns.map WData.int)->IntsAre vs ns:=by
 intro ns
 induction ns with
 |nil=>
  intro vs w
  rw[map_nil]at w
  cases w
  exact .nil
 |cons n ns ih=>
  intro vs w
  rw[map_cons]at w
  cases w with
  |cons a b=>
   cases a
   exact .cons _ _ (ih _ b)
theorem Hk{l:OpenLaw}{n:Nat}(hn:l.most=some n){P:Params}{h:Heap}{args:List WData}{vals:List Value}
  (hpre:l.row.toRowW.claim.pre args=true)(hwl:WellAll P h vals args):
  ∃a vs ns,vals=[Value.ref a]/\args=[WData.list (ns.map WData.int)]/\h.get? a=some {cls:=.type "list",data:=.seq vs.toArray}/\IntsAre vs ns/\ns.length<=n:=by
 have hsh:WShape.hasAll [] args [.list .int]=true:=(pre_splitW hpre).1
 have hc:l.pre.holds [] {args:=args}=true:=(pre_splitW hpre).2
 obtain⟨d,r,rfl,h1,h2⟩:=hasAllW_cons hsh
 obtain rfl:=hasAllW_nil h2
 obtain⟨xs,rfl,h3⟩:=hasW_list h1
 obtain⟨ns,rfl⟩:=items_int h3
 have hlen:ns.length<=n:=by
  unfold OpenLaw.pre at hc
  have h4:(WTm.not (.lt (.lit (.int (n:Int))) (.len (.arg 0)))).holds [] {args:=[.list (ns.map .int)]}=true:=by
   have h4:=(holds_andW hc).1
   rw[hn]at h4
   exact h4
  have h5:=condW_of h4 (w_not (w_lt w_lit (w_len_list (w_arg rfl))))
  rw[length_map]at h5
  refine Nat.le_of_not_lt fun q=>?_
  have q':(n:Int)<((ns.length:Nat):Int):=by omega
  first
   |(rw[decide_eq_true q']at h5;exact absurd h5 (by decide))
   |(simp at h5;omega)
 cases hwl with
 |cons w1 w2=>
  cases w2
  cases w1 with
  |list ho hall=>exact⟨_,_,ns,rfl,rfl,ho,wj ns _ hall,hlen⟩
theorem Hl(l:OpenLaw)(args:List WData):l.row.toRowW.claim.post args (.bool true) args=true:=
 postW_of (r:=l.row.toRowW) (X:=(true==true))
  (show WShape.has [] (.bool true) .bool=true by first|rfl|decide|simp[WShape.has,WShape.arms,WShape.armsAll])
  (show(WTm.eq .res (.lit (.bool true))).value [] {args:=args,res:=some (.bool true),after:=args}=some (.bool (true==true))from w_eq_bool (w_res rfl) w_lit) rfl
theorem BK{l:OpenLaw}{n:Nat}{q:Program}{loose:List Str}{XP:(Str->Option Value)->Heap->Prop}{YP:World->Heap->Prop}{d:DefRec}
  (hn:l.most=some n)(Wv:d.params.defaults=[])
  (call:∀(w:World)(s₀ s₁:Shared)(mg mb:Str->Option Value)(fa:Addr)(o:Obj)(pm cd doc:Value)(a:Addr)(vs:List Value)(ns:List Int),
   Ground q loose [] XP w s₀ mg mb s₁.heap->YP w s₁.heap->
   s₁.heap.get? fa=some o->o.data=.func (docDef d.name d.params d.body d.scope pm cd doc)->s₁.heap.CodeRec cd d.name->mg d.name=some (.ref fa)->
   s₁.heap.get? a=some {cls:=.type "list",data:=.seq vs.toArray}->IntsAre vs ns->ns.length<=n->s₁.gens=#[]->
   codeAny (model l.prog w) callerA (.call (.ref fa) ⟨[.ref a],[]⟩) (fun r s'=>r=.ok (.ret (.bool true))/\OldK s₁.heap s'.heap/\s'.os=s₁.os/\AllBare s'.gens) s₁):
  WalkO q loose XP YP l.row.toRowW d [] (fun f vs=>PySem.call f vs):=by
 intro w s₀ s₁ mg mb G Y fa o pm cd doc dV kV ho hd hcd hD hmg hg args vals as hpre hlay hrd hwl hlo
 obtain rfl:dV=.none:=Dflts.none hD Wv
 obtain rfl:kV=.none:=Dflts.noKw hD
 obtain⟨a,vs,ns,rfl,rfl,hobj,hints,hlen⟩:=Hk hn hpre hwl
 refine enter_call (codeAny_mono (call w s₀ s₁ mg mb fa o pm cd doc a vs ns G Y ho (fd_plain hd) hcd hmg hobj hints hlen hg) fun r s' hq=>?_)
 obtain⟨rfl,h2,h3,h4⟩:=hq
 exact⟨.inl ⟨.bool true,.bool true,[],rfl,fun _=>rfl,.bool true,Hl l _,fun _=>⟨Pairwise.nil,fun _ hm=>(nomatch hm)⟩⟩,h2,h3,h4⟩
section
variable{prog:Program}{w:World}{A:Around}{E:Value->Shared->Prop}{s:Shared}{K:Frag}
def ledger(h:Heap)(L d:Addr):List (Addr×Obj):=(range h.objs.size).filterMap fun a=>if a=L\/a=d then none else(h.get? a).map fun o=>(a,o)
end
end Att
namespace L2
open PySem PySem.Spec PyProof.Rows
theorem uA:∀{vs:List Value}{ns:List Int},IntsAre vs ns->Vals (ns.map V.int) vs
 |_,_,.nil=>.nil
 |_,_,.cons n t h=>.cons ⟨t,rfl⟩ (uA h)
def Sh(H:Hp):Prop:=∀b,H b=none\/∃o xs,H b=some (.nW o (.lst xs))
theorem JF{P:Program}{w:World}{K:'b'}{mg mb:Str->Option Value}{CX:IM}{k:Nat}{fa a:Addr}{fd:FuncData}{x:Str}{sp:Sp}{s₁:Shared}{vs:List Value}{ns:List Int}
  (KX:K.In s₁.heap)(hns:s₁.heap.Ns mainGlobals mg)(hb:s₁.heap.Ns builtinsNs mb)(Ww:∀x:Str,x≠"__name__"->mb x=bootBuiltins x)(hlim:s₁.heap.NoLimit)(hg:s₁.gens=#[])
  (ha:s₁.heap.get? a=some {cls:=.type "list",data:=.seq vs.toArray})(hi:IntsAre vs ns)(hl:ns.length<=sizeLine)(hr:aY k callerA)
  (F:∀base:Heap,K.In base->base.Ns mainGlobals mg->b8 P w K mg base CX k fa fd [x] sp)(hbind:∀(s:Shared)(u:Value),BindsTo s fd ⟨[u],[]⟩ [(x,u)])
  (Au:∀H:Hp,Sh H->cV K H a (ns.map V.int)->sp [.ref a] H (fun v _=>v=.bl true) fun _ _ _=>False)
  (hCX:∀H e s',CX [] H s₁ (fun _ _ _=>False) e s'->False):
  codeAny (model P w) callerA (.call (.ref fa) ⟨[.ref a],[]⟩) (fun r s'=>r=.ok (.ret (.bool true))/\OldK s₁.heap s'.heap/\s'.os=s₁.os/\AllBare s'.gens) s₁:=by
 have rv:=uA hi
 have aaE:=hi.length
 have core:∀H:Hp,Sh H->cV K H a (ns.map V.int)->nX P w H s₁.heap->(∀b,H b≠none->b=a)->(H a≠none->K.lookup a=none)->
   codeAny (model P w) callerA (.call (.ref fa) ⟨[.ref a],[]⟩) (fun r s'=>r=.ok (.ret (.bool true))/\OldK s₁.heap s'.heap/\s'.os=s₁.os/\AllBare s'.gens) s₁:=by
  intro H hO hS hok hA hK
  have Fd:∀{b:Addr}{o:Obj},s₁.heap.get? b=some o->H b=none->(An s₁.heap H).get? b=some o:=fun e n=>I9 e n
  have Wn:∀{b:Addr}{o:Obj}{es:Array DictEntry}{ep:Nat},s₁.heap.get? b=some o->o.data=.dict es ep->H b=none:=fun{b o es ep} e d=>by
   cases q:H b with
   |none=>rfl
   |some u=>
    have e':b=a:=hA b (by rw[q];simp)
    subst e'
    rw[ha]at e;cases e
    have d':Data.seq vs.toArray _=Data.dict es ep:=d
    cases d'
  have Zi:∀{b:Addr}{m:Str->Option Value},s₁.heap.Ns b m->(An s₁.heap H).Ns b m:=fun{b m}⟨o,es,ep,e,d,r⟩=>⟨o,es,ep,Fd e (Wn e d),d,r⟩
  have hKb:K.In (An s₁.heap H):=fun b o e=>Fd (KX b o e) (by
   cases q:H b with
   |none=>rfl
   |some u=>
    have e':b=a:=hA b (by rw[q];simp)
    subst e'
    rw[hK (by rw[q];simp)]at e;cases e)
  have hM:Mod K mg (An s₁.heap H):=⟨hKb,Zi hns,⟨mb,Zi hb,Ww⟩,let⟨mc,h1,h2⟩:=hlim;⟨mc,Zi h1,h2⟩⟩
  have e0:DI P w K mg (An s₁.heap H) callerA [] s₁ H:=⟨rfl,hM,fun b o e=>Ni e,le_of_eq (G5 _ _),trivial,fun b hb=>absurd (show b∈([]:List Addr)from hb) (by simp),hok,.of_eq hg⟩
  refine codeAny_mono ((F _ hKb (Zi hns)).run callerA [] s₁ H ⟨[.ref a],[]⟩ [.ref a] [.ref a] _ _ hr e0 (hbind s₁ (.ref a)) (.cons rfl .nil) (Au H hO hS)) fun r s' h=>?_
  cases r with
  |error e=>exact(hCX H e s' h).elim
  |ok fl=>
   cases fl with
   |next=>exact False.elim h
   |brk=>exact False.elim h
   |cont=>exact False.elim h
   |ret u=>
    obtain⟨v,H',os,bare,un,aaF,r',q⟩:=h
    have q':v=.bl true:=q
    subst q'
    obtain rfl:u=Value.bool true:=r'
    refine⟨rfl,OldK.of_keep fun b o e=>?_,os,bare⟩
    cases q:H b with
    |none=>exact un.keep b o e q (by intro z;exact absurd (show b∈([]:List Addr)from z) (by simp)) (by simp)
    |some u=>
     rcases hO b with z|⟨ob,xs,z⟩
     ·rw[q]at z;cases z
     ·have z2:=un.uv b ob _ z
      obtain⟨e1,_⟩:=hok b _ z
      obtain⟨e2,_⟩:=aaF b _ z2
      rw[e]at e1;cases e1
      exact e2
 cases hk:K.lookup a with
 |some o=>
  have e:=KX a o hk
  rw[ha]at e
  cases e
  refine core (fun _=>none) (fun _=>.inl rfl) (.inr ⟨_,vs.toArray,_,hk,rfl,rfl,rfl,by rw[size_toArray,aaE];exact hl,by simpa using rv⟩) (fun b u z=>by have z':(none:Option HO)=some u:=z;cases z') (fun b z=>absurd rfl z) fun z=>absurd rfl z
 |none=>
  refine core (fun b=>if b=a then some (.nW {cls:=.type "list",data:=.seq vs.toArray} (.lst (ns.map V.int)))else none) (fun b=>?_) (.inl (.inr ⟨{cls:=.type "list",data:=.seq vs.toArray},if_pos rfl⟩)) (fun b u z=>?_) (fun b z=>?_) fun _=>hk
  ·by_cases hb:b=a
   ·exact .inr ⟨_,_,if_pos hb⟩
   ·exact .inl (if_neg hb)
  ·by_cases hb:b=a
   ·have z':=(if_pos hb).symm.trans z
    cases z'
    subst hb
    exact⟨ha,by rw[length_map];exact hl,vs,_,rv,ha⟩
   ·have z':=(if_neg hb).symm.trans z
    cases z'
  ·by_cases hb:b=a
   ·exact hb
   ·exact absurd (if_neg hb) z
end L2
namespace L2
open PySem PySem.Spec PyProof.Rows
abbrev KOf{K:'b'}{h:Heap}(_:K.In h):PySem.W.Frag:=K
theorem NN{l:PySem.W.OpenLaw}{n k:Nat}{q:Program}{loose:List Str}{XP:(Str->Option Value)->Heap->Prop}{YP:World->Heap->Prop}{d:DefRec}{K:Params->PySem.W.Frag}{CX:World->IM}{sp:World->Sp}{x:Str}
  (hn:l.most=some n)(hn2:n<=sizeLine)(Wv:d.params.defaults=[])(hr:aY k callerA)
  (hY:∀(w:World)(h:Heap),YP w h->(K w.params).In h)
  (F:∀(w:World)(mg:Str->Option Value)(fa:Addr)(h:Heap),(K w.params).In h->h.Ns mainGlobals mg->mg d.name=some (.ref fa)->
   ∃fd:FuncData,(∀(s:Shared)(u:Value),BindsTo s fd ⟨[u],[]⟩ [(x,u)])/\
    ∀base:Heap,(K w.params).In base->base.Ns mainGlobals mg->b8 l.prog w (K w.params) mg base (CX w) k fa fd [x] (sp w))
  (Au:∀(w:World)(H:Hp)(a:Addr)(ns:List Int),ns.length<=n->Sh H->cV (K w.params) H a (ns.map V.int)->sp w [.ref a] H (fun v _=>v=.bl true) fun _ _ _=>False)
  (hCX:∀(w:World)(H:Hp)(s:Shared)(e:Value)(s':Shared),CX w [] H s (fun _ _ _=>False) e s'->False):
  PySem.W.WalkO q loose XP YP l.row.toRowW d [] (fun f vs=>PySem.call f vs):=by
 refine Att.BK hn Wv fun w s₀ s₁ mg mb fa o pm cd doc a vs ns G Y ho hd hcd hmg hobj hints hlen hg=>?_
 have KX:=hY w _ Y
 obtain⟨fd,hb,hF⟩:=F w mg fa _ KX G.T.g hmg
 exact JF KX G.T.g G.T.b G.T.builtins G.T.nolimit hg hobj hints (le_trans hlen hn2) hr hF hb (fun H hO hS=>Au w H a ns hlen hO hS) fun H e s'=>hCX w H s₁ e s'
end L2
namespace L2
open PySem PySem.Spec PyProof.Rows
def inClass(s:Stmt)(j:Nat):Stmt:=match s with
 |.ClassDef _ _ _ body _ _ _ _ _ _ _=>body.getD j (.Pass ⟨0,0,0,0⟩)
 |_=>.Pass ⟨0,0,0,0⟩
def eQ(s:Stmt):Arguments:=match s with
 |.FunctionDef _ a _ _ _ _ _ _ _ _=>a
 |_=>{posonlyargs:=[],args:=[],vararg:=none,kwonlyargs:=[],kw_defaults:=[],kwarg:=none,defaults:=[]}
def bE(s:Stmt):List Stmt:=match s with
 |.FunctionDef _ _ b _ _ _ _ _ _ _=>b
 |_=>[]
def ae(s:Stmt):Scope:=match s with
 |.FunctionDef _ _ _ _ _ _ sc _ _ _=>sc
 |_=>{kind:=.function,names:=[],isGenerator:=false,isCoroutine:=false}
abbrev lI:IM:=fun _ _ _ _ _ _=>False
abbrev E0:XK:=fun _ _ _=>False
theorem o9{X:Cx}:Passes lI X E0:=fun _ _ _ _ _ _ _ h=>h.elim
structure Bq(K:'b')(x qual:Str)(st:Stmt)(f:Addr)(fd:FuncData):Prop where
 ex:∃(oc:Value)(od:Option Addr)(kV doc pm:Value)(an:Option Addr)(cdv ct:Value)(Hj:Array (Option Value)),
  fd=PySem.W.fnOf x qual (eQ st) (bE st) (ae st) .none kV doc pm an cdv ct/\K.lookup f=some ⟨oc,od,.func fd,Hj⟩/\codeIn K cdv qual=true
 kp:keepIn K (.ref f)=true
section
variable{P:Program}{w:World}{K:'b'}{mg:Str->Option Value}{base:Heap}
theorem Bq.ok {x qual:Str}{st:Stmt}{f:Addr}{fd:FuncData}{N ps:List Str}{k:Nat}{sp:Sp}(F:Bq K x qual st f fd)(S:aA N ps (ae st))(len:∀vs H Q E,sp vs H Q E->vs.length=ps.length)
  (hbody:∀(cdv:Value)(A:Around)(outer:List Env)(s:Shared)(H:Hp)(vs:List V)(Q:VK)(E:XK),aY k (A.deeper (envOfC qual (ae st) s.heap.objs.size f cdv))->sp vs H Q E->
   ∃t,rB (dD lI P w K mg base N qual (ae st) f cdv A outer s H E).G8 (bE st) t/\t {nx:=fun _ H'=>Q .non H',rt:=Q} (start N vs) H):b8 P w K mg base lI (k+1) f fd ps sp:=by
 obtain⟨oc,od,kV,doc,pm,an,cdv,ct,Hj,rfl,lk,hcd⟩:=F.ex
 refine PK lk hcd S len fun A outer s H vs Q E hr Au=>?_
 obtain⟨t,h,q⟩:=hbody cdv A outer s H vs Q E hr Au
 exact⟨t,h.G8,q⟩
theorem Bq.binds {x qual:Str}{st:Stmt}{f:Addr}{fd:FuncData}{ps:List Str}(F:Bq K x qual st f fd)
  (h:∀(kV doc pm:Value)(an:Option Addr)(cdv ct:Value)(us:List Value),us.length=ps.length->bindArgs (PySem.W.fnOf x qual (eQ st) (bE st) (ae st) .none kV doc pm an cdv ct) ⟨us,[]⟩=pure (ps.zip us)):Binds K fd ps []:=by
 obtain⟨oc,od,kV,doc,pm,an,cdv,ct,Hj,rfl,lk,hcd⟩:=F.ex
 exact .all (h kV doc pm an cdv ct)
theorem DP{x qual:Str}{st:Stmt}{f:Addr}{oc:Value}{od an:Option Addr}{Hj:Array (Option Value)}{kV doc pm cdv ct:Value}(l:K.lookup f=some ⟨oc,od,.func (PySem.W.fnOf x qual (eQ st) (bE st) (ae st) .none kV doc pm an cdv ct),Hj⟩)
  (c:codeIn K cdv qual=true)(k:keepIn K (.ref f)=true):Bq K x qual st f (PySem.W.fnOf x qual (eQ st) (bE st) (ae st) .none kV doc pm an cdv ct):=⟨⟨oc,od,kV,doc,pm,an,cdv,ct,Hj,rfl,l,c⟩,k⟩
end
theorem sS{A:Around}{k:Nat}(hr:aY k A):A.units+1<cLine:=Nat.lt_of_le_of_lt (Nat.add_le_add_left (by decide:1<=64) _) hr.units
theorem Hm{n:Nat}(h:n<=1000):n<sizeLine:=Nat.lt_of_le_of_lt h (by decide)
section
variable{X:Cx}
theorem pv(i:Nat){x:Str}{pos:Pos}(hN:X.N[i]?=some x:=by rfl)(hv:yT X.env.scope x:=by first|exact Or.inl rfl|exact Or.inr (Or.inl rfl)|exact Or.inr (Or.inr rfl))(hd:(x==("__debug__":Str))=false:=by decide)
  (hcd:(x==("__classdict__":Str))=false:=by decide):PE X (.Name x pos) (Nn i):=gM hN hv hd hcd
end
theorem uB{A B:Prop}(h:B):if false=true then A else B:=by
 rw[if_neg Bool.false_ne_true]
 exact h
theorem wk{A B:Prop}(h:A):if true=true then A else B:=by
 rw[if_pos rfl]
 exact h
def aN(H H':Hp):Prop:=∀b o,H b=some o->H' b=some o
theorem aN.refl (H:Hp):aN H H:=fun _ _ h=>h
theorem aN.trans {H H1 H2:Hp}(a:aN H H1)(b:aN H1 H2):aN H H2:=fun c o h=>b c o (a c o h)
theorem aN.free {H H':Hp}(e:aN H H'){l:Addr}(h:H' l=Option.none):H l=Option.none:=by
 cases q:H l with
 |none=>rfl
 |some o=>
  rw[e l o q]at h
  cases h
theorem aN.seq {K:'b'}{H H':Hp}{a:Addr}{xs:List V}(e:aN H H')(h:cV K H a xs):cV K H' a xs:=by
 rcases h with(h|⟨o,h⟩)|h
 ·exact .inl (.inl (e _ _ h))
 ·exact .inl (.inr ⟨o,e _ _ h⟩)
 ·exact .inr h
end L2
set_option maxHeartbeats 4000000
namespace L2
open PySem PySem.Spec PyProof.Rows
section
variable{κ:Type}[DecidableEq κ]
def dE(kvs:List (κ×V))(k:κ):Option V:=(kvs.find? fun kv=>decide (kv.1=k)).map (·.2)
def putK(kvs:List (κ×V))(k:κ)(v:V):List (κ×V):=
 if(kvs.any fun kv=>decide (kv.1=k))=true then kvs.map (fun kv=>if kv.1=k then(kv.1,v)else kv)else kvs++[(k,v)]
def aeu(kvs:List (κ×V))(k:κ):List (κ×V):=kvs.filter fun kv=>decide (kv.1≠k)
theorem fz{p:κ×V}{r:List (κ×V)}{k:κ}(e:p.1=k):dE (p::r) k=some p.2:=by simp[dE,find?_cons,e]
theorem fA{p:κ×V}{r:List (κ×V)}{k:κ}(e:¬p.1=k):dE (p::r) k=dE r k:=by simp[dE,find?_cons,e]
theorem sU(k:κ):∀kvs:List (κ×V),(kvs.any fun kv=>decide (kv.1=k))=(dE kvs k).isSome
 |[]=>rfl
 |p::r=>by
  rw[any_cons]
  by_cases e:p.1=k
  ·simp only [fz e,decide_eq_true e,Bool.true_or,Option.isSome_some]
  ·rw[fA e,decide_eq_false e,Bool.false_or];exact sU k r
theorem BL(k j:κ)(y:V):∀kvs:List (κ×V),dE (kvs.map fun kv=>if kv.1=k then(kv.1,y)else kv) j=(dE kvs j).map fun x=>if j=k then y else x
 |[]=>rfl
 |p::r=>by
  have ih:=BL k j y r
  rw[map_cons]
  by_cases h:p.1=k
  ·rw[if_pos h]
   by_cases e:p.1=j
   ·rw[fz (p:=(p.1,y)) e,fz e,map_some,if_pos (e.symm.trans h)]
   ·rw[fA (p:=(p.1,y)) e,fA e,ih]
  ·rw[if_neg h]
   by_cases e:p.1=j
   ·rw[fz (p:=p) e,fz e,map_some,if_neg (fun z=>h (e.trans z))]
   ·rw[fA (p:=p) e,fA e,ih]
theorem zF(k j:κ)(y:V):∀kvs:List (κ×V),dE kvs k=none->dE (kvs++[(k,y)]) j=if j=k then some y else dE kvs j
 |[],_=>by
  by_cases e:k=j
  ·rw[if_pos e.symm];exact fz (p:=(k,y)) e
  ·rw[if_neg (fun z=>e z.symm)];exact fA (p:=(k,y)) e
 |p::r,hn=>by
  rw[cons_append]
  have hk:¬p.1=k:=fun z=>by rw[fz z]at hn;cases hn
  rw[fA hk]at hn
  have ih:=zF k j y r hn
  by_cases e:p.1=j
  ·rw[fz e,fz e,if_neg (fun z=>hk (e.trans z))]
  ·rw[fA e,fA e,ih]
theorem kP(kvs:List (κ×V))(k j:κ)(y:V):dE (putK kvs k y) j=if j=k then some y else dE kvs j:=by
 unfold putK
 by_cases a:(kvs.any fun kv=>decide (kv.1=k))=true
 ·rw[if_pos a,BL]
  rw[sU]at a
  by_cases e:j=k
  ·obtain⟨x,hx⟩:=isSome_iff_exists.mp a
   rw[if_pos e,e,hx,map_some,if_pos rfl]
  ·rw[if_neg e]
   cases dE kvs j with
   |none=>rfl
   |some x=>rw[map_some,if_neg e]
 ·rw[if_neg a]
  refine zF k j y kvs ?_
  rw[sU]at a
  cases q:dE kvs k with
  |none=>rfl
  |some x=>rw[q]at a;exact(a rfl).elim
theorem gY(kvs:List (κ×V))(k:κ)(v:V):(putK kvs k v).length<=kvs.length+1:=by
 unfold putK
 split
 ·rw[length_map];omega
 ·rw[length_append,length_cons,length_nil];omega
theorem pP.uC {o:Option V}{u:Option Value}(r:pP o u):o.isSome=u.isSome:=by
 cases o with
 |none=>cases u with
  |none=>rfl
  |some _=>exact(show False from r).elim
 |some _=>cases u with
  |none=>exact(show False from r).elim
  |some _=>rfl
theorem pP.getD {o:Option V}{u:Option Value}{d:V}{d':Value}(r:pP o u)(rd:RelV d d'):RelV (o.getD d) (u.getD d'):=by
 cases o with
 |none=>cases u with
  |none=>exact rd
  |some _=>exact(show False from r).elim
 |some _=>cases u with
  |none=>exact(show False from r).elim
  |some _=>exact r
theorem KV.val {kvs:List (κ×V)}{vs:List (κ×Value)}(r:KV kvs vs)(k:κ):pP (dE kvs k) (valueAt vs k):=by
 unfold KV at r
 induction r with
 |nil=>exact True.intro
 | @cons p q ps qs h t ih=>
  obtain⟨h1,h2⟩:=h
  by_cases e:p.1=k
  ·have e':q.1=k:=h1.symm.trans e
   have b:valueAt (q::qs) k=some q.2:=by simp[valueAt,find?_cons,e']
   rw[fz e,b];exact h2
  ·have e':¬q.1=k:=fun z=>e (h1.trans z)
   have b:valueAt (q::qs) k=valueAt qs k:=by simp[valueAt,find?_cons,e']
   rw[fA e,b];exact ih
theorem KV.any {kvs:List (κ×V)}{vs:List (κ×Value)}(r:KV kvs vs)(k:κ):(kvs.any fun kv=>decide (kv.1=k))=vs.any fun kv=>decide (kv.1=k):=by
 unfold KV at r
 induction r with
 |nil=>rfl
 |cons h t ih=>rw[any_cons,any_cons,ih,h.1]
theorem KV.Si {kvs:List (κ×V)}{vs:List (κ×Value)}(r:KV kvs vs)(k:κ){y:V}{u:Value}(ry:RelV y u):
  KV (kvs.map fun kv=>if kv.1=k then(kv.1,y)else kv) (vs.map fun kv=>if kv.1=k then(kv.1,u)else kv):=by
 unfold KV at r⊢
 induction r with
 |nil=>exact .nil
 | @cons p q ps qs h t ih=>
  rw[map_cons,map_cons]
  refine .cons ?_ ih
  obtain⟨h1,h2⟩:=h
  by_cases e:p.1=k
  ·rw[if_pos e,if_pos (h1.symm.trans e)];exact⟨h1,ry⟩
  ·rw[if_neg e,if_neg (fun z=>e (h1.trans z))];exact⟨h1,h2⟩
theorem KV.put {kvs:List (κ×V)}{vs:List (κ×Value)}(r:KV kvs vs)(k:κ){y:V}{u:Value}(ry:RelV y u):KV (putK kvs k y) (stored vs k u):=by
 unfold putK stored
 rw[r.any k]
 by_cases e:(vs.any fun kv=>decide (kv.1=k))=true
 ·rw[if_pos e,if_pos e];exact r.Si k ry
 ·rw[if_neg e,if_neg e];exact Paired.snoc r ⟨rfl,ry⟩
theorem KV.length {kvs:List (κ×V)}{vs:List (κ×Value)}(r:KV kvs vs):kvs.length=vs.length:=Paired.length r
end
theorem BN{P:Program}{w:World}{k:Key}{u:Value}(r:RelV (kV k) u):(dB P w).is k u=true:=by
 cases k with
 |inl i=>obtain⟨t,e⟩:=(show∃t,u=Value.int i t from r);subst e;exact BC P w i t
 |inr x=>obtain⟨t,e⟩:=(show∃t,u=Value.str x t from r);subst e;exact BD P w x t
theorem zG{P:Program}{w:World}:∀{ks:List Key}{us:List Value},Vals (ks.map kV) us->ItemsAre (dB P w) ks us
 |[],_,r=>by rw[map_nil]at r;cases r;exact .nil
 |k::ks,_,r=>by
  rw[map_cons]at r
  cases r with
  |cons h t=>exact .cons (BN h) (zG t)
abbrev KT(H:Hp):List (List Key×V)->List (List Key×Addr×Value)->Prop:=Paired fun p q=>p.1=q.1/\H q.2.1=some (.tup (p.1.map kV))/\RelV p.2 q.2.2
theorem KT.val {H:Hp}{kvs:List (List Key×V)}{xs:List (List Key×Addr×Value)}(r:KT H kvs xs)(k:List Key):pP (dE kvs k) ((atKey xs k).map (·.2)):=by
 induction r with
 |nil=>exact True.intro
 | @cons p q ps qs h t ih=>
  obtain⟨h1,_,h2⟩:=h
  by_cases e:p.1=k
  ·have e':q.1=k:=h1.symm.trans e
   have b:atKey (q::qs) k=some q.2:=by simp[atKey,find?_cons,e']
   rw[fz e,b];exact h2
  ·have e':¬q.1=k:=fun z=>e (h1.trans z)
   have b:atKey (q::qs) k=atKey qs k:=by simp[atKey,find?_cons,e']
   rw[fA e,b];exact ih
theorem KT.Si {H:Hp}{kvs:List (List Key×V)}{xs:List (List Key×Addr×Value)}(r:KT H kvs xs)(k:List Key){y:V}{u:Value}(ry:RelV y u):
  KT H (kvs.map fun kv=>if kv.1=k then(kv.1,y)else kv) (xs.map (putAt k u)):=by
 induction r with
 |nil=>exact .nil
 | @cons p q ps qs h t ih=>
  rw[map_cons,map_cons]
  refine .cons ?_ ih
  obtain⟨h1,h2,h3⟩:=h
  unfold putAt
  by_cases e:p.1=k
  ·rw[if_pos e,if_pos (h1.symm.trans e)];exact⟨h1,h2,ry⟩
  ·rw[if_neg e,if_neg (fun z=>e (h1.trans z))];exact⟨h1,h2,h3⟩
theorem KT.put {H:Hp}{kvs:List (List Key×V)}{xs:List (List Key×Addr×Value)}(r:KT H kvs xs)(k:List Key){b:Addr}{y:V}{u:Value}(hb:H b=some (.tup (k.map kV)))(ry:RelV y u):
  KT H (putK kvs k y) (storedH xs k b u):=by
 have e:(kvs.any fun kv=>decide (kv.1=k))=(atKey xs k).isSome:=by
  rw[sU,(r.val k).uC,isSome_map]
 unfold putK storedH
 rw[e]
 by_cases q:(atKey xs k).isSome=true
 ·rw[if_pos q,if_pos q];exact r.Si k ry
 ·rw[if_neg q,if_neg q];exact Paired.snoc r ⟨rfl,hb,ry⟩
theorem KT.keeps {H H':Hp}{kvs:List (List Key×V)}{xs:List (List Key×Addr×Value)}(r:KT H kvs xs)(ht:∀b ys,H b=some (.tup ys)->H' b=some (.tup ys)):KT H' kvs xs:=
 Paired.Ry r fun _ _ z=>⟨z.1,ht _ _ z.2.1,z.2.2⟩
section
variable{P:Program}{w:World}{H:Hp}{h:Heap}{a:Addr}
theorem PL{u:HO}(ok:nX P w H h)(e:Rd H a u):cD P w H h a u:=e.ok ok
theorem zH{kvs:List (Key×V)}(ok:nX P w H h)(e:Rd H a (.dK kvs)):kvs.length<=sizeLine/\(a==sysModules)=false/\∃vs,KV kvs vs/\h.DictOf (dB P w) a vs:=
 show cD P w H h a (.dK kvs)from PL ok e
theorem Wx{kvs:List (Key×V)}(ok:nX P w H h)(e:H a=some (.dK kvs)):kvs.length<=sizeLine/\(a==sysModules)=false/\∃vs,KV kvs vs/\h.DictOf (dB P w) a vs:=zH ok (.inl e)
theorem xB{ks:List Key}(ok:nX P w H h)(e:H a=some (.tup (ks.map kV))):(tupleKind (dB P w)).is h ks a:=by
 obtain⟨_,its,r,o,h1,h2,n,h3⟩:=(show cD P w H h a (.tup (ks.map kV))from ok a _ e)
 exact⟨o,its.toArray,n,h1,h2,h3,by simpa using zG r⟩
theorem xC{kvs:List (List Key×V)}(ok:nX P w H h)(e:Rd H a (.dT kvs)):kvs.length<=sizeLine/\(a==sysModules)=false/\
  ∃xs,KT H kvs xs/\h.DictOfH (tupleKind (dB P w)) a xs:=by
 obtain⟨z,y,xs,r,o,es,ep,h1,h2,h3,h4,h5⟩:=(show cD P w H h a (.dT kvs)from PL ok e)
 refine⟨z,y,xs,r,o,es,ep,h1,h2,h3,h4,fun x hx=>?_,h5⟩
 have all:∀{l:List (List Key×V)}{m:List (List Key×Addr×Value)},KT H l m->∀x∈m,(tupleKind (dB P w)).is h x.1 x.2.1:=by
  intro l m q
  induction q with
  |nil=>intro x hx;exact nomatch hx
  | @cons p q ps qs hq t ih=>
   intro x hx
   rcases mem_cons.mp hx with e|hx
   ·subst e
    exact xB ok (by rw[<-hq.1];exact hq.2.1)
   ·exact ih x hx
 exact all r x hx
theorem Wy{kvs:List (List Key×V)}(ok:nX P w H h)(e:H a=some (.dT kvs)):kvs.length<=sizeLine/\(a==sysModules)=false/\
  ∃xs,KT H kvs xs/\h.DictOfH (tupleKind (dB P w)) a xs:=xC ok (.inl e)
end
def oh(H:Hp)(a:Addr)(y:V)(r:Option V):Prop:=
 (∃kvs k,Rd H a (.dK kvs)/\y=kV k/\r=dE kvs k)\/∃kvs k b,Rd H a (.dT kvs)/\y=.ref b/\H b=some (.tup (k.map kV))/\r=dE kvs k
def BO(H:Hp)(a:Addr)(y v:V)(H':Hp):Prop:=
 (∃kvs k,H a=some (.dK kvs)/\y=kV k/\kvs.length<sizeLine/\H'=upd H a (.dK (putK kvs k v)))\/
 ∃kvs k b,H a=some (.dT kvs)/\y=.ref b/\H b=some (.tup (k.map kV))/\kvs.length<sizeLine/\H'=upd H a (.dT (putK kvs k v))
theorem oh.t {H:Hp}{a b:Addr}{kvs:List (List Key×V)}{k:List Key}(e:H a=some (.dT kvs))(eb:H b=some (.tup (k.map kV))):oh H a (.ref b) (dE kvs k):=.inr ⟨kvs,k,b,.inl e,rfl,eb,rfl⟩
theorem BO.t {H:Hp}{a b:Addr}{kvs:List (List Key×V)}{k:List Key}{v:V}(e:H a=some (.dT kvs))(eb:H b=some (.tup (k.map kV)))(hl:kvs.length<sizeLine):
  BO H a (.ref b) v (upd H a (.dT (putK kvs k v))):=.inr ⟨kvs,k,b,e,rfl,eb,hl,rfl⟩
section
variable{X:Cx}{pins:List (Addr×Obj)}{σ:St}{H:Hp}{s:Shared}{a:Addr}{y v:V}{u r:Value}{o:Option V}{A:Around}{E:Value->Shared->Prop}
theorem Inv.big (I:Inv X pins σ H s):sysModules<s.heap.objs.size:=by
 have h:mainGlobals<s.heap.objs.size:=(I.mod.glob.keeps I.bk).lt
 exact lt_trans (by decide) h
theorem Ho{Q:Value->Shared->Prop}(hu:A.units+1<cLine)(I:Inv X pins σ H s)(g:oh H a y (some v))(ry:RelV y u)(h:∀w' s',Inv X pins σ H s'->RelV v w'->Q w' s'):
  wpAny (model X.prog X.w) A (getItem (.ref a) u) Q E s:=by
 rcases g with⟨kvs,k,e,ey,l⟩|⟨kvs,k,b,e,ey,eb,l⟩
 ·subst ey
  obtain⟨z,hd,vs,rel,dd⟩:=zH I.hok e
  obtain⟨w',hw,lG⟩:=pP.some_of (v:=v) (o:=valueAt vs k) (by rw[l];exact rel.val k)
  exact wpAny_getItem_of (BN ry) dd.mapOf hw (h w' _ (I.tok _) lG)
 ·subst ey
  cases (show u=Value.ref b from ry)
  obtain⟨z,hd,xs,rel,dd⟩:=xC I.hok e
  obtain⟨w',hw,lG⟩:=pP.some_of (v:=v) (o:=(atKey xs k).map (·.2)) (by rw[l];exact rel.val k)
  obtain⟨p,hp,Zj⟩:=Option.map_eq_some_iff.mp hw
  refine wpAny_getItem_heap (tupleKind_room_in1 hu) (xB I.hok eb) dd hp ?_
  rw[Zj]
  exact h w' _ (I.tok _) lG
theorem NP{Q:Value->Shared->Prop}(hu:A.units+1<cLine)(I:Inv X pins σ H s)(g:oh H a y o)(ry:RelV y u)(h:∀s',Inv X pins σ H s'->Q (.bool (!o.isSome)) s'):
  wpAny (model X.prog X.w) A (compareOp .NotIn u (.ref a)) Q E s:=by
 rcases g with⟨kvs,k,e,ey,l⟩|⟨kvs,k,b,e,ey,eb,l⟩
 ·subst ey
  obtain⟨z,hd,vs,rel,dd⟩:=zH I.hok e
  refine wpAny_notIn_of (BN ry) hd dd.mapOf ?_
  rw[<-(rel.val k).uC,<-l]
  exact h _ (I.tok _)
 ·subst ey
  cases (show u=Value.ref b from ry)
  obtain⟨z,hd,xs,rel,dd⟩:=xC I.hok e
  refine wpAny_notIn_heap (tupleKind_room_in1 hu) (xB I.hok eb) hd dd ?_
  have q:=(rel.val k).uC
  rw[isSome_map]at q
  rw[<-q,<-l]
  exact h _ (I.tok _)
theorem Fe{h':Heap}{t':Nat}{ob:HO}(I:Inv X pins σ H s)(mu:VW (H a))(hs:Heap.SameBut a s.heap h')(he:∃q,h'.get? a=some q)(new:cD X.prog X.w (upd H a ob) h' a ob):
  Inv X pins σ (upd H a ob) {s with heap:=h',toks:=t'}:=
 I.write (x:=a) (e:=a) mu (.inl rfl) (fun b q hb z=>(hs.2 b hb).trans z) he new
theorem Sn{P:Program}{w:World}{H':Hp}{h':Heap}{kvs:List (Key×V)}{vs:List (Key×Value)}(z:kvs.length<=sizeLine)(hd:(a==sysModules)=false)(rel:KV kvs vs)(dd:h'.DictOf (dB P w) a vs):
  cD P w H' h' a (.dK kvs):=⟨z,hd,vs,rel,dd⟩
theorem Hq{H':Hp}{Q:Unit->Shared->Prop}(hu:A.units+1<cLine)(I:Inv X pins σ H s)(g:BO H a y v H')(ry:RelV y u)(rv:RelV v r)(h:∀s',Inv X pins σ H' s'->Q () s'):
  wpAny (model X.prog X.w) A (setItem (.ref a) u r) Q E s:=by
 rcases g with⟨kvs,k,e,ey,l,eH⟩|⟨kvs,k,b,e,ey,eb,l,eH⟩
 ·subst ey eH
  obtain⟨z,hd,vs,rel,dd⟩:=Wx I.hok e
  have hz:vs.length<=sizeLine:=by rw[<-rel.length];exact z
  have hl:(putK kvs k v).length<=sizeLine:=by have:=gY kvs k v;omega
  refine wpAny_setItem_pairs (hsz:=hz) (BN ry) dd fun h' Zk hs=>h _ ?_
  have he:∃q,h'.get? a=some q:=let⟨q,_,_,hq,_⟩:=Zk;⟨q,hq⟩
  exact Fe I (by rw[e];exact True.intro) hs he (Sn hl hd (rel.put k rv) Zk)
 ·subst ey eH
  cases (show u=Value.ref b from ry)
  obtain⟨z,hd,xs,rel,dd⟩:=Wy I.hok e
  have hz:xs.length<=sizeLine:=by rw[<-Paired.length rel];exact z
  have hl:(putK kvs k v).length<=sizeLine:=by have:=gY kvs k v;omega
  refine wpAny_setItem_heap (hsz:=hz) (tupleKind_room_in1 hu) (xB I.hok eb) dd fun h' Zk hs=>h _ ?_
  obtain⟨q,es,ep,hq,h2,h3,h4,_,h5⟩:=Zk
  refine Fe I (by rw[e];exact True.intro) hs ⟨q,hq⟩ ⟨hl,hd,_,(rel.put k eb rv).keeps fun c ys ec=>?_,q,es,ep,hq,h2,h3,h4,h5⟩
  rw[aj (bO ec e (fun z=>nomatch z))]
  exact ec
end
def Wz(i:Expr):Prop:=∀ov iv,subscripted i false ov iv=operate [ov,iv] (getItem ov iv)
theorem NQ{prog:Program}{w:World}{A:Around}{E:Value->Shared->Prop}{s:Shared}{env:Env}{value slice:Expr}{pos:Pos}{T id:String}{Q:Value->Shared->Prop}
  (hl:typeLookup (.type T) "__getitem__"=pure (some (.builtin id)))(hs:Wz slice)
  (h:wpAny (model prog w) A (eval value env) (fun o s₁=>wpAny (model prog w) A (eval slice env) (fun i s₂=>s₂.TypeIs o T/\wpAny (model prog w) A (getItem o i) Q E s₂) E s₁) E s):
  wpAny (model prog w) A (eval (.Subscript value slice pos) env) Q E s:=by
 refine Subscript_ (wpAny_mono h (fun o s₁ h₁=>wpAny_mono h₁ (fun i s₂ h₂=>?_) fun _ _ x=>x) fun _ _ x=>x)
 obtain⟨hT,h₂⟩:=h₂
 unfold subscriptTail
 refine wpAny_bind ?_
 rw[getitemInPython_of_ne hT.not_modules]
 refine wpAny_bind (wpAny_specialOf hT hl ?_)
 have fin:wpAny (model prog w) A (subscripted slice false o i) (fun r s₃=>wpAny (model prog w) A (letTemporaryGo value o r>>=fun _=>pure r) Q E s₃) E s₂:=by
  rw[hs o i]
  exact wpAny_operating (wpAny_mono h₂ (fun r s₃ h₃=>wpAny_bind (wpAny_letTemporaryGo (wpAny_pure h₃))) fun _ _ x=>x)
 first
  |exact wpAny_pure (wpAny_bind fin)
  |exact wpAny_bind (wpAny_pure (wpAny_bind fin))
  |exact wpAny_bind fin
theorem BP{X:Cx}{pins:List (Addr×Obj)}{σ:St}{H:Hp}{s:Shared}{a:Addr}{y:V}{o:Option V}(I:Inv X pins σ H s)(g:oh H a y o):s.TypeIs (.ref a) "dict":=by
 rcases g with⟨kvs,k,e,_,_⟩|⟨kvs,k,b,e,_,_,_⟩
 ·obtain⟨_,_,vs,_,dd⟩:=zH I.hok e
  exact dd.typeIs
 ·obtain⟨_,_,xs,_,dd⟩:=xC I.hok e
  exact dd.typeIs
def WA(td ty:TE):TE:=fun σ H Q=>td σ H fun x H1=>ty σ H1 fun y H2=>∃a v,x=.ref a/\oh H2 a y (some v)/\Q v H2
def NR(ty td:TE):TE:=fun σ H Q=>ty σ H fun y H1=>td σ H1 fun x H2=>∃a o,x=.ref a/\oh H2 a y o/\Q (.bl (!o.isSome)) H2
def WB(td ty tv:TE):TS:=fun D σ H=>tv σ H fun v H1=>td σ H1 fun x H2=>ty σ H2 fun y H3=>∃a H4,x=.ref a/\BO H3 a y v H4/\D.nx σ H4
section
variable{X:Cx}{o i e value:Expr}{pos pos' aap:Pos}{td ty tv:TE}
theorem AD(hu:X.A.units+1<cLine)(ho:PE X o td)(hi:PE X i ty)(hs:Wz i):PE X (.Subscript o i pos) (WA td ty):=by
 intro pins s σ H Q I h
 refine NQ PySem.F.slot_dict_getitem.lookup hs (cC (ho pins s σ H _ I h) fun u s1 ⟨x,H1,I1,rx,q1⟩=>cC (hi pins s1 σ H1 _ I1 q1) fun iv s2 ⟨y,H2,I2,ry,a,v,ex,g,q2⟩=>?_)
 subst ex
 obtain rfl:u=Value.ref a:=rx
 exact⟨BP I2 g,Ho hu I2 g ry fun w' s3 I3 lG=>⟨v,H2,I3,lG,q2⟩⟩
theorem uD(hu:X.A.units+1<cLine)(hi:PE X i ty)(ho:PE X o td):PC X .NotIn i o (NR ty td):=by
 intro pins s σ H Q I h
 refine cC (hi pins s σ H _ I h) fun iv s1 ⟨y,H1,I1,ry,q1⟩=>cC (ho pins s1 σ H1 _ I1 q1) fun u s2 ⟨x,H2,I2,rx,a,ov,ex,g,q2⟩=>?_
 subst ex
 obtain rfl:u=Value.ref a:=rx
 exact NP hu I2 g ry fun s3 I3=>⟨.bl (!ov.isSome),H2,I3,rfl,q2⟩
theorem wQ(hu:X.A.units+1<cLine)(ho:PE X o td)(hi:PE X i ty)(hv:PE X value tv)(hs:swapsWith value (some (.Subscript o i pos')) pos.line X.env=pure false):
  PS X (.Assign [.Subscript o i pos'] value pos) (WB td ty tv):=by
 intro pins s σ H D I h
 refine wpAny_Assign_Subscript (cC (hv pins s σ H _ I h) fun r s1 ⟨v,H1,I1,rv,q1⟩=>cC (ho pins s1 σ H1 _ I1 q1) fun u s2 ⟨x,H2,I2,rx,q2⟩=>cC (hi pins s2 σ H2 _ I2 q2) fun iv s3 ⟨y,H3,I3,ry,a,H4,ex,g,q3⟩=>?_) hs
 subst ex
 obtain rfl:u=Value.ref a:=rx
 exact Hq hu I3 g ry rv fun s4 I4=>⟨σ,H4,I4,q3⟩
end
theorem JG{P:Program}{w:World}{H:Hp}(h:Heap)(hb:sysModules<h.objs.size):cD P w H (h.push {cls:=.type "dict",data:=.dict #[]}) h.objs.size (.dT []):=
 ⟨zero_le _,beq_eq_false_iff_ne.mpr (Ne.symm (ne_of_lt hb)),[],.nil,_,#[],0,Heap.get?_push_size _ rfl,⟨rfl,rfl,rfl⟩,rfl,rfl,List.nodup_nil⟩
def So:TE:=fun _ H Q=>∀p,H p=none->Q (.ref p) (upd H p (.dT []))
section
variable{X:Cx}{pos:Pos}
theorem sV:PE X (.Dict [] [] pos) So:=fun pins s σ H Q I h=>
 wpAny_Dict_empty ⟨.ref s.heap.objs.size,_,I.laid (a:=s.heap.objs.size) (o:=.dT []) (t':=s.toks) (fun _ _ q=>Heap.get?_push_of_some _ q) (Nat.le_refl _) (JG s.heap I.big),rfl,h _ (I.hok.fresh (Nat.le_refl _))⟩
end
end L2
namespace L2
open PySem PySem.Spec PyProof.Rows
variable{X:Cx}
structure M1(X:Cx)(o:Expr)(m:Str)(apos:Pos)(e:Expr)(bg:Pos):Prop where
 base:attributeBase o m X.env (eval o X.env)=eval o X.env
 few:((backTo bg (starEach [e] X.env)).all (fun x=> !x.1)&&(backToKw bg (keywordEach [] X.env)).all (fun x=>x.1.isSome)
  &&decide (([e]:List Expr).length+([]:List Keyword).length+(if([]:List Keyword).isEmpty then 0 else 1)<30))=true
 line:(apos.endLine==bg.line)=true
 trees:backTo bg (starEach [e] X.env)=[(false,eval e X.env)]
def IsD(H:Hp)(a:Addr):Prop:=(∃kvs,Rd H a (.dK kvs))\/∃kvs,Rd H a (.dT kvs)
theorem Sq{X:Cx}{pins:List (Addr×Obj)}{σ:St}{H:Hp}{s:Shared}{a:Addr}(I:Inv X pins σ H s)(d:IsD H a):
  s.TypeIs (.ref a) "dict"/\(∀b,Value.ref a=.ref b->∃ob,s.heap.get? b=some ob/\ob.dict=none)/\(a==sysModules)=false:=by
 rcases d with⟨kvs,e⟩|⟨kvs,e⟩
 ·obtain⟨_,hd,vs,_,dd⟩:=zH I.hok e
  refine⟨dd.typeIs,fun b q=>?_,hd⟩
  cases q
  obtain⟨ob,_,_,h1,h2,_⟩:=dd
  exact⟨ob,h1,h2.2.1⟩
 ·obtain⟨_,hd,xs,_,dd⟩:=xC I.hok e
  refine⟨dd.typeIs,fun b q=>?_,hd⟩
  cases q
  obtain⟨ob,_,_,h1,h2,_⟩:=dd
  exact⟨ob,h1,h2.2.1⟩
section
variable{X:Cx}{pins:List (Addr×Obj)}{σ:St}{H:Hp}{s:Shared}{a:Addr}{y d:V}{u r:Value}{o:Option V}{A:Around}{E:Value->Shared->Prop}
theorem Ss{Q:Value->Shared->Prop}(hu:A.units+1<cLine)(I:Inv X pins σ H s)(g:oh H a y o)(ry:RelV y u)(h:∀w' s',Inv X pins σ H s'->RelV (o.getD .non) w'->Q w' s'):
  wpAny (model X.prog X.w) A (call (.builtin "dict.get") [.ref a,u]) Q E s:=by
 rcases g with⟨kvs,k,e,ey,l⟩|⟨kvs,k,b,e,ey,eb,l⟩
 ·subst ey
  obtain⟨z,hd,vs,rel,dd⟩:=zH I.hok e
  refine call_meetsIn slot_dict_get dd.typeIs entry_dict_get (PySem.F.args_dict_get_2 _ _) (meets_dict_get (dB X.prog X.w) a (BN ry) hd) ⟨_,dd.mapOf,h _ _ (I.tok _) ?_⟩
  rw[l]
  exact(rel.val k).getD rfl
 ·subst ey
  cases (show u=Value.ref b from ry)
  obtain⟨z,hd,xs,rel,dd⟩:=xC I.hok e
  refine call_meetsIn slot_dict_get dd.typeIs entry_dict_get (PySem.F.args_dict_get_2 _ _) (meetsH_dict_get (tupleKind (dB X.prog X.w)) a b hd) ⟨tupleKind_room_in1 hu,k,xs,xB I.hok eb,dd,h _ _ (I.tok _) ?_⟩
  rw[l]
  exact(rel.val k).getD rfl
end
def Su(td ty:TE):TE:=fun σ H Q=>td σ H fun x H1=>∃a,x=.ref a/\IsD H1 a/\ty σ H1 fun y H2=>∃o,oh H2 a y o/\Q (o.getD .non) H2
section
variable{X:Cx}{o e f:Expr}{apos bg:Pos}{td ty tx:TE}
theorem JH(hu:X.A.units+1<cLine)(ho:PE X o td)(he:PE X e ty)(m:M1 X o "get" apos e bg):PE X (.Call (.Attribute o "get" apos) [e] [] bg) (Su td ty):=by
 intro pins s σ H Q I h
 refine wpAny_Call_method m.base m.few m.line PySem.F.plainAttrs_dict slot_dict_get PySem.F.type_dict_get (cC (ho pins s σ H _ I h) fun u s1 ⟨x,H1,I1,rx,a,ex,d,q1⟩=>?_)
 subst ex
 obtain rfl:u=Value.ref a:=rx
 obtain⟨t1,t2,_⟩:=Sq I1 d
 refine⟨t1,t2,?_⟩
 rw[m.trees]
 refine Calls.callWith_builtin rfl (Calls.evalArgs_plain (Calls.spliced_cons (cC (he pins s1 σ H1 _ I1 q1) fun iv s2 ⟨y,H2,I2,ry,ov,g,q2⟩=>Calls.spliced_nil ?_)))
 exact Ss hu I2 g ry fun w' s3 I3 lG=>⟨_,H2,I3,lG,q2⟩
end
end L2
namespace DL
open PySem PySem.Spec PyProof.Rows L2
abbrev St:=L2.St
inductive D where
 |non|bl (b:Bool)|int (i:Int)|str (x:Str)|lst (xs:List D)|tup (xs:List D)|exc (n:Str)|fn (n:Str)
 deriving Inhabited
inductive R (α:Type) where
 |ok (a:α)|err (c:Str)|bad
def R.bind {α β:Type}(r:R α)(f:α->R β):R β:=match r with
 |.ok a=>f a
 |.err c=>.err c
 |.bad=>.bad
def R.of {α:Type}:Option α->R α
 |some a=>.ok a
 |none=>.bad
theorem R.bF {α β:Type}(a:α)(f:α->R β):(R.ok a).bind f=f a:=rfl
theorem R.lQ {α:Type}(a:α):R.of (some a)=.ok a:=rfl
def Good{α:Type}(E:Str->Hp->Prop)(H₀:Hp)(r:R α)(post:α->Prop):Prop:=match r with
 |.ok a=>post a
 |.err c=>∀H',aN H₀ H'->E c H'
 |.bad=>False
theorem Good.bind {α β:Type}{E:Str->Hp->Prop}{H₀:Hp}{r:R α}{k:α->R β}{post:β->Prop}(h:Good E H₀ (r.bind k) post):Good E H₀ r (fun a=>Good E H₀ (k a) post):=by
 cases r with
 |ok a=>exact h
 |err c=>exact h
 |bad=>exact h
theorem Good.mono {α:Type}{E:Str->Hp->Prop}{H₀:Hp}{r:R α}{p q:α->Prop}(h:Good E H₀ r p)(w:∀a,r=.ok a->p a->q a):Good E H₀ r q:=by
 cases r with
 |ok a=>exact w a rfl h
 |err c=>exact h
 |bad=>exact h
theorem Good.Ff {α β:Type}{E:Str->Hp->Prop}{H₀:Hp}{r:R α}{k:α->R β}{p:α->Prop}{q:β->Prop}(h:Good E H₀ r p)(w:∀a,r=.ok a->p a->Good E H₀ (k a) q):Good E H₀ (r.bind k) q:=by
 cases r with
 |ok a=>exact w a rfl h
 |err c=>exact h
 |bad=>exact h
theorem Good.of {α:Type}{E:Str->Hp->Prop}{H₀:Hp}{o:Option α}{p:α->Prop}(h:Good E H₀ (R.of o) p):∃a,o=some a/\p a:=by
 cases o with
 |none=>exact False.elim h
 |some a=>exact⟨a,rfl,h⟩
def KL(K:'b')(a:Addr)(xs:List V):Prop:=∃(o:Obj)(its:Array Value)(n:Nat),K.lookup a=some o/\o.cls=.type "list"/\o.dict=none/\o.data=.seq its n/\its.size<=sizeLine/\Vals xs its.toList
def KT(K:'b')(a:Addr)(xs:List V):Prop:=∃(o:Obj)(its:Array Value)(n:Nat),K.lookup a=some o/\o.cls=.type "tuple"/\o.data=.seq its n/\its.size<=sizeLine/\Vals xs its.toList
def wm(K:'b')(P:Addr->Prop)(H:Hp)(a:Addr)(vs:List V):Prop:=(P a/\Rd H a (.lst vs))\/KL K a vs
def Hr(K:'b')(P:Addr->Prop)(H:Hp)(a:Addr)(vs:List V):Prop:=(P a/\Rd H a (.tup vs))\/KT K a vs
theorem wm.sq {K:'b'}{P:Addr->Prop}{H:Hp}{a:Addr}{vs:List V}(h:wm K P H a vs):cV K H a vs:=h.elim (fun z=>.inl z.2) .inr
theorem Hr.sq {K:'b'}{P:Addr->Prop}{H:Hp}{a:Addr}{vs:List V}(h:Hr K P H a vs):Bp K H a vs:=h.elim (fun z=>.inl z.2) .inr
theorem wm.any {K:'b'}{H:Hp}{a:Addr}{vs:List V}(h:cV K H a vs):wm K (fun _=>True) H a vs:=h.elim (fun z=>.inl ⟨trivial,z⟩) .inr
def JI(a C:Addr):Heap->Prop:=fun h=>∃vs,h.get? a=some {cls:=.ref C,data:=.fields vs}
def Is(K:'b')(P:Addr->Prop)(H:Hp):D->V->Prop
 |.non,v=>v=.non
 |.bl b,v=>v=.bl b
 |.int i,v=>v=.int i
 |.str x,v=>v=.str x
 |.lst ds,v=>∃a vs,v=.ref a/\wm K P H a vs/\IsL ds vs
 |.tup ds,v=>∃a vs,v=.ref a/\Hr K P H a vs/\IsL ds vs
 |.exc n,v=>∃a C,v=.ref a/\P a/\nsIn K mainGlobals n=some (some (.ref C))/\H a=some (.ext (JI a C))
 |.fn n,v=>∃a,v=.ref a/\nsIn K mainGlobals n=some (some (.ref a))
where
 IsL:List D->List V->Prop
 |[],vs=>vs=[]
 |d::ds,vs=>∃v r,vs=v::r/\Is K P H d v/\IsL ds r
abbrev IsL(K:'b')(P:Addr->Prop)(H:Hp):List D->List V->Prop:=Is.IsL K P H
section
variable{K:'b'}{P P':Addr->Prop}{H H':Hp}
structure Ext(P P':Addr->Prop)(H H':Hp):Prop where
 p:∀a o,P a->H a=some o->P' a
 h:∀a o,P a->H a=some o->H' a=some o
theorem Ext.rd (e:Ext P P' H H'){a:Addr}{u:HO}(p:P a)(r:Rd H a u):P' a/\Rd H' a u:=by
 rcases r with r|⟨o,r⟩
 ·exact⟨e.p a _ p r,.inl (e.h a _ p r)⟩
 ·exact⟨e.p a _ p r,.inr ⟨o,e.h a _ p r⟩⟩
theorem wm.ext (e:Ext P P' H H'){a:Addr}{vs:List V}(h:wm K P H a vs):wm K P' H' a vs:=h.elim (fun z=>.inl (e.rd z.1 z.2)) .inr
theorem Hr.ext (e:Ext P P' H H'){a:Addr}{vs:List V}(h:Hr K P H a vs):Hr K P' H' a vs:=h.elim (fun z=>.inl (e.rd z.1 z.2)) .inr
mutual
theorem Is.ext (e:Ext P P' H H'):∀(d:D)(v:V),Is K P H d v->Is K P' H' d v
 |.non,_,h=>h
 |.bl _,_,h=>h
 |.int _,_,h=>h
 |.str _,_,h=>h
 |.lst ds,_,⟨a,vs,e1,l,q⟩=>⟨a,vs,e1,l.ext e,IsL.ext e ds vs q⟩
 |.tup ds,_,⟨a,vs,e1,l,q⟩=>⟨a,vs,e1,l.ext e,IsL.ext e ds vs q⟩
 |.exc n,_,⟨a,C,e1,p,c,q⟩=>⟨a,C,e1,e.p a _ p q,c,e.h a _ p q⟩
 |.fn _,_,h=>h
theorem IsL.ext (e:Ext P P' H H'):∀(ds:List D)(vs:List V),IsL K P H ds vs->IsL K P' H' ds vs
 |[],_,h=>h
 |d::ds,_,⟨v,r,e1,p,q⟩=>⟨v,r,e1,Is.ext e d v p,IsL.ext e ds r q⟩
end
theorem Ext.same (s:aN H H'):Ext P P H H':=⟨fun _ _ p _=>p,fun a o _ h=>s a o h⟩
theorem Is.same (s:aN H H'){d:D}{v:V}(h:Is K P H d v):Is K P H' d v:=Is.ext (.same s) d v h
theorem IsL.same (s:aN H H'){d:List D}{v:List V}(h:IsL K P H d v):IsL K P H' d v:=IsL.ext (.same s) d v h
theorem Is.weak {d:D}{v:V}(h:Is K P H d v):Is K (fun _=>True) H d v:=Is.ext ⟨fun _ _ _ _=>trivial,fun _ _ _ q=>q⟩ d v h
theorem IsL.weak {d:List D}{v:List V}(h:IsL K P H d v):IsL K (fun _=>True) H d v:=IsL.ext ⟨fun _ _ _ _=>trivial,fun _ _ _ q=>q⟩ d v h
def toV:D->Option V
 |.non=>some .non
 |.bl b=>some (.bl b)
 |.int i=>some (.int i)
 |.str x=>some (.str x)
 |_=>none
theorem Is.sc {d:D}{z:V}(h:toV d=some z):Is K P H d z:=by
 cases d with
 |non=>cases h;rfl
 |bl b=>cases h;rfl
 |int b=>cases h;rfl
 |str b=>cases h;rfl
 |lst b=>cases h
 |exc _=>cases h
 |fn _=>cases h
 |tup b=>cases h
theorem Is.PN {d:D}{z v:V}(h:toV d=some z)(i:Is K P H d v):v=z:=by
 cases d with
 |non=>cases h;exact i
 |bl b=>cases h;exact i
 |int b=>cases h;exact i
 |str b=>cases h;exact i
 |lst b=>cases h
 |exc _=>cases h
 |fn _=>cases h
 |tup b=>cases h
theorem IsL.length:∀{ds:List D}{vs:List V},IsL K P H ds vs->vs.length=ds.length
 |[],_,h=>by subst h;rfl
 |d::ds,_,⟨v,r,e,_,q⟩=>by subst e;simp[IsL.length q]
theorem IsL.get:∀{ds:List D}{vs:List V}{i:Nat}{d:D},IsL K P H ds vs->ds[i]?=some d->∃v,vs[i]?=some v/\Is K P H d v
 |[],_,_,_,_,e=>by simp at e
 |d::ds,_,0,_,⟨v,r,e,p,q⟩,e2=>by subst e;simp at e2;subst e2;exact⟨v,rfl,p⟩
 |d::ds,_,i+1,_,⟨v,r,e,p,q⟩,e2=>by
  subst e
  obtain⟨v',h1,h2⟩:=IsL.get (i:=i) q (by simpa using e2)
  exact⟨v',by simpa using h1,h2⟩
theorem IsL.app:∀{ds es:List D}{vs ws:List V},IsL K P H ds vs->IsL K P H es ws->IsL K P H (ds++es) (vs++ws)
 |[],_,_,_,h,q=>by
  have h':_=[]:=h
  subst h';exact q
 |d::ds,_,_,_,⟨v,r,e,p,q⟩,q2=>by subst e;exact⟨v,_,rfl,p,IsL.app q q2⟩
theorem IsL.one {d:D}{v:V}(h:Is K P H d v):IsL K P H [d] [v]:=⟨v,[],rfl,h,rfl⟩
theorem IsL.cons {d:D}{v:V}{ds:List D}{vs:List V}(h:Is K P H d v)(q:IsL K P H ds vs):IsL K P H (d::ds) (v::vs):=⟨v,vs,rfl,h,q⟩
theorem IsL.drop:∀{ds:List D}{vs:List V}(n:Nat),IsL K P H ds vs->IsL K P H (ds.drop n) (vs.drop n)
 |_,_,0,h=>h
 |[],_,n+1,h=>by
  have h':_=[]:=h
  subst h';exact rfl
 |d::ds,_,n+1,⟨v,r,e,p,q⟩=>by subst e;exact IsL.drop n q
theorem IsL.take:∀{ds:List D}{vs:List V}(n:Nat),IsL K P H ds vs->IsL K P H (ds.take n) (vs.take n)
 |_,_,0,_=>rfl
 |[],_,n+1,h=>by
  have h':_=[]:=h
  subst h';exact rfl
 |d::ds,_,n+1,⟨v,r,e,p,q⟩=>by subst e;exact⟨v,_,rfl,p,IsL.take n q⟩
theorem IsL.set:∀{ds:List D}{vs:List V}{d:D}{v:V}(i:Nat),IsL K P H ds vs->Is K P H d v->IsL K P H (ds.set i d) (vs.set i v)
 |[],_,_,_,_,h,_=>by
  have h':_=[]:=h
  subst h';exact rfl
 |d::ds,_,_,_,0,⟨v,r,e,p,q⟩,h=>by subst e;exact⟨_,_,rfl,h,q⟩
 |d::ds,_,_,_,i+1,⟨v,r,e,p,q⟩,h=>by subst e;exact⟨v,_,rfl,p,IsL.set i q h⟩
end
abbrev NS:=Int×Int×List Int
inductive Ct where
 |ls (nss:List (List Int))|tp (nss:List (List Int))|dk (ks:List Int)|tq (n:Int) (ns:List Int)|tr (ts:List NS)
instance:Coe (List (List Int)) Ct:=⟨Ct.ls⟩
inductive Sl where
 |no|val (d:D)|own (xs:List D)|raw (v:V)|deep (c:Ct)
abbrev DE:=List Sl
structure Gh where
 P₀:Addr->Prop
 H₀:Hp
def Gh.P (g:Gh)(os:List Addr)(a:Addr):Prop:=(g.P₀ a\/g.H₀ a=none)/\a∉os
structure Br(hd:List V->HO)(H:Hp)(os:List Addr)(a:Addr)(as:List Addr)(nss:List (List Int)):Prop where
 ma:a∈os
 ha:H a=some (hd (as.map V.ref))
 len:as.length=nss.length
 nd:(a::as).Nodup
 it:∀(k:Nat)(b:Addr)(ns:List Int),as[k]?=some b->nss[k]?=some ns->b∈os/\H b=some (.lst (ns.map V.int))
theorem Br.mem {hd:List V->HO}{H:Hp}{os:List Addr}{a:Addr}{as:List Addr}{nss:List (List Int)}(d:Br hd H os a as nss):∀x∈a::as,x∈os/\∃o,H x=some o:=fun x hx=>by
 rcases mem_cons.mp hx with rfl|hx
 ·exact⟨d.ma,_,d.ha⟩
 ·obtain⟨k,hk,rfl⟩:=getElem_of_mem hx
  have Sv:k<nss.length:=by rw[<-d.len];exact hk
  have q:=d.it k _ _ (getElem?_eq_getElem hk) (getElem?_eq_getElem Sv)
  exact⟨q.1,_,q.2⟩
theorem Br.to {hd:List V->HO}{H H':Hp}{os gu:List Addr}{a:Addr}{as:List Addr}{nss:List (List Int)}(d:Br hd H os a as nss)(h:∀x∈a::as,x∈gu/\H' x=H x):Br hd H' gu a as nss:=
 ⟨(h a (by simp)).1,by rw[(h a (by simp)).2];exact d.ha,d.len,d.nd,fun k b ns e1 e2=>by
  have q:=d.it k b ns e1 e2
  have hb:=h b (mem_cons_of_mem _ (mem_of_getElem? e1))
  exact⟨hb.1,by rw[hb.2];exact q.2⟩⟩
def WC(H:Hp)(as:List Addr)(t:NS)(v:V):Prop:=∃b c,v=.ref b/\b∈as/\c∈as/\H b=some (.tup [.int t.1,.int t.2.1,.ref c])/\H c=some (.lst (t.2.2.map V.int))
structure Sw(H:Hp)(os:List Addr)(a:Addr)(as:List Addr)(ts:List NS):Prop where
 ma:a∈os
 na:a∉as
 mem:∀x∈as,x∈os/\∃o,H x=some o
 at_:∃vs,H a=some (.lst vs)/\vs.length=ts.length/\∀(k:Nat)(t:NS)(v:V),ts[k]?=some t->vs[k]?=some v->WC H as t v
theorem WC.to {H H':Hp}{as as':List Addr}{t:NS}{v:V}(d:WC H as t v)(h:∀x∈as,x∈as'/\H' x=H x):WC H' as' t v:=by
 obtain⟨b,c,e,h1,h2,h3,h4⟩:=d
 exact⟨b,c,e,(h b h1).1,(h c h2).1,by rw[(h b h1).2];exact h3,by rw[(h c h2).2];exact h4⟩
theorem Sw.to {H H':Hp}{os gu:List Addr}{a:Addr}{as:List Addr}{ts:List NS}(d:Sw H os a as ts)(h:∀x∈a::as,x∈gu/\H' x=H x):Sw H' gu a as ts:=by
 obtain⟨vs,h1,h2,h3⟩:=d.at_
 refine⟨(h a (by simp)).1,d.na,fun x hx=>?_,vs,by rw[(h a (by simp)).2];exact h1,h2,fun k t v e1 e2=>(h3 k t v e1 e2).to fun x hx=>⟨hx,(h x (mem_cons_of_mem _ hx)).2⟩⟩
 obtain⟨q1,o,q2⟩:=d.mem x hx
 have q:=h x (mem_cons_of_mem _ hx)
 exact⟨q.1,o,by rw[q.2];exact q2⟩
def kvT(ks:List Int):List (Key×V):=ks.map fun k=>(Sum.inl k,V.bl true)
abbrev Dp(H:Hp)(os:List Addr)(a:Addr)(as:List Addr)(c:Ct):Prop:=match c with
 |.ls nss=>Br HO.lst H os a as nss
 |.tp nss=>Br HO.tup H os a as nss
 |.dk ks=>a∈os/\as=[]/\H a=some (.dK (kvT ks))
 |.tq n ns=>∃b,as=[b]/\a∈os/\b∈os/\a≠b/\H a=some (.tup [.int n,.ref b])/\H b=some (.lst (ns.map V.int))
 |.tr ts=>Sw H os a as ts
theorem Dp.mem {H:Hp}{os:List Addr}{a:Addr}{as:List Addr}{c:Ct}(d:Dp H os a as c):∀x∈a::as,x∈os/\∃o,H x=some o:=by
 cases c with
 |ls nss=>exact Br.mem d
 |tp nss=>exact Br.mem d
 |dk ks=>
  obtain⟨h1,rfl,h2⟩:=d
  intro x hx
  rcases mem_cons.mp hx with rfl|hx
  ·exact⟨h1,_,h2⟩
  ·cases hx
 |tq n ns=>
  obtain⟨b,rfl,h1,h2,h3,h4,h5⟩:=d
  intro x hx
  rcases mem_cons.mp hx with rfl|hx
  ·exact⟨h1,_,h4⟩
  ·rcases mem_cons.mp hx with rfl|hx
   ·exact⟨h2,_,h5⟩
   ·cases hx
 |tr ts=>
  have d':Sw H os a as ts:=d
  intro x hx
  rcases mem_cons.mp hx with rfl|hx
  ·obtain⟨vs,h1,_⟩:=d'.at_
   exact⟨d'.ma,_,h1⟩
  ·exact d'.mem x hx
theorem Dp.to {H H':Hp}{os gu:List Addr}{a:Addr}{as:List Addr}{c:Ct}(d:Dp H os a as c)(h:∀x∈a::as,x∈gu/\H' x=H x):Dp H' gu a as c:=by
 cases c with
 |ls nss=>exact Br.to d h
 |tp nss=>exact Br.to d h
 |dk ks=>
  obtain⟨h1,rfl,h2⟩:=d
  exact⟨(h a (by simp)).1,rfl,by rw[(h a (by simp)).2];exact h2⟩
 |tq n ns=>
  obtain⟨b,rfl,h1,h2,h3,h4,h5⟩:=d
  exact⟨b,rfl,(h a (by simp)).1,(h b (by simp)).1,h3,by rw[(h a (by simp)).2];exact h4,by rw[(h b (by simp)).2];exact h5⟩
 |tr ts=>exact Sw.to d h
theorem Dp.ma {H:Hp}{os:List Addr}{a:Addr}{as:List Addr}{nss:List (List Int)}(d:Dp H os a as (.ls nss)):a∈os:=Br.ma d
theorem Dp.ha {H:Hp}{os:List Addr}{a:Addr}{as:List Addr}{nss:List (List Int)}(d:Dp H os a as (.ls nss)):H a=some (.lst (as.map V.ref)):=Br.ha d
theorem Dp.len {H:Hp}{os:List Addr}{a:Addr}{as:List Addr}{nss:List (List Int)}(d:Dp H os a as (.ls nss)):as.length=nss.length:=Br.len d
theorem Dp.nd {H:Hp}{os:List Addr}{a:Addr}{as:List Addr}{nss:List (List Int)}(d:Dp H os a as (.ls nss)):(a::as).Nodup:=Br.nd d
theorem Dp.it {H:Hp}{os:List Addr}{a:Addr}{as:List Addr}{nss:List (List Int)}(d:Dp H os a as (.ls nss)):∀(k:Nat)(b:Addr)(ns:List Int),as[k]?=some b->nss[k]?=some ns->b∈os/\H b=some (.lst (ns.map V.int)):=Br.it d
structure Vw(A:Nat->List Addr)(env:DE)(σ:St)(H:Hp)(os:List Addr):Prop where
 dp:∀(i:Nat)(nss:Ct),env[i]?=some (.deep nss)->∃a as,A i=a::as/\σ[i]?=some (some (.ref a))/\Dp H os a as nss
 ow:∀(i:Nat)(nss:Ct)(j:Nat)(xs:List D)(b:Addr),env[i]?=some (.deep nss)->env[j]?=some (.own xs)->σ[j]?=some (some (.ref b))->b∉A i
 dj:∀(i j:Nat)(nss rL:Ct),i≠j->env[i]?=some (.deep nss)->env[j]?=some (.deep rL)->∀x∈A i,x∉A j
theorem Vw.mem {A:Nat->List Addr}{env:DE}{σ:St}{H:Hp}{os:List Addr}(d:Vw A env σ H os){i:Nat}{nss:Ct}(e:env[i]?=some (.deep nss)):∀x∈A i,x∈os/\∃o,H x=some o:=fun x hx=>by
 obtain⟨a,as,h1,_,h3⟩:=d.dp i nss e
 rw[h1]at hx
 exact h3.mem x hx
theorem Vw.to {A:Nat->List Addr}{env y6:DE}{σ σ':St}{H H':Hp}{os gu:List Addr}(d:Vw A env σ H os)
  (hd:∀(j:Nat)(nss:Ct),y6[j]?=some (.deep nss)->env[j]?=some (.deep nss)/\σ'[j]?=σ[j]?)
  (ho:∀(j:Nat)(xs:List D)(b:Addr),y6[j]?=some (.own xs)->σ'[j]?=some (some (.ref b))->(∃ys,env[j]?=some (.own ys)/\σ[j]?=some (some (.ref b)))\/b∉os)
  (hH:∀(i:Nat)(nss:Ct),env[i]?=some (.deep nss)->∀x∈A i,x∈gu/\H' x=H x):Vw A y6 σ' H' gu where
 dp i nss e:=by
  obtain⟨e',q⟩:=hd i nss e
  obtain⟨a,as,h1,h2,h3⟩:=d.dp i nss e'
  exact⟨a,as,h1,by rw[q];exact h2,h3.to fun x hx=>hH i nss e' x (by rw[h1];exact hx)⟩
 ow i nss j xs b e1 e2 e3:=by
  obtain⟨NT,_⟩:=hd i nss e1
  rcases ho j xs b e2 e3 with⟨ys,q1,q2⟩|q
  ·exact d.ow i nss j ys b NT q1 q2
  ·exact fun z=>q (d.mem NT b z).1
 dj i j nss rL hij e1 e2:=d.dj i j nss rL hij (hd i nss e1).1 (hd j rL e2).1
def DQ(env:DE)(σ:St)(H:Hp)(os:List Addr):Prop:=∃A,Vw A env σ H os
theorem DQ.none {env:DE}{σ:St}{H:Hp}{os:List Addr}(h:∀(i:Nat)(nss:Ct),env[i]?≠some (.deep nss)):DQ env σ H os:=
 ⟨fun _=>[],fun i nss e=>(h i nss e).elim,fun i nss _ _ _ e=>(h i nss e).elim,fun i _ nss _ _ e=>(h i nss e).elim⟩
structure Rel(K:'b')(g:Gh)(env:DE)(σ:St)(H:Hp)(os:List Addr):Prop where
 len:σ.length=env.length
 ext:aN g.H₀ H
 val:∀(i:Nat)(d:D),env[i]?=some (.val d)->∃v,σ[i]?=some (some v)/\Is K (g.P os) H d v
 own:∀(i:Nat)(xs:List D),env[i]?=some (.own xs)->∃a vs,σ[i]?=some (some (.ref a))/\a∈os/\H a=some (.lst vs)/\IsL K (g.P os) H xs vs
 inj:∀(i j:Nat)(xs ys:List D)(a:Addr),env[i]?=some (.own xs)->env[j]?=some (.own ys)->σ[i]?=some (some (.ref a))->σ[j]?=some (some (.ref a))->i=j
 new:∀a∈os,g.H₀ a=none/\∃o,H a=some o
 raw:∀(i:Nat)(v:V),env[i]?=some (.raw v)->σ[i]?=some (some v)
 Hs:DQ env σ H os
section
variable{K:'b'}{g:Gh}{env:DE}{σ:St}{H H':Hp}{os:List Addr}
theorem Rel.same (r:Rel K g env σ H os)(s:aN H H'):Rel K g env σ H' os:=
 ⟨r.len,r.ext.trans s,fun i d e=>let⟨v,h1,h2⟩:=r.val i d e;⟨v,h1,h2.same s⟩,
  fun i xs e=>let⟨a,vs,h1,h2,h3,h4⟩:=r.own i xs e;⟨a,vs,h1,h2,s a _ h3,h4.same s⟩,r.inj,fun a ha=>⟨(r.new a ha).1,let⟨o,h⟩:=(r.new a ha).2;⟨o,s a o h⟩⟩,r.raw,by
  obtain⟨A,d⟩:=r.Hs
  exact⟨A,d.to (fun j nss e=>⟨e,rfl⟩) (fun j xs b e q=>.inl ⟨xs,e,q⟩) fun i nss e x hx=>by
   obtain⟨q1,o,q2⟩:=d.mem e x hx
   exact⟨q1,by rw[s x o q2,q2]⟩⟩⟩
theorem Rel.fresh (r:Rel K g env σ H os){a:Addr}(h:H a=none):g.P os a:=by
 refine⟨.inr (r.ext.free h),fun hm=>?_⟩
 obtain⟨o,e⟩:=(r.new a hm).2
 rw[h]at e;cases e
theorem aM{p:Addr}(h:H p=none)(o:HO):aN H (upd H p o):=fun b u q=>by rw[aj (az q h)];exact q
theorem Rel.set (r:Rel K g env σ H os)(i:Nat){d:D}{v:V}(h:Is K (g.P os) H d v):Rel K g (env.set i (.val d)) (σ.set i (some v)) H os:=by
 refine⟨by simp[r.len],r.ext,fun j d' e=>?_,fun j xs e=>?_,fun j k xs ys a e1 e2 e3 e4=>?_,r.new,fun j w e=>?_,?_⟩
 ·by_cases hj:i=j
  ·subst hj
   have hi:i<env.length:=by
    have:=(List.getElem?_eq_some_iff.mp e).1
    simpa using this
   rw[getElem?_set_self hi]at e
   cases e
   exact⟨v,by rw[getElem?_set_self (by rw[r.len];exact hi)],h⟩
  ·rw[getElem?_set_ne hj]at e
   obtain⟨v',h1,h2⟩:=r.val j d' e
   exact⟨v',by rw[getElem?_set_ne hj];exact h1,h2⟩
 ·by_cases hj:i=j
  ·subst hj
   have hi:i<env.length:=by
    have:=(List.getElem?_eq_some_iff.mp e).1
    simpa using this
   rw[getElem?_set_self hi]at e
   cases e
  ·rw[getElem?_set_ne hj]at e
   obtain⟨a,vs,h1,h2⟩:=r.own j xs e
   exact⟨a,vs,by rw[getElem?_set_ne hj];exact h1,h2⟩
 ·have f:∀(j:Nat)(xs:List D),(env.set i (Sl.val d))[j]?=some (.own xs)->i≠j:=fun j xs e hj=>by
   subst hj
   have hi:i<env.length:=by
    have:=(List.getElem?_eq_some_iff.mp e).1
    simpa using this
   rw[getElem?_set_self hi]at e
   cases e
  have hj:=f j xs e1
  have hk:=f k ys e2
  rw[getElem?_set_ne hj]at e1 e3
  rw[getElem?_set_ne hk]at e2 e4
  exact r.inj j k xs ys a e1 e2 e3 e4
 ·by_cases hj:i=j
  ·subst hj
   have hi:i<env.length:=by
    have:=(List.getElem?_eq_some_iff.mp e).1
    simpa using this
   rw[getElem?_set_self hi]at e
   cases e
  ·rw[getElem?_set_ne hj]at e⊢
   exact r.raw j w e
 ·obtain⟨A,dd⟩:=r.Hs
  have f:∀(j:Nat)(sl:Sl),(env.set i (Sl.val d))[j]?=some sl->(∀d',sl≠.val d')->i≠j/\env[j]?=some sl:=fun j sl q hn=>by
   by_cases hj:i=j
   ·subst hj
    have hi:i<env.length:=by
     have:=(List.getElem?_eq_some_iff.mp q).1
     simpa using this
    rw[getElem?_set_self hi]at q
    exact(hn d (Option.some.inj q).symm).elim
   ·rw[getElem?_set_ne hj]at q
    exact⟨hj,q⟩
  refine⟨A,dd.to (fun j nss q=>?_) (fun j xs b q z=>?_) fun j nss q x hx=>⟨(dd.mem q x hx).1,rfl⟩⟩
  ·obtain⟨hj,q⟩:=f j _ q (fun _ z=>nomatch z)
   exact⟨q,by rw[getElem?_set_ne hj]⟩
  ·obtain⟨hj,q⟩:=f j _ q (fun _ z=>nomatch z)
   rw[getElem?_set_ne hj]at z
   exact .inl ⟨xs,q,z⟩
theorem Rel.apart (r:Rel K g env σ H os){a:Addr}(s:aN H H')(hn:H a=none):Ext (g.P os) (g.P (a::os)) H H':=
 ⟨fun b o p e=>⟨p.1,fun hm=>by
  rcases mem_cons.mp hm with z|z
  ·rw[z,hn]at e;cases e
  ·exact p.2 z⟩,fun b o _ e=>s b o e⟩
theorem aR{α:Type}{l:List α}{i:Nat}{x y:α}(e:(l.set i x)[i]?=some y):y=x:=by
 have hi:i<l.length:=by
  have:=(List.getElem?_eq_some_iff.mp e).1
  simpa using this
 rw[getElem?_set_self hi]at e
 cases e;rfl
theorem zI{α:Type}{l:List α}{i j:Nat}{x y:α}(e:(l.set i x)[j]?=some y):j<l.length:=by
 have:=(List.getElem?_eq_some_iff.mp e).1
 simpa using this
theorem Rel.Sx (r:Rel K g env σ H os)(s:aN H H')(i:Nat){xs:List D}{vs:List V}{a:Addr}(hn:H a=none)(hH:H' a=some (.lst vs))(h:IsL K (g.P (a::os)) H' xs vs):
  Rel K g (env.set i (.own xs)) (σ.set i (some (.ref a))) H' (a::os):=by
 have ap:=r.apart s hn
 have old:∀(j:Nat)(ys:List D),env[j]?=some (.own ys)->σ[j]?=some (some (.ref a))->False:=fun j ys e q=>by
  obtain⟨b,ws,h1,h2,h3,_⟩:=r.own j ys e
  rw[q]at h1
  cases h1
  rw[hn]at h3;cases h3
 refine⟨by simp[r.len],r.ext.trans s,fun j d' e=>?_,fun j ys e=>?_,fun j k ys zs b e1 e2 e3 e4=>?_,fun b hb=>?_,fun j w e=>?_,?_⟩
 ·by_cases hj:i=j
  ·subst hj
   exact nomatch aR e
  ·rw[getElem?_set_ne hj]at e
   obtain⟨v,h1,h2⟩:=r.val j d' e
   exact⟨v,by rw[getElem?_set_ne hj];exact h1,Is.ext ap _ _ h2⟩
 ·by_cases hj:i=j
  ·subst hj
   have hi:=zI e
   have e':=aR e
   cases e'
   exact⟨a,vs,by rw[getElem?_set_self (by rw[r.len];exact hi)],by simp,hH,h⟩
  ·rw[getElem?_set_ne hj]at e
   obtain⟨b,ws,h1,h2,h3,h4⟩:=r.own j ys e
   exact⟨b,ws,by rw[getElem?_set_ne hj];exact h1,mem_cons_of_mem _ h2,s _ _ h3,IsL.ext ap _ _ h4⟩
 ·by_cases hj:i=j
  ·subst hj
   by_cases hk:i=k
   ·exact hk
   ·have e3':=aR e3
    cases e3'
    rw[getElem?_set_ne hk]at e2 e4
    exact(old k zs e2 e4).elim
  ·by_cases hk:i=k
   ·subst hk
    have e4':=aR e4
    cases e4'
    rw[getElem?_set_ne hj]at e1 e3
    exact(old j ys e1 e3).elim
   ·rw[getElem?_set_ne hj]at e1 e3
    rw[getElem?_set_ne hk]at e2 e4
    exact r.inj j k ys zs b e1 e2 e3 e4
 ·rcases mem_cons.mp hb with rfl|hb
  ·exact⟨r.ext.free hn,_,hH⟩
  ·obtain⟨h1,o,h2⟩:=r.new b hb
   exact⟨h1,o,s _ _ h2⟩
 ·by_cases hj:i=j
  ·subst hj
   exact nomatch aR e
  ·rw[getElem?_set_ne hj]at e⊢
   exact r.raw j w e
 ·obtain⟨A,dd⟩:=r.Hs
  have f:∀(j:Nat)(sl:Sl),(env.set i (Sl.own xs))[j]?=some sl->i≠j->env[j]?=some sl:=fun j sl q hj=>by
   rwa [getElem?_set_ne hj]at q
  refine⟨A,dd.to (fun j nss q=>?_) (fun j ys b q z=>?_) fun j nss q x hx=>?_⟩
  ·by_cases hj:i=j
   ·subst hj
    exact nomatch aR q
   ·exact⟨f j _ q hj,by rw[getElem?_set_ne hj]⟩
  ·by_cases hj:i=j
   ·subst hj
    have z':=aR z
    cases z'
    exact .inr fun hm=>by
     obtain⟨o,ho⟩:=(r.new a hm).2
     rw[hn]at ho
     cases ho
   ·rw[getElem?_set_ne hj]at z
    exact .inl ⟨ys,f j _ q hj,z⟩
  ·obtain⟨q1,o,q2⟩:=dd.mem q x hx
   exact⟨mem_cons_of_mem _ q1,by rw[s x o q2,q2]⟩
theorem Rel.mut (r:Rel K g env σ H os){i:Nat}{xs xs':List D}{Di:List V}{a:Addr}(e:env[i]?=some (.own xs))(hσ:σ[i]?=some (some (.ref a)))(ha:a∈os)(h:IsL K (g.P os) H xs' Di):
  Rel K g (env.set i (.own xs')) σ (upd H a (.lst Di)) os:=by
 have ex:Ext (g.P os) (g.P os) H (upd H a (.lst Di)):=⟨fun _ _ p _=>p,fun b o p q=>by rw[aj (fun z=>p.2 (by rw[z];exact ha))];exact q⟩
 refine⟨by simp[r.len],fun b o q=>?_,fun j d' e'=>?_,fun j ys e'=>?_,fun j k ys zs b e1 e2 e3 e4=>?_,fun b hb=>?_,fun j w e'=>?_,?_⟩
 ·rw[aj (fun z=>by rw[z,(r.new a ha).1]at q;cases q)]
  exact r.ext b o q
 ·by_cases hj:i=j
  ·subst hj
   exact nomatch aR e'
  ·rw[getElem?_set_ne hj]at e'
   obtain⟨v,h1,h2⟩:=r.val j d' e'
   exact⟨v,h1,Is.ext ex _ _ h2⟩
 ·by_cases hj:i=j
  ·subst hj
   have e2:=aR e'
   cases e2
   exact⟨a,Di,hσ,ha,ak,IsL.ext ex _ _ h⟩
  ·rw[getElem?_set_ne hj]at e'
   obtain⟨b,ws,h1,h2,h3,h4⟩:=r.own j ys e'
   have hb:b≠a:=fun z=>by
    subst z
    exact hj (r.inj i j xs ys b e e' hσ h1)
   exact⟨b,ws,h1,h2,by rw[aj hb];exact h3,IsL.ext ex _ _ h4⟩
 ·have f:∀(j:Nat)(ys:List D),(env.set i (Sl.own xs'))[j]?=some (.own ys)->∃ys',env[j]?=some (.own ys'):=fun j ys q=>by
   by_cases hj:i=j
   ·subst hj;exact⟨xs,e⟩
   ·rw[getElem?_set_ne hj]at q;exact⟨ys,q⟩
  obtain⟨y1,f1⟩:=f j ys e1
  obtain⟨y2,f2⟩:=f k zs e2
  exact r.inj j k y1 y2 b f1 f2 e3 e4
 ·obtain⟨h1,o,h2⟩:=r.new b hb
  refine⟨h1,?_⟩
  by_cases z:b=a
  ·exact⟨_,by rw[z];exact ak⟩
  ·exact⟨o,by rw[aj z];exact h2⟩
 ·by_cases hj:i=j
  ·subst hj
   exact nomatch aR e'
  ·rw[getElem?_set_ne hj]at e'
   exact r.raw j w e'
 ·obtain⟨A,dd⟩:=r.Hs
  refine⟨A,dd.to (fun j nss q=>?_) (fun j ys b q z=>?_) fun j nss q x hx=>⟨(dd.mem q x hx).1,?_⟩⟩
  ·by_cases hj:i=j
   ·subst hj
    exact nomatch aR q
   ·rw[getElem?_set_ne hj]at q
    exact⟨q,rfl⟩
  ·by_cases hj:i=j
   ·subst hj
    exact .inl ⟨xs,e,z⟩
   ·rw[getElem?_set_ne hj]at q
    exact .inl ⟨ys,q,z⟩
  ·have hxa:x≠a:=fun z=>dd.ow j nss i xs a q e hσ (by rw[<-z];exact hx)
   rw[aj hxa]
theorem Rel.Fg (r:Rel K g env σ H os){i:Nat}{xs:List D}(e:env[i]?=some (.own xs)):∃gu,Rel K g (env.set i (.val (.lst xs))) σ H gu/\∀a∈gu,a∈os:=by
 obtain⟨a,vs,h1,h2,h3,h4⟩:=r.own i xs e
 have ex:Ext (g.P os) (g.P (os.filter (·≠a))) H H:=⟨fun b o p _=>⟨p.1,fun z=>p.2 (mem_filter.mp z).1⟩,fun _ _ _ q=>q⟩
 refine⟨os.filter (·≠a),⟨by simp[r.len],r.ext,fun j d' e'=>?_,fun j ys e'=>?_,fun j k ys zs b e1 e2 e3 e4=>?_,fun b hb=>r.new b (mem_filter.mp hb).1,fun j w e'=>?_,?_⟩,fun b hb=>(mem_filter.mp hb).1⟩
 ·by_cases hj:i=j
  ·subst hj
   have e2:=aR e'
   cases e2
   exact⟨.ref a,h1,a,vs,rfl,.inl ⟨⟨.inr (r.new a h2).1,fun z=>by simpa using(mem_filter.mp z).2⟩,.inl h3⟩,IsL.ext ex _ _ h4⟩
  ·rw[getElem?_set_ne hj]at e'
   obtain⟨v,q1,q2⟩:=r.val j d' e'
   exact⟨v,q1,Is.ext ex _ _ q2⟩
 ·by_cases hj:i=j
  ·subst hj
   exact nomatch aR e'
  ·rw[getElem?_set_ne hj]at e'
   obtain⟨b,ws,q1,q2,q3,q4⟩:=r.own j ys e'
   have hb:b≠a:=fun z=>by
    subst z
    exact hj (r.inj i j xs ys b e e' h1 q1)
   exact⟨b,ws,q1,mem_filter.mpr ⟨q2,by simpa using hb⟩,q3,IsL.ext ex _ _ q4⟩
 ·have f:∀(j:Nat)(ys:List D),(env.set i (Sl.val (.lst xs)))[j]?=some (.own ys)->env[j]?=some (.own ys):=fun j ys q=>by
   by_cases hj:i=j
   ·subst hj;exact nomatch aR q
   ·rw[getElem?_set_ne hj]at q;exact q
  exact r.inj j k ys zs b (f j ys e1) (f k zs e2) e3 e4
 ·by_cases hj:i=j
  ·subst hj;exact nomatch aR e'
  ·rw[getElem?_set_ne hj]at e'
   exact r.raw j w e'
 ·obtain⟨A,dd⟩:=r.Hs
  refine⟨A,dd.to (fun j nss q=>?_) (fun j ys b q z=>?_) fun j nss q x hx=>⟨mem_filter.mpr ⟨(dd.mem q x hx).1,?_⟩,rfl⟩⟩
  ·by_cases hj:i=j
   ·subst hj
    exact nomatch aR q
   ·rw[getElem?_set_ne hj]at q
    exact⟨q,rfl⟩
  ·by_cases hj:i=j
   ·subst hj
    exact nomatch aR q
   ·rw[getElem?_set_ne hj]at q
    exact .inl ⟨ys,q,z⟩
  ·have:x≠a:=fun z=>dd.ow j nss i xs a q e h1 (z▸hx)
   simpa using this
end
section
variable(K:'b')(E:Str->Hp->Prop)
def tD(f:DE->R D):TE:=fun σ H Q=>∃g env os,Rel K g env σ H os/\Good E g.H₀ (f env) fun d=>∀v H',aN H H'->Is K (g.P os) H' d v->Q v H'
def tB(f:DE->R D):TE:=fun σ H Q=>∃g env os,Rel K g env σ H os/\Good E g.H₀ (f env) fun d=>∀v H',aN H H'->Is K (fun _=>True) H' d v->Q v H'
def tF(f:DE->R (List D)):TE:=fun σ H Q=>∃g env os,Rel K g env σ H os/\Good E g.H₀ (f env) fun xs=>∀a vs H',aN H H'->H a=none->H' a=some (.lst vs)->IsL K (g.P (a::os)) H' xs vs->Q (.ref a) H'
def tL(f:DE->R (List D)):TE:=fun σ H Q=>∃g env os,Rel K g env σ H os/\Good E g.H₀ (f env) fun xs=>∀a vs H',aN H H'->cV K H' a vs->IsL K (g.P os) H' xs vs->Q (.ref a) H'
def tT(f:DE->R Bool):TT:=fun σ H Q=>∃g env os,Rel K g env σ H os/\Good E g.H₀ (f env) fun b=>∀H',aN H H'->Q b H'
def JJ(f:DE->R (List D)):TA:=fun σ H Q=>∃g env os,Rel K g env σ H os/\Good E g.H₀ (f env) fun ds=>∀vs H',aN H H'->IsL K (g.P os) H' ds vs->Q vs H'
def rC(f:DE->R (List D)):TA:=fun σ H Q=>∃g env os,Rel K g env σ H os/\Good E g.H₀ (f env) fun ds=>∀vs H',aN H H'->IsL K (fun _=>True) H' ds vs->Q vs H'
end
inductive Out where
 |nx (e:DE)|bk (e:DE)|ct (e:DE)|rt (d:D)|pX (xs:List D)|BQ (nss:List (List Int))|Ht (nss:List (List Int))|IP (q:Int×List Int)|IQ (c:Ct)
structure rD(H:Hp)(os:List Addr)(H':Hp)(gu:List Addr):Prop where
 own:∀a∈gu,a∈os\/H a=none
 grow:∀a,H' a=none->H a=none
 keep:∀a o,a∉os->H a=some o->H' a=some o
theorem rD.refl (H:Hp)(os:List Addr):rD H os H os:=⟨fun _ h=>.inl h,fun _ h=>h,fun _ _ _ h=>h⟩
theorem rD.same {H H':Hp}(s:aN H H')(os:List Addr):rD H os H' os:=⟨fun _ h=>.inl h,fun _ h=>s.free h,fun _ _ _ h=>s _ _ h⟩
theorem rD.trans {H H1 H2:Hp}{os WD PQ:List Addr}(a:rD H os H1 WD)(b:rD H1 WD H2 PQ):rD H os H2 PQ where
 own:=fun x h=>(b.own x h).elim (fun z=>a.own x z) fun z=>.inr (a.grow x z)
 grow:=fun x h=>a.grow x (b.grow x h)
 keep:=fun x o hn h=>b.keep x o (fun z=>(a.own x z).elim hn fun q=>by rw[h]at q;cases q) (a.keep x o hn h)
theorem rD.ext {g:Gh}{H H':Hp}{os gu:List Addr}(s:rD H os H' gu):Ext (g.P os) (g.P gu) H H':=
 ⟨fun a o p h=>⟨p.1,fun z=>(s.own a z).elim p.2 fun q=>by rw[h]at q;cases q⟩,fun a o p h=>s.keep a o p.2 h⟩
structure JK(hd:List V->HO)(H₀ H:Hp)(a:Addr)(as:List Addr)(nss:List (List Int)):Prop where
 fr:∀b∈a::as,H₀ b=none
 nd:(a::as).Nodup
 len:as.length=nss.length
 ha:H a=some (hd (as.map V.ref))
 it:∀(k:Nat)(b:Addr)(ns:List Int),as[k]?=some b->nss[k]?=some ns->H b=some (.lst (ns.map V.int))
theorem JK.back {hd:List V->HO}{H₀ H1 H:Hp}{a:Addr}{as:List Addr}{nss:List (List Int)}(d:JK hd H1 H a as nss)(s:aN H₀ H1):JK hd H₀ H a as nss:=⟨fun b hb=>s.free (d.fr b hb),d.nd,d.len,d.ha,d.it⟩
abbrev Sy:=JK HO.lst
abbrev aaH:=JK HO.tup
structure aaI(H₀ H:Hp)(a b:Addr)(q:Int×List Int):Prop where
 fa:H₀ a=none
 fb:H₀ b=none
 ne:a≠b
 ha:H a=some (.tup [.int q.1,.ref b])
 hb:H b=some (.lst (q.2.map V.int))
def aaJ(H₀ H:Hp)(a:Addr)(c:Ct):Prop:=∃as,(∀x∈a::as,H₀ x=none)/\Dp H (a::as) a as c
def gk(K:'b')(g:Gh)(H:Hp)(os:List Addr)(De:Ends):Out->Prop
 |.nx e=>∀σ' H' gu,Rel K g e σ' H' gu->rD H os H' gu->De.nx σ' H'
 |.bk e=>∀σ' H' gu,Rel K g e σ' H' gu->rD H os H' gu->De.bk σ' H'
 |.ct e=>∀σ' H' gu,Rel K g e σ' H' gu->rD H os H' gu->De.ct σ' H'
 |.rt d=>∀v H',aN g.H₀ H'->Is K (g.P []) H' d v->De.rt v H'
 |.pX xs=>∀a vs H',aN g.H₀ H'->g.H₀ a=none->H' a=some (.lst vs)->IsL K (g.P [a]) H' xs vs->De.rt (.ref a) H'
 |.Ht nss=>∀(a:Addr)(as:List Addr)(H':Hp),aN g.H₀ H'->aaH g.H₀ H' a as nss->De.rt (.ref a) H'
 |.IP q=>∀(a b:Addr)(H':Hp),aN g.H₀ H'->aaI g.H₀ H' a b q->De.rt (.ref a) H'
 |.BQ nss=>∀(a:Addr)(as:List Addr)(H':Hp),aN g.H₀ H'->Sy g.H₀ H' a as nss->De.rt (.ref a) H'
 |.IQ c=>∀(a:Addr)(H':Hp),aN g.H₀ H'->aaJ g.H₀ H' a c->De.rt (.ref a) H'
theorem gk.step {K:'b'}{g:Gh}{H H1:Hp}{os WD:List Addr}{De:Ends}(s:rD H os H1 WD):∀{o:Out},gk K g H os De o->gk K g H1 WD De o
 |.nx e,h=>fun σ' H' gu r z=>h σ' H' gu r (s.trans z)
 |.bk e,h=>fun σ' H' gu r z=>h σ' H' gu r (s.trans z)
 |.ct e,h=>fun σ' H' gu r z=>h σ' H' gu r (s.trans z)
 |.rt d,h=>h
 |.pX xs,h=>h
 |.Ht xs,h=>h
 |.IP xs,h=>h
 |.BQ xs,h=>h
 |.IQ xs,h=>h
def tS(K:'b')(E:Str->Hp->Prop)(f:DE->R Out):TS:=fun De σ H=>∃g env os,Rel K g env σ H os/\Good E g.H₀ (f env) (gk K g H os De)
section
variable{X:Cx}{E:Str->Hp->Prop}{pos:Pos}
theorem imp{e:Expr}{t t':TE}(h:PE X e t)(w:∀σ H Q,t' σ H Q->t σ H Q):PE X e t':=fun pins s σ H Q I q=>h pins s σ H Q I (w σ H Q q)
theorem Sz{e:Expr}{t t':TT}(h:PT X e t)(w:∀σ H Q,t' σ H Q->t σ H Q):PT X e t':=fun pins s σ H Q I q=>h pins s σ H Q I (w σ H Q q)
theorem WE{e:Expr}{t t':TT}(h:PW X e t)(w:∀σ H Q,t' σ H Q->t σ H Q):PW X e t':=fun wh pins s σ H Q I q=>h wh pins s σ H Q I (w σ H Q q)
theorem DR{e:List Expr}{t t':TA}(h:PA X e t)(w:∀σ H Q,t' σ H Q->t σ H Q):PA X e t':=fun pos pins s σ H Q I q=>h pos pins s σ H Q I (w σ H Q q)
theorem lJ{e:Stmt}{t t':TS}(h:PS X e t)(w:∀De σ H,t' De σ H->t De σ H):PS X e t':=fun pins s σ H Q I q=>h pins s σ H Q I (w Q σ H q)
theorem PR{e:List Stmt}{t t':TS}(h:rB X e t)(w:∀De σ H,t' De σ H->t De σ H):rB X e t':=fun pins s σ H Q I q=>h pins s σ H Q I (w Q σ H q)
def bM(i:Nat)(env:DE):R D:=match env[i]? with
 |some (.val d)=>.ok d
 |_=>.bad
def dT(t:NS):D:=.tup [.int t.1,.int t.2.1,.lst (t.2.2.map .int)]
def aP(i:Nat)(env:DE):R D:=match env[i]? with
 |some (.val d)=>.ok d
 |some (.own xs)=>.ok (.lst xs)
 |some (.deep (.ls nss))=>.ok (.lst (nss.map fun ns=>.lst (ns.map .int)))
 |some (.deep (.tp nss))=>.ok (.tup (nss.map fun ns=>.lst (ns.map .int)))
 |some (.deep (.tq n ns))=>.ok (.tup [.int n,.lst (ns.map .int)])
 |some (.deep (.tr ts))=>.ok (.lst (ts.map dT))
 |_=>.bad
theorem cF{K:'b'}{P:Addr->Prop}{H:Hp}:∀(ns:List Int),IsL K P H (ns.map D.int) (ns.map V.int)
 |[]=>rfl
 |n::ns=>⟨_,_,rfl,rfl,cF ns⟩
theorem xD{K:'b'}{H:Hp}{os:List Addr}:∀{as:List Addr}{nss:List (List Int)},as.length=nss.length->(∀(k:Nat)(b:Addr)(ns:List Int),as[k]?=some b->nss[k]?=some ns->b∈os/\H b=some (.lst (ns.map V.int)))->IsL K (fun _=>True) H (nss.map fun ns=>.lst (ns.map D.int)) (as.map V.ref)
 |[],[],_,_=>rfl
 |[],_::_,h,_=>by simp at h
 |_::_,[],h,_=>by simp at h
 |a::as,ns::nss,h,hi=>⟨_,_,rfl,⟨a,_,rfl,.inl ⟨trivial,.inl (hi 0 a ns rfl rfl).2⟩,cF ns⟩,xD (by simpa using h) fun k b ms e1 e2=>hi (k+1) b ms e1 e2⟩
theorem BR{K:'b'}{P:Addr->Prop}{H:Hp}{as:List Addr}(hp:∀x∈as,P x):∀{ts:List NS}{vs:List V},vs.length=ts.length->(∀(k:Nat)(t:NS)(v:V),ts[k]?=some t->vs[k]?=some v->WC H as t v)->IsL K P H (ts.map dT) vs
 |[],[],_,_=>rfl
 |[],_::_,h,_=>by simp at h
 |_::_,[],h,_=>by simp at h
 |t::ts,v::vs,h,hi=>by
  obtain⟨b,c,rfl,h1,h2,h3,h4⟩:=hi 0 t v rfl rfl
  exact⟨_,_,rfl,⟨b,_,rfl,.inl ⟨hp b h1,.inl h3⟩,⟨_,_,rfl,rfl,⟨_,_,rfl,rfl,⟨_,_,rfl,⟨c,_,rfl,.inl ⟨hp c h2,.inl h4⟩,cF t.2.2⟩,rfl⟩⟩⟩⟩,BR hp (by simpa using h) fun k t v e1 e2=>hi (k+1) t v e1 e2⟩
def j9(i:Nat)(env:DE):R (List D):=match env[i]? with
 |some (.val (.lst xs))=>.ok xs
 |some (.own xs)=>.ok xs
 |_=>.bad
theorem nD(i:Nat){x:Str}(hN:X.N[i]?=some x:=by rfl)(hv:yT X.env.scope x:=by first|exact Or.inl rfl|exact Or.inr (Or.inl rfl)|exact Or.inr (Or.inr rfl))(hd:(x==("__debug__":Str))=false:=by decide)
  (hcd:(x==("__classdict__":Str))=false:=by decide):PE X (.Name x pos) (tD X.K E (bM i)):=imp (gM hN hv hd hcd) fun σ H Q ⟨g,env,os,r,m⟩=>by
 unfold bM at m
 cases e:env[i]? with
 |none=>rw[e]at m;exact m.elim
 |some sl=>
  cases sl with
  |no=>rw[e]at m;exact m.elim
  |raw _=>rw[e]at m;exact m.elim
  |deep _=>rw[e]at m;exact m.elim
  |own xs=>rw[e]at m;exact m.elim
  |val d=>
   rw[e]at m
   obtain⟨v,h1,h2⟩:=r.val i d e
   exact⟨v,h1,m v H (aN.refl H) h2⟩
theorem nB(i:Nat){x:Str}(hN:X.N[i]?=some x:=by rfl)(hv:yT X.env.scope x:=by first|exact Or.inl rfl|exact Or.inr (Or.inl rfl)|exact Or.inr (Or.inr rfl))(hd:(x==("__debug__":Str))=false:=by decide)
  (hcd:(x==("__classdict__":Str))=false:=by decide):PE X (.Name x pos) (tB X.K E (aP i)):=imp (gM hN hv hd hcd) fun σ H Q ⟨g,env,os,r,m⟩=>by
 unfold aP at m
 cases e:env[i]? with
 |none=>rw[e]at m;exact m.elim
 |some sl=>
  cases sl with
  |no=>rw[e]at m;exact m.elim
  |raw _=>rw[e]at m;exact m.elim
  |own xs=>
   rw[e]at m
   obtain⟨a,vs,h1,_,h3,h4⟩:=r.own i xs e
   exact⟨.ref a,h1,m _ H (aN.refl H) ⟨a,vs,rfl,.inl ⟨trivial,.inl h3⟩,h4.weak⟩⟩
  |deep c=>
   obtain⟨A,dd⟩:=r.Hs
   obtain⟨a,as,_,h1,h3⟩:=dd.dp i c e
   cases c with
   |ls nss=>
    rw[e]at m
    exact⟨.ref a,h1,m _ H (aN.refl H) ⟨a,_,rfl,.inl ⟨trivial,.inl h3.ha⟩,xD h3.len h3.it⟩⟩
   |tp nss=>
    rw[e]at m
    have h4:Br HO.tup H os a as nss:=h3
    exact⟨.ref a,h1,m _ H (aN.refl H) ⟨a,_,rfl,.inl ⟨trivial,.inl h4.ha⟩,xD h4.len h4.it⟩⟩
   |dk ks=>rw[e]at m;exact m.elim
   |tq n ns=>
    rw[e]at m
    obtain⟨b,_,_,_,_,h4,h5⟩:=h3
    exact⟨.ref a,h1,m _ H (aN.refl H) ⟨a,_,rfl,.inl ⟨trivial,.inl h4⟩,⟨_,_,rfl,rfl,⟨_,_,rfl,⟨b,_,rfl,.inl ⟨trivial,.inl h5⟩,cF ns⟩,rfl⟩⟩⟩⟩
   |tr ts=>
    rw[e]at m
    have h4:Sw H os a as ts:=h3
    obtain⟨vs,q1,q2,q3⟩:=h4.at_
    exact⟨.ref a,h1,m _ H (aN.refl H) ⟨a,_,rfl,.inl ⟨trivial,.inl q1⟩,BR (fun _ _=>trivial) q2 q3⟩⟩
  |val d=>
   rw[e]at m
   obtain⟨v,h1,h2⟩:=r.val i d e
   exact⟨v,h1,m v H (aN.refl H) h2.weak⟩
theorem nL(i:Nat){x:Str}(hN:X.N[i]?=some x:=by rfl)(hv:yT X.env.scope x:=by first|exact Or.inl rfl|exact Or.inr (Or.inl rfl)|exact Or.inr (Or.inr rfl))(hd:(x==("__debug__":Str))=false:=by decide)
  (hcd:(x==("__classdict__":Str))=false:=by decide):PE X (.Name x pos) (tL X.K E (j9 i)):=imp (gM hN hv hd hcd) fun σ H Q ⟨g,env,os,r,m⟩=>by
 unfold j9 at m
 cases e:env[i]? with
 |none=>rw[e]at m;exact m.elim
 |some sl=>
  cases sl with
  |no=>rw[e]at m;exact m.elim
  |raw _=>rw[e]at m;exact m.elim
  |deep _=>rw[e]at m;exact m.elim
  |own xs=>
   rw[e]at m
   obtain⟨a,vs,h1,_,h3,h4⟩:=r.own i xs e
   exact⟨.ref a,h1,m _ _ H (aN.refl H) (cV.of h3) h4⟩
  |val d=>
   cases d with
   |lst xs=>
    rw[e]at m
    obtain⟨v,h1,a,vs,rfl,h3,h4⟩:=r.val i _ e
    exact⟨_,h1,m _ _ H (aN.refl H) h3.sq h4⟩
   |non=>rw[e]at m;exact m.elim
   |bl _=>rw[e]at m;exact m.elim
   |int _=>rw[e]at m;exact m.elim
   |str _=>rw[e]at m;exact m.elim
   |exc _=>rw[e]at m;exact m.elim
   |fn _=>rw[e]at m;exact m.elim
   |tup _=>rw[e]at m;exact m.elim
theorem cI{i j}:PE X (.Constant (.int i) j pos) (tD X.K E fun _=>.ok (.int i)):=imp iB fun σ H Q ⟨g,env,os,r,m⟩=>m _ H (aN.refl H) rfl
theorem Bs{i j}:PE X (.Constant (.bool i) j pos) (tD X.K E fun _=>.ok (.bl i)):=imp VZ fun σ H Q ⟨g,env,os,r,m⟩=>m _ H (aN.refl H) rfl
theorem cN{j}:PE X (.Constant .none j pos) (tD X.K E fun _=>.ok .non):=imp Jb fun σ H Q ⟨g,env,os,r,m⟩=>m _ H (aN.refl H) rfl
theorem PE.aB {e:Expr}{f:DE->R D}(h:PE X e (tD X.K E f)):PE X e (tB X.K E f):=imp h fun σ H Q ⟨g,env,os,r,m⟩=>⟨g,env,os,r,m.mono fun d _ q v H' s i=>q v H' s i.weak⟩
theorem PE.bV {e:Expr}{f:DE->R (List D)}(h:PE X e (tF X.K E f)):PE X e (tD X.K E fun env=>(f env).bind fun xs=>.ok (.lst xs)):=imp h fun σ H Q ⟨g,env,os,r,m⟩=>⟨g,env,os,r,m.bind.mono fun d _ q a vs H' s hn hH i=>by
 refine q _ H' s ⟨a,vs,rfl,.inl ⟨r.fresh hn,.inl hH⟩,IsL.ext ⟨fun b o p _=>⟨p.1,fun z=>p.2 (mem_cons_of_mem _ z)⟩,fun _ _ _ q=>q⟩ _ _ i⟩⟩
theorem PE.lK {e:Expr}{f:DE->R (List D)}(h:PE X e (tF X.K E f)):PE X e (tL X.K E f):=imp h fun σ H Q ⟨g,env,os,r,m⟩=>⟨g,env,os,r,m.mono fun d _ q a vs H' s hn hH i=>
 q _ vs H' s (cV.of hH) (IsL.ext ⟨fun b o p _=>⟨p.1,fun z=>p.2 (mem_cons_of_mem _ z)⟩,fun _ _ _ q=>q⟩ _ _ i)⟩
def vL:D->R (List D)
 |.lst xs=>.ok xs
 |_=>.bad
theorem PE.aaK {e:Expr}{f:DE->R D}(h:PE X e (tD X.K E f)):PE X e (tL X.K E fun env=>(f env).bind vL):=imp h fun σ H Q ⟨g,env,os,r,m⟩=>⟨g,env,os,r,m.bind.mono fun d _ q v H' s i=>by
 cases d with
 |lst xs=>
  obtain⟨a,vs,rfl,h3,h4⟩:=i
  exact q a vs H' s h3.sq h4
 |non=>exact q.elim
 |bl _=>exact q.elim
 |int _=>exact q.elim
 |str _=>exact q.elim
 |exc _=>exact q.elim
 |fn _=>exact q.elim
 |tup _=>exact q.elim⟩
abbrev Tr:Addr->Prop:=fun _=>True
def nc(X:Cx)(r:R2)(k:D->D->Option D):Prop:=∀x y d,k x y=some d->∃z,toV d=some z/\∀H v w (Q:VK),Is X.K Tr H x v->Is X.K Tr H y w->Q z H->r v w H Q
theorem bc{op:Operator}{r:R2}{a b:Expr}{fa fb:DE->R D}{k:D->D->Option D}(ho:sM X (binaryOp op) r)(hk:nc X r k)(ha:PE X a (tB X.K E fa))(hb:PE X b (tB X.K E fb)):
  PE X (.BinOp a op b pos) (tD X.K E fun env=>(fa env).bind fun x=>(fb env).bind fun y=>R.of (k x y)):=
 imp (sN ho ha hb) fun σ H Q ⟨g,env,os,r,m⟩=>⟨g,env,os,r,m.bind.mono fun x _ m1 v H1 s1 i1=>⟨g,env,os,r.same s1,m1.bind.mono fun y _ m2 w H2 s2 i2=>by
  obtain⟨d,e,q⟩:=m2.of
  obtain⟨z,hz,hk⟩:=hk x y d e
  exact hk H2 v w Q (i1.same s2) i2 (q z H2 (s1.trans s2) (Is.sc hz))⟩⟩
theorem SA{op:CmpOp}{r:R2}{a b:Expr}{fa fb:DE->R D}{k:D->D->Option D}(ho:sM X (compareOp op) r)(hk:nc X r k)(ha:PE X a (tB X.K E fa))(hb:PE X b (tB X.K E fb))(hm:behindInMarks op b=false):
  PE X (.Compare a [op] [b] pos) (tD X.K E fun env=>(fa env).bind fun x=>(fb env).bind fun y=>R.of (k x y)):=
 imp (Ny ho ha hb hm) fun σ H Q ⟨g,env,os,r,m⟩=>⟨g,env,os,r,m.bind.mono fun x _ m1 v H1 s1 i1=>⟨g,env,os,r.same s1,m1.bind.mono fun y _ m2 w H2 s2 i2=>by
  obtain⟨d,e,q⟩:=m2.of
  obtain⟨z,hz,hk⟩:=hk x y d e
  exact hk H2 v w Q (i1.same s2) i2 (q z H2 (s1.trans s2) (Is.sc hz))⟩⟩
def dX:D->R Bool
 |.bl b=>.ok b
 |_=>.bad
theorem aX{op:CmpOp}{r:R2}{a b:Expr}{fa fb:DE->R D}{k:D->D->Option D}(ho:sM X (compareOp op) r)(hk:nc X r k)(ha:PE X a (tB X.K E fa))(hb:PE X b (tB X.K E fb))(hm:behindInMarks op b=false):
  PT X (.Compare a [op] [b] pos) (tT X.K E fun env=>(fa env).bind fun x=>(fb env).bind fun y=>(R.of (k x y)).bind dX):=
 Sz (kh ho ha hb hm) fun σ H Q ⟨g,env,os,r,m⟩=>⟨g,env,os,r,m.bind.mono fun x _ m1 v H1 s1 i1=>⟨g,env,os,r.same s1,m1.bind.mono fun y _ m2 w H2 s2 i2=>by
  obtain⟨d,e,q⟩:=m2.bind.of
  obtain⟨z,hz,hk⟩:=hk x y d e
  refine hk H2 v w _ (i1.same s2) i2 ?_
  cases d with
  |bl b=>
   cases hz
   exact⟨b,rfl,q H2 (s1.trans s2)⟩
  |non=>exact q.elim
  |lst _=>exact q.elim
  |int _=>exact q.elim
  |str _=>exact q.elim
  |exc _=>exact q.elim
  |fn _=>exact q.elim
  |tup _=>exact q.elim⟩⟩
def WG(X:Cx)(r:V->Hp->VK->Prop)(k:D->Option D):Prop:=∀x d,k x=some d->∃z,toV d=some z/\∀H v (Q:VK),Is X.K Tr H x v->Q z H->r v H Q
theorem Fi{op:UnaryOp}{r:V->Hp->VK->Prop}{a:Expr}{fa:DE->R D}{k:D->Option D}(ho:Wc X (unaryOp op) r)(hk:WG X r k)(ha:PE X a (tB X.K E fa)):
  PE X (.UnaryOp op a pos) (tD X.K E fun env=>(fa env).bind fun x=>R.of (k x)):=
 imp (E5 ho ha) fun σ H Q ⟨g,env,os,r,m⟩=>⟨g,env,os,r,m.bind.mono fun x _ m1 v H1 s1 i1=>by
  obtain⟨d,e,q⟩:=m1.of
  obtain⟨z,hz,hk⟩:=hk x d e
  exact hk H1 v Q i1 (q z H1 s1 (Is.sc hz))⟩
def gp:D->D->Option D
 |.int i,.int j=>some (.int (i-j))
 |_,_=>none
def Hu:D->D->Option D
 |.int i,.int j=> @ite _ ((-(2^64)<i/\i<2^64)\/(-(2^64)<j/\j<2^64)) (propDecidable _) (some (.int (i*j))) (none)
 |_,_=>none
def uE:D->D->Option D
 |.int i,.int j=> @ite _ (0<j/\j<1073741824) (propDecidable _) (some (.int (i/j))) (none)
 |_,_=>none
def ki:D->D->Option D
 |.int i,.int j=> @ite _ (0<j) (propDecidable _) (some (.int (i%j))) (none)
 |_,_=>none
def DS:D->D->Option D
 |.int i,.int j=> @ite _ (0<=j/\j<=1000000/\i.natAbs<2^64) (propDecidable _) (some (.int (i^j.toNat))) (none)
 |_,_=>none
def pY:D->Option D
 |.int i=>some (.int (-i))
 |_=>none
def MZ:D->D->Option D
 |.int i,.int j=>some (.bl (decide (i<j)))
 |_,_=>none
def Zl:D->D->Option D
 |.int i,.int j=>some (.bl (decide (i<=j)))
 |_,_=>none
def Dj:D->D->Option D
 |.int i,.int j=>some (.bl (decide (j<i)))
 |_,_=>none
def kGe:D->D->Option D
 |.int i,.int j=>some (.bl (decide (j<=i)))
 |_,_=>none
theorem pZ{g:Int->Int->V}{h:Int->Int->D}{k:D->D->Option D}(hg:∀i j,toV (h i j)=some (g i j))(hk:∀x y d,k x y=some d->∃i j,x=.int i/\y=.int j/\d=h i j):nc X (E4 g) k:=fun x y d e=>by
 obtain⟨i,j,rfl,rfl,rfl⟩:=hk x y d e
 refine⟨g i j,hg i j,fun H v w Q h1 h2 q=>⟨i,j,h1,h2,q⟩⟩
theorem sW{C:Int->Int->Prop}{g:Int->Int->V}{h:Int->Int->D}{k:D->D->Option D}(hg:∀i j,toV (h i j)=some (g i j))(hk:∀x y d,k x y=some d->∃i j,x=.int i/\y=.int j/\C i j/\d=h i j):nc X (rI C g) k:=fun x y d e=>by
 obtain⟨i,j,rfl,rfl,c,rfl⟩:=hk x y d e
 refine⟨g i j,hg i j,fun H v w Q h1 h2 q=>⟨i,j,h1,h2,c,q⟩⟩
theorem bq:nc X (E4 fun i j=>.int (i-j)) gp:=pZ (h:=fun i j=>.int (i-j)) (fun _ _=>rfl) fun x y d e=>by
 unfold gp at e
 split at e<;>cases e
 exact⟨_,_,rfl,rfl,rfl⟩
theorem se:nc X (E4 fun i j=>.bl (decide (i<j))) MZ:=pZ (h:=fun i j=>.bl (decide (i<j))) (fun _ _=>rfl) fun x y d e=>by
 unfold MZ at e
 split at e<;>cases e
 exact⟨_,_,rfl,rfl,rfl⟩
theorem SD:nc X (E4 fun i j=>.bl (decide (i<=j))) Zl:=pZ (h:=fun i j=>.bl (decide (i<=j))) (fun _ _=>rfl) fun x y d e=>by
 unfold Zl at e
 split at e<;>cases e
 exact⟨_,_,rfl,rfl,rfl⟩
theorem jl:nc X (E4 fun i j=>.bl (decide (j<i))) Dj:=pZ (h:=fun i j=>.bl (decide (j<i))) (fun _ _=>rfl) fun x y d e=>by
 unfold Dj at e
 split at e<;>cases e
 exact⟨_,_,rfl,rfl,rfl⟩
theorem AE:nc X (rI Nt fun i j=>.int (i*j)) Hu:=sW (h:=fun i j=>.int (i*j)) (fun _ _=>rfl) fun x y d e=>by
 unfold Hu at e
 split at e
 ·split at e
  ·rename_i i j c
   cases e
   exact⟨i,j,rfl,rfl,c,rfl⟩
  ·cases e
 ·cases e
theorem jy:nc X (rI Wf fun i j=>.int (i/j)) uE:=sW (h:=fun i j=>.int (i/j)) (fun _ _=>rfl) fun x y d e=>by
 unfold uE at e
 split at e
 ·split at e
  ·rename_i i j c
   cases e
   exact⟨i,j,rfl,rfl,c,rfl⟩
  ·cases e
 ·cases e
theorem bU:nc X (rI (fun _ j=>0<j) fun i j=>.int (i%j)) ki:=sW (h:=fun i j=>.int (i%j)) (fun _ _=>rfl) fun x y d e=>by
 unfold ki at e
 split at e
 ·split at e
  ·rename_i i j c
   cases e
   exact⟨i,j,rfl,rfl,c,rfl⟩
  ·cases e
 ·cases e
theorem Fj:nc X (rI He fun i j=>.int (i^j.toNat)) DS:=sW (h:=fun i j=>.int (i^j.toNat)) (fun _ _=>rfl) fun x y d e=>by
 unfold DS at e
 split at e
 ·split at e
  ·rename_i i j c
   cases e
   exact⟨i,j,rfl,rfl,c,rfl⟩
  ·cases e
 ·cases e
theorem eR:WG X (rU fun i=>.int (-i)) pY:=fun x d e=>by
 unfold pY at e
 split at e<;>cases e
 exact⟨_,rfl,fun H v Q h1 q=>⟨_,h1,q⟩⟩
theorem rM{a:Expr}{f:DE->R Bool}(h:PT X a (tT X.K E f)):PT X (.UnaryOp .Not a pos) (tT X.K E fun env=>(f env).bind fun b=>.ok (!b)):=
 Sz (RJ h) fun σ H Q ⟨g,env,os,r,m⟩=>⟨g,env,os,r,m.bind.mono fun b _ q H' s=>q H' s⟩
theorem p6{a:Expr}{f:DE->R Bool}(h:PT X a (tT X.K E f)):PW X (.BoolOp .And [a] pos) (tT X.K E f):=pw_and1 h
theorem wo{a:Expr}{f:DE->R Bool}(h:PT X a (tT X.K E f)):PW X (.BoolOp .Or [a] pos) (tT X.K E f):=pw_or1 h
theorem ph{a b:Expr}{rest:List Expr}{f k:DE->R Bool}(h:PT X a (tT X.K E f))(h2:PW X (.BoolOp .And (b::rest) pos) (tT X.K E k)):PW X (.BoolOp .And (a::b::rest) pos) (tT X.K E fun env=>(f env).bind fun t=>if t=true then k env else .ok false):=
 WE (pw_and h h2) fun σ H Q ⟨g,env,os,r,m⟩=>⟨g,env,os,r,m.bind.mono fun t _ q H' s=>by
  cases t with
  |true=>exact⟨g,env,os,r.same s,Good.mono (show Good E g.H₀ (k env) _ from q) fun b _ q2 H2 s2=>q2 H2 (s.trans s2)⟩
  |false=>exact q H' s⟩
theorem rE{a b:Expr}{rest:List Expr}{f k:DE->R Bool}(h:PT X a (tT X.K E f))(h2:PW X (.BoolOp .Or (b::rest) pos) (tT X.K E k)):PW X (.BoolOp .Or (a::b::rest) pos) (tT X.K E fun env=>(f env).bind fun t=>if t=true then .ok true else k env):=
 WE (pw_or h h2) fun σ H Q ⟨g,env,os,r,m⟩=>⟨g,env,os,r,m.bind.mono fun t _ q H' s=>by
  cases t with
  |false=>exact⟨g,env,os,r.same s,Good.mono (show Good E g.H₀ (k env) _ from q) fun b _ q2 H2 s2=>q2 H2 (s.trans s2)⟩
  |true=>exact q H' s⟩
theorem uF{e:Expr}{f:DE->R D}(h:PE X e (tB X.K E f))(he:∀whole,isTrue e X.env whole=(do let v<-whole;standAt e.pos;holding [v] (truthy v)):=by intro _;rfl):PT X e (tT X.K E fun env=>(f env).bind dX):=
 Sz (RH h he) fun σ H Q ⟨g,env,os,r,m⟩=>⟨g,env,os,r,m.bind.mono fun d _ q v H' s i=>by
  cases d with
  |bl b=>exact⟨b,i,q H' s⟩
  |non=>exact q.elim
  |lst _=>exact q.elim
  |int _=>exact q.elim
  |str _=>exact q.elim
  |exc _=>exact q.elim
  |fn _=>exact q.elim
  |tup _=>exact q.elim⟩
theorem aaL{op}{a:Expr}{f:DE->R D}(h:PE X a (tD X.K E f)):PE X (.BoolOp op [a] pos) (tD X.K E f):=RK h
theorem WH{a b:Expr}{rest:List Expr}{f k:DE->R D}(h:PE X a (tB X.K E f))(h2:PE X (.BoolOp .And (b::rest) pos) (tD X.K E k)):PE X (.BoolOp .And (a::b::rest) pos) (tD X.K E fun env=>(f env).bind fun x=>(dX x).bind fun t=>if t=true then k env else .ok (.bl false)):=
 imp (RL h h2) fun σ H Q ⟨g,env,os,r,m⟩=>⟨g,env,os,r,m.bind.mono fun d _ q v H' s i=>by
  cases d with
  |bl b=>
   refine⟨b,i,?_⟩
   cases b with
   |true=>
    rw[if_pos rfl]
    exact⟨g,env,os,r.same s,Good.mono (show Good E g.H₀ (k env) _ from q) fun b _ q2 v2 H2 s2 i2=>q2 v2 H2 (s.trans s2) i2⟩
   |false=>
    rw[if_neg Bool.false_ne_true]
    exact q _ H' s rfl
  |non=>exact q.elim
  |lst _=>exact q.elim
  |int _=>exact q.elim
  |str _=>exact q.elim
  |exc _=>exact q.elim
  |fn _=>exact q.elim
  |tup _=>exact q.elim⟩
theorem aaM{a:Expr}{f:DE->R D}(h:PE X a (tB X.K E f)):PE X (.UnaryOp .Not a pos) (tD X.K E fun env=>(f env).bind fun x=>(dX x).bind fun t=>.ok (.bl (!t))):=
 imp (RM h) fun σ H Q ⟨g,env,os,r,m⟩=>⟨g,env,os,r,m.bind.mono fun d _ q v H' s i=>by
  cases d with
  |bl b=>exact⟨b,i,q _ H' s rfl⟩
  |non=>exact q.elim
  |lst _=>exact q.elim
  |int _=>exact q.elim
  |str _=>exact q.elim
  |exc _=>exact q.elim
  |fn _=>exact q.elim
  |tup _=>exact q.elim⟩
theorem Zm{c a b:Expr}{fc:DE->R Bool}{fa fb:DE->R D}(hc:PT X c (tT X.K E fc))(ha:PE X a (tD X.K E fa))(hb:PE X b (tD X.K E fb)):PE X (.IfExp c a b pos) (tD X.K E fun env=>(fc env).bind fun t=>if t=true then fa env else fb env):=
 imp (Jd hc ha hb) fun σ H Q ⟨g,env,os,r,m⟩=>⟨g,env,os,r,m.bind.mono fun t _ q H' s=>by
  cases t with
  |true=>
   rw[if_pos rfl]
   exact⟨g,env,os,r.same s,Good.mono (show Good E g.H₀ (fa env) _ from q) fun b _ q2 v2 H2 s2 i2=>q2 v2 H2 (s.trans s2) i2⟩
  |false=>
   rw[if_neg Bool.false_ne_true]
   exact⟨g,env,os,r.same s,Good.mono (show Good E g.H₀ (fb env) _ from q) fun b _ q2 v2 H2 s2 i2=>q2 v2 H2 (s.trans s2) i2⟩⟩
theorem bw:PA X [] (JJ X.K E fun _=>.ok []):=DR aL fun σ H Q ⟨g,env,os,r,m⟩=>m [] H (aN.refl H) rfl
theorem aZ:PA X [] (rC X.K E fun _=>.ok []):=DR aL fun σ H Q ⟨g,env,os,r,m⟩=>m [] H (aN.refl H) rfl
theorem au{e:Expr}{es:List Expr}{f:DE->R D}{k:DE->R (List D)}(ha:PE X e (tD X.K E f))(hr:PA X es (JJ X.K E k))(hs:'e':=by rfl):
  PA X (e::es) (JJ X.K E fun env=>(f env).bind fun x=>(k env).bind fun xs=>.ok (x::xs)):=
 DR (ao ha hr hs) fun σ H Q ⟨g,env,os,r,m⟩=>⟨g,env,os,r,m.bind.mono fun x _ m1 v H1 s1 i1=>⟨g,env,os,r.same s1,m1.bind.mono fun xs _ m2 vs H2 s2 i2=>m2 (v::vs) H2 (s1.trans s2) (.cons (i1.same s2) i2)⟩⟩
theorem ar{e:Expr}{es:List Expr}{f:DE->R D}{k:DE->R (List D)}(ha:PE X e (tB X.K E f))(hr:PA X es (rC X.K E k))(hs:'e':=by rfl):
  PA X (e::es) (rC X.K E fun env=>(f env).bind fun x=>(k env).bind fun xs=>.ok (x::xs)):=
 DR (ao ha hr hs) fun σ H Q ⟨g,env,os,r,m⟩=>⟨g,env,os,r,m.bind.mono fun x _ m1 v H1 s1 i1=>⟨g,env,os,r.same s1,m1.bind.mono fun xs _ m2 vs H2 s2 i2=>m2 (v::vs) H2 (s1.trans s2) (.cons (i1.same s2) i2)⟩⟩
def fit{α:Type}(xs:List α):R (List α):= @ite _ (xs.length<=sizeLine) (propDecidable _) (.ok xs) (.bad)
theorem Good.fit {α:Type}{H₀:Hp}{xs:List α}{p:List α->Prop}(h:Good E H₀ (fit xs) p):xs.length<=sizeLine/\p xs:=by
 unfold DL.fit at h
 split at h
 ·rename_i c
  exact⟨c,h⟩
 ·exact h.elim
theorem DT{K:'b'}{g:Gh}{env:DE}{σ:St}{H H1:Hp}{os:List Addr}{ds:List D}{vs:List V}{p:Addr}(r:Rel K g env σ H os)(s1:aN H H1)(hp:H1 p=none)(i:IsL K (g.P os) H1 ds vs):
  aN H (upd H1 p (.lst vs))/\H p=none/\upd H1 p (.lst vs) p=some (.lst vs)/\IsL K (g.P (p::os)) (upd H1 p (.lst vs)) ds vs:=
 ⟨s1.trans (aM hp _),s1.free hp,ak,IsL.ext ((r.same s1).apart (aM hp _) hp) _ _ i⟩
theorem jT{es:List Expr}{f:DE->R (List D)}(h:PA X es (JJ X.K E f)):PE X (.List es pos) (tF X.K E fun env=>(f env).bind fit):=
 imp (uz h) fun σ H Q ⟨g,env,os,r,m⟩=>⟨g,env,os,r,m.bind.mono fun ds _ m1 vs H1 s1 i1=>by
  obtain⟨z,q⟩:=m1.fit
  refine⟨by rw[i1.length];exact z,fun p hp=>?_⟩
  obtain⟨a1,a2,a3,a4⟩:=DT r s1 hp i1
  exact q p vs _ a1 a2 a3 a4⟩
theorem xE{es:List Expr}{x1}{f:DE->R (List D)}(h:PA X es (JJ X.K E f)):PE X (.Tuple es x1 pos) (tD X.K E fun env=>((f env).bind fit).bind fun ds=>.ok (.tup ds)):=
 imp (r9 h) fun σ H Q ⟨g,env,os,r,m⟩=>⟨g,env,os,r,m.bind.bind.mono fun ds _ m1 vs H1 s1 i1=>by
  obtain⟨z,q⟩:=m1.fit
  refine⟨by rw[i1.length];exact z,fun p hp=>?_⟩
  exact q _ _ (s1.trans (aM hp _)) ⟨p,vs,rfl,.inl ⟨(r.same s1).fresh hp,.inl ak⟩,i1.same (aM hp _)⟩⟩
end
section
variable{X:Cx}{E:Str->Hp->Prop}{pos:Pos}
def WI(K:'b'):R2:=fun x y H Q=>∃l b xs zs,x=.ref l/\y=.ref b/\cV K H l xs/\cV K H b zs/\xs.length+zs.length<=sizeLine/\∀p,H p=none->Q (.ref p) (upd H p (.lst (xs++zs)))
theorem NU:sM X (binaryOp .Add) (WI X.K):=by
 intro pins s σ H x y v u Q I rx ry h
 obtain⟨l,b,xs,zs,rfl,rfl,hH,hB,hz,q⟩:=h
 cases rx
 cases ry
 obtain⟨its,r,p1,z1⟩:=I.list hH
 obtain⟨its2,r2,p2,z2⟩:=I.list hB
 have hl:=r.length
 have hl2:=r2.length
 obtain⟨o1,n1,e1,c1,d1,t1⟩:=p1
 obtain⟨o2,n2,e2,c2,d2,t2⟩:=p2
 obtain⟨oc,od,oda,Hj⟩:=o1
 obtain⟨oc2,od2,aaN,aaO⟩:=o2
 have c1':oc=_:=c1
 have d1':od=_:=d1
 have SE:oda=_:=t1
 have c2':oc2=_:=c2
 have d2':od2=_:=d2
 have t2':aaN=_:=t2
 subst c1' d1' SE c2' d2' t2'
 have ea:its.toArray++its2.toArray=(its++its2).toArray:=by simp
 refine concat_meets ⟨_,e1,rfl⟩ ⟨_,e2,rfl⟩ noFill_list_add seq_list_add PySem.F.slot_list_add PySem.F.entry_list_add (PySem.F.args_list_add_2 _ _) (list_addW l b its.toArray its2.toArray n1 n2 none none Hj aaO (by rw[size_toArray,size_toArray];omega)) ⟨e1,e2,?_⟩
 rw[ea]
 exact⟨.ref _,_,I.Wt (t':=s.toks) (r.append r2) (by rw[length_append];omega),rfl,q _ I.fresh⟩
theorem xF{a b:Expr}{fa fb:DE->R (List D)}(ha:PE X a (tL X.K E fa))(hb:PE X b (tL X.K E fb)):PE X (.BinOp a .Add b pos) (tF X.K E fun env=>(fa env).bind fun x=>(fb env).bind fun y=>fit (x++y)):=
 imp (sN NU ha hb) fun σ H Q ⟨g,env,os,r,m⟩=>⟨g,env,os,r,m.bind.mono fun x _ m1 a1 v1 H1 s1 q1 i1=>⟨g,env,os,r.same s1,m1.bind.mono fun y _ m2 a2 v2 H2 s2 q2 i2=>by
  obtain⟨z,q⟩:=m2.fit
  rw[length_append]at z
  refine⟨a1,a2,v1,v2,rfl,rfl,s2.seq q1,q2,by rw[i1.length,i2.length];exact z,fun p hp=>?_⟩
  obtain⟨b1,b2,b3,b4⟩:=DT r (s1.trans s2) hp ((i1.same s2).app i2)
  exact q p _ _ b1 b2 b3 b4⟩⟩
def tO(K:'b')(E:Str->Hp->Prop)(f:DE->R (Option Int)):TO:=fun σ H Q=>∃g env os,Rel K g env σ H os/\Good E g.H₀ (f env) fun o=>∀H',aN H H'->Q o H'
theorem WK{e:Option Expr}{t t':TO}(h:L2.PO X e t)(w:∀σ H Q,t' σ H Q->t σ H Q):L2.PO X e t':=fun pins s σ H Q I q=>h pins s σ H Q I (w σ H Q q)
theorem M0:L2.PO X none (tO X.K E fun _=>.ok none):=WK E8 fun σ H Q ⟨g,env,os,r,m⟩=>m H (aN.refl H)
def Fl:D->R (Option Int)
 |.int i=>.ok (some i)
 |_=>.bad
theorem wq{e:Expr}{f:DE->R D}(h:PE X e (tB X.K E f)):L2.PO X (some e) (tO X.K E fun env=>(f env).bind Fl):=WK (E9 h) fun σ H Q ⟨g,env,os,r,m⟩=>⟨g,env,os,r,m.bind.mono fun d _ q v H' s i=>by
 cases d with
 |int k=>exact⟨k,i,q H' s⟩
 |non=>exact q.elim
 |bl _=>exact q.elim
 |lst _=>exact q.elim
 |str _=>exact q.elim
 |exc _=>exact q.elim
 |fn _=>exact q.elim
 |tup _=>exact q.elim⟩
def cut{α:Type}(xs:List α)(lo hi:Option Int):List α:=(xs.drop (HT.xy xs.length 0 lo)).take (HT.xy xs.length xs.length hi-HT.xy xs.length 0 lo)
theorem IsL.cut {K:'b'}{P:Addr->Prop}{H:Hp}{ds:List D}{vs:List V}(h:IsL K P H ds vs)(lo hi:Option Int):IsL K P H (DL.cut ds lo hi) (yZ vs lo hi):=by
 unfold DL.cut yZ
 rw[h.length]
 exact(h.drop _).take _
theorem kQ{e:Expr}{lo hi:Option Expr}{f:DE->R (List D)}{fl fh:DE->R (Option Int)}{p2:Pos}(he:PE X e (tL X.K E f))(hl:L2.PO X lo (tO X.K E fl))(hh:L2.PO X hi (tO X.K E fh)):
  PE X (.Subscript e (.Slice lo hi none p2) pos) (tF X.K E fun env=>(f env).bind fun x=>(fl env).bind fun l=>(fh env).bind fun h=>.ok (cut x l h)):=
 imp (BI Fc he hl hh) fun σ H Q ⟨g,env,os,r,m⟩=>⟨g,env,os,r,m.bind.mono fun x _ m1 a1 v1 H1 s1 q1 i1=>⟨g,env,os,r.same s1,m1.bind.mono fun l _ m2 H2 s2=>⟨g,env,os,r.same (s1.trans s2),m2.bind.mono fun h _ m3 H3 s3=>by
  refine⟨a1,v1,rfl,s3.seq (s2.seq q1),fun p hp=>?_⟩
  obtain⟨b1,b2,b3,b4⟩:=DT r (s1.trans (s2.trans s3)) hp (((i1.same s2).same s3).cut l h)
  exact m3 p _ _ b1 b2 b3 b4⟩⟩⟩
theorem IsL.iC {K:'b'}{P:Addr->Prop}{H:Hp}{ds:List D}{vs:List V}{i:Int}{d:D}(h:IsL K P H ds vs)(e:L2.iC ds i=some d):∃v,L2.iC vs i=some v/\Is K P H d v:=by
 unfold L2.iC at e⊢
 rw[h.length]
 cases q:pV ds.length i with
 |none=>rw[q]at e;cases e
 |some j=>
  rw[q]at e
  exact h.get e
def xG:D->D->R D
 |.lst xs,.int i=>R.of (iC xs i)
 |.tup xs,.int i=>R.of (iC xs i)
 |_,_=>.bad
theorem AF{a b:Expr}{fa fb:DE->R D}(ha:PE X a (tD X.K E fa))(hb:PE X b (tB X.K E fb))(hs:wO b:=by exact fun _ _=>rfl):PE X (.Subscript a b pos) (tD X.K E fun env=>(fa env).bind fun x=>(fb env).bind fun y=>xG x y):=
 imp (jh Sd ha hb hs) fun σ H Q ⟨g,env,os,r,m⟩=>⟨g,env,os,r,m.bind.mono fun x _ m1 v H1 s1 i1=>⟨g,env,os,r.same s1,m1.bind.mono fun y _ m2 w H2 s2 i2=>by
  unfold xG at m2
  split at m2
  ·rename_i xs i _ _
   obtain⟨d,e,q⟩:=m2.of
   have Vx:=i1.same s2
   obtain⟨a,vs,rfl,h1,h2⟩:=Vx
   obtain⟨z,e2,h3⟩:=IsL.iC h2 e
   exact .inl ⟨a,vs,i,z,rfl,i2,h1.sq,e2,q z H2 (s1.trans s2) h3⟩
  ·rename_i xs i _ _
   obtain⟨d,e,q⟩:=m2.of
   have Vx:=i1.same s2
   obtain⟨a,vs,rfl,h1,h2⟩:=Vx
   obtain⟨z,e2,h3⟩:=IsL.iC h2 e
   exact .inr (.inl ⟨a,vs,i,z,rfl,i2,h1.sq,e2,q z H2 (s1.trans s2) h3⟩)
  ·exact m2.elim⟩⟩
def uG(xs:List D):D->R D
 |.int i=>R.of (iC xs i)
 |_=>.bad
theorem wR{a b:Expr}{fa:DE->R (List D)}{fb:DE->R D}(ha:PE X a (tL X.K E fa))(hb:PE X b (tB X.K E fb))(hs:wO b:=by exact fun _ _=>rfl):PE X (.Subscript a b pos) (tD X.K E fun env=>(fa env).bind fun x=>(fb env).bind fun y=>uG x y):=
 imp (jh dY ha hb hs) fun σ H Q ⟨g,env,os,r,m⟩=>⟨g,env,os,r,m.bind.mono fun x _ m1 a1 v1 H1 s1 q1 i1=>⟨g,env,os,r.same s1,m1.bind.mono fun y _ m2 w H2 s2 i2=>by
  unfold uG at m2
  split at m2
  ·rename_i i _
   obtain⟨d,e,q⟩:=m2.of
   obtain⟨z,e2,h3⟩:=(i1.same s2).iC e
   exact⟨a1,v1,i,z,rfl,i2,s2.seq q1,e2,q z H2 (s1.trans s2) h3⟩
  ·exact m2.elim⟩⟩
def NV(X:Cx)(r:List V->Hp->VK->Prop)(k:List D->Option D):Prop:=∀ds d,k ds=some d->∃z,toV d=some z/\∀H vs (Q:VK),IsL X.K Tr H ds vs->Q z H->r vs H Q
theorem gw{id:String}{x:Str}{p:Pos}{e:Expr}{es:List Expr}{f:DE->R (List D)}{r:List V->Hp->VK->Prop}{k:List D->Option D}(hc:rK X (.builtin id) r)(hk:NV X r k)(hm:X.mg x=none)(hv:bootBuiltins x=some (.builtin id))(ha:PA X (e::es) (rC X.K E f))
  (hg:Gl X x:=by rfl)(hn:x≠"__name__":=by decide)(hdb:(x==("__debug__":Str))=false:=by decide)
  (he:'e':=by rfl)(hpl:(backTo pos (starEach es X.env)).any (·.1)=false:=by rfl):PE X (.Call (.Name x p) (e::es) [] pos) (tD X.K E fun env=>(f env).bind fun ds=>R.of (k ds)):=
 imp (fu hc hg hm hv ha hn hdb he hpl) fun σ H Q ⟨g,env,os,r,m⟩=>⟨g,env,os,r,m.bind.mono fun ds _ m1 vs H1 s1 i1=>by
  obtain⟨d,e,q⟩:=m1.of
  obtain⟨z,hz,hk⟩:=hk ds d e
  exact hk H1 vs Q i1 (q z H1 s1 (Is.sc hz))⟩
theorem IsL.y7 {K:'b'}{P:Addr->Prop}{H:Hp}{d:D}{vs:List V}(h:IsL K P H [d] vs):∃v,vs=[v]/\Is K P H d v:=by
 obtain⟨v,r,rfl,p,q⟩:=h
 have q':r=[]:=q
 subst q'
 exact⟨v,rfl,p⟩
theorem IsL.NW {K:'b'}{P:Addr->Prop}{H:Hp}{d d2:D}{vs:List V}(h:IsL K P H [d,d2] vs):∃v w,vs=[v,w]/\Is K P H d v/\Is K P H d2 w:=by
 obtain⟨v,r,rfl,p,q⟩:=h
 obtain⟨w,rfl,p2⟩:=IsL.y7 q
 exact⟨v,w,rfl,p,p2⟩
def lL:List D->Option D
 |[.lst xs]=>some (.int xs.length)
 |[.tup xs]=>some (.int xs.length)
 |[.str x]=> @ite _ (x.length<=sizeLine) (propDecidable _) (some (.int x.length)) (none)
 |_=>none
theorem cQ:NV X (fun xs H Q=>∃x n,xs=[x]/\Wi X.K x H n/\Q (.int n) H) lL:=fun ds d e=>by
 unfold lL at e
 split at e
 ·rename_i xs
  cases e
  refine⟨_,rfl,fun H vs Q i q=>?_⟩
  obtain⟨v,rfl,a,ws,rfl,h1,h2⟩:=IsL.y7 i
  exact⟨_,_,rfl,.inl ⟨ws,h1.sq,(IsL.length h2).symm⟩,q⟩
 ·rename_i xs
  cases e
  refine⟨_,rfl,fun H vs Q i q=>?_⟩
  obtain⟨v,rfl,a,ws,rfl,h1,h2⟩:=IsL.y7 i
  exact⟨_,_,rfl,.inr ⟨ws,h1.sq,(IsL.length h2).symm⟩,q⟩
 ·split at e
  ·rename_i x c
   cases e
   refine⟨_,rfl,fun H vs Q i q=>?_⟩
   obtain⟨v,rfl,i2⟩:=IsL.y7 i
   have i':v=.str x:=i2
   subst i'
   exact⟨_,_,rfl,⟨c,rfl⟩,q⟩
  ·cases e
 ·cases e
def JL:List D->Option D
 |[.int i]=>some (.int (if i<0 then-i else i))
 |_=>none
theorem Fo:NV X (fun xs H Q=>∃i,xs=[.int i]/\Q (.int (if i<0 then-i else i)) H) JL:=fun ds d e=>by
 unfold JL at e
 split at e
 ·rename_i i
  cases e
  refine⟨_,rfl,fun H vs Q h q=>?_⟩
  obtain⟨v,rfl,h1⟩:=IsL.y7 h
  have h':v=.int i:=h1
  subst h'
  exact⟨i,rfl,q⟩
 ·cases e
def Fp:List D->Option D
 |[.int i,.int j]=>some (.int (if j>i then j else i))
 |_=>none
theorem JM:NV X (fun xs H Q=>∃i j,xs=[.int i,.int j]/\Q (.int (if j>i then j else i)) H) Fp:=fun ds d e=>by
 unfold Fp at e
 split at e
 ·rename_i i j
  cases e
  refine⟨_,rfl,fun H vs Q h q=>?_⟩
  obtain⟨v,w,rfl,h1,h2⟩:=IsL.NW h
  have h':v=.int i:=h1
  have h2':w=.int j:=h2
  subst h' h2'
  exact⟨i,j,rfl,q⟩
 ·cases e
theorem JN{p:Pos}{a:Expr}{f:DE->R (List D)}(hm:X.mg "list"=none)(ha:PE X a (tL X.K E f))(hg:Gl X "list":=by rfl)
  (he:starEach [a] X.env=(false,eval a X.env)::starEach [] X.env:=by rfl)(hpl:(backTo pos (starEach [] X.env)).any (·.1)=false:=by rfl):PE X (.Call (.Name "list" p) [a] [] pos) (tF X.K E f):=
 imp (qP og hg hm (by decide +kernel) (ao ha aL he) (by decide) (by decide) he hpl) fun σ H Q ⟨g,env,os,r,m⟩=>⟨g,env,os,r,m.mono fun x _ m1 a1 v1 H1 s1 q1 i1=>
  ⟨a1,v1,rfl,.inl q1,fun p hp=>by
   obtain⟨b1,b2,b3,b4⟩:=DT r s1 hp i1
   exact m1 p _ _ b1 b2 b3 b4⟩⟩
def Fq(K:'b')(xc:Str->Value)(m:List D->R D):Sp:=fun vs H Q E=>∃P ds,IsL K P H ds vs/\(match m ds with
 |.ok d=>∀v H',aN H H'->Is K (fun a=>P a\/H a=none) H' d v->Q v H'
 |.err c=>∀H',aN H H'->E (xc c) none H'
 |.bad=>False)
def M4(K:'b')(xc:Str->Value)(m:List D->R (List D)):Sp:=fun vs H Q E=>∃P ds,IsL K P H ds vs/\(match m ds with
 |.ok xs=>∀a ws H',aN H H'->H a=none->H' a=some (.lst ws)->IsL K (fun b=>(P b\/H b=none)/\b≠a) H' xs ws->Q (.ref a) H'
 |.err c=>∀H',aN H H'->E (xc c) none H'
 |.bad=>False)
def EX(xc:Str->Value)(E:Str->Hp->Prop):XK:=fun c _ H'=>∃n,c=xc n/\E n H'
theorem lR{E:XK}:Passes lI X E:=fun _ _ _ _ _ _ _ h=>h.elim
variable{CX:IM}{k:Nat}{fa:Addr}{fd:FuncData}{ps:List Str}{xc:Str->Value}{x:Str}{p:Pos}{e:Expr}{es:List Expr}{f:DE->R (List D)}
theorem fD{m:List D->R D}(F:b8 X.prog X.w X.K X.mg X.base CX k fa fd ps (Fq X.K xc m))(hm:X.mg x=some (.ref fa))(hk:keepIn X.K (.ref fa)=true)(hb:Binds X.K fd ps [])(hr:aY k X.A)(hx:Passes CX X (EX xc E))
  (ha:PA X (e::es) (JJ X.K E f))(hg:Gl X x:=by rfl)(hdb:(x==("__debug__":Str))=false:=by decide)(he:'e':=by rfl)(hpl:(backTo pos (starEach es X.env)).any (·.1)=false:=by rfl):
  PE X (.Call (.Name x p) (e::es) [] pos) (tD X.K E fun env=>(f env).bind m):=
 imp (eO F hr hg hm hk hb .nil hx ha hdb he hpl) fun σ H Q ⟨g,env,os,r,q⟩=>⟨g,env,os,r,q.bind.mono fun ds _ q1 vs H1 s1 i1=>by
  show Fq X.K xc m (vs++[]) H1 Q _
  rw[append_nil]
  refine⟨g.P os,ds,i1,?_⟩
  cases em:m ds with
  |ok d=>
   rw[em]at q1
   intro v H' s' i'
   exact q1 v H' (s1.trans s') (Is.ext ⟨fun a o pa _=>pa.elim (fun z=>z) fun z=>(r.same s1).fresh z,fun _ _ _ z=>z⟩ _ _ i')
  |err c=>
   rw[em]at q1
   intro H' s'
   exact⟨c,rfl,q1 H' (r.ext.trans (s1.trans s'))⟩
  |bad=>rw[em]at q1;exact q1⟩
theorem fB{m:List D->R D}(F:b8 X.prog X.w X.K X.mg X.base CX k fa fd ps (Fq X.K xc m))(hsc:∀ds d,m ds=.ok d->∃z,toV d=some z)(hm:X.mg x=some (.ref fa))(hk:keepIn X.K (.ref fa)=true)(hb:Binds X.K fd ps [])(hr:aY k X.A)(hx:Passes CX X (EX xc E))
  (ha:PA X (e::es) (rC X.K E f))(hg:Gl X x:=by rfl)(hdb:(x==("__debug__":Str))=false:=by decide)(he:'e':=by rfl)(hpl:(backTo pos (starEach es X.env)).any (·.1)=false:=by rfl):
  PE X (.Call (.Name x p) (e::es) [] pos) (tD X.K E fun env=>(f env).bind m):=
 imp (eO F hr hg hm hk hb .nil hx ha hdb he hpl) fun σ H Q ⟨g,env,os,r,q⟩=>⟨g,env,os,r,q.bind.mono fun ds _ q1 vs H1 s1 i1=>by
  show Fq X.K xc m (vs++[]) H1 Q _
  rw[append_nil]
  refine⟨Tr,ds,i1,?_⟩
  cases em:m ds with
  |ok d=>
   rw[em]at q1
   intro v H' s' i'
   obtain⟨z,hz⟩:=hsc ds d em
   have e2:=Is.PN hz i'
   subst e2
   exact q1 _ H' (s1.trans s') (Is.sc hz)
  |err c=>
   rw[em]at q1
   intro H' s'
   exact⟨c,rfl,q1 H' (r.ext.trans (s1.trans s'))⟩
  |bad=>rw[em]at q1;exact q1⟩
theorem fF{m:List D->R (List D)}(F:b8 X.prog X.w X.K X.mg X.base CX k fa fd ps (M4 X.K xc m))(hm:X.mg x=some (.ref fa))(hk:keepIn X.K (.ref fa)=true)(hb:Binds X.K fd ps [])(hr:aY k X.A)(hx:Passes CX X (EX xc E))
  (ha:PA X (e::es) (JJ X.K E f))(hg:Gl X x:=by rfl)(hdb:(x==("__debug__":Str))=false:=by decide)(he:'e':=by rfl)(hpl:(backTo pos (starEach es X.env)).any (·.1)=false:=by rfl):
  PE X (.Call (.Name x p) (e::es) [] pos) (tF X.K E fun env=>(f env).bind m):=
 imp (eO F hr hg hm hk hb .nil hx ha hdb he hpl) fun σ H Q ⟨g,env,os,r,q⟩=>⟨g,env,os,r,q.bind.mono fun ds _ q1 vs H1 s1 i1=>by
  show M4 X.K xc m (vs++[]) H1 Q _
  rw[append_nil]
  refine⟨g.P os,ds,i1,?_⟩
  cases em:m ds with
  |ok d=>
   rw[em]at q1
   intro a ws H' s' hn hH i'
   exact q1 a ws H' (s1.trans s') (s1.free hn) hH (IsL.ext ⟨fun b o pb _=>by
    have z:g.P os b:=pb.1.elim (fun z=>z) fun z=>(r.same s1).fresh z
    exact⟨z.1,fun hm=>(mem_cons.mp hm).elim pb.2 z.2⟩,fun _ _ _ z=>z⟩ _ _ i')
  |err c=>
   rw[em]at q1
   intro H' s'
   exact⟨c,rfl,q1 H' (r.ext.trans (s1.trans s'))⟩
  |bad=>rw[em]at q1;exact q1⟩
theorem scs{K:'b'}{P P':Addr->Prop}{H:Hp}:∀{ds:List D}{vs:List V},(∀d∈ds,∃z,toV d=some z)->IsL K P H ds vs->IsL K P' H ds vs
 |[],_,_,h=>h
 |d::ds,_,hs,⟨v,r,e,p,q⟩=>by
  obtain⟨z,hz⟩:=hs d (by simp)
  have e2:=Is.PN hz p
  exact⟨v,r,e,by rw[e2];exact Is.sc hz,scs (fun d hd=>hs d (by simp[hd])) q⟩
theorem fFB{m:List D->R (List D)}(F:b8 X.prog X.w X.K X.mg X.base CX k fa fd ps (M4 X.K xc m))(hsc:∀ds xs,m ds=.ok xs->∀d∈xs,∃z,toV d=some z)(hm:X.mg x=some (.ref fa))(hk:keepIn X.K (.ref fa)=true)(hb:Binds X.K fd ps [])(hr:aY k X.A)(hx:Passes CX X (EX xc E))
  (ha:PA X (e::es) (rC X.K E f))(hg:Gl X x:=by rfl)(hdb:(x==("__debug__":Str))=false:=by decide)(he:'e':=by rfl)(hpl:(backTo pos (starEach es X.env)).any (·.1)=false:=by rfl):
  PE X (.Call (.Name x p) (e::es) [] pos) (tF X.K E fun env=>(f env).bind m):=
 imp (eO F hr hg hm hk hb .nil hx ha hdb he hpl) fun σ H Q ⟨g,env,os,r,q⟩=>⟨g,env,os,r,q.bind.mono fun ds _ q1 vs H1 s1 i1=>by
  show M4 X.K xc m (vs++[]) H1 Q _
  rw[append_nil]
  refine⟨Tr,ds,i1,?_⟩
  cases em:m ds with
  |ok d=>
   rw[em]at q1
   intro a ws H' s' hn hH i'
   exact q1 a ws H' (s1.trans s') (s1.free hn) hH (scs (hsc ds d em) i')
  |err c=>
   rw[em]at q1
   intro H' s'
   exact⟨c,rfl,q1 H' (r.ext.trans (s1.trans s'))⟩
  |bad=>rw[em]at q1;exact q1⟩
end
def aT(r:R Out)(k:DE->R Out):R Out:=r.bind fun o=>match o with
 |.nx e=>k e
 |o=>.ok o
def cW(b:D->DE->R Out):List D->DE->R Out
 |[],e=>.ok (.nx e)
 |x::xs,e=>(b x e).bind fun o=>match o with
  |.nx e'=>cW b xs e'
  |.ct e'=>cW b xs e'
  |.bk e'=>.ok (.nx e')
  |.rt d=>.ok (.rt d)
  |.pX ys=>.ok (.pX ys)
  |.IQ ys=>.ok (.IQ ys)
  |.Ht ys=>.ok (.Ht ys)
  |.IP ys=>.ok (.IP ys)
  |.BQ ys=>.ok (.BQ ys)
section
variable{X:Cx}{E:Str->Hp->Prop}{pos:Pos}
theorem fZ:rB X [] (tS X.K E fun e=>.ok (.nx e)):=PR lP fun De σ H ⟨g,env,os,r,m⟩=>m σ H os r (.refl H os)
theorem aH{st:Stmt}{rest:List Stmt}{f k:DE->R Out}(h1:PS X st (tS X.K E f))(h2:rB X rest (tS X.K E k)):rB X (st::rest) (tS X.K E fun e=>aT (f e) k):=
 PR (aK h1 h2) fun De σ H ⟨g,env,os,r,m⟩=>⟨g,env,os,r,(show Good E g.H₀ ((f env).bind _) _ from m).bind.mono fun o _ q=>by
  cases o with
  |nx e'=>exact fun σ' H' gu r' z=>⟨g,e',gu,r',Good.mono (show Good E g.H₀ (k e') _ from q) fun o _ q=>gk.step z q⟩
  |bk e'=>exact q
  |ct e'=>exact q
  |rt d=>exact q
  |pX xs=>exact q
  |IQ xs=>exact q
  |Ht xs=>exact q
  |IP xs=>exact q
  |BQ xs=>exact q⟩
theorem aW{st:Stmt}{f:DE->R Out}(h1:PS X st (tS X.K E f)):rB X [st] (tS X.K E f):=b9 h1
theorem WL{e:Expr}{f:DE->R D}(he:PE X e (tB X.K E f))(hs:swapsWith e none pos.line X.env=pure false:=by rfl):PS X (.Expr e pos) (tS X.K E fun env=>(f env).bind fun _=>.ok (.nx env)):=
 lJ (fX he hs) fun De σ H ⟨g,env,os,r,m⟩=>⟨g,env,os,r,m.bind.mono fun d _ q v H' s i=>q σ H' os (r.same s) (.same s os)⟩
theorem WM{g:Gh}{os:List Addr}{K:'b'}{H:Hp}{d:D}{v:V}(h:Is K (g.P os) H d v):Is K (g.P []) H d v:=Is.ext ⟨fun _ _ p _=>⟨p.1,by simp⟩,fun _ _ _ q=>q⟩ _ _ h
theorem cZ{e:Expr}{f:DE->R D}(he:PE X e (tD X.K E f)):PS X (.Return (some e) pos) (tS X.K E fun env=>(f env).bind fun d=>.ok (.rt d)):=
 lJ (mz he) fun De σ H ⟨g,env,os,r,m⟩=>⟨g,env,os,r,m.bind.mono fun d _ q v H' s i=>q v H' (r.ext.trans s) (WM i)⟩
theorem ng{e:Expr}{f:DE->R (List D)}(he:PE X e (tF X.K E f)):PS X (.Return (some e) pos) (tS X.K E fun env=>(f env).bind fun d=>.ok (.pX d)):=
 lJ (mz he) fun De σ H ⟨g,env,os,r,m⟩=>⟨g,env,os,r,m.bind.mono fun xs _ q a vs H' s hn hH i=>
  q a vs H' (r.ext.trans s) (r.ext.free hn) hH (IsL.ext ⟨fun b o p _=>⟨p.1,fun z=>p.2 (by simp at z;simp[z])⟩,fun _ _ _ q=>q⟩ _ _ i)⟩
def ownAt(i:Nat)(env:DE):R (List D):=match env[i]? with
 |some (.own xs)=>.ok xs
 |_=>.bad
theorem Good.own {H₀:Hp}{i:Nat}{env:DE}{p:List D->Prop}(h:Good E H₀ (ownAt i env) p):∃xs,env[i]?=some (.own xs)/\p xs:=by
 unfold ownAt at h
 split at h
 ·rename_i xs e
  exact⟨xs,e,h⟩
 ·exact h.elim
theorem Ft(i:Nat){x:Str}{p:Pos}(hN:X.N[i]?=some x:=by rfl)(hv:yT X.env.scope x:=by first|exact Or.inl rfl|exact Or.inr (Or.inl rfl)|exact Or.inr (Or.inr rfl))(hd:(x==("__debug__":Str))=false:=by decide)
  (hcd:(x==("__classdict__":Str))=false:=by decide):PS X (.Return (some (.Name x p)) pos) (tS X.K E fun env=>(ownAt i env).bind fun xs=>.ok (.pX xs)):=
 lJ (mz (gM hN hv hd hcd)) fun De σ H ⟨g,env,os,r,m⟩=>by
  obtain⟨xs,e,q⟩:=m.bind.own
  obtain⟨a,vs,h1,h2,h3,h4⟩:=r.own i xs e
  exact⟨.ref a,h1,q a vs H r.ext (r.new a h2).1 h3 (IsL.ext ⟨fun b o p _=>⟨p.1,fun z=>p.2 (by simp at z;rw[z];exact h2)⟩,fun _ _ _ q=>q⟩ _ _ h4)⟩
theorem p7{c:Expr}{a b:List Stmt}{fc:DE->R Bool}{fa fb:DE->R Out}(hc:PT X c (tT X.K E fc))(ha:rB X a (tS X.K E fa))(hb:rB X b (tS X.K E fb)):PS X (.If c a b pos) (tS X.K E fun env=>(fc env).bind fun t=>if t=true then fa env else fb env):=
 lJ (vI hc ha hb) fun De σ H ⟨g,env,os,r,m⟩=>⟨g,env,os,r,m.bind.mono fun t _ q H' s=>by
  cases t with
  |true=>
   rw[if_pos rfl]
   exact⟨g,env,os,r.same s,Good.mono (show Good E g.H₀ (fa env) _ from q) fun o _ q2=>gk.step (.same s os) q2⟩
  |false=>
   rw[if_neg Bool.false_ne_true]
   exact⟨g,env,os,r.same s,Good.mono (show Good E g.H₀ (fb env) _ from q) fun o _ q2=>gk.step (.same s os) q2⟩⟩
theorem gq(i:Nat){x:Str}{e:Expr}{f:DE->R D}{pos':Pos}(he:PE X e (tD X.K E f))(hN:X.N.Nodup)(hi:X.N[i]?=some x:=by rfl)(hx:Loc X.env.scope x:=by first|exact Or.inl rfl|exact Or.inr rfl)(hs:swapsWith e (some (.Name x pos')) pos.line X.env=pure false:=by rfl)
  (hf:X.fn x=true\/X.env.scope.names.lookup x=some .local:=by first|exact .inl rfl|exact .inr rfl|assumption):PS X (.Assign [.Name x pos'] e pos) (tS X.K E fun env=>(f env).bind fun d=>.ok (.nx (env.set i (.val d)))):=
 lJ (dC hN hi hx he hs hf) fun De σ H ⟨g,env,os,r,m⟩=>⟨g,env,os,r,m.bind.mono fun d _ q v H' s h=>q _ H' os ((r.same s).set i h) (.same s os)⟩
theorem rD.new {H H':Hp}{os:List Addr}{a:Addr}(s:aN H H')(hn:H a=none):rD H os H' (a::os):=
 ⟨fun b hb=>(mem_cons.mp hb).elim (fun z=>.inr (by rw[z];exact hn)) .inl,fun _ h=>s.free h,fun _ _ _ h=>s _ _ h⟩
theorem vM(i:Nat){x:Str}{e:Expr}{f:DE->R (List D)}{pos':Pos}(he:PE X e (tF X.K E f))(hN:X.N.Nodup)(hi:X.N[i]?=some x:=by rfl)(hx:Loc X.env.scope x:=by first|exact Or.inl rfl|exact Or.inr rfl)(hs:swapsWith e (some (.Name x pos')) pos.line X.env=pure false:=by rfl)
  (hf:X.fn x=true\/X.env.scope.names.lookup x=some .local:=by first|exact .inl rfl|exact .inr rfl|assumption):PS X (.Assign [.Name x pos'] e pos) (tS X.K E fun env=>(f env).bind fun d=>.ok (.nx (env.set i (.own d)))):=
 lJ (dC hN hi hx he hs hf) fun De σ H ⟨g,env,os,r,m⟩=>⟨g,env,os,r,m.bind.mono fun d _ q a vs H' s hn hH h=>q _ H' (a::os) (r.Sx s i hn hH h) (.new s hn)⟩
theorem rD.mut {H:Hp}{os:List Addr}{a:Addr}{o:HO}(ha:a∈os):rD H os (upd H a o) os:=
 ⟨fun b hb=>.inl hb,fun b h=>by
  by_cases z:b=a
  ·subst z;rw[ak]at h;cases h
  ·rw[aj z]at h;exact h,fun b u hb h=>by rw[aj (fun z=>hb (by rw[z];exact ha))];exact h⟩
def nW(i:Nat)(env:DE):DE:=match env[i]? with
 |some (.own xs)=>env.set i (.val (.lst xs))
 |_=>env
theorem SG(i:Nat){st:Stmt}{f:DE->R Out}(h:PS X st (tS X.K E f)):PS X st (tS X.K E fun env=>f (nW i env)):=lJ h fun De σ H ⟨g,env,os,r,m⟩=>by
 dsimp only [nW]at m
 split at m
 ·rename_i xs e
  obtain⟨gu,r',hs⟩:∃gu,Rel X.K g (env.set i (.val (.lst xs))) σ H gu/\∀a∈gu,a∈os:=r.Fg e
  exact⟨g,_,gu,r',m.mono fun o _ q=>gk.step ⟨fun a ha=>.inl (hs a ha),fun _ h=>h,fun _ _ _ h=>h⟩ q⟩
 ·exact⟨g,env,os,r,m⟩
theorem aaQ(i:Nat){x:Str}{e:Expr}{f:DE->R D}{p apos bg:Pos}(he:PE X e (tD X.K E f))(hN:X.N[i]?=some x:=by rfl)(hv:yT X.env.scope x:=by first|exact Or.inl rfl|exact Or.inr (Or.inl rfl)|exact Or.inr (Or.inr rfl))(hd:(x==("__debug__":Str))=false:=by decide)
  (hcd:(x==("__classdict__":Str))=false:=by decide)
  (hbase:attributeBase (.Name x p) "append" X.env (eval (.Name x p) X.env)=eval (.Name x p) X.env:=by rfl)
  (hfew:((backTo bg (starEach [e] X.env)).all (fun x=> !x.1)&&(backToKw bg (keywordEach [] X.env)).all (fun x=>x.1.isSome)
   &&decide ([e].length+([]:List Keyword).length+(if([]:List Keyword).isEmpty then 0 else 1)<30))=true:=by rfl)
  (hline:(apos.endLine==bg.line)=true:=by rfl)(hst:starEach [e] X.env=(false,eval e X.env)::starEach [] X.env:=by rfl)(hplain:(backTo bg (starEach [] X.env)).any (·.1)=false:=by rfl)
  (hs:swapsWith (.Call (.Attribute (.Name x p) "append" apos) [e] [] bg) none pos.line X.env=pure false:=by rfl):
  PS X (.Expr (.Call (.Attribute (.Name x p) "append" apos) [e] [] bg) pos) (tS X.K E fun env=>(ownAt i env).bind fun xs=>(f env).bind fun d=> @ite _ (xs.length<sizeLine) (propDecidable _) (.ok (.nx (env.set i (.own (xs++[d]))))) (.bad)):=
 lJ (fX (sQ plainAttrs_list PySem.F.slot_list_append PySem.F.type_list_append fY (gM hN hv hd hcd) (ao he aL hst) hbase hfew hline hst hplain) hs) fun De σ H ⟨g,env,os,r,m⟩=>by
  obtain⟨xs,e,m1⟩:=m.bind.own
  obtain⟨a,vs,h1,h2,h3,h4⟩:=r.own i xs e
  refine⟨.ref a,h1,.inl ⟨rfl,vs,cV.of h3⟩,g,env,os,r,m1.bind.mono fun d _ q v H' s hi=>?_⟩
  split at q
  ·rename_i c
   refine⟨a,vs,v,rfl,rfl,s _ _ h3,by rw[h4.length];exact c,?_⟩
   exact q σ _ os ((r.same s).mut e h1 h2 ((h4.same s).app (.one hi))) ((rD.same s os).trans (.mut h2))
  ·exact q.elim
theorem aaR(i:Nat){x:Str}{p apos bg:Pos}(hN:X.N[i]?=some x:=by rfl)(hv:yT X.env.scope x:=by first|exact Or.inl rfl|exact Or.inr (Or.inl rfl)|exact Or.inr (Or.inr rfl))(hd:(x==("__debug__":Str))=false:=by decide)
  (hcd:(x==("__classdict__":Str))=false:=by decide)
  (hbase:attributeBase (.Name x p) "pop" X.env (eval (.Name x p) X.env)=eval (.Name x p) X.env:=by rfl)(hline:(apos.endLine==bg.line)=true:=by rfl)
  (hs:swapsWith (.Call (.Attribute (.Name x p) "pop" apos) [] [] bg) none pos.line X.env=pure false:=by rfl):
  PS X (.Expr (.Call (.Attribute (.Name x p) "pop" apos) [] [] bg) pos) (tS X.K E fun env=>(ownAt i env).bind fun xs=>if 0<xs.length then .ok (.nx (env.set i (.own xs.dropLast)))else .bad):=
 lJ (fX (AB plainAttrs_list slot_list_pop type_list_pop JD (gM hN hv hd hcd) hbase hline) hs) fun De σ H ⟨g,env,os,r,m⟩=>by
  obtain⟨xs,e,m1⟩:=m.bind.own
  obtain⟨a,vs,h1,h2,h3,h4⟩:=r.own i xs e
  split at m1
  ·rename_i c
   have hl:=h4.length
   refine⟨.ref a,h1,.inl ⟨rfl,vs,cV.of h3⟩,a,vs,vs[vs.length-1],rfl,rfl,h3,by rw[getElem?_eq_getElem 'a'],?_⟩
   refine m1 σ _ os (r.mut e h1 h2 ?_) (.mut h2)
   rw[dropLast_eq_take,dropLast_eq_take,hl]
   exact h4.take _
  ·exact m1.elim
theorem SH(i:Nat){x:Str}{ek e:Expr}{fk f:DE->R D}{p tp:Pos}(hk:PE X ek (tB X.K E fk))(he:PE X e (tD X.K E f))(hN:X.N[i]?=some x:=by rfl)(hv:yT X.env.scope x:=by first|exact Or.inl rfl|exact Or.inr (Or.inl rfl)|exact Or.inr (Or.inr rfl))(hd:(x==("__debug__":Str))=false:=by decide)
  (hcd:(x==("__classdict__":Str))=false:=by decide)
  (ha:∀v,assign (.Subscript (.Name x p) ek tp) X.env v=(do
   let ov<-holding [v] (eval (.Name x p) X.env)
   let iv<-holding [v,ov] (eval ek X.env)
   standAt tp
   holding [v,ov,iv] (setItem ov iv v)
   release [v,ov,iv] []):=by intro _;rfl)
  (hs:swapsWithSole [.Subscript (.Name x p) ek tp] e pos.line X.env=pure false:=by rfl)(hw:swappedStores [.Subscript (.Name x p) ek tp] e X.env=pure none:=by rfl)
  (h1:(assignEach [.Subscript (.Name x p) ek tp] X.env).map (·.2)=[assign (.Subscript (.Name x p) ek tp) X.env]:=by rfl):
  PS X (.Assign [.Subscript (.Name x p) ek tp] e pos) (tS X.K E fun env=>(f env).bind fun d=>(ownAt i env).bind fun xs=>(fk env).bind fun kd=>match kd with
   |.int j=>(match pV xs.length j with
    |some n=>.ok (.nx (env.set i (.own (xs.set n d))))
    |none=>.bad)
   |_=>.bad):=
 lJ (Ar he (xu (gM hN hv hd hcd) hk set_list ha) hs hw h1) fun De σ H ⟨g,env,os,r,m⟩=>⟨g,env,os,r,m.bind.mono fun d _ m1 v H1 s1 i1=>by
  obtain⟨xs,e,m2⟩:=m1.bind.own
  obtain⟨a,vs,h1,h2,h3,h4⟩:=(r.same s1).own i xs e
  refine⟨.ref a,h1,g,env,os,r.same s1,m2.bind.mono fun kd _ m3 w H2 s2 i2=>?_⟩
  cases kd with
  |int j=>
   cases q:pV xs.length j with
   |none=>
    simp only [q]at m3
    exact m3.elim
   |some n=>
    simp only [q]at m3
    refine⟨a,vs,j,n,rfl,i2,s2 _ _ h3,by rw[h4.length];exact q,?_⟩
    exact m3 σ _ os ((r.same (s1.trans s2)).mut e h1 h2 ((h4.same s2).set n (i1.same s2))) ((rD.same (s1.trans s2) os).trans (.mut h2))
  |non=>exact m3.elim
  |bl _=>exact m3.elim
  |lst _=>exact m3.elim
  |str _=>exact m3.elim
  |exc _=>exact m3.elim
  |fn _=>exact m3.elim
  |tup _=>exact m3.elim⟩
theorem aaS(i:Nat){x:Str}{e:Expr}{op:Operator}{h:Int->Int->Int}{f:DE->R D}{pos':Pos}(ho:Vv X op (V7 h))(he:PE X e (tB X.K E f))(hN:X.N.Nodup)(hi:X.N[i]?=some x:=by rfl)(hx:Loc X.env.scope x:=by first|exact Or.inl rfl|exact Or.inr rfl)
  (hf:X.fn x=true\/X.env.scope.names.lookup x=some .local:=by first|exact .inl rfl|exact .inr rfl|assumption):
  PS X (.AugAssign (.Name x pos') op e pos) (tS X.K E fun env=>(bM i env).bind fun a=>(f env).bind fun b=>match a,b with
   |.int u,.int w=>.ok (.nx (env.set i (.val (.int (h u w)))))
   |_,_=>.bad):=
 lJ (Dz hN hi hx he ho hf) fun De σ H ⟨g,env,os,r,m⟩=>by
  dsimp only [bM]at m
  cases q:env[i]? with
  |none=>rw[q]at m;exact m.elim
  |some sl=>
   cases sl with
   |no=>rw[q]at m;exact m.elim
   |raw _=>rw[q]at m;exact m.elim
   |deep _=>rw[q]at m;exact m.elim
   |own _=>rw[q]at m;exact m.elim
   |val a=>
    rw[q]at m
    obtain⟨v,h1,h2⟩:=r.val i a q
    have m':Good E g.H₀ ((f env).bind _) _:=m
    refine⟨v,h1,g,env,os,r,m'.bind.mono fun b _ m2 w H' s i2=>?_⟩
    cases a with
    |int u=>
     cases b with
     |int w'=>exact⟨u,w',h2,i2,m2 _ H' os ((r.same s).set i rfl) (.same s os)⟩
     |non=>exact m2.elim
     |bl _=>exact m2.elim
     |lst _=>exact m2.elim
     |str _=>exact m2.elim
     |exc _=>exact m2.elim
     |fn _=>exact m2.elim
     |tup _=>exact m2.elim
    |non=>exact m2.elim
    |bl _=>exact m2.elim
    |lst _=>exact m2.elim
    |str _=>exact m2.elim
    |exc _=>exact m2.elim
    |fn _=>exact m2.elim
    |tup _=>exact m2.elim
def Yl(K:'b')(P:Addr->Prop)(J:It)(H:Hp)(xs:List D):Prop:=
 ∀(i:Nat)(H':Hp)(P':Addr->Prop),Ext P P' H H'->(∀d,xs[i]?=some d->J.go i H'/\∀x SJ,J.V8 i H' x SJ->aN H' SJ/\Is K (fun a=>P' a\/H' a=none) SJ d x)/\(xs.length=i->J.stop i H')
def tI(K:'b')(E:Str->Hp->Prop)(f:DE->R (List D)):TI:=fun σ H Rr=>∃g env os,Rel K g env σ H os/\Good E g.H₀ (f env) fun xs=>∀J H1,aN H H1->Yl K (g.P os) J H1 xs->Rr J H1
theorem JO{tg e:Expr}{t t':TI}(h:PI X tg e t)(w:∀σ H Q,t' σ H Q->t σ H Q):PI X tg e t':=fun pins s σ H Q I q=>h pins s σ H Q I (w σ H Q q)
def Yls(K:'b')(P:Addr->Prop)(J:It)(H:Hp)(xs:List D):Prop:=
 ∀(i:Nat)(H':Hp)(P':Addr->Prop),aN H H'->Ext P P' H H'->(∀d,xs[i]?=some d->J.go i H'/\∀x SJ,J.V8 i H' x SJ->aN H' SJ/\Is K (fun a=>P' a\/H' a=none) SJ d x)/\(xs.length=i->J.stop i H')
def WN(K:'b')(E:Str->Hp->Prop)(f:DE->R (List D)):TI:=fun σ H Rr=>∃g env os,Rel K g env σ H os/\Good E g.H₀ (f env) fun xs=>∀J H1,aN H H1->Yls K (g.P os) J H1 xs->Rr J H1
theorem xH{tg e:Expr}{f:DE->R (List D)}(h:PI X tg e (tI X.K E f)):PI X tg e (WN X.K E f):=JO h fun σ H Q ⟨g,env,os,r,m⟩=>⟨g,env,os,r,m.mono fun xs _ q J H1 s1 yl=>q J H1 s1 fun i H' P' _ ex=>yl i H' P' ex⟩
theorem iLS{tg e:Expr}{f:DE->R (List D)}(he:PE X e (tL X.K E f)):PI X tg e (WN X.K E f):=
 JO (wM he) fun σ H Q ⟨g,env,os,r,m⟩=>⟨g,env,os,r,m.mono fun xs _ q a vs H' s h1 h2=>by
  refine⟨a,rfl,⟨vs,h1⟩,q _ H' s fun j H2 P' ss ex=>⟨fun d hd=>?_,fun hj=>?_⟩⟩
  ·obtain⟨x,hx,hi⟩:=(IsL.ext ex _ _ h2).get hd
   refine⟨⟨vs,x,ss.seq h1,hx⟩,fun y H3 hy=>?_⟩
   obtain⟨rfl,hy⟩:=hy
   have e2:=hy vs (ss.seq h1)
   rw[hx]at e2
   cases e2
   exact⟨aN.refl _,Is.ext ⟨fun _ _ p _=>.inl p,fun _ _ _ z=>z⟩ _ _ hi⟩
  ·exact⟨vs,ss.seq h1,by rw[IsL.length h2];exact le_of_eq hj⟩⟩
theorem iL{tg e:Expr}{f:DE->R D}(he:PE X e (tD X.K E f)):PI X tg e (tI X.K E fun env=>(f env).bind vL):=
 JO (wM he) fun σ H Q ⟨g,env,os,r,m⟩=>⟨g,env,os,r,m.bind.mono fun d _ q v H' s i=>by
  cases d with
  |lst xs=>
   obtain⟨a,vs,rfl,h1,h2⟩:=i
   refine⟨a,rfl,⟨vs,h1.sq⟩,q _ H' s fun j H2 P' ex=>⟨fun d hd=>?_,fun hj=>?_⟩⟩
   ·obtain⟨x,hx,hi⟩:=(IsL.ext ex _ _ h2).get hd
    refine⟨⟨vs,x,(h1.ext ex).sq,hx⟩,fun y H3 hy=>?_⟩
    obtain⟨rfl,hy⟩:=hy
    have e2:=hy vs (h1.ext ex).sq
    rw[hx]at e2
    cases e2
    exact⟨aN.refl _,Is.ext ⟨fun _ _ p _=>.inl p,fun _ _ _ z=>z⟩ _ _ hi⟩
   ·exact⟨vs,(h1.ext ex).sq,by rw[IsL.length h2];exact le_of_eq hj⟩
  |non=>exact q.elim
  |bl _=>exact q.elim
  |int _=>exact q.elim
  |str _=>exact q.elim
  |exc _=>exact q.elim
  |fn _=>exact q.elim
  |tup _=>exact q.elim⟩
def je(lo:Int)(n:Nat):List D:=(range n).map fun i=>.int (lo+(i:Nat))
def JP:List D->R (List D)
 |[.int j]=> @ite _ (-(2^62)<=j/\j<2^62) (propDecidable _) (.ok (je 0 j.toNat)) (.bad)
 |_=>.bad
def BU:List D->R (List D)
 |[.int i,.int j]=> @ite _ (-(2^62)<=i/\i<2^62/\ -(2^62)<=j/\j<2^62) (propDecidable _) (.ok (je i (j-i).toNat)) (.bad)
 |_=>.bad
theorem JQ{K:'b'}{P:Addr->Prop}{H:Hp}(lo:Int)(n:Nat):Yl K P (V9 lo n) H (je lo n):=fun i H' P' ex=>⟨fun d hd=>by
 unfold je at hd
 rw[getElem?_map]at hd
 have hi:i<n:=by
  cases q:(range n)[i]? with
  |none=>rw[q]at hd;cases hd
  |some j=>simpa using(List.getElem?_eq_some_iff.mp q).1
 rw[List.getElem?_range hi]at hd
 cases hd
 refine⟨hi,fun x H2 hy=>?_⟩
 obtain⟨rfl,rfl⟩:=hy
 exact⟨aN.refl _,rfl⟩,fun h=>by
 unfold je at h
 exact le_of_eq (by simpa using h)⟩
theorem iR1{tg a:Expr}{p:Pos}{f:DE->R (List D)}(hm:X.mg "range"=none)(ha:PA X [a] (rC X.K E f))(hg:Gl X "range":=by rfl)(hs:starEach [a] X.env=[(false,eval a X.env)]:=by rfl):
  PI X tg (.Call (.Name "range" p) [a] [] pos) (tI X.K E fun env=>(f env).bind JP):=
 JO (Hb hg hm ha hs) fun σ H Q ⟨g,env,os,r,m⟩=>⟨g,env,os,r,m.bind.mono fun ds _ q vs H' s i=>by
  unfold JP at q
  split at q
  ·rename_i j _
   split at q
   ·rename_i c
    obtain⟨v,rfl,h1⟩:=IsL.y7 i
    have h':v=.int j:=h1
    subst h'
    exact⟨j,rfl,c.1,c.2,q _ H' s (JQ 0 _)⟩
   ·exact q.elim
  ·exact q.elim⟩
theorem Zn{tg a b:Expr}{p:Pos}{f:DE->R (List D)}(hm:X.mg "range"=none)(ha:PA X [a,b] (rC X.K E f))(hg:Gl X "range":=by rfl)(hs:starEach [a,b] X.env=[(false,eval a X.env),(false,eval b X.env)]:=by rfl)(hs2:starEach [b] X.env=[(false,eval b X.env)]:=by rfl):
  PI X tg (.Call (.Name "range" p) [a,b] [] pos) (tI X.K E fun env=>(f env).bind BU):=
 JO (Hc hg hm ha hs hs2) fun σ H Q ⟨g,env,os,r,m⟩=>⟨g,env,os,r,m.bind.mono fun ds _ q vs H' s i=>by
  unfold BU at q
  split at q
  ·rename_i u j _
   split at q
   ·rename_i c
    obtain⟨v,w,rfl,h1,h2⟩:=IsL.NW i
    have h':v=.int u:=h1
    have h2':w=.int j:=h2
    subst h' h2'
    exact⟨u,j,rfl,c,q _ H' s (JQ u _)⟩
   ·exact q.elim
  ·exact q.elim⟩
def tG(K:'b')(E:Str->Hp->Prop)(b:D->DE->R DE):TG:=fun v σ H Q=>∃g env os d,Rel K g env σ H os/\Is K (g.P os) H d v/\Good E g.H₀ (b d env) fun e'=>∀σ',Rel K g e' σ' H os->Q σ' H
def PU(K:'b')(E:Str->Hp->Prop)(b:List D->DE->R DE):Np:=fun vs σ H Q=>∃g env os ds,Rel K g env σ H os/\IsL K (g.P os) H ds vs/\Good E g.H₀ (b ds env) fun e'=>∀σ',Rel K g e' σ' H os->Q σ' H
theorem WO{e:Expr}{t t':TG}(h:PG X e t)(w:∀v σ H Q,t' v σ H Q->t v σ H Q):PG X e t':=fun pins s σ H v u Q I r q=>h pins s σ H v u Q I r (w v σ H Q q)
theorem PV{e:List Expr}{t t':Np}(h:EZ X e t)(w:∀v σ H Q,t' v σ H Q->t v σ H Q):EZ X e t':=fun pins s σ H v u Q I r q=>h pins s σ H v u Q I r (w v σ H Q q)
theorem gN(i:Nat){x:Str}(hN:X.N.Nodup)(hi:X.N[i]?=some x:=by rfl)(hx:Loc X.env.scope x:=by first|exact Or.inl rfl|exact Or.inr rfl)(hf:X.fn x=true\/X.env.scope.names.lookup x=some .local:=by first|exact .inl rfl|exact .inr rfl|assumption):
  PG X (.Name x pos) (tG X.K E fun d env=>.ok (env.set i (.val d))):=WO (wL hN hi hx hf) fun v σ H Q ⟨g,env,os,d,r,h,m⟩=>m _ (r.set i h)
theorem WQ:EZ X [] (PU X.K E fun ds env=>match ds with
  |[]=>.ok env
  |_=>.bad):=PV E3 fun vs σ H Q ⟨g,env,os,ds,r,h,m⟩=>by
 cases ds with
 |nil=>exact⟨h,m σ r⟩
 |cons _ _=>exact m.elim
theorem SK{e:Expr}{es:List Expr}{b:D->DE->R DE}{k:List D->DE->R DE}(h1:PG X e (tG X.K E b))(h2:EZ X es (PU X.K E k))(hs:(assignEach (e::es) X.env).map (·.2)=assign e X.env::(assignEach es X.env).map (·.2):=by rfl):
  EZ X (e::es) (PU X.K E fun ds env=>match ds with
   |d::r=>(b d env).bind fun e'=>k r e'
   |_=>.bad):=PV (xt h1 h2 hs) fun vs σ H Q ⟨g,env,os,ds,r,h,m⟩=>by
 cases ds with
 |nil=>exact m.elim
 |cons d rest=>
  obtain⟨v,vr,rfl,p,q⟩:=h
  have m':Good E g.H₀ ((b d env).bind fun e'=>k rest e') _:=m
  exact⟨v,vr,rfl,g,env,os,d,r,p,m'.bind.mono fun e' _ m2 σ' r'=>⟨g,e',os,rest,r',q,m2⟩⟩
theorem gT{es:List Expr}{kk:Nat}{b:List D->DE->R DE}{n:Nat}(hc:X.calm=true)(h:EZ X es (PU X.K E b))(hn:(assignEach es X.env).length=n:=by rfl)(hst:(assignEach es X.env).findIdx? (·.1)=none:=by rfl):
  PG X (.Tuple es kk pos) (tG X.K E fun d env=>match d with
   |.tup ds=>if ds.length=n then b ds env else .bad
   |_=>.bad):=WO (Jg hc h hn hst) fun v σ H Q ⟨g,env,os,d,r,h,m⟩=>by
 cases d with
 |tup ds=>
  obtain⟨a,vs,rfl,h1,h2⟩:=h
  have m':Good E g.H₀ (if ds.length=n then b ds env else .bad) _:=m
  split at m'
  ·rename_i c
   exact⟨a,vs,rfl,h1.sq,by rw[IsL.length h2];exact c,g,env,os,ds,r,h2,m'⟩
  ·exact m'.elim
 |non=>exact m.elim
 |bl _=>exact m.elim
 |int _=>exact m.elim
 |str _=>exact m.elim
 |lst _=>exact m.elim
 |exc _=>exact m.elim
 |fn _=>exact m.elim
theorem uH{tg iter:Expr}{body:List Stmt}{f:DE->R (List D)}{b:D->DE->R DE}{k:DE->R Out}(hp:PassesOwn (model X.prog X.w) X.A X.env X.xe)(hc:X.calm=true)(hi:PI X tg iter (tI X.K E f))(hg:PG X tg (tG X.K E b))(hb:rB X body (tS X.K E k))
  (hs:∀x,foldedSetIterable iter X.env x=pure x:=by intro _;rfl):PS X (.For tg iter body [] pos) (tS X.K E fun env=>(f env).bind fun xs=>cW (fun d e=>(b d e).bind k) xs env):=
 lJ (Jk hp hc hi hg hb hs) fun De σ H ⟨g,env,os,r,m⟩=>⟨g,env,os,r,m.bind.mono fun xs _ m1 J H1 s1 yl=>by
  refine⟨fun i n σ' H'=>n=xs.length-i/\i<=xs.length/\∃y6 gu,Rel X.K g y6 σ' H' gu/\rD H1 os H' gu/\Good E g.H₀ (cW (fun d e=>(b d e).bind k) (xs.drop i) y6) (gk X.K g H' gu De),
   ⟨xs.length,by simp,zero_le _,env,os,r.same s1,.refl _ _,by rw[drop_zero];exact m1.mono fun o _ q=>gk.step (.same s1 os) q⟩,?_⟩
  rintro i n σ' H' ⟨rfl,hi,y6,gu,r',st,m2⟩
  obtain⟨y1,y2⟩:=yl i H' (g.P gu) st.ext
  by_cases hlt:i<xs.length
  ·have hx:xs[i]?=some xs[i]:=getElem?_eq_getElem hlt
   obtain⟨go,y3⟩:=y1 _ hx
   rw[List.drop_eq_getElem_cons hlt]at m2
   refine .inr ⟨go,fun σ2 H2=>∃WR PQ,Rel X.K g WR σ2 H2 PQ/\rD H1 os H2 PQ/\Good E g.H₀ (cW (fun d e=>(b d e).bind k) (xs.drop (i+1)) WR) (gk X.K g H2 PQ De),fun σ2 H2 ⟨e2,o2,r2,t2,g2⟩=>⟨xs.length-(i+1),by omega,rfl,hlt,e2,o2,r2,t2,g2⟩,fun x H2 hy=>?_⟩
   obtain⟨s2,WS⟩:=y3 x H2 hy
   have r2:=r'.same s2
   have ix:Is X.K (g.P gu) H2 xs[i] x:=Is.ext ⟨fun a o p _=>p.elim (fun z=>z) fun z=>r'.fresh z,fun _ _ _ z=>z⟩ _ _ WS
   have m3:Good E g.H₀ (((b xs[i] y6).bind k).bind _) _:=m2
   refine⟨g,y6,gu,xs[i],r2,ix,m3.bind.bind.mono fun e3 _ m4 σ3 r3=>⟨g,e3,gu,r3,Good.mono m4 fun o _ q=>?_⟩⟩
   have Dh:=st.trans (rD.same s2 gu)
   cases o with
   |nx e4=>exact fun σ4 H4 WT r4 z=>⟨e4,WT,r4,Dh.trans z,Good.mono (show Good E g.H₀ (cW _ _ e4) _ from q) fun o _ q=>gk.step ((rD.same s2 gu).trans z) q⟩
   |ct e4=>exact fun σ4 H4 WT r4 z=>⟨e4,WT,r4,Dh.trans z,Good.mono (show Good E g.H₀ (cW _ _ e4) _ from q) fun o _ q=>gk.step ((rD.same s2 gu).trans z) q⟩
   |bk e4=>exact fun σ4 H4 WT r4 z=>(show gk X.K g H' gu De (.nx e4)from q) σ4 H4 WT r4 ((rD.same s2 gu).trans z)
   |rt d=>exact q
   |pX ys=>exact q
   |IQ ys=>exact q
   |Ht ys=>exact q
   |IP ys=>exact q
   |BQ ys=>exact q
  ·have e:i=xs.length:=by omega
   subst e
   rw[drop_length]at m2
   exact .inl ⟨y2 rfl,(show gk X.K g H' gu De (.nx y6)from m2) σ' H' gu r' (.refl _ _)⟩⟩
end
def aJ(n:Nat)(ds:List D):DE:=ds.map .val++replicate (n-ds.length) .no
theorem qQ{K:'b'}{N:List Str}{P:Addr->Prop}{H:Hp}{ds:List D}{vs:List V}(h:IsL K P H ds vs):Rel K ⟨P,H⟩ (aJ N.length ds) (L2.start N vs) H []:=by
 have hl:=h.length
 refine⟨by simp[aJ,L2.start,hl],aN.refl H,fun i d e=>?_,fun i xs e=>?_,fun i j xs ys a e=>?_,(fun a ha=>nomatch ha),fun i v e=>?_,DQ.none fun i v e=>?_⟩
 ·unfold aJ at e
  by_cases hi:i<ds.length
  ·rw[getElem?_append_left (by simpa using hi),getElem?_map,getElem?_eq_getElem hi]at e
   have e':Sl.val ds[i]=Sl.val d:=Option.some.inj e
   cases e'
   obtain⟨v,h1,h2⟩:=h.get (getElem?_eq_getElem hi)
   refine⟨v,?_,Is.ext ⟨fun a o p _=>⟨.inl p,by simp⟩,fun _ _ _ z=>z⟩ _ _ h2⟩
   unfold L2.start
   rw[getElem?_append_left (by simp;omega),getElem?_map,h1]<;>rfl
  ·rw[getElem?_append_right (by simp;omega)]at e
   have:=getElem?_replicate (n:=N.length-ds.length) (a:=Sl.no) (i:=i-(ds.map Sl.val).length)
   rw[this]at e
   split at e<;>cases e
 ·exfalso
  unfold aJ at e
  by_cases hi:i<ds.length
  ·rw[getElem?_append_left (by simpa using hi),getElem?_map,getElem?_eq_getElem hi]at e
   cases e
  ·rw[getElem?_append_right (by simp;omega)]at e
   have:=getElem?_replicate (n:=N.length-ds.length) (a:=Sl.no) (i:=i-(ds.map Sl.val).length)
   rw[this]at e
   split at e<;>cases e
 ·exfalso
  unfold aJ at e
  by_cases hi:i<ds.length
  ·rw[getElem?_append_left (by simpa using hi),getElem?_map,getElem?_eq_getElem hi]at e
   cases e
  ·rw[getElem?_append_right (by simp;omega)]at e
   have:=getElem?_replicate (n:=N.length-ds.length) (a:=Sl.no) (i:=i-(ds.map Sl.val).length)
   rw[this]at e
   split at e<;>cases e
 ·exfalso
  unfold aJ at e
  by_cases hi:i<ds.length
  ·rw[getElem?_append_left (by simpa using hi),getElem?_map,getElem?_eq_getElem hi]at e
   cases e
  ·rw[getElem?_append_right (by simp;omega)]at e
   have:=getElem?_replicate (n:=N.length-ds.length) (a:=Sl.no) (i:=i-(ds.map Sl.val).length)
   rw[this]at e
   split at e<;>cases e
 ·exfalso
  unfold aJ at e
  by_cases hi:i<ds.length
  ·rw[getElem?_append_left (by simpa using hi),getElem?_map,getElem?_eq_getElem hi]at e
   cases e
  ·rw[getElem?_append_right (by simp;omega)]at e
   have:=getElem?_replicate (n:=N.length-ds.length) (a:=Sl.no) (i:=i-(ds.map Sl.val).length)
   rw[this]at e
   split at e<;>cases e
def ah:Out->R D
 |.rt d=>.ok d
 |.pX xs=>.ok (.lst xs)
 |.nx _=>.ok .non
 |_=>.bad
def ai:Out->R (List D)
 |.pX xs=>.ok xs
 |_=>.bad
abbrev EN:Str->Hp->Prop:=fun _ _=>False
section
variable{P:Program}{w:World}{K:'b'}{mg:Str->Option Value}{base:Heap}
theorem Is.P0 {Q:Addr->Prop}{H H':Hp}{d:D}{v:V}(h:Is K ((⟨Q,H⟩:Gh).P []) H' d v):Is K (fun a=>Q a\/H a=none) H' d v:=Is.ext ⟨fun _ _ p _=>p.1,fun _ _ _ z=>z⟩ _ _ h
theorem aaT{x qual:Str}{st:Stmt}{f:Addr}{fd:FuncData}{N ps:List Str}{k:Nat}{xc:Str->Value}{m:List D->R D}{b:DE->R Out}(F:Bq K x qual st f fd)(S:aA N ps (ae st))
  (hm:∀ds d,m ds=.ok d->ds.length=ps.length/\(b (aJ N.length ds)).bind ah=.ok d)(hne:∀ds c,m ds≠.err c)
  (hb:∀(cdv:Value)(A:Around)(outer:List Env)(s:Shared)(H:Hp)(E:XK),aY k (A.deeper (envOfC qual (ae st) s.heap.objs.size f cdv))->rB (dD lI P w K mg base N qual (ae st) f cdv A outer s H E).G8 (bE st) (tS K EN b)):
  b8 P w K mg base lI (k+1) f fd ps (Fq K xc m):=by
 refine F.ok S (fun vs H Q E h=>?_) (fun cdv A outer s H vs Q E hr h=>?_)
 ·obtain⟨Pa,ds,i,h⟩:=h
  cases e:m ds with
  |ok d=>rw[i.length];exact(hm ds d e).1
  |err c=>exact(hne ds c e).elim
  |bad=>rw[e]at h;exact h.elim
 ·obtain⟨Pa,ds,i,h⟩:=h
  refine⟨_,hb cdv A outer s H E hr,⟨⟨Pa,H⟩,aJ N.length ds,[],qQ i,?_⟩⟩
  cases e:m ds with
  |err c=>exact(hne ds c e).elim
  |bad=>rw[e]at h;exact h.elim
  |ok d=>
   rw[e]at h
   obtain⟨_,q⟩:=hm ds d e
   cases eb:b (aJ N.length ds)with
   |bad=>rw[eb]at q;cases q
   |err c=>rw[eb]at q;cases q
   |ok o=>
    rw[eb]at q
    cases o with
    |rt d'=>
     cases q
     exact fun v H' s' i'=>h v H' s' i'.P0
    |pX xs=>
     cases q
     intro a Di H' s' hn hH i'
     exact h _ H' s' ⟨a,Di,rfl,.inl ⟨.inr hn,.inl hH⟩,IsL.ext ⟨fun b o p _=>p.1,fun _ _ _ z=>z⟩ _ _ i'⟩
    |nx e'=>
     cases q
     exact fun σ' H' gu r' _=>h _ H' r'.ext rfl
    |IQ _=>cases q
    |Ht _=>cases q
    |IP _=>cases q
    |BQ _=>cases q
    |bk _=>cases q
    |ct _=>cases q
theorem aaU{x qual:Str}{st:Stmt}{f:Addr}{fd:FuncData}{N ps:List Str}{k:Nat}{xc:Str->Value}{m:List D->R (List D)}{b:DE->R Out}(F:Bq K x qual st f fd)(S:aA N ps (ae st))
  (hm:∀ds d,m ds=.ok d->ds.length=ps.length/\(b (aJ N.length ds)).bind ai=.ok d)(hne:∀ds c,m ds≠.err c)
  (hb:∀(cdv:Value)(A:Around)(outer:List Env)(s:Shared)(H:Hp)(E:XK),aY k (A.deeper (envOfC qual (ae st) s.heap.objs.size f cdv))->rB (dD lI P w K mg base N qual (ae st) f cdv A outer s H E).G8 (bE st) (tS K EN b)):
  b8 P w K mg base lI (k+1) f fd ps (M4 K xc m):=by
 refine F.ok S (fun vs H Q E h=>?_) (fun cdv A outer s H vs Q E hr h=>?_)
 ·obtain⟨Pa,ds,i,h⟩:=h
  cases e:m ds with
  |ok d=>rw[i.length];exact(hm ds d e).1
  |err c=>exact(hne ds c e).elim
  |bad=>rw[e]at h;exact h.elim
 ·obtain⟨Pa,ds,i,h⟩:=h
  refine⟨_,hb cdv A outer s H E hr,⟨⟨Pa,H⟩,aJ N.length ds,[],qQ i,?_⟩⟩
  cases e:m ds with
  |err c=>exact(hne ds c e).elim
  |bad=>rw[e]at h;exact h.elim
  |ok d=>
   rw[e]at h
   obtain⟨_,q⟩:=hm ds d e
   cases eb:b (aJ N.length ds)with
   |bad=>rw[eb]at q;cases q
   |err c=>rw[eb]at q;cases q
   |ok o=>
    rw[eb]at q
    cases o with
    |rt d'=>cases q
    |pX xs=>
     cases q
     intro a Di H' s' hn hH i'
     exact h a Di H' s' hn hH (IsL.ext ⟨fun b o p _=>⟨p.1,fun z=>p.2 (by simp[z])⟩,fun _ _ _ z=>z⟩ _ _ i')
    |nx e'=>cases q
    |IQ _=>cases q
    |Ht _=>cases q
    |IP _=>cases q
    |BQ _=>cases q
    |bk _=>cases q
    |ct _=>cases q
end
def Bt(cells:List (Str×Addr)):List (Str×NameKind)->List (Str×Addr)->List (Str×Addr)
 |[],acc=>acc
 |(n,k)::r,acc=>if(k==NameKind.free)=true then Bt cells r ((n,(cells.lookup n).getD 0)::acc)else Bt cells r acc
theorem rN{scope:Scope}{env:Env}(h:∀y∈scope.names,y.2=.free->∃c,env.cells.lookup y.1=some c):closureFor scope env=pure (Bt env.cells scope.names []):=by
 have gen:∀(l:List (Str×NameKind))(acc:List (Str×Addr)),(∀y∈l,y.2=.free->∃c,env.cells.lookup y.1=some c)->
   (forIn l acc fun(x:Str×NameKind)(r:List (Str×Addr))=>(if(x.2==NameKind.free)=true then(do let a<-cellOf env x.1;pure (ForInStep.yield ((x.1,a)::r)))else pure (ForInStep.yield r):Sem (ForInStep (List (Str×Addr)))))=pure (Bt env.cells l acc):=by
  intro l
  induction l with
  |nil=>intro acc _;rfl
  |cons y r ih=>
   intro acc hy
   obtain⟨n,k⟩:=y
   rw[List.forIn_cons]
   have hr:∀y∈r,y.2=.free->∃c,env.cells.lookup y.1=some c:=fun y h=>hy y (mem_cons_of_mem _ h)
   by_cases hk:(k==NameKind.free)=true
   ·obtain⟨c,hc⟩:=hy (n,k) mem_cons_self (by simpa using hk)
    have Ja:env.cells.lookup n=some c:=hc
    simp only [hk,if_true,Bt,cellOf,Ja,getD_some]
    exact ih _ hr
   ·simp only [hk,Bt]
    exact ih _ hr
 show((forIn scope.names ([]:List (Str×Addr)) fun(x:Str×NameKind)(r:List (Str×Addr))=>(if(x.2==NameKind.free)=true then(do let a<-cellOf env x.1;pure (ForInStep.yield ((x.1,a)::r)))else pure (ForInStep.yield r):Sem (ForInStep (List (Str×Addr)))))>>=fun s=>pure s)=_
 rw[gen scope.names [] h]
 rfl
theorem si{cells:List (Str×Addr)}{x:Str}:∀(l:List (Str×NameKind))(acc:List (Str×Addr)),(∀y∈l,y.2=.free->∃c,cells.lookup y.1=some c)->(∀c,acc.lookup x=some c->cells.lookup x=some c)->
  ∀c,(Bt cells l acc).lookup x=some c->cells.lookup x=some c
 |[],acc,_,h,c,e=>h c e
 |(n,k)::r,acc,hy,h,c,e=>by
  unfold Bt at e
  have hr:∀y∈r,y.2=.free->∃c,cells.lookup y.1=some c:=fun y h=>hy y (mem_cons_of_mem _ h)
  split at e
  ·rename_i hk
   refine si r _ hr (fun c' e'=>?_) c e
   rw[lookup_cons]at e'
   obtain⟨c0,hc0⟩:=hy (n,k) mem_cons_self (by simpa using hk)
   have WU:cells.lookup n=some c0:=hc0
   cases hx:x==n with
   |true=>
    rw[hx]at e'
    have ex:x=n:=by simpa using hx
    rw[WU]at e'
    cases e'
    rw[ex];exact WU
   |false=>
    rw[hx]at e'
    exact h c' e'
  ·exact si r _ hr h c e
theorem wU{cells:List (Str×Addr)}{x:Str}:∀(l:List (Str×NameKind))(acc:List (Str×Addr)),((∃c,acc.lookup x=some c)\/(x,NameKind.free)∈l)->∃c,(Bt cells l acc).lookup x=some c
 |[],acc,h=>h.elim (fun z=>z) fun z=>nomatch z
 |(n,k)::r,acc,h=>by
  unfold Bt
  split
  ·rename_i hk
   refine wU r _ ?_
   by_cases hx:x=n
   ·exact .inl ⟨_,by rw[lookup_cons,beq_iff_eq.mpr hx]⟩
   ·rcases h with⟨c,h⟩|h
    ·refine .inl ⟨c,?_⟩
     rw[lookup_cons,beq_eq_false_iff_ne.mpr hx];exact h
    ·rcases mem_cons.mp h with z|z
     ·cases z;exact absurd rfl hx
     ·exact .inr z
  ·rename_i hk
   refine wU r _ ?_
   rcases h with h|h
   ·exact .inl h
   ·rcases mem_cons.mp h with z|z
    ·cases z;exact absurd (by simp) hk
    ·exact .inr z
def rF(X:Cx)(scope:Scope)(N:List Str)(s:Shared)(H:Hp)(fp:List Addr)(C:Addr)(pl:List (Addr×Obj)):Cx where
 prog:=X.prog
 w:=X.w
 K:=X.K
 mg:=X.mg
 base:=X.base
 A:=X.A
 N:=N
 s₀:=s
 H₀:=H
 env:=compEnvC scope (Bt X.env.cells scope.names []) C X.env
 outer:=X.stack
 stack:=X.stack
 ex:=fp
 fn:=fun _=>false
 calm:=X.calm
 pn:=pl
 xe:=fun _ _=>False
structure iD(X:Cx)(scope:Scope)(N:List Str)(nt:Nat)(caps:List Nat):Prop where
 kind:scope.kind=.function
 cell:∀y∈scope.names,y.2≠.cell
 names:∀y∈scope.names,y.2=.local->scope.names.lookup y.1=some .local
 free:∀y∈scope.names,y.2=.free->X.env.kindOf y.1=some .cell\/X.env.kindOf y.1=some .free
 len:N.length=nt+caps.length
 nd:N.Nodup
 caps:∀(j i:Nat),caps[j]?=some i->∃x,N[nt+j]?=some x/\X.N[i]?=some x/\scope.names.lookup x=some .free/\yT X.env.scope x
theorem gQ{scope:Scope}{env:Env}{x:Str}{k:NameKind}(h:(relabel scope env).names.lookup x=some k):∃k',scope.names.lookup x=some k'/\(k=k'\/(k'=.free/\k=.cell)):=by
 unfold relabel at h
 dsimp only at h
 generalize scope.names=l at h
 induction l with
 |nil=>cases h
 |cons y r ih=>
  obtain⟨n,kk⟩:=y
  rw[map_cons]at h
  by_cases hc:(kk==NameKind.free&&env.scope.kind==.function&&env.kindOf n==some .cell)=true
  ·simp only [hc,if_true]at h
   rw[lookup_cons]at h⊢
   cases hx:x==n with
   |true=>
    rw[hx]at h
    cases h
    simp only [and_eq_true]at hc
    exact⟨kk,rfl,.inr ⟨by simpa using hc.1.1,rfl⟩⟩
   |false=>
    rw[hx]at h
    exact ih h
  ·simp only [hc,false_eq_true,if_false]at h
   rw[lookup_cons]at h⊢
   cases hx:x==n with
   |true=>
    rw[hx]at h
    exact⟨kk,rfl,.inl (Option.some.inj h).symm⟩
   |false=>
    rw[hx]at h
    exact ih h
theorem mem_of_lookup{α:Type}{l:List (Str×α)}{x:Str}{k:α}(h:l.lookup x=some k):(x,k)∈l:=by
 induction l with
 |nil=>cases h
 |cons y r ih=>
  obtain⟨n,kk⟩:=y
  rw[lookup_cons]at h
  cases hx:x==n with
  |true=>
   rw[hx]at h
   cases h
   have ex:x=n:=by simpa using hx
   rw[ex];exact mem_cons_self
  |false=>
   rw[hx]at h
   exact mem_cons_of_mem _ (ih h)
section
variable{X:Cx}{scope:Scope}{N:List Str}{nt:Nat}{caps:List Nat}{pins:List (Addr×Obj)}{σ:St}{H:Hp}{s:Shared}
theorem iD.cells (S:iD X scope N nt caps)(I:Inv X pins σ H s):∀y∈scope.names,y.2=.free->∃c,X.env.cells.lookup y.1=some c:=fun y hy hf=>I.ok.has y.1 (S.free y hy hf)
theorem iD.lk (S:iD X scope N nt caps)(I:Inv X pins σ H s){x:Str}{c:Addr}(h:(Bt X.env.cells scope.names []).lookup x=some c):X.env.cells.lookup x=some c:=
 si scope.names [] (S.cells I) (fun c e=>by cases e) c h
theorem iD.start (S:iD X scope N nt caps)(I:Inv X pins σ H s){fp:List Addr}(hf:∀b∈fp,nZ X pins H b){C:Addr}{h':Heap}{m:Str->Option Value}{t':Nat}(hC:s.heap.objs.size<=C)(hn:h'.Ns C m)(k:∀b o,s.heap.get? b=some o->h'.get? b=some o)
  (hpin:∀b∈fp,∃o,s.heap.get? b=some o)
  {vs:List V}(hv:vs.length=caps.length)(hvs:∀(j i:Nat)(v:V),caps[j]?=some i->vs[j]?=some v->σ[i]?=some (some v))(σ':St)(hσ:σ'=replicate nt none++vs.map some):
  Inv (rF X scope N s H fp C (X.pn++pins)) [] σ' H {s with heap:=h',toks:=t'}:=by
 subst hσ
 have hH:∀b,s.heap.objs.size<=b->H b=none:=fun b hb=>I.hok.fresh hb
 have lk:=fun{x c}(h:(Bt X.env.cells scope.names []).lookup x=some c)=>S.lk I h
 have ok:(rF X scope N s H fp C (X.pn++pins)).Ok:={
  mod:=I.ok.mod
  kind:=S.kind
  glob:=I.ok.glob
  blt:=I.ok.blt
  above:=hC
  inj:=fun x y c h1 h2=>I.ok.inj x y c (lk h1) (lk h2)
  has:=fun x h=>by
   have h':(relabel scope X.env).names.lookup x=some .cell\/(relabel scope X.env).names.lookup x=some .free:=h
   have hfree:scope.names.lookup x=some .free:=by
    rcases h' with h'|h'
    ·obtain⟨k',e,q⟩:=gQ h'
     rcases q with rfl|⟨rfl,_⟩
     ·exact absurd rfl (S.cell _ (mem_of_lookup e))
     ·exact e
    ·obtain⟨k',e,q⟩:=gQ h'
     rcases q with rfl|⟨rfl,q⟩
     ·exact e
     ·exact e
   exact wU scope.names [] (.inr (mem_of_lookup hfree))
  PF:=fun x c h=>nomatch h
  hd:=I.ok.hd
  frames:=I.ok.frames
  RB:=.inl rfl
  RD:=fun b hb=>by
   obtain⟨o,e⟩:=hpin b hb
   exact⟨fun z=>absurd (lt_of_lt_of_le (Heap.lt_size e) (by rw[z];exact hC)) (Nat.lt_irrefl _),fun x c h=>(hf b hb).2.2.2.2.1 x c (lk h)⟩
  bs:=I.bs
  IL:=le_trans I.ok.IL I.sz
  BE:=fun b o e hb=>by
   rcases(hf b hb).2.2.2.1 with z|z
   ·exact I.ok.BE b o e z
   ·exact absurd (lt_of_lt_of_le (Heap.lt_size e) (le_trans I.ok.IL z)) (Nat.lt_irrefl _)
  Aq:=fun b hb z=>by
   rcases mem_cons.mp (I.xo b z)with q|q
   ·exact(hf b hb).2.1 q
   ·exact(hf b hb).2.2.1 q
  rZ:=I.stack
  MV:=I.wJ}
 refine⟨ok,rfl,I.bare,Un.kept k,⟨m,hn,fun i x v e1 e2 e3=>?_⟩,fun x c e=>?_,hH C hC,fun x c e=>I.lN x c (lk e),fun p hp=>?_,I.hok.kept k,?_⟩
 ·have hi:nt<=i:=by
   refine Nat.le_of_not_lt fun z=>?_
   rw[getElem?_append_left (by simpa using z),getElem?_replicate]at e2
   split at e2<;>cases e2
  rw[getElem?_append_right (by simpa using hi),getElem?_map]at e2
  have Vy:(vs[i-nt]?).map some=some (some v):=by simpa using e2
  cases q:vs[i-nt]? with
  |none=>rw[q]at Vy;cases Vy
  |some v'=>
   rw[q]at Vy
   cases Vy
   have hj:i-nt<caps.length:=by rw[<-hv];exact(List.getElem?_eq_some_iff.mp q).1
   obtain⟨x',h1,h2,h3,h4⟩:=S.caps (i-nt) caps[i-nt] (getElem?_eq_getElem hj)
   have ex:x'=x:=by
    have NT:N[i]?=some x:=e1
    rw[show nt+(i-nt)=i by omega,NT]at h1
    exact(Option.some.inj h1).symm
   subst ex
   have hs:=hvs (i-nt) _ v (getElem?_eq_getElem hj) q
   obtain⟨m0,hn0,hl0⟩:=I.loc
   obtain⟨u,r,l⟩:=hl0 _ x' v h2 hs h4
   refine⟨u,r,?_⟩
   have hkx:=S.free _ (mem_of_lookup h3) rfl
   rcases l with⟨k1,_⟩|⟨k1,c,hc,hcell⟩
   ·have Zo:X.env.kindOf x'=some .local:=k1
    rcases hkx with z|z
    ·have z':X.env.kindOf x'=some .cell:=z
     rw[Zo]at z';cases z'
    ·have z':X.env.kindOf x'=some .free:=z
     rw[Zo]at z';cases z'
   ·obtain⟨c',Ja⟩:=wU (cells:=X.env.cells) (x:=x') scope.names [] (.inr (mem_of_lookup h3))
    have:=lk Ja
    rw[hc]at this
    cases this
    refine .inr ⟨?_,c,Ja,let⟨o,ho,hd⟩:=hcell;⟨o,k _ o ho,hd⟩⟩
    rcases e3 with z|z|z
    ·exfalso
     obtain⟨k',e,q⟩:=gQ (show(relabel scope X.env).names.lookup x'=some .local from z)
     rcases q with rfl|⟨_,q⟩
     ·rw[h3]at e;cases e
     ·cases q
    ·exact .inl z
    ·exact .inr z
 ·obtain⟨v,z⟩:=I.cell x c (lk e)
  exact⟨v,let⟨o,ho,hd⟩:=z;⟨o,k _ o ho,hd⟩⟩
 ·have Vz:p∈X.pn++pins:=by simpa[rF]using hp
  obtain⟨e,n,ne,nf,d⟩:=I.pin p Vz
  refine⟨k _ _ e,n,fun z=>absurd (lt_of_lt_of_le (Heap.lt_size e) (by rw[z];exact hC)) (Nat.lt_irrefl _),fun z=>?_,d⟩
  rcases mem_cons.mp (I.xo _ z)with q|q
  ·exact ne q
  ·exact nf q
 ·show(replicate nt none++vs.map some).length=N.length
  rw[S.len];simp[hv]
end
section
variable{prog:Program}{w:World}{A:Around}{E:Value->Shared->Prop}{R:Result->Shared->Prop}{s:Shared}
theorem vN{elt target iter:Expr}{ifs:List Expr}{scope:Scope}{pos:Pos}{it acc:Value}{env:Env}(I:Nat->Shared->Prop)
  (turn:∀n s,I n s->wpAny (model prog w) A (pyNext it) (fun r s₁=>match r with
   |none=>R (.ok .next) s₁
   |some v=>wpAny (model prog w) A (letOwnedTupleGo target it v) (fun _ s₁'=>wpAny (model prog w) A (assign target env v) (fun _ s₂=>
     wpAny (model prog w) A (forIn ifs true fun c r=>if r=true then do let ok<-isTrue c env (eval c env);pure (ForInStep.yield ok)else pure (ForInStep.yield r)) (fun ok s₃=>
      if ok=true then wpAny (model prog w) A (eval elt env) (fun x s₄=>
       wpAny (model prog w) A (call (.builtin "list.append") [acc,x]) (fun _ s₅=>∃m,m<n/\I m s₅) (fun _ _=>False) s₄) (fun _ _=>False) s₃
      else∃m,m<n/\I m s₃) (fun _ _=>False) s₂) (fun _ _=>False) s₁') (fun _ _=>False) s₁) (fun _ _=>False) s)
  (n:Nat)(h:I n s):
  codeAny (model prog w) A (.compLoop (.ListComp elt [⟨target,iter,ifs,0⟩] scope pos) 0 it acc env) R s:=by
 refine codeAny_loop rfl I (fun n s hI=>?_) n h
 show wpAny _ A ((compTurn (.ListComp elt [⟨target,iter,ifs,0⟩] scope pos) 0 it acc env).onRaise (fun x=>do noteFrame x env;theTreesLotGoes x)) _ _ s
 refine wpAny_noted ?_
 rw[compTurn_list]
 refine wpAny_bind (wpAny_standAt (wpAny_bind (wpAny_mono (turn n s hI) (fun r s₁ h₁=>?_) fun _ _ h'=>h'.elim)))
 cases r with
 |none=>exact wpAny_pure h₁
 |some v=>
  refine wpAny_bind (wpAny_mono h₁ (fun _ s₁' h₁'=>?_) fun _ _ h'=>h'.elim)
  refine wpAny_bind (wpAny_mono h₁' (fun _ s₂ h₂=>wpAny_bind (wpAny_mono h₂ (fun ok s₃ h₃=>?_) fun _ _ h'=>h'.elim)) fun _ _ h'=>h'.elim)
  cases ok with
  |false=>exact wpAny_pure ⟨rfl,h₃⟩
  |true=>
   exact wpAny_bind (wpAny_bind (wpAny_mono h₃ (fun x s₄ h₄=>wpAny_bind (wpAny_mono h₄ (fun _ s₅ h₅=>wpAny_pure (wpAny_pure ⟨rfl,h₅⟩)) fun _ _ h'=>h'.elim)) fun _ _ h'=>h'.elim))
end
def WV(X:Cx)(ifs:List Expr)(t:TT):Prop:=
 ∀(pins:List (Addr×Obj))(s:Shared)(σ:St)(H:Hp)(Q:Bool->Hp->Prop),Inv X pins σ H s->t σ H Q->
  wpAny (model X.prog X.w) X.A (forIn ifs true fun c r=>if r=true then do let ok<-isTrue c X.env (eval c X.env);pure (ForInStep.yield ok)else pure (ForInStep.yield r)) (TP X pins σ Q) X.xe s
theorem PX{X:Cx}{E:Str->Hp->Prop}:WV X [] (tT X.K E fun _=>.ok true):=fun pins s σ H Q I ⟨g,env,os,r,m⟩=>wpAny_tests_nil ⟨H,I,m H (aN.refl H)⟩
theorem Zp{X:Cx}{E:Str->Hp->Prop}{c:Expr}{f:DE->R Bool}(h:PT X c (tT X.K E f)):WV X [c] (tT X.K E f):=fun pins s σ H Q I q=>wpAny_tests_one (h pins s σ H Q I q)
def cG(b:D->DE->R DE)(ct:DE->R Bool)(fe:DE->R D)(e₀:DE):List D->R (List D)
 |[]=>.ok []
 |x::xs=>(b x e₀).bind fun e=>(ct e).bind fun t=>if t=true then(fe e).bind fun d=>(cG b ct fe e₀ xs).bind fun ds=>.ok (d::ds)else cG b ct fe e₀ xs
def eZ(env:DE):List Nat->R (List D)
 |[]=>.ok []
 |i::r=>(bM i env).bind fun d=>(eZ env r).bind fun ds=>.ok (d::ds)
theorem Good.eZ {K:'b'}{E:Str->Hp->Prop}{H₀ H:Hp}{g:Gh}{σ:St}{os:List Addr}{env:DE}(r:Rel K g env σ H os):∀{caps:List Nat}{p:List D->Prop},Good E H₀ (eZ env caps) p->
  ∃ds vs,p ds/\vs.length=caps.length/\ds.length=caps.length/\IsL K (g.P os) H ds vs/\∀(j i:Nat)(v:V),caps[j]?=some i->vs[j]?=some v->σ[i]?=some (some v)
 |[],p,h=>⟨[],[],h,rfl,rfl,rfl,fun j i v e=>by simp at e⟩
 |i::rest,p,h=>by
  have h1:=h.bind
  unfold bM at h1
  split at h1
  ·rename_i d e
   have h2:Good E H₀ ((DL.eZ env rest).bind fun ds=>.ok (d::ds)) p:=h1
   obtain⟨ds,vs,q1,q2,q3,q4,q5⟩:=Good.eZ r h2.bind
   obtain⟨v,s1,s2⟩:=r.val i d e
   refine⟨d::ds,v::vs,q1,by simp[q2],by simp[q3],.cons s2 q4,fun j i' v' e1 e2=>?_⟩
   cases j with
   |zero=>simp at e1 e2;subst e1 e2;exact s1
   |succ j=>exact q5 j i' v' (by simpa using e1) (by simpa using e2)
  ·exact h1.elim
def jf(nt:Nat)(ds:List D):DE:=replicate nt Sl.no++ds.map .val
theorem Fv{nt:Nat}{ds:List D}{i:Nat}{d:D}(h:(jf nt ds)[i]?=some (.val d)):nt<=i/\ds[i-nt]?=some d:=by
 unfold jf at h
 have hi:nt<=i:=by
  refine Nat.le_of_not_lt fun z=>?_
  rw[getElem?_append_left (by simpa using z),getElem?_replicate]at h
  split at h<;>cases h
 rw[getElem?_append_right (by simpa using hi),getElem?_map]at h
 refine⟨hi,?_⟩
 simp only [length_replicate]at h
 cases q:ds[i-nt]? with
 |none=>rw[q]at h;cases h
 |some d'=>rw[q]at h;cases h;rfl
theorem wV{nt:Nat}{ds:List D}{i:Nat}{xs:List D}(h:(jf nt ds)[i]?=some (.own xs)):False:=by
 unfold jf at h
 by_cases hi:i<nt
 ·rw[getElem?_append_left (by simpa using hi),getElem?_replicate]at h
  split at h<;>cases h
 ·rw[getElem?_append_right (by simp;omega),getElem?_map]at h
  cases q:ds[i-(replicate nt Sl.no).length]? with
  |none=>rw[q]at h;cases h
  |some d'=>rw[q]at h;cases h
theorem BV{nt:Nat}{ds:List D}{i:Nat}{w:Ct}(h:(jf nt ds)[i]?=some (.deep w)):False:=by
 unfold jf at h
 by_cases hi:i<nt
 ·rw[getElem?_append_left (by simpa using hi),getElem?_replicate]at h
  split at h<;>cases h
 ·rw[getElem?_append_right (by simp;omega),getElem?_map]at h
  cases q:ds[i-(replicate nt Sl.no).length]? with
  |none=>rw[q]at h;cases h
  |some d'=>rw[q]at h;cases h
theorem Fw{nt:Nat}{ds:List D}{i:Nat}{w:V}(h:(jf nt ds)[i]?=some (.raw w)):False:=by
 unfold jf at h
 by_cases hi:i<nt
 ·rw[getElem?_append_left (by simpa using hi),getElem?_replicate]at h
  split at h<;>cases h
 ·rw[getElem?_append_right (by simp;omega),getElem?_map]at h
  cases q:ds[i-(replicate nt Sl.no).length]? with
  |none=>rw[q]at h;cases h
  |some d'=>rw[q]at h;cases h
section
variable{X:Cx}{pins:List (Addr×Obj)}{σ:St}{H:Hp}{s:Shared}{h':Heap}
theorem zJ{fp:List Addr}{t':Nat}(I:Inv X pins σ H s)(hf:∀b∈fp,nZ X pins H b)(k:∀b u,b∉fp->s.heap.get? b=some u->h'.get? b=some u):Inv X pins σ H {s with heap:=h',toks:=t'}:=by
 have WW:∀b u,H b=some u->b∉fp:=fun b u e z=>by rw[(hf b z).1]at e;cases e
 refine I.step (g':=s.gens) (d':=s.drawn) (ch:=fp) (fun b hb=>⟨(hf b hb).2.2.2.1,(hf b hb).2.1,(hf b hb).2.2.2.2.1,(hf b hb).2.2.2.2.2⟩) (fun b u _ _ hc e _=>k b u hc e) (fun b u _ _ hc e _=>⟨u.slots,k b u hc e⟩)
  (fun b u _ e n=>n) (fun b u hc e=>⟨u,k b u hc e⟩) (fun b xs e=>e) (fun b u xs e=>e) (fun b ps e=>⟨#[],by rw[e];simp⟩) (fun m hm=>?_) (fun b u e=>?_) I.bare
 ·obtain⟨ob,es,ep,ho,r⟩:=hm
  exact⟨ob,es,ep,k _ ob (fun z=>(hf _ z).2.1 rfl) ho,r⟩
 ·refine(I.hok b u e).pQ (fun c v hc q=>k c v ?_ q) (fun c q=>q) fun c xs q=>q
  rcases hc with z|z
  ·rw[z];exact WW b u e
  ·exact WW c _ z
end
def R.ne {α:Type}:R α->R α
 |.ok a=>.ok a
 |_=>.bad
theorem R.JR {α:Type}(a:α):(R.ok a).ne=.ok a:=rfl
theorem R.dZ {α β:Type}{r:R α}{k:α->R β}{y:β}(h:r.bind k=.ok y):∃a,r=.ok a/\k a=.ok y:=by
 cases r with
 |ok a=>exact⟨a,rfl,h⟩
 |err c=>cases h
 |bad=>cases h
theorem sX{α:Type}{E:Str->Hp->Prop}{H₀:Hp}{r:R α}{a:α}{p:α->Prop}(e:r=.ok a)(h:p a):Good E H₀ r p:=by rw[e];exact h
section
variable{X:Cx}{E:Str->Hp->Prop}{pos:Pos}{scope:Scope}{N:List Str}{nt:Nat}{caps:List Nat}
theorem Fx{K:'b'}{g:Gh}{e:DE}{σ:St}{H H':Hp}{a:Addr}{ds:List D}{ts:DE}(r:Rel K g e σ H [a])(he:e=ts++ds.map .val)(hl:ts.length=nt)(x:Ext (g.P [a]) (g.P [a]) H H')(s:aN g.H₀ H')(hn:∃o,H' a=some o):
  Rel K g (jf nt ds) σ H' [a]:=by
 subst he
 refine⟨by rw[r.len];simp[jf,hl],s,fun i d e=>?_,fun i xs e=>(wV e).elim,fun i j xs ys b e=>(wV e).elim,fun b hb=>?_,fun i w e=>(Fw e).elim,DQ.none fun i w e=>BV e⟩
 ·obtain⟨h1,h2⟩:=Fv e
  obtain⟨v,q1,q2⟩:=r.val i d (by rw[getElem?_append_right 'a',hl,getElem?_map,h2];rfl)
  exact⟨v,q1,Is.ext x _ _ q2⟩
 ·have e:b=a:=by simpa using hb
  subst e
  exact⟨(r.new b hb).1,hn⟩
def aaV(X:Cx)(pins:List (Addr×Obj))(σ:St)(g:Gh)(os:List Addr)(H:Hp)(use:Option (Value->Sem Unit))(Qv:Value->Shared->Prop)(ys:List D):Prop:=
 ∀(Dd C:Addr)(acc:List V)(Hx:Hp)(s6:Shared),Inv X pins σ Hx s6->(∃m,s6.heap.Ns C m)->nZ X pins Hx C->aN H Hx->H Dd=none->Hx Dd=some (.lst acc)->IsL X.K (g.P (Dd::os)) Hx ys acc->
  compPost (model X.prog X.w) X.A X.xe use Qv (.ref Dd) C (.ok .next) s6
theorem Fy{elt tg iter:Expr}{ifs:List Expr}{fi:DE->R (List D)}{b:D->DE->R DE}{ct:DE->R Bool}{fe:DE->R D}(S:iD X scope N nt caps)(vO:X.calm=true)(hi:PI X tg iter (WN X.K E fi))
  (hb1:∀ds d e,b d (jf nt ds)=.ok e->∃ts,e=ts++ds.map .val/\ts.length=nt)
  (hg:∀s H fp C pl,PG (rF X scope N s H fp C pl) tg (tG X.K EN b))(ht:∀s H fp C pl,WV (rF X scope N s H fp C pl) ifs (tT X.K EN ct))(he:∀s H fp C pl,PE (rF X scope N s H fp C pl) elt (tD X.K EN fe))
  (hs:∀x,foldedSetIterable iter X.env x=pure x){use:Option (Value->Sem Unit)}{Qv:Value->Shared->Prop}{pins:List (Addr×Obj)}{s:Shared}{σ:St}{H:Hp}{env:DE}{os:List Addr}{g:Gh}(I:Inv X pins σ H s)(r:Rel X.K g env σ H os)
  (m:Good E g.H₀ ((fi env).bind fun xs=>(eZ env caps).bind fun ds=>(cG b ct fe (jf nt ds) xs).ne.bind fit) (aaV X pins σ g os H use Qv)){ps:Pos}:
  wpAny (model X.prog X.w) X.A (comprehension (.ListComp elt [⟨tg,iter,ifs,0⟩] scope pos) scope X.env ps (newList []) false (eval iter X.env) use) Qv X.xe s:=by
 refine wpAny_comprehension_free (use:=use) rfl hs (rN (S.cells I)) S.kind S.names ?_
 refine cC (hi pins s σ H (fun J H1=>∃xs,aN H H1/\Yls X.K (g.P os) J H1 xs/\Good E g.H₀ ((eZ env caps).bind fun ds=>(cG b ct fe (jf nt ds) xs).ne.bind fit) _) I ⟨g,env,os,r,m.bind.mono fun xs _ m1 J H1 s1 yl=>⟨xs,s1,yl,m1⟩⟩) fun v s1 h1=>cC h1 fun itv s2 h2=>?_
 obtain⟨it,fp,tn,J,H2,rfl,I2,T,Dh,f2,xs,JS,yl,m1⟩:=h2
 have r2:=r.same JS
 obtain⟨ds,vs,m2,Zq,PY,hds,hvs⟩:=m1.bind.eZ r2
 cases ec:cG b ct fe (jf nt ds) xs with
 |bad=>rw[ec]at m2;exact m2.elim
 |err c=>rw[ec]at m2;exact m2.elim
 |ok ys=>
 rw[ec]at m2
 obtain⟨hz,q⟩:=(show Good E g.H₀ (fit ys) _ from m2).fit
 refine wpAny_newObj_type (wpAny_newFunctionEnv S.cell (by intro y hy;simp at hy) (fun h₁ DU hsb₁=>?_) S.kind)
 dsimp only at DU hsb₁⊢
 have SM:H2 s2.heap.objs.size=none:=I2.hok.fresh (Nat.le_refl _)
 have I3:Inv X pins σ (upd H2 s2.heap.objs.size (.lst [])) {s2 with heap:=s2.heap.push {cls:=.type "list",dict:=none,data:=.seq ([]:List Value).toArray}}:=
  I2.laid (t':=s2.toks) (fun b u e=>Heap.get?_push_of_some _ e) (Nat.le_refl _) ⟨zero_le _,[],0,.nil,Heap.get?_push_size _ rfl⟩
 generalize WX:({s2 with heap:=s2.heap.push {cls:=.type "list",dict:=none,data:=.seq ([]:List Value).toArray}}:Shared)=s3 at I3
 have SN:s3.heap=s2.heap.push {cls:=.type "list",dict:=none,data:=.seq ([]:List Value).toArray}:=by rw[<-WX]
 rw[<-SN]at DU hsb₁⊢
 generalize hDd:s2.heap.objs.size=Dd at*
 have k3:∀b o,s3.heap.get? b=some o->h₁.get? b=some o:=fun b o e=>hsb₁.extBut b o (ne_of_lt (Heap.lt_size e)) (Heap.get?_push_of_some _ e)
 have JT:∀b∈fp,∃o,s2.heap.get? b=some o:=fun b hb=>let⟨o,e,_⟩:=T.obj 0 _ Dh b hb;⟨o,e⟩
 have SQ:∀b∈fp,∃o,s3.heap.get? b=some o:=fun b hb=>let⟨o,e⟩:=JT b hb;⟨o,by rw[SN];exact Heap.get?_push_of_some _ e⟩
 have hfD:∀b∈fp,b≠Dd:=fun b hb=>let⟨o,e⟩:=JT b hb;by rw[<-hDd];exact ne_of_lt (Heap.lt_size e)
 have f3:∀b∈fp,nZ X pins (upd H2 Dd (.lst [])) b:=fun b hb=>⟨by rw[aj (hfD b hb)];exact(f2 b hb).1,(f2 b hb).2⟩
 have sD:aN H2 (upd H2 Dd (.lst [])):=aM SM _
 have I4:=S.start (t':=s2.toks+([]:List (Str×Value)).length) I3 f3 (Nat.le_refl _) DU k3 SQ Zq (fun j i v e1 e2=>hvs j i v e1 e2) _ rfl
 generalize hX:rF X scope N s3 (upd H2 Dd (.lst [])) fp s3.heap.objs.size (X.pn++pins)=X' at I4
 have WY:=hg s3 (upd H2 Dd (.lst [])) fp s3.heap.objs.size (X.pn++pins)
 have IS:=ht s3 (upd H2 Dd (.lst [])) fp s3.heap.objs.size (X.pn++pins)
 have SR:=he s3 (upd H2 Dd (.lst [])) fp s3.heap.objs.size (X.pn++pins)
 rw[hX]at WY IS SR
 have eK:X'.K=X.K:=by rw[<-hX];rfl
 have eP:X'.prog=X.prog:=by rw[<-hX];rfl
 have eW:X'.w=X.w:=by rw[<-hX];rfl
 have eA:X'.A=X.A:=by rw[<-hX];rfl
 have eE:X'.xe=fun _ _=>False:=by rw[<-hX];rfl
 have eC:X'.calm=true:=by rw[<-hX];exact vO
 have eL:X'.env.locals=s3.heap.objs.size:=by rw[<-hX];rfl
 have eS:X'.s₀=s3:=by rw[<-hX];rfl
 have eX:X'.ex=fp:=by rw[<-hX];rfl
 have eF:X'.fs=Ao X.stack:=by rw[<-hX];rfl
 have eN:X'.pn=X.pn++pins:=by rw[<-hX];rfl
 have eH:X'.H₀=upd H2 Dd (.lst []):=by rw[<-hX];rfl
 have eV:X'.env=compEnvC scope (Bt X.env.cells scope.names []) s3.heap.objs.size X.env:=by rw[<-hX];rfl
 have SS:∀{Hx:Hp},(∀b∈fp,Hx b=none)->∀b∈fp,nZ X' [] Hx b:=fun{Hx} hn b hb=>by
  obtain⟨_,c1,c2,c3,c4,c5⟩:=f3 b hb
  have q:=I4.ok.RD b (by rw[eX];exact hb)
  refine⟨hn b hb,q.1,I4.ok.Aq b (by rw[eX];exact hb),.inl (by rw[eX];exact hb),q.2,fun p hp=>?_⟩
  rw[eN,append_nil]at hp
  exact c5 p hp
 let g':Gh:=⟨g.P os,H2⟩
 have exP:∀{Hx:Hp},aN H2 Hx->Ext (g.P os) (g'.P [Dd]) H2 Hx:=fun sx=>⟨fun a o p e=>⟨.inl p,fun z=>by
  have z':a=Dd:=by simpa using z
  rw[z',SM]at e;cases e⟩,fun a o _ e=>sx a o e⟩
 have aaY:Rel X.K g' (jf nt ds) (replicate nt none++vs.map some) (upd H2 Dd (.lst [])) [Dd]:=by
  refine⟨by simp[jf,Zq,PY],sD,fun i d e=>?_,fun i xs e=>(wV e).elim,fun i j xs ys b e=>(wV e).elim,fun b hb=>?_,fun i w e=>(Fw e).elim,DQ.none fun i w e=>BV e⟩
  ·obtain⟨h1,h2⟩:=Fv e
   obtain⟨v,q1,q2⟩:=hds.get h2
   refine⟨v,?_,Is.ext (exP sD) _ _ q2⟩
   rw[getElem?_append_right (by simpa using h1),getElem?_map,length_replicate,q1]<;>rfl
  ·have e:b=Dd:=by simpa using hb
   subst e
   exact⟨SM,_,ak⟩
 have loop:∀s4:Shared,Inv X' [] (replicate nt none++vs.map some) (upd H2 Dd (.lst [])) s4->tn 0 s4.heap->
   codeAny (model X.prog X.w) X.A (.compLoop (.ListComp elt [⟨tg,iter,ifs,0⟩] scope pos) 0 (.ref it) (.ref Dd) (compEnvC scope (Bt X.env.cells scope.names []) s3.heap.objs.size X.env))
    (compPost (model X.prog X.w) X.A X.xe use Qv (.ref Dd) s3.heap.objs.size) s4:=by
  intro s4 J4 JU
  refine vN (fun n s'=>∃i acc as rest Hx σ',n=xs.length-i/\i<=xs.length/\Inv X' [] σ' Hx s'/\tn i s'.heap/\(∀b∈fp,Hx b=none)/\Hx Dd=some (.lst acc)/\IsL X.K (g'.P [Dd]) Hx as acc/\
   cG b ct fe (jf nt ds) (xs.drop i)=.ok rest/\as++rest=ys/\Rel X.K g' (jf nt ds) σ' Hx [Dd]) ?_ xs.length
   ⟨0,[],[],ys,_,_,by simp,zero_le _,J4,JU,fun b hb=>(f3 b hb).1,ak,rfl,by rw[drop_zero];exact ec,rfl,aaY⟩
  rintro n s5 ⟨i,acc,as,rest,Hx,σ5,rfl,hi5,J5,Nr,MX,WZ,ia5,c5,e5,r5⟩
  obtain⟨y1,y2⟩:=yl i Hx (g'.P [Dd]) r5.ext (exP r5.ext)
  by_cases hlt:i<xs.length
  ·have hx:xs[i]?=some xs[i]:=getElem?_eq_getElem hlt
   obtain⟨go,y3⟩:=y1 _ hx
   rw[List.drop_eq_getElem_cons hlt]at c5
   obtain⟨e1,Zr,c6⟩:=R.dZ (show(b xs[i] (jf nt ds)).bind _=.ok rest from c5)
   obtain⟨t,Zs,c7⟩:=R.dZ c6
   have TI:=T.item X' eP eW eK eC i [] s5 σ5 Hx (fun _ _=>False) J5 (SS MX) Nr go
   rw[eA]at TI
   refine cC TI fun r s6 h6=>?_
   obtain⟨u,rfl,h6⟩:=h6
   refine cC h6 fun _ s7 h7=>?_
   obtain⟨x,H7,J7,rx,hy,SV,fr7⟩:=h7
   obtain⟨VA,hix⟩:=y3 x H7 hy
   have ix:Is X.K (g'.P [Dd]) H7 xs[i] x:=Is.ext ⟨fun a o p _=>p.elim (fun z=>z) fun z=>r5.fresh z,fun _ _ _ z=>z⟩ _ _ hix
   have J7':=J7.pinned (SS fr7) (T.obj _ _ SV)
   have TG:=WY _ s7 σ5 H7 x u (fun σ8 H8=>∃e8,b xs[i] (jf nt ds)=.ok e8/\Rel X.K g' e8 σ8 H8 [Dd]/\H8=H7) J7' rx ⟨g',jf nt ds,[Dd],xs[i],r5.same VA,ix,sX Zr fun σ8 r8=>⟨e1,Zr,r8,rfl⟩⟩
   rw[eP,eW,eA,eE,eV]at TG
   refine cC TG fun _ s8 h8=>?_
   obtain⟨σ8,H8,J8,e8,hb8,r8,hH8⟩:=h8
   rw[hH8]at J8 r8
   rw[Zr]at hb8
   cases hb8
   have TT:=IS _ s8 σ8 H7 (fun t' H9=>t'=t/\aN H7 H9) J8 ⟨g',e1,[Dd],r8,sX Zs fun H9 s9=>⟨rfl,s9⟩⟩
   rw[eP,eW,eA,eE,eV]at TT
   refine cC TT fun ok s9 h9=>?_
   obtain⟨H9,J9,rfl,M5⟩:=h9
   obtain⟨ts,hts,VB⟩:=hb1 ds _ _ Zr
   have Fz:∀{σx:St}{Hy:Hp}{sx:Shared},Inv X' ([]++uw fp s7.heap) σx Hy sx->tn (i+1) sx.heap/\∀b∈fp,Hy b=none:=fun{σx Hy sx} Jx=>
    ⟨T.keep _ _ _ SV fun b hb o e=>(Jx.pin (b,o) (mem_append_right _ (mem_append_right _ (gO hb e)))).1,fun b hb=>by
     obtain⟨o,e,d⟩:=T.obj _ _ SV b hb
     exact(Jx.pin (b,o) (mem_append_right _ (mem_append_right _ (gO hb e)))).2.1⟩
   cases ok with
   |false=>
    rw[if_neg Bool.false_ne_true]
    have c8:cG b ct fe (jf nt ds) (xs.drop (i+1))=.ok rest:=c7
    obtain⟨k1,k2⟩:=Fz J9
    exact⟨xs.length-(i+1),by omega,i+1,acc,as,rest,H9,σ8,rfl,hlt,J9.kM,k1,k2,M5 _ _ (VA _ _ WZ),(ia5.same VA).same M5,c8,e5,
     Fx r8 hts VB (.same M5) (r8.ext.trans M5) ⟨_,M5 _ _ (VA _ _ WZ)⟩⟩
   |true=>
    rw[if_pos rfl]
    obtain⟨d,he5,c8⟩:=R.dZ (show(fe e1).bind _=.ok rest from c7)
    obtain⟨JV,hr5,c9⟩:=R.dZ c8
    have c9':rest=d::JV:=by cases c9;rfl
    subst c9'
    have TE:=SR _ s9 σ8 H9 (fun v BW=>aN H9 BW/\Is X.K (g'.P [Dd]) BW d v) J9 ⟨g',e1,[Dd],r8.same M5,sX he5 fun v BW W0 i10=>⟨W0,i10⟩⟩
    rw[eP,eW,eA,eE,eV]at TE
    refine cC TE fun y W0 h10=>?_
    obtain⟨v,BW,J10,rv,NX,iv⟩:=h10
    have SW:BW Dd=some (.lst acc):=NX _ _ (M5 _ _ (VA _ _ WZ))
    have W2:IsL X.K (g'.P [Dd]) BW as acc:=((ia5.same VA).same M5).same NX
    have TM:=fY (X:=X') _ W0 σ8 BW (.ref Dd) [v] (.ref Dd) [y] (fun _ VC=>VC=upd BW Dd (.lst (acc++[v]))) J10 rfl (.cons rv .nil) ⟨Dd,acc,v,rfl,rfl,SW,by
     rw[W2.length]
     have:(as++d::JV).length<=sizeLine:=by rw[e5];exact hz
     rw[length_append,length_cons]at this
     omega,rfl⟩
    rw[eP,eW,eA,eE]at TM
    refine cC TM fun _ s11 h11=>?_
    obtain⟨v',VC,W3,_,rfl⟩:=h11
    obtain⟨k1,k2⟩:=Fz W3
    have exD:Ext (g'.P [Dd]) (g'.P [Dd]) BW (upd BW Dd (.lst (acc++[v]))):=⟨fun _ _ p _=>p,fun a o p e=>by rw[aj (fun z=>p.2 (by simp[z]))];exact e⟩
    have aa4:aN H2 BW:=(r8.ext.trans M5).trans NX
    refine⟨xs.length-(i+1),by omega,i+1,acc++[v],as++[d],JV,_,σ8,rfl,hlt,W3.kM,k1,k2,ak,IsL.ext exD _ _ (W2.app (.one iv)),hr5,by rw[List.append_assoc];exact e5,?_⟩
    exact Fx (r8.same (M5.trans NX)) hts VB exD (fun a o e=>by rw[aj (az (show H2 a=some o from e) SM)];exact aa4 a o e) ⟨_,ak⟩
  ·have e:i=xs.length:=by omega
   subst e
   rw[drop_length]at c5
   have c5':rest=[]:=by cases c5;rfl
   subst c5'
   rw[append_nil]at e5
   subst e5
   have TD:=T.done X' eP eW eK eC xs.length [] s5 σ5 Hx (fun _ _=>False) J5 (SS MX) Nr (y2 rfl)
   rw[eA]at TD
   refine cC TD fun r s6 h6=>?_
   obtain⟨rfl,J6⟩:=h6
   obtain⟨m6,SX,_⟩:=J6.loc
   rw[eL]at SX
   have un6:Un (Ao X.stack) fp (upd H2 Dd (.lst [])) Hx s3.heap s6.heap:=by
    have u:=J6.base
    rw[eF,eX,eH,eS]at u
    exact u
   have hxC:Hx s3.heap.objs.size=none:=by have:=J6.free;rw[eL]at this;exact this
   have SY:nX X.prog X.w Hx s6.heap:=by
    have z:=J6.hok
    rw[eP,eW]at z
    exact z
   have os6:s6.os=s3.os:=by have:=J6.os;rw[eS]at this;exact this
   have I6:Inv X pins σ Hx s6:=I3.xq (s':=s6) os6 un6 SY J6.bare fun b hb=>by
    obtain⟨_,c1,c2,c3,c4,c5⟩:=f3 b hb
    exact⟨c3,c1,c4,c5⟩
   have fC:nZ X pins Hx s3.heap.objs.size:=⟨hxC,(I3.G9 (Nat.le_refl _) (I3.hok.fresh (Nat.le_refl _))).2⟩
   refine q Dd s3.heap.objs.size acc Hx s6 I6 ⟨m6,SX⟩ fC (JS.trans r5.ext) (JS.free SM) WZ (IsL.ext ⟨fun a o p _=>?_,fun _ _ _ z=>z⟩ _ _ ia5)
   have z:g.P os a:=p.1.elim (fun z=>z) fun z=>r2.fresh z
   exact⟨z.1,fun hm=>(mem_cons.mp hm).elim (fun z=>p.2 (by simp[z])) z.2⟩
 have JU:tn 0 h₁:=T.keep _ _ _ Dh fun b hb o e=>k3 b o (by rw[SN];exact Heap.get?_push_of_some _ e)
 have eG:({heap:=h₁,gens:=s3.gens,drawn:=s3.drawn,toks:=s2.toks+([]:List (Str×Value)).length,os:=s3.os}:Shared)={heap:=h₁,gens:=s2.gens,drawn:=s2.drawn,toks:=s2.toks+([]:List (Str×Value)).length,os:=s2.os}:=by rw[<-WX]
 rw[eG]at I4
 exact codeAny_compStart_list (loop _ I4 JU) (T.self _ 0 _ _ _ JU (loop _ I4 JU))
variable{elt tg iter:Expr}{ifs:List Expr}{fi:DE->R (List D)}{b:D->DE->R DE}{ct:DE->R Bool}{fe:DE->R D}
theorem p8(S:iD X scope N nt caps)(vO:X.calm=true)(hi:PI X tg iter (WN X.K E fi))
  (hb1:∀ds d e,b d (jf nt ds)=.ok e->∃ts,e=ts++ds.map .val/\ts.length=nt)
  (hg:∀s H fp C pl,PG (rF X scope N s H fp C pl) tg (tG X.K EN b))(ht:∀s H fp C pl,WV (rF X scope N s H fp C pl) ifs (tT X.K EN ct))(he:∀s H fp C pl,PE (rF X scope N s H fp C pl) elt (tD X.K EN fe))
  (hs:∀x,foldedSetIterable iter X.env x=pure x:=by intro _;rfl):
  PE X (.ListComp elt [⟨tg,iter,ifs,0⟩] scope pos) (tF X.K E fun env=>(fi env).bind fun xs=>(eZ env caps).bind fun ds=>(cG b ct fe (jf nt ds) xs).ne.bind fit):=by
 intro pins s σ H Q I h
 obtain⟨g,env,os,r,m⟩:=h
 rw[eval_ListComp]
 refine Fy S vO hi hb1 hg ht he hs I r (m.mono fun ys _ q Dd C acc Hx s6 I6 hn fC sm hD hx ia=>?_)
 obtain⟨m6,SX⟩:=hn
 refine⟨m6,SX,fun h7 hs7=>⟨.ref Dd,Hx,zJ (fp:=[C]) (t':=s6.toks) I6 (fun b hb=>by
  have z:b=C:=by simpa using hb
  rw[z];exact fC) (fun b u hb e=>(hs7.2 b (fun z=>hb (by simp[z]))).trans e),rfl,q Dd acc Hx sm hD hx ia⟩⟩
theorem W4(i:Nat){x:Str}{pos' p:Pos}(S:iD X scope N nt caps)(vO:X.calm=true)(hi:PI X tg iter (WN X.K E fi))
  (hb1:∀ds d e,b d (jf nt ds)=.ok e->∃ts,e=ts++ds.map .val/\ts.length=nt)
  (hg:∀s H fp C pl,PG (rF X scope N s H fp C pl) tg (tG X.K EN b))(ht:∀s H fp C pl,WV (rF X scope N s H fp C pl) ifs (tT X.K EN ct))(he:∀s H fp C pl,PE (rF X scope N s H fp C pl) elt (tD X.K EN fe))(hN:X.N.Nodup)
  (hs:∀x,foldedSetIterable iter X.env x=pure x:=by intro _;rfl)(Zt:X.N[i]?=some x:=by rfl)(hx:Loc X.env.scope x:=by first|exact Or.inl rfl|exact Or.inr rfl)
  (hf:X.fn x=true\/X.env.scope.names.lookup x=some .local:=by first|exact .inl rfl|exact .inr rfl|assumption)
  (hsw:swapsWith (.ListComp elt [⟨tg,iter,ifs,0⟩] scope p) (some (.Name x pos')) pos.line X.env=pure true:=by rfl):
  PS X (.Assign [.Name x pos'] (.ListComp elt [⟨tg,iter,ifs,0⟩] scope p) pos) (tS X.K E fun env=>((fi env).bind fun xs=>(eZ env caps).bind fun ds=>(cG b ct fe (jf nt ds) xs).ne.bind fit).bind fun ys=>.ok (.nx (env.set i (.own ys)))):=by
 intro pins s σ H De I h
 obtain⟨g,env,os,r,m⟩:=h
 rw[exec_Assign_Name_used _ _ _ _ hsw,arm_evalThenUse_ListComp]
 refine wpAny_bind (wpAny_standAt (wpAny_bind (wpAny_bind ?_)))
 refine Fy (use:=some (assign (.Name x pos') X.env)) S vO hi hb1 hg ht he hs I r (m.bind.mono fun ys _ q Dd C acc Hx s6 I6 hn fC sm hD Dy ia=>?_)
 obtain⟨m6,o6,es6,ep6,ho6,hd6,hk6⟩:=hn
 have fC':∀b∈[C],nZ X pins Hx b:=fun b hb=>by
  have z:b=C:=by simpa using hb
  rw[z];exact fC
 have J6:=I6.pinned fC' fun b hb=>by
  have z:b=C:=by simpa using hb
  subst z
  exact⟨o6,ho6,fun v z=>by rw[hd6]at z;cases z⟩
 have TG:=wL (pos:=pos') hN Zt hx hf _ s6 σ Hx (.ref Dd) (.ref Dd) (fun σ7 H7=>σ7=σ.set i (some (.ref Dd))/\H7=Hx) J6 rfl ⟨rfl,rfl⟩
 refine cC TG fun _ s7 h7=>?_
 obtain⟨σ7,H7,J7,rfl,rfl⟩:=h7
 have e7:s7.heap.get? C=some o6:=(J7.pin (C,o6) (mem_append_right _ (mem_append_right _ (gO (by simp) ho6)))).1
 refine⟨m6,⟨o6,es6,ep6,e7,hd6,hk6⟩,fun h8 hs8=>wpAny_pure (wpAny_pure ?_)⟩
 refine⟨_,H7,zJ (fp:=[C]) (t':=s7.toks) J7.kM fC' (fun b u hb e=>(hs8.2 b (fun z=>hb (by simp[z]))).trans e),?_⟩
 exact q _ H7 (Dd::os) (r.Sx sm i hD Dy ia) (.new sm hD)
end
section
variable{X:Cx}{pins:List (Addr×Obj)}{σ:St}{H:Hp}{s:Shared}{h':Heap}
theorem NY{fp:List Addr}{t:Addr}{o:HO}{t':Nat}(I:Inv X pins σ H s)(hf:∀b∈fp,nZ X pins H b)(k:∀b u,b∉fp->s.heap.get? b=some u->h'.get? b=some u)(hex:∀b∈fp,∀u,s.heap.get? b=some u->∃u',h'.get? b=some u')(ht:s.heap.objs.size<=t)
  (new:cD X.prog X.w (upd H t o) h' t o):Inv X pins σ (upd H t o) {s with heap:=h',toks:=t'}:=by
 have hn:H t=none:=I.hok.fresh ht
 have WW:∀b u,H b=some u->b∉fp:=fun b u e z=>by rw[(hf b z).1]at e;cases e
 refine I.step (g':=s.gens) (d':=s.drawn) (ch:=fp) (fun b hb=>⟨(hf b hb).2.2.2.1,(hf b hb).2.1,(hf b hb).2.2.2.2.1,(hf b hb).2.2.2.2.2⟩) (fun b u _ _ hc e _=>k b u hc e) (fun b u _ _ hc e _=>⟨u.slots,k b u hc e⟩)
  (fun b u _ e n=>by rw[aj (ne_of_lt (lt_of_lt_of_le (Heap.lt_size e) ht))];exact n) (fun b u hc e=>⟨u,k b u hc e⟩)
  (fun b xs e=>by rw[aj (az e hn)];exact e) (fun b u xs e=>by rw[aj (az e hn)];exact e) (fun b ps e=>⟨#[],by rw[aj (az e hn),e];simp⟩)
  (fun m hm=>?_) (fun b u e=>?_) I.bare
 ·obtain⟨ob,es,ep,ho,r⟩:=hm
  exact⟨ob,es,ep,k _ ob (fun z=>(hf _ z).2.1 rfl) ho,r⟩
 ·by_cases hb:b=t
  ·subst hb;rw[ak]at e;cases e;exact new
  ·rw[aj hb]at e
   refine(I.hok b u e).pQ (fun c v hc q=>k c v ?_ q) (fun c q=>by rw[aj (az q hn)];exact q) fun c xs q=>by rw[aj (az q hn)];exact q
   rcases hc with z|z
   ·rw[z];exact WW b u e
   ·exact WW c _ z
end
def Ite(K:'b')(l:Addr):It:=
 ⟨fun i H=>∃xs x,cV K H l xs/\xs[i]?=some x,fun i H x H'=>∃t y,H t=none/\H'=upd H t (.tup [.int (i:Nat),y])/\x=.ref t/\∀xs,cV K H l xs->xs[i]?=some y,fun i H=>∃xs,cV K H l xs/\xs.length<=i⟩
theorem Hv{P:Program}{w:World}{K:'b'}{elts:List Expr}{kk:Nat}{pp:Pos}(l e it:Addr)(hei:e≠it):
  Turn P w K (.Tuple elts kk pp) (Ite K l) [e,it] e (fun i h=>(∃old,IsEnum h e it (i:Nat) old)/\h.IsListIter it l i) where
 mem:=by simp
 obj:=fun i h st b hb=>by
  obtain⟨⟨old,he⟩,o,e2,c,d⟩:=st
  rcases mem_cons.mp hb with rfl|hb
  ·exact⟨_,he,fun v z=>by cases z⟩
  ·have z:b=it:=by simpa using hb
   subst z
   exact⟨o,e2,fun v z=>by rw[d]at z;cases z⟩
 keep:=fun i h h' st k=>by
  obtain⟨⟨old,he⟩,hit⟩:=st
  exact⟨⟨old,k e (by simp) _ he⟩,hit.at fun o q=>k it (by simp) o q⟩
 item:=by
  intro X hP hw hK hc i pins s σ H E I hf st hg
  subst hP hw hK
  obtain⟨xs,x,hq,hx⟩:=hg
  obtain⟨its,rv,p,hz⟩:=I.list hq
  obtain⟨u,hu,ru⟩:=rv.get hx
  obtain⟨⟨old,he⟩,hit⟩:=st
  refine wpAny_pyNext_enum_item he hit p.isList (x:=u) (by simpa using hu) hei fun h' ho DV hT hsz hk=>?_
  refine⟨_,rfl,wpAny_letOwnedTupleGo_enum ho fun Zu W5 NZ=>?_⟩
  have hlt:e<s.heap.objs.size:=Heap.lt_size he
  have aa8:it<s.heap.objs.size:=by obtain⟨_,z,_⟩:=hit;exact Heap.lt_size z
  have kk:∀b o,b∉[e,it]->s.heap.get? b=some o->Zu.get? b=some o:=fun b o hb q=>by
   have h1:b≠e:=fun z=>hb (by simp[z])
   have h2:b≠it:=fun z=>hb (by simp[z])
   exact(NZ.2 b h1).trans (hk b o h1 h2 q)
  have aa9:Zu.get? s.heap.objs.size=some {cls:=.type "tuple",data:=.seq #[.int i s.toks,u]}:=(NZ.2 _ (ne_of_gt hlt)).trans hT
  have hn:H s.heap.objs.size=none:=I.hok.fresh (Nat.le_refl _)
  refine⟨.ref s.heap.objs.size,upd H s.heap.objs.size (.tup [.int (i:Nat),x]),?_,rfl,⟨_,x,hn,rfl,rfl,fun ys hy=>by rw[I.sL hy hq];exact hx⟩,⟨⟨u,by simpa using W5⟩,DV.at fun o q=>(NZ.2 it hei.symm).trans q⟩,fun b hb=>?_⟩
  ·refine NY (s:=s) I hf kk (fun b hb u hu=>?_) (Nat.le_refl _) ⟨(by show 2<=sizeLine;decide),[.int i s.toks,u],.cons ⟨_,rfl⟩ (.cons ru .nil),⟨_,aa9,rfl,_,rfl⟩⟩
   rcases mem_cons.mp hb with rfl|hb
   ·exact⟨_,W5⟩
   ·have z:b=it:=by simpa using hb
    subst z
    obtain⟨o,q,_⟩:=DV
    exact⟨o,(NZ.2 b hei.symm).trans q⟩
  ·rw[aj]
   ·exact(hf b hb).1
   ·rcases mem_cons.mp hb with rfl|hb
    ·exact ne_of_lt hlt
    ·have z:b=it:=by simpa using hb
     subst z
     exact ne_of_lt aa8
 done:=by
  intro X hP hw hK hc i pins s σ H E I hf st hg
  subst hP hw hK
  obtain⟨xs,hq,hx⟩:=hg
  obtain⟨its,rv,p,hz⟩:=I.list hq
  obtain⟨⟨old,he⟩,hit⟩:=st
  have hl:=rv.length
  refine wpAny_pyNext_enum_end (I.ok.hd hc) he hit p.isList (by simp;omega) fun h' eb=>⟨rfl,?_⟩
  exact zJ (fp:=[e,it]) (t':=s.toks) I hf fun b o hb q=>eb b o (fun z=>hb (by simp[z])) q
 self:=fun _ _ _ _ _ st h=>by
  obtain⟨⟨old,he⟩,_⟩:=st
  exact wpAny_pyIter_enum he h
def Itv(K:'b')(l:Addr)(n:Nat):It:=
 ⟨fun i H=>i<n/\∃xs x,cV K H l xs/\xs.length=n/\xs[n-1-i]?=some x,fun i H x H'=>H'=H/\∀xs,cV K H l xs->xs[n-1-i]?=some x,fun i H=>i=n/\∃xs,cV K H l xs⟩
theorem JW{P:Program}{w:World}{K:'b'}{tg:Expr}(l it:Addr)(n:Nat):Turn P w K tg (Itv K l n) [it] it (fun i h=>h.IsRevIter it l ((n:Int)-1-(i:Nat))) where
 mem:=by simp
 obj:=fun i h st b hb=>by
  have z:b=it:=by simpa using hb
  subst z
  obtain⟨o,e,c,d⟩:=st
  exact⟨o,e,fun v z=>by rw[d]at z;cases z⟩
 keep:=fun i h h' st k=>st.at fun o e=>k it (by simp) o e
 item:=by
  intro X hP hw hK hc i pins s σ H E I hf st hg
  subst hP hw hK
  obtain⟨hin,xs,x,hq,hl,hx⟩:=hg
  obtain⟨its,rv,p,hz⟩:=I.list hq
  obtain⟨u,hu,ru⟩:=rv.get hx
  have e1:(n:Int)-1-(i:Nat)=((n-1-i:Nat):Int):=by omega
  rw[e1]at st
  refine wpAny_pyNext_rev_item st p.isList (x:=u) (by simpa using hu) fun h' Nq sb=>?_
  have I1:Inv X pins σ H {s with heap:=h'}:=zJ (fp:=[it]) (t':=s.toks) I hf fun b o hb q=>(sb.2 b (fun z=>hb (by simp[z]))).trans q
  obtain⟨o,e,c,d⟩:=id Nq
  have e2:((n-1-i:Nat):Int)-1=(n:Int)-1-((i+1:Nat):Int):=by omega
  rw[e2]at Nq
  exact⟨u,rfl,Ji (s:={s with heap:=h'}) e c d (by decide) ⟨x,H,I1,ru,⟨rfl,fun ys hy=>by rw[I.sL hy hq];exact hx⟩,Nq,fun b hb=>(hf b hb).1⟩⟩
 done:=by
  intro X hP hw hK hc i pins s σ H E I hf st hg
  subst hP hw hK
  obtain⟨rfl,xs,hq⟩:=hg
  have e1:(i:Int)-1-(i:Nat)= -1:=by omega
  rw[e1]at st
  exact wpAny_pyNext_rev_end (I.ok.hd hc) st fun h' eb=>⟨rfl,zJ (fp:=[it]) (t':=s.toks) I hf fun b o hb q=>eb b o (fun z=>hb (by simp[z])) q⟩
 self:=fun _ _ _ _ _ st h=>wpAny_pyIter_revIter st h
section
variable{X:Cx}{E:Str->Hp->Prop}{pos:Pos}
def fE(xs:List D):List D:=xs.zipIdx.map fun p=>.tup [.int (p.2:Nat),p.1]
theorem uI{xs:List D}{i:Nat}{d:D}(h:(fE xs)[i]?=some d):∃x,xs[i]?=some x/\d=.tup [.int (i:Nat),x]:=by
 unfold fE at h
 rw[getElem?_map,List.getElem?_zipIdx]at h
 cases q:xs[i]? with
 |none=>rw[q]at h;cases h
 |some x=>
  rw[q]at h
  refine⟨x,rfl,?_⟩
  have h':some (D.tup [.int ((0+i:Nat):Int),x])=some d:=h
  rw[zero_add]at h'
  exact(Option.some.inj h').symm
theorem iE{a:Expr}{elts:List Expr}{kk:Nat}{pp p:Pos}{f:DE->R D}(hm:X.mg "enumerate"=none)(ha:PE X a (tD X.K E f))(hg:Gl X "enumerate":=by rfl)(hs:starEach [a] X.env=[(false,eval a X.env)]:=by rfl):
  PI X (.Tuple elts kk pp) (.Call (.Name "enumerate" p) [a] [] pos) (tI X.K E fun env=>(f env).bind fun d=>(vL d).bind fun xs=>.ok (fE xs)):=by
 intro pins s σ H Rr I h
 obtain⟨g,env,os,r,m⟩:=h
 have W6:PA X [a] (JJ X.K E fun env=>(f env).bind fun x=>(R.ok []).bind fun xs=>.ok (x::xs)):=au ha bw hs
 refine Call_ (gm I hg hm boot_enumerate (PyProof.Rows.callWith_type1 (cC (W6 pos pins s σ H (fun vs H1=>aN H H1/\∃d,f env=.ok d/\∃v,vs=[v]/\Is X.K (g.P os) H1 d v/\Good E g.H₀ ((vL d).bind fun xs=>.ok (fE xs)) (fun xs=>∀J H1,aN H H1->Yl X.K (g.P os) J H1 xs->Rr J H1)) I
  ⟨g,env,os,r,?_⟩) fun us s1 ⟨vs,H1,I1,r1,q1⟩=>?_) hs rfl))
 ·exact Good.Ff m.bind (fun d e q=>by
   show Good E g.H₀ (R.ok [d]) _
   exact fun vs H' s' i'=>by
    obtain⟨v,rfl,iv⟩:=IsL.y7 i'
    exact⟨s',d,e,v,rfl,iv,q⟩)
 ·obtain⟨s1',d,_,v,rfl,iv,q⟩:=q1
  cases d with
  |lst xs=>
   obtain⟨l,ws,rfl,h1,h2⟩:=iv
   obtain⟨u,rfl,ru⟩:=vals1 r1
   cases ru
   obtain⟨its,rv,pl,hz⟩:=I1.list h1.sq
   refine call_enumerate_list pl.isList fun h' he hit hsz hk=>?_
   refine wpAny_pyIter_enum he ?_
   have I2:Inv X pins σ H1 {s1 with heap:=h'}:=I1.kept (t':=s1.toks) hk
   have f1:∀b∈[s1.heap.objs.size+1,s1.heap.objs.size],nZ X pins H1 b:=fun b hb=>by
    have M6:s1.heap.objs.size<=b:=by
     simp only [mem_cons,not_mem_nil,or_false]at hb
     rcases hb with rfl|rfl<;>omega
    exact I1.G9 M6 (I1.hok.fresh M6)
   refine⟨s1.heap.objs.size+1,[s1.heap.objs.size+1,s1.heap.objs.size],_,Ite X.K l,H1,rfl,I2,Hv l _ _ (ne_of_gt (lt_succ_self _)),⟨⟨_,he⟩,hit⟩,f1,?_⟩
   refine(show∀J H1,aN H H1->Yl X.K (g.P os) J H1 (fE xs)->Rr J H1 from q) _ H1 s1' fun i H' P' ex=>⟨fun d hd=>?_,fun hi=>?_⟩
   ·obtain⟨x,hx,rfl⟩:=uI hd
    obtain⟨y,hy,iy⟩:=(IsL.ext ex _ _ h2).get hx
    refine⟨⟨ws,y,(h1.ext ex).sq,hy⟩,fun z H2 hyl=>?_⟩
    obtain⟨t,y',ht,rfl,rfl,hall⟩:=hyl
    have e2:=hall ws (h1.ext ex).sq
    rw[hy]at e2
    cases e2
    refine⟨aM ht _,t,_,rfl,.inl ⟨.inr ht,.inl ak⟩,IsL.cons rfl (IsL.one (Is.ext ⟨fun _ _ p _=>.inl p,fun a o _ e=>aM ht _ a o e⟩ _ _ iy))⟩
   ·refine⟨ws,(h1.ext ex).sq,?_⟩
    rw[IsL.length h2]
    refine le_of_eq ?_
    have:(fE xs).length=xs.length:=by simp[fE]
    omega
  |non=>exact q.elim
  |bl _=>exact q.elim
  |int _=>exact q.elim
  |str _=>exact q.elim
  |exc _=>exact q.elim
  |fn _=>exact q.elim
  |tup _=>exact q.elim
theorem p9:bootBuiltins "reversed"=some (.type "reversed"):=by decide +kernel
theorem iV{a tg:Expr}{p:Pos}{f:DE->R D}(hm:X.mg "reversed"=none)(ha:PE X a (tD X.K E f))(hg:Gl X "reversed":=by rfl)(hs:starEach [a] X.env=[(false,eval a X.env)]:=by rfl):
  PI X tg (.Call (.Name "reversed" p) [a] [] pos) (tI X.K E fun env=>(f env).bind fun d=>(vL d).bind fun xs=>.ok xs.reverse):=by
 intro pins s σ H Rr I h
 obtain⟨g,env,os,r,m⟩:=h
 have W6:PA X [a] (JJ X.K E fun env=>(f env).bind fun x=>(R.ok []).bind fun xs=>.ok (x::xs)):=au ha bw hs
 refine Call_ (gm I hg hm p9 (PyProof.Rows.callWith_type1 (cC (W6 pos pins s σ H (fun vs H1=>aN H H1/\∃d,f env=.ok d/\∃v,vs=[v]/\Is X.K (g.P os) H1 d v/\Good E g.H₀ ((vL d).bind fun xs=>.ok xs.reverse) (fun xs=>∀J H1,aN H H1->Yl X.K (g.P os) J H1 xs->Rr J H1)) I
  ⟨g,env,os,r,?_⟩) fun us s1 ⟨vs,H1,I1,r1,q1⟩=>?_) hs rfl))
 ·exact Good.Ff m.bind (fun d e q=>by
   show Good E g.H₀ (R.ok [d]) _
   exact fun vs H' s' i'=>by
    obtain⟨v,rfl,iv⟩:=IsL.y7 i'
    exact⟨s',d,e,v,rfl,iv,q⟩)
 ·obtain⟨s1',d,_,v,rfl,iv,q⟩:=q1
  cases d with
  |lst xs=>
   obtain⟨l,ws,rfl,h1,h2⟩:=iv
   obtain⟨u,rfl,ru⟩:=vals1 r1
   cases ru
   obtain⟨its,rv,pl,hz⟩:=I1.list h1.sq
   have hl:=rv.length
   have hl2:ws.length=xs.length:=IsL.length h2
   refine call_reversed_list pl.isList ?_
   have e0:((its.toArray.size:Nat):Int)-1=(xs.length:Int)-1:=by rw[size_toArray];omega
   rw[e0]
   have hit:({s1 with heap:=s1.heap.push (PySem.revObj l ((xs.length:Int)-1))}:Shared).heap.IsRevIter s1.heap.objs.size l ((xs.length:Int)-1):=⟨_,Heap.get?_push_size _ rfl,rfl,rfl⟩
   refine wpAny_pyIter_revIter hit ?_
   have I2:Inv X pins σ H1 {s1 with heap:=s1.heap.push (PySem.revObj l ((xs.length:Int)-1))}:=I1.kept (t':=s1.toks) fun b o e=>Heap.get?_push_of_some _ e
   have f1:∀b∈[s1.heap.objs.size],nZ X pins H1 b:=fun b hb=>by
    have z:b=s1.heap.objs.size:=by simpa using hb
    subst z
    exact I1.G9 (Nat.le_refl _) (I1.hok.fresh (Nat.le_refl _))
   refine⟨_,[s1.heap.objs.size],_,Itv X.K l xs.length,H1,rfl,I2,JW l _ xs.length,?_,f1,?_⟩
   ·have e1:(xs.length:Int)-1-((0:Nat):Int)=(xs.length:Int)-1:=by omega
    rw[e1];exact hit
   refine(show∀J H1,aN H H1->Yl X.K (g.P os) J H1 xs.reverse->Rr J H1 from q) _ H1 s1' fun i H' P' ex=>⟨fun d hd=>?_,fun hi=>?_⟩
   ·have hi:i<xs.length:=by
     have:=(List.getElem?_eq_some_iff.mp hd).1
     simpa using this
    rw[getElem?_reverse hi]at hd
    obtain⟨y,hy,iy⟩:=(IsL.ext ex _ _ h2).get hd
    refine⟨⟨hi,ws,y,(h1.ext ex).sq,hl2,hy⟩,fun z H2 hyl=>?_⟩
    obtain⟨rfl,hall⟩:=hyl
    have e2:=hall ws (h1.ext ex).sq
    rw[hy]at e2
    cases e2
    exact⟨aN.refl _,Is.ext ⟨fun _ _ p _=>.inl p,fun _ _ _ e=>e⟩ _ _ iy⟩
   ·exact⟨by simpa using hi.symm,ws,(h1.ext ex).sq⟩
  |non=>exact q.elim
  |bl _=>exact q.elim
  |int _=>exact q.elim
  |str _=>exact q.elim
  |exc _=>exact q.elim
  |fn _=>exact q.elim
  |tup _=>exact q.elim
end
def y8:D->String
 |.non=>"NoneType"
 |.bl _=>"bool"
 |.int _=>"int"
 |.str _=>"str"
 |.lst _=>"list"
 |.tup _=>"tuple"
 |.exc _=>"tuple"
 |.fn _=>"tuple"
def jU(t T:String):Bool:=t==T||(t=="bool"&&T=="int")
def BX(t T:String):Option Bool:=if((Value.type t)==(Value.type T))=true then some true else if PySem.W.kitMeta T=true then(fastBuiltinMro t).map (·.contains (.type T))else none
theorem N2(K:'b')(t T:String):kitOne K (.type t) (.type T)=BX t T:=rfl
def DW(T:String):Prop:=∀d:D,BX (y8 d) T=some (jU (y8 d) T)
theorem wW{T:String}(h:BX "NoneType" T=some (jU "NoneType" T)/\BX "bool" T=some (jU "bool" T)/\BX "int" T=some (jU "int" T)/\BX "str" T=some (jU "str" T)/\BX "list" T=some (jU "list" T)/\BX "tuple" T=some (jU "tuple" T)):DW T:=fun d=>by
 cases d with
 |non=>exact h.1
 |bl _=>exact h.2.1
 |int _=>exact h.2.2.1
 |str _=>exact h.2.2.2.1
 |lst _=>exact h.2.2.2.2.1
 |tup _=>exact h.2.2.2.2.2
 |exc _=>exact h.2.2.2.2.2
 |fn _=>exact h.2.2.2.2.2
theorem JX:DW "int":=wW (by decide +kernel)
theorem FA:DW "bool":=wW (by decide +kernel)
theorem FD:DW "list":=wW (by decide +kernel)
theorem JY:DW "tuple":=wW (by decide +kernel)
section
variable{X:Cx}{E:Str->Hp->Prop}{pos:Pos}
theorem S2{pins:List (Addr×Obj)}{σ:St}{H:Hp}{s:Shared}{A:Around}{E:Value->Shared->Prop}{Q:Value->Shared->Prop}{d:D}{x:V}{u:Value}{T:String}{P:Addr->Prop}(I:Inv X pins σ H s)(rx:RelV x u)(hd:Is X.K P H d x)(hne:∀n,d≠.exc n/\d≠.fn n)(kt:DW T)(h:∀tk,Q (.bool (jU (y8 d) T)) {s with toks:=tk}):
  wpAny (model X.prog X.w) A (call (.builtin "isinstance") [u,.type T]) Q E s:=by
 have e:kitOne X.K (.type (y8 d)) (.type T)=some (jU (y8 d) T):=(N2 _ _ _).trans (kt d)
 cases d with
 |non=>cases hd;exact qO I rx .non e h
 |bl b=>cases hd;exact qO I rx (.bl b) e h
 |int b=>cases hd;exact qO I rx (.int b) e h
 |str b=>cases hd;exact qO I rx (.str b) e h
 |lst ds=>
  obtain⟨a,vs,rfl,h1,h2⟩:=hd
  cases rx
  obtain⟨its,rv,⟨o,n,e1,c1,d1,t1⟩,hz⟩:=I.list h1.sq
  exact kia_one kitx_list I.qM ⟨o,e1,c1⟩ e (fun z=>nomatch z) h
 |tup ds=>
  obtain⟨a,vs,rfl,h1,h2⟩:=hd
  cases rx
  obtain⟨its,rv,⟨o,e1,c1,d1⟩,hz⟩:=I.tuple h1.sq
  exact kia_one kitx_tuple I.qM ⟨o,e1,c1⟩ e (fun z=>nomatch z) h
 |exc n=>exact((hne n).1 rfl).elim
 |fn n=>exact((hne n).2 rfl).elim
def DX(T:String)(d:D):R D:=match d with
 |.exc _=>.bad
 |.fn _=>.bad
 |d=>.ok (.bl (jU (y8 d) T))
theorem S3{T:String}{d:D}(h:∀n,d≠.exc n/\d≠.fn n):DX T d=.ok (.bl (jU (y8 d) T)):=by
 cases d with
 |exc n=>exact((h n).1 rfl).elim
 |fn n=>exact((h n).2 rfl).elim
 |_=>rfl
theorem jz:bootBuiltins "isinstance"=some (.builtin "isinstance"):=by decide +kernel
theorem JZ:bootBuiltins "int"=some (.type "int"):=by decide +kernel
theorem FE:bootBuiltins "bool"=some (.type "bool"):=by decide +kernel
theorem lS:bootBuiltins "list"=some (.type "list"):=by decide +kernel
theorem BZ:bootBuiltins "tuple"=some (.type "tuple"):=by decide +kernel
theorem cX:bootBuiltins "len"=some (.builtin "len"):=by decide +kernel
theorem J0:bootBuiltins "abs"=some (.builtin "abs"):=by decide +kernel
theorem S4:bootBuiltins "max"=some (.builtin "max"):=by decide +kernel
theorem DY{T:String}{x:Str}{p p2:Pos}{a:Expr}{f:DE->R D}(kt:DW T)(hv:bootBuiltins x=some (.type T))(hm:X.mg "isinstance"=none)(hmt:X.mg x=none)(ha:PE X a (tB X.K E f))(hg:Gl X "isinstance":=by rfl)(W7:Gl X x:=by rfl)
  (hn:x≠"__name__":=by decide)(hdb:(x==("__debug__":Str))=false:=by decide)
  (hs:starEach [a,.Name x p2] X.env=(false,eval a X.env)::starEach [.Name x p2] X.env:=by rfl)(hpl:(backTo pos (starEach [.Name x p2] X.env)).any (·.1)=false:=by rfl)(hs2:starEach [.Name x p2] X.env=(false,eval (.Name x p2) X.env)::starEach [] X.env:=by rfl):
  PE X (.Call (.Name "isinstance" p) [a,.Name x p2] [] pos) (tD X.K E fun env=>(f env).bind (DX T)):=by
 have hty:PE X (.Name x p2) (tC (.ty T)):=EY W7 hmt hv rfl hn hdb
 refine imp (fu (r:=fun xs H Q=>∃d v,xs=[v,.ty T]/\(∀n,d≠.exc n/\d≠.fn n)/\Is X.K Tr H d v/\Q (.bl (jU (y8 d) T)) H) ?_ hg hm jz (ao ha (ao hty aL hs2) hs) (by decide) (by decide) hs hpl) fun σ H Q ⟨g,env,os,r,m⟩=>⟨g,env,os,r,m.bind.mono fun d _ q v H' s i=>?_⟩
 ·intro pins s σ H xs us Q I r h
  obtain⟨d,v,rfl,hne,hd,q⟩:=h
  obtain⟨u,w,rfl,ru,lG⟩:=vals2 r
  have e:w=.type T:=lG
  subst e
  exact S2 I ru hd hne kt fun tk=>⟨.bl _,H,I.tok _,rfl,q⟩
 ·by_cases hne:∀n,d≠.exc n/\d≠.fn n
  ·rw[S3 hne]at q
   exact⟨d,v,rfl,hne,i,q _ H' s rfl⟩
  ·cases d with
   |exc n=>exact q.elim
   |fn n=>exact q.elim
   |_=>exact(hne fun n=>⟨fun z=>(nomatch z),fun z=>(nomatch z)⟩).elim
def bools:List D->Option (List Bool)
 |[]=>some []
 |.bl b::r=>(bools r).map (b::·)
 |_::_=>none
end
def PZ:D->D->Option Bool
 |.non,.non=>some true
 |.bl a,.bl b=>some (a==b)
 |.int a,.int b=>some (a==b)
 |.str a,.str b=>some (a==b)
 |.bl a,.int b=>some ((if a then 1 else 0)==b)
 |.int a,.bl b=>some (a==(if b then 1 else 0))
 |.non,.bl _=>some false
 |.non,.int _=>some false
 |.non,.str _=>some false
 |.bl _,.non=>some false
 |.bl _,.str _=>some false
 |.int _,.non=>some false
 |.int _,.str _=>some false
 |.str _,.non=>some false
 |.str _,.bl _=>some false
 |.str _,.int _=>some false
 |_,_=>none
def rG(f:D->D->Option Bool):List D->List D->Option Bool
 |x::xs,y::ys=>(f x y).bind fun b=>(rG f xs ys).map (b&&·)
 |_,_=>some true
def vP:Nat->D->D->Option Bool
 |0,x,y=>PZ x y
 |n+1,x,y=>match x,y with
  |.lst xs,.lst ys=>if xs.length=ys.length then rG (vP n) xs ys else some false
  |.tup xs,.tup ys=>(rG (vP n) xs ys).map (·&&xs.length==ys.length)
  |x,y=>PZ x y
def S5(f:D->D->Option Bool)(xs ys:List D)(j:Nat):Bool:=((xs[j]?).bind fun x=>(ys[j]?).bind fun y=>f x y).getD false
theorem xJ(n:Nat)(e:Nat->Bool):(range (n+1)).all e=(e 0&&(range n).all fun j=>e (j+1)):=by
 rw[range_succ_eq_map,all_cons,List.all_map]
 rfl
theorem uJ{f:D->D->Option Bool}:∀{xs ys:List D}{b:Bool},rG f xs ys=some b->(∀(j:Nat)(x y:D),xs[j]?=some x->ys[j]?=some y->f x y=some (S5 f xs ys j))/\b=(range (min xs.length ys.length)).all (S5 f xs ys)
 |[],ys,b,h=>by
  have h':some true=some b:=by cases ys<;>exact h
  cases h'
  exact⟨fun j x y e=>by simp at e,by simp⟩
 |x::xs,[],b,h=>by
  cases h
  exact⟨fun j x y _ e=>by simp at e,by simp⟩
 |x::xs,y::ys,b,h=>by
  unfold rG at h
  cases e1:f x y with
  |none=>rw[e1]at h;cases h
  |some c=>
   cases e2:rG f xs ys with
   |none=>rw[e1,e2]at h;cases h
   |some d=>
    rw[e1,e2]at h
    have h':(c&&d)=b:=Option.some.inj h
    obtain⟨q1,q2⟩:=uJ e2
    refine⟨fun j x' y' h1 h2=>?_,?_⟩
    ·cases j with
     |zero=>
      simp at h1 h2
      subst h1 h2
      show f x y=some (((some x).bind fun x=>(some y).bind fun y=>f x y).getD false)
      simp[e1]
     |succ j=>exact q1 j x' y' (by simpa using h1) (by simpa using h2)
    ·have e3:min (x::xs).length (y::ys).length=min xs.length ys.length+1:=by simp[Nat.succ_min_succ]
     rw[e3,xJ,<-h',q2]
     have e4:S5 f (x::xs) (y::ys) 0=c:=by
      show(((some x).bind fun x=>(some y).bind fun y=>f x y).getD false)=c
      simp[e1]
     rw[e4];rfl
section
variable{X:Cx}{pins:List (Addr×Obj)}{σ:St}{H:Hp}{s:Shared}
theorem J1{A:Around}{P:Addr->Prop}{x y:D}{v w:V}{u u':Value}{b:Bool}(hx:Is X.K P H x v)(hy:Is X.K P H y w)(rv:RelV v u)(lG:RelV w u')(e:PZ x y=some b):SeqAt.EqAt A s u u' b/\SeqAt.RcAt A s u u' b/\SeqAt.RcNeAt A s u u' (!b):=by
 unfold PZ at e
 split at e<;>first|cases e|skip
 ·cases hx;cases hy;cases rv;cases lG;exact⟨.same _,.none_none,.none_none⟩
 ·cases hx;cases hy;cases rv;cases lG;exact⟨.bool_bool _ _,.bool_bool _ _,.bool_bool _ _⟩
 ·cases hx;cases hy;obtain⟨t,rfl⟩:=rv;obtain⟨t',rfl⟩:=lG;exact⟨.int_int _ _ _ _,.int_int _ _ _ _,.int_int _ _ _ _⟩
 ·cases hx;cases hy;obtain⟨t,rfl⟩:=rv;obtain⟨t',rfl⟩:=lG;exact⟨.str_str _ _ _ _,.str_str _ _ _ _,.str_str _ _ _ _⟩
 ·cases hx;cases hy;cases rv;obtain⟨t',rfl⟩:=lG;exact⟨.bool_int _ _ _,.bool_int _ _ _,.bool_int _ _ _⟩
 ·cases hx;cases hy;obtain⟨t,rfl⟩:=rv;cases lG;exact⟨.int_bool _ _ _,.int_bool _ _ _,.int_bool _ _ _⟩
 ·cases hx;cases hy;cases rv;cases lG;exact⟨.none_bool _,.none_bool _,.none_bool _⟩
 ·cases hx;cases hy;cases rv;obtain⟨t',rfl⟩:=lG;exact⟨.none_int _ _,.none_int _ _,.none_int _ _⟩
 ·cases hx;cases hy;cases rv;obtain⟨t',rfl⟩:=lG;exact⟨.none_str _ _,.none_str _ _,.none_str _ _⟩
 ·cases hx;cases hy;cases rv;cases lG;exact⟨.bool_none _,.bool_none _,.bool_none _⟩
 ·cases hx;cases hy;cases rv;obtain⟨t',rfl⟩:=lG;exact⟨.bool_str _ _ _,.bool_str _ _ _,.bool_str _ _ _⟩
 ·cases hx;cases hy;obtain⟨t,rfl⟩:=rv;cases lG;exact⟨.int_none _ _,.int_none _ _,.int_none _ _⟩
 ·cases hx;cases hy;obtain⟨t,rfl⟩:=rv;obtain⟨t',rfl⟩:=lG;exact⟨.int_str _ _ _ _,.int_str _ _ _ _,.int_str _ _ _ _⟩
 ·cases hx;cases hy;obtain⟨t,rfl⟩:=rv;cases lG;exact⟨.str_none _ _,.str_none _ _,.str_none _ _⟩
 ·cases hx;cases hy;obtain⟨t,rfl⟩:=rv;cases lG;exact⟨.str_bool _ _ _,.str_bool _ _ _,.str_bool _ _ _⟩
 ·cases hx;cases hy;obtain⟨t,rfl⟩:=rv;obtain⟨t',rfl⟩:=lG;exact⟨.str_int _ _ _ _,.str_int _ _ _ _,.str_int _ _ _ _⟩
theorem B0{P:Addr->Prop}{x y:D}{v:V}{b:Bool}(hx:Is X.K P H x v)(hy:Is X.K P H y v)(e:PZ x y=some b):b=true:=by
 unfold PZ at e
 split at e<;>first|cases e|skip
 all_goals cases hx
 all_goals cases hy
 all_goals simp
theorem xK{P:Addr->Prop}{f:D->D->Option Bool}:∀{xs ys:List D}{vs:List V}{b:Bool},(∀x y v b,Is X.K P H x v->Is X.K P H y v->f x y=some b->b=true)->IsL X.K P H xs vs->IsL X.K P H ys vs->rG f xs ys=some b->b=true/\xs.length=ys.length
 |[],ys,vs,b,_,hx,hy,e=>by
  have e':vs=[]:=hx
  subst e'
  have:=IsL.length hy
  cases ys with
  |nil=>cases e;exact⟨rfl,rfl⟩
  |cons _ _=>simp at this
 |x::xs,[],vs,b,_,hx,hy,e=>by
  have:=IsL.length hx
  have e':vs=[]:=hy
  subst e'
  simp at this
 |x::xs,y::ys,vs,b,hf,⟨v,r,e1,p1,q1⟩,⟨v',r',e2,p2,q2⟩,e=>by
  subst e1
  cases e2
  unfold rG at e
  cases h1:f x y with
  |none=>rw[h1]at e;cases e
  |some c=>
   cases h2:rG f xs ys with
   |none=>rw[h1,h2]at e;cases e
   |some d=>
    rw[h1,h2]at e
    have e':(c&&d)=b:=Option.some.inj e
    obtain⟨z1,z2⟩:=xK hf q1 q2 h2
    have z3:=hf x y v c p1 p2 h1
    subst z1 z3 e'
    exact⟨rfl,by simp[z2]⟩
theorem sY(I:Inv X pins σ H s){P:Addr->Prop}:∀(n:Nat)(x y:D)(v:V)(b:Bool),Is X.K P H x v->Is X.K P H y v->vP n x y=some b->b=true
 |0,x,y,v,b,hx,hy,e=>B0 hx hy e
 |n+1,x,y,v,b,hx,hy,e=>by
  unfold vP at e
  split at e
  ·rename_i xs ys
   obtain⟨a,vs,rfl,h1,h2⟩:=hx
   obtain⟨a',Di,ea,h3,h4⟩:=hy
   cases ea
   have ev:=I.sL h1.sq h3.sq
   subst ev
   split at e
   ·exact(xK (sY I n) h2 h4 e).1
   ·rename_i c
    exact absurd ((IsL.length h2).symm.trans (IsL.length h4)) c
  ·rename_i xs ys
   obtain⟨a,vs,rfl,h1,h2⟩:=hx
   obtain⟨a',Di,ea,h3,h4⟩:=hy
   cases ea
   have ev:=I.G7 h1.sq h3.sq
   subst ev
   cases ez:rG (vP n) xs ys with
   |none=>rw[ez]at e;cases e
   |some c=>
    rw[ez]at e
    obtain⟨z1,z2⟩:=xK (sY I n) h2 h4 ez
    subst z1
    have e':(true&&(xs.length==ys.length))=b:=Option.some.inj e
    rw[<-e',z2];simp
  ·exact B0 hx hy e
theorem in1_units(A:Around):A.in1.units=A.units+1:=rfl
theorem FG(I:Inv X pins σ H s){P:Addr->Prop}:∀(n:Nat)(A:Around)(x y:D)(v w:V)(u u':Value)(b:Bool),A.units+n<cLine->Is X.K P H x v->Is X.K P H y w->RelV v u->RelV w u'->vP n x y=some b->SeqAt.EqAt A s u u' b/\SeqAt.RcAt A s u u' b/\SeqAt.RcNeAt A s u u' (!b)
 |0,A,x,y,v,w,u,u',b,hu,hx,hy,rv,lG,e=>J1 hx hy rv lG e
 |n+1,A,x,y,v,w,u,u',b,hu,hx,hy,rv,lG,e=>by
  have e0:=e
  unfold vP at e
  have hu1:A.in1.units+n<cLine:=by rw[in1_units];omega
  have VD:A.units<cLine:=by omega
  split at e
  ·rename_i xs ys
   have hx0:=hx
   have hy0:=hy
   obtain⟨a,vs,rfl,h1,h2⟩:=hx
   obtain⟨a',Di,rfl,h3,h4⟩:=hy
   cases rv
   cases lG
   obtain⟨its,W8,pl,hz⟩:=I.list h1.sq
   obtain⟨its',J2,S6,Zv⟩:=I.list h3.sq
   have l1:=W8.length
   have l2:=J2.length
   have l3:vs.length=xs.length:=IsL.length h2
   have l4:Di.length=ys.length:=IsL.length h4
   have main:SeqAt.RcAt A s (.ref a) (.ref a') b/\SeqAt.RcNeAt A s (.ref a) (.ref a') (!b):=by
    split at e
    ·rename_i c
     obtain⟨q1,q2⟩:=uJ e
     have hsz:its.toArray.size=its'.toArray.size:=by simp;omega
     have abf:min xs.length ys.length=its.toArray.size:=by simp;omega
     rw[abf]at q2
     subst q2
     have he:∀j (g1:j<its.toArray.size)(g2:j<its'.toArray.size),SeqAt.EqAt A.in1 s its.toArray[j] its'.toArray[j] (S5 (vP n) xs ys j):=fun j g1 g2=>by
      have j1:j<xs.length:=by simp at g1;omega
      have j2:j<ys.length:=by simp at g2;omega
      have f:=q1 j _ _ (getElem?_eq_getElem j1) (getElem?_eq_getElem j2)
      obtain⟨v1,hv1,M7⟩:=IsL.get h2 (getElem?_eq_getElem j1)
      obtain⟨v2,hv2,M8⟩:=IsL.get h4 (getElem?_eq_getElem j2)
      obtain⟨u1,S7,ru1⟩:=W8.get hv1
      obtain⟨u2,S8,ru2⟩:=J2.get hv2
      have E1:its.toArray[j]=u1:=by
       have:=List.getElem?_eq_some_iff.mp S7
       obtain⟨_,h⟩:=this
       simpa using h
      have E2:its'.toArray[j]=u2:=by
       have:=List.getElem?_eq_some_iff.mp S8
       obtain⟨_,h⟩:=this
       simpa using h
      rw[E1,E2]
      exact(FG I n A.in1 _ _ _ _ _ _ _ hu1 M7 M8 ru1 ru2 f).1
     exact⟨SeqAt.RcAt.lists pl.isList S6.isList hsz VD he,SeqAt.RcNeAt.lists pl.isList S6.isList hsz VD he⟩
    ·rename_i c
     cases e
     have hsz:(its.toArray.size !=its'.toArray.size)=true:=by simp;omega
     exact⟨SeqAt.RcAt.lists_lengths pl.isList S6.isList hsz VD,SeqAt.RcNeAt.lists_lengths pl.isList S6.isList hsz VD⟩
   refine⟨?_,main⟩
   by_cases ha:a=a'
   ·subst ha
    have:=sY I (n+1) _ _ _ _ hx0 hy0 e0
    subst this
    exact .same _
   ·exact .of_refs ha main.1
  ·rename_i xs ys
   have hx0:=hx
   have hy0:=hy
   obtain⟨a,vs,rfl,h1,h2⟩:=hx
   obtain⟨a',Di,rfl,h3,h4⟩:=hy
   cases rv
   cases lG
   obtain⟨its,W8,pl,hz⟩:=I.tuple h1.sq
   obtain⟨its',J2,S6,Zv⟩:=I.tuple h3.sq
   have l1:=W8.length
   have l2:=J2.length
   have l3:vs.length=xs.length:=IsL.length h2
   have l4:Di.length=ys.length:=IsL.length h4
   have main:SeqAt.RcAt A s (.ref a) (.ref a') b/\SeqAt.RcNeAt A s (.ref a) (.ref a') (!b):=by
    cases ez:rG (vP n) xs ys with
    |none=>rw[ez]at e;cases e
    |some c=>
     rw[ez]at e
     obtain⟨q1,q2⟩:=uJ ez
     have s1:xs.length=its.toArray.size:=by simp;omega
     have s2:ys.length=its'.toArray.size:=by simp;omega
     have e':(c&&(xs.length==ys.length))=b:=Option.some.inj e
     rw[q2]at e'
     have he:∀j (g1:j<its.toArray.size)(g2:j<its'.toArray.size),SeqAt.EqAt A.in1 s its.toArray[j] its'.toArray[j] (S5 (vP n) xs ys j):=fun j g1 g2=>by
      have j1:j<xs.length:=by simp at g1;omega
      have j2:j<ys.length:=by simp at g2;omega
      have f:=q1 j _ _ (getElem?_eq_getElem j1) (getElem?_eq_getElem j2)
      obtain⟨v1,hv1,M7⟩:=IsL.get h2 (getElem?_eq_getElem j1)
      obtain⟨v2,hv2,M8⟩:=IsL.get h4 (getElem?_eq_getElem j2)
      obtain⟨u1,S7,ru1⟩:=W8.get hv1
      obtain⟨u2,S8,ru2⟩:=J2.get hv2
      have E1:its.toArray[j]=u1:=by
       have:=List.getElem?_eq_some_iff.mp S7
       obtain⟨_,h⟩:=this
       simpa using h
      have E2:its'.toArray[j]=u2:=by
       have:=List.getElem?_eq_some_iff.mp S8
       obtain⟨_,h⟩:=this
       simpa using h
      rw[E1,E2]
      exact(FG I n A.in1 _ _ _ _ _ _ _ hu1 M7 M8 ru1 ru2 f).1
     subst e'
     have R1:=SeqAt.RcAt.tuples (A:=A) (e:=S5 (vP n) xs ys) pl S6 VD he
     have R2:=SeqAt.RcNeAt.tuples (A:=A) (e:=S5 (vP n) xs ys) pl S6 VD he
     rw[<-s1,<-s2]at R1 R2
     exact⟨R1,R2⟩
   refine⟨?_,main⟩
   by_cases ha:a=a'
   ·subst ha
    have:=sY I (n+1) _ _ _ _ hx0 hy0 e0
    subst this
    exact .same _
   ·exact .of_refs ha main.1
  ·exact J1 hx hy rv lG e
end
section
variable{X:Cx}{E:Str->Hp->Prop}{pos:Pos}
def N3(K:'b')(ne:Bool):R2:=fun v w H Q=>∃x y b,Is K Tr H x v/\Is K Tr H y w/\vP 6 x y=some b/\Q (.bl (if ne=true then !b else b)) H
theorem cJ(hu:X.A.units+6<cLine):sM X (compareOp .Eq) (N3 X.K false):=by
 intro pins s σ H v w u u' Q I rx ry h
 obtain⟨x,y,b,hx,hy,e,q⟩:=h
 exact(FG I 6 X.A x y v w u u' b hu hx hy rx ry e).2.1 X.prog X.w _ _ ⟨.bl b,H,I,rfl,q⟩
theorem kR(hu:X.A.units+6<cLine):sM X (compareOp .NotEq) (N3 X.K true):=by
 intro pins s σ H v w u u' Q I rx ry h
 obtain⟨x,y,b,hx,hy,e,q⟩:=h
 exact(FG I 6 X.A x y v w u u' b hu hx hy rx ry e).2.2 X.prog X.w _ _ ⟨.bl (!b),H,I,rfl,q⟩
def sJ(x y:D):Option D:=(vP 6 x y).map .bl
def xM(x y:D):Option D:=(vP 6 x y).map fun b=>.bl (!b)
theorem bC:nc X (N3 X.K false) sJ:=fun x y d e=>by
 unfold sJ at e
 cases h:vP 6 x y with
 |none=>rw[h]at e;cases e
 |some b=>
  rw[h]at e;cases e
  exact⟨_,rfl,fun H v w Q i1 i2 q=>⟨x,y,b,i1,i2,h,q⟩⟩
theorem iF:nc X (N3 X.K true) xM:=fun x y d e=>by
 unfold xM at e
 cases h:vP 6 x y with
 |none=>rw[h]at e;cases e
 |some b=>
  rw[h]at e;cases e
  exact⟨_,rfl,fun H v w Q i1 i2 q=>⟨x,y,b,i1,i2,h,q⟩⟩
theorem aY.u6 {k:Nat}{A:Around}(r:aY k A):A.units+6<cLine:=by have:=r.un;omega
end
def Kp(nt:Nat)(b:D->DE->R DE):Prop:=∀(d:D)(r ts e':DE),ts.length=nt->b d (ts++r)=.ok e'->∃W9,e'=W9++r/\W9.length=nt
def P1(nt:Nat)(b:List D->DE->R DE):Prop:=∀(d:List D)(r ts e':DE),ts.length=nt->b d (ts++r)=.ok e'->∃W9,e'=W9++r/\W9.length=nt
theorem kpN{nt:Nat}(i:Nat)(hi:i<nt:=by decide):Kp nt fun d env=>.ok (env.set i (.val d)):=fun d r ts e' hl h=>by
 cases h
 exact⟨ts.set i (.val d),by rw[List.set_append_left _ _ 'a'],by simp[hl]⟩
theorem Xa{nt:Nat}:P1 nt fun ds env=>match ds with
  |[]=>.ok env
  |_=>.bad:=fun d r ts e' hl h=>by
 cases d with
 |nil=>cases h;exact⟨ts,rfl,hl⟩
 |cons _ _=>cases h
theorem S9{nt:Nat}{b:D->DE->R DE}{k:List D->DE->R DE}(hb:Kp nt b)(hk:P1 nt k):P1 nt fun ds env=>match ds with
   |d::r=>(b d env).bind fun e'=>k r e'
   |_=>.bad:=fun d r ts e' hl h=>by
 cases d with
 |nil=>cases h
 |cons x xs=>
  obtain⟨e1,h1,h2⟩:=R.dZ (show(b x (ts++r)).bind (fun e'=>k xs e')=.ok e' from h)
  obtain⟨t1,rfl,l1⟩:=hb x r ts e1 hl h1
  exact hk xs r t1 e' l1 h2
theorem kpT{nt n:Nat}{b:List D->DE->R DE}(hb:P1 nt b):Kp nt fun d env=>match d with
   |.tup ds=>if ds.length=n then b ds env else .bad
   |_=>.bad:=fun d r ts e' hl h=>by
 cases d with
 |tup ds=>
  have h':(if ds.length=n then b ds (ts++r)else .bad)=.ok e':=h
  split at h'
  ·exact hb ds r ts e' hl h'
  ·cases h'
 |non=>cases h
 |bl _=>cases h
 |int _=>cases h
 |str _=>cases h
 |lst _=>cases h
 |exc _=>cases h
 |fn _=>cases h
theorem Kp.ok {nt:Nat}{b:D->DE->R DE}(h:Kp nt b):∀ds d e,b d (jf nt ds)=.ok e->∃ts,e=ts++ds.map Sl.val/\ts.length=nt:=fun ds d e q=>h d _ _ e (by simp) q
structure Df(K:'b')(mg:Str->Option Value)(x:Str)(st:Stmt)(ps:List Str)(f:Addr)(fd:FuncData):Prop where
 F:Bq K x x st f fd
 b:Binds K fd ps []
 m:mg x=some (.ref f)
 ns:nsIn K mainGlobals x=some (some (.ref f))
abbrev IU:Str->Value:=fun _=>.none
section
variable{X:Cx}{E:Str->Hp->Prop}{pos:Pos}{k:Nat}{fa:Addr}{fd:FuncData}{st:Stmt}{ps:List Str}{x:Str}{p:Pos}{e:Expr}{es:List Expr}{f:DE->R (List D)}
theorem N4{m:List D->R D}(d:Df X.K X.mg x st ps fa fd)(F:b8 X.prog X.w X.K X.mg X.base lI k fa fd ps (Fq X.K IU m))(hr:aY k X.A)
  (ha:PA X (e::es) (JJ X.K E f))(hg:Gl X x:=by rfl)(hdb:(x==("__debug__":Str))=false:=by decide)(he:'e':=by rfl)(hpl:(backTo pos (starEach es X.env)).any (·.1)=false:=by rfl):
  PE X (.Call (.Name x p) (e::es) [] pos) (tD X.K E fun env=>(f env).bind m):=fD F d.m d.F.kp d.b hr lR ha hg hdb he hpl
def M9(m:List D->R D):Prop:=∀ds d,m ds=.ok d->∃z,toV d=some z
def ScL(m:List D->R (List D)):Prop:=∀ds xs,m ds=.ok xs->∀d∈xs,∃z,toV d=some z
theorem DZ{m:List D->R D}(hsc:M9 m)(d:Df X.K X.mg x st ps fa fd)(F:b8 X.prog X.w X.K X.mg X.base lI k fa fd ps (Fq X.K IU m))(hr:aY k X.A)
  (ha:PA X (e::es) (rC X.K E f))(hg:Gl X x:=by rfl)(hdb:(x==("__debug__":Str))=false:=by decide)(he:'e':=by rfl)(hpl:(backTo pos (starEach es X.env)).any (·.1)=false:=by rfl):
  PE X (.Call (.Name x p) (e::es) [] pos) (tD X.K E fun env=>(f env).bind m):=fB F hsc d.m d.F.kp d.b hr lR ha hg hdb he hpl
theorem wX{m:List D->R (List D)}(d:Df X.K X.mg x st ps fa fd)(F:b8 X.prog X.w X.K X.mg X.base lI k fa fd ps (M4 X.K IU m))(hr:aY k X.A)
  (ha:PA X (e::es) (JJ X.K E f))(hg:Gl X x:=by rfl)(hdb:(x==("__debug__":Str))=false:=by decide)(he:'e':=by rfl)(hpl:(backTo pos (starEach es X.env)).any (·.1)=false:=by rfl):
  PE X (.Call (.Name x p) (e::es) [] pos) (tF X.K E fun env=>(f env).bind m):=fF F d.m d.F.kp d.b hr lR ha hg hdb he hpl
theorem abi{m:List D->R (List D)}(hsc:ScL m)(d:Df X.K X.mg x st ps fa fd)(F:b8 X.prog X.w X.K X.mg X.base lI k fa fd ps (M4 X.K IU m))(hr:aY k X.A)
  (ha:PA X (e::es) (rC X.K E f))(hg:Gl X x:=by rfl)(hdb:(x==("__debug__":Str))=false:=by decide)(he:'e':=by rfl)(hpl:(backTo pos (starEach es X.env)).any (·.1)=false:=by rfl):
  PE X (.Call (.Name x p) (e::es) [] pos) (tF X.K E fun env=>(f env).bind m):=fFB F hsc d.m d.F.kp d.b hr lR ha hg hdb he hpl
end
abbrev Ok(P:Program)(w:World)(K:'b')(mg:Str->Option Value)(base:Heap)(k:Nat)(f:Addr)(fd:FuncData)(ps:List Str)(m:List D->R D):Prop:=b8 P w K mg base lI k f fd ps (Fq K IU m)
abbrev lH(P:Program)(w:World)(K:'b')(mg:Str->Option Value)(base:Heap)(k:Nat)(f:Addr)(fd:FuncData)(ps:List Str)(m:List D->R (List D)):Prop:=b8 P w K mg base lI k f fd ps (M4 K IU m)
section
variable{P:Program}{w:World}{K:'b'}{mg:Str->Option Value}{base:Heap}
theorem mkD{x:Str}{st:Stmt}{f:Addr}{fd:FuncData}{N ps:List Str}{k:Nat}{m:List D->R D}{b:DE->R Out}(S:aA N ps (ae st))(d:Df K mg x st ps f fd)
  (hb:∀(cdv:Value)(A:Around)(outer:List Env)(s:Shared)(H:Hp)(E:XK),aY k (A.deeper (envOfC x (ae st) s.heap.objs.size f cdv))->rB (dD lI P w K mg base N x (ae st) f cdv A outer s H E).G8 (bE st) (tS K EN b))
  (hm:∀ds d,m ds=.ok d->ds.length=ps.length/\(b (aJ N.length ds)).bind ah=.ok d)(hne:∀ds c,m ds≠.err c):
  Ok P w K mg base (k+1) f fd ps m:=aaT d.F S hm hne hb
theorem mkF{x:Str}{st:Stmt}{f:Addr}{fd:FuncData}{N ps:List Str}{k:Nat}{m:List D->R (List D)}{b:DE->R Out}(S:aA N ps (ae st))(d:Df K mg x st ps f fd)
  (hb:∀(cdv:Value)(A:Around)(outer:List Env)(s:Shared)(H:Hp)(E:XK),aY k (A.deeper (envOfC x (ae st) s.heap.objs.size f cdv))->rB (dD lI P w K mg base N x (ae st) f cdv A outer s H E).G8 (bE st) (tS K EN b))
  (hm:∀ds d,m ds=.ok d->ds.length=ps.length/\(b (aJ N.length ds)).bind ai=.ok d)(hne:∀ds c,m ds≠.err c):
  lH P w K mg base (k+1) f fd ps m:=aaU d.F S hm hne hb
end
section
variable{X:Cx}{E:Str->Hp->Prop}{pos:Pos}
def zK(x y:D):Option D:=match y with
 |.non=>some (.bl (match x with
  |.non=>false
  |_=>true))
 |_=>none
theorem N5{K:'b'}{P:Addr->Prop}{H:Hp}{x:D}{v:V}(h:Is K P H x v):decide (v=V.non)=(match x with
  |.non=>true
  |_=>false):=by
 cases x with
 |non=>cases h;rfl
 |bl _=>cases h;rfl
 |int _=>cases h;rfl
 |str _=>cases h;rfl
 |lst _=>obtain⟨a,vs,rfl,_⟩:=h;rfl
 |tup _=>obtain⟨a,vs,rfl,_⟩:=h;rfl
 |exc _=>obtain⟨a,vs,rfl,_⟩:=h;rfl
 |fn _=>obtain⟨a,rfl,_⟩:=h;rfl
theorem B1:nc X (fun x y H Q=>y=.non/\Q (.bl (!decide (x=.non))) H) zK:=fun x y d e=>by
 unfold zK at e
 split at e
 ·cases e
  refine⟨_,rfl,fun H v w Q h1 h2 q=>⟨h2,?_⟩⟩
  rw[N5 h1]
  cases x<;>exact q
 ·cases e
def N6(xs:List D):D->R (List D)
 |.int k=> @ite _ (-(2^63)<=k/\k<2^63/\xs.length*k.toNat<=sizeLine) (propDecidable _) (.ok (replicate k.toNat xs).flatten) .bad
 |_=>.bad
theorem IsL.rep {K:'b'}{P:Addr->Prop}{H:Hp}{ds:List D}{vs:List V}(h:IsL K P H ds vs):∀n:Nat,IsL K P H (replicate n ds).flatten (replicate n vs).flatten
 |0=>rfl
 |n+1=>by
  rw[replicate_succ,replicate_succ,flatten_cons,flatten_cons]
  exact h.app (IsL.rep h n)
theorem abj{a b:Expr}{fa:DE->R (List D)}{fb:DE->R D}(ha:PE X a (tF X.K E fa))(hb:PE X b (tB X.K E fb)):PE X (.BinOp a .Mult b pos) (tF X.K E fun env=>(fa env).bind fun x=>(fb env).bind fun y=>N6 x y):=
 imp (sN Sg ha hb) fun σ H Q ⟨g,env,os,r,m⟩=>⟨g,env,os,r,m.bind.mono fun x _ m1 a1 v1 H1 s1 hn hH i1=>⟨g,env,os,r.same s1,m1.bind.mono fun y _ m2 w H2 s2 i2=>by
  unfold N6 at m2
  split at m2
  ·rename_i k _
   split at m2
   ·rename_i c
    have Vx:IsL X.K (g.P os) H1 x v1:=IsL.ext ⟨fun b o p _=>⟨p.1,fun z=>p.2 (mem_cons_of_mem _ z)⟩,fun _ _ _ q=>q⟩ _ _ i1
    refine⟨a1,k,v1,rfl,i2,s2 _ _ hH,c.1,c.2.1,by rw[Vx.length];exact c.2.2,fun p hp=>?_⟩
    obtain⟨b1,b2,b3,b4⟩:=DT r (s1.trans s2) hp ((Vx.same s2).rep k.toNat)
    exact m2 p _ _ b1 b2 b3 b4
   ·exact m2.elim
  ·exact m2.elim⟩⟩
theorem xN:bootBuiltins "range"=some (.type "range"):=by decide +kernel
def iG:List D->R (List D)
 |[.int j]=> @ite _ (0<=j/\j<=1000000) (propDecidable _) (.ok (je 0 j.toNat)) .bad
 |_=>.bad
theorem N7{K:'b'}{P:Addr->Prop}{H:Hp}{n:Nat}:IsL K P H (je 0 n) ((range n).map fun i=>V.int (0+(i:Nat))):=by
 unfold je
 induction (range n)with
 |nil=>rfl
 |cons x r ih=>exact⟨_,_,rfl,rfl,ih⟩
theorem y9{acc:List Value}{n:Nat}(h1:acc.length=n)(h2:∀(j:Nat)(v:Value),acc[j]?=some v->∃t,v=.int (0+(j:Nat)) t):Vals ((range n).map fun i=>V.int (0+(i:Nat))) acc:=by
 have gen:∀(l:List Value)(k:Nat),(∀(j:Nat)(v:Value),l[j]?=some v->∃t,v=.int (0+((k+j:Nat):Int)) t)->Vals ((range' k l.length).map fun i=>V.int (0+(i:Nat))) l:=by
  intro l
  induction l with
  |nil=>intro k _;exact .nil
  |cons x r ih=>
   intro k hk
   rw[length_cons,range'_succ,map_cons]
   refine .cons ?_ (ih (k+1) fun j v e=>?_)
   ·obtain⟨t,e⟩:=hk 0 x (by simp)
    exact⟨t,e⟩
   ·obtain⟨t,e⟩:=hk (j+1) v (by simpa using e)
    exact⟨t,by rw[e];congr 2;omega⟩
 subst h1
 rw[List.range_eq_range']
 exact gen acc 0 fun j v e=>by
  obtain⟨t,q⟩:=h2 j v e
  exact⟨t,by rw[q];congr 2;omega⟩
theorem uK{a:Expr}{p p2 ni:Pos}{f:DE->R (List D)}(hc:X.calm=true)(Hw:X.mg "list"=none)(Tc:X.mg "range"=none)(ha:PA X [a] (rC X.K E f))(Td:Gl X "list":=by rfl)(hgr:Gl X "range":=by rfl)
  (hs:starEach [a] X.env=[(false,eval a X.env)]:=by rfl)(he:starEach [.Call (.Name "range" p2) [a] [] ni] X.env=(false,eval (.Call (.Name "range" p2) [a] [] ni) X.env)::starEach [] X.env:=by rfl)(hpl:(backTo pos (starEach [] X.env)).any (·.1)=false:=by rfl):
  PE X (.Call (.Name "list" p) [.Call (.Name "range" p2) [a] [] ni] [] pos) (tF X.K E fun env=>(f env).bind iG):=by
 intro pins s σ H Q I h
 obtain⟨g,env,os,r,m⟩:=h
 refine wpAny_Call_Name_kw (gm I Td Hw lS ?_)
 refine PyProof.Rows.callWith_type1 ?_ he hpl
 rw[he]
 refine Calls.spliced_cons ?_
 refine Call_ (gm I hgr Tc xN (PyProof.Rows.callWith_type1 (cC (ha ni pins s σ H _ I ⟨g,env,os,r,m.bind.mono fun ds _ q vs H1 s1 i1=>(⟨ds,s1,i1,q⟩:∃ds,aN H H1/\IsL X.K Tr H1 ds vs/\Good E g.H₀ (iG ds) _)⟩) fun us s1 ⟨vs,H1,I1,r1,ds,sm,i1,q⟩=>?_) hs rfl))
 unfold iG at q
 split at q
 ·rename_i j
  split at q
  ·rename_i c
   obtain⟨v,rfl,iv⟩:=IsL.y7 i1
   have Xb:v=.int j:=iv
   subst Xb
   obtain⟨u,rfl,t,rfl⟩:=vals1 r1
   refine call_range_1 ?_
   have I2:Inv X pins σ H1 {s1 with heap:=s1.heap.push {cls:=.type "range",data:=.fields #[.int 0 s1.toks,.int j t,.int 1 (s1.toks+1)]},toks:=s1.toks+1+1}:=I1.kept fun b o e=>Heap.get?_push_of_some _ e
   refine Calls.spliced_nil ?_
   have hd:X.A.handled=none:=I.ok.hd hc
   have hsz:Builtin.Range.rangeSize 0 j 1=(j.toNat:Nat):=by rw[rangeSize_one];split<;>omega
   refine call_list_range hd (IsRange.new ..) (small_one 'a' 'a' 'a' 'a') hsz 'a' fun h' tk fg c' hk hl hit=>?_
   obtain⟨hi1,hi2⟩:=hit
   have hv:Vals ((range j.toNat).map fun i=>V.int (0+(i:Nat))) fg.toList:=y9 (by simpa using hi1) fun i v e=>by
    obtain⟨t,q⟩:=hi2 i v (by simpa using e)
    exact⟨t,by rw[q];congr 1;omega⟩
   have hlen:((range j.toNat).map fun i=>V.int (0+(i:Nat))).length<=sizeLine:=by
    rw[length_map,length_range]
    exact le_trans (show j.toNat<=1000000 by omega) (by decide)
   refine⟨.ref _,upd H1 _ (.lst ((range j.toNat).map fun i=>V.int (0+(i:Nat)))),I2.laid (a:=_) hk (Nat.le_refl _) ⟨hlen,fg.toList,c',hv,by simpa using hl⟩,rfl,?_⟩
   have hn:H1 (s1.heap.push {cls:=.type "range",data:=.fields #[.int 0 s1.toks,.int j t,.int 1 (s1.toks+1)]}).objs.size=none:=I2.hok.fresh (Nat.le_refl _)
   exact q _ _ _ (sm.trans (aM hn _)) (sm.free hn) ak N7
  ·exact q.elim
 ·exact q.elim
end
def gZ:D->D->Option D
 |.int i,.int j=>some (.int (i+j))
 |_,_=>none
theorem bW{X:Cx}:nc X (E4 fun i j=>.int (i+j)) gZ:=pZ (h:=fun i j=>.int (i+j)) (fun _ _=>rfl) fun x y d e=>by
 unfold gZ at e
 split at e<;>cases e
 exact⟨_,_,rfl,rfl,rfl⟩
def P4(P5 sc:Scope)(XN N:List Str)(nt:Nat)(caps:List Nat):Bool:=
 sc.kind==.function&&sc.names.all (fun y=>y.2 !=.cell&&(y.2 !=.local||sc.names.lookup y.1==some .local)&&(y.2 !=.free||P5.names.lookup y.1==some .cell||P5.names.lookup y.1==some .free))&&
 N.length==nt+caps.length&&decide N.Nodup&&(range caps.length).all fun j=>match caps[j]?,N[nt+j]? with
  |some i,some x=>XN[i]?==some x&&sc.names.lookup x==some .free&&(P5.names.lookup x==some .local||P5.names.lookup x==some .cell||P5.names.lookup x==some .free)
  |_,_=>false
theorem Hz{X:Cx}{sc:Scope}{N:List Str}{nt:Nat}{caps:List Nat}(P5:Scope)(XN:List Str)(h:P4 P5 sc XN N nt caps=true)(hsc:X.env.scope=P5:=by rfl)(hN:X.N=XN:=by rfl):iD X sc N nt caps:=by
 subst hsc hN
 unfold P4 at h
 simp only [and_eq_true,List.all_eq_true,or_eq_true,decide_eq_true_eq,beq_iff_eq,bne_iff_ne,ne_eq]at h
 obtain⟨⟨⟨⟨h1,h2⟩,h3⟩,h4⟩,h5⟩:=h
 refine⟨by simpa using h1,fun y hy=>(h2 y hy).1.1,fun y hy e=>?_,fun y hy e=>?_,h3,h4,fun j i e=>?_⟩
 ·rcases(h2 y hy).1.2 with q|q
  ·exact absurd e q
  ·exact q
 ·rcases(h2 y hy).2 with(q|q)|q
  ·exact absurd e q
  ·exact .inl q
  ·exact .inr q
 ·have hj:j<caps.length:=(List.getElem?_eq_some_iff.mp e).1
  have q:=h5 j (by simpa using hj)
  rw[e]at q
  cases hx:N[nt+j]? with
  |none=>rw[hx]at q;exact absurd q (by simp)
  |some x=>
   rw[hx]at q
   simp only [and_eq_true,or_eq_true,beq_iff_eq]at q
   obtain⟨⟨q1,q2⟩,q3⟩:=q
   refine⟨x,rfl,q1,q2,?_⟩
   rcases q3 with(q3|q3)|q3
   ·exact .inl q3
   ·exact .inr (.inl q3)
   ·exact .inr (.inr q3)
def Te(i:Nat):Out->R Out
 |.nx e=>.ok (.nx (nW i e))
 |o=>.ok o
theorem Xd{X:Cx}{E:Str->Hp->Prop}(i:Nat){st:Stmt}{f:DE->R Out}(h:PS X st (tS X.K E f)):PS X st (tS X.K E fun env=>(f env).bind (Te i)):=lJ h fun De σ H ⟨g,env,os,r,m⟩=>
 ⟨g,env,os,r,m.bind.mono fun o _ q=>by
  cases o with
  |nx e=>
   intro σ' H' gu r' z
   have q':gk X.K g H os De (.nx (nW i e)):=q
   unfold nW at q'
   split at q'
   ·rename_i xs he
    obtain⟨PQ,r2,hs⟩:=r'.Fg he
    exact q' σ' H' PQ r2 (z.trans ⟨fun a ha=>.inl (hs a ha),fun _ h=>h,fun _ _ _ h=>h⟩)
   ·exact q' σ' H' gu r' z
  |bk e=>exact q
  |ct e=>exact q
  |rt d=>exact q
  |pX xs=>exact q
  |IQ xs=>exact q
  |Ht xs=>exact q
  |IP xs=>exact q
  |BQ xs=>exact q⟩
theorem AG(i j:Int):gZ (.int i) (.int j)=some (.int (i+j)):=rfl
theorem J3(i j:Int):gp (.int i) (.int j)=some (.int (i-j)):=rfl
theorem Ka(i:Int):pY (.int i)=some (.int (-i)):=rfl
theorem P6(i j:Int):MZ (.int i) (.int j)=some (.bl (decide (i<j))):=rfl
theorem P7(i j:Int):Zl (.int i) (.int j)=some (.bl (decide (i<=j))):=rfl
theorem P8(i j:Int):Dj (.int i) (.int j)=some (.bl (decide (j<i))):=rfl
theorem P9(i j:Int):kGe (.int i) (.int j)=some (.bl (decide (j<=i))):=rfl
theorem Qa(i j:Int):sJ (.int i) (.int j)=some (.bl (i==j)):=rfl
theorem Qc(i j:Int):xM (.int i) (.int j)=some (.bl (!(i==j))):=rfl
theorem Qd(i j:Str):sJ (.str i) (.str j)=some (.bl (i==j)):=rfl
theorem Qe(i j:Str):xM (.str i) (.str j)=some (.bl (!(i==j))):=rfl
theorem D0(i j:Int)(h:(-(2^64)<i/\i<2^64)\/(-(2^64)<j/\j<2^64)):Hu (.int i) (.int j)=some (.int (i*j)):=if_pos h
theorem mC(i j:Int)(h:0<j/\j<1073741824):uE (.int i) (.int j)=some (.int (i/j)):=if_pos h
theorem dF(i j:Int)(h:0<j):ki (.int i) (.int j)=some (.int (i%j)):=if_pos h
theorem Kb(i j:Int)(h:0<=j/\j<=1000000/\i.natAbs<2^64):DS (.int i) (.int j)=some (.int (i^j.toNat)):=if_pos h
theorem abk:(10:Int)^(9:Nat)=1000000000:=by
 rw[show(10:Int)=((10:Nat):Int)from rfl,<-Int.natCast_pow]
 rfl
theorem Xe:(10:Int)^(9:Int).toNat=1000000000:=abk
theorem Kc:DS (.int 10) (.int 9)=some (.int 1000000000):=(Kb 10 9 (by decide)).trans (by rw[Xe])
theorem Kd(i:Int):JL [.int i]=some (.int (if i<0 then-i else i)):=rfl
theorem FH(i j:Int):Fp [.int i,.int j]=some (.int (if j>i then j else i)):=rfl
theorem Ke(xs:List D):lL [.lst xs]=some (.int xs.length):=rfl
theorem Kf(xs:List D):lL [.tup xs]=some (.int xs.length):=rfl
theorem Qf(b:Bool):dX (.bl b)=.ok b:=rfl
theorem Qg(xs:List D):vL (.lst xs)=.ok xs:=rfl
theorem Qh(i:Int):Fl (.int i)=.ok (some i):=rfl
theorem Qi(xs:List D)(i:Int):uG xs (.int i)=R.of (iC xs i):=rfl
theorem Qj(xs:List D)(i:Int):xG (.lst xs) (.int i)=R.of (iC xs i):=rfl
theorem Qk(xs:List D)(i:Int):xG (.tup xs) (.int i)=R.of (iC xs i):=rfl
theorem qb{α:Type}{xs:List α}(h:xs.length<=sizeLine):fit xs=.ok xs:=if_pos h
theorem big{n:Nat}(h:n<=1000000):n<=sizeLine:=le_trans h (by decide)
theorem Xf{α:Type}:fit ([]:List α)=.ok []:=qb (big (by simp))
theorem Xg{α:Type}(a:α):fit [a]=.ok [a]:=qb (big (by simp))
theorem Xh{α:Type}(a b:α):fit [a,b]=.ok [a,b]:=qb (big (by simp))
theorem Xi{α:Type}(a b c:α):fit [a,b,c]=.ok [a,b,c]:=qb (big (by simp))
theorem Xj{α:Type}(a b c d:α):fit [a,b,c,d]=.ok [a,b,c,d]:=qb (big (by simp))
theorem Kg(j:Int)(h: -(2^62)<=j/\j<2^62):JP [.int j]=.ok (je 0 j.toNat):=if_pos h
theorem uL(i j:Int)(h: -(2^62)<=i/\i<2^62/\ -(2^62)<=j/\j<2^62):BU [.int i,.int j]=.ok (je i (j-i).toNat):=if_pos h
theorem jm(j:Int)(h:0<=j/\j<=1000000):iG [.int j]=.ok (je 0 j.toNat):=if_pos h
theorem Tf(xs:List D)(k:Int)(h: -(2^63)<=k/\k<2^63/\xs.length*k.toNat<=sizeLine):N6 xs (.int k)=.ok (replicate k.toNat xs).flatten:=if_pos h
theorem FI(e:DE)(k:DE->R Out):aT (.ok (.nx e)) k=k e:=rfl
theorem FJ(d:D)(k:DE->R Out):aT (.ok (.rt d)) k=.ok (.rt d):=rfl
theorem B3(d:List D)(k:DE->R Out):aT (.ok (.pX d)) k=.ok (.pX d):=rfl
theorem FN(i:Nat)(e:DE):Te i (.nx e)=.ok (.nx (nW i e)):=rfl
theorem sj{S:Type}{b:D->DE->R Out}(J:Nat->S->Prop)(Ev:S->DE):∀(xs:List D)(i:Nat)(s:S),J i s->(∀(j:Nat)(s:S)(x:D),J (i+j) s->xs[j]?=some x->∃s',b x (Ev s)=.ok (.nx (Ev s'))/\J (i+j+1) s')->∃s',cW b xs (Ev s)=.ok (.nx (Ev s'))/\J (i+xs.length) s'
 |[],i,s,hI,h=>⟨s,rfl,hI⟩
 |x::xs,i,s,hI,h=>by
  obtain⟨s1,h1,h2⟩:=h 0 s x hI rfl
  obtain⟨s2,h3,h4⟩:=sj J Ev xs (i+1) s1 (by simpa using h2) fun j s y hs hy=>by
   have e:i+1+j=i+(j+1):=by omega
   rw[e]at hs⊢
   exact h (j+1) s y hs (by simpa using hy)
  refine⟨s2,?_,by rw[length_cons,show i+(xs.length+1)=i+1+xs.length by omega];exact h4⟩
  unfold cW
  rw[h1]
  exact h3
theorem kH{b:D->DE->R DE}{ct:DE->R Bool}{fe:DE->R D}{e₀:DE}(g:D->D):∀(xs:List D),(∀x∈xs,∃e,b x e₀=.ok e/\ct e=.ok true/\fe e=.ok (g x))->cG b ct fe e₀ xs=.ok (xs.map g)
 |[],_=>rfl
 |x::xs,h=>by
  obtain⟨e,h1,h2,h3⟩:=h x (by simp)
  have ih:=kH g xs fun y hy=>h y (by simp[hy])
  unfold cG
  rw[h1,R.bF,h2,R.bF,if_pos rfl,h3,R.bF,ih]
  rfl
def aI(ns:List Int):List D:=ns.map .int
theorem bf(ns:List Int):(aI ns).length=ns.length:=length_map _
def B4:List D->Option (List Int)
 |[]=>some []
 |.int i::r=>(B4 r).map (i::·)
 |_::_=>none
theorem uM(ns:List Int):B4 (aI ns)=some ns:=by
 induction ns with
 |nil=>rfl
 |cons x r ih=>show(B4 (aI r)).map (x::·)=_;rw[ih];rfl
theorem uN:∀{xs:List D}{ns:List Int},B4 xs=some ns->xs=aI ns
 |[],ns,h=>by cases h;rfl
 |.int i::r,ns,h=>by
  unfold B4 at h
  cases e:B4 r with
  |none=>rw[e]at h;cases h
  |some ms=>rw[e]at h;cases h;rw[uN e];rfl
 |.non::r,_,h=>by cases h
 |.bl _::r,_,h=>by cases h
 |.str _::r,_,h=>by cases h
 |.lst _::r,_,h=>by cases h
 |.tup _::r,_,h=>by cases h
theorem zL(n:Nat):∀(a b:List Int),a.length=b.length->rG (vP n) (aI a) (aI b)=some (decide (a=b))
 |[],[],_=>rfl
 |[],_::_,h=>by simp at h
 |_::_,[],h=>by simp at h
 |x::a,y::b,h=>by
  have ih:=zL n a b (by simpa using h)
  show(vP n (.int x) (.int y)).bind _=_
  have e:vP n (.int x) (.int y)=some (x==y):=by cases n<;>rfl
  rw[e]
  show(rG (vP n) (aI a) (aI b)).map ((x==y)&&·)=_
  rw[ih]
  show some ((x==y)&&decide (a=b))=some (decide (x::a=y::b))
  congr 1
  rw[Bool.eq_iff_iff]
  simp
theorem B5(n:Nat)(a b:List Int):vP (n+1) (.lst (aI a)) (.lst (aI b))=some (decide (a=b)):=by
 show(if(aI a).length=(aI b).length then rG (vP n) (aI a) (aI b)else some false)=_
 split
 ·rename_i h
  exact zL n a b (by simpa[bf]using h)
 ·rename_i h
  congr 1
  symm
  rw[decide_eq_false_iff_not]
  rintro rfl
  exact h rfl
theorem xO(a b:List Int):sJ (.lst (aI a)) (.lst (aI b))=some (.bl (decide (a=b))):=by unfold sJ;rw[B5];rfl
theorem sZ(a b:List Int):xM (.lst (aI a)) (.lst (aI b))=some (.bl (!decide (a=b))):=by unfold xM;rw[B5];rfl
theorem tj(ns:List Int)(i:Int):iC (aI ns) i=(iC ns i).map .int:=by
 unfold L2.iC
 rw[bf]
 cases pV ns.length i with
 |none=>rfl
 |some j=>exact getElem?_map
theorem qR(ns:List Int)(lo hi:Option Int):cut (aI ns) lo hi=aI (cut ns lo hi):=by
 unfold cut
 rw[bf]
 simp only [aI,map_take,map_drop]
theorem oi(lo:Int)(n:Nat):je lo n=aI ((range n).map fun i=>lo+(i:Nat)):=by
 unfold je aI
 rw[map_map];rfl
def bN(i:Nat)(d:D)(env:DE):R DE:=.ok (env.set i (.val d))
def AH:List D->DE->R DE
 |[],env=>.ok env
 |_::_,_=>.bad
def lT(b:D->DE->R DE)(k:List D->DE->R DE):List D->DE->R DE
 |d::r,env=>(b d env).bind fun e'=>k r e'
 |[],_=>.bad
def bT(n:Nat)(b:List D->DE->R DE):D->DE->R DE
 |.tup ds,env=>if ds.length=n then b ds env else .bad
 |_,_=>.bad
def Tg(i:Nat)(env:DE)(xs:List D)(d:D):R Out:= @ite _ (xs.length<sizeLine) (propDecidable _) (.ok (.nx (env.set i (.own (xs++[d]))))) (.bad)
def Th(i:Nat)(env:DE)(xs:List D):R Out:=if 0<xs.length then .ok (.nx (env.set i (.own xs.dropLast)))else .bad
def sy(i:Nat)(env:DE)(d:D)(xs:List D):D->R Out
 |.int j=>(match pV xs.length j with
  |some n=>.ok (.nx (env.set i (.own (xs.set n d))))
  |none=>.bad)
 |_=>.bad
def HA(h:Int->Int->Int)(i:Nat)(env:DE):D->D->R Out
 |.int u,.int w=>.ok (.nx (env.set i (.val (.int (h u w)))))
 |_,_=>.bad
section
variable{X:Cx}{E:Str->Hp->Prop}{pos:Pos}
theorem uu(i:Nat){x:Str}(hN:X.N.Nodup)(hi:X.N[i]?=some x:=by rfl)(hx:Loc X.env.scope x:=by first|exact Or.inl rfl|exact Or.inr rfl)(hf:X.fn x=true\/X.env.scope.names.lookup x=some .local:=by first|exact .inl rfl|exact .inr rfl|assumption):
  PG X (.Name x pos) (tG X.K E (bN i)):=gN i hN hi hx hf
theorem D1:EZ X [] (PU X.K E AH):=by
 have e:AH=fun ds env=>match ds with
  |[]=>.ok env
  |_=>.bad:=by funext ds env;cases ds<;>rfl
 rw[e];exact WQ
theorem qT{e:Expr}{es:List Expr}{b:D->DE->R DE}{k:List D->DE->R DE}(h1:PG X e (tG X.K E b))(h2:EZ X es (PU X.K E k))(hs:(assignEach (e::es) X.env).map (·.2)=assign e X.env::(assignEach es X.env).map (·.2):=by rfl):
  EZ X (e::es) (PU X.K E (lT b k)):=by
 have e':lT b k=fun ds env=>match ds with
   |d::r=>(b d env).bind fun e'=>k r e'
   |_=>.bad:=by funext ds env;cases ds<;>rfl
 rw[e'];exact SK h1 h2 hs
theorem gT2{es:List Expr}{kk:Nat}{b:List D->DE->R DE}(n:Nat)(hc:X.calm=true)(h:EZ X es (PU X.K E b))(hn:(assignEach es X.env).length=n:=by rfl)(hst:(assignEach es X.env).findIdx? (·.1)=none:=by rfl):
  PG X (.Tuple es kk pos) (tG X.K E (bT n b)):=by
 have e':bT n b=fun d env=>match d with
   |.tup ds=>if ds.length=n then b ds env else .bad
   |_=>.bad:=by funext d env;cases d<;>rfl
 rw[e'];exact gT hc h hn hst
theorem uO{nt:Nat}(i:Nat)(hi:i<nt:=by decide):Kp nt (bN i):=kpN i hi
theorem Ti{nt:Nat}:P1 nt AH:=by
 have e:AH=fun ds env=>match ds with
  |[]=>.ok env
  |_=>.bad:=by funext ds env;cases ds<;>rfl
 rw[e];exact Xa
theorem FO{nt:Nat}{b:D->DE->R DE}{k:List D->DE->R DE}(hb:Kp nt b)(hk:P1 nt k):P1 nt (lT b k):=by
 have e':lT b k=fun ds env=>match ds with
   |d::r=>(b d env).bind fun e'=>k r e'
   |_=>.bad:=by funext ds env;cases ds<;>rfl
 rw[e'];exact S9 hb hk
theorem abm{nt:Nat}{b:List D->DE->R DE}(n:Nat)(hb:P1 nt b):Kp nt (bT n b):=by
 have e':bT n b=fun d env=>match d with
   |.tup ds=>if ds.length=n then b ds env else .bad
   |_=>.bad:=by funext d env;cases d<;>rfl
 rw[e'];exact kpT hb
theorem Xk(i:Nat){x:Str}{e:Expr}{f:DE->R D}{p apos bg:Pos}(he:PE X e (tD X.K E f))(hN:X.N[i]?=some x:=by rfl)(hv:yT X.env.scope x:=by first|exact Or.inl rfl|exact Or.inr (Or.inl rfl)|exact Or.inr (Or.inr rfl))(hd:(x==("__debug__":Str))=false:=by decide)
  (hcd:(x==("__classdict__":Str))=false:=by decide)
  (hbase:attributeBase (.Name x p) "append" X.env (eval (.Name x p) X.env)=eval (.Name x p) X.env:=by rfl)
  (hfew:((backTo bg (starEach [e] X.env)).all (fun x=> !x.1)&&(backToKw bg (keywordEach [] X.env)).all (fun x=>x.1.isSome)
   &&decide ([e].length+([]:List Keyword).length+(if([]:List Keyword).isEmpty then 0 else 1)<30))=true:=by rfl)
  (hline:(apos.endLine==bg.line)=true:=by rfl)(hst:starEach [e] X.env=(false,eval e X.env)::starEach [] X.env:=by rfl)(hplain:(backTo bg (starEach [] X.env)).any (·.1)=false:=by rfl)
  (hs:swapsWith (.Call (.Attribute (.Name x p) "append" apos) [e] [] bg) none pos.line X.env=pure false:=by rfl):
  PS X (.Expr (.Call (.Attribute (.Name x p) "append" apos) [e] [] bg) pos) (tS X.K E fun env=>(ownAt i env).bind fun xs=>(f env).bind fun d=>Tg i env xs d):=aaQ i he hN hv hd hcd hbase hfew hline hst hplain hs
theorem Xl(i:Nat){x:Str}{p apos bg:Pos}(hN:X.N[i]?=some x:=by rfl)(hv:yT X.env.scope x:=by first|exact Or.inl rfl|exact Or.inr (Or.inl rfl)|exact Or.inr (Or.inr rfl))(hd:(x==("__debug__":Str))=false:=by decide)
  (hcd:(x==("__classdict__":Str))=false:=by decide)
  (hbase:attributeBase (.Name x p) "pop" X.env (eval (.Name x p) X.env)=eval (.Name x p) X.env:=by rfl)(hline:(apos.endLine==bg.line)=true:=by rfl)
  (hs:swapsWith (.Call (.Attribute (.Name x p) "pop" apos) [] [] bg) none pos.line X.env=pure false:=by rfl):
  PS X (.Expr (.Call (.Attribute (.Name x p) "pop" apos) [] [] bg) pos) (tS X.K E fun env=>(ownAt i env).bind fun xs=>Th i env xs):=aaR i hN hv hd hcd hbase hline hs
theorem AI(i:Nat){x:Str}{ek e:Expr}{fk f:DE->R D}{p tp:Pos}(hk:PE X ek (tB X.K E fk))(he:PE X e (tD X.K E f))(hN:X.N[i]?=some x:=by rfl)(hv:yT X.env.scope x:=by first|exact Or.inl rfl|exact Or.inr (Or.inl rfl)|exact Or.inr (Or.inr rfl))(hd:(x==("__debug__":Str))=false:=by decide)
  (hcd:(x==("__classdict__":Str))=false:=by decide)
  (ha:∀v,assign (.Subscript (.Name x p) ek tp) X.env v=(do
   let ov<-holding [v] (eval (.Name x p) X.env)
   let iv<-holding [v,ov] (eval ek X.env)
   standAt tp
   holding [v,ov,iv] (setItem ov iv v)
   release [v,ov,iv] []):=by intro _;rfl)
  (hs:swapsWithSole [.Subscript (.Name x p) ek tp] e pos.line X.env=pure false:=by rfl)(hw:swappedStores [.Subscript (.Name x p) ek tp] e X.env=pure none:=by rfl)
  (h1:(assignEach [.Subscript (.Name x p) ek tp] X.env).map (·.2)=[assign (.Subscript (.Name x p) ek tp) X.env]:=by rfl):
  PS X (.Assign [.Subscript (.Name x p) ek tp] e pos) (tS X.K E fun env=>(f env).bind fun d=>(ownAt i env).bind fun xs=>(fk env).bind fun kd=>sy i env d xs kd):=by
 have h:=SH (pos:=pos) i hk he hN hv hd hcd ha hs hw h1
 have e':(fun env:DE=>(f env).bind fun d=>(ownAt i env).bind fun xs=>(fk env).bind fun kd=>sy i env d xs kd)=(fun env=>(f env).bind fun d=>(ownAt i env).bind fun xs=>(fk env).bind fun kd=>match kd with
   |.int j=>(match pV xs.length j with
    |some n=>.ok (.nx (env.set i (.own (xs.set n d))))
    |none=>.bad)
   |_=>.bad):=by
  funext env
  refine congrArg (R.bind (f env)) (funext fun d=>congrArg (R.bind _) (funext fun xs=>congrArg (R.bind _) (funext fun kd=>?_)))
  cases kd<;>rfl
 rw[e'];exact h
theorem Ql(i:Nat){x:Str}{e:Expr}{op:Operator}{h:Int->Int->Int}{f:DE->R D}{pos':Pos}(ho:Vv X op (V7 h))(he:PE X e (tB X.K E f))(hN:X.N.Nodup)(hi:X.N[i]?=some x:=by rfl)(hx:Loc X.env.scope x:=by first|exact Or.inl rfl|exact Or.inr rfl)
  (hf:X.fn x=true\/X.env.scope.names.lookup x=some .local:=by first|exact .inl rfl|exact .inr rfl|assumption):
  PS X (.AugAssign (.Name x pos') op e pos) (tS X.K E fun env=>(bM i env).bind fun a=>(f env).bind fun b=>HA h i env a b):=by
 have h':=aaS (pos:=pos) (pos':=pos') i ho he hN hi hx hf
 have e':(fun env:DE=>(bM i env).bind fun a=>(f env).bind fun b=>HA h i env a b)=(fun env=>(bM i env).bind fun a=>(f env).bind fun b=>match a,b with
   |.int u,.int w=>.ok (.nx (env.set i (.val (.int (h u w)))))
   |_,_=>.bad):=by
  funext env
  refine congrArg (R.bind _) (funext fun a=>congrArg (R.bind _) (funext fun b=>?_))
  cases a<;>cases b<;>rfl
 rw[e'];exact h'
end
def HB(d:D):R D:=match toV d with
 |some _=>.ok d
 |none=>.bad
theorem xP{x d:D}(h:HB x=.ok d):x=d/\∃z,toV d=some z:=by
 unfold HB at h
 cases e:toV x with
 |none=>rw[e]at h;cases h
 |some z=>rw[e]at h;cases h;exact⟨rfl,z,e⟩
def VE:List D->R (List D)
 |[]=>.ok []
 |x::r=>(HB x).bind fun y=>(VE r).bind fun ys=>.ok (y::ys)
theorem D2:∀{xs ys:List D},VE xs=.ok ys->xs=ys/\∀d∈ys,∃z,toV d=some z
 |[],ys,h=>by cases h;exact⟨rfl,fun d hd=>nomatch hd⟩
 |x::r,ys,h=>by
  unfold VE at h
  obtain⟨y,h1,h2⟩:=R.dZ h
  obtain⟨zs,h3,h4⟩:=R.dZ h2
  cases h4
  obtain⟨rfl,hz⟩:=xP h1
  obtain⟨rfl,hs⟩:=D2 h3
  exact⟨rfl,fun d hd=>(mem_cons.mp hd).elim (fun e=>by rw[e];exact hz) (hs d)⟩
theorem Qm(i:Int):HB (.int i)=.ok (.int i):=rfl
theorem Qn(i:Bool):HB (.bl i)=.ok (.bl i):=rfl
theorem Qo(i:Str):HB (.str i)=.ok (.str i):=rfl
theorem Qp:HB .non=.ok .non:=rfl
theorem jM(ns:List Int):VE (aI ns)=.ok (aI ns):=by
 induction ns with
 |nil=>rfl
 |cons x r ih=>show(HB (.int x)).bind (fun y=>(VE (aI r)).bind fun ys=>.ok (y::ys))=_;rw[ih];rfl
def mD(n N:Nat)(b:DE->R Out)(ds:List D):R D:=if ds.length=n then((b (aJ N ds)).bind ah).ne else .bad
def mS(n N:Nat)(b:DE->R Out)(ds:List D):R D:=if ds.length=n then(((b (aJ N ds)).bind ah).bind HB).ne else .bad
def mF(n N:Nat)(b:DE->R Out)(ds:List D):R (List D):=if ds.length=n then((b (aJ N ds)).bind ai).ne else .bad
def eI(n N:Nat)(b:DE->R Out)(ds:List D):R (List D):=if ds.length=n then(((b (aJ N ds)).bind ai).bind VE).ne else .bad
theorem R.bO {α:Type}{r:R α}{a:α}(h:r.ne=.ok a):r=.ok a:=by
 cases r with
 |ok b=>exact h
 |err c=>cases h
 |bad=>cases h
theorem R.Kh {α:Type}{r:R α}{c:Str}:r.ne≠.err c:=by
 cases r<;>intro h<;>cases h
theorem IV{n N:Nat}{b:DE->R Out}:M9 (mS n N b):=fun ds d h=>by
 unfold mS at h
 split at h
 ·obtain⟨x,_,h2⟩:=R.dZ (R.bO h)
  exact(xP h2).2
 ·cases h
theorem scl{n N:Nat}{b:DE->R Out}:ScL (eI n N b):=fun ds d h=>by
 unfold eI at h
 split at h
 ·obtain⟨x,_,h2⟩:=R.dZ (R.bO h)
  exact(D2 h2).2
 ·cases h
section
variable{P:Program}{w:World}{K:'b'}{mg:Str->Option Value}{base:Heap}
variable{x:Str}{st:Stmt}{f:Addr}{fd:FuncData}{N ps:List Str}{k:Nat}{b:DE->R Out}
theorem Qq(S:aA N ps (ae st))(d:Df K mg x st ps f fd)
  (hb:∀(cdv:Value)(A:Around)(outer:List Env)(s:Shared)(H:Hp)(E:XK),aY k (A.deeper (envOfC x (ae st) s.heap.objs.size f cdv))->rB (dD lI P w K mg base N x (ae st) f cdv A outer s H E).G8 (bE st) (tS K EN b)):
  Ok P w K mg base (k+1) f fd ps (mD ps.length N.length b):=mkD S d hb (fun ds e h=>by
 unfold mD at h
 split at h
 ·rename_i c
  exact⟨c,R.bO h⟩
 ·cases h) fun ds c h=>by
 unfold mD at h
 split at h
 ·exact R.Kh h
 ·cases h
theorem N8(S:aA N ps (ae st))(d:Df K mg x st ps f fd)
  (hb:∀(cdv:Value)(A:Around)(outer:List Env)(s:Shared)(H:Hp)(E:XK),aY k (A.deeper (envOfC x (ae st) s.heap.objs.size f cdv))->rB (dD lI P w K mg base N x (ae st) f cdv A outer s H E).G8 (bE st) (tS K EN b)):
  Ok P w K mg base (k+1) f fd ps (mS ps.length N.length b):=mkD S d hb (fun ds e h=>by
 unfold mS at h
 split at h
 ·rename_i c
  obtain⟨y,h1,h2⟩:=R.dZ (R.bO h)
  obtain⟨rfl,_⟩:=xP h2
  exact⟨c,h1⟩
 ·cases h) fun ds c h=>by
 unfold mS at h
 split at h
 ·exact R.Kh h
 ·cases h
theorem rH(S:aA N ps (ae st))(d:Df K mg x st ps f fd)
  (hb:∀(cdv:Value)(A:Around)(outer:List Env)(s:Shared)(H:Hp)(E:XK),aY k (A.deeper (envOfC x (ae st) s.heap.objs.size f cdv))->rB (dD lI P w K mg base N x (ae st) f cdv A outer s H E).G8 (bE st) (tS K EN b)):
  lH P w K mg base (k+1) f fd ps (eI ps.length N.length b):=mkF S d hb (fun ds e h=>by
 unfold eI at h
 split at h
 ·rename_i c
  obtain⟨y,h1,h2⟩:=R.dZ (R.bO h)
  obtain⟨rfl,_⟩:=D2 h2
  exact⟨c,h1⟩
 ·cases h) fun ds c h=>by
 unfold eI at h
 split at h
 ·exact R.Kh h
 ·cases h
end
section
variable{d:D}{xs:List D}{r:DE}{a:Sl}{i:Nat}
theorem Qs:bM 0 (.val d::r)=.ok d:=rfl
theorem Qt:bM (i+1) (a::r)=bM i r:=rfl
theorem Qu:aP 0 (.val d::r)=.ok d:=rfl
theorem Kj:aP 0 (.own xs::r)=.ok (.lst xs):=rfl
theorem Qw:aP (i+1) (a::r)=aP i r:=rfl
theorem Qx:j9 0 (.val (.lst xs)::r)=.ok xs:=rfl
theorem Kl:j9 0 (.own xs::r)=.ok xs:=rfl
theorem Qy:j9 (i+1) (a::r)=j9 i r:=rfl
theorem Qz:ownAt 0 (.own xs::r)=.ok xs:=rfl
theorem QA:ownAt (i+1) (a::r)=ownAt i r:=rfl
theorem QB:nW 0 (.own xs::r)=.val (.lst xs)::r:=rfl
theorem QC:nW (i+1) (a::r)=a::nW i r:=by
 unfold nW
 rw[List.getElem?_cons_succ]
 cases e:r[i]? with
 |none=>rfl
 |some sl=>cases sl<;>rfl
end
theorem bT2(i j:Nat)(a b:D)(env:DE):bT 2 (lT (bN i) (lT (bN j) AH)) (.tup [a,b]) env=.ok ((env.set i (.val a)).set j (.val b)):=rfl
theorem dA(i:Nat)(a:D)(env:DE):bN i a env=.ok (env.set i (.val a)):=rfl
theorem dg{ns:List Int}(h:ns.length<=1000000):fit (aI ns)=.ok (aI ns):=qb (by rw[bf];exact big h)
theorem AJ(a b:List Int):aI a++aI b=aI (a++b):=(map_append ..).symm
theorem pU(n d:Nat):HT.xy n d none=d:=rfl
theorem n8(n d:Nat)(i:Int)(h:0<=i):HT.xy n d (some i)=min i.toNat n:=by
 unfold HT.xy
 dsimp only
 split<;>omega
theorem AK{α:Type}(xs:List α)(m:Int)(h:0<=m):cut xs none (some m)=xs.take m.toNat:=by
 unfold cut
 rw[pU,n8 _ _ _ h,drop_zero,sub_zero]
 rcases Nat.le_total m.toNat xs.length with q|q
 ·rw[min_eq_left q]
 ·rw[Nat.min_eq_right q,take_length,take_of_length_le q]
theorem xQ{α:Type}(xs:List α)(m:Int)(h:0<=m):cut xs (some m) none=xs.drop m.toNat:=by
 unfold cut
 rw[pU,n8 _ _ _ h]
 rcases Nat.le_total m.toNat xs.length with q|q
 ·rw[min_eq_left q,take_of_length_le (by rw[length_drop];exact Nat.le_refl _)]
 ·rw[Nat.min_eq_right q,sub_self,List.take_zero,List.drop_eq_nil_of_le q]
theorem zM{cells:List Int}{j:Nat}{x:D}(h:(fE (aI cells))[j]?=some x):∃c,cells[j]?=some c/\x=.tup [.int (j:Nat),.int c]:=by
 obtain⟨d,hd,rfl⟩:=uI h
 unfold aI at hd
 rw[getElem?_map]at hd
 cases q:cells[j]? with
 |none=>rw[q]at hd;cases hd
 |some c=>rw[q]at hd;cases hd;exact⟨c,rfl,rfl⟩
theorem HC(xs:List D):(fE xs).length=xs.length:=by simp[fE]
theorem FP{i:Nat}{env:DE}{xs:List D}{d:D}(h:xs.length<1000000):Tg i env xs d=.ok (.nx (env.set i (.own (xs++[d])))):=if_pos (lt_of_lt_of_le h (by decide))
theorem N9{i:Nat}{env:DE}{xs:List D}(h:0<xs.length):Th i env xs=.ok (.nx (env.set i (.own xs.dropLast))):=if_pos h
theorem tm{i:Nat}{env:DE}{d:D}{xs:List D}{j:Int}(h:0<=j)(h2:j<xs.length):sy i env d xs (.int j)=.ok (.nx (env.set i (.own (xs.set j.toNat d)))):=by
 unfold sy
 have:pV xs.length j=some j.toNat:=by unfold L2.pV;rw[if_pos h,if_pos h2]
 simp only [this]
theorem tw{α:Type}{xs:List α}{j:Int}(h:0<=j):iC xs j=xs[j.toNat]?:=by
 unfold L2.iC L2.pV
 rw[if_pos h]
 split
 ·rfl
 ·rename_i c
  symm
  show _=none
  rw[List.getElem?_eq_none_iff]
  omega
theorem AL(ns:List Int)(j:Nat)(x:Int):(aI ns).set j (.int x)=aI (ns.set j x):=map_set.symm
theorem Oa(ns:List Int)(j:Nat):(aI ns)[j]?=(ns[j]?).map .int:=getElem?_map
theorem AM(ns:List Int):(aI ns).reverse=aI ns.reverse:=map_reverse.symm
theorem jN(a:Int)(ns:List Int):D.int a::aI ns=aI (a::ns):=rfl
theorem QD(T:String)(i:Int):DX T (.int i)=.ok (.bl (jU (y8 (.int i)) T)):=rfl
theorem QE(T:String)(i:Bool):DX T (.bl i)=.ok (.bl (jU (y8 (.bl i)) T)):=rfl
theorem QF(T:String)(i:Str):DX T (.str i)=.ok (.bl (jU (y8 (.str i)) T)):=rfl
theorem QG(T:String):DX T .non=.ok (.bl (jU (y8 .non) T)):=rfl
theorem QH(T:String)(i:List D):DX T (.lst i)=.ok (.bl (jU (y8 (.lst i)) T)):=rfl
theorem QI(T:String)(i:List D):DX T (.tup i)=.ok (.bl (jU (y8 (.tup i)) T)):=rfl
theorem aC:(type_of% @length_cons.{0})/\(type_of% @length_nil.{0})/\(type_of% @map_cons.{0,0})/\(type_of% @map_nil.{0,0})/\(type_of% @cons_append.{0})/\(type_of% @nil_append.{0})/\(type_of% @List.replicate_zero.{0})/\(type_of% @replicate_succ.{0})/\(type_of% @if_true.{1})/\(type_of% @ite_true.{1})/\(type_of% @false_eq_true)/\(type_of% @Bool.true_eq_false)/\(type_of% @Qs)/\(type_of% @Qt)/\(type_of% @Qu)/\(type_of% @Kj)/\(type_of% @Qw)/\(type_of% @Qx)/\(type_of% @Kl)/\(type_of% @Qy):=⟨@length_cons.{0},@length_nil.{0},@map_cons.{0,0},@map_nil.{0,0},@cons_append.{0},@nil_append.{0},@List.replicate_zero.{0},@replicate_succ.{0},@if_true.{1},@ite_true.{1},@false_eq_true,@Bool.true_eq_false,@Qs,@Qt,@Qu,@Kj,@Qw,@Qx,@Kl,@Qy⟩
theorem aD:(type_of% @Qz)/\(type_of% @QA)/\(type_of% @QB)/\(type_of% @QC)/\(type_of% @List.set_cons_zero.{0})/\(type_of% @List.set_cons_succ.{0})/\(type_of% @R.bF)/\(type_of% @R.lQ)/\(type_of% @R.JR)/\(type_of% @Qf)/\(type_of% @Qg)/\(type_of% @Qh)/\(type_of% @AG)/\(type_of% @J3)/\(type_of% @Ka)/\(type_of% @P6)/\(type_of% @P7)/\(type_of% @P8)/\(type_of% @P9)/\(type_of% @Qa):=⟨@Qz,@QA,@QB,@QC,@List.set_cons_zero.{0},@List.set_cons_succ.{0},@R.bF,@R.lQ,@R.JR,@Qf,@Qg,@Qh,@AG,@J3,@Ka,@P6,@P7,@P8,@P9,@Qa⟩
theorem aE:(type_of% @Qc)/\(type_of% @Qd)/\(type_of% @Qe)/\(type_of% @Kd)/\(type_of% @FH)/\(type_of% @Ke)/\(type_of% @Kf)/\(type_of% @Qi)/\(type_of% @Qj)/\(type_of% @Qk)/\(type_of% @Xf)/\(type_of% @Xg)/\(type_of% @Xh)/\(type_of% @Xi)/\(type_of% @Xj)/\(type_of% @FI)/\(type_of% @FJ)/\(type_of% @B3)/\(type_of% @Qm)/\(type_of% @Qn):=⟨@Qc,@Qd,@Qe,@Kd,@FH,@Ke,@Kf,@Qi,@Qj,@Qk,@Xf,@Xg,@Xh,@Xi,@Xj,@FI,@FJ,@B3,@Qm,@Qn⟩
theorem aF:(type_of% @Qo)/\(type_of% @Qp)/\(type_of% @FN)/\(type_of% @QD)/\(type_of% @QE)/\(type_of% @QF)/\(type_of% @QG)/\(type_of% @QH)/\(type_of% @QI):=⟨@Qo,@Qp,@FN,@QD,@QE,@QF,@QG,@QH,@QI⟩
section
variable{X:Cx}{E:Str->Hp->Prop}{pos:Pos}
theorem Xm{st:Stmt}:PS X st (tS X.K E fun _=>.bad):=fun pins s σ H De I ⟨g,env,os,r,m⟩=>m.elim
end
theorem Ob:zK .non .non=some (.bl false):=rfl
theorem D3:typeLookup (.type "list_reverseiterator") "__len__"=pure none:=by rw[typeLookup_type,builtinLookup_eq_fast];kernel_rfl
theorem Km:typeLookup (.type "list_reverseiterator") "__length_hint__"=pure (some (.builtin "list_reverseiterator.__length_hint__")):=by rw[typeLookup_type,builtinLookup_eq_fast];kernel_rfl
theorem HD{prog:Program}{w:World}{A:Around}(hh:A.handled=none)(it l:Addr)(hne:l≠it)(items:Array Value):
  Walks prog w A it [it,l] [it] items.size (fun i v=>items[items.size-1-i]?=some v) (fun i h=>h.IsRevIter it l ((items.size:Int)-1-(i:Nat))/\h.IsList l items) where
 sub:=fun b hb=>by simp at hb;simp[hb]
 frame:=fun _ _ _ st hk=>⟨st.1.at fun o e=>hk it (by simp) o e,st.2.at fun o e=>hk l (by simp) o e⟩
 item:=fun i s Q E hi st hQ=>by
  obtain⟨Xn,Dh⟩:=st
  have e1:(items.size:Int)-1-(i:Nat)=((items.size-1-i:Nat):Int):=by omega
  rw[e1]at Xn
  have hx:items[items.size-1-i]?=some (items[items.size-1-i]' 'a'):=by simp
  refine wpAny_pyNext_rev_item Xn Dh hx fun h' DV IW=>?_
  have e2:((items.size-1-i:Nat):Int)-1=(items.size:Int)-1-((i+1:Nat):Int):=by omega
  rw[e2]at DV
  exact hQ _ h' s.toks hx ⟨DV,Dh.extBut IW.extBut hne⟩ fun b o hb e=>IW.extBut b o (fun h=>hb (by simp[h])) e
 done:=fun s Q E st hQ=>by
  obtain⟨Xn,Dh⟩:=st
  have e1:(items.size:Int)-1-((items.size:Nat):Int)= -1:=by omega
  rw[e1]at Xn
  exact wpAny_pyNext_rev_end hh Xn fun h' SR=>hQ h' s.toks fun b o hb e=>SR b o (fun h=>hb (by simp[h])) e
 self:=fun _ _ _ _ st hQ=>wpAny_pyIter_revIter st.1 hQ
section
variable{prog:Program}{w:World}{A:Around}{E:Value->Shared->Prop}{s:Shared}
theorem Kn{it l:Addr}{i:Int}{Q:Bool->Shared->Prop}(hit:s.heap.IsRevIter it l i)(h:Q false s):wpAny (model prog w) A (Builtin.List.listLengthHint (.ref it)) Q E s:=by
 unfold Builtin.List.listLengthHint
 refine wpAny_bind (wpAny_specialOf hit.typeIs D3 ?_)
 show wpAny _ A (specialOf (Value.ref it) (Str.ofString "__length_hint__")>>=_) _ _ _
 refine wpAny_bind (wpAny_specialOf hit.typeIs Km ?_)
 generalize hid:("list_reverseiterator.__length_hint__":String)=id0
 wp_delta
 rw[show splitId id0=some ("list_reverseiterator","__length_hint__")from by subst hid;decide +kernel]
 subst hid
 refine wpAny_bind (wpAny_isInstance (T:="list_reverseiterator") (b:=true) hit.typeIs (by rw[isSubtype_type];kernel_rfl) ?_)
 refine wpAny_ite_split (fun hab=>absurd hab (by decide)) (fun _=>?_)
 refine wpAny_ite_split (fun _=>?_) (fun hab=>absurd (by decide +kernel) hab)
 refine wpAny_ite_split (fun hab=>absurd hab (by decide)) (fun _=>?_)
 exact wpAny_pure h
theorem D4{R:Result->Shared->Prop}{it l:Addr}{items:Array Value}(hh:A.handled=none)(hit:s.heap.IsRevIter it l ((items.size:Int)-1))(hl:s.heap.IsList l items)(hlen:items.size<=sizeLine)(S:Addr)(res:Value)(c₀:Nat)
  (hS:s.heap.get? S=some {cls:=.type "list",data:=.seq #[] c₀})(Zw:S≠l)(QJ:S≠it)(Ko:l≠it)
  (hR:∀h' tk fg c',(∀b o,b≠S->b≠it->s.heap.get? b=some o->h'.get? b=some o)->h'.get? S=some {cls:=.type "list",dict:=none,data:=.seq fg c',slots:=#[]}->
   ItemsOf (fun i v=>items[items.size-1-i]?=some v) fg items.size->R (.ok (.ret res)) {s with heap:=h',toks:=tk}):
  wpAny (model prog w) A.in1 (Builtin.List.listExtendWith (.ref S) (.ref it) res)
   (fun fin s'=>match fin with|.done f=>R (.ok f) s'|.again c'=>c'.quiet=true/\codeAny (model prog w) A c' R s') (fun e s'=>R (.error e) s') s:=by
 have W:=(HD (prog:=prog) (w:=w) (A:=A.in1) hh it l Ko items).toS
 unfold Builtin.List.listExtendWith
 refine wpAny_bind (wpAny_typeOf (T:="list_reverseiterator") hit.typeIs ?_)
 have h1:Builtin.List.listSameRef (.ref S) (.ref it)=false:=by simp[Builtin.List.listSameRef,QJ]
 have h2:(Value.type "list_reverseiterator"==Value.type "list")=false:=by decide
 have h3:(Value.type "list_reverseiterator"==Value.type "tuple")=false:=by decide
 simp only [h1,h2,h3,Bool.or_false,false_eq_true,if_false]
 refine wpAny_bind (wpAny_pyIter_revIter hit ?_)
 refine wpAny_bind (wpAny_holding (Kn hit ?_))
 refine wpAny_ite_split (fun hab=>absurd hab (by decide)) (fun _=>wpAny_pure ⟨plainId_quiet F.plain_extend_loop _,?_⟩)
 have abo:s.heap.IsRevIter it l ((items.size:Int)-1-((0:Nat):Int)):=by
  rw[show(items.size:Int)-1-((0:Nat):Int)=(items.size:Int)-1 by omega];exact hit
 refine codeAny_extend_loopS W hlen S (fun hm=>?_) res items.size 0 _ #[] c₀ rfl (zero_le _) ⟨abo,hl⟩ hS (ItemsOf.nil _) fun s' fg c' hm Oc hacc=>?_
 ·rcases mem_cons.mp hm with z|z
  ·exact QJ z
  ·exact Zw (mem_singleton.mp z)
 ·rw[Moved.eq_with hm]
  refine hR s'.heap s'.toks fg c' (fun b o hb hb2 e=>hm.heap b o (fun hmem=>?_) e) Oc hacc
  rcases mem_cons.mp hmem with z|z
  ·exact hb z
  ·exact hb2 (mem_singleton.mp z)
theorem za{R:Result->Shared->Prop}{it l:Addr}{items:Array Value}(hh:A.handled=none)(hit:s.heap.IsRevIter it l ((items.size:Int)-1))(hl:s.heap.IsList l items)(hlen:items.size<=sizeLine)(S:Addr)
  (hS:s.heap.get? S=some {cls:=.type "list",data:=.seq #[]})(Zw:S≠l)(QJ:S≠it)(Ko:l≠it)
  (hR:∀h' tk fg c',(∀b o,b≠S->b≠it->s.heap.get? b=some o->h'.get? b=some o)->h'.get? S=some {cls:=.type "list",dict:=none,data:=.seq fg c',slots:=#[]}->
   ItemsOf (fun i v=>items[items.size-1-i]?=some v) fg items.size->R (.ok (.ret .none)) {s with heap:=h',toks:=tk}):
  wpAny (model prog w) A.in1 (Builtin.«list.__init__» ⟨[.ref S,.ref it],[]⟩)
   (fun fin s'=>match fin with|.done f=>R (.ok f) s'|.again c'=>c'.quiet=true/\codeAny (model prog w) A c' R s') (fun e s'=>R (.error e) s') s:=by
 show wpAny _ _ (do let old<-Builtin.List.listItems (.ref S);Builtin.List.listUpdate (.ref S) (fun _=>#[]);letGo old.toList.reverse;Builtin.List.listExtendWith (.ref S) (.ref it) .none) _ _ s
 refine wpAny_bind ?_
 unfold Builtin.List.listItems
 refine wpAny_bind (wpAny_seqItems hS rfl (wpAny_pure ?_))
 show wpAny _ _ (updateSeq S (fun _=>#[])>>=fun _=>letGo (#[]:Array Value).toList.reverse>>=fun _=>Builtin.List.listExtendWith (.ref S) (.ref it) .none) _ _ s
 refine wpAny_bind (wpAny_updateSeq hS rfl ?_)
 have hS₂:=Heap.get?_update_self (Obj.mapSeq (fun _=>(#[]:Array Value))) hS rfl
 have oth:∀b o,b≠S->s.heap.get? b=some o->(s.heap.update S (Obj.mapSeq (fun _=>(#[]:Array Value)))).get? b=some o:=
  fun b o hb e=>(Heap.get?_update_other _ _ (Ne.symm hb)).trans e
 refine wpAny_bind (wpAny_letGo ?_)
 refine D4 hh (hit.at fun o e=>oth it o (Ne.symm QJ) e) (hl.at fun o e=>oth l o (Ne.symm Zw) e) hlen S .none _ hS₂ Zw QJ Ko fun h' tk fg c' hk Oc hacc=>?_
 exact hR h' tk fg c' (fun b o hb hb2 e=>hk b o hb hb2 (oth b o hb e)) Oc hacc
theorem zb{Q:Value->Shared->Prop}{it l:Addr}{items:Array Value}(hh:A.handled=none)(hit:s.heap.IsRevIter it l ((items.size:Int)-1))(hl:s.heap.IsList l items)(hlen:items.size<=sizeLine)(Ko:l≠it)
  (hQ:∀h' tk fg c',(∀b o,b≠it->s.heap.get? b=some o->h'.get? b=some o)->
   h'.get? s.heap.objs.size=some {cls:=.type "list",dict:=none,data:=.seq fg c',slots:=#[]}->ItemsOf (fun i v=>items[items.size-1-i]?=some v) fg items.size->Q (.ref s.heap.objs.size) {s with heap:=h',toks:=tk}):
  wpAny (model prog w) A (call (.type "list") [.ref it]) Q E s:=by
 refine callType_codes (Q₁:=fun obj s₁=>obj=.ref s.heap.objs.size/\s₁={s with heap:=s.heap.push {cls:=.type "list",data:=.seq #[]}}) F.called_list (F.typeCall_list_1 _) F.entry_list_init
  (code_list_new _ ⟨rfl,rfl⟩) fun obj s₁ h₁=>?_
 obtain⟨rfl,rfl⟩:=h₁
 have hS:(s.heap.push {cls:=.type "list",data:=.seq #[]}).get? s.heap.objs.size=some {cls:=.type "list",data:=.seq #[]}:=Heap.get?_push_size _ rfl
 have hlt:l<s.heap.objs.size:=by obtain⟨o,e,_⟩:=hl;exact Heap.lt_size e
 have DV:it<s.heap.objs.size:=by obtain⟨o,e,_⟩:=hit;exact Heap.lt_size e
 refine⟨⟨_,hS,rfl⟩,F.args_list_init_2 _ _,za (A:=A.in1) hh (hit.at fun o e=>Heap.get?_push_of_some _ e) (hl.at fun o e=>Heap.get?_push_of_some _ e) hlen _ hS (ne_of_gt hlt) (ne_of_gt DV) Ko fun h' tk fg c' hk Oc hacc=>?_⟩
 exact⟨rfl,hQ h' tk fg c' (fun b o hb e=>hk b o (ne_of_lt (Heap.lt_size e)) hb (Heap.get?_push_of_some _ e)) Oc hacc⟩
end
section
variable{X:Cx}{E:Str->Hp->Prop}{pos:Pos}
theorem Kq{vs:List V}{its acc:List Value}(r:Vals vs its)(h1:acc.length=its.length)(h2:∀(j:Nat)(v:Value),acc[j]?=some v->its[its.length-1-j]?=some v):Vals vs.reverse acc:=by
 have e:acc=its.reverse:=by
  refine List.ext_getElem? fun j=>?_
  by_cases hj:j<acc.length
  ·have:=h2 j _ (getElem?_eq_getElem hj)
   rw[getElem?_eq_getElem hj,getElem?_reverse 'a',this]
  ·rw[getElem?_eq_none 'a',getElem?_eq_none (by simp;omega)]
 subst e
 clear h1 h2
 induction r with
 |nil=>exact .nil
 |cons r1 r2 ih=>rw[reverse_cons,reverse_cons];exact ih.append (.cons r1 .nil)
theorem IsL.rev {K:'b'}{P:Addr->Prop}{H:Hp}:∀{ds:List D}{vs:List V},IsL K P H ds vs->IsL K P H ds.reverse vs.reverse
 |[],_,h=>by
  have h':_=[]:=h
  subst h';exact rfl
 |d::ds,_,⟨v,r,e,p,q⟩=>by
  subst e
  rw[reverse_cons,reverse_cons]
  exact IsL.app (IsL.rev q) (.one p)
theorem Tj{a:Expr}{p p2 ni:Pos}{f:DE->R (List D)}(hc:X.calm=true)(Hw:X.mg "list"=none)(Tc:X.mg "reversed"=none)(ha:PE X a (tL X.K E f))(Td:Gl X "list":=by rfl)(hgr:Gl X "reversed":=by rfl)
  (hs:starEach [a] X.env=(false,eval a X.env)::starEach [] X.env:=by rfl)(he:starEach [.Call (.Name "reversed" p2) [a] [] ni] X.env=(false,eval (.Call (.Name "reversed" p2) [a] [] ni) X.env)::starEach [] X.env:=by rfl)(hpl:(backTo pos (starEach [] X.env)).any (·.1)=false:=by rfl):
  PE X (.Call (.Name "list" p) [.Call (.Name "reversed" p2) [a] [] ni] [] pos) (tF X.K E fun env=>(f env).bind fun xs=>R.ok (reverse xs)):=by
 intro pins s σ H Q I h
 obtain⟨g,env,os,r,m⟩:=h
 refine wpAny_Call_Name_kw (gm I Td Hw lS ?_)
 refine PyProof.Rows.callWith_type1 ?_ he hpl
 rw[he]
 refine Calls.spliced_cons ?_
 have W6:PA X [a] (E7 (tL X.K E f) Jv):=ao ha aL hs
 refine Call_ (gm I hgr Tc p9 (PyProof.Rows.callWith_type1 (cC (W6 ni pins s σ H (fun vs H1=>∃ds l ws,vs=[.ref l]/\aN H H1/\cV X.K H1 l ws/\IsL X.K (g.P os) H1 ds ws/\Good E g.H₀ (R.ok (reverse ds)) _) I ⟨g,env,os,r,m.bind.mono fun ds _ q a1 vs H1 s1 q1 i1=>⟨ds,a1,vs,rfl,s1,q1,i1,q⟩⟩) fun us s1 ⟨vs,H1,I1,r1,ds,l,ws,e1,sm,hq,i1,q⟩=>?_) hs rfl))
 subst e1
 obtain⟨u,rfl,ru⟩:=vals1 r1
 cases ru
 obtain⟨its,rv,pl,hz⟩:=I1.list hq
 have hl:=rv.length
 refine call_reversed_list pl.isList ?_
 have I2:Inv X pins σ H1 {s1 with heap:=s1.heap.push (PySem.revObj l ((its.toArray.size:Int)-1))}:=I1.kept (t':=s1.toks) fun b o e=>Heap.get?_push_of_some _ e
 refine Calls.spliced_nil ?_
 have hd:X.A.handled=none:=I.ok.hd hc
 have hlt:l<s1.heap.objs.size:=by obtain⟨o,n,e,_⟩:=pl;exact Heap.lt_size e
 refine zb hd ⟨_,Heap.get?_push_size _ rfl,rfl,rfl⟩ (pl.isList.at fun o e=>Heap.get?_push_of_some _ e) (by rw[size_toArray];omega) (ne_of_lt hlt) fun h' tk fg c' hk abp hit=>?_
 obtain⟨hi1,hi2⟩:=hit
 have hv:Vals ws.reverse fg.toList:=Kq rv (by simpa using hi1) fun i v e=>by
  have:=hi2 i v (by simpa using e)
  simpa using this
 have I3:Inv X pins σ H1 {s1 with heap:=s1.heap.push (PySem.revObj l ((its.toArray.size:Int)-1))}:=I2
 have Sv:∀b o,s1.heap.get? b=some o->h'.get? b=some o:=fun b o e=>hk b o (ne_of_lt (Heap.lt_size e)) (Heap.get?_push_of_some _ e)
 refine⟨.ref _,upd H1 _ (.lst ws.reverse),I1.laid (a:=(s1.heap.push (PySem.revObj l ((its.toArray.size:Int)-1))).objs.size) (t':=tk) Sv (by rw[Heap.size_push];exact le_succ _) ⟨by rw[length_reverse];exact hz,fg.toList,c',hv,by simpa using abp⟩,rfl,?_⟩
 have hn:H1 (s1.heap.push (PySem.revObj l ((its.toArray.size:Int)-1))).objs.size=none:=I2.hok.fresh (Nat.le_refl _)
 obtain⟨b1,b2,b3,b4⟩:=DT r sm hn (IsL.rev i1)
 exact(show∀a vs H',aN H H'->H a=none->H' a=some (.lst vs)->IsL X.K (g.P (a::os)) H' ds.reverse vs->Q (.ref a) H' from q) _ _ _ b1 b2 b3 b4
end
def Dk(fs xs:List Addr)(h h':Heap):Prop:=∀b o,h.get? b=some o->b∉xs->(b∉fs->h'.get? b=some o)/\∃sl,h'.get? b=some {o with slots:=sl}
theorem Dk.trans {fs xs ys zs:List Addr}{h h1 h2:Heap}(a:Dk fs xs h h1)(b:Dk fs ys h1 h2)(s1:∀c∈xs,c∈zs)(s2:∀c∈ys,c∈zs):Dk fs zs h h2:=fun c o e hn=>by
 obtain⟨p1,sl,p2⟩:=a c o e fun z=>hn (s1 c z)
 obtain⟨q1,Zx,q2⟩:=b c _ p2 fun z=>hn (s2 c z)
 refine⟨fun hf=>?_,Zx,q2⟩
 exact(b c o (p1 hf) fun z=>hn (s2 c z)).1 hf
theorem Dk.of_eq {fs xs:List Addr}{h h':Heap}(k:∀b o,h.get? b=some o->b∉xs->h'.get? b=some o):Dk fs xs h h':=fun b o e hn=>⟨fun _=>k b o e hn,o.slots,k b o e hn⟩
structure Exc(h:Heap)(e T C:Addr)(fl:Value):Prop where
 at_:∃vs,h.get? e=some {cls:=.ref C,data:=.fields vs}/\vs[1]?=some (.ref T)
 ne:T≠e
 tb:∃oT ts,h.get? T=some oT/\oT.data=.fields ts/\ts[3]?=some fl
section
variable{M:Model}{A:Around}{E:Value->Shared->Prop}{s:Shared}{base:Heap}{env:Env}{outer:List Env}{L e T C:Addr}{Q:Unit->Shared->Prop}
theorem wY{fl:Value}(x:Exc s.heap e T C fl)(hQ:∀h',Exc h' e T C .none->Dk [] [T] s.heap h'->Q () {s with heap:=h'}):wpAny M A (setFlight (.ref e) none) Q E s:=by
 obtain⟨⟨vs,x1,x2⟩,x3,oT,ts,x4,x5,x6⟩:=x
 have y3:3<ts.size:=(Array.getElem?_eq_some_iff.mp x6).1
 unfold setFlight
 refine wpAny_bind (wpAny_field x1 rfl x2 ?_)
 rw[if_pos (show(Value.ref T !=Value.none)=true from rfl)]
 refine wpAny_setField x4 x5 y3 (hQ _ ?_ (.of_eq fun b o q hn=>?_))
 ·refine⟨⟨vs,?_,x2⟩,x3,_,_,Heap.get?_update_self _ x4 (Obj.isFreed_of_fields (Obj.data_mapFields x5 _)),Obj.data_mapFields x5 _,by simp[y3]⟩
  rw[Heap.get?_update_other _ _ x3]
  exact x1
 ·rw[Heap.get?_update_other _ _ (fun z=>hn (by simp[z]))]
  exact q
theorem zN{head:Value}{vs:Array Value}{nx:Bool}(hfr:A.frames=some (env::outer))(hl:s.heap.FunFrames base (env::outer))(hf:env.frame=some L)
  (he:s.heap.get? e=some {cls:=.ref C,data:=.fields vs})(hz:1<vs.size)
  (hQ:∀h' T',s.heap.get? T'=none->Exc h' e T' C (rawInt L)->Dk ((env::outer).filterMap (·.frame)) [e] s.heap h'->Q () {s with heap:=h'}):
  wpAny M A (do let fo<-frameOf env;let pl<-entryPlaceOf L nx;let en<-EntryCells.newEntry head fo .none (rawInt L) .none pl;setField (.ref e) 1 en) Q E s:=by
 have out:e∉(env::outer).filterMap (·.frame):=fun z=>by
  obtain⟨_,o,q,nf⟩:=hl.mem z
  rw[he]at q;cases q
  exact nf vs rfl
 refine wpAny_bind (wpAny_frameOf_fun hfr hl hf fun hA sA=>wpAny_bind (wpAny_entryPlaceOf fun pl ip=>?_))
 unfold EntryCells.newEntry newFields
 refine wpAny_bind (wpAny_newObj_type ?_ (ip.sizeOk5 _ _ _ _ _))
 have eA:hA.get? e=some {cls:=.ref C,data:=.fields vs}:=(sA.2.1 e out).trans he
 have eB:=Heap.get?_push_of_some (h:=hA) {cls:=.type "traceback",dict:=none,data:=.fields ([head,.ref L,.none,rawInt L,.none]++(if pl.isEmpty then replicate 6 Value.none else pl)).toArray} eA
 have nT:hA.objs.size≠e:=ne_of_gt (Heap.lt_size eA)
 refine wpAny_setField eB rfl hz (hQ _ hA.objs.size (Heap.get?_none_of_le (le_of_eq sA.1.symm)) ⟨⟨vs.setIfInBounds 1 (.ref hA.objs.size),?_,by simp[hz]⟩,nT,?_⟩ fun b o q hn=>?_)
 ·rw[Heap.get?_update_self _ eB rfl]
  rfl
 ·refine⟨_,_,(Heap.get?_update_other _ _ (Ne.symm nT)).trans (Heap.get?_push_size hA rfl),rfl,?_⟩
  simp
 ·have hb:e≠b:=fun z=>hn (by simp[z])
  obtain⟨sl,q2⟩:=sA.2.2 b o q
  refine⟨fun nf=>?_,sl,?_⟩
  ·rw[Heap.get?_update_other _ _ hb]
   exact Heap.get?_push_of_some _ ((sA.2.1 b nf).trans q)
  ·rw[Heap.get?_update_other _ _ hb]
   exact Heap.get?_push_of_some _ q2
theorem HE{vs:Array Value}(hfr:A.frames=some (env::outer))(hl:s.heap.FunFrames base (env::outer))(hf:env.frame=some L)
  (he:s.heap.get? e=some {cls:=.ref C,data:=.fields vs})(h1:vs[1]?=some .none)
  (hQ:∀h' T',s.heap.get? T'=none->Exc h' e T' C (rawInt L)->Dk ((env::outer).filterMap (·.frame)) [e] s.heap h'->Q () {s with heap:=h'}):wpAny M A (noteFrame (.ref e) env) Q E s:=by
 unfold noteFrame
 simp only [hf]
 refine wpAny_bind (wpAny_field he rfl h1 ?_)
 rw[if_neg (by decide)]
 exact zN hfr hl hf he (Array.getElem?_eq_some_iff.mp h1).1 hQ
theorem B6(hfr:A.frames=some (env::outer))(hl:s.heap.FunFrames base (env::outer))(hf:env.frame=some L)(x:Exc s.heap e T C .none)
  (hQ:∀h' T',s.heap.get? T'=none->Exc h' e T' C (rawInt L)->Dk ((env::outer).filterMap (·.frame)) [e,T] s.heap h'->Q () {s with heap:=h'}):wpAny M A (noteFrame (.ref e) env) Q E s:=by
 obtain⟨⟨vs,x1,x2⟩,x3,oT,ts,x4,x5,x6⟩:=x
 unfold noteFrame
 simp only [hf]
 refine wpAny_bind (wpAny_field x1 rfl x2 ?_)
 rw[if_pos (show(Value.ref T !=Value.none)=true from rfl)]
 refine wpAny_bind (wpAny_field x4 x5 x6 ?_)
 rw[if_neg (show¬((Value.none==rawInt L)=true)from fun z=>by simp[rawInt]at z)]
 refine wpAny_bind (wpAny_setField x4 x5 (Array.getElem?_eq_some_iff.mp x6).1 ?_)
 have oth:∀b,b≠T->(s.heap.update T (Obj.mapFields (·.setIfInBounds 3 Value.none))).get? b=s.heap.get? b:=fun b z=>Heap.get?_update_other _ _ (Ne.symm z)
 have hl2:(s.heap.update T (Obj.mapFields (·.setIfInBounds 3 Value.none))).FunFrames base (env::outer):=hl.of_keeps fun b o q nf=>⟨o,(oth b fun z=>by rw[z,x4]at q;cases q;exact nf ts x5).trans q,rfl⟩
 refine zN (s:={s with heap:=s.heap.update T (Obj.mapFields (·.setIfInBounds 3 Value.none))}) hfr hl2 hf ((oth e (Ne.symm x3)).trans x1) (Array.getElem?_eq_some_iff.mp x2).1 fun h' T' n1 n2 n3=>hQ h' T' ?_ n2 ?_
 ·by_cases z:T'=T
  ·have n1':(s.heap.update T (Obj.mapFields (·.setIfInBounds 3 Value.none))).get? T'=none:=n1
   rw[z,Heap.get?_update_self _ x4 (Obj.isFreed_of_fields (Obj.data_mapFields x5 _))]at n1'
   cases n1'
  ·exact(oth T' z).symm.trans n1
 ·refine Dk.trans (xs:=[T]) (ys:=[e]) (.of_eq fun b o q hn=>(oth b fun z=>hn (by simp[z])).trans q) n3 ?_ ?_
  ·intro c hc;simp at hc;simp[hc]
  ·intro c hc;simp at hc;simp[hc]
end
section
variable{P:Program}{w:World}{H H':Hp}{h h1 h2:Heap}{fs Y8 xs:List Addr}
theorem Tn{a:Addr}{o:HO}(x:cD P w H h a o):∃ob,h.get? a=some ob:=by
 cases o with
 |lst xs=>obtain⟨_,_,_,_,e⟩:=x;exact⟨_,e⟩
 |tup xs=>obtain⟨_,_,_,p⟩:=x;obtain⟨o,e,_⟩:=p;exact⟨_,e⟩
 |dK kvs=>obtain⟨_,_,_,_,o,_,_,e,_⟩:=x;exact⟨_,e⟩
 |dT kvs=>obtain⟨_,_,_,_,o,_,_,e,_⟩:=x;exact⟨_,e⟩
 |set S n=>obtain⟨o,_,_,_,e,_⟩:=x;exact⟨_,e⟩
 |ins C dx fs=>obtain⟨_,_,_,e,_⟩:=x;exact⟨_,e⟩
 |own y=>exact x
 |xd fs=>obtain⟨_,⟨_,_,_,e,_⟩,_⟩:=x;exact⟨_,e⟩
 |Y7 lo hi=>obtain⟨_,_,_,e⟩:=x;exact⟨_,e⟩
 |nW ob u=>obtain⟨e,_⟩:=x;exact⟨_,e⟩
 |PD ps=>exact⟨_,(show h.get? a=some _ from x)⟩
 |met f y=>exact⟨_,(show h.get? a=some _ from x)⟩
 |ext φ=>exact x.2.1
theorem f9(x:nX P w H h){a:Addr}(e:h.get? a=none):H a=none:=by
 cases q:H a with
 |none=>rfl
 |some o=>
  obtain⟨ob,z⟩:=Tn (x a o q)
  rw[e]at z;cases z
theorem D5(u:Un fs [] H H' h h1)(k:Dk Y8 xs h1 h2)(hx:∀b∈xs,h.get? b=none)(hf:∀b∈Y8,b∈fs\/h.get? b=none):Un fs [] H H' h h2 where
 keep:=fun b o e n hb hc=>(k b o (u.keep b o e n hb hc) fun z=>by rw[hx b z]at e;cases e).1 fun z=>(hf b z).elim hb fun q=>by rw[q]at e;cases e
 slot:=fun b o e n hb hc=>by
  obtain⟨sl,q⟩:=u.slot b o e n hb hc
  obtain⟨_,Zx,q2⟩:=k b _ q fun z=>by rw[hx b z]at e;cases e
  exact⟨Zx,q2⟩
 free:=u.free
 there:=fun b o e hc=>by
  obtain⟨o',q⟩:=u.there b o e hc
  obtain⟨_,Zx,q2⟩:=k b _ q fun z=>by rw[hx b z]at e;cases e
  exact⟨_,q2⟩
 tups:=u.tups
 uv:=u.uv
 we:=u.we
theorem AO(x:nX P w H h1)(k:Dk fs xs h1 h2)(hx:∀b∈xs,H b=none)(hf:∀b∈fs,H b=none):nX P w H h2:=fun a o e=>by
 have no:∀b u,H b=some u->b∉xs/\b∉fs:=fun b u q=>⟨fun z=>(by rw[hx b z]at q;cases q),fun z=>(by rw[hf b z]at q;cases q)⟩
 refine(x a o e).pQ (fun b u hb q=>?_) (fun _ q=>q) fun _ _ q=>q
 have nb:b∉xs/\b∉fs:=by
  rcases hb with z|z
  ·rw[z];exact no a o e
  ·exact no b _ z
 exact(k b u q nb.1).1 nb.2
def qc(P:Program)(w:World):IM:=fun outer H s E ev s'=>∃e T C H',ev=.ref e/\Exc s'.heap e T C .none/\s.heap.get? e=none/\s.heap.get? T=none/\H' e=none/\H' T=none/\s'.os=s.os/\AllBare s'.gens/\
 Un (Ao outer) [] H H' s.heap s'.heap/\nX P w H' s'.heap/\E (.ref C) none H'
end
section
variable{P:Program}{w:World}{K:'b'}{mg:Str->Option Value}{base:Heap}{N:List Str}{qual:Str}{scope:Scope}{f:Addr}{cd:Value}{A:Around}{outer:List Env}{s:Shared}{H:Hp}{E:XK}
theorem ou{fs:List Addr}{H H':Hp}{h h':Heap}(u:Un fs [] H H' h h'){b:Addr}(e:h'.get? b=none):h.get? b=none:=by
 cases q:h.get? b with
 |none=>rfl
 |some o=>
  obtain⟨o',z⟩:=u.there b o q (by simp)
  rw[e]at z;cases z
theorem Kr{pins:List (Addr×Obj)}{σ:St}{H1 H2:Hp}{s1 s2:Shared}{e C:Addr}(I:Inv 'c' pins σ H1 s1)
  (n1:s1.heap.get? e=none)(h2e:H2 e=none)(ho:s2.os=s1.os)(hb:AllBare s2.gens)(un:Un (Ao (envOfC qual scope s.heap.objs.size f cd::outer)) [] H1 H2 s1.heap s2.heap)(hok:nX P w H2 s2.heap)(hE:E (.ref C) none H2)
  {h':Heap}{T':Addr}(xs:List Addr)(hxs:∀b∈xs,s1.heap.get? b=none)(hxh:∀b∈xs,H2 b=none)(k:Dk ((envOfC qual scope s.heap.objs.size f cd::outer).filterMap (·.frame)) xs s2.heap h')(hT:s1.heap.get? T'=none)(hTh:H2 T'=none)(hx:Exc h' e T' C .none):
  qc P w outer H s E (.ref e) {s2 with heap:=h'}:=by
 have I2:Inv 'c' pins σ H2 s2:=I.xq ho un hok hb (fun b z=>nomatch z)
 have fr:∀b∈(envOfC qual scope s.heap.objs.size f cd::outer).filterMap (·.frame),b∈Ao outer\/s.heap.get? b=none:=fun b hb=>by
  rcases mem_cons.mp (I2.xo b hb)with z|z
  ·refine .inr ?_
   have hn:(s.heap.get? b)=none:=by
    rw[z]
    exact Heap.get?_none_of_le (Nat.le_refl _)
   exact hn
  ·exact .inl z
 have hu:=I2.base
 have nn:∀b,s1.heap.get? b=none->s.heap.get? b=none:=fun b q=>ou I.base q
 refine⟨e,T',C,H2,rfl,hx,nn e n1,nn T' hT,h2e,hTh,I2.os,hb,D5 hu k (fun b hb=>nn b (hxs b hb)) fr,AO hok k hxh (fun b hb=>I2.wJ b hb),hE⟩
theorem Xo{xc:Str->Value}:Passes (qc P w) 'c' (EX xc fun n H'=>E (xc n) none H'):=by
 intro pins σ H1 s1 ev s2 I h
 obtain⟨e,T,C,H2,rfl,x,n1,n2,n3,n4,os,bare,un,hok,n,hc,hE⟩:=h
 have I2:Inv 'c' pins σ H2 s2:=I.xq os un hok bare (fun b z=>nomatch z)
 show wpAny _ _ (leaving _ (.ref e)) _ _ s2
 unfold leaving
 refine wpAny_bind (B6 (L:=s.heap.objs.size) I.ok.frames I2.stack rfl x fun h' T' t1 t2 t3=>wY t2 fun Zu u1 u2=>?_)
 have SE:s1.heap.get? T'=none:=ou un t1
 refine Kr (s2:=s2) I n1 n3 os bare un hok (by rw[hc];exact hE) [e,T,T'] ?_ ?_ (t3.trans (ys:=[T']) (fun b o q hn=>?_) ?_ ?_) SE (f9 hok t1) u1
 ·intro b hb
  simp at hb
  rcases hb with rfl|rfl|rfl
  ·exact n1
  ·exact n2
  ·exact SE
 ·intro b hb
  simp at hb
  rcases hb with rfl|rfl|rfl
  ·exact n3
  ·exact n4
  ·exact f9 hok t1
 ·exact⟨fun _=>(u2 b o q hn).1 (by simp),(u2 b o q hn).2⟩
 ·intro c hc;simp at hc;rcases hc with rfl|rfl<;>simp
 ·intro c hc;simp at hc;simp[hc]
theorem raised{pins:List (Addr×Obj)}{σ:St}{H1:Hp}{s1:Shared}{e C:Addr}{h1:Heap}{args:List Value}(I:Inv 'c' pins σ H1 s1)
  (mx:Heap.MadeExcOf s1.heap h1 e (.ref C) args)(hE:E (.ref C) none H1):'c'.xe (.ref e) {s1 with heap:=h1}:=by
 obtain⟨t,q1,q2,q3⟩:=mx.there
 have I2:=I.kept (t':=s1.toks) mx.keeps
 show wpAny _ _ (leaving _ (.ref e)) _ _ _
 unfold leaving
 refine wpAny_bind (HE (L:=s.heap.objs.size) I.ok.frames I2.stack rfl q1 rfl fun h' T' t1 t2 t3=>wY t2 fun Zu u1 u2=>?_)
 have kn:∀b,h1.get? b=none->s1.heap.get? b=none:=fun b q=>by
  cases z:s1.heap.get? b with
  |none=>rfl
  |some o=>rw[mx.keeps b o z]at q;cases q
 have SE:s1.heap.get? T'=none:=kn T' t1
 have fe:H1 e=none:=f9 I.hok mx.new
 refine Kr (s2:={s1 with heap:=h1}) I mx.new fe rfl I.bare (Un.kept mx.keeps) I2.hok hE [e,T'] ?_ ?_ (t3.trans (ys:=[T']) (fun b o q hn=>?_) ?_ ?_) SE (f9 I2.hok t1) u1
 ·intro b hb
  simp at hb
  rcases hb with rfl|rfl
  ·exact mx.new
  ·exact SE
 ·intro b hb
  simp at hb
  rcases hb with rfl|rfl
  ·exact fe
  ·exact f9 I2.hok t1
 ·exact⟨fun _=>(u2 b o q hn).1 (by simp),(u2 b o q hn).2⟩
 ·intro c hc;simp at hc;simp[hc]
 ·intro c hc;simp at hc;simp[hc]
end
def QK(K:'b')(n:Str):Value:=match nsIn K mainGlobals n with
 |some (some v)=>v
 |_=>.none
theorem Ks{K:'b'}{n:Str}{v:Value}(h:nsIn K mainGlobals n=some (some v)):QK K n=v:=by
 unfold QK;rw[h]
abbrev Zy:List Value:=[.type "ValueError",.type "Exception",.type "BaseException",.type "object"]
theorem HF{K:'b'}{h:Heap}{C:Addr}{bmB:List Value}{newId:String}(X:K.In h)(q:excIn K C bmB newId=true):∃nm qn N bs bm hdct sn sub ab col dd k0 k1 k2 k3 k5,∃mN:Str->Option Value,
  h.get? C=some (excClassObj nm qn C N bs bm hdct sn sub ab col dd k0 k1 k2 k3 k5 newId)/\h.Ns N mN/\mN "__init__"=none/\OwnTail h bmB bm:=by
 unfold excIn at q
 split at q
 ·rename_i dd cd sl lk
  split at q
  ·rename_i C2 tl a0 a1 a2 a3 nw a5 em es
   simp only [and_eq_true,beq_iff_eq,Bool.not_eq_true']at q
   obtain⟨⟨⟨⟨⟨e1,e2⟩,e3⟩,e4⟩,e5⟩,e6⟩:=q
   subst e1 e2
   cases cd
   dsimp only at em e3 e5 e6
   subst em e3
   have z:sl=#[a0,a1,a2,a3,some (.builtin nw),a5]:=by
    cases sl
    simp only at es
    rw[es]
   subst z
   exact⟨_,_,_,_,tl,_,_,_,_,_,dd,a0,a1,a2,a3,a5,_,X _ _ lk,.of_isNs (PySem.W.isNs_of_in X e5),PySem.W.nsMap_none_of_in X e5 e6,PySem.W.tail_of_in X e4⟩
  ·cases q
 ·cases q
structure Xc(K:'b')(mg:Str->Option Value)(x:Str)(C:Addr):Prop where
 m:mg x=some (.ref C)
 n:nsIn K mainGlobals x=some (some (.ref C))
 i:excIn K C Zy "ValueError.__new__"=true
section
variable{P:Program}{w:World}{K:'b'}{mg:Str->Option Value}{base:Heap}{N:List Str}{qual:Str}{scope:Scope}{f:Addr}{cd:Value}{A:Around}{outer:List Env}{s:Shared}{H:Hp}{E:XK}
abbrev EW(K:'b')(E:XK):Str->Hp->Prop:=fun n H'=>E (QK K n) none H'
theorem OwnTail.Xp {h:Heap}{bm:List Value}(T:OwnTail h Zy bm):bm.contains (.type "BaseException")=true:=T.hasType (by decide +kernel)
theorem AQ{x:Str}{C:Addr}{msg:Str}{j}{p np bg pos:Pos}(xc:Xc K mg x C)(hh:A.handled=none)(hg:Gl 'c' x:=by rfl)(hdb:(x==("__debug__":Str))=false:=by decide)
  (hp:(backTo bg (starEach [.Constant (.str msg) j p] 'c'.env)).any (·.1)=false:=by rfl)
  (hst:starEach [.Constant (.str msg) j p] 'c'.env=[(false,eval (.Constant (.str msg) j p) 'c'.env)]:=by rfl):
  PS 'c' (.Raise (some (.Call (.Name x np) [.Constant (.str msg) j p] [] bg)) none pos) (tS K (EW K E) fun _=>.err x):=by
 intro pins s1 σ H1 De I ⟨g,env,os,r,m⟩
 have hE:E (QK K x) none H1:=m H1 r.ext
 rw[Ks xc.n]at hE
 have hA:(PA 'c' [.Constant (.str msg) j p] (E7 (tC (.str msg)) Jv)):=ao RG aL hst
 obtain⟨nm,qn,N',bs,bm,hdct,sn,sub,ab,col,dd,k0,k1,k2,k3,k5,mN,c1,c2,c3,c4⟩:=HF I.ok.mod.RA xc.i
 refine wpAny_Raise_call_subT (C:=C) (nm:=nm) (q:=qn) (N:=N') (bs:=bs) (bm:=bm) (hdct:=hdct) (sn:=sn) (sub:=sub) (ab:=ab) (col:=col) (dd:=dd) (k0:=k0) (k1:=k1) (k2:=k2) (k3:=k3) (k5:=k5) (mN:=mN) PySem.F.excBase_ValueError (OwnTail.Xp c4) hh hp c3 (qN I hg xc.m ⟨rfl,?_⟩ hdb)
 have hA2:=hA bg pins s1 σ H1 (fun vs H2=>vs=[.str msg]/\H2=H1) I ⟨rfl,rfl⟩
 rw[hst]at hA2⊢
 refine Calls.evalArgs_plain (cC hA2 fun us s2 ⟨vs,H2,I2,r2,e1,e2⟩=>?_)
 subst e1 e2
 have hk:=I2.bk
 refine⟨rfl,?_,hk _ _ c1,c2.keeps hk,c4.keeps hk,fun h' e mx=>raised I2 mx hE⟩
 rw[<-r2.length]
 show 1<=sizeLine
 decide
end
def QL(n N:Nat)(b:DE->R Out)(ds:List D):R D:=if ds.length=n then((b (aJ N ds)).bind ah).bind HB else .bad
abbrev IX(P:Program)(w:World)(K:'b')(mg:Str->Option Value)(base:Heap)(k:Nat)(f:Addr)(fd:FuncData)(ps:List Str)(m:List D->R D):Prop:=b8 P w K mg base (qc P w) k f fd ps (Fq K (QK K) m)
abbrev ag0(P:Program)(w:World)(K:'b')(mg:Str->Option Value)(base:Heap)(k:Nat)(f:Addr)(fd:FuncData)(ps:List Str)(m:List D->R (List D)):Prop:=b8 P w K mg base (qc P w) k f fd ps (M4 K (QK K) m)
section
variable{P:Program}{w:World}{K:'b'}{mg:Str->Option Value}{base:Heap}
variable{x:Str}{st:Stmt}{f:Addr}{fd:FuncData}{N ps:List Str}{k:Nat}{b:DE->R Out}
theorem Xq{m:List D->R D}(F:Bq K x x st f fd)(S:aA N ps (ae st))
  (hm:∀ds,m ds≠.bad->ds.length=ps.length/\((∃d,m ds=.ok d/\(b (aJ N.length ds)).bind ah=.ok d)\/∃c,m ds=.err c/\b (aJ N.length ds)=.err c))
  (hb:∀(cdv:Value)(A:Around)(outer:List Env)(s:Shared)(H:Hp)(E:XK),aY k (A.deeper (envOfC x (ae st) s.heap.objs.size f cdv))->rB (dD (qc P w) P w K mg base N x (ae st) f cdv A outer s H E) (bE st) (tS K (EW K E) b)):
  IX P w K mg base (k+1) f fd ps m:=by
 obtain⟨oc,od,kV,doc,pm,an,cdv,ct,Hj,rfl,lk,hcd⟩:=F.ex
 refine PK lk hcd S (fun vs H Q E h=>?_) fun A outer s H vs Q E hr h=>?_
 ·obtain⟨Pa,ds,i,h⟩:=h
  have:=(hm ds fun z=>by rw[z]at h;exact h).1
  rw[i.length];exact this
 ·obtain⟨Pa,ds,i,h⟩:=h
  refine⟨_,hb cdv A outer s H E hr,⟨⟨Pa,H⟩,aJ N.length ds,[],qQ i,?_⟩⟩
  obtain⟨_,⟨d,e,q⟩|⟨c,e,q⟩⟩:=hm ds fun z=>by rw[z]at h;exact h
  ·rw[e]at h
   cases eb:b (aJ N.length ds)with
   |bad=>rw[eb]at q;cases q
   |err c=>rw[eb]at q;cases q
   |ok o=>
    rw[eb]at q
    cases o with
    |rt d'=>
     cases q
     exact fun v H' s' i'=>h v H' s' i'.P0
    |pX xs=>
     cases q
     intro a Di H' s' hn hH i'
     exact h _ H' s' ⟨a,Di,rfl,.inl ⟨.inr hn,.inl hH⟩,IsL.ext ⟨fun b o p _=>p.1,fun _ _ _ z=>z⟩ _ _ i'⟩
    |nx e'=>
     cases q
     exact fun σ' H' gu r' _=>h _ H' r'.ext rfl
    |IQ _=>cases q
    |Ht _=>cases q
    |IP _=>cases q
    |BQ _=>cases q
    |bk _=>cases q
    |ct _=>cases q
  ·rw[e]at h
   rw[q]
   exact h
theorem Ku{α β:Type}{r:R α}{k:α->R β}{c:Str}(hk:∀a c,k a≠.err c)(h:r.bind k=.err c):r=.err c:=by
 cases r with
 |ok a=>exact(hk a c h).elim
 |err c'=>cases h;rfl
 |bad=>cases h
theorem Oe(o:Out)(c:Str):ah o≠.err c:=by
 intro z;cases o<;>cases z
theorem To(d:D)(c:Str):HB d≠.err c:=by
 unfold HB;intro z
 split at z<;>cases z
variable(S:aA N ps (ae st))(d:Df K mg x st ps f fd)
  (hb:∀(cdv:Value)(A:Around)(outer:List Env)(s:Shared)(H:Hp)(E:XK),aY k (A.deeper (envOfC x (ae st) s.heap.objs.size f cdv))->rB (dD (qc P w) P w K mg base N x (ae st) f cdv A outer s H E) (bE st) (tS K (EW K E) b))
include S d hb
theorem Xr:IX P w K mg base (k+1) f fd ps (QL ps.length N.length b):=Xq d.F S (fun ds h=>by
 unfold QL at h⊢
 split
 ·rename_i c
  rw[if_pos c]at h
  refine⟨c,?_⟩
  cases e:(b (aJ N.length ds)).bind ah with
  |ok d=>
   rw[e]at h
   cases e2:HB d with
   |ok y=>
    obtain⟨rfl,_⟩:=xP e2
    exact .inl ⟨d,e2,rfl⟩
   |err c=>exact(To d c e2).elim
   |bad=>exact(h e2).elim
  |err c=>exact .inr ⟨c,rfl,Ku Oe e⟩
  |bad=>rw[e]at h;exact(h rfl).elim
 ·rename_i c
  exact(h (if_neg c)).elim) hb
end
section
variable{P:Program}{w:World}{K:'b'}{mg:Str->Option Value}{base:Heap}{f:Addr}{fd:FuncData}{ps:List Str}{k:Nat}
theorem b8.calm {sp sp':Sp}(F:b8 P w K mg base (qc P w) k f fd ps sp)(h:∀vs H Q E,sp' vs H Q E->sp vs H Q fun _ _ _=>False):b8 P w K mg base lI k f fd ps sp':=
 ⟨fun vs H Q E q=>F.len vs H Q _ (h vs H Q E q),fun A outer s H args us vs Q E hr he hb hv hs=>codeAny_mono (F.run A outer s H args us vs Q _ hr he hb hv (h vs H Q E hs)) fun r s' hq=>by
  cases r with
  |ok fl=>cases fl<;>exact hq
  |error e=>
   obtain⟨_,_,_,_,_,_,_,_,_,_,_,_,_,_,z⟩:=hq
   exact z.elim⟩
theorem IX.calm {m:List D->R D}(F:IX P w K mg base k f fd ps m):Ok P w K mg base k f fd ps (fun ds=>(m ds).ne):=b8.calm F fun vs H Q E h=>by
 obtain⟨Pa,ds,i,h⟩:=h
 refine⟨Pa,ds,i,?_⟩
 cases e:m ds with
 |ok d=>simp only [e,R.ne]at h;exact h
 |err c=>simp only [e,R.ne]at h
 |bad=>simp only [e,R.ne]at h
end
section
variable{P:Program}{w:World}{K:'b'}{mg:Str->Option Value}{base:Heap}{N:List Str}{qual:Str}{scope:Scope}{f:Addr}{cd:Value}{A:Around}{outer:List Env}{s:Shared}{H:Hp}{E:XK}
variable{k:Nat}{fa:Addr}{fd:FuncData}{st:Stmt}{ps:List Str}{x:Str}{p pos:Pos}{e:Expr}{es:List Expr}{fr:DE->R (List D)}
theorem fBX{m:List D->R D}(hsc:M9 m)(d:Df K mg x st ps fa fd)(F:IX P w K mg base k fa fd ps m)(hr:aY k (A.deeper (envOfC qual scope s.heap.objs.size f cd)))
  (ha:PA 'c' (e::es) (rC K (EW K E) fr))(hg:Gl 'c' x:=by rfl)(hdb:(x==("__debug__":Str))=false:=by decide)(he:starEach (e::es) 'c'.env=(false,eval e 'c'.env)::starEach es 'c'.env:=by rfl)(hpl:(backTo pos (starEach es 'c'.env)).any (·.1)=false:=by rfl):
  PE 'c' (.Call (.Name x p) (e::es) [] pos) (tD K (EW K E) fun env=>(fr env).bind m):=fB (X:='c') F hsc d.m d.F.kp d.b hr Xo ha hg hdb he hpl
theorem Og{n N:Nat}{b:DE->R Out}:M9 (QL n N b):=fun ds d h=>by
 unfold QL at h
 split at h
 ·obtain⟨x,_,h2⟩:=R.dZ h
  exact(xP h2).2
 ·cases h
theorem M9.ne {m:List D->R D}(h:M9 m):M9 (fun ds=>(m ds).ne):=fun ds d e=>h ds d (R.bO e)
theorem Xs:PassesOwn (model 'c'.prog 'c'.w) 'c'.A 'c'.env 'c'.xe:=PassesOwn.leaving
end
def PB(X:Cx)(body:List Stmt)(f:DE->R Out):Prop:=∀pins s σ H De g env os,Inv X pins σ H s->Rel X.K g env σ H os->f env≠.bad->(∀o,f env=.ok o->gk X.K g H os De o)->
 wpAny (model X.prog X.w) X.A (execs body X.env) (SP X pins De) (fun ev s'=>∃n H0 s0,f env=.err n/\Inv X pins σ H0 s0/\qc X.prog X.w X.stack H0 s0 (fun c _ H'=>c=QK X.K n/\aN H H') ev s') s
section
variable{X:Cx}{k:Nat}{fa:Addr}{fd:FuncData}{st:Stmt}{ps:List Str}{x:Str}{p pos bg:Pos}{e:Expr}{es:List Expr}{fr:DE->R (List D)}
theorem QM{pins:List (Addr×Obj)}{σ:St}{H:Hp}{s:Shared}{Q:VK}{E:XK}{us:List Value}{vs:List V}{sp:Sp}(F:b8 X.prog X.w X.K X.mg X.base (qc X.prog X.w) k fa fd ps sp)(hr:aY k X.A)(hb:Binds X.K fd ps [])
  (I:Inv X pins σ H s)(r:Vals vs us)(h:sp vs H Q E):wpAny (model X.prog X.w) X.A (call (.ref fa) us) (EP X pins σ Q) (fun ev s'=>qc X.prog X.w X.stack H s E ev s') s:=by
 have hl:us.length=ps.length:=by rw[<-r.length];exact F.len _ _ _ _ h
 have hb2:=hb s us I.qM (by rw[append_nil];exact hl)
 rw[append_nil]at hb2
 refine wpAny_call (codeAny_mono (F.run X.A X.stack s H ⟨us,[]⟩ us vs Q E hr I.R6 hb2 r h) fun r s' hq=>?_)
 cases r with
 |error e=>exact hq
 |ok fl=>
  cases fl with
  |ret u=>exact I.after hq
  |next=>exact False.elim hq
  |brk=>exact False.elim hq
  |cont=>exact False.elim hq
theorem Tp{m:List D->R D}(d:Df X.K X.mg x st ps fa fd)(F:IX X.prog X.w X.K X.mg X.base k fa fd ps m)(hr:aY k X.A)
  (ha:PA X.G8 (e::es) (rC X.K EN fr))(hg:Gl X x:=by rfl)(hdb:(x==("__debug__":Str))=false:=by decide)(he:'e':=by rfl)(hpl:(backTo bg (starEach es X.env)).any (·.1)=false:=by rfl)
  (hs:swapsWith (.Call (.Name x p) (e::es) [] bg) none pos.line X.env=pure false:=by rfl):
  PB X [.Expr (.Call (.Name x p) (e::es) [] bg) pos] (fun env=>(fr env).ne.bind fun ds=>(m ds).bind fun _=>.ok (.nx env)):=by
 intro pins s σ H De g env os I r nb hok
 dsimp only at nb hok⊢
 cases q:fr env with
 |err c=>rw[q]at nb;exact(nb rfl).elim
 |bad=>rw[q]at nb;exact(nb rfl).elim
 |ok ds=>
  rw[q]at nb hok
  simp only [R.ne,R.bF]at nb hok⊢
  refine wpAny_execs_cons (cC (Q:=fun fl s1=>fl=.next/\∃H1 v,m ds=.ok v/\Inv X pins σ H1 s1/\aN H H1) ?_ fun fl s1 q1=>?_)
  ·refine wpAny_Expr_any ?_ I.quiet hs
   refine wpAny_Call_Name_kw (qN I hg d.m ?_ hdb)
   refine callWith_K (h₀:=X.base) I.ok.mod.RA d.F.kp ?_ he hpl
   refine wpAny_mono (ha bg pins s σ H (fun vs H1=>aN H H1/\IsL X.K (fun _=>True) H1 ds vs) (I.xr _) ⟨g,env,os,r,sX q fun vs H1 s1 i1=>⟨s1,i1⟩⟩) (fun us s1 ⟨vs,H1,I1,r1,Xu,i1⟩=>⟨I1.qM,?_⟩) fun _ _ z=>False.elim z
   have I1':Inv X pins σ H1 s1:=I1.nY
   cases em:m ds with
   |bad=>rw[em]at nb;exact(nb rfl).elim
   |ok v=>
    refine wpAny_mono (QM (Q:=fun _ H2=>aN H1 H2) (E:=fun _ _ _=>False) F hr d.b I1' r1 ⟨_,ds,i1,?_⟩) (fun u s2 ⟨z,H2,I2,_,JS⟩=>⟨rfl,H2,v,rfl,I2,Xu.trans JS⟩) fun ev s2 hq=>?_
    ·rw[em];exact fun _ _ s' _=>s'
    ·obtain⟨_,_,_,_,_,_,_,_,_,_,_,_,_,_,z⟩:=hq
     exact z.elim
   |err n=>
    refine wpAny_mono (QM (Q:=fun _ _=>False) (E:=fun c _ H'=>c=QK X.K n/\aN H H') F hr d.b I1' r1 ⟨_,ds,i1,?_⟩) (fun u s2 ⟨z,H2,I2,_,f⟩=>f.elim) fun ev s2 hq=>?_
    ·rw[em];exact fun H' s'=>⟨rfl,Xu.trans s'⟩
    ·exact⟨n,H1,s1,rfl,I1',hq⟩
  ·obtain⟨rfl,H1,v,em,I1,s1⟩:=q1
   refine wpAny_execs_nil ⟨σ,H1,I1,?_⟩
   exact(hok (.nx env) (by rw[em];rfl)) σ H1 os (r.same s1) (.same s1 os)
end
abbrev PY(X:Cx)(e:Addr):Cx:={X with A:=X.A.mark (some (.ref e)),calm:=false,xe:=fun _ _=>False}
section
variable{X:Cx}{pins:List (Addr×Obj)}{σ:St}{H H1:Hp}{s s1:Shared}{e:Addr}
theorem Inv.PY (I:Inv X pins σ H s)(e:Addr):Inv (DL.PY X e) pins σ H s:=
 ⟨⟨I.ok.mod,I.ok.kind,I.ok.glob,I.ok.blt,I.ok.above,I.ok.inj,I.ok.has,I.ok.PF,(fun z=>by cases z),I.ok.frames,I.ok.RB,I.ok.RD,I.ok.bs,I.ok.IL,I.ok.BE,I.ok.Aq,I.ok.rZ,I.ok.MV⟩,I.os,I.bare,I.base,I.loc,I.cell,I.free,I.lN,I.pin,I.hok,I.len⟩
theorem Inv.Xv (hc:X.calm=true->X.A.handled=none)(I:Inv (DL.PY X e) pins σ H s):Inv X pins σ H s:=
 ⟨⟨I.ok.mod,I.ok.kind,I.ok.glob,I.ok.blt,I.ok.above,I.ok.inj,I.ok.has,I.ok.PF,hc,I.ok.frames,I.ok.RB,I.ok.RD,I.ok.bs,I.ok.IL,I.ok.BE,I.ok.Aq,I.ok.rZ,I.ok.MV⟩,I.os,I.bare,I.base,I.loc,I.cell,I.free,I.lN,I.pin,I.hok,I.len⟩
theorem HG{P:Program}{w:World}{h:Heap}{o:HO}(x:nX P w H h)(he:H e=none)(ok:cD P w (upd H e o) h e o):nX P w (upd H e o) h:=fun a u q=>by
 by_cases z:a=e
 ·subst z
  rw[ak]at q
  cases q
  exact ok
 ·rw[aj z]at q
  have nb:∀b v,H b=some v->upd H e o b=some v:=fun b v q2=>by rw[aj (fun z2=>by rw[z2,he]at q2;cases q2)];exact q2
  exact(x a u q).pQ (fun _ _ _ q=>q) (fun b q2=>nb b _ q2) fun b xs q2=>nb b _ q2
theorem Inv.Xw {o:HO}(hex:X.ex=[])(I1:Inv X pins σ H1 s1)(I:Inv X pins σ H s)(ne:s1.heap.get? e=none)(he:H e=none)(ok:cD X.prog X.w (upd H e o) s.heap e o):Inv X pins σ (upd H e o) s:=by
 have n0:X.s₀.heap.get? e=none:=by
  have b:=I1.base
  rw[hex]at b
  exact ou b ne
 have nx:∀b u,s1.heap.get? b=some u->b≠e:=fun b u q z=>by rw[z,ne]at q;cases q
 have hb:∀b v,H b=some v->upd H e o b=some v:=fun b v q2=>by rw[aj (fun z2=>by rw[z2,he]at q2;cases q2)];exact q2
 refine⟨I.ok,I.os,I.bare,⟨I.base.keep,I.base.slot,fun b u q n hx=>?_,I.base.there,fun b xs q=>hb b _ (I.base.tups b xs q),fun b u v q=>hb b _ (I.base.uv b u v q),fun b ps q=>?_⟩,I.loc,I.cell,?_,fun x c q=>?_,fun p hp=>?_,HG I.hok he ok,I.len⟩
 ·rw[aj (fun z=>by rw[z,n0]at q;cases q)]
  exact I.base.free b u q n hx
 ·obtain⟨more,z⟩:=I.base.we b ps q
  exact⟨more,hb b _ z⟩
 ·obtain⟨m,⟨u,_,_,hu,_⟩,_⟩:=I1.loc
  rw[aj (nx _ u hu)]
  exact I.free
 ·obtain⟨v,u,hu,_⟩:=I1.cell x c q
  rw[aj (nx _ u hu)]
  exact I.lN x c q
 ·obtain⟨a1,a2,a3⟩:=I.pin p hp
  obtain⟨b1,_⟩:=I1.pin p hp
  exact⟨a1,by rw[aj (nx _ _ b1)];exact a2,a3⟩
theorem Kv{M:Model}{A:Around}{E:Value->Shared->Prop}{i:Nat}{x:Str}{pos:Pos}{Q:Unit->Shared->Prop}(I:Inv X pins σ H s)(hN:X.N.Nodup)(hi:X.N[i]?=some x)(hk:X.env.scope.names.lookup x=some .local)
  (h:∀s',Inv X pins (σ.set i none) H s'->Q () s'):wpAny M A (do bindName X.env x .none;unbindBehindTheSuite X.env x pos) Q E s:=by
 obtain⟨m,hn,hl⟩:=id I.loc
 have hcls:(X.env.scope.kind==.class||(X.env.scope.kind==.module&&X.env.locals !=X.env.globals))=false:=by rw[I.ok.kind];rfl
 have Zc:i<σ.length:=by rw[I.len];exact(List.getElem?_eq_some_iff.mp hi).1
 obtain⟨oL,_,_,hoL,_⟩:=id hn
 have lo:∀b u,X.s₀.heap.get? b=some u->b≠X.env.locals:=fun b u q=>ne_of_lt (lt_of_lt_of_le (Heap.lt_size q) I.ok.above)
 refine wpAny_nameGoes_keeps hk hn hcls fun h' v hn' hs=>h _ ⟨I.ok,I.os,I.bare,⟨fun b o q n hb hx=>?_,fun b o q n hb hx=>?_,I.base.free,fun b o q hx=>?_,I.base.tups,I.base.uv,I.base.we⟩,⟨_,hn',fun j y v' e1 e2 e3=>?_⟩,fun y c q=>?_,I.free,I.lN,fun p hp=>?_,fun b ob q=>?_,by simpa using I.len⟩
 ·exact(hs.2 b (lo b o q)).trans (I.base.keep b o q n hb hx)
 ·obtain⟨sl,q1⟩:=I.base.slot b o q n hb hx
  exact⟨sl,(hs.2 b (lo b o q)).trans q1⟩
 ·obtain⟨o',q1⟩:=I.base.there b o q hx
  exact⟨o',(hs.2 b (lo b o q)).trans q1⟩
 ·by_cases hj:j=i
  ·subst hj
   rw[getElem?_set_self Zc]at e2
   cases e2
  ·rw[getElem?_set_ne (Ne.symm hj)]at e2
   obtain⟨u',r',q⟩:=hl j y v' e1 e2 e3
   refine⟨u',r',?_⟩
   rcases q with⟨k,q⟩|⟨k,c,q,z⟩
   ·refine .inl ⟨k,?_⟩
    have ny:y≠x:=fun z=>hj (xp hN e1 (z▸hi))
    simp[ny,q]
   ·exact .inr ⟨k,c,q,z.sameBut hs (I.Nk y c q)⟩
 ·obtain⟨w',z⟩:=I.cell y c q
  exact⟨w',z.sameBut hs (I.Nk y c q)⟩
 ·obtain⟨q,n,ne,nf,d⟩:=I.pin p hp
  exact⟨(hs.2 p.1 ne).trans q,n,ne,nf,d⟩
 ·refine(I.hok b ob q).pQ (fun c w' hc z=>(hs.2 c ?_).trans z) (fun _ z=>z) fun _ _ z=>z
  rintro rfl
  rcases hc with z|z
  ·rw[<-z,I.free]at q;cases q
  ·rw[I.free]at z;cases z
end
theorem Rel.drop {K:'b'}{g:Gh}{env:DE}{σ:St}{H:Hp}{os:List Addr}(r:Rel K g env σ H os)(i:Nat):Rel K g (env.set i .no) (σ.set i none) H os:=by
 have f:∀(j:Nat)(sl:Sl),(env.set i Sl.no)[j]?=some sl->sl≠.no->i≠j/\env[j]?=some sl:=fun j sl q hn=>by
  by_cases hj:i=j
  ·subst hj
   exact(hn (aR q)).elim
  ·rw[getElem?_set_ne hj]at q
   exact⟨hj,q⟩
 refine⟨by simp[r.len],r.ext,fun j d q=>?_,fun j xs q=>?_,fun j k xs ys a q1 q2 q3 q4=>?_,r.new,fun j v q=>?_,?_⟩
 ·obtain⟨hj,q⟩:=f j _ q (fun z=>nomatch z)
  obtain⟨v,h1,h2⟩:=r.val j d q
  exact⟨v,by rw[getElem?_set_ne hj];exact h1,h2⟩
 ·obtain⟨hj,q⟩:=f j _ q (fun z=>nomatch z)
  obtain⟨a,vs,h1,h2⟩:=r.own j xs q
  exact⟨a,vs,by rw[getElem?_set_ne hj];exact h1,h2⟩
 ·obtain⟨hj,q1⟩:=f j _ q1 (fun z=>nomatch z)
  obtain⟨hk,q2⟩:=f k _ q2 (fun z=>nomatch z)
  rw[getElem?_set_ne hj]at q3
  rw[getElem?_set_ne hk]at q4
  exact r.inj j k xs ys a q1 q2 q3 q4
 ·obtain⟨hj,q⟩:=f j _ q (fun z=>nomatch z)
  rw[getElem?_set_ne hj]
  exact r.raw j v q
 ·obtain⟨A,dd⟩:=r.Hs
  refine⟨A,dd.to (fun j nss q=>?_) (fun j xs b q z=>?_) fun j nss q x hx=>⟨(dd.mem q x hx).1,rfl⟩⟩
  ·obtain⟨hj,q⟩:=f j _ q (fun z=>nomatch z)
   exact⟨q,by rw[getElem?_set_ne hj]⟩
  ·obtain⟨hj,q⟩:=f j _ q (fun z=>nomatch z)
   rw[getElem?_set_ne hj]at z
   exact .inl ⟨xs,q,z⟩
def unO(i:Nat):Out->R Out
 |.nx e=>.ok (.nx (e.set i .no))
 |_=>.bad
def tryD(i:Nat)(ms:List Str)(f fs:DE->R Out)(env:DE):R Out:=match f env with
 |.ok o=>.ok o
 |.err n=>if n∈ms then(fs (env.set i (.val (.exc n)))).ne.bind (unO i)else .bad
 |.bad=>.bad
structure Cat(K:'b')(mg:Str->Option Value)(c:Str)(ms:List Str):Prop where
 ex:∃C,mg c=some (.ref C)/\∀n∈ms,∃D,nsIn K mainGlobals n=some (some (.ref D))/\exmOne K (.ref D) (.ref C)=some true
section
variable{X:Cx}{E:Str->Hp->Prop}
theorem abt(i:Nat){ms:List Str}{body:List Stmt}{b₀:Stmt}{suite:List Stmt}{c x:Str}{cp hpos pos:Pos}{f fs:DE->R Out}(ct:Cat X.K X.mg c ms)(hb:PB X body f)(hsu:∀e,rB (PY X e) (b₀::suite) (tS X.K EN fs))(hN:X.N.Nodup)
  (vO:X.calm=true)(hex:X.ex=[]:=by rfl)(hst:X.stack=X.env::X.outer:=by rfl)(hfr:X.env.frame=some X.env.locals:=by rfl)(hi:X.N[i]?=some x:=by rfl)(hk:X.env.scope.names.lookup x=some .local:=by rfl)(hg:Gl X c:=by rfl)(hdb:(c==("__debug__":Str))=false:=by decide):
  PS X (.Try body [.ExceptHandler (some (.Name c cp)) (some x) (b₀::suite) hpos] [] [] pos) (tS X.K E (tryD i ms f fs)):=by
 intro pins s σ H De I ⟨g,env,os,r,m⟩
 obtain⟨Cc,cm,cx⟩:=ct.ex
 have hnb:f env≠.bad:=fun z=>by unfold tryD at m;rw[z]at m;exact m
 refine wpAny_Try_except (wpAny_mono (hb pins s σ H De g env os I r hnb fun o q=>by unfold tryD at m;rw[q]at m;exact m) (fun fl s1 q=>?_) fun ev s1 q=>?_)
 ·cases fl with
  |next=>exact wpAny_execs_nil q
  |ret v=>exact q
  |brk=>exact q
  |cont=>exact q
 ·obtain⟨n,H0,s0,ef,I0,e,T,C,H',rfl,x1,n1,n2,n3,n4,ho,bare,un,hok,hc,sm⟩:=q
  unfold tryD at m
  rw[ef]at m
  dsimp only at m
  split at m
  ·rename_i hms
   obtain⟨Dn,dn,dx⟩:=cx n hms
   have eC:C=Dn:=by rw[Ks dn]at hc;exact Value.ref.inj hc
   subst eC
   have I1:Inv X pins σ H' s1:=I0.xq ho un hok bare (fun b z=>nomatch z)
   have VF:∀b∈(X.env::X.outer).filterMap (·.frame),H' b=none:=fun b hb=>I1.wJ b (by rw[hst];exact hb)
   have fl1:=I1.stack
   rw[hst]at fl1
   refine B6 (L:=X.env.locals) (by rw[I.ok.frames,hst]) fl1 hfr x1 fun h2 T2 t1 t2 t3=>wY t2 fun h3 u1 u2=>?_
   have T0:s0.heap.get? T2=none:=ou un t1
   have TH:H' T2=none:=f9 hok t1
   have kk:Dk ((X.env::X.outer).filterMap (·.frame)) [e,T,T2] s1.heap h3:=t3.trans (ys:=[T2]) (fun b o q hn=>⟨fun _=>(u2 b o q hn).1 (by simp),(u2 b o q hn).2⟩) (by intro c hc;simp at hc;rcases hc with rfl|rfl<;>simp) (by intro c hc;simp at hc;simp[hc])
   have xs0:∀b∈[e,T,T2],s0.heap.get? b=none:=by
    intro b hb
    simp at hb
    rcases hb with rfl|rfl|rfl
    ·exact n1
    ·exact n2
    ·exact T0
   have xsH:∀b∈[e,T,T2],H' b=none:=by
    intro b hb
    simp at hb
    rcases hb with rfl|rfl|rfl
    ·exact n3
    ·exact n4
    ·exact TH
   have Xx:∀b∈(X.env::X.outer).filterMap (·.frame),b∈Ao X.stack\/s0.heap.get? b=none:=fun b hb=>.inl (by rw[hst];exact hb)
   have un3:=D5 un kk xs0 Xx
   have abu:=AO hok kk xsH VF
   have I3:Inv X pins σ H' {s1 with heap:=h3}:=I0.xq (s':={s1 with heap:=h3}) ho un3 abu bare (fun b z=>nomatch z)
   have nby:(Value.ref e)≠byPass:=by intro q;cases q
   refine wpAny_handleBy_cons (codeAny_handlers_test (qN (Inv.PY I3 e) hg cm ?_ hdb)) nby
   obtain⟨vs,a1,a2⟩:=u1.at_
   have lt:Looks (model X.prog X.w) h3 (typeOf (.ref e)) (.ref C):=(Looks.ld a1).andThen .now
   refine(PySem.W.exm_one I3.qM lt dx).here ?_
   show codeAny _ _ _ _ _
   refine codeAny_handlers_suite_as (wY u1 fun h4 w1 w2=>?_)
   have k4:Dk ((X.env::X.outer).filterMap (·.frame)) [e,T,T2] s1.heap h4:=kk.trans (ys:=[T2]) (fun b o q hn=>⟨fun _=>(w2 b o q hn).1 (by simp),(w2 b o q hn).2⟩) (fun _ z=>z) (by intro c hc;simp at hc;simp[hc])
   have I4:Inv X pins σ H' {s1 with heap:=h4}:=I0.xq (s':={s1 with heap:=h4}) ho (D5 un k4 xs0 Xx) (AO hok k4 xsH VF) bare (fun b z=>nomatch z)
   have okE:cD X.prog X.w (upd H' e (.ext (JI e C))) h4 e (.ext (JI e C)):=by
    obtain⟨vs4,b1,b2⟩:=w1.at_
    exact⟨⟨vs4,b1⟩,⟨_,b1⟩,fun ha hb ⟨v,q⟩ k=>⟨v,k _ q⟩⟩
   have I5:=Inv.Xw hex I0 I4 n1 n3 okE
   have r5:Rel X.K g env σ (upd H' e (.ext (JI e C))) os:=(r.same sm).same (aM n3 _)
   have pe:g.P os e:=(r.same sm).fresh n3
   have r6:=r5.set i (d:=.exc n) (v:=.ref e) ⟨e,C,rfl,pe,dn,ak⟩
   refine m9 (v:=.ref e) I5 hN hi (.inl hk) rfl (fun s5 I6=>?_) (.inr hk)
   have sm5:aN H (upd H' e (.ext (JI e C))):=sm.trans (aM n3 _)
   refine wpAny_mono (hsu e pins s5 _ _ ⟨fun σ' Hn=>∀s',Inv X pins (σ'.set i none) Hn s'->SP X pins De .next s',fun _ _=>False,fun _ _=>False,fun _ _=>False⟩ (Inv.PY I6 e) ⟨g,_,os,r6,?_⟩) (fun fl s6 q=>?_) fun _ _ z=>False.elim z
   ·have m':Good E g.H₀ ((fs (env.set i (.val (.exc n)))).ne.bind (unO i)) _:=m
    cases q:fs (env.set i (.val (.exc n)))with
    |err c2=>rw[q]at m';exact m'.elim
    |bad=>rw[q]at m';exact m'.elim
    |ok o=>
     rw[q]at m'
     cases o with
     |nx e2=>
      have m2:gk X.K g H os De (.nx (e2.set i .no)):=m'
      exact fun σ' Hn gu r' st s' I'=>⟨_,Hn,I',m2 _ Hn gu (r'.drop i) ((rD.same sm5 os).trans st)⟩
     |bk _=>exact m'.elim
     |ct _=>exact m'.elim
     |rt _=>exact m'.elim
     |pX _=>exact m'.elim
     |IQ _=>exact m'.elim
     |Ht _=>exact m'.elim
     |IP _=>exact m'.elim
     |BQ _=>exact m'.elim
   ·cases fl with
    |next=>
     obtain⟨σ',Hn,I7,q⟩:=q
     exact Kv (Inv.Xv I.ok.hd I7) hN hi hk q
    |ret v=>obtain⟨_,_,_,_,_,z⟩:=q;exact z.elim
    |brk=>obtain⟨_,_,_,z⟩:=q;exact z.elim
    |cont=>obtain⟨_,_,_,z⟩:=q;exact z.elim
  ·exact m.elim
end
structure VG(K:'b')(D:Addr):Prop where
 cl:(clsIn K D).isSome=true
 ga:findIn K (.ref D) "__getattribute__"=some (some (.builtin "BaseException.__getattribute__"))
 gh:findIn K (.ref D) "__getattr__"=some none
 ca:findIn K (.ref D) "__class__"=some (some (.builtin "object.__class__"))
 sp:specialIn K (.builtin "object.__class__") "__get__"=some (some (.builtin "getset_descriptor.__get__"))
 tk:takesIn K (.builtin "object.__class__")=some true
 mo:mroIn K D (.type "object")=some true
 mb:subIn K (.ref D) (.type "BaseException")=some true
def ExcAt(x D:Addr)(h:Heap):Prop:=∃vs,h.get? x=some {cls:=.ref D,data:=.fields vs}
section
variable{K:'b'}{x D:Addr}
theorem B7{h:Heap}{vs:Array Value}(q:h.get? x=some {cls:=.ref D,data:=.fields vs}):PySem.W.InstAt h x {cls:=.ref D,data:=.fields vs} D none:=⟨q,rfl,rfl,trivial⟩
theorem Kx(c:VG K D):findObj K D none "__class__"=some (.bind (.builtin "getset_descriptor.__get__") (.builtin "object.__class__")):=by
 obtain⟨cd,hc⟩:=isSome_iff_exists.mp c.cl
 unfold findObj
 rw[hc,bind_some,c.ca,bind_some]
 simp[c.sp,c.tk]
theorem HH{prog:Program}{w:World}{A:Around}{E:Value->Shared->Prop}{Q:Option Value->Shared->Prop}{s:Shared}(c:VG K D)(X:K.In s.heap)(hx:ExcAt x D s.heap)(hq:Q (some (.ref D)) {s with toks:=s.toks+1}):
  wpAny (model prog w) A (getAttr? (.ref x) "__class__") Q E s:=by
 obtain⟨vs,hx⟩:=hx
 have J:=B7 hx
 obtain⟨hp,gg,dd,tt,oo⟩:=s
 have l0:=J.type (M:=model prog w)
 have l1:=looks_findIn (M:=model prog w) X c.ga
 have l2:=looks_findIn (M:=model prog w) X c.gh
 have l3:=PySem.W.looks_find (M:=model prog w) X J (Kx c)
 have l4:Looks (model prog w) hp (isInstance (.ref x) (.type "BaseException")) true:=l0.andThen (PySem.W.looks_subIn X c.mb)
 have bs:=PySem.F.excAttr_ValueError.ga.bind (.ref x)
 unfold getAttr? getAttrBy? getAttrBy
 refine wpAny_bind (wpAny_mkText (wpAny_bind (wpAny_attempt (wpAny_holding (wpAny_bind (l0.at (wpAny_bind (l1.at ?_))))))))
 have g0:(onTheHeap (Value.ref D)&&Value.builtin "BaseException.__getattribute__"==Value.builtin "object.__getattribute__")=false:=by
  have z:(Value.builtin "BaseException.__getattribute__"==Value.builtin "object.__getattribute__")=false:=by decide +kernel
  rw[z];rfl
 dsimp only
 rw[if_neg (by rw[g0];exact Bool.false_ne_true)]
 unfold getAttrByItsOwn hookBefore
 rw[if_pos (show onTheHeap (Value.ref D)=true from rfl)]
 refine wpAny_bind (l2.at (wpAny_bind (wpAny_attempt (wpAny_holding ?_))))
 unfold callGetattribute boundAndCalled
 simp only [Bool.false_and,false_eq_true,if_false]
 rw[bs]
 refine wpAny_bind (wpAny_pure ?_)
 have hk:builtinKind "BaseException.__getattribute__"=some .slot:=by decide +kernel
 have hsplit:splitId "BaseException.__getattribute__"=some ("BaseException","__getattribute__"):=by decide +kernel
 refine wpAny_call (codeAny_call_builtin PySem.F.excAttr_ValueError.ga.plain PySem.F.entry_bexc_ga ?_)
 have ha:=PySem.F.args_bexc_ga (.ref x) (.str "__class__" tt)
 show wpAny _ _ (checkBuiltinCall "BaseException.__getattribute__" ⟨[.ref x,.str "__class__" tt],[]⟩) _ _ _
 simp only [checkBuiltinCall,hk,hsplit]
 refine wpAny_bind (l4.at ?_)
 rw[if_neg (by decide)]
 refine wpAny_of_eq ha ?_
 have l5:Looks (model prog w) hp (typeOf (.ref x)) (.ref D):=l0
 refine wpAny_bind (wpAny_pure (wpAny_bind (wpAny_pure (wpAny_bind (l5.at (wpAny_bind (l3.at ?_)))))))
 show wpAny _ _ (holding [Value.builtin "object.__class__"] (call (.builtin "getset_descriptor.__get__") [.builtin "object.__class__",.ref x,.ref D])>>=ret) _ _ _
 refine wpAny_bind (wpAny_holding (wpAny_call (PySem.W.class_get X J c.mo (wpAny_pure ?_))))
 refine PySem.W.handed_on rfl (wpAny_pure ?_)
 exact hq
theorem B8(c:VG K D):KitX K (.ref x) (.ref D) (ExcAt x D) where
 ty:=fun _ _ _ ⟨_,q⟩=>(B7 q).type
 it:=fun _ _ X _=>by
  obtain⟨cd,hc⟩:=isSome_iff_exists.mp c.cl
  unfold clsIn at hc
  split at hc
  ·rename_i lk
   intro A' Q' E' s' k q
   unfold isType loadHead
   exact wpAny_bind (wpAny_loadPart (k _ _ (X _ _ lk)) (wpAny_pure q))
  ·cases hc
 ne:=fun h tp dd its n sl X htp=>by
  obtain⟨cd,hc⟩:=isSome_iff_exists.mp c.cl
  refine Bool.eq_false_iff.mpr fun q=>?_
  have e2:D=tp:=Value.ref.inj (beq_iff_eq.mp q)
  subst e2
  unfold clsIn at hc
  split at hc
  ·rename_i lk
   have z:=(X _ _ lk).symm.trans htp
   cases z
  ·cases hc
 ca:=fun X hx q=>HH c X hx q
end
def xR(c n:Str):Bool:=n==c||c=="BraidError"||c=="ValueError"
def Dl(ms cs:List Str):D->R D
 |.non=>.ok (.bl false)
 |.exc n=>if n∈ms then .ok (.bl (cs.any (xR · n)))else .bad
 |_=>.bad
structure Xy(K:'b')(ms:List Str)(c:Str)(v:Value):Prop where
 no:kitOne K (.type "NoneType") v=some false
 ex:∀n∈ms,∃D,nsIn K mainGlobals n=some (some (.ref D))/\VG K D/\kitOne K (.ref D) v=some (xR c n)
section
variable{X:Cx}{pins:List (Addr×Obj)}{σ:St}{H:Hp}{s:Shared}{A:Around}{E:Value->Shared->Prop}{Q:Value->Shared->Prop}
theorem Ky{P:Addr->Prop}{n:Str}{v:V}{u:Value}{D:Addr}(I:Inv X pins σ H s)(i:Is X.K P H (.exc n) v)(ru:RelV v u)(hn:nsIn X.K mainGlobals n=some (some (.ref D))):∃a,u=.ref a/\ExcAt a D s.heap:=by
 obtain⟨a,C,rfl,_,c,q⟩:=i
 rw[c]at hn
 cases hn
 obtain⟨z,_⟩:=I.hok a _ q
 exact⟨a,ru,z⟩
theorem Kz{P:Addr->Prop}{ms:List Str}{c:Str}{v:V}{u cv:Value}{d b:D}(F:Xy X.K ms c cv)(I:Inv X pins σ H s)(i:Is X.K P H d v)(ru:RelV v u)(e:Dl ms [c] d=.ok b)(h:∀tk t,b=.bl t->Q (.bool t) {s with toks:=tk}):
  wpAny (model X.prog X.w) A (call (.builtin "isinstance") [u,cv]) Q E s:=by
 cases d with
 |non=>
  have e1:D.bl false=b:=R.ok.inj e
  cases i
  cases (show u=Value.none from ru)
  exact kia_one kitx_none I.qM True.intro F.no (fun z=>nomatch z) fun tk=>h tk false e1.symm
 |exc n=>
  have e':(if n∈ms then R.ok (D.bl ([c].any (xR · n)))else R.bad)=R.ok b:=e
  split at e'
  ·rename_i hm
   have e1:=R.ok.inj e'
   simp only [any_cons,List.any_nil,Bool.or_false]at e1
   obtain⟨D,hn,xk,kk⟩:=F.ex n hm
   obtain⟨a,rfl,ea⟩:=Ky I i ru hn
   exact kia_one (B8 xk) I.qM ea kk (fun z=>nomatch z) fun tk=>h tk _ e1.symm
  ·cases e'
 |bl _=>cases e
 |int _=>cases e
 |str _=>cases e
 |lst _=>cases e
 |tup _=>cases e
 |fn _=>cases e
end
def xcB(K:'b')(D:Addr):Bool:=(clsIn K D).isSome&&findIn K (.ref D) "__getattribute__"==some (some (.builtin "BaseException.__getattribute__"))&&findIn K (.ref D) "__getattr__"==some none
 &&findIn K (.ref D) "__class__"==some (some (.builtin "object.__class__"))&&specialIn K (.builtin "object.__class__") "__get__"==some (some (.builtin "getset_descriptor.__get__"))&&takesIn K (.builtin "object.__class__")==some true
 &&mroIn K D (.type "object")==some true&&subIn K (.ref D) (.type "BaseException")==some true&&excIn K D Zy "ValueError.__new__"
theorem AR{K:'b'}{D:Addr}(h:xcB K D=true):VG K D/\excIn K D Zy "ValueError.__new__"=true:=by
 unfold xcB at h
 simp only [and_eq_true,beq_iff_eq]at h
 obtain⟨⟨⟨⟨⟨⟨⟨⟨h1,h2⟩,h3⟩,h4⟩,h5⟩,h6⟩,h7⟩,h8⟩,h9⟩:=h
 exact⟨⟨h1,h2,h3,h4,h5,h6,h7,h8⟩,h9⟩
theorem D6(ms cs:List Str)(d:D):Dl ms cs d=.bad\/∃t,Dl ms cs d=.ok (.bl t):=by
 cases d with
 |non=>exact .inr ⟨false,rfl⟩
 |exc n=>
  show(if n∈ms then R.ok (D.bl (cs.any (xR · n)))else R.bad)=_\/∃t,(if n∈ms then R.ok (D.bl (cs.any (xR · n)))else R.bad)=_
  split
  ·exact .inr ⟨_,rfl⟩
  ·exact .inl rfl
 |bl _=>exact .inl rfl
 |int _=>exact .inl rfl
 |str _=>exact .inl rfl
 |lst _=>exact .inl rfl
 |tup _=>exact .inl rfl
 |fn _=>exact .inl rfl
structure Xz(K:'b')(ms cs:List Str)(Cs:List Addr):Prop where
 no:kitAny K (.type "NoneType") (Cs.map Value.ref)=some false
 ex:∀n∈ms,∃D,nsIn K mainGlobals n=some (some (.ref D))/\VG K D/\kitAny K (.ref D) (Cs.map Value.ref)=some (cs.any (xR · n))
section
variable{X:Cx}{E:Str->Hp->Prop}{pos:Pos}
theorem abw{ms:List Str}{c:Str}{C:Addr}{p p2:Pos}{a:Expr}{f:DE->R D}(F:Xy X.K ms c (.ref C))(hmc:X.mg c=some (.ref C))(hm:X.mg "isinstance"=none)(ha:PE X a (tB X.K E f))(hg:Gl X "isinstance":=by rfl)(W7:Gl X c:=by rfl)(hdb:(c==("__debug__":Str))=false:=by decide)
  (hs:starEach [a,.Name c p2] X.env=(false,eval a X.env)::starEach [.Name c p2] X.env:=by rfl)(hpl:(backTo pos (starEach [.Name c p2] X.env)).any (·.1)=false:=by rfl)(hs2:starEach [.Name c p2] X.env=(false,eval (.Name c p2) X.env)::starEach [] X.env:=by rfl):
  PE X (.Call (.Name "isinstance" p) [a,.Name c p2] [] pos) (tD X.K E fun env=>(f env).bind (Dl ms [c])):=by
 have hty:PE X (.Name c p2) (tC (.ref C)):=wK W7 hmc rfl hdb
 refine imp (fu (r:=fun xs H Q=>∃d v t,xs=[v,.ref C]/\Dl ms [c] d=.ok (.bl t)/\Is X.K Tr H d v/\Q (.bl t) H) ?_ hg hm jz (ao ha (ao hty aL hs2) hs) (by decide) (by decide) hs hpl) fun σ H Q ⟨g,env,os,r,m⟩=>⟨g,env,os,r,m.bind.mono fun d _ q v H' s i=>?_⟩
 ·intro pins s σ H xs us Q I r h
  obtain⟨d,v,t,rfl,e,hd,q⟩:=h
  obtain⟨u,w,rfl,ru,lG⟩:=vals2 r
  have ew:w=.ref C:=lG
  subst ew
  exact Kz F I hd ru e fun tk t' et=>by
   cases et
   exact⟨.bl _,H,I.tok _,rfl,q⟩
 ·rcases D6 ms [c] d with e|⟨t,e⟩
  ·rw[e]at q;exact q.elim
  ·rw[e]at q
   exact⟨d,v,t,rfl,e,i,q _ H' s rfl⟩
theorem XA{ms:List Str}{T:String}{x:Str}{p p2:Pos}{a:Expr}{f:DE->R D}(F:Xy X.K ms x (.type T))(hv:bootBuiltins x=some (.type T))(hmt:X.mg x=none)(hm:X.mg "isinstance"=none)(ha:PE X a (tB X.K E f))(hg:Gl X "isinstance":=by rfl)(W7:Gl X x:=by rfl)
  (hn:x≠"__name__":=by decide)(hdb:(x==("__debug__":Str))=false:=by decide)
  (hs:starEach [a,.Name x p2] X.env=(false,eval a X.env)::starEach [.Name x p2] X.env:=by rfl)(hpl:(backTo pos (starEach [.Name x p2] X.env)).any (·.1)=false:=by rfl)(hs2:starEach [.Name x p2] X.env=(false,eval (.Name x p2) X.env)::starEach [] X.env:=by rfl):
  PE X (.Call (.Name "isinstance" p) [a,.Name x p2] [] pos) (tD X.K E fun env=>(f env).bind (Dl ms [x])):=by
 have hty:PE X (.Name x p2) (tC (.ty T)):=EY W7 hmt hv rfl hn hdb
 refine imp (fu (r:=fun xs H Q=>∃d v t,xs=[v,.ty T]/\Dl ms [x] d=.ok (.bl t)/\Is X.K Tr H d v/\Q (.bl t) H) ?_ hg hm jz (ao ha (ao hty aL hs2) hs) (by decide) (by decide) hs hpl) fun σ H Q ⟨g,env,os,r,m⟩=>⟨g,env,os,r,m.bind.mono fun d _ q v H' s i=>?_⟩
 ·intro pins s σ H xs us Q I r h
  obtain⟨d,v,t,rfl,e,hd,q⟩:=h
  obtain⟨u,w,rfl,ru,lG⟩:=vals2 r
  have ew:w=.type T:=lG
  subst ew
  exact Kz F I hd ru e fun tk t' et=>by
   cases et
   exact⟨.bl _,H,I.tok _,rfl,q⟩
 ·rcases D6 ms [x] d with e|⟨t,e⟩
  ·rw[e]at q;exact q.elim
  ·rw[e]at q
   exact⟨d,v,t,rfl,e,i,q _ H' s rfl⟩
def Zz(Cs:List Addr):TA:=fun _ H Q=>Q (Cs.map V.ref) H
theorem gaN:PA X [] (Zz []):=DR aL fun σ H Q q=>q
theorem QN{c:Str}{C:Addr}{p:Pos}{es:List Expr}{Cs:List Addr}(hmc:X.mg c=some (.ref C))(hr:PA X es (Zz Cs))(hg:Gl X c:=by rfl)(hdb:(c==("__debug__":Str))=false:=by decide)(hs:starEach (.Name c p::es) X.env=(false,eval (.Name c p) X.env)::starEach es X.env:=by rfl):
  PA X (.Name c p::es) (Zz (C::Cs)):=DR (ao (wK hg hmc (v:=.ref C) rfl hdb) hr hs) fun σ H Q q=>q
theorem XC{ms cs:List Str}{Cs:List Addr}{p tp:Pos}{x1}{a:Expr}{es:List Expr}{f:DE->R D}(F:Xz X.K ms cs Cs)(hm:X.mg "isinstance"=none)(ha:PE X a (tB X.K E f))(ht:PA X es (Zz Cs))(hl:Cs.length<=1000:=by simp only [length_cons,length_nil];decide)(hg:Gl X "isinstance":=by rfl)
  (hs:starEach [a,.Tuple es x1 tp] X.env=(false,eval a X.env)::starEach [.Tuple es x1 tp] X.env:=by rfl)(hpl:(backTo pos (starEach [.Tuple es x1 tp] X.env)).any (·.1)=false:=by rfl)(hs2:starEach [.Tuple es x1 tp] X.env=(false,eval (.Tuple es x1 tp) X.env)::starEach [] X.env:=by rfl):
  PE X (.Call (.Name "isinstance" p) [a,.Tuple es x1 tp] [] pos) (tD X.K E fun env=>(f env).bind (Dl ms cs)):=by
 refine imp (fu (r:=fun xs H Q=>∃d v t b,xs=[v,.ref t]/\H t=some (.tup (Cs.map V.ref))/\Dl ms cs d=.ok (.bl b)/\Is X.K Tr H d v/\Q (.bl b) H) ?_ hg hm jz (ao ha (ao (r9 ht) aL hs2) hs) (by decide) (by decide) hs hpl) fun σ H Q ⟨g,env,os,r,m⟩=>⟨g,env,os,r,m.bind.mono fun d _ q v H' s i=>?_⟩
 ·intro pins s σ H xs us Q I r h
  obtain⟨d,v,t,b,rfl,hT,e,hd,q⟩:=h
  obtain⟨u,w,rfl,ru,lG⟩:=vals2 r
  have ew:w=.ref t:=lG
  subst ew
  obtain⟨_,its,rv,o,h1,h2,n,h3⟩:=(show cD X.prog X.w H s.heap t (.tup _)from I.hok t _ hT)
  have ei:its=Cs.map Value.ref:=by
   clear F hl hT h3
   generalize Cs=Cs at rv
   induction Cs generalizing its with
   |nil=>cases rv;rfl
   |cons c r ih=>
    cases rv with
    |cons x y=>
     have x':_=Value.ref c:=x
     rw[x',ih _ y];rfl
  subst ei
  have ho:s.heap.get? t=some ⟨.type "tuple",o.dict,.seq (Cs.map Value.ref).toArray n,o.slots⟩:=by
   rw[h1]
   cases o
   simp only at h2 h3
   subst h2 h3
   rfl
  cases d with
  |non=>
   have e1:D.bl false=.bl b:=R.ok.inj e
   cases e1
   cases hd
   cases (show u=Value.none from ru)
   exact kia_tup kitx_none I.qM True.intro ho F.no (fun z=>nomatch z) fun tk=>⟨.bl _,H,I.tok _,rfl,q⟩
  |exc n=>
   have e':(if n∈ms then R.ok (D.bl (cs.any (xR · n)))else R.bad)=R.ok (.bl b):=e
   split at e'
   ·rename_i hm
    have e1:=R.ok.inj e'
    cases e1
    obtain⟨D,hn,xk,kk⟩:=F.ex n hm
    obtain⟨a,rfl,ea⟩:=Ky I hd ru hn
    exact kia_tup (B8 xk) I.qM ea ho kk (fun z=>nomatch z) fun tk=>⟨.bl _,H,I.tok _,rfl,q⟩
   ·cases e'
  |bl _=>cases e
  |int _=>cases e
  |str _=>cases e
  |lst _=>cases e
  |tup _=>cases e
  |fn _=>cases e
 ·refine⟨by rw[length_map];exact le_of_lt (Hm hl),fun t Tq=>?_⟩
  rcases D6 ms cs d with e|⟨b,e⟩
  ·rw[e]at q;exact q.elim
  ·rw[e]at q
   exact⟨d,v,t,b,rfl,ak,e,i.same (aM Tq _),q _ _ (s.trans (aM Tq _)) rfl⟩
def uP(x y:D):Option D:=match x,y with
 |.bl a,.bl b=>some (.bl (a !=b))
 |x,.non=>zK x .non
 |_,_=>none
def rIs(ne:Bool):R2:=fun x y H Q=>(∃a b,x=.bl a/\y=.bl b/\Q (.bl (if ne then a !=b else a==b)) H)\/(y=.non/\Q (.bl (if ne then !decide (x=.non)else decide (x=.non))) H)
theorem xS:sM X (compareOp .IsNot) (rIs true):=by
 intro pins s σ H x y v u Q I rx ry h
 rcases h with⟨a,b,rfl,rfl,q⟩|⟨rfl,q⟩
 ·cases rx;cases ry
  exact isnot_bool ⟨.bl _,H,I,rfl,q⟩
 ·exact E6 pins s σ H x .non v u Q I rx ry ⟨rfl,q⟩
theorem uQ:nc X (rIs true) uP:=fun x y d e=>by
 unfold uP at e
 split at e
 ·cases e
  exact⟨_,rfl,fun H v w Q h1 h2 q=>.inl ⟨_,_,h1,h2,q⟩⟩
 ·obtain⟨z,hz,k⟩:=B1 (X:=X) _ _ d e
  exact⟨z,hz,fun H v w Q h1 h2 q=>.inr (k H v w Q h1 h2 q)⟩
 ·cases e
theorem glI{x:Str}{i:Int}{t:Tok}(hm:X.mg x=some (.int i t))(hg:Gl X x:=by rfl)(hdb:(x==("__debug__":Str))=false:=by decide):PE X (.Name x pos) (tD X.K E fun _=>.ok (.int i)):=
 imp (wK hg hm (v:=.int i) ⟨t,rfl⟩ hdb) fun σ H Q ⟨g,env,os,r,m⟩=>m _ H (aN.refl H) rfl
end
theorem gb{K:'b'}{P:Addr->Prop}{H:Hp}:∀{ns:List Int}{vs:List V},IsL K P H (aI ns) vs->vs=ns.map V.int
 |[],_,h=>h
 |n::ns,_,⟨v,r,e,p,q⟩=>by
  have p':v=.int n:=p
  rw[e,p',gb q];rfl
theorem FQ{K:'b'}{P:Addr->Prop}{H:Hp}:∀(ns:List Int),IsL K P H (aI ns) (ns.map V.int)
 |[]=>rfl
 |n::ns=>⟨_,_,rfl,rfl,FQ ns⟩
def zO(xs:List D):Option D:=(B4 xs).map fun ns=>.int ns.sum
def sortI(ns:List Int):List Int:=ns.mergeSort (fun a b=>decide (a<=b))
def zP(xs:List D):R (List D):=match B4 xs with
 |some ns=>if ns.length<64 then .ok (aI (sortI ns))else .bad
 |none=>.bad
def qd(xs:List D):D->R D
 |.int k=>match B4 xs with
  |some ns=>if k∈ns then .ok (.int (ns.idxOf k:Nat))else .bad
  |none=>.bad
 |_=>.bad
theorem Tt:bootBuiltins "sum"=some (.builtin "sum"):=by decide +kernel
theorem HJ:bootBuiltins "sorted"=some (.builtin "sorted"):=by decide +kernel
theorem zc:bootBuiltins "ValueError"=some (.type "ValueError"):=by decide +kernel
theorem xT{a b:List Int}(p:a.Perm b)(o:a.Pairwise (·<=·)):a=sortI b:=by
 refine PySem.W.lks_uniq (p.trans (List.mergeSort_perm b _).symm) o ?_
 have h:=List.pairwise_mergeSort (le:=fun a b:Int=>decide (a<=b)) (fun a b c h1 h2=>by simp only [decide_eq_true_eq]at h1 h2⊢;omega) (fun a b=>by simp only [or_eq_true,decide_eq_true_eq];omega) b
 exact h.imp fun h=>by simpa using h
section
variable{X:Cx}{E:Str->Hp->Prop}{pos:Pos}
theorem XD{p:Pos}{a:Expr}{f:DE->R (List D)}(hc:X.calm=true)(hm:X.mg "sum"=none)(ha:PE X a (tL X.K E f))(hg:Gl X "sum":=by rfl)
  (he:starEach [a] X.env=(false,eval a X.env)::starEach [] X.env:=by rfl)(hpl:(backTo pos (starEach [] X.env)).any (·.1)=false:=by rfl):PE X (.Call (.Name "sum" p) [a] [] pos) (tD X.K E fun env=>(f env).bind fun xs=>R.of (zO xs)):=by
 refine imp (fu (r:=fun xs H Q=>∃(l:Addr)(ns:List Int),xs=[.ref l]/\cV X.K H l (ns.map V.int)/\Q (.int ns.sum) H) ?_ hg hm Tt (ao ha aL he) (by decide) (by decide) he hpl) fun σ H Q ⟨g,env,os,r,m⟩=>⟨g,env,os,r,m.bind.mono fun xs _ q l vs H' s hl i=>?_⟩
 ·intro pins s σ H xs us Q I r h
  obtain⟨l,ns,rfl,hl,q⟩:=h
  obtain⟨u,rfl,ru⟩:=vals1 r
  have e:u=.ref l:=ru
  subst e
  obtain⟨its,rv,pl,hz⟩:=I.list hl
  have ia:=intsAre_of rv
  obtain⟨ys,hx⟩:=ia.allInts.items
  have Oh:s.heap.IsList l (intItems ys):=hx▸pl.isList
  have hh:X.A.handled=none:=I.ok.hd hc
  have e1:ns=ys.toList.map (·.1):=by
   rw[<-nums_intItems,<-hx]
   exact(show numsOf its.toArray.toList=ns from ia.numsOf).symm
  refine sum_intListG hh Oh fun h' tk t' hk=>?_
  have e2:preSum (numAt ys) ys.size=ns.sum:=by
   rw[preSum_eq,take_of_length_le (by simp),e1]
  rw[e2]
  exact⟨.int _,H,I.kept (s:=s) (t':=tk) hk,⟨_,rfl⟩,q⟩
 ·obtain⟨d,e,q2⟩:=q.of
  unfold zO at e
  cases z:B4 xs with
  |none=>rw[z]at e;cases e
  |some ns=>
   rw[z]at e
   have ex:=uN z
   subst ex
   have ev:=gb i
   subst ev
   cases e
   exact⟨l,ns,rfl,hl,q2 _ H' s rfl⟩
theorem FT{p:Pos}{a:Expr}{f:DE->R (List D)}(hm:X.mg "sorted"=none)(ha:PE X a (tL X.K E f))(hg:Gl X "sorted":=by rfl)
  (he:starEach [a] X.env=(false,eval a X.env)::starEach [] X.env:=by rfl)(hpl:(backTo pos (starEach [] X.env)).any (·.1)=false:=by rfl):PE X (.Call (.Name "sorted" p) [a] [] pos) (tF X.K E fun env=>(f env).bind zP):=by
 refine imp (fu (r:=fun xs H Q=>∃(l:Addr)(ns:List Int),xs=[.ref l]/\cV X.K H l (ns.map V.int)/\ns.length<64/\∀p,H p=none->Q (.ref p) (upd H p (.lst ((sortI ns).map V.int)))) ?_ hg hm HJ (ao ha aL he) (by decide) (by decide) he hpl) fun σ H Q ⟨g,env,os,r,m⟩=>⟨g,env,os,r,m.bind.mono fun xs _ q l vs H' s hl i=>?_⟩
 ·intro pins s σ H xs us Q I r h
  obtain⟨l,ns,rfl,hl,h64,q⟩:=h
  obtain⟨u,rfl,ru⟩:=vals1 r
  have e:u=.ref l:=ru
  subst e
  obtain⟨its,rv,pl,hz⟩:=I.list hl
  have ia:=intsAre_of rv
  refine PyProof.Rows.sorted_ints pl.isList ia (by rw[IntsAre.length ia];exact h64) fun out VH a1 a2 a3=>?_
  have es:=xT a2 a3
  subst es
  obtain⟨n,hn⟩:=sortedAll_at s.heap its out
  refine⟨.ref _,_,I.laid (a:=s.heap.objs.size+1) (o:=.lst ((sortI ns).map V.int)) (t':=s.toks) (fun _ _=>sortedAll_old) (le_succ _) ⟨?_,out.toList,n,uA a1,?_⟩,rfl,q _ (I.hok.fresh (le_succ _))⟩
  ·rw[length_map,a2.length_eq]
   exact le_of_lt (lt_trans h64 (by decide))
  ·rw[hn]
 ·unfold zP at q
  split at q
  ·rename_i ns z
   split at q
   ·rename_i c
    have ex:=uN z
    subst ex
    have ev:=gb i
    subst ev
    refine⟨l,ns,rfl,hl,c,fun p hp=>?_⟩
    obtain⟨b1,b2,b3,b4⟩:=DT r s hp (FQ (K:=X.K) (P:=g.P os) (H:=H') (sortI ns))
    exact q p _ _ b1 b2 b3 b4
   ·exact q.elim
  ·exact q.elim
def Tu(K:'b'):V->List V->Hp->VK->Prop:=fun x xs H Q=>∃(l:Addr)(ns:List Int)(k:Int),x=.ref l/\xs=[.int k]/\cV K H l (ns.map V.int)/\k∈ns/\Q (.int (ns.idxOf k:Nat)) H
theorem KA:Zf X "list.index" (Tu X.K):=by
 intro pins s σ H x xs v us Q I rx r h
 obtain⟨l,ns,k,rfl,rfl,hl,hk,q⟩:=h
 obtain⟨u,rfl,t,ru⟩:=vals1 r
 subst ru
 cases rx
 obtain⟨its,rv,pl,hz⟩:=I.list hl
 have ia:=intsAre_of rv
 obtain⟨o,n,h1,h2,h3,h4⟩:=pl
 cases o
 simp only at h2 h3 h4
 subst h2 h3 h4
 have hlen:=ia.length
 have hj:ns.idxOf k<ns.length:=List.idxOf_lt_length_iff.mpr hk
 have hz2:ns.length<=sizeLine:=by simpa using hz
 refine call_meets PySem.F.slot_list_index ⟨_,h1,rfl⟩ PySem.F.entry_list_index (PySem.F.args_list_index_2 _ _)
  (SeqAt.list_indexAt l its.toArray n none _ (.int k t) (isInt k) (ns.idxOf k) (by simpa[hlen]using hj) (by have h63:=pT;omega) ?_ ?_) ⟨h1,fun y hy=>(eq_isInt k t ia y (by simpa using hy)).at _ _,⟨.int _,H,I.tok _,⟨_,rfl⟩,q⟩⟩
 ·show isInt k its[ns.idxOf k]=true
  rw[isInt_at k ia _ 'a' hj]
  simpa using getElem_idxOf hj
 ·intro j hjs hlt
  show isInt k its[j]=false
  rw[isInt_at k ia j (by simpa using hjs) (by simp at hjs;omega)]
  exact ne_of_lt_idxOf hlt _
theorem KC{o e:Expr}{apos bg:Pos}{fo:DE->R (List D)}{f:DE->R D}(ho:PE X o (tL X.K E fo))(he:PE X e (tB X.K E f))
  (hbase:attributeBase o "index" X.env (eval o X.env)=eval o X.env:=by rfl)
  (hfew:((backTo bg (starEach [e] X.env)).all (fun x=> !x.1)&&(backToKw bg (keywordEach [] X.env)).all (fun x=>x.1.isSome)
   &&decide ([e].length+([]:List Keyword).length+(if([]:List Keyword).isEmpty then 0 else 1)<30))=true:=by rfl)
  (hline:(apos.endLine==bg.line)=true:=by rfl)(hst:starEach [e] X.env=(false,eval e X.env)::starEach [] X.env:=by rfl)(hplain:(backTo bg (starEach [] X.env)).any (·.1)=false:=by rfl):
  PE X (.Call (.Attribute o "index" apos) [e] [] bg) (tD X.K E fun env=>(fo env).bind fun xs=>(f env).bind fun k=>qd xs k):=
 imp (sQ plainAttrs_list PySem.F.slot_list_index PySem.F.type_list_index KA ho (ao he aL hst) hbase hfew hline hst hplain) fun σ H Q ⟨g,env,os,r,m⟩=>⟨g,env,os,r,m.bind.mono fun xs _ m1 l vs H1 s1 hl i=>⟨.inl ⟨rfl,vs,hl⟩,g,env,os,r.same s1,m1.bind.mono fun k _ q v H2 s2 i2=>by
  unfold qd at q
  split at q
  ·rename_i kk _
   split at q
   ·rename_i ns z
    split at q
    ·rename_i c
     have ex:=uN z
     subst ex
     have ev:=gb i
     subst ev
     have e2:v=.int kk:=i2
     subst e2
     exact⟨l,ns,kk,rfl,rfl,s2.seq hl,c,q _ H2 (s1.trans s2) rfl⟩
    ·exact q.elim
   ·exact q.elim
  ·exact q.elim⟩⟩
end
section
variable{X:Cx}{E:Str->Hp->Prop}{pos:Pos}
def Oi:V->List V->Hp->VK->Prop:=fun x vs H Q=>∃(l:Addr)(xs:List V)(i:Int)(y:V),x=.ref l/\vs=[.int i,y]/\H l=some (.lst xs)/\xs.length<sizeLine/\0<=i/\i<=xs.length/\Q .non (upd H l (.lst (xs.take i.toNat++y::xs.drop i.toNat)))
theorem HK:Zh X "list.insert" Oi:=by
 intro pins s σ H x vs v us Q I rx rv h
 obtain⟨l,xs,i,y,rfl,rfl,hH,hz,h0,h1,q⟩:=h
 cases rx
 obtain⟨u,w,rfl,⟨t,ru⟩,lG⟩:=rv.two
 subst ru
 obtain⟨z,its,n,r,hl,e⟩:=I.JB hH
 have h63:=pT
 have hf:Builtin.List.listFitsIndex i=true:=by
  unfold Builtin.List.listFitsIndex
  simp only [and_eq_true,decide_eq_true_eq]
  omega
 refine call_meets PySem.F.slot_list_insert ⟨_,e,rfl⟩ PySem.F.entry_list_insert (PySem.F.args_list_insert_3 _ _ _) (PySem.AutoSeq1.list_insert_list_int_val_1 l its.toArray n i t w (by simp[hf]) (by rw[size_toArray];omega)) ⟨e,?_⟩
 refine⟨.non,_,I.NJ (its':=its.take i.toNat++w::its.drop i.toNat) hH e ?_ ((r.take _).append (.cons lG (r.drop _))) ?_,rfl,q⟩
 ·show(its.toArray.extract 0 (if i<0 then(i+(its.toArray.size:Int)).toNat else min i.toNat its.toArray.size)).push w++its.toArray.extract (if i<0 then(i+(its.toArray.size:Int)).toNat else min i.toNat its.toArray.size)=_
  rw[if_neg 'a',size_toArray,show min i.toNat its.length=i.toNat by omega]
  exact PySem.W.kl_ins_eq its i.toNat w
 ·simp only [length_append,length_cons,length_take,length_drop]
  omega
def Oj(i:Nat)(env:DE)(xs:List D)(k d:D):R Out:=match k with
 |.int j=> @ite _ (xs.length<sizeLine/\0<=j/\j<=xs.length) (propDecidable _) (.ok (.nx (env.set i (.own (xs.take j.toNat++d::xs.drop j.toNat))))) .bad
 |_=>.bad
theorem aby(i:Nat){x:Str}{ek e:Expr}{fk f:DE->R D}{p apos bg:Pos}(hk:PE X ek (tD X.K E fk))(he:PE X e (tD X.K E f))(hN:X.N[i]?=some x:=by rfl)(hv:yT X.env.scope x:=by first|exact Or.inl rfl|exact Or.inr (Or.inl rfl)|exact Or.inr (Or.inr rfl))(hd:(x==("__debug__":Str))=false:=by decide)
  (hcd:(x==("__classdict__":Str))=false:=by decide)
  (hbase:attributeBase (.Name x p) "insert" X.env (eval (.Name x p) X.env)=eval (.Name x p) X.env:=by rfl)
  (hfew:((backTo bg (starEach [ek,e] X.env)).all (fun x=> !x.1)&&(backToKw bg (keywordEach [] X.env)).all (fun x=>x.1.isSome)
   &&decide ([ek,e].length+([]:List Keyword).length+(if([]:List Keyword).isEmpty then 0 else 1)<30))=true:=by rfl)
  (hline:(apos.endLine==bg.line)=true:=by rfl)(hst:starEach [ek,e] X.env=(false,eval ek X.env)::starEach [e] X.env:=by rfl)(abz:starEach [e] X.env=(false,eval e X.env)::starEach [] X.env:=by rfl)(hplain:(backTo bg (starEach [e] X.env)).any (·.1)=false:=by rfl)
  (hs:swapsWith (.Call (.Attribute (.Name x p) "insert" apos) [ek,e] [] bg) none pos.line X.env=pure false:=by rfl):
  PS X (.Expr (.Call (.Attribute (.Name x p) "insert" apos) [ek,e] [] bg) pos) (tS X.K E fun env=>(ownAt i env).bind fun xs=>(fk env).bind fun k=>(f env).bind fun d=>Oj i env xs k d):=
 lJ (fX (sQ plainAttrs_list PySem.F.slot_list_insert PySem.F.type_list_insert HK (gM hN hv hd hcd) (ao hk (ao he aL abz) hst) hbase hfew hline hst hplain) hs) fun De σ H ⟨g,env,os,r,m⟩=>by
  obtain⟨xs,e,m1⟩:=m.bind.own
  obtain⟨a,vs,h1,h2,h3,h4⟩:=r.own i xs e
  refine⟨.ref a,h1,.inl ⟨rfl,vs,cV.of h3⟩,g,env,os,r,m1.bind.mono fun kd _ m2 kv H1 s1 hk1=>⟨g,env,os,r.same s1,m2.bind.mono fun d _ q v H' s hi=>?_⟩⟩
  unfold Oj at q
  split at q
  ·rename_i j _
   split at q
   ·rename_i c
    have ek:kv=.int j:=hk1
    subst ek
    refine⟨a,vs,j,v,rfl,rfl,s _ _ (s1 _ _ h3),by rw[h4.length];exact c.1,c.2.1,by rw[h4.length];exact c.2.2,?_⟩
    have h4':=(h4.same s1).same s
    exact q σ _ os (((r.same s1).same s).mut e h1 h2 ((h4'.take _).app (.cons hi (h4'.drop _)))) ((rD.same (s1.trans s) os).trans (.mut h2))
   ·exact q.elim
  ·exact q.elim
end
def KD(lo c:Int)(n:Nat):List D:=(range n).map fun i=>.int (lo+(i:Nat)*c)
abbrev RC(a b c:Int):Prop:= -1000000<=a/\a<=1000000/\ -1000000<=b/\b<=1000000/\c≠0/\ -1000000<=c/\c<=1000000
def KG:List D->R (List D)
 |[.int a,.int b,.int c]=> @ite _ (RC a b c) (propDecidable _) (.ok (KD a c (Builtin.Range.rangeSize a b c).toNat)) .bad
 |_=>.bad
theorem tE{a b c:Int}(h:RC a b c):0<=Builtin.Range.rangeSize a b c/\Builtin.Range.rangeSize a b c<=2000000:=by
 unfold Builtin.Range.rangeSize
 have e:∀x y:Int,0<=x->x<2000000->1<=y->0<=x/y/\x/y<2000000:=fun x y h1 h2 h3=>⟨Int.ediv_nonneg h1 'a',Int.lt_of_le_of_lt (Int.ediv_le_self _ h1) h2⟩
 split
 ·split
  ·have:=e (b-a-1) c 'a' 'a' 'a'
   omega
  ·omega
 ·split
  ·have:=e (a-b-1) (-c) 'a' 'a' 'a'
   omega
  ·omega
theorem Ol{a b c:Int}(h:RC a b c):Builtin.Range.small a b c=true:=by
 have hs:=tE h
 unfold Builtin.Range.small
 simp only [Builtin.Range.rangeFitsLong,and_eq_true,or_eq_true,decide_eq_true_eq,beq_iff_eq]
 refine⟨by omega,.inr ?_⟩
 split<;>simp only [and_eq_true,decide_eq_true_eq]<;>omega
section
variable{X:Cx}{E:Str->Hp->Prop}{pos:Pos}{tg:Expr}
theorem IsL.Tv {K:'b'}{P:Addr->Prop}{H:Hp}{d d2 d3:D}{vs:List V}(h:IsL K P H [d,d2,d3] vs):∃v w z,vs=[v,w,z]/\Is K P H d v/\Is K P H d2 w/\Is K P H d3 z:=by
 obtain⟨v,r,rfl,p,q⟩:=h
 obtain⟨w,z,rfl,p2,p3⟩:=IsL.NW q
 exact⟨v,w,z,rfl,p,p2,p3⟩
theorem vals3{x y z:V}{us:List Value}(r:Vals [x,y,z] us):∃u v w,us=[u,v,w]/\RelV x u/\RelV y v/\RelV z w:=by
 cases r with
 |cons p q=>
  obtain⟨v,w,rfl,p2,p3⟩:=vals2 q
  exact⟨_,v,w,rfl,p,p2,p3⟩
theorem Om{K:'b'}{P:Addr->Prop}{H:Hp}{lo c:Int}{n:Nat}:IsL K P H (KD lo c n) ((range n).map fun i=>V.int (lo+(i:Nat)*c)):=by
 unfold KD
 induction (range n)with
 |nil=>rfl
 |cons x r ih=>exact⟨_,_,rfl,rfl,ih⟩
theorem xU{acc:List Value}{lo c:Int}{n:Nat}(h1:acc.length=n)(h2:∀(j:Nat)(v:Value),acc[j]?=some v->∃t,v=.int (lo+(j:Nat)*c) t):Vals ((range n).map fun i=>V.int (lo+(i:Nat)*c)) acc:=by
 have gen:∀(l:List Value)(k:Nat),(∀(j:Nat)(v:Value),l[j]?=some v->∃t,v=.int (lo+((k+j:Nat):Int)*c) t)->Vals ((range' k l.length).map fun i=>V.int (lo+(i:Nat)*c)) l:=by
  intro l
  induction l with
  |nil=>intro k _;exact .nil
  |cons x r ih=>
   intro k hk
   rw[length_cons,range'_succ,map_cons]
   refine .cons ?_ (ih (k+1) fun j v e=>?_)
   ·obtain⟨t,e⟩:=hk 0 x (by simp)
    exact⟨t,e⟩
   ·obtain⟨t,e⟩:=hk (j+1) v (by simpa using e)
    exact⟨t,by rw[e,show k+(j+1)=k+1+j by omega]⟩
 subst h1
 rw[List.range_eq_range']
 exact gen acc 0 fun j v e=>by
  obtain⟨t,q⟩:=h2 j v e
  exact⟨t,by rw[q,zero_add]⟩
theorem Oo{a b c:Expr}{p p2 ni:Pos}{f:DE->R (List D)}(hc:X.calm=true)(Hw:X.mg "list"=none)(Tc:X.mg "range"=none)(ha:PA X [a,b,c] (rC X.K E f))(Td:Gl X "list":=by rfl)(hgr:Gl X "range":=by rfl)
  (hs:starEach [a,b,c] X.env=(false,eval a X.env)::starEach [b,c] X.env:=by rfl)(Tw:(backTo ni (starEach [b,c] X.env)).any (·.1)=false:=by rfl)(he:starEach [.Call (.Name "range" p2) [a,b,c] [] ni] X.env=(false,eval (.Call (.Name "range" p2) [a,b,c] [] ni) X.env)::starEach [] X.env:=by rfl)(hpl:(backTo pos (starEach [] X.env)).any (·.1)=false:=by rfl):
  PE X (.Call (.Name "list" p) [.Call (.Name "range" p2) [a,b,c] [] ni] [] pos) (tF X.K E fun env=>(f env).bind KG):=by
 intro pins s σ H Q I h
 obtain⟨g,env,os,r,m⟩:=h
 refine wpAny_Call_Name_kw (gm I Td Hw lS ?_)
 refine PyProof.Rows.callWith_type1 ?_ he hpl
 rw[he]
 refine Calls.spliced_cons ?_
 refine Call_ (gm I hgr Tc xN (PyProof.Rows.callWith_type1 (cC (ha ni pins s σ H _ I ⟨g,env,os,r,m.bind.mono fun ds _ q vs H1 s1 i1=>(⟨ds,s1,i1,q⟩:∃ds,aN H H1/\IsL X.K Tr H1 ds vs/\Good E g.H₀ (KG ds) _)⟩) fun us s1 ⟨vs,H1,I1,r1,ds,sm,i1,q⟩=>?_) hs Tw))
 unfold KG at q
 split at q
 ·rename_i x y z
  split at q
  ·rename_i h
   obtain⟨v1,v2,v3,rfl,k1,k2,k3⟩:=IsL.Tv i1
   have Zo:v1=.int x:=k1
   have k2':v2=.int y:=k2
   have k3':v3=.int z:=k3
   subst Zo k2' k3'
   obtain⟨u1,u2,u3,rfl,⟨t1,rfl⟩,⟨t2,rfl⟩,⟨t3,rfl⟩⟩:=vals3 r1
   refine call_range_3 h.2.2.2.2.1 ?_ (.inl (PyProof.noPylong_small 'a'))
   have I2:Inv X pins σ H1 {s1 with heap:=s1.heap.push {cls:=.type "range",data:=.fields #[.int x t1,.int y t2,.int z t3]},toks:=s1.toks}:=I1.kept fun b o e=>Heap.get?_push_of_some _ e
   refine Calls.spliced_nil ?_
   have hd:X.A.handled=none:=I.ok.hd hc
   have hn2:=tE h
   have hsz:Builtin.Range.rangeSize x y z=((Builtin.Range.rangeSize x y z).toNat:Nat):=by omega
   refine call_list_range hd (IsRange.new ..) (Ol h) hsz 'a' fun h' tk fg c' hk hl hit=>?_
   obtain⟨hi1,hi2⟩:=hit
   have hv:Vals ((range (Builtin.Range.rangeSize x y z).toNat).map fun i=>V.int (x+(i:Nat)*z)) fg.toList:=xU (by simpa using hi1) fun i v e=>hi2 i v (by simpa using e)
   have hlen:((range (Builtin.Range.rangeSize x y z).toNat).map fun i=>V.int (x+(i:Nat)*z)).length<=sizeLine:=by
    rw[length_map,length_range]
    exact le_trans (show(Builtin.Range.rangeSize x y z).toNat<=2000000 by omega) (by decide)
   refine⟨.ref _,upd H1 _ (.lst ((range (Builtin.Range.rangeSize x y z).toNat).map fun i=>V.int (x+(i:Nat)*z))),I2.laid (a:=_) hk (Nat.le_refl _) ⟨hlen,fg.toList,c',hv,by simpa using hl⟩,rfl,?_⟩
   have hn:H1 (s1.heap.push {cls:=.type "range",data:=.fields #[.int x t1,.int y t2,.int z t3]}).objs.size=none:=I2.hok.fresh (Nat.le_refl _)
   exact q _ _ _ (sm.trans (aM hn _)) (sm.free hn) ak Om
  ·exact q.elim
 ·exact q.elim
end
def cl2(X:Cx)(scope:Scope)(C:Addr):List (Str×Addr):=cellsFrom (C+1) scope.names (Bt X.env.cells scope.names [])
def aeW(X:Cx)(scope:Scope)(N:List Str)(s:Shared)(H:Hp)(fp:List Addr)(C:Addr)(pl:List (Addr×Obj)):Cx where
 prog:=X.prog
 w:=X.w
 K:=X.K
 mg:=X.mg
 base:=X.base
 A:=X.A
 N:=N
 s₀:=s
 H₀:=H
 env:=compEnvC scope (cl2 X scope C) C X.env
 outer:=X.stack
 stack:=X.stack
 ex:=fp
 fn:=fun x=>scope.names.lookup x==some NameKind.cell
 calm:=X.calm
 pn:=pl
 xe:=fun _ _=>False
structure XE(X:Cx)(scope:Scope)(N:List Str)(nt:Nat)(caps:List Nat):Prop where
 kind:scope.kind=.function
 apart:∀x,scope.names.lookup x=some .free->(x,NameKind.cell)∉scope.names
 names:∀y∈scope.names,y.2=.local->scope.names.lookup y.1=some .local
 free:∀y∈scope.names,y.2=.free->X.env.kindOf y.1=some .cell\/X.env.kindOf y.1=some .free
 len:N.length=nt+caps.length
 nd:N.Nodup
 caps:∀(j i:Nat),caps[j]?=some i->∃x,N[nt+j]?=some x/\X.N[i]?=some x/\scope.names.lookup x=some .free/\yT X.env.scope x
section
variable{K:'b'}{g:Gh}{env:DE}{σ:St}{H H':Hp}{os:List Addr}
theorem lU{α:Type}{l:List α}{i j:Nat}{x y:α}(e:(l.set i x)[j]?=some y)(h:y≠x):i≠j/\l[j]?=some y:=by
 by_cases hj:i=j
 ·subst hj
  exact(h (aR e)).elim
 ·rw[getElem?_set_ne hj]at e
  exact⟨hj,e⟩
theorem lV:∀{a b:List Addr},a.map V.ref=b.map V.ref->a=b
 |[],[],_=>rfl
 |[],_::_,h=>by cases h
 |_::_,[],h=>by cases h
 |x::a,y::b,h=>by
  injection h with h1 h2
  injection h1 with h1
  rw[h1,lV h2]
theorem Rel.Tz (r:Rel K g env σ H os){l:List Addr}(s:aN H H')(hn:∀a∈l,H a=none):Ext (g.P os) (g.P (l++os)) H H':=
 ⟨fun b o p e=>⟨p.1,fun hm=>by
  rcases mem_append.mp hm with z|z
  ·rw[hn b z]at e;cases e
  ·exact p.2 z⟩,fun b o _ e=>s b o e⟩
theorem Rel.abA (r:Rel K g env σ H os)(s:aN H H')(i:Nat){nss:List (List Int)}{a:Addr}{as:List Addr}(hn:∀b∈a::as,H b=none)(nd:(a::as).Nodup)(hl:as.length=nss.length)(hH:H' a=some (.lst (as.map V.ref)))
  (hi:∀(k:Nat)(b:Addr)(ns:List Int),as[k]?=some b->nss[k]?=some ns->H' b=some (.lst (ns.map V.int))):
  Rel K g (env.set i (.deep nss)) (σ.set i (some (.ref a))) H' ((a::as)++os):=by
 have ap:=r.Tz s hn
 have f:∀(j:Nat)(sl:Sl),(env.set i (Sl.deep nss))[j]?=some sl->sl≠.deep nss->i≠j/\env[j]?=some sl:=fun j sl q hn=>lU q hn
 have dp:Dp H' ((a::as)++os) a as nss:=⟨by simp,hH,hl,nd,fun k b ns e1 e2=>⟨mem_append_left _ (mem_cons_of_mem _ (mem_of_getElem? e1)),hi k b ns e1 e2⟩⟩
 have hnew:∀x∈a::as,x∉os:=fun x hx hm=>by
  obtain⟨o,ho⟩:=(r.new x hm).2
  rw[hn x hx]at ho
  cases ho
 refine⟨by simp[r.len],r.ext.trans s,fun j d q=>?_,fun j xs q=>?_,fun j k xs ys b q1 q2 q3 q4=>?_,fun b hb=>?_,fun j v q=>?_,?_⟩
 ·obtain⟨hj,q⟩:=f j _ q (fun z=>nomatch z)
  obtain⟨v,h1,h2⟩:=r.val j d q
  exact⟨v,by rw[getElem?_set_ne hj];exact h1,Is.ext ap _ _ h2⟩
 ·obtain⟨hj,q⟩:=f j _ q (fun z=>nomatch z)
  obtain⟨b,vs,h1,h2,h3,h4⟩:=r.own j xs q
  exact⟨b,vs,by rw[getElem?_set_ne hj];exact h1,mem_append_right _ h2,s _ _ h3,IsL.ext ap _ _ h4⟩
 ·obtain⟨hj,q1⟩:=f j _ q1 (fun z=>nomatch z)
  obtain⟨hk,q2⟩:=f k _ q2 (fun z=>nomatch z)
  rw[getElem?_set_ne hj]at q3
  rw[getElem?_set_ne hk]at q4
  exact r.inj j k xs ys b q1 q2 q3 q4
 ·rcases mem_append.mp hb with z|z
  ·exact⟨r.ext.free (hn b z),(dp.mem b z).2⟩
  ·obtain⟨h1,o,h2⟩:=r.new b z
   exact⟨h1,o,s _ _ h2⟩
 ·obtain⟨hj,q⟩:=f j _ q (fun z=>nomatch z)
  rw[getElem?_set_ne hj]
  exact r.raw j v q
 ·obtain⟨A,dd⟩:=r.Hs
  refine⟨fun j=>if j=i then a::as else A j,fun j rL q=>?_,fun j rL k xs b q1 q2 q3=>?_,fun j k rL TF hjk q1 q2 x hx=>?_⟩
  ·by_cases hj:j=i
   ·subst hj
    have z:=aR q
    cases z
    exact⟨a,as,if_pos rfl,by rw[getElem?_set_self (by rw[r.len];exact zI q)],dp⟩
   ·have q':=q
    rw[getElem?_set_ne (Ne.symm hj)]at q'
    obtain⟨b,bs,h1,h2,h3⟩:=dd.dp j rL q'
    refine⟨b,bs,by rw[if_neg hj];exact h1,by rw[getElem?_set_ne (Ne.symm hj)];exact h2,h3.to fun x hx=>?_⟩
    obtain⟨z1,o,z2⟩:=h3.mem x hx
    exact⟨mem_append_right _ z1,by rw[s x o z2,z2]⟩
  ·obtain⟨hk,q2⟩:=f k _ q2 (fun z=>nomatch z)
   rw[getElem?_set_ne hk]at q3
   show b∉if j=i then a::as else A j
   by_cases hj:j=i
   ·rw[if_pos hj]
    obtain⟨c,vs,h1,h2,_⟩:=r.own k xs q2
    rw[q3]at h1
    cases h1
    exact fun z=>hnew b z h2
   ·rw[if_neg hj]
    rw[getElem?_set_ne (Ne.symm hj)]at q1
    exact dd.ow j rL k xs b q1 q2 q3
  ·show x∉if k=i then a::as else A k
   have Dy:x∈if j=i then a::as else A j:=hx
   by_cases hj:j=i
   ·have hk:k≠i:=fun z=>hjk (by rw[hj,z])
    rw[if_pos hj]at Dy
    rw[if_neg hk]
    rw[getElem?_set_ne (Ne.symm hk)]at q2
    exact fun z=>hnew x Dy (dd.mem q2 x z).1
   ·rw[if_neg hj]at Dy
    rw[getElem?_set_ne (Ne.symm hj)]at q1
    by_cases hk:k=i
    ·rw[if_pos hk]
     exact fun z=>hnew x z (dd.mem q1 x Dy).1
    ·rw[if_neg hk]
     rw[getElem?_set_ne (Ne.symm hk)]at q2
     exact dd.dj j k rL TF hjk q1 q2 x Dy
theorem Rel.abB (r:Rel K g env σ H os){i:Nat}{nss:List (List Int)}(e:env[i]?=some (.deep nss)){a:Addr}{as:List Addr}(hσ:σ[i]?=some (some (.ref a)))(ha:H a=some (.lst (as.map V.ref))){k:Nat}{b:Addr}{ns:List Int}(hk:as[k]?=some b)(hns:k<nss.length)(VH:List Int):
  b∈os/\Rel K g (env.set i (.deep (nss.set k VH))) σ (upd H b (.lst (VH.map V.int))) os:=by
 obtain⟨A,dd⟩:=r.Hs
 obtain⟨a0,yU,hA,h1,h3⟩:=dd.dp i nss e
 rw[hσ]at h1
 cases h1
 have has:yU=as:=by
  have z:=h3.ha
  rw[ha]at z
  have z2:as.map V.ref=yU.map V.ref:=by injection z with z;injection z
  exact(lV z2).symm
 subst has
 have sC:b∈os:=(h3.it k b nss[k] hk (getElem?_eq_getElem hns)).1
 have XF:b∈A i:=by rw[hA];exact mem_cons_of_mem _ (mem_of_getElem? hk)
 refine⟨sC,?_⟩
 have ex:Ext (g.P os) (g.P os) H (upd H b (.lst (VH.map V.int))):=⟨fun _ _ p _=>p,fun c o p q=>by rw[aj (fun z=>p.2 (by rw[z];exact sC))];exact q⟩
 have f:∀(j:Nat)(sl:Sl),(env.set i (Sl.deep (nss.set k VH)))[j]?=some sl->sl≠.deep (nss.set k VH)->i≠j/\env[j]?=some sl:=fun j sl q hn=>lU q hn
 have hba:b≠a:=fun z=>(nodup_cons.mp h3.nd).1 (by rw[<-z];exact mem_of_getElem? hk)
 refine⟨by simp[r.len],fun c o q=>?_,fun j d q=>?_,fun j xs q=>?_,fun j k xs ys c q1 q2 q3 q4=>?_,fun c hc=>?_,fun j v q=>?_,?_⟩
 ·rw[aj (fun z=>by rw[z,(r.new b sC).1]at q;cases q)]
  exact r.ext c o q
 ·obtain⟨hj,q⟩:=f j _ q (fun z=>nomatch z)
  obtain⟨v,h1,h2⟩:=r.val j d q
  exact⟨v,h1,Is.ext ex _ _ h2⟩
 ·obtain⟨hj,q⟩:=f j _ q (fun z=>nomatch z)
  obtain⟨c,vs,h1,h2,XG,h4⟩:=r.own j xs q
  have hcb:c≠b:=fun z=>dd.ow i nss j xs c e q h1 (by rw[z];exact XF)
  exact⟨c,vs,h1,h2,by rw[aj hcb];exact XG,IsL.ext ex _ _ h4⟩
 ·obtain⟨hj,q1⟩:=f j _ q1 (fun z=>nomatch z)
  obtain⟨hk,q2⟩:=f k _ q2 (fun z=>nomatch z)
  exact r.inj j k xs ys c q1 q2 q3 q4
 ·obtain⟨z1,o,z2⟩:=r.new c hc
  refine⟨z1,?_⟩
  by_cases z:c=b
  ·exact⟨_,by rw[z];exact ak⟩
  ·exact⟨o,by rw[aj z];exact z2⟩
 ·obtain⟨hj,q⟩:=f j _ q (fun z=>nomatch z)
  exact r.raw j v q
 ·have h3k:∀(m:Nat),yU[m]?=some b->m=k:=fun m hm=>by
   have abE:=(nodup_cons.mp h3.nd).2
   have hm1:=(List.getElem?_eq_some_iff.mp hm).1
   have hk1:=(List.getElem?_eq_some_iff.mp hk).1
   exact(List.getElem_inj abE).mp (by rw[(List.getElem?_eq_some_iff.mp hm).2,(List.getElem?_eq_some_iff.mp hk).2])
  refine⟨A,fun j rL q=>?_,fun j rL m xs c q1 q2 q3=>?_,fun j m rL TF VI q1 q2 x hx=>?_⟩
  ·by_cases hj:i=j
   ·subst hj
    have z:=aR q
    cases z
    refine⟨a,yU,hA,hσ,h3.ma,by rw[aj (Ne.symm hba)];exact h3.ha,by rw[length_set];exact h3.len,h3.nd,fun m c ms e1 e2=>?_⟩
    by_cases hm:c=b
    ·subst hm
     have hmk:=h3k m e1
     subst hmk
     rw[getElem?_set_self hns]at e2
     cases e2
     exact⟨sC,ak⟩
    ·have hmk:k≠m:=fun z=>hm (by rw[z]at hk;rw[hk]at e1;cases e1;rfl)
     rw[getElem?_set_ne hmk]at e2
     rw[aj hm]
     exact h3.it m c ms e1 e2
   ·rw[getElem?_set_ne hj]at q
    obtain⟨c,cs,z1,z2,z3⟩:=dd.dp j rL q
    refine⟨c,cs,z1,z2,z3.to fun x hx=>?_⟩
    have hxb:x≠b:=fun z=>dd.dj i j nss rL hj e q b XF (by rw[z1,<-z];exact hx)
    exact⟨(z3.mem x hx).1,aj hxb⟩
  ·obtain⟨_,q2⟩:=f m _ q2 (fun z=>nomatch z)
   by_cases hj:i=j
   ·subst hj
    exact dd.ow i nss m xs c e q2 q3
   ·rw[getElem?_set_ne hj]at q1
    exact dd.ow j rL m xs c q1 q2 q3
  ·have p1:∃ms,env[j]?=some (.deep ms):=by
    by_cases hj:i=j
    ·subst hj;exact⟨nss,e⟩
    ·rw[getElem?_set_ne hj]at q1;exact⟨rL,q1⟩
   have p2:∃ms,env[m]?=some (.deep ms):=by
    by_cases hj:i=m
    ·subst hj;exact⟨nss,e⟩
    ·rw[getElem?_set_ne hj]at q2;exact⟨TF,q2⟩
   obtain⟨m1,p1⟩:=p1
   obtain⟨m2,p2⟩:=p2
   exact dd.dj j m m1 m2 VI p1 p2 x hx
end
section
variable{X:Cx}{E:Str->Hp->Prop}{pos:Pos}
def tFr(K:'b')(E:Str->Hp->Prop)(f:DE->R (List (List Int))):TA:=fun σ H Q=>∃g env os,Rel K g env σ H os/\Good E g.H₀ (f env) fun nss=>∀(as:List Addr)(H':Hp),aN H H'->(∀b∈as,H b=none)->as.Nodup->as.length=nss.length->
 (∀(k:Nat)(b:Addr)(ns:List Int),as[k]?=some b->nss[k]?=some ns->H' b=some (.lst (ns.map V.int)))->Q (as.map V.ref) H'
theorem QO:PA X [] (tFr X.K E fun _=>.ok []):=DR aL fun σ H Q ⟨g,env,os,r,m⟩=>m [] H (aN.refl H) (fun _ z=>nomatch z) .nil rfl (fun _ _ _ z=>by simp at z)
theorem QP(i:Nat){x:Str}{es:List Expr}{f:DE->R (List (List Int))}{pos' p:Pos}(he:PA X es (tFr X.K E f))(hN:X.N.Nodup)(hi:X.N[i]?=some x:=by rfl)(hx:Loc X.env.scope x:=by first|exact Or.inl rfl|exact Or.inr rfl)(hs:swapsWith (.List es p) (some (.Name x pos')) pos.line X.env=pure false:=by rfl)
  (hf:X.fn x=true\/X.env.scope.names.lookup x=some .local:=by first|exact .inl rfl|exact .inr rfl|assumption):PS X (.Assign [.Name x pos'] (.List es p) pos) (tS X.K E fun env=>(f env).bind fun nss=>(fit nss).bind fun nss=>.ok (.nx (env.set i (.deep nss)))):=
 lJ (dC hN hi hx (uz he) hs hf) fun De σ H ⟨g,env,os,r,m⟩=>⟨g,env,os,r,m.bind.mono fun nss _ m1 as H1 s1 hn nd hl hc=>by
  obtain⟨hz,q⟩:=m1.bind.fit
  refine⟨by rw[length_map,hl];exact hz,fun p hp=>?_⟩
  have abG:p∉as:=fun z=>by
   obtain⟨k,hk,rfl⟩:=getElem_of_mem z
   have:=hc k _ _ (getElem?_eq_getElem hk) (getElem?_eq_getElem (by rw[<-hl];exact hk))
   rw[hp]at this
   cases this
  have sp:=aM hp (.lst (as.map V.ref))
  have hnew:∀b∈p::as,H b=none:=fun b hb=>by
   rcases mem_cons.mp hb with rfl|hb
   ·exact s1.free hp
   ·exact hn b hb
  have s2:=s1.trans sp
  refine q _ _ ((p::as)++os) (r.abA s2 i hnew (nodup_cons.mpr ⟨abG,nd⟩) hl ak fun k b ns e1 e2=>sp _ _ (hc k b ns e1 e2)) ⟨fun b hb=>?_,fun b hb=>s2.free hb,fun b o _ hb=>s2 b o hb⟩
  rcases mem_append.mp hb with z|z
  ·exact .inr (hnew b z)
  ·exact .inl z⟩
end
def KH:Out->R (List (List Int))
 |.BQ nss=>.ok nss
 |_=>.bad
def spT(K:'b')(m:List D->R (List (List Int))):Sp:=fun vs H Q E=>∃P ds,IsL K P H ds vs/\(match m ds with
 |.ok nss=>∀(a:Addr)(as:List Addr)(H':Hp),aN H H'->Sy H H' a as nss->Q (.ref a) H'
 |_=>False)
def mT(n N:Nat)(b:DE->R Out)(ds:List D):R (List (List Int)):=if ds.length=n then((b (aJ N ds)).bind KH).ne else .bad
abbrev VJ(P:Program)(w:World)(K:'b')(mg:Str->Option Value)(base:Heap)(k:Nat)(f:Addr)(fd:FuncData)(ps:List Str)(m:List D->R (List (List Int))):Prop:=b8 P w K mg base lI k f fd ps (spT K m)
section
variable{P:Program}{w:World}{K:'b'}{mg:Str->Option Value}{base:Heap}
theorem okT{x:Str}{st:Stmt}{f:Addr}{fd:FuncData}{N ps:List Str}{k:Nat}{b:DE->R Out}(S:aA N ps (ae st))(d:Df K mg x st ps f fd)
  (hb:∀(cdv:Value)(A:Around)(outer:List Env)(s:Shared)(H:Hp)(E:XK),aY k (A.deeper (envOfC x (ae st) s.heap.objs.size f cdv))->rB (dD lI P w K mg base N x (ae st) f cdv A outer s H E).G8 (bE st) (tS K EN b)):
  VJ P w K mg base (k+1) f fd ps (mT ps.length N.length b):=by
 refine d.F.ok S (fun vs H Q E h=>?_) (fun cdv A outer s H vs Q E hr h=>?_)
 ·obtain⟨Pa,ds,i,h⟩:=h
  cases e:mT ps.length N.length b ds with
  |ok nss=>
   rw[i.length]
   unfold mT at e
   split at e
   ·assumption
   ·cases e
  |err c=>rw[e]at h;exact h.elim
  |bad=>rw[e]at h;exact h.elim
 ·obtain⟨Pa,ds,i,h⟩:=h
  refine⟨_,hb cdv A outer s H E hr,⟨⟨Pa,H⟩,aJ N.length ds,[],qQ i,?_⟩⟩
  cases e:mT ps.length N.length b ds with
  |err c=>rw[e]at h;exact h.elim
  |bad=>rw[e]at h;exact h.elim
  |ok nss=>
   rw[e]at h
   unfold mT at e
   split at e
   ·have q:=R.bO e
    cases eb:b (aJ N.length ds)with
    |bad=>rw[eb]at q;cases q
    |err c=>rw[eb]at q;cases q
    |ok o=>
     rw[eb]at q
     cases o with
     |BQ rL=>
      cases q
      exact fun a as H' s' nd=>h a as H' s' nd
     |IQ _=>cases q
     |Ht _=>cases q
     |IP _=>cases q
     |pX _=>cases q
     |rt _=>cases q
     |nx _=>cases q
     |bk _=>cases q
     |ct _=>cases q
   ·cases e
end
section
variable{X:Cx}{E:Str->Hp->Prop}{pos:Pos}
def tDp(K:'b')(E:Str->Hp->Prop)(f:DE->R (List (List Int))):TE:=fun σ H Q=>∃g env os,Rel K g env σ H os/\Good E g.H₀ (f env) fun nss=>∀(a:Addr)(as:List Addr)(H':Hp),aN H H'->Sy H H' a as nss->Q (.ref a) H'
theorem fT1{x:Str}{st:Stmt}{ps:List Str}{fa:Addr}{fd:FuncData}{k:Nat}{p:Pos}{e:Expr}{es:List Expr}{f:DE->R (List D)}{m:List D->R (List (List Int))}(d:Df X.K X.mg x st ps fa fd)(F:VJ X.prog X.w X.K X.mg X.base k fa fd ps m)(hr:aY k X.A)
  (ha:PA X (e::es) (rC X.K E f))(hg:Gl X x:=by rfl)(hdb:(x==("__debug__":Str))=false:=by decide)(he:'e':=by rfl)(hpl:(backTo pos (starEach es X.env)).any (·.1)=false:=by rfl):
  PE X (.Call (.Name x p) (e::es) [] pos) (tDp X.K E fun env=>((f env).bind m).ne):=
 imp (eO (E:=fun _ _ _=>False) F hr hg d.m d.F.kp d.b .nil lR ha hdb he hpl) fun σ H Q ⟨g,env,os,r,q⟩=>⟨g,env,os,r,by
  dsimp only at q
  cases ef:f env with
  |bad=>rw[ef]at q;exact q.elim
  |err c=>rw[ef]at q;exact q.elim
  |ok ds=>
   rw[ef]at q
   cases em:m ds with
   |bad=>rw[show((R.ok ds).bind m)=m ds from rfl,em]at q;exact q.elim
   |err c=>rw[show((R.ok ds).bind m)=m ds from rfl,em]at q;exact q.elim
   |ok nss=>
    rw[show((R.ok ds).bind m)=m ds from rfl,em]at q
    intro vs H1 s1 i1
    show spT X.K m (vs++[]) H1 Q _
    rw[append_nil]
    refine⟨_,ds,i1,?_⟩
    rw[em]
    exact fun a as H' s' nd=>q a as H' (s1.trans s') (nd.back s1)⟩
def gR(i:Nat)(env:DE):R (List (List Int)):=match env[i]? with
 |some (.deep (.ls nss))=>.ok nss
 |_=>.bad
theorem Good.deep {H₀:Hp}{i:Nat}{env:DE}{p:List (List Int)->Prop}(h:Good E H₀ (gR i env) p):∃nss:List (List Int),env[i]?=some (.deep nss)/\p nss:=by
 unfold gR at h
 split at h
 ·rename_i nss e
  exact⟨nss,e,h⟩
 ·exact h.elim
theorem QQ(i:Nat){x:Str}{p:Pos}(hN:X.N[i]?=some x:=by rfl)(hv:yT X.env.scope x:=by first|exact Or.inl rfl|exact Or.inr (Or.inl rfl)|exact Or.inr (Or.inr rfl))(hd:(x==("__debug__":Str))=false:=by decide)
  (hcd:(x==("__classdict__":Str))=false:=by decide):PS X (.Return (some (.Name x p)) pos) (tS X.K E fun env=>(gR i env).bind fun nss=>.ok (.BQ nss)):=
 lJ (mz (gM hN hv hd hcd)) fun De σ H ⟨g,env,os,r,m⟩=>by
  obtain⟨nss,e,q⟩:=m.bind.deep
  obtain⟨A,dd⟩:=r.Hs
  obtain⟨a,as,hA,h1,h3⟩:=dd.dp i nss e
  exact⟨.ref a,h1,(show gk X.K g H os De (.BQ nss)from q) a as H r.ext ⟨fun b hb=>(r.new b (h3.mem b hb).1).1,h3.nd,h3.len,h3.ha,fun k b ns e1 e2=>(h3.it k b ns e1 e2).2⟩⟩
end
section
variable{X:Cx}{E:Str->Hp->Prop}{pos:Pos}
theorem Rel.AS {K:'b'}{g:Gh}{env:DE}{σ:St}{H:Hp}{os:List Addr}(r:Rel K g env σ H os){ix:Nat}{nss:List (List Int)}(e:env[ix]?=some (.deep nss)):∃(a:Addr)(as:List Addr),σ[ix]?=some (some (.ref a))/\H a=some (.lst (as.map V.ref))/\as.length=nss.length/\∀(k:Nat)(ns:List Int),nss[k]?=some ns->∃b,as[k]?=some b/\H b=some (.lst (ns.map V.int)):=by
 obtain⟨A,dd⟩:=r.Hs
 obtain⟨a,as,_,h1,h3⟩:=dd.dp ix nss e
 refine⟨a,as,h1,h3.ha,h3.len,fun k ns hk=>?_⟩
 have hl:k<as.length:=by rw[h3.len];exact(List.getElem?_eq_some_iff.mp hk).1
 exact⟨as[k],getElem?_eq_getElem hl,(h3.it k _ ns (getElem?_eq_getElem hl) hk).2⟩
def B9(nss:List (List Int)):D->R (Nat×List Int)
 |.int i=>(match pV nss.length i with
  |some k=>(match nss[k]? with
   |some ns=>.ok (k,ns)
   |none=>.bad)
  |none=>.bad)
 |_=>.bad
theorem Good.B9 {H₀:Hp}{nss:List (List Int)}{a:D}{p:Nat×List Int->Prop}(h:Good E H₀ (B9 nss a) p):∃i k ns,a=.int i/\pV nss.length i=some k/\nss[k]?=some ns/\p (k,ns):=by
 unfold DL.B9 at h
 split at h
 ·rename_i i
  split at h
  ·rename_i k hk
   split at h
   ·rename_i ns hns
    exact⟨i,k,ns,rfl,hk,hns,h⟩
   ·exact h.elim
  ·exact h.elim
 ·exact h.elim
theorem TJ{α:Type}{xs:List α}{i:Int}{k:Nat}{x:α}(h:pV xs.length i=some k)(hx:xs[k]?=some x):iC xs i=some x:=by
 unfold L2.iC
 rw[h]
 exact hx
end
section
variable{K:'b'}{g:Gh}{env:DE}{σ:St}{H H1:Hp}{os:List Addr}
theorem Rel.XH (r:Rel K g env σ H os)(s:aN H H1){i:Nat}{nss:List (List Int)}(e:env[i]?=some (.deep nss)){a b:Addr}{as:List Addr}{ns:List Int}(hσ:σ[i]?=some (some (.ref a)))(ha:H a=some (.lst (as.map V.ref)))(hn:H b=none)(hb:H1 b=some (.lst (ns.map V.int))):
  a∈os/\Rel K g (env.set i (.deep (nss++[ns]))) σ (upd H1 a (.lst (as.map V.ref++[.ref b]))) (b::os):=by
 obtain⟨A,dd⟩:=r.Hs
 obtain⟨a0,yU,hA,h1,h3⟩:=dd.dp i nss e
 rw[hσ]at h1
 cases h1
 have has:yU=as:=by
  have z:=h3.ha
  rw[ha]at z
  have z2:as.map V.ref=yU.map V.ref:=by injection z with z;injection z
  exact(lV z2).symm
 subst has
 have sC:a∈os:=h3.ma
 have hnew:b∉os:=fun hm=>by
  obtain⟨o,ho⟩:=(r.new b hm).2
  rw[hn]at ho
  cases ho
 have hab:b≠a:=fun z=>hnew (by rw[z];exact sC)
 refine⟨sC,?_⟩
 have ex:Ext (g.P os) (g.P (b::os)) H (upd H1 a (.lst (yU.map V.ref++[.ref b]))):=⟨fun c o p q=>⟨p.1,fun hm=>by
  rcases mem_cons.mp hm with z|z
  ·rw[z,hn]at q;cases q
  ·exact p.2 z⟩,fun c o p q=>by rw[aj (fun z=>p.2 (by rw[z];exact sC))];exact s c o q⟩
 have f:∀(j:Nat)(sl:Sl),(env.set i (Sl.deep (nss++[ns])))[j]?=some sl->sl≠.deep (nss++[ns])->i≠j/\env[j]?=some sl:=fun j sl q hn=>lU q hn
 have keep:∀c∈os,c≠a->∀o,H c=some o->(upd H1 a (.lst (yU.map V.ref++[.ref b]))) c=some o:=fun c _ hc o ho=>by rw[aj hc];exact s c o ho
 refine⟨by simp[r.len],fun c o q=>?_,fun j d q=>?_,fun j xs q=>?_,fun j k xs ys c q1 q2 q3 q4=>?_,fun c hc=>?_,fun j v q=>?_,?_⟩
 ·rw[aj (fun z=>by rw[z,(r.new a sC).1]at q;cases q)]
  exact s _ _ (r.ext c o q)
 ·obtain⟨hj,q⟩:=f j _ q (fun z=>nomatch z)
  obtain⟨v,h1,h2⟩:=r.val j d q
  exact⟨v,h1,Is.ext ex _ _ h2⟩
 ·obtain⟨hj,q⟩:=f j _ q (fun z=>nomatch z)
  obtain⟨c,vs,h1,h2,XG,h4⟩:=r.own j xs q
  have hca:c≠a:=fun z=>dd.ow i nss j xs c e q h1 (by rw[z,hA];exact mem_cons_self)
  exact⟨c,vs,h1,mem_cons_of_mem _ h2,keep c h2 hca _ XG,IsL.ext ex _ _ h4⟩
 ·obtain⟨hj,q1⟩:=f j _ q1 (fun z=>nomatch z)
  obtain⟨hk,q2⟩:=f k _ q2 (fun z=>nomatch z)
  exact r.inj j k xs ys c q1 q2 q3 q4
 ·rcases mem_cons.mp hc with z|z
  ·rw[z]
   exact⟨r.ext.free hn,_,by rw[aj hab];exact hb⟩
  ·obtain⟨z1,o,z2⟩:=r.new c z
   refine⟨z1,?_⟩
   by_cases w:c=a
   ·exact⟨_,by rw[w];exact ak⟩
   ·exact⟨o,keep c z w o z2⟩
 ·obtain⟨hj,q⟩:=f j _ q (fun z=>nomatch z)
  exact r.raw j v q
 ·have sub:∀(j':Nat)(y:Addr),(y∈if j'=i then a::(yU++[b])else A j')->y∈A j'\/(j'=i/\y=b):=fun j' y hy=>by
   by_cases hj:j'=i
   ·rw[if_pos hj]at hy
    rw[hj,hA]
    rcases mem_cons.mp hy with w|w
    ·rw[w];exact .inl mem_cons_self
    ·rcases mem_append.mp w with w|w
     ·exact .inl (mem_cons_of_mem _ w)
     ·exact .inr ⟨rfl,by simpa using w⟩
   ·rw[if_neg hj]at hy
    exact .inl hy
  have p1:∀(j:Nat)(ms:Ct),(env.set i (Sl.deep (nss++[ns])))[j]?=some (.deep ms)->∃TN,env[j]?=some (.deep TN):=fun j ms q=>by
   by_cases hj:i=j
   ·subst hj;exact⟨nss,e⟩
   ·rw[getElem?_set_ne hj]at q;exact⟨ms,q⟩
  refine⟨fun j=>if j=i then a::(yU++[b])else A j,fun j rL q=>?_,fun j rL m xs c q1 q2 q3 hx=>?_,fun j m rL TF VI q1 q2 x hx WS=>?_⟩
  ·by_cases hj:j=i
   ·have q':=q
    rw[hj]at q'
    have z:=aR q'
    cases z
    refine⟨a,yU++[b],if_pos hj,by rw[hj];exact hσ,mem_cons_of_mem _ h3.ma,by rw[map_append];exact ak,by rw[length_append,length_append,h3.len];rfl,?_,fun m c ms e1 e2=>?_⟩
    ·have abH:b∉yU:=fun z=>hnew (h3.mem b (mem_cons_of_mem _ z)).1
     have nd:=nodup_cons.mp h3.nd
     refine nodup_cons.mpr ⟨fun z=>?_,?_⟩
     ·rcases mem_append.mp z with w|w
      ·exact nd.1 w
      ·have:a=b:=by simpa using w
       exact hab this.symm
     ·rw[List.nodup_append]
      refine⟨nd.2,by simp,fun x hx y hy=>?_⟩
      have hy':y=b:=by simpa using hy
      rw[hy']
      exact fun z=>abH (by rw[<-z];exact hx)
    ·by_cases hm:m<yU.length
     ·rw[getElem?_append_left hm]at e1
      rw[getElem?_append_left (by rw[<-h3.len];exact hm)]at e2
      obtain⟨w1,w2⟩:=h3.it m c ms e1 e2
      have hca:c≠a:=fun z=>(nodup_cons.mp h3.nd).1 (by rw[<-z];exact mem_of_getElem? e1)
      exact⟨mem_cons_of_mem _ w1,keep c w1 hca _ w2⟩
     ·have hk2:m=yU.length:=by
       have:=(List.getElem?_eq_some_iff.mp e1).1
       rw[length_append]at this
       simp at this
       omega
      subst hk2
      have z1':b=c:=by simpa using e1
      rw[h3.len]at e2
      have z2':ns=ms:=by simpa using e2
      subst z1' z2'
      exact⟨mem_cons_self,by rw[aj hab];exact hb⟩
   ·rw[getElem?_set_ne (Ne.symm hj)]at q
    obtain⟨c,cs,z1,z2,z3⟩:=dd.dp j rL q
    refine⟨c,cs,by rw[if_neg hj];exact z1,z2,z3.to fun x hx=>?_⟩
    have hxa:x≠a:=fun z=>dd.dj i j nss rL (Ne.symm hj) e q a (by rw[hA];exact mem_cons_self) (by rw[z1,<-z];exact hx)
    obtain⟨w1,o,w2⟩:=z3.mem x hx
    exact⟨mem_cons_of_mem _ w1,by rw[keep x w1 hxa o w2,w2]⟩
  ·have ZA:=(f m _ q2 (fun z=>nomatch z)).2
   obtain⟨TN,p⟩:=p1 j rL q1
   rcases sub j c hx with w|⟨_,w⟩
   ·exact dd.ow j TN m xs c p ZA q3 w
   ·obtain⟨c',vs,w1,w2,_⟩:=r.own m xs ZA
    rw[q3]at w1
    cases w1
    exact hnew (by rw[<-w];exact w2)
  ·obtain⟨m1,w1⟩:=p1 j rL q1
   obtain⟨m2,w2⟩:=p1 m TF q2
   rcases sub j x hx with u|⟨u1,u⟩<;>rcases sub m x WS with v|⟨v1,v⟩
   ·exact dd.dj j m m1 m2 VI w1 w2 x u v
   ·exact hnew (by rw[<-v];exact(dd.mem w1 x u).1)
   ·exact hnew (by rw[<-u];exact(dd.mem w2 x v).1)
   ·exact VI (by rw[u1,v1])
end
section
variable{X:Cx}{E:Str->Hp->Prop}{pos:Pos}
def D7(ix:Nat)(env:DE)(nss:List (List Int))(kn:Nat×List Int):D->R Out
 |.int v=> @ite _ (kn.2.length<sizeLine) (propDecidable _) (.ok (.nx (env.set ix (.deep (nss.set kn.1 (kn.2++[v])))))) .bad
 |_=>.bad
theorem Good.D7 {H₀:Hp}{ix:Nat}{env:DE}{nss:List (List Int)}{kn:Nat×List Int}{d:D}{p:Out->Prop}(h:Good E H₀ (D7 ix env nss kn d) p):∃v,d=.int v/\kn.2.length<sizeLine/\p (.nx (env.set ix (.deep (nss.set kn.1 (kn.2++[v]))))):=by
 unfold DL.D7 at h
 split at h
 ·split at h
  ·rename_i c
   exact⟨_,rfl,c,h⟩
  ·exact h.elim
 ·exact h.elim
theorem TQ(ix:Nat){x:Str}{ei e:Expr}{fi f:DE->R D}{p XI apos bg:Pos}(hi:PE X ei (tB X.K E fi))(he:PE X e (tB X.K E f))(hN:X.N[ix]?=some x:=by rfl)(hv:yT X.env.scope x:=by first|exact Or.inl rfl|exact Or.inr (Or.inl rfl)|exact Or.inr (Or.inr rfl))(hd:(x==("__debug__":Str))=false:=by decide)
  (hcd:(x==("__classdict__":Str))=false:=by decide)(hpi:wO ei:=by exact fun _ _=>rfl)
  (hbase:attributeBase (.Subscript (.Name x p) ei XI) "append" X.env (eval (.Subscript (.Name x p) ei XI) X.env)=eval (.Subscript (.Name x p) ei XI) X.env:=by rfl)
  (hfew:((backTo bg (starEach [e] X.env)).all (fun x=> !x.1)&&(backToKw bg (keywordEach [] X.env)).all (fun x=>x.1.isSome)
   &&decide ([e].length+([]:List Keyword).length+(if([]:List Keyword).isEmpty then 0 else 1)<30))=true:=by rfl)
  (hline:(apos.endLine==bg.line)=true:=by rfl)(hst:starEach [e] X.env=(false,eval e X.env)::starEach [] X.env:=by rfl)(hplain:(backTo bg (starEach [] X.env)).any (·.1)=false:=by rfl)
  (hs:swapsWith (.Call (.Attribute (.Subscript (.Name x p) ei XI) "append" apos) [e] [] bg) none pos.line X.env=pure false:=by rfl):
  PS X (.Expr (.Call (.Attribute (.Subscript (.Name x p) ei XI) "append" apos) [e] [] bg) pos) (tS X.K E fun env=>(gR ix env).bind fun nss=>(fi env).bind fun a=>(B9 nss a).bind fun kn=>(f env).bind fun d=>D7 ix env nss kn d):=
 lJ (fX (sQ plainAttrs_list PySem.F.slot_list_append PySem.F.type_list_append fY (jh dY (gM hN hv hd hcd) hi hpi) (ao he aL hst) hbase hfew hline hst hplain) hs) fun De σ H ⟨g,env,os,r,m⟩=>by
  obtain⟨nss,e1,m2⟩:=m.bind.deep
  obtain⟨a,as,q1,q2,q3,q4⟩:=r.AS e1
  refine⟨.ref a,q1,g,env,os,r,m2.bind.mono fun da _ m3 w H2 s2 i2=>?_⟩
  obtain⟨i,k,ns,rfl,hk,hns,m4⟩:=m3.bind.B9
  obtain⟨b,hb1,hb2⟩:=q4 k ns hns
  refine⟨a,as.map V.ref,i,.ref b,rfl,i2,cV.of (s2 _ _ q2),TJ (by rw[length_map,q3];exact hk) (by rw[getElem?_map,hb1];rfl),.inl ⟨rfl,_,cV.of (s2 _ _ hb2)⟩,g,env,os,r.same s2,m4.bind.mono fun d _ m5 v H3 s3 i3=>?_⟩
  obtain⟨u,rfl,hl,m6⟩:=m5.D7
  have iu:v=.int u:=i3
  subst iu
  have r3:=r.same (s2.trans s3)
  have hb3:=s3 _ _ (s2 _ _ hb2)
  obtain⟨sC,r4⟩:=r3.abB (ns:=ns) e1 q1 (s3 _ _ (s2 _ _ q2)) hb1 (List.getElem?_eq_some_iff.mp hns).1 (ns++[u])
  refine⟨b,ns.map V.int,.int u,rfl,rfl,hb3,by rw[length_map];exact hl,?_⟩
  rw[map_append]at r4
  exact(show gk X.K g H os De (.nx _)from m6) σ _ os r4 ((rD.same (s2.trans s3) os).trans (.mut sC))
def KI(ix:Nat)(env:DE)(nss:List (List Int))(ns:List Int):R Out:= @ite _ (nss.length<sizeLine) (propDecidable _) (.ok (.nx (env.set ix (.deep (nss++[ns]))))) .bad
theorem QR(ix:Nat){x:Str}{e:Expr}{f:DE->R (List D)}{p apos bg:Pos}(he:PE X e (tF X.K E f))(hN:X.N[ix]?=some x:=by rfl)(hv:yT X.env.scope x:=by first|exact Or.inl rfl|exact Or.inr (Or.inl rfl)|exact Or.inr (Or.inr rfl))(hd:(x==("__debug__":Str))=false:=by decide)
  (hcd:(x==("__classdict__":Str))=false:=by decide)
  (hbase:attributeBase (.Name x p) "append" X.env (eval (.Name x p) X.env)=eval (.Name x p) X.env:=by rfl)
  (hfew:((backTo bg (starEach [e] X.env)).all (fun x=> !x.1)&&(backToKw bg (keywordEach [] X.env)).all (fun x=>x.1.isSome)
   &&decide ([e].length+([]:List Keyword).length+(if([]:List Keyword).isEmpty then 0 else 1)<30))=true:=by rfl)
  (hline:(apos.endLine==bg.line)=true:=by rfl)(hst:starEach [e] X.env=(false,eval e X.env)::starEach [] X.env:=by rfl)(hplain:(backTo bg (starEach [] X.env)).any (·.1)=false:=by rfl)
  (hs:swapsWith (.Call (.Attribute (.Name x p) "append" apos) [e] [] bg) none pos.line X.env=pure false:=by rfl):
  PS X (.Expr (.Call (.Attribute (.Name x p) "append" apos) [e] [] bg) pos) (tS X.K E fun env=>(gR ix env).bind fun nss=>(f env).bind fun xs=>(R.of (B4 xs)).bind fun ns=>KI ix env nss ns):=
 lJ (fX (sQ plainAttrs_list PySem.F.slot_list_append PySem.F.type_list_append fY (gM hN hv hd hcd) (ao he aL hst) hbase hfew hline hst hplain) hs) fun De σ H ⟨g,env,os,r,m⟩=>by
  obtain⟨nss,e1,m2⟩:=m.bind.deep
  obtain⟨a,as,q1,q2,q3,q4⟩:=r.AS e1
  refine⟨.ref a,q1,.inl ⟨rfl,_,cV.of q2⟩,g,env,os,r,m2.bind.mono fun xs _ m3 b vs H1 s1 hn hH i1=>?_⟩
  obtain⟨ns,e2,m4⟩:=m3.bind.of
  have e3:=uN e2
  subst e3
  have e4:=gb i1
  subst e4
  unfold KI at m4
  split at m4
  ·rename_i c
   obtain⟨hos,r2⟩:=r.XH s1 e1 q1 q2 hn hH
   refine⟨a,as.map V.ref,.ref b,rfl,rfl,s1 _ _ q2,by rw[length_map,q3];exact c,?_⟩
   refine(show gk X.K g H os De (.nx _)from m4) σ _ (b::os) r2 ⟨fun y hy=>?_,fun y hy=>?_,fun y o hy ho=>?_⟩
   ·rcases mem_cons.mp hy with z|z
    ·rw[z];exact .inr hn
    ·exact .inl z
   ·by_cases z:y=a
    ·rw[z,ak]at hy;cases hy
    ·rw[aj z]at hy;exact s1.free hy
   ·rw[aj (fun z=>hy (by rw[z];exact hos))];exact s1 _ _ ho
  ·exact m4.elim
end
section
variable{X:Cx}{E:Str->Hp->Prop}{pos:Pos}{k:Nat}{fa:Addr}{fd:FuncData}{st:Stmt}{ps:List Str}{x:Str}{p:Pos}{e:Expr}{es:List Expr}{f:DE->R (List D)}
abbrev abK:=List (Str×(List D->R (List D)))
def FnR(X:Cx)(n:Str)(m:List D->R (List D)):Prop:=∃st ps fa fd k,Df X.K X.mg n st ps fa fd/\b8 X.prog X.w X.K X.mg X.base lI k fa fd ps (M4 X.K IU m)/\aY k X.A
def FnT(X:Cx)(tab:abK):Prop:=∀n m,tab.lookup n=some m->FnR X n m
end
def ae1:D->R Int
 |.int i=>.ok i
 |_=>.bad
def abL:Out->R (List (List Int))
 |.Ht nss=>.ok nss
 |_=>.bad
def mP(n N:Nat)(b:DE->R Out)(ds:List D):R (List (List Int)):=if ds.length=n then((b (aJ N ds)).bind abL).ne else .bad
section
variable{X:Cx}{E:Str->Hp->Prop}{pos:Pos}
def AU(x y:D):Option D:=match x,y with
 |.int k,.lst xs=>(B4 xs).map fun ns=>.bl (!decide (k∈ns))
 |_,_=>none
theorem Ca(k:Int):∀ns:List Int,Zg (.int k) (ns.map V.int)=decide (k∈ns)
 |[]=>rfl
 |n::ns=>by
  have ih:=Ca k ns
  unfold Zg at ih⊢
  rw[map_cons,any_cons,ih]
  by_cases h:n=k
  ·subst h
   simp[MY]
  ·have h':¬k=n:=fun z=>h z.symm
   simp[MY,h,h']
theorem zQ:∀ns:List Int,(ns.map V.int).all sP=true
 |[]=>rfl
 |n::ns=>by rw[map_cons,all_cons,zQ ns];rfl
theorem HL:nc X (rIn X.K true) AU:=fun x y d e=>by
 unfold AU at e
 split at e
 ·rename_i k xs
  cases q:B4 xs with
  |none=>rw[q]at e;cases e
  |some ns=>
   rw[q]at e
   cases e
   have e2:=uN q
   subst e2
   refine⟨_,rfl,fun H v w Q h1 h2 hq=>?_⟩
   have TR:v=.int k:=h1
   subst TR
   obtain⟨a,vs,rfl,l,i⟩:=h2
   have ev:=gb i
   subst ev
   refine⟨a,_,rfl,.inl l.sq,rfl,zQ ns,?_⟩
   rw[if_pos rfl,Ca]
   exact hq
 ·cases e
end
section
variable{X:Cx}{E:Str->Hp->Prop}{pos:Pos}
def toS:List D->Option (List Str)
 |[]=>some []
 |.str x::r=>(toS r).map (x::·)
 |_::_=>none
def ae2:D->R Str
 |.str i=>.ok i
 |_=>.bad
theorem tH{K:'b'}{P:Addr->Prop}{H:Hp}:∀{as:List Addr}{nss:List (List Int)},as.length=nss.length->(∀b∈as,P b)->(∀(k:Nat)(b:Addr)(ns:List Int),as[k]?=some b->nss[k]?=some ns->H b=some (.lst (ns.map V.int)))->IsL K P H (nss.map fun ns=>D.lst (ns.map D.int)) (as.map V.ref)
 |[],[],_,_,_=>rfl
 |[],_::_,h,_,_=>by simp at h
 |_::_,[],h,_,_=>by simp at h
 |a::as,ns::nss,h,hp,hi=>⟨_,_,rfl,⟨a,_,rfl,.inl ⟨hp a (by simp),.inl (hi 0 a ns rfl rfl)⟩,cF ns⟩,tH (by simpa using h) (fun b hb=>hp b (by simp[hb])) fun k b ms e1 e2=>hi (k+1) b ms e1 e2⟩
theorem PE.abM {e:Expr}{f:DE->R (List (List Int))}(h:PE X e (tDp X.K E f)):PE X e (tL X.K E fun env=>(f env).bind fun nss=>.ok (nss.map fun ns=>D.lst (ns.map D.int))):=
 imp h fun σ H Q ⟨g,env,os,r,m⟩=>⟨g,env,os,r,m.bind.mono fun nss _ q a as H' s nd=>q a _ H' s (cV.of nd.ha) (tH nd.len (fun b hb=>r.fresh (nd.fr b (mem_cons_of_mem _ hb))) nd.it)⟩
end
section
variable{X:Cx}{E:Str->Hp->Prop}{pos:Pos}
def abN(T:List (Str×Int)):List (Str×PyData):=T.map fun p=>(p.1,PyData.int p.2)
def ae3(K:'b')(a:Addr)(T:List (Str×Int)):Prop:=KTD.tabLook KTD.flatLooks (fun b=>K.lookup b) a (abN T)=true
end
section
variable{X:Cx}{E:Str->Hp->Prop}{pos:Pos}
def ae4:D->R Unit
 |.int 1=>.ok ()
 |_=>.bad
end
section
variable{X:Cx}{E:Str->Hp->Prop}{pos:Pos}
def ae5:D->R Unit
 |.int 2=>.ok ()
 |_=>.bad
end
section
variable{X:Cx}{E:Str->Hp->Prop}{pos:Pos}
def ae6:D->R Unit
 |.int 0=>.ok ()
 |_=>.bad
end
def Oq:D->D->Option D
 |.int i,.int j=> @ite _ (He i j) (propDecidable _) (some (.int (i*2^j.toNat))) none
 |_,_=>none
section
variable{X:Cx}{E:Str->Hp->Prop}{pos:Pos}
theorem Ot:nc X (rI He fun i j=>.int (i*2^j.toNat)) Oq:=sW (h:=fun i j=>.int (i*2^j.toNat)) (fun _ _=>rfl) fun x y d e=>by
 unfold Oq at e
 split at e
 ·split at e
  ·rename_i i j c
   cases e
   exact⟨i,j,rfl,rfl,c,rfl⟩
  ·cases e
 ·cases e
theorem XJ:Vv X .BitOr (V7 fun i j=>Builtin.bitOr i j):=by
 intro pins s σ H x y v u Q I r1 r2 h
 obtain⟨i,j,rfl,rfl,q⟩:=h
 obtain⟨t,rfl⟩:=r1
 obtain⟨t',rfl⟩:=r2
 exact ior_int ⟨.int _,H,I.tok _,⟨_,rfl⟩,q⟩
end
section
variable{K:'b'}{g:Gh}{env:DE}{σ:St}{H H1:Hp}{os:List Addr}
theorem Rel.XM (r:Rel K g env σ H os){i:Nat}{c c':Ct}(e:env[i]?=some (.deep c)){a:Addr}(hσ:σ[i]?=some (some (.ref a))){o:HO}{as':List Addr}
  (hd:∀as,Dp H os a as c->(∀x,x∈as'↔x∈as)/\Dp (upd H a o) os a as' c'):a∈os/\Rel K g (env.set i (.deep c')) σ (upd H a o) os:=by
 obtain⟨A,dd⟩:=r.Hs
 obtain⟨a0,yU,hA,h1,h3⟩:=dd.dp i c e
 rw[hσ]at h1
 cases h1
 obtain⟨hm,Nm⟩:=hd yU h3
 have sC:a∈os:=(h3.mem a (by simp)).1
 have XF:a∈A i:=by rw[hA];simp
 refine⟨sC,?_⟩
 have ex:Ext (g.P os) (g.P os) H (upd H a o):=⟨fun _ _ p _=>p,fun c o p q=>by rw[aj (fun z=>p.2 (by rw[z];exact sC))];exact q⟩
 have f:∀(j:Nat)(sl:Sl),(env.set i (Sl.deep c'))[j]?=some sl->sl≠.deep c'->i≠j/\env[j]?=some sl:=fun j sl q hn=>lU q hn
 refine⟨by simp[r.len],fun b o' q=>?_,fun j d q=>?_,fun j xs q=>?_,fun j k xs ys b q1 q2 q3 q4=>?_,fun b hc=>?_,fun j v q=>?_,?_⟩
 ·rw[aj (fun z=>by rw[z,(r.new a sC).1]at q;cases q)]
  exact r.ext b o' q
 ·obtain⟨hj,q⟩:=f j _ q (fun z=>nomatch z)
  obtain⟨v,h1,h2⟩:=r.val j d q
  exact⟨v,h1,Is.ext ex _ _ h2⟩
 ·obtain⟨hj,q⟩:=f j _ q (fun z=>nomatch z)
  obtain⟨b,vs,h1,h2,XG,h4⟩:=r.own j xs q
  have hcb:b≠a:=fun z=>dd.ow i c j xs b e q h1 (by rw[z];exact XF)
  exact⟨b,vs,h1,h2,by rw[aj hcb];exact XG,IsL.ext ex _ _ h4⟩
 ·obtain⟨hj,q1⟩:=f j _ q1 (fun z=>nomatch z)
  obtain⟨hk,q2⟩:=f k _ q2 (fun z=>nomatch z)
  exact r.inj j k xs ys b q1 q2 q3 q4
 ·obtain⟨z1,o',z2⟩:=r.new b hc
  refine⟨z1,?_⟩
  by_cases z:b=a
  ·exact⟨_,by rw[z];exact ak⟩
  ·exact⟨o',by rw[aj z];exact z2⟩
 ·obtain⟨hj,q⟩:=f j _ q (fun z=>nomatch z)
  exact r.raw j v q
 ·have sub:∀(j:Nat)(y:Addr),(y∈if j=i then a::as' else A j)->y∈A j:=fun j y hy=>by
   by_cases hj:j=i
   ·rw[if_pos hj]at hy
    rw[hj,hA]
    rcases mem_cons.mp hy with w|w
    ·rw[w];exact mem_cons_self
    ·exact mem_cons_of_mem _ ((hm y).mp w)
   ·rw[if_neg hj]at hy
    exact hy
  have p1:∀(j:Nat)(ms:Ct),(env.set i (Sl.deep c'))[j]?=some (.deep ms)->∃TN,env[j]?=some (.deep TN):=fun j ms q=>by
   by_cases hj:i=j
   ·subst hj;exact⟨c,e⟩
   ·rw[getElem?_set_ne hj]at q;exact⟨ms,q⟩
  refine⟨fun j=>if j=i then a::as' else A j,fun j rL q=>?_,fun j rL m xs b q1 q2 q3 hx=>?_,fun j m rL TF VI q1 q2 x hx WS=>?_⟩
  ·by_cases hj:j=i
   ·have q':=q
    rw[hj]at q'
    have z:=aR q'
    cases z
    exact⟨a,as',if_pos hj,by rw[hj];exact hσ,Nm⟩
   ·rw[getElem?_set_ne (Ne.symm hj)]at q
    obtain⟨b,cs,z1,z2,z3⟩:=dd.dp j rL q
    refine⟨b,cs,by rw[if_neg hj];exact z1,z2,z3.to fun x hx=>?_⟩
    have hxb:x≠a:=fun z=>dd.dj i j c rL (Ne.symm hj) e q a XF (by rw[z1,<-z];exact hx)
    exact⟨(z3.mem x hx).1,aj hxb⟩
  ·have ZA:=(f m _ q2 (fun z=>nomatch z)).2
   obtain⟨TN,p⟩:=p1 j rL q1
   exact dd.ow j TN m xs b p ZA q3 (sub j b hx)
  ·obtain⟨m1,w1⟩:=p1 j rL q1
   obtain⟨m2,w2⟩:=p1 m TF q2
   exact dd.dj j m m1 m2 VI w1 w2 x (sub j x hx) (sub m x WS)
end
section
variable{X:Cx}{E:Str->Hp->Prop}{pos:Pos}
theorem XO(ix:Nat){x:Str}{p apos bg:Pos}(hN:X.N[ix]?=some x:=by rfl)(hv:yT X.env.scope x:=by first|exact Or.inl rfl|exact Or.inr (Or.inl rfl)|exact Or.inr (Or.inr rfl))(hd:(x==("__debug__":Str))=false:=by decide)
  (hcd:(x==("__classdict__":Str))=false:=by decide)
  (hbase:attributeBase (.Name x p) "reverse" X.env (eval (.Name x p) X.env)=eval (.Name x p) X.env:=by rfl)(hline:(apos.endLine==bg.line)=true:=by rfl)
  (hs:swapsWith (.Call (.Attribute (.Name x p) "reverse" apos) [] [] bg) none pos.line X.env=pure false:=by rfl):
  PS X (.Expr (.Call (.Attribute (.Name x p) "reverse" apos) [] [] bg) pos) (tS X.K E fun env=>(gR ix env).bind fun nss=>.ok (.nx (env.set ix (.deep (.ls nss.reverse))))):=
 lJ (fX (AB plainAttrs_list PySem.F.slot_list_reverse PySem.F.type_list_reverse DN (gM hN hv hd hcd) hbase hline) hs) fun De σ H ⟨g,env,os,r,m⟩=>by
  obtain⟨nss,e1,m2⟩:=m.bind.deep
  obtain⟨a,as,q1,q2,q3,q4⟩:=r.AS e1
  refine⟨.ref a,q1,.inl ⟨rfl,_,cV.of q2⟩,a,as.map V.ref,rfl,rfl,q2,?_⟩
  obtain⟨hos,r2⟩:=r.XM (c':=.ls nss.reverse) (o:=.lst (as.map V.ref).reverse) (as':=as.reverse) e1 q1 (fun yU dp=>by
   have d:Br HO.lst H os a yU nss:=dp
   have has:yU=as:=by
    have z:=d.ha
    rw[q2]at z
    have z2:as.map V.ref=yU.map V.ref:=by injection z with z;injection z
    exact(lV z2).symm
   subst has
   refine⟨fun x=>mem_reverse,d.ma,by rw[<-map_reverse];exact ak,by rw[length_reverse,length_reverse];exact d.len,?_,fun k b ns e1 e2=>?_⟩
   ·have nd:=nodup_cons.mp d.nd
    exact nodup_cons.mpr ⟨fun z=>nd.1 (mem_reverse.mp z),(reverse_perm yU).nodup_iff.mpr nd.2⟩
   ·have hk:=(List.getElem?_eq_some_iff.mp e1).1
    rw[length_reverse]at hk
    rw[getElem?_reverse hk]at e1
    rw[getElem?_reverse (by rw[<-d.len];exact hk),<-d.len]at e2
    obtain⟨w1,w2⟩:=d.it _ b ns e1 e2
    have hba:b≠a:=fun z=>(nodup_cons.mp d.nd).1 (by rw[<-z];exact mem_of_getElem? e1)
    exact⟨w1,by rw[aj hba];exact w2⟩)
  exact(show gk X.K g H os De (.nx _)from m2) σ _ os r2 (.mut hos)
end
theorem dfm{K:'b'}{h:Heap}{mg:Str->Option Value}{x:Str}{st:Stmt}{ps:List Str}{f:Addr}{oc:Value}{od an:Option Addr}{Hj:Array (Option Value)}{kV doc pm cdv ct:Value}(X:K.In h)(G:h.Ns mainGlobals mg)(a:nsIn K mainGlobals x=some (some (.ref f)))
  (l:K.lookup f=some ⟨oc,od,.func (PySem.W.fnOf x x (eQ st) (bE st) (ae st) .none kV doc pm an cdv ct),Hj⟩)(c:codeIn K cdv x=true)(k:keepIn K (.ref f)=true)
  (hb:∀(kV doc pm:Value)(an:Option Addr)(cdv ct:Value)(us:List Value),us.length=ps.length->bindArgs (PySem.W.fnOf x x (eQ st) (bE st) (ae st) .none kV doc pm an cdv ct) ⟨us,[]⟩=pure (ps.zip us)):
  Df K mg x st ps f (PySem.W.fnOf x x (eQ st) (bE st) (ae st) .none kV doc pm an cdv ct):=⟨DP l c k,(DP l c k).binds hb,mg_of X G a,a⟩
theorem pA{N P:List Str}{sc:Scope}(h1:sc.kind=.function:=by rfl)(h2:sc.isCoroutine=false:=by rfl)(h3:sc.isGenerator=false:=by rfl)(h4:N.Nodup:=by decide +kernel)(h5:N.take P.length=P:=by rfl)
  (h6:∀x∈P,sc.names.lookup x=some .local\/sc.names.lookup x=some .cell:=by decide +kernel)(h7:∀y∈sc.names,y.2≠.free:=by decide +kernel):aA N P sc:=⟨h1,h2,h3,h4,h5,h6,h7⟩
def wt(n:Int):Obj:={cls:=.type "range_iterator",data:=.fields #[rawInt (0+(n-1)*1),rawInt n,rawInt (-1)]}
theorem Ou:isSubtype (.type "range_iterator") (.type "reversed")=pure false:=by rw[isSubtype_type];kernel_rfl
section
variable{prog:Program}{w:World}{A:Around}{E:Value->Shared->Prop}{s:Shared}
theorem Ov{r:Addr}{n:Int}{t u v:Tok}{Q:Value->Shared->Prop}(h0:0<=n)(h1:n<=1000000)(hr:IsRange s.heap r 0 n 1 t u v)
  (h:Q (.ref s.heap.objs.size) {s with heap:=s.heap.push (wt n)}):wpAny (model prog w) A (call (.builtin "range.__reversed__") [.ref r]) Q E s:=by
 refine wpAny_call_entry slot_range_reversed ⟨_,hr,rfl⟩ PySem.F.entry_range_reversed ?_ (PySem.F.args_range_reversed_1 _)
 have hsz:Builtin.Range.rangeSize 0 n 1=n:=by rw[rangeSize_one];split<;>omega
 have hsm:(Builtin.Range.rangeFitsLong 0&&Builtin.Range.rangeFitsLong n&&Builtin.Range.rangeFitsLong 1&&Builtin.Range.rangeFitsLong (-1)&&Builtin.Range.rangeFitsLong (0-1)&&Builtin.Range.rangeFitsLong n)=true:=by
  unfold Builtin.Range.rangeFitsLong
  simp only [and_eq_true,decide_eq_true_eq]
  omega
 obtain⟨hp,g,d,tk,os⟩:=s
 wp_walk using AutoSeq1.wpAny_loadPart' hr
 rw[hsz,hsm,if_neg (show¬((!true)=true)from Bool.false_ne_true)]
 dsimp only
 rw[if_pos rfl]
 exact wpAny_bind (wpAny_newObj_type (wpAny_pure ⟨_,rfl,h⟩))
theorem TU{r:Addr}{n:Int}{t u v:Tok}{Q:Value->Shared->Prop}(h0:0<=n)(h1:n<=1000000)(hr:IsRange s.heap r 0 n 1 t u v)
  (h:Q (.ref s.heap.objs.size) {s with heap:=s.heap.push (wt n)}):codeAny (model prog w) A (.call (.builtin "reversed.__new__") ⟨[.type "reversed",.ref r],[]⟩) (wants Q E) s:=by
 have hT:s.TypeIs (.ref r) "range":=⟨_,hr,rfl⟩
 have nb:¬((Value.builtin "range.__reversed__"==Value.none)=true):=Bool.false_ne_true
 refine codeAny_of_tree (show wpAny _ A.in1 (do
  checkBuiltinCall "reversed.__new__" ⟨[.type "reversed",.ref r],[]⟩
  again (.builtin "reversed.__new__" ⟨[.type "reversed",.ref r],[]⟩)) _ _ s from ?_)
 refine wpAny_bind (wpAny_of_eq (PySem.F.newCall_reversed_1 _) (wpAny_pure ⟨plainId_quiet PySem.F.plain_reversed_new _,?_⟩))
 refine codeAny_builtin PySem.F.entry_reversed_new ?_
 rw[Around.under_plainId PySem.F.plain_reversed_new _]
 show wpAny _ _ (do
  let x<-Builtin.SmallTypes.newClass "reversed" ⟨[.type "reversed",.ref r],[]⟩
  _) _ _ _
 refine wpAny_bind (wpAny_of_eq (newClass_reversed (.ref r)) ?_)
 try dsimp only
 refine wpAny_bind (wpAny_of_eq (a:=()) (by kernel_rfl) (wpAny_bind (wpAny_of_eq (a:=()) (by kernel_rfl) ?_)))
 try dsimp only
 refine wpAny_bind (wpAny_specialOf hT slot_range_reversed.lookup ?_)
 try dsimp only
 refine wpAny_bind (wpAny_of_eq (slot_range_reversed.bind (.ref r)) ?_)
 try dsimp only
 rw[if_neg nb]
 refine wpAny_bind (wpAny_rule (wpAny_bind (m:=runValue (.call (.builtin "range.__reversed__") ⟨[.ref r],[]⟩)) ?_))
 show wpAny _ _ (call (.builtin "range.__reversed__") [.ref r]) _ _ _
 refine Ov h0 h1 hr ?_
 first
 |exact wpAny_pure h
 |exact wpAny_bind (wpAny_pure (wpAny_pure h))
theorem TV{r:Addr}{n:Int}{t u v:Tok}{Q:Value->Shared->Prop}(h0:0<=n)(h1:n<=1000000)(hr:IsRange s.heap r 0 n 1 t u v)
  (h:Q (.ref s.heap.objs.size) {s with heap:=s.heap.push (wt n)}):wpAny (model prog w) A (call (.type "reversed") [.ref r]) Q E s:=by
 have hc:codeAny (model prog w) A.in1 (.call (.builtin "reversed.__new__") ⟨.type "reversed"::[.ref r],[]⟩) (wants (fun o z=>o=.ref s.heap.objs.size/\z={s with heap:=s.heap.push (wt n)}) E) s:=TU h0 h1 hr ⟨rfl,rfl⟩
 refine callType_other (U:="range_iterator") (by decide +kernel) PySem.F.create_reversed ⟨_,_,PySem.F.mro_reversed⟩ PySem.F.made_reversed Ou (PySem.F.typeCall_reversed_1 _) hc ?_
 rintro o z ⟨rfl,rfl⟩
 exact⟨⟨_,Heap.get?_push_size _ rfl,rfl⟩,h⟩
theorem Ow{it:Addr}{x left c:Int}{Q:Bool->Shared->Prop}(hit:IsRangeIter s.heap it x left c)(h0:0<=left)(h1:left<=1000000)(h:∀tk,Q false {s with toks:=tk}):wpAny (model prog w) A (Builtin.List.listLengthHint (.ref it)) Q E s:=by
 have hT:s.TypeIs (.ref it) "range_iterator":=⟨_,hit,rfl⟩
 have hcall:∀(Q':Value->Shared->Prop),(∀u tk,Q' (.int left u) {s with toks:=tk})->wpAny (model prog w) A (call (.builtin "range_iterator.__length_hint__") [.ref it]) Q' E s:=fun Q' hq=>by
  refine wpAny_call_entry PySem.F.slot_range_iterator_length_hint hT PySem.F.entry_range_iterator_length_hint ?_ (PySem.F.args_range_iterator_length_hint_1 _)
  obtain⟨hp,g,d,tk,os⟩:=s
  wp_walk using AutoSeq1.wpAny_loadPart' hit
  exact⟨_,rfl,hq _ _⟩
 have VB:Builtin.List.listTooLong left.toNat=false:=by simp[Builtin.List.listTooLong,sizeLine];omega
 unfold Builtin.List.listLengthHint
 refine wpAny_bind (wpAny_specialOf hT PySem.F.nolen_ra (show wpAny _ A (specialOf (Value.ref it) (Str.ofString "__length_hint__")>>=_) _ _ _ from wpAny_bind (wpAny_specialOf hT PySem.F.hint_ra ?_)))
 generalize hid:("range_iterator.__length_hint__":String)=id0
 wp_delta
 rw[show splitId id0=some ("range_iterator","__length_hint__")from by subst hid;decide +kernel]
 subst hid
 refine wpAny_bind (wpAny_isInstance (b:=true) hT (by rw[isSubtype_type];kernel_rfl) ?_)
 refine wpAny_ite_split (fun z=>absurd z (by decide)) fun _=>wpAny_ite_split (fun _=>?_) fun z=>absurd (by decide +kernel) z
 refine wpAny_ite_split (fun _=>?_) fun z=>absurd rfl z
 refine wpAny_bind (hcall _ fun u tk=>wpAny_bind (m:=asInt? (.int left u)) (wpAny_pure ?_))
 dsimp only
 rw[if_neg (by rw[VB];decide)]
 exact wpAny_pure (h tk)
theorem TX{R:Result->Shared->Prop}{it:Addr}{n:Nat}(hh:A.handled=none)(hn:n<=1000000)(hit:IsRangeIter s.heap it ((n:Int)-1) n (-1))(S:Addr)(res:Value)(c₀:Nat)
  (hS:s.heap.get? S=some {cls:=.type "list",data:=.seq #[] c₀})(QJ:S≠it)
  (hR:∀h' tk fg c',(∀b o,b≠S->b≠it->s.heap.get? b=some o->h'.get? b=some o)->h'.get? S=some {cls:=.type "list",dict:=none,data:=.seq fg c',slots:=#[]}->
   ItemsOf (fun i v=>∃t,v=.int ((n:Int)-1+i*(-1)) t) fg n->R (.ok (.ret res)) {s with heap:=h',toks:=tk}):
  wpAny (model prog w) A.in1 (Builtin.List.listExtendWith (.ref S) (.ref it) res)
   (fun fin s'=>match fin with|.done f=>R (.ok f) s'|.again c'=>c'.quiet=true/\codeAny (model prog w) A c' R s') (fun e s'=>R (.error e) s') s:=by
 have hT:s.TypeIs (.ref it) "range_iterator":=⟨_,hit,rfl⟩
 have W:=(Walks.range (prog:=prog) (w:=w) (A:=A.in1) hh it ((n:Int)-1) (-1) n).toS
 have e1:Builtin.List.listSameRef (.ref S) (.ref it)=false:=by simp[Builtin.List.listSameRef,QJ]
 have e2:(Value.type "range_iterator"==Value.type "list")=false:=by decide
 have e3:(Value.type "range_iterator"==Value.type "tuple")=false:=by decide
 have st0:∀tk,IsRangeIter ({s with toks:=tk}:Shared).heap it ((n:Int)-1+((0:Nat):Int)*(-1)) ((n:Int)-((0:Nat):Int)) (-1):=fun tk=>by
  rw[show(n:Int)-1+((0:Nat):Int)*(-1)=(n:Int)-1 by omega,show(n:Int)-((0:Nat):Int)=n by omega]
  exact hit
 unfold Builtin.List.listExtendWith
 refine wpAny_bind (wpAny_typeOf hT ?_)
 simp only [e1,e2,e3,Bool.or_false,false_eq_true,if_false]
 refine wpAny_bind (W.self 0 _ _ _ (st0 s.toks) (wpAny_bind (wpAny_holding (Ow hit 'a' 'a' fun tk=>?_))))
 refine wpAny_ite_split (fun z=>absurd z (by decide)) fun _=>wpAny_pure ⟨plainId_quiet PySem.F.plain_extend_loop _,?_⟩
 refine codeAny_extend_loopS W (le_trans hn (by decide)) S (fun hm=>QJ (mem_singleton.mp hm)) res n 0 _ #[] c₀ rfl (zero_le _) (st0 tk) hS (ItemsOf.nil _) fun s' fg c' hm Oc hacc=>?_
 rw[Moved.eq_with hm]
 exact hR s'.heap s'.toks fg c' (fun b o hb hb2 e=>hm.heap b o (fun hmem=>by
  rcases mem_cons.mp hmem with z|z
  ·exact hb z
  ·exact hb2 (mem_singleton.mp z)) e) Oc hacc
theorem Ox{Q:Value->Shared->Prop}{it:Addr}{n:Nat}(hh:A.handled=none)(hn:n<=1000000)(hit:IsRangeIter s.heap it ((n:Int)-1) n (-1))
  (hQ:∀h' tk fg c',(∀b o,b≠it->s.heap.get? b=some o->h'.get? b=some o)->h'.get? s.heap.objs.size=some {cls:=.type "list",dict:=none,data:=.seq fg c',slots:=#[]}->
   ItemsOf (fun i v=>∃t,v=.int ((n:Int)-1+i*(-1)) t) fg n->Q (.ref s.heap.objs.size) {s with heap:=h',toks:=tk}):wpAny (model prog w) A (call (.type "list") [.ref it]) Q E s:=by
 have hlt:it<s.heap.objs.size:=Heap.lt_size hit
 have hS:(s.heap.push {cls:=.type "list",data:=.seq #[]}).get? s.heap.objs.size=some {cls:=.type "list",data:=.seq #[]}:=Heap.get?_push_size _ rfl
 refine callType_codes (Q₁:=fun o z=>o=.ref s.heap.objs.size/\z={s with heap:=s.heap.push {cls:=.type "list",data:=.seq #[]}}) PySem.F.called_list (PySem.F.typeCall_list_1 _) PySem.F.entry_list_init (code_list_new _ ⟨rfl,rfl⟩) ?_
 rintro o z ⟨rfl,rfl⟩
 refine⟨⟨_,hS,rfl⟩,PySem.F.args_list_init_2 _ _,?_⟩
 show wpAny _ _ (do
  let old<-Builtin.List.listItems (.ref s.heap.objs.size)
  Builtin.List.listUpdate (.ref s.heap.objs.size) (fun _=>#[])
  letGo old.toList.reverse
  Builtin.List.listExtendWith (.ref s.heap.objs.size) (.ref it) .none) _ _ _
 refine wpAny_bind ?_
 unfold Builtin.List.listItems
 refine wpAny_bind (wpAny_seqItems hS rfl (wpAny_pure ?_))
 show wpAny _ _ (do
  updateSeq s.heap.objs.size (fun _=>#[])
  letGo (#[]:Array Value).toList.reverse
  Builtin.List.listExtendWith (.ref s.heap.objs.size) (.ref it) .none) _ _ _
 refine wpAny_bind (wpAny_updateSeq hS rfl (wpAny_bind (wpAny_letGo ?_)))
 have hS2:=Heap.get?_update_self (Obj.mapSeq (fun _=>(#[]:Array Value))) hS rfl
 have oth:∀b o,b≠s.heap.objs.size->s.heap.get? b=some o->((s.heap.push {cls:=.type "list",data:=.seq #[]}).update s.heap.objs.size (Obj.mapSeq (fun _=>(#[]:Array Value)))).get? b=some o:=
  fun b o hb e=>(Heap.get?_update_other _ _ (Ne.symm hb)).trans (Heap.get?_push_of_some _ e)
 refine TX (A:=A.in1) hh hn (oth it _ (ne_of_lt hlt) hit) s.heap.objs.size .none _ hS2 (ne_of_gt hlt) fun h' tk fg c' hk Oc hacc=>⟨rfl,?_⟩
 exact hQ h' tk fg c' (fun b o hb e=>hk b o (ne_of_lt (Heap.lt_size e)) hb (oth b o (ne_of_lt (Heap.lt_size e)) e)) Oc hacc
end
def TY(n:Nat):List D:=(range n).map fun i=>D.int ((n:Int)-1-(i:Nat))
def xV(n:Nat):List V:=(range n).map fun i=>V.int ((n:Int)-1-(i:Nat))
def xW:List D->R (List D)
 |[.int j]=> @ite _ (0<=j/\j<=1000000) (propDecidable _) (.ok (TY j.toNat)) .bad
 |_=>.bad
theorem Oz{K:'b'}{P:Addr->Prop}{H:Hp}(n:Nat):IsL K P H (TY n) (xV n):=by
 unfold TY xV
 induction (range n)with
 |nil=>rfl
 |cons x r ih=>exact⟨_,_,rfl,rfl,ih⟩
theorem HM{acc:List Value}{n:Nat}(h1:acc.length=n)(h2:∀(j:Nat)(v:Value),acc[j]?=some v->∃t,v=.int ((n:Int)-1-(j:Nat)) t):Vals (xV n) acc:=by
 have gen:∀(l:List Value)(k:Nat),(∀(j:Nat)(v:Value),l[j]?=some v->∃t,v=.int ((n:Int)-1-((k+j:Nat):Int)) t)->Vals ((range' k l.length).map fun i=>V.int ((n:Int)-1-(i:Nat))) l:=by
  intro l
  induction l with
  |nil=>intro k _;exact .nil
  |cons x r ih=>
   intro k hk
   rw[length_cons,range'_succ,map_cons]
   obtain⟨t,e⟩:=hk 0 x rfl
   refine .cons ⟨t,e⟩ (ih (k+1) fun j v e=>?_)
   obtain⟨t,e⟩:=hk (j+1) v (by simpa using e)
   exact⟨t,by rw[e,show k+(j+1)=k+1+j by omega]⟩
 have:=gen acc 0 fun j v e=>by rw[zero_add];exact h2 j v e
 rw[h1,<-List.range_eq_range']at this
 exact this
section
variable{X:Cx}{E:Str->Hp->Prop}{pos:Pos}
theorem D8{a:Expr}{p p2 p3 ni HN:Pos}{f:DE->R (List D)}(hc:X.calm=true)(Hw:X.mg "list"=none)(hmv:X.mg "reversed"=none)(Tc:X.mg "range"=none)(ha:PA X [a] (rC X.K E f))(Td:Gl X "list":=by rfl)(hgv:Gl X "reversed":=by rfl)(hgr:Gl X "range":=by rfl)
  (hs:starEach [a] X.env=[(false,eval a X.env)]:=by rfl)(he2:starEach [.Call (.Name "range" p3) [a] [] HN] X.env=(false,eval (.Call (.Name "range" p3) [a] [] HN) X.env)::starEach [] X.env:=by rfl)
  (he:starEach [.Call (.Name "reversed" p2) [.Call (.Name "range" p3) [a] [] HN] [] ni] X.env=(false,eval (.Call (.Name "reversed" p2) [.Call (.Name "range" p3) [a] [] HN] [] ni) X.env)::starEach [] X.env:=by rfl)
  (hpl:(backTo pos (starEach [] X.env)).any (·.1)=false:=by rfl)(Tw:(backTo ni (starEach [] X.env)).any (·.1)=false:=by rfl):
  PE X (.Call (.Name "list" p) [.Call (.Name "reversed" p2) [.Call (.Name "range" p3) [a] [] HN] [] ni] [] pos) (tF X.K E fun env=>(f env).bind xW):=by
 intro pins s σ H Q I ⟨g,env,os,r,m⟩
 refine wpAny_Call_Name_kw (gm I Td Hw lS (PyProof.Rows.callWith_type1 ?_ he hpl))
 rw[he]
 refine Calls.spliced_cons (Call_ (gm I hgv hmv p9 (PyProof.Rows.callWith_type1 ?_ he2 Tw)))
 rw[he2]
 refine Calls.spliced_cons (Call_ (gm I hgr Tc xN (PyProof.Rows.callWith_type1 (cC (ha HN pins s σ H _ I ⟨g,env,os,r,m.bind.mono fun ds _ q vs H1 s1 i1=>(⟨ds,s1,i1,q⟩:∃ds,aN H H1/\IsL X.K Tr H1 ds vs/\Good E g.H₀ (xW ds) _)⟩) fun us s1 ⟨vs,H1,I1,r1,ds,sm,i1,q⟩=>?_) hs rfl)))
 unfold xW at q
 split at q
 ·rename_i j
  split at q
  ·rename_i c
   obtain⟨v,rfl,iv⟩:=IsL.y7 i1
   have Xb:v=.int j:=iv
   subst Xb
   obtain⟨u,rfl,t,rfl⟩:=vals1 r1
   obtain⟨n,rfl⟩:∃n:Nat,j=n:=⟨j.toNat,by omega⟩
   rw[toNat_natCast]at q
   have hd:X.A.handled=none:=I.ok.hd hc
   refine call_range_1 (Calls.spliced_nil ?_)
   generalize hR:({cls:=.type "range",data:=.fields #[.int 0 s1.toks,.int (n:Int) t,.int 1 (s1.toks+1)]}:Obj)=oR
   refine TV (n:=n) 'a' c.2 (show IsRange _ _ 0 (n:Int) 1 s1.toks t (s1.toks+1)from by rw[<-hR];exact IsRange.new ..) (Calls.spliced_nil ?_)
   have k1:∀b o,s1.heap.get? b=some o->((s1.heap.push oR).push (wt n)).get? b=some o:=fun b o e=>Heap.get?_push_of_some _ (Heap.get?_push_of_some _ e)
   have hit:((s1.heap.push oR).push (wt n)).get? (s1.heap.push oR).objs.size=some (wt n):=Heap.get?_push_size _ rfl
   refine Ox (n:=n) hd 'a' (by
    show((s1.heap.push oR).push (wt n)).get? (s1.heap.push oR).objs.size=_
    rw[hit]
    unfold wt
    rw[show 0+((n:Int)-1)*1=(n:Int)-1 by omega]) fun h' tk fg c' hk hl abO=>?_
   obtain⟨hi1,hi2⟩:=abO
   have hv:Vals (xV n) fg.toList:=HM (by simpa using hi1) fun i v e=>by
    obtain⟨t,q⟩:=hi2 i v (by simpa using e)
    exact⟨t,by rw[q];congr 1;omega⟩
   have hlen:(xV n).length<=sizeLine:=by
    unfold xV
    rw[length_map,length_range]
    exact le_trans (show n<=1000000 by omega) (by decide)
   have Sv:∀b o,s1.heap.get? b=some o->h'.get? b=some o:=fun b o e=>hk b o (ne_of_lt (lt_trans (Heap.lt_size e) (by rw[Heap.size_push];exact lt_succ_self _))) (k1 b o e)
   have hsz:s1.heap.objs.size<=((s1.heap.push oR).push (wt n)).objs.size:=by rw[Heap.size_push,Heap.size_push];omega
   have hn1:H1 ((s1.heap.push oR).push (wt n)).objs.size=none:=I1.hok.fresh hsz
   refine⟨.ref _,upd H1 _ (.lst (xV n)),I1.laid (a:=((s1.heap.push oR).push (wt n)).objs.size) (t':=tk) Sv hsz ⟨hlen,fg.toList,c',hv,by simpa using hl⟩,rfl,?_⟩
   exact q _ _ _ (sm.trans (aM hn1 _)) (sm.free hn1) ak (Oz n)
  ·exact q.elim
 ·exact q.elim
end
def AV(i:Nat)(env:DE)(d:D)(xs:List D):D->R DE
 |.int j=>(match pV xs.length j with
  |some n=>.ok (env.set i (.own (xs.set n d)))
  |none=>.bad)
 |_=>.bad
def AW:D->R (D×D)
 |.tup [a,b]=>.ok (a,b)
 |_=>.bad
section
variable{X:Cx}{E:Str->Hp->Prop}{pos:Pos}
theorem Good.AW {H₀:Hp}{d:D}{p:D×D->Prop}(h:Good E H₀ (DL.AW d) p):∃a b,d=.tup [a,b]/\p (a,b):=by
 unfold DL.AW at h
 split at h
 ·exact⟨_,_,rfl,h⟩
 ·exact h.elim
theorem Good.AV {H₀:Hp}{i:Nat}{env:DE}{d:D}{xs:List D}{k:D}{p:DE->Prop}(h:Good E H₀ (DL.AV i env d xs k) p):∃j n,k=.int j/\pV xs.length j=some n/\p (env.set i (.own (xs.set n d))):=by
 unfold DL.AV at h
 split at h
 ·split at h
  ·rename_i e
   exact⟨_,_,rfl,e,h⟩
  ·exact h.elim
 ·exact h.elim
theorem Good.sy {H₀:Hp}{i:Nat}{env:DE}{d:D}{xs:List D}{k:D}{p:Out->Prop}(h:Good E H₀ (DL.sy i env d xs k) p):∃j n,k=.int j/\pV xs.length j=some n/\p (.nx (env.set i (.own (xs.set n d)))):=by
 unfold DL.sy at h
 split at h
 ·split at h
  ·rename_i e
   exact⟨_,_,rfl,e,h⟩
  ·exact h.elim
 ·exact h.elim
theorem Ext.mut {g:Gh}{H:Hp}{os:List Addr}{a:Addr}{o:HO}(ha:a∈os):Ext (g.P os) (g.P os) H (upd H a o):=
 ⟨fun _ _ p _=>p,fun b _ p h=>by rw[aj (fun z=>p.2 (by rw[z];exact ha))];exact h⟩
theorem KJ(i:Nat){x:Str}{ek el e:Expr}{fk fl f:DE->R D}{p p' tp HP pt:Pos}{kt}(hc:X.calm=true)(hk:PE X ek (tB X.K E fk))(hl:PE X el (tB X.K E fl))(he:PE X e (tD X.K E f))(hN:X.N[i]?=some x:=by rfl)
  (hv:yT X.env.scope x:=by first|exact Or.inl rfl|exact Or.inr (Or.inl rfl)|exact Or.inr (Or.inr rfl))(hd:(x==("__debug__":Str))=false:=by decide)
  (hcd:(x==("__classdict__":Str))=false:=by decide)
  (ha:∀v,assign (.Subscript (.Name x p) ek tp) X.env v=(do
   let ov<-holding [v] (eval (.Name x p) X.env)
   let iv<-holding [v,ov] (eval ek X.env)
   standAt tp
   holding [v,ov,iv] (setItem ov iv v)
   release [v,ov,iv] []):=by intro _;rfl)
  (ha':∀v,assign (.Subscript (.Name x p') el HP) X.env v=(do
   let ov<-holding [v] (eval (.Name x p') X.env)
   let iv<-holding [v,ov] (eval el X.env)
   standAt HP
   holding [v,ov,iv] (setItem ov iv v)
   release [v,ov,iv] []):=by intro _;rfl)
  (e1:(assignEach [.Subscript (.Name x p) ek tp,.Subscript (.Name x p') el HP] X.env).map (·.2)=assign (.Subscript (.Name x p) ek tp) X.env::(assignEach [.Subscript (.Name x p') el HP] X.env).map (·.2):=by rfl)
  (e2:(assignEach [.Subscript (.Name x p') el HP] X.env).map (·.2)=assign (.Subscript (.Name x p') el HP) X.env::(assignEach [] X.env).map (·.2):=by rfl)
  (hn:(assignEach [.Subscript (.Name x p) ek tp,.Subscript (.Name x p') el HP] X.env).length=2:=by rfl)(hst:(assignEach [.Subscript (.Name x p) ek tp,.Subscript (.Name x p') el HP] X.env).findIdx? (·.1)=none:=by rfl)
  (hs:swapsWithSole [.Tuple [.Subscript (.Name x p) ek tp,.Subscript (.Name x p') el HP] kt pt] e pos.line X.env=pure false:=by rfl)(hw:swappedStores [.Tuple [.Subscript (.Name x p) ek tp,.Subscript (.Name x p') el HP] kt pt] e X.env=pure none:=by rfl)
  (h1:(assignEach [.Tuple [.Subscript (.Name x p) ek tp,.Subscript (.Name x p') el HP] kt pt] X.env).map (·.2)=[assign (.Tuple [.Subscript (.Name x p) ek tp,.Subscript (.Name x p') el HP] kt pt) X.env]:=by rfl):
  PS X (.Assign [.Tuple [.Subscript (.Name x p) ek tp,.Subscript (.Name x p') el HP] kt pt] e pos) (tS X.K E fun env=>(f env).bind fun d=>(AW d).bind fun q=>(ownAt i env).bind fun xs=>(fk env).bind fun kd=>(AV i env q.1 xs kd).bind fun TZ=>(ownAt i TZ).bind fun ys=>(fl TZ).bind fun ld=>sy i TZ q.2 ys ld):=
 lJ (Ar he (Jg hc (xt (xu (gM hN hv hd hcd) hk set_list ha) (xt (xu (gM hN hv hd hcd) hl set_list ha') E3 e2) e1) hn hst) hs hw h1) fun De σ H ⟨g,env,os,r,m⟩=>⟨g,env,os,r,m.bind.mono fun d _ m1 v H1 s1 i1=>by
  obtain⟨d1,d2,rfl,m2⟩:=m1.bind.AW
  obtain⟨t,vs,rfl,t1,t2⟩:=i1
  obtain⟨v1,v2,rfl,w1,w2⟩:=IsL.NW t2
  refine⟨t,[v1,v2],rfl,t1.sq,rfl,v1,[v2],rfl,?_⟩
  obtain⟨xs,ex,m3⟩:=m2.bind.own
  obtain⟨a,us,q1,q2,q3,q4⟩:=(r.same s1).own i xs ex
  refine⟨.ref a,q1,g,env,os,r.same s1,m3.bind.mono fun kd _ m4 w H2 s2 i2=>?_⟩
  obtain⟨j,n,rfl,ej,m5⟩:=m4.bind.AV
  have r2:=(r.same (s1.trans s2)).mut ex q1 q2 ((q4.same s2).set n (w1.same s2))
  have w2':=Is.ext (Ext.mut (g:=g) (H:=H2) (o:=.lst (us.set n v1)) q2) _ _ (w2.same s2)
  refine⟨a,us,j,n,rfl,i2,s2 _ _ q3,by rw[q4.length];exact ej,v2,[],rfl,?_⟩
  obtain⟨ys,ey,m6⟩:=m5.bind.own
  obtain⟨b,us2,p1,p2,p3,p4⟩:=r2.own i ys ey
  refine⟨.ref b,p1,g,_,os,r2,m6.bind.mono fun ld _ m7 w' H3 s3 i3=>?_⟩
  obtain⟨j',n',rfl,ej',m8⟩:=m7.sy
  refine⟨b,us2,j',n',rfl,i3,s3 _ _ p3,by rw[p4.length];exact ej',rfl,?_⟩
  exact m8 σ _ os ((r2.same s3).mut ey p1 p2 ((p4.same s3).set n' (w2'.same s3))) ((rD.same (s1.trans s2) os).trans ((rD.mut q2).trans ((rD.same s3 os).trans (.mut p2))))⟩
theorem XQ(i j:Nat){x y:Str}{a b:Expr}{f:DE->R D}{fy:DE->R (List D)}{px py pt:Pos}{kt k2 RT}(hc:X.calm=true)(hN:X.N.Nodup)(ha:PE X a (tD X.K E f))(hb:PE X b (tF X.K E fy))(hi:X.N[i]?=some x:=by rfl)(hj:X.N[j]?=some y:=by rfl)(hij:i≠j:=by decide)
  (hx:X.env.scope.names.lookup x=some .local:=by rfl)(hy:X.env.scope.names.lookup y=some .local:=by rfl)
  (e1:starEach [a,b] X.env=(false,eval a X.env)::starEach [b] X.env:=by rfl)(e2:starEach [b] X.env=(false,eval b X.env)::starEach [] X.env:=by rfl)
  (hw:swappedStores [.Tuple [.Name x px,.Name y py] kt pt] (.Tuple [a,b] k2 RT) X.env=pure (some [x,y]):=by rfl)
  (hs:swapsWithSole [.Tuple [.Name x px,.Name y py] kt pt] (.Tuple [a,b] k2 RT) pos.line X.env=pure false:=by rfl):
  PS X (.Assign [.Tuple [.Name x px,.Name y py] kt pt] (.Tuple [a,b] k2 RT) pos) (tS X.K E fun env=>(f env).bind fun d=>(fy env).bind fun ys=>.ok (.nx ((env.set i (.val d)).set j (.own ys)))):=
 lJ (RQ hc hN hi hj hij hx hy (ao ha (ao hb aL e2) e1) hw hs) fun De σ H ⟨g,env,os,r,m⟩=>⟨g,env,os,r,m.bind.mono fun d _ m1 v H1 s1 i1=>⟨g,env,os,r.same s1,m1.bind.mono fun ys _ q c vs H2 s2 hn hH h=>by
  refine⟨v,.ref c,rfl,?_⟩
  exact q _ H2 (c::os) (((r.same s1).set i i1).Sx s2 j hn hH h) ((rD.same s1 os).trans (.new s2 hn))⟩⟩
end
def xX(env:DE):R Out:=
 ((((((((aP 0 env>=>fun gf=>R.ok (D.int 1000003)>=>fun jV=>R.of (ki gf jV))>=>fun jW=>R.ok (D.int 7)>=>fun iA=>R.of (Hu jW iA))>=>fun v10=>(aP 1 env>=>fun kc=>aP 1 env>=>fun kj=>R.of (Hu kc kj))>=>fun v11=>R.of (gZ v10 v11))>=>fun v8=>R.ok (D.int 1)>=>fun v9=>R.of (gZ v8 v9))>=>fun v6=>aP 2 env>=>fun v7=>R.of (Hu v6 v7))>=>fun v4=>R.ok (D.int 2147483647)>=>fun v5=>R.of (ki v4 v5))>=>fun v2=>R.ok (D.int 16)>=>fun v3=>R.of (uE v2 v3))>=>fun v1=>R.ok (Out.rt v1))
def cM:=mS 3 3 xX
def qe(env:DE):R Out:=
 (aT (((aP 1 env>=>fun v4=>R.ok (D.int 1)>=>fun v5=>R.of (sJ v4 v5)>=>dX)>=>fun v3=>if v3=true then((aP 0 env>=>fun v8=>R.ok (D.int 13)>=>fun v9=>R.of (ki v8 v9))>=>fun v6=>R.ok (D.int 5)>=>fun v7=>R.of (sJ v6 v7)>=>dX)else R.ok false)>=>fun v2=>if v2=true then(R.ok (D.int 1)>=>fun v10=>R.ok (Out.rt v10))else(R.ok (Out.nx env))) fun v1=>
 (aT (((R.ok (D.int 2)>=>fun gf=>(aP 1 v1>=>fun kc=>R.ok []>=>fun kj=>R.ok (kc::kj))>=>fun jV=>R.ok (gf::jV))>=>fun iA=>R.of (Fp iA))>=>fun jW=>R.ok (Out.nx (List.set v1 1 (Sl.val jW)))) fun v11=>
 ((aP 1 v11>=>fun nj=>((aP 0 v11>=>fun qg=>R.ok (D.int 13)>=>fun rJ=>R.of (uE qg rJ))>=>fun qU=>((aP 2 v11>=>fun wu=>aP 1 v11>=>fun zR=>R.of (gp wu zR))>=>fun tJ=>R.ok (D.int 1)>=>fun vQ=>R.of (gZ tJ vQ))>=>fun kI=>R.of (ki qU kI))>=>fun v20=>R.of (gZ nj v20))>=>fun kJ=>R.ok (Out.rt kJ))))
def fG:=mS 3 3 qe
def pB(env:DE):R Out:=
 (aT ((R.ok (D.int 1)>=>fun v3=>(aP 0 env>=>fun v5=>(aP 1 env>=>fun v7=>R.ok (D.int 1)>=>fun v8=>R.of (gp v7 v8))>=>fun v6=>R.of (ki v5 v6))>=>fun v4=>R.of (gZ v3 v4))>=>fun v2=>R.ok (Out.nx (List.set env 2 (Sl.val v2)))) fun v1=>
 (aT ((((aP 0 v1>=>fun jV=>R.ok (D.int 8)>=>fun kc=>R.of (uE jV kc))>=>fun iA=>R.ok (D.int 2)>=>fun gf=>R.of (ki iA gf))>=>fun v11=>R.ok (D.int 1)>=>fun jW=>R.of (sJ v11 jW)>=>dX)>=>fun v10=>if v10=true then((aP 2 v1>=>fun kJ=>R.of (pY kJ))>=>fun kj=>R.ok (Out.rt kj))else(R.ok (Out.nx v1))) fun v9=>
 (bM 2 v9>=>fun nj=>R.ok (Out.rt nj))))
def ee:=mS 2 3 pB
def tK(env:DE):R Out:=
 (aT (((aP 0 env>=>fun v3=>(aP 1 env>=>fun v5=>R.ok []>=>fun v6=>R.ok (v5::v6))>=>fun v4=>R.ok (v3::v4))>=>ee)>=>fun v2=>R.ok (Out.nx (List.set env 2 (Sl.val v2)))) fun v1=>
 (aT (((((aP 0 v1>=>fun gf=>R.ok (D.int 16)>=>fun jV=>R.of (uE gf jV))>=>fun jW=>R.ok (D.int 4)>=>fun iA=>R.of (ki jW iA))>=>fun v10=>R.ok (D.int 0)>=>fun v11=>R.of (Dj v10 v11)>=>dX)>=>fun v9=>if v9=true then R.ok true else(aP 1 v1>=>fun kc=>R.ok (D.int 3)>=>fun kj=>R.of (MZ kc kj)>=>dX))>=>fun v8=>if v8=true then((((bM 2 v1>=>fun v20=>R.ok []>=>fun qU=>R.ok (v20::qU))>=>fit)>=>fun nj=>R.ok (D.lst nj))>=>fun kJ=>R.ok (Out.rt kJ))else(R.ok (Out.nx v1))) fun v7=>
 (aT (((((((aP 2 v7>=>fun FU=>R.ok (D.int 1)>=>fun D9=>R.of (gZ FU D9))>=>fun Cb=>R.ok []>=>fun v30=>R.ok (Cb::v30))>=>fun zR=>R.of (JL zR))>=>fun vQ=>aP 1 v7>=>fun wu=>R.of (MZ vQ wu)>=>dX)>=>fun tJ=>if tJ=true then((aP 2 v7>=>fun Cd=>R.ok (D.int 1)>=>fun uR=>R.of (gZ Cd uR))>=>fun HQ=>R.ok (D.int 0)>=>fun HR=>R.of (xM HQ HR)>=>dX)else R.ok false)>=>fun rJ=>if rJ=true then(aP 2 v7>=>fun yV=>R.ok (D.int 1)>=>fun Bu=>R.of (gZ yV Bu))else(aP 2 v7>=>fun Ea=>R.ok (D.int 1)>=>fun FW=>R.of (gp Ea FW)))>=>fun qg=>R.ok (Out.nx (List.set v7 3 (Sl.val qg)))) fun kI=>
 (((((((bM 2 kI>=>fun Eb=>(bM 3 kI>=>fun Ec=>(bM 2 kI>=>fun Ce=>R.ok []>=>fun Dm=>R.ok (Ce::Dm))>=>fun Ed=>R.ok (Ec::Ed))>=>fun Ef=>R.ok (Eb::Ef))>=>fit)>=>fun Bv=>R.ok (D.lst Bv))>=>fun Dq=>((((bM 2 kI>=>fun KN=>(bM 3 kI>=>fun OA=>R.ok []>=>fun KO=>R.ok (OA::KO))>=>fun HS=>R.ok (KN::HS))>=>fit)>=>fun HU=>R.ok (D.lst HU))>=>fun Dr=>((((bM 2 kI>=>fun KP=>(bM 2 kI>=>fun KQ=>R.ok []>=>fun KR=>R.ok (KQ::KR))>=>fun KS=>R.ok (KP::KS))>=>fit)>=>fun KU=>R.ok (D.lst KU))>=>fun KW=>((((bM 2 kI>=>fun KY=>((aP 3 kI>=>fun KZ=>R.of (pY KZ))>=>fun K0=>(bM 2 kI>=>fun OB=>R.ok []>=>fun Na=>R.ok (OB::Na))>=>fun FY=>R.ok (K0::FY))>=>fun IY=>R.ok (KY::IY))>=>fit)>=>fun K1=>R.ok (D.lst K1))>=>fun K2=>R.ok []>=>fun K3=>R.ok (K2::K3))>=>fun Ds=>R.ok (KW::Ds))>=>fun K4=>R.ok (Dr::K4))>=>fun Eg=>R.ok (Dq::Eg))>=>fit)>=>fun Bw=>((aP 0 kI>=>fun OC=>R.ok (D.int 64)>=>fun HV=>R.of (uE OC HV))>=>fun OD=>R.ok (D.int 4)>=>fun OE=>R.of (ki OD OE))>=>fun zd=>uG Bw zd)>=>fun Eh=>R.ok (Out.rt Eh)))))
def iH:=mD 2 4 tK
def jX(d:D)(env:DE):R Out:=
 (bT 2 (lT (bN 4) (lT (bN 5) AH))) d env>=>fun v8=>
  ((aP 1 v8>=>fun v10=>R.ok (D.int 1)>=>fun v11=>R.of (Dj v10 v11)>=>dX)>=>fun v9=>if v9=true then(((j9 3 v8>=>fun gf=>(((((aP 5 v8>=>fun kJ=>(aP 4 v8>=>fun v20=>(R.ok (D.int 48271)>=>fun kI=>R.ok []>=>fun qg=>R.ok (kI::qg))>=>fun qU=>R.ok (v20::qU))>=>fun nj=>R.ok (kJ::nj))>=>cM)>=>fun kc=>(bM 1 v8>=>fun rJ=>R.ok []>=>fun tJ=>R.ok (rJ::tJ))>=>fun kj=>R.ok (kc::kj))>=>iH)>=>vL)>=>fun jV=>fit (gf++jV))>=>fun iA=>R.ok (D.lst iA))>=>fun jW=>R.ok (Out.nx (List.set v8 3 (Sl.val jW))))else(R.ok (Out.nx v8)))
def tM(env:DE):R Out:=
 (aT (((R.ok []>=>fit)>=>fun v3=>R.ok (D.lst v3))>=>fun v2=>R.ok (Out.nx (List.set env 3 (Sl.val v2)))) fun v1=>
 (aT ((bM 0 v1>=>fun vQ=>vL vQ>=>fun xs=>R.ok (fE xs))>=>fun v5=>cW jX v5 v1) fun v4=>
 ((j9 3 v4>=>fun zR=>R.ok none>=>fun Cb=>(aP 2 v4>=>Fl)>=>fun v30=>R.ok (cut zR Cb v30))>=>fun wu=>R.ok (Out.pX wu))))
def iI:=eI 3 6 tM
def uS(c k f:Int):Int:=(c%1000003*7+k*k+1)*f%2147483647/16
theorem AX(c k f:Int)(hk:0<=k/\k<1000000)(hf:0<=f/\f<2147483647):cM [.int c,.int k,.int f]=.ok (.int (uS c k f)):=by
 have h1:=emod_nonneg c (show(1000003:Int)≠0 by decide)
 have h2:=emod_lt_of_pos c (show(0:Int)<1000003 by decide)
 unfold cM xX
 simp_all
 rw[dF c 1000003 (by decide)]
 simp_all only [R.lQ,R.bF]
 rw[D0 _ 7 (.inr (by decide))]
 simp_all only [R.lQ,R.bF]
 rw[D0 k k (.inl 'a')]
 simp_all only [R.lQ,R.bF,AG]
 rw[D0 _ f (.inr 'a')]
 simp_all only [R.lQ,R.bF]
 rw[dF _ 2147483647 (by decide)]
 simp_all only [R.lQ,R.bF]
 rw[mC _ 16 (by decide)]
 rfl
theorem Ei(c k f:Int):0<=uS c k f:=by
 unfold uS
 have h1:=emod_nonneg ((c%1000003*7+k*k+1)*f) (show(2147483647:Int)≠0 by decide)
 exact Int.ediv_nonneg h1 (by decide)
def nk(s:Int):Int:=if s%13=5 then 1 else 2+s/13%6
theorem Ej(s:Int):fG [.int s,.int 1,.int 7]=.ok (.int (nk s)):=by
 unfold fG qe nk
 simp_all
 rw[dF s 13 (by decide)]
 dsimp [beq_self_eq_true]
 by_cases h:s%13=5
 ·simp_all only [h,beq_self_eq_true,reduceIte,ah,ai,aC,aD,aE,aF]
 ·have h':(s%13==5)=false:=beq_false_of_ne h
  simp_all only [h',h,reduceIte,ah,ai,aC,aD,aE,aF]
  rw[mC s 13 (by decide)]
  dsimp
  rw[dF _ _ (by decide)]
  rfl
theorem Cf(s:Int):1<=nk s/\nk s<=7:=by
 unfold nk
 split<;>omega
def eJ(x n:Int):Int:=if x/8%2=1 then-(1+x%(n-1))else 1+x%(n-1)
theorem K5(x n:Int)(h:2<=n):ee [.int x,.int n]=.ok (.int (eJ x n)):=by
 unfold ee pB eJ
 simp_all
 rw[dF x (n-1) 'a']
 dsimp
 rw[mC x 8 (by decide)]
 dsimp
 rw[dF _ 2 (by decide)]
 dsimp
 by_cases hc:x/8%2=1
 ·simp_all only [hc,beq_self_eq_true,reduceIte,ah,ai,aC,aD,aE,aF]
 ·have Ja:(x/8%2==1)=false:=beq_false_of_ne hc
  simp_all only [hc,Ja,reduceIte,ah,ai,aC,aD,aE,aF]
def xY(n k:Int):Prop:=k≠0/\ -n<k/\k<n
theorem K6(x n:Int)(h:2<=n):xY n (eJ x n):=by
 unfold eJ xY
 have h1:=emod_nonneg x (show n-1≠0 by omega)
 have h2:=emod_lt_of_pos x (show 0<n-1 by omega)
 split<;>omega
def uT(k n:Int):Int:=if(if k+1<0 then-(k+1)else k+1)<n/\k+1≠0 then k+1 else k-1
def qh(x n:Int):List Int:=
 if x/16%4>0\/n<3 then[eJ x n]else
  let k:=eJ x n
  let o:=uT k n
  if x/64%4=0 then[k,o,k]else if x/64%4=1 then[k,o]else if x/64%4=2 then[k,k]else[k,-o,k]
theorem K7{k n:Int}(h:3<=n)(hk:xY n k):xY n (uT k n):=by
 unfold uT xY at*
 split<;>split at* <;>omega
theorem K8{x n:Int}(h:2<=n):∀k∈qh x n,xY n k:=by
 have h1:=K6 x n h
 unfold qh
 split
 ·simp[h1]
 ·rename_i hc
  have h2:=K7 (n:=n) 'a' h1
  have h3:xY n (-uT (eJ x n) n):=by unfold xY at*;omega
  dsimp only
  split
  ·simp[h1,h2]
  ·split
   ·simp[h1,h2]
   ·split<;>simp[h1,h3]
theorem zS(x n:Int):(qh x n).length<=3:=by
 unfold qh
 split
 ·simp
 ·dsimp only
  split
  ·simp
  ·split
   ·simp
   ·split<;>simp
theorem K9(x n:Int)(h:2<=n):iH [.int x,.int n]=.ok (.lst (aI (qh x n))):=by
 unfold iH tK qh
 simp_all
 rw[K5 x n h]
 dsimp
 rw[mC x 16 (by decide)]
 dsimp
 rw[dF _ 4 (by decide)]
 dsimp
 by_cases h1:0<x/16%4
 ·have TR:x/16%4>0\/n<3:=.inl h1
  rw[if_pos TR]
  simp_all only [h1,decide_true,reduceIte,ah,ai,aC,aD,aE,aF]
  rfl
 ·by_cases h2:n<3
  ·have TR:x/16%4>0\/n<3:=.inr h2
   rw[if_pos TR]
   simp_all only [h1,h2,decide_true,decide_false,reduceIte,ah,ai,aC,aD,aE,aF]
   rfl
  ·have TR:¬(x/16%4>0\/n<3):=by omega
   rw[if_neg TR]
   simp_all only [h1,h2,decide_false,reduceIte,ah,ai,aC,aD,aE,aF]
   have ho:((if decide ((if eJ x n+1<0 then-(eJ x n+1)else eJ x n+1)<n)=true then R.ok (!(eJ x n+1==0))else R.ok false)>=>fun t=>if t=true then R.ok (D.int (eJ x n+1))else R.ok (D.int (eJ x n-1)))=R.ok (D.int (uT (eJ x n) n)):=by
    unfold uT
    by_cases c1:(if eJ x n+1<0 then-(eJ x n+1)else eJ x n+1)<n
    ·by_cases c2:eJ x n+1=0
     ·simp[c1,c2,R.bF]
     ·simp[c1,c2,R.bF]
    ·simp[c1,R.bF]
   rw[ho]
   dsimp
   rw[mC x 64 (by decide)]
   dsimp
   rw[dF _ 4 (by decide)]
   dsimp
   have h5:=emod_nonneg (x/64) (show(4:Int)≠0 by decide)
   have h6:=emod_lt_of_pos (x/64) (show(0:Int)<4 by decide)
   have h7:x/64%4=0\/x/64%4=1\/x/64%4=2\/x/64%4=3:=by omega
   rcases h7 with q|q|q|q<;>simp[q,L2.iC,L2.pV,R.lQ,R.bF,R.JR,ah,aI]
def oy(n:Int)(cells:List Int)(i:Nat):List Int:=((range i).map fun k=>match cells[k]? with
 |some c=>qh (uS c k 48271) n
 |none=>[]).flatten
theorem La{n:Int}{cells:List Int}{i:Nat}{c:Int}(h:cells[i]?=some c):oy n cells (i+1)=oy n cells i++qh (uS c i 48271) n:=by
 unfold oy
 rw[range_succ,map_append,flatten_append]
 simp[h]
theorem FZ(n:Int)(cells:List Int):∀i:Nat,(oy n cells i).length<=3*i
 |0=>by simp[oy]
 |i+1=>by
  unfold oy
  rw[range_succ,map_append,flatten_append,length_append]
  have ih:=FZ n cells i
  unfold oy at ih
  cases h:cells[i]? with
  |none=>simp_all only [h,map_cons,map_nil,flatten_cons,List.flatten_nil,length_append,length_nil];omega
  |some c=>
   have:=zS (uS c i 48271) n
   simp_all only [h,map_cons,map_nil,flatten_cons,List.flatten_nil,length_append,length_nil];omega
theorem T3{n:Int}(hn:2<=n)(cells:List Int)(i:Nat):∀k∈oy n cells i,xY n k:=by
 intro k hk
 unfold oy at hk
 rw[List.mem_flatten]at hk
 obtain⟨l,hl,hk⟩:=hk
 rw[mem_map]at hl
 obtain⟨j,_,rfl⟩:=hl
 cases h:cells[j]? with
 |none=>rw[h]at hk;cases hk
 |some c=>rw[h]at hk;exact K8 hn k hk
def AY(cells:List Int)(n most:Int):List Int:=(if 1<n then oy n cells cells.length else[]).take most.toNat
theorem Lb{cells:List Int}{n most:Int}:∀k∈AY cells n most,xY n k:=by
 intro k hk
 unfold AY at hk
 have:=mem_of_mem_take hk
 split at this
 ·exact T3 'a' _ _ k this
 ·cases this
theorem Lc(cells:List Int)(n most:Int)(hc:cells.length<=1000)(hn:1<=n)(hm:0<=most):iI [.lst (aI cells),.int n,.int most]=.ok (aI (AY cells n most)):=by
 unfold iI tM
 simp_all
 obtain⟨s',e,hj⟩:=sj (S:=List Int×Sl×Sl) (b:=jX)
  (fun i s=>s.1=if 1<n then oy n cells i else[]) (fun s=>[.val (.lst (aI cells)),.val (.int n),.val (.int most),.val (.lst (aI s.1)),s.2.1,s.2.2]) (fE (aI cells)) 0 ([],.no,.no) (by simp[oy]) (by
   rintro j ⟨wd,s4,s5⟩ x hs hx
   obtain⟨c,hcj,rfl⟩:=zM hx
   have hj:j<cells.length:=(List.getElem?_eq_some_iff.mp hcj).1
   rw[zero_add]at hs⊢
   have IW:wd=if 1<n then oy n cells j else[]:=hs
   unfold jX
   simp_all only [bT2,reduceIte,ah,ai,aC,aD,aE,aF]
   by_cases h1:1<n
   ·rw[if_pos h1]at IW
    subst IW
    have hl:=FZ n cells j
    have hl2:=zS (uS c j 48271) n
    refine⟨(oy n cells (j+1),.val (.int (j:Nat)),.val (.int c)),?_,by simp[h1]⟩
    simp_all only [h1,decide_true,reduceIte,ah,ai,aC,aD,aE,aF]
    rw[AX c j 48271 'a' (by decide)]
    dsimp
    rw[K9 _ n 'a']
    dsimp [AJ]
    rw[dg (by rw[length_append];omega)]
    dsimp [La hcj]
   ·rw[if_neg h1]at IW
    subst IW
    exact⟨([],.val (.int (j:Nat)),.val (.int c)),by simp_all only [h1,decide_false,reduceIte,ah,ai,aC,aD,aE,aF],by simp[h1]⟩)
 obtain⟨wd,s4,s5⟩:=s'
 have Bx:wd=if 1<n then oy n cells (0+(fE (aI cells)).length)else[]:=hj
 have he:(fE (aI cells)).length=cells.length:=by rw[HC,bf]
 rw[zero_add,he]at Bx
 rw[show aI []=[]from rfl]at e
 rw[e]
 dsimp [qR]
 rw[AK _ _ hm,jM]
 dsimp [Bx]
 rfl
theorem AZ{w:List Int}{j:Nat}{x:D}(h:(aI w)[j]?=some x):∃k,w[j]?=some k/\x=.int k:=by
 rw[Oa]at h
 cases q:w[j]? with
 |none=>rw[q]at h;cases h
 |some k=>rw[q]at h;cases h;exact⟨k,rfl,rfl⟩
theorem Cg{α:Type}{w:List α}{j:Nat}{k:α}(h:w[j]?=some k):w.take (j+1)=w.take j++[k]:=by
 rw[take_succ,h];rfl
theorem XR{K:'b'}{H:Hp}{a:Addr}{m:List D->R D}{ns:List Int}(h:m [.lst (aI ns)]=.ok (.bl true))(hS:cV K H a (ns.map V.int)):Fq K IU m [.ref a] H (fun v _=>v=.bl true) fun _ _ _=>False:=by
 refine⟨Tr,[.lst (aI ns)],IsL.one ⟨a,_,rfl,wm.any hS,?_⟩,?_⟩
 ·clear h hS
  induction ns with
  |nil=>rfl
  |cons x r ih=>exact⟨_,_,rfl,rfl,ih⟩
 ·rw[h]
  intro v H' _ i
  exact i
def Ci(env:DE):R Bool:=
 R.ok true
def Cj(env:DE):R D:=
 (aP 0 env>=>fun v6=>R.of (pY v6))
def Ck(env:DE):R Out:=
 (((bM 0 env>=>fun v7=>vL v7>=>fun xs=>R.ok (reverse xs))>=>fun v2=>eZ env []>=>fun v3=>R.ne (cG (bN 0) Ci Cj (jf 1 v3) v2)>=>fit)>=>fun v1=>R.ok (Out.pX v1))
def qi:=eI 1 1 Ck
def oA(d:D)(env:DE):R Out:=
 (bN 2) d env>=>fun v7=>
  (((((aP 1 v7>=>fun iA=>R.ok []>=>fun gf=>R.ok (iA::gf))>=>fun jW=>R.of (lL jW))>=>fun v10=>R.ok (D.int 0)>=>fun v11=>R.of (Dj v10 v11)>=>dX)>=>fun v9=>if v9=true then((j9 1 v7>=>fun kj=>(R.ok (D.int 1)>=>fun nj=>R.of (pY nj))>=>fun kJ=>uG kj kJ)>=>fun jV=>(aP 2 v7>=>fun v20=>R.of (pY v20))>=>fun kc=>R.of (sJ jV kc)>=>dX)else R.ok false)>=>fun v8=>if v8=true then(ownAt 1 v7>=>fun qU=>Th 1 v7 qU)else(ownAt 1 v7>=>fun kI=>bM 2 v7>=>fun qg=>Tg 1 v7 kI qg))
def zT(env:DE):R Out:=
 (aT ((R.ok []>=>fit)>=>fun v2=>R.ok (Out.nx (List.set env 1 (Sl.own v2)))) fun v1=>
 (aT ((bM 0 v1>=>vL)>=>fun v4=>cW oA v4 v1) fun v3=>
 (ownAt 1 v3>=>fun rJ=>R.ok (Out.pX rJ))))
def nq:=eI 1 3 zT
def xZ(env:DE):R Out:=
 (((aP 0 env>=>fun v2=>R.ok []>=>fun v3=>R.ok (v2::v3))>=>iG)>=>fun v1=>R.ok (Out.pX v1))
def bG:=eI 1 1 xZ
def Ld(env:DE):R Out:=
 ((((aP 0 env>=>fun v4=>R.ok (D.int 1)>=>fun v5=>R.of (gp v4 v5))>=>fun v2=>((R.ok (D.int 1)>=>fun v8=>R.of (pY v8))>=>fun v6=>((R.ok (D.int 1)>=>fun v11=>R.of (pY v11))>=>fun v9=>R.ok []>=>fun v10=>R.ok (v9::v10))>=>fun v7=>R.ok (v6::v7))>=>fun v3=>R.ok (v2::v3))>=>KG)>=>fun v1=>R.ok (Out.pX v1))
def sE:=eI 1 1 Ld
def kT(d:D)(env:DE):R Out:=
 (bT 2 (lT (bN 2) (lT (bN 3) AH))) d env>=>fun gf=>
  (bM 2 gf>=>fun jV=>ownAt 1 gf>=>fun kc=>aP 3 gf>=>fun kj=>sy 1 gf jV kc kj)
def vR(env:DE):R Out:=
 (aT ((((R.ok (D.int 0)>=>fun v5=>R.ok []>=>fun v6=>R.ok (v5::v6))>=>fit)>=>fun v3=>((aP 0 env>=>fun v8=>R.ok []>=>fun v9=>R.ok (v8::v9))>=>fun v7=>R.of (lL v7))>=>fun v4=>N6 v3 v4)>=>fun v2=>R.ok (Out.nx (List.set env 1 (Sl.own v2)))) fun v1=>
 (aT ((bM 0 v1>=>fun kJ=>vL kJ>=>fun xs=>R.ok (fE xs))>=>fun v11=>cW kT v11 v1) fun v10=>
 (ownAt 1 v10>=>fun nj=>R.ok (Out.pX nj))))
def cK:=eI 1 4 vR
def x8(env:DE):R Bool:=
 ((j9 1 env>=>fun v8=>(aP 0 env>=>fun v10=>R.ok (D.int 1)>=>fun v11=>R.of (gp v10 v11))>=>fun v9=>uG v8 v9)>=>fun v6=>(j9 1 env>=>fun jW=>aP 0 env>=>fun iA=>uG jW iA)>=>fun v7=>R.of (Dj v6 v7)>=>dX)
def x9(env:DE):R D:=
 (bM 0 env)
def F0(env:DE):R Out:=
 ((((R.ok (D.int 1)>=>fun gf=>(((aP 0 env>=>fun nj=>R.ok []>=>fun v20=>R.ok (nj::v20))>=>fun kJ=>R.of (lL kJ))>=>fun kc=>R.ok []>=>fun kj=>R.ok (kc::kj))>=>fun jV=>R.ok (gf::jV))>=>BU)>=>fun v2=>eZ env [0]>=>fun v3=>R.ne (cG (bN 0) x8 x9 (jf 1 v3) v2)>=>fit)>=>fun v1=>R.ok (Out.pX v1))
def lW:=eI 1 1 F0
def iJ(env:DE):R Out:=
 ((((j9 0 env>=>fun v6=>R.ok none>=>fun v7=>((aP 1 env>=>fun v9=>R.ok (D.int 1)>=>fun v10=>R.of (gp v9 v10))>=>Fl)>=>fun v8=>R.ok (cut v6 v7 v8))>=>fun v4=>(((j9 0 env>=>fun iA=>aP 1 env>=>fun gf=>uG iA gf)>=>fun v11=>((j9 0 env>=>fun kj=>(aP 1 env>=>fun nj=>R.ok (D.int 1)>=>fun v20=>R.of (gp nj v20))>=>fun kJ=>uG kj kJ)>=>fun jV=>R.ok []>=>fun kc=>R.ok (jV::kc))>=>fun jW=>R.ok (v11::jW))>=>fit)>=>fun v5=>fit (v4++v5))>=>fun v2=>(j9 0 env>=>fun qU=>((aP 1 env>=>fun rJ=>R.ok (D.int 1)>=>fun tJ=>R.of (gZ rJ tJ))>=>Fl)>=>fun kI=>R.ok none>=>fun qg=>R.ok (cut qU kI qg))>=>fun v3=>fit (v2++v3))>=>fun v1=>R.ok (Out.pX v1))
def aV:=eI 2 2 iJ
def uU(env:DE):R Bool:=
 R.ok true
def nv(env:DE):R D:=
 ((((aP 1 env>=>fun v11=>R.ok []>=>fun jW=>R.ok (v11::jW))>=>fun v10=>R.of (lL v10))>=>fun v8=>R.ok (D.int 1)>=>fun v9=>R.of (gp v8 v9))>=>fun v6=>aP 0 env>=>fun v7=>R.of (gp v6 v7))
def rO(env:DE):R Out:=
 (((bM 0 env>=>fun iA=>vL iA>=>fun xs=>R.ok (reverse xs))>=>fun v2=>eZ env [0]>=>fun v3=>R.ne (cG (bN 0) uU nv (jf 1 v3) v2)>=>fit)>=>fun v1=>R.ok (Out.pX v1))
def gx:=eI 1 1 rO
def km(d:D)(env:DE):R Out:=
 (bN 2) d env>=>fun v7=>
  (bM 1 v7>=>fun v8=>(R.ok (D.int 1)>=>fun v10=>(aP 2 v7>=>fun jW=>R.ok (D.int 1)>=>fun iA=>R.of (gp jW iA))>=>fun v11=>R.of (Oq v10 v11))>=>fun v9=>HA (fun i j=>PySem.Builtin.bitOr i j) 1 v7 v8 v9)
def zU(env:DE):R Out:=
 (aT (R.ok (D.int 0)>=>fun v2=>R.ok (Out.nx (List.set env 1 (Sl.val v2)))) fun v1=>
 (aT ((bM 0 v1>=>vL)>=>fun v4=>cW km v4 v1) fun v3=>
 (bM 1 v3>=>fun gf=>R.ok (Out.rt gf))))
def nz:=mS 1 3 zU
def qj(env:DE):R Out:=
 (aT ((aP 1 env>=>fun v3=>((aP 0 env>=>fun v6=>R.ok []>=>fun v7=>R.ok (v6::v7))>=>fun v5=>R.of (lL v5))>=>fun v4=>R.of (MZ v3 v4)>=>dX)>=>fun v2=>if v2=true then((j9 0 env>=>fun v9=>aP 1 env>=>fun v10=>uG v9 v10)>=>fun v8=>R.ok (Out.rt v8))else(R.ok (Out.nx env))) fun v1=>
 (R.ok (D.int 0)>=>fun v11=>R.ok (Out.rt v11)))
def bX:=mS 2 2 qj
def tN(env:DE):R Bool:=
 ((((aP 0 env>=>fun HS=>DX "int" HS)>=>dX)>=>fun KN=>R.ok (!KN))>=>fun HU=>if HU=true then R.ok true else((aP 0 env>=>fun OA=>DX "bool" OA)>=>dX))
def tP(env:DE):R D:=
 (bM 0 env)
def bu(d:D)(env:DE):R Out:=
 (bN 4) d env>=>fun F3=>
  (((aP 2 F3>=>fun XS=>R.ok D.non>=>fun XT=>R.of (zK XS XT)>=>dX)>=>fun XU=>if XU=true then(((j9 3 F3>=>fun XW=>(aP 4 F3>=>fun XX=>R.ok (D.int 1)>=>fun XY=>R.of (gp XX XY))>=>fun X0=>qd XW X0)>=>fun X1=>(j9 3 F3>=>fun Le=>aP 4 F3>=>fun Lf=>qd Le Lf)>=>fun X2=>R.of (Dj X1 X2)>=>dX)>=>fun X3=>if X3=true then((bM 2 F3>=>fun Lg=>(aP 4 F3>=>fun Lh=>R.ok (D.int 1)>=>fun Li=>R.of (gp Lh Li))>=>fun uV=>xG Lg uV)>=>fun Lj=>(bM 2 F3>=>fun Lk=>aP 4 F3>=>fun Ll=>xG Lk Ll)>=>fun Ln=>R.of (MZ Lj Ln)>=>dX)else R.ok false)else R.ok false)>=>fun OG=>if OG=true then(R.ok (D.bl false)>=>fun Lo=>R.ok (Out.rt Lo))else(R.ok (Out.nx F3)))
def aQ(d:D)(env:DE):R Out:=
 (bN 3) d env>=>fun Bw=>
  (aT (((((aP 3 Bw>=>fun Eb=>DX "list" Eb)>=>dX)>=>fun Bv=>R.ok (!Bv))>=>fun Eg=>if Eg=true then R.ok true else((((bM 3 Bw>=>vL)>=>fun Ce=>eZ Bw []>=>fun Dm=>R.ne (cG (bN 0) tN tP (jf 1 Dm) Ce)>=>fit)>=>fun Ed=>R.ok (D.lst Ed))>=>fun Ef=>((R.ok []>=>fit)>=>fun KO=>R.ok (D.lst KO))>=>fun Ec=>R.of (xM Ef Ec)>=>dX))>=>fun Dq=>if Dq=true then(R.ok (D.bl false)>=>fun KW=>R.ok (Out.rt KW))else(R.ok (Out.nx Bw))) fun zd=>
 (aT (((((j9 3 zd>=>zP)>=>fun KR=>R.ok (D.lst KR))>=>fun KS=>(((aP 1 zd>=>fun K3=>R.ok []>=>fun K1=>R.ok (K3::K1))>=>iG)>=>fun K2=>R.ok (D.lst K2))>=>fun KQ=>R.of (xM KS KQ)>=>dX)>=>fun KP=>if KP=true then R.ok true else(aP 3 zd>=>fun KY=>(((aP 1 zd>=>fun FY=>R.ok []>=>fun KZ=>R.ok (FY::KZ))>=>iG)>=>fun K0=>R.ok (D.lst K0))>=>fun IY=>R.of (sJ KY IY)>=>dX))>=>fun KU=>if KU=true then(R.ok (D.bl false)>=>fun OB=>R.ok (Out.rt OB))else(R.ok (Out.nx zd))) fun Ds=>
 (aT ((aP 3 Ds>=>fun OE=>(((aP 1 Ds>=>fun T4=>R.ok []>=>fun T5=>R.ok (T4::T5))>=>xW)>=>fun HV=>R.ok (D.lst HV))>=>fun OC=>R.of (sJ OE OC)>=>dX)>=>fun OD=>if OD=true then(R.ok (D.bl false)>=>fun X4=>R.ok (Out.rt X4))else(R.ok (Out.nx Ds))) fun Na=>
 (aT (((R.ok (D.int 1)>=>fun ze=>(aP 1 Na>=>fun Lp=>R.ok []>=>fun Lq=>R.ok (Lp::Lq))>=>fun Lr=>R.ok (ze::Lr))>=>BU)>=>fun v85=>cW bu v85 Na) fun QS=>
 (bM 3 QS>=>fun Ls=>R.ok (Out.nx (List.set QS 2 (Sl.val Ls))))))))
def qk(env:DE):R Out:=
 (aT (((((aP 0 env>=>fun v5=>DX "tuple" v5)>=>dX)>=>fun v4=>R.ok (!v4))>=>fun v3=>if v3=true then R.ok true else((((aP 0 env>=>fun v10=>R.ok []>=>fun v11=>R.ok (v10::v11))>=>fun v9=>R.of (lL v9))>=>fun v7=>R.ok (D.int 2)>=>fun v8=>R.of (xM v7 v8)>=>dX)>=>fun v6=>if v6=true then R.ok true else((((bM 0 env>=>fun gf=>R.ok (D.int 1)>=>fun jV=>xG gf jV)>=>fun iA=>DX "list" iA)>=>dX)>=>fun jW=>R.ok (!jW))))>=>fun v2=>if v2=true then(R.ok (D.bl false)>=>fun kc=>R.ok (Out.rt kc))else(R.ok (Out.nx env))) fun v1=>
 (aT ((((((bM 0 v1>=>fun kI=>R.ok (D.int 0)>=>fun qg=>xG kI qg)>=>fun qU=>DX "int" qU)>=>dX)>=>fun v20=>R.ok (!v20))>=>fun nj=>if nj=true then R.ok true else((((bM 0 v1>=>fun vQ=>R.ok (D.int 0)>=>fun wu=>xG vQ wu)>=>fun tJ=>DX "bool" tJ)>=>dX)>=>fun rJ=>if rJ=true then R.ok true else((aP 1 v1>=>fun Cb=>R.ok (D.int 1)>=>fun v30=>R.of (sJ Cb v30)>=>dX)>=>fun zR=>if zR=true then((bM 0 v1>=>fun HQ=>R.ok (D.int 0)>=>fun HR=>xG HQ HR)>=>fun FU=>R.ok (D.int 0)>=>fun D9=>R.of (xM FU D9)>=>dX)else R.ok false)))>=>fun kJ=>if kJ=true then(R.ok (D.bl false)>=>fun Cd=>R.ok (Out.rt Cd))else(R.ok (Out.nx v1))) fun kj=>
 (aT (R.ok D.non>=>fun yV=>R.ok (Out.nx (List.set kj 2 (Sl.val yV)))) fun uR=>
 (aT (((bM 0 uR>=>fun Lu=>R.ok (D.int 1)>=>fun Lv=>xG Lu Lv)>=>vL)>=>fun Ea=>cW aQ Ea uR) fun Bu=>
 (R.ok (D.bl true)>=>fun Lw=>R.ok (Out.rt Lw))))))
def dG:=mS 2 5 qk
def ql(env:DE):R Out:=
 (aT ((((aP 0 env>=>fun v4=>R.ok []>=>fun v5=>R.ok (v4::v5))>=>iG)>=>fun v3=>R.ok (D.lst v3))>=>fun v2=>R.ok (Out.nx (List.set env 3 (Sl.val v2)))) fun v1=>
 (aT ((aP 1 v1>=>fun v8=>R.ok (D.int 0)>=>fun v9=>R.of (sJ v8 v9)>=>dX)>=>fun v7=>if v7=true then(bM 3 v1>=>fun v10=>R.ok (Out.rt v10))else(R.ok (Out.nx v1))) fun v6=>
 (aT ((aP 1 v6>=>fun iA=>R.ok (D.int 1)>=>fun gf=>R.of (sJ iA gf)>=>dX)>=>fun jW=>if jW=true then(((j9 3 v6>=>fun kj=>R.ok (reverse kj))>=>fun kc=>R.ok (D.lst kc))>=>fun jV=>R.ok (Out.rt jV))else(R.ok (Out.nx v6))) fun v11=>
 (aT ((aP 1 v11>=>fun v20=>R.ok (D.int 2)>=>fun qU=>R.of (sJ v20 qU)>=>dX)>=>fun nj=>if nj=true then(((((aP 0 v11>=>fun vQ=>R.ok (D.int 1)>=>fun wu=>R.of (gp vQ wu))>=>fun rJ=>R.ok []>=>fun tJ=>R.ok (rJ::tJ))>=>xW)>=>fun qg=>R.ok (D.lst qg))>=>fun kI=>R.ok (Out.rt kI))else(R.ok (Out.nx v11))) fun kJ=>
 (aT ((aP 1 kJ>=>fun v30=>R.ok (D.int 3)>=>fun FU=>R.of (sJ v30 FU)>=>dX)>=>fun Cb=>if Cb=true then(((((bM 0 kJ>=>fun uR=>R.ok []>=>fun yV=>R.ok (uR::yV))>=>fit)>=>fun HR=>j9 3 kJ>=>fun Cd=>fit (HR++Cd))>=>fun HQ=>R.ok (D.lst HQ))>=>fun D9=>R.ok (Out.rt D9))else(R.ok (Out.nx kJ))) fun zR=>
 (aT ((aP 1 zR>=>fun FW=>R.ok (D.int 4)>=>fun Eh=>R.of (sJ FW Eh)>=>dX)>=>fun Ea=>if Ea=true then((((((j9 3 zR>=>fun Ef=>(R.ok (D.int 1)>=>fun Ed=>R.of (pY Ed))>=>fun Ec=>uG Ef Ec)>=>fun Bv=>R.ok []>=>fun Eb=>R.ok (Bv::Eb))>=>fit)>=>fun Dq=>(j9 3 zR>=>fun Ce=>(R.ok (D.int 1)>=>Fl)>=>fun Dm=>R.ok none>=>fun Dr=>R.ok (cut Ce Dm Dr))>=>fun Eg=>fit (Dq++Eg))>=>fun zd=>R.ok (D.lst zd))>=>fun Bw=>R.ok (Out.rt Bw))else(R.ok (Out.nx zR))) fun Bu=>
 (((((((((R.ok (D.int 1)>=>fun KS=>R.of (pY KS))>=>fun KU=>(bM 0 Bu>=>fun KQ=>(((R.ok (D.int 10)>=>fun IY=>R.ok (D.int 30)>=>fun K0=>R.of (DS IY K0))>=>fun K1=>aP 2 Bu>=>fun KY=>R.of (gZ K1 KY))>=>fun K2=>(((aP 2 Bu>=>fun OD=>R.of (pY OD))>=>fun OB=>R.ok (D.int 1)>=>fun Na=>R.of (gp OB Na))>=>fun FY=>R.ok []>=>fun KZ=>R.ok (FY::KZ))>=>fun K3=>R.ok (K2::K3))>=>fun KR=>R.ok (KQ::KR))>=>fun KP=>R.ok (KU::KP))>=>fit)>=>fun KW=>(aP 2 Bu>=>fun OE=>R.ok (D.int 4)>=>fun OC=>R.of (ki OE OC))>=>fun Ds=>uG KW Ds)>=>fun OA=>R.ok []>=>fun KO=>R.ok (OA::KO))>=>fit)>=>fun KN=>(j9 3 Bu>=>fun HV=>(R.ok (D.int 1)>=>Fl)>=>fun T4=>R.ok none>=>fun T5=>R.ok (cut HV T4 T5))>=>fun HS=>fit (KN++HS))>=>fun HU=>R.ok (D.lst HU))>=>fun K4=>R.ok (Out.rt K4))))))))
def fH:=mD 3 4 ql
def Cm(env:DE):R Out:=
 (aT (((((aP 0 env>=>fun v7=>R.ok []>=>fun v8=>R.ok (v7::v8))>=>fun v6=>R.of (lL v6))>=>fun v4=>R.ok (D.int 1)>=>fun v5=>R.of (MZ v4 v5)>=>dX)>=>fun v3=>if v3=true then R.ok true else(((aP 0 env>=>fun jW=>R.ok []>=>fun iA=>R.ok (jW::iA))>=>fun v11=>R.of (lL v11))>=>fun v9=>R.ok (D.int 7)>=>fun v10=>R.of (Dj v9 v10)>=>dX))>=>fun v2=>if v2=true then(R.ok (D.bl false)>=>fun gf=>R.ok (Out.rt gf))else(R.ok (Out.nx env))) fun v1=>
 ((((j9 0 v1>=>zP)>=>fun kJ=>R.ok (D.lst kJ))>=>fun kc=>(((((aP 0 v1>=>fun qg=>R.ok []>=>fun rJ=>R.ok (qg::rJ))>=>fun kI=>R.of (lL kI))>=>fun v20=>R.ok []>=>fun qU=>R.ok (v20::qU))>=>bG)>=>fun nj=>R.ok (D.lst nj))>=>fun kj=>R.of (sJ kc kj))>=>fun jV=>R.ok (Out.rt jV)))
def qm:=mS 1 1 Cm
def Cn(env:DE):R Out:=
 ((((((bM 0 env>=>fun v5=>R.ok []>=>fun v6=>R.ok (v5::v6))>=>cK)>=>fun v4=>R.ok (D.lst v4))>=>fun v2=>R.ok []>=>fun v3=>R.ok (v2::v3))>=>lW)>=>fun v1=>R.ok (Out.pX v1))
def nA:=eI 1 1 Cn
def ji(env:DE):R Out:=
 (((((((((bM 0 env>=>fun v8=>R.ok []>=>fun v9=>R.ok (v8::v9))>=>cK)>=>fun v7=>R.ok (D.lst v7))>=>fun v5=>(bM 1 env>=>fun v10=>R.ok []>=>fun v11=>R.ok (v10::v11))>=>fun v6=>R.ok (v5::v6))>=>aV)>=>fun v4=>R.ok (D.lst v4))>=>fun v2=>R.ok []>=>fun v3=>R.ok (v2::v3))>=>cK)>=>fun v1=>R.ok (Out.pX v1))
def cR:=eI 2 2 ji
def lX(d:D)(env:DE):R Out:=
 (bN 3) d env>=>fun v9=>
  (aT ((aP 3 v9>=>fun jW=>R.ok (D.int 0)>=>fun iA=>R.of (MZ jW iA)>=>dX)>=>fun v11=>if v11=true then(R.bad:R Out)else(R.ok (Out.nx v9))) fun v10=>
 (aT (((j9 2 v10>=>fun kJ=>(aP 3 v10>=>fun v20=>R.ok (D.int 1)>=>fun qU=>R.of (gp v20 qU))>=>fun nj=>uG kJ nj)>=>fun kc=>(j9 2 v10>=>fun kI=>aP 3 v10>=>fun qg=>uG kI qg)>=>fun kj=>R.of (Dj kc kj)>=>dX)>=>fun jV=>if jV=true then(R.bad:R Out)else(R.ok (Out.nx v10))) fun gf=>
 (((aP 2 gf>=>fun tJ=>(aP 3 gf>=>fun wu=>R.ok []>=>fun zR=>R.ok (wu::zR))>=>fun vQ=>R.ok (tJ::vQ))>=>aV)>=>fun rJ=>R.ok (Out.nx (List.set gf 2 (Sl.own rJ))))))
def Co(env:DE):R Out:=
 (aT (((bM 0 env>=>fun v3=>R.ok []>=>fun v4=>R.ok (v3::v4))>=>bG)>=>fun v2=>R.ok (Out.nx (List.set env 2 (Sl.own v2)))) fun v1=>
 (aT ((bM 1 v1>=>vL)>=>fun v6=>cW lX v6 v1) fun v5=>
 (ownAt 2 v5>=>fun Cb=>R.ok (Out.pX Cb))))
def nC:=eI 2 4 Co
def Ek(env:DE):R Bool:=
 R.ok true
def ya(env:DE):R D:=
 ((((aP 1 env>=>fun v11=>R.ok []>=>fun jW=>R.ok (v11::jW))>=>fun v10=>R.of (lL v10))>=>fun v8=>R.ok (D.int 1)>=>fun v9=>R.of (gp v8 v9))>=>fun v6=>aP 0 env>=>fun v7=>R.of (gp v6 v7))
def F4(env:DE):R Out:=
 ((((((bM 0 env>=>fun gf=>R.ok []>=>fun jV=>R.ok (gf::jV))>=>cK)>=>fun iA=>R.ok (D.lst iA))>=>vL)>=>fun v2=>eZ env [0]>=>fun v3=>R.ne (cG (bN 0) Ek ya (jf 1 v3) v2)>=>fit)>=>fun v1=>R.ok (Out.pX v1))
def tQ:=eI 1 1 F4
def qo(d:D)(env:DE):R Out:=
 (bN 5) d env>=>fun iA=>
  (aT (((aP 5 iA>=>fun kj=>R.ok []>=>fun kJ=>R.ok (kj::kJ))>=>fun kc=>R.of (JL kc))>=>fun jV=>R.ok (Out.nx (List.set iA 6 (Sl.val jV)))) fun gf=>
 (aT (((((aP 2 gf>=>fun tJ=>R.ok []>=>fun vQ=>R.ok (tJ::vQ))>=>fun rJ=>R.of (lL rJ))>=>fun kI=>R.ok (D.int 0)>=>fun qg=>R.of (sJ kI qg)>=>dX)>=>fun qU=>if qU=true then R.ok true else((aP 4 gf>=>fun zR=>(aP 5 gf>=>fun v30=>R.ok (D.int 0)>=>fun FU=>R.of (Dj v30 FU))>=>fun Cb=>R.of (xM zR Cb)>=>dX)>=>fun wu=>if wu=true then R.ok true else((j9 3 gf>=>fun HR=>(aP 6 gf>=>fun uR=>R.ok (D.int 1)>=>fun yV=>R.of (gp uR yV))>=>fun Cd=>uG HR Cd)>=>fun D9=>(j9 3 gf>=>fun Bu=>aP 6 gf>=>fun Ea=>uG Bu Ea)>=>fun HQ=>R.of (Dj D9 HQ)>=>dX)))>=>fun v20=>if v20=true then(aT (gR 2 gf>=>fun Eh=>(R.ok []>=>fit)>=>fun Bw=>R.of (B4 Bw)>=>fun zd=>KI 2 gf Eh zd) fun FW=>
 (aT (((bM 0 FW>=>fun Bv=>R.ok []>=>fun Eb=>R.ok (Bv::Eb))>=>bG)>=>fun Eg=>R.ok (Out.nx (List.set FW 3 (Sl.own Eg)))) fun Dq=>
 ((aP 5 Dq>=>fun Ec=>R.ok (D.int 0)>=>fun Ed=>R.of (Dj Ec Ed))>=>fun Ef=>R.ok (Out.nx (List.set Dq 4 (Sl.val Ef))))))else(R.ok (Out.nx gf))) fun nj=>
 (aT (gR 2 nj>=>fun Dm=>(R.ok (D.int 1)>=>fun KN=>R.of (pY KN))>=>fun Dr=>B9 Dm Dr>=>fun K4=>aP 5 nj>=>fun HU=>D7 2 nj Dm K4 HU) fun Ce=>
 (aT ((j9 3 Ce>=>fun KO=>aP 6 Ce>=>fun KW=>uG KO KW)>=>fun OA=>R.ok (Out.nx (List.set Ce 7 (Sl.val OA)))) fun HS=>
 (aT ((j9 3 HS>=>fun KQ=>(aP 6 HS>=>fun K2=>R.ok (D.int 1)>=>fun K3=>R.of (gp K2 K3))>=>fun KR=>uG KQ KR)>=>fun KU=>ownAt 3 HS>=>fun KP=>aP 6 HS>=>fun KS=>sy 3 HS KU KP KS) fun Ds=>
 (bM 7 Ds>=>fun K1=>ownAt 3 Ds>=>fun KY=>(aP 6 Ds>=>fun K0=>R.ok (D.int 1)>=>fun FY=>R.of (gp K0 FY))>=>fun IY=>sy 3 Ds K1 KY IY))))))
def QT(env:DE):R Out:=
 (aT (R.ok ([]:List (List Int))>=>fun v2=>(fit v2>=>fun y=>R.ok (Out.nx (List.set env 2 (Sl.deep (Ct.ls y)))))) fun v1=>
 (aT (((bM 0 v1>=>fun v5=>R.ok []>=>fun v6=>R.ok (v5::v6))>=>bG)>=>fun v4=>R.ok (Out.nx (List.set v1 3 (Sl.own v4)))) fun v3=>
 (aT (R.ok (D.bl false)>=>fun v8=>R.ok (Out.nx (List.set v3 4 (Sl.val v8)))) fun v7=>
 (aT ((bM 1 v7>=>vL)>=>fun v10=>cW qo v10 v7) fun v9=>
 (gR 2 v9>=>fun KZ=>R.ok (Out.BQ KZ))))))
def Cp:=mT 2 8 QT
def rP(env:DE):R Out:=
 (aT (((aP 0 env>=>fun v5=>R.ok (D.int 2)>=>fun v6=>R.of (ki v5 v6))>=>fun v3=>R.ok (D.int 0)>=>fun v4=>R.of (sJ v3 v4)>=>dX)>=>fun v2=>if v2=true then(j9 1 env>=>fun v7=>R.ok (Out.pX v7))else(R.ok (Out.nx env))) fun v1=>
 (((bM 1 v1>=>fun v9=>R.ok []>=>fun v10=>R.ok (v9::v10))>=>gx)>=>fun v8=>R.ok (Out.pX v8)))
def gy:=eI 2 2 rP
def mE(d:D)(env:DE):R Out:=
 (bN 3) d env>=>fun v7=>
  (ownAt 2 v7>=>fun v8=>(((((aP 0 v7>=>fun jV=>(aP 3 v7>=>fun kj=>R.ok []>=>fun kJ=>R.ok (kj::kJ))>=>fun kc=>R.ok (jV::kc))>=>bX)>=>fun iA=>(aP 3 v7>=>fun nj=>(R.ok (D.int 16807)>=>fun qU=>R.ok []>=>fun kI=>R.ok (qU::kI))>=>fun v20=>R.ok (nj::v20))>=>fun gf=>R.ok (iA::gf))>=>cM)>=>fun v11=>(aP 3 v7>=>fun qg=>R.ok (D.int 1)>=>fun rJ=>R.of (gZ qg rJ))>=>fun jW=>R.of (ki v11 jW))>=>fun v9=>bM 3 v7>=>fun v10=>Oj 2 v7 v8 v9 v10)
def yb(env:DE):R Out:=
 (aT ((R.ok []>=>fit)>=>fun v2=>R.ok (Out.nx (List.set env 2 (Sl.own v2)))) fun v1=>
 (aT (((aP 1 v1>=>fun tJ=>R.ok []>=>fun vQ=>R.ok (tJ::vQ))>=>JP)>=>fun v4=>cW mE v4 v1) fun v3=>
 (ownAt 2 v3>=>fun wu=>R.ok (Out.pX wu))))
def kU:=eI 2 4 yb
def pC(env:DE):R Bool:=
 (aP 0 env>=>fun v6=>(((bM 1 env>=>fun v9=>R.ok []>=>fun v10=>R.ok (v9::v10))>=>lW)>=>fun v8=>R.ok (D.lst v8))>=>fun v7=>R.of (AU v6 v7)>=>dX)
def pD(env:DE):R D:=
 (bM 0 env)
def tR(env:DE):R Out:=
 ((((((bM 1 env>=>fun jW=>R.ok []>=>fun iA=>R.ok (jW::iA))>=>nA)>=>fun v11=>R.ok (D.lst v11))>=>vL)>=>fun v2=>eZ env [0]>=>fun v3=>R.ne (cG (bN 0) pC pD (jf 1 v3) v2)>=>fit)>=>fun v1=>R.ok (Out.pX v1))
def iK:=eI 2 2 tR
def jO(env:DE):R Out:=
 (aT (((((aP 1 env>=>fun v7=>R.ok []>=>fun v8=>R.ok (v7::v8))>=>fun v6=>R.of (lL v6))>=>fun v4=>aP 0 env>=>fun v5=>R.of (xM v4 v5)>=>dX)>=>fun v3=>if v3=true then R.ok true else((((aP 1 env>=>fun v10=>R.ok []>=>fun v11=>R.ok (v10::v11))>=>qm)>=>dX)>=>fun v9=>R.ok (!v9)))>=>fun v2=>if v2=true then(R.err "NoForm":R Out)else(R.ok (Out.nx env))) fun v1=>
 (((aP 1 v1>=>fun gf=>(((bM 0 v1>=>fun kj=>R.ok []>=>fun kJ=>R.ok (kj::kJ))>=>bG)>=>fun kc=>R.ok (D.lst kc))>=>fun jV=>R.of (sJ gf jV)>=>dX)>=>fun iA=>if iA=true then R.ok true else(aP 1 v1>=>fun nj=>(((bM 0 v1>=>fun kI=>R.ok []>=>fun qg=>R.ok (kI::qg))>=>sE)>=>fun qU=>R.ok (D.lst qU))>=>fun v20=>R.of (sJ nj v20)>=>dX))>=>fun jW=>if jW=true then(R.err "NoForm":R Out)else(R.ok (Out.nx v1))))
def br:=QL 2 2 jO
def qp:=fun ds=>R.ne (br ds)
def rQ(env:DE):R Out:=
 (((((R.ok (D.int 1)>=>fun v4=>R.of (pY v4))>=>fun v2=>((((bM 0 env>=>fun v8=>R.ok []>=>fun v9=>R.ok (v8::v9))>=>tQ)>=>fun v7=>R.ok (D.lst v7))>=>fun v5=>R.ok []>=>fun v6=>R.ok (v5::v6))>=>fun v3=>R.ok (v2::v3))>=>fit)>=>fun ds=>R.ok (D.tup ds))>=>fun v1=>R.ok (Out.rt v1))
def jA:=mD 1 1 rQ
def dH(d:D)(env:DE):R Out:=
 (bN 3) d env>=>fun v9=>
  (aT (gR 1 v9>=>fun v11=>((bM 2 v9>=>fun gf=>((bM 3 v9>=>fun kJ=>R.ok (D.int 1)>=>fun nj=>xG kJ nj)>=>fun kc=>R.ok []>=>fun kj=>R.ok (kc::kj))>=>fun jV=>R.ok (gf::jV))>=>gy)>=>fun jW=>R.of (B4 jW)>=>fun iA=>KI 1 v9 v11 iA) fun v10=>
 (bM 2 v10>=>fun v20=>(bM 3 v10>=>fun kI=>R.ok (D.int 0)>=>fun qg=>xG kI qg)>=>fun qU=>HA (fun i j=>i+j) 2 v10 v20 qU))
def jP(env:DE):R Out:=
 (aT (R.ok ([]:List (List Int))>=>fun v2=>(fit v2>=>fun y=>R.ok (Out.nx (List.set env 1 (Sl.deep (Ct.ls y)))))) fun v1=>
 (aT (R.ok (D.int 0)>=>fun v4=>R.ok (Out.nx (List.set v1 2 (Sl.val v4)))) fun v3=>
 (aT ((bM 0 v3>=>fun rJ=>vL rJ>=>fun xs=>R.ok (reverse xs))>=>fun v6=>cW dH v6 v3) fun v5=>
 (aT (gR 1 v5>=>fun vQ=>R.ok (Out.nx (List.set v5 1 (Sl.deep (Ct.ls (reverse vQ)))))) fun tJ=>
 (gR 1 tJ>=>fun wu=>R.ok (Out.BQ wu))))))
def bx:=mT 1 4 jP
def nE(env:DE):R Bool:=
 R.ok true
def jn(env:DE):R D:=
 (j9 0 env>=>fun v10=>R.ok (D.lst v10))
def jo(env:DE):R Bool:=
 ((j9 1 env>=>fun Ds=>(aP 0 env>=>fun KP=>R.ok (D.int 1)>=>fun KS=>R.of (gp KP KS))>=>fun KU=>uG Ds KU)>=>fun KO=>(j9 1 env>=>fun KQ=>aP 0 env>=>fun KR=>uG KQ KR)>=>fun KW=>R.of (MZ KO KW)>=>dX)
def jq(env:DE):R D:=
 (bM 0 env)
def rR(env:DE):R Out:=
 (aT ((bM 1 env>=>fun v4=>R.ok (D.int 0)>=>fun v5=>xG v4 v5)>=>fun v2=>(((bM 1 env>=>fun v11=>R.ok (D.int 1)>=>fun jW=>xG v11 jW)>=>vL)>=>fun v6=>eZ env []>=>fun v7=>R.ne (cG (bN 0) nE jn (jf 1 v7) v6)>=>fit)>=>fun v3=>R.ok (Out.nx (List.set (List.set env 5 (Sl.val v2)) 6 (Sl.own v3)))) fun v1=>
 (aT ((aP 0 v1>=>fun jV=>R.ok (D.int 1)>=>fun kc=>R.of (sJ jV kc)>=>dX)>=>fun gf=>if gf=true then(((((((aP 4 v1>=>fun qg=>R.ok (D.int 2)>=>fun rJ=>R.of (ki qg rJ))>=>fun qU=>R.ok (D.int 0)>=>fun kI=>R.of (sJ qU kI)>=>dX)>=>fun v20=>if v20=true then(R.ok (D.int 1)>=>fun tJ=>(aP 4 v1>=>fun wu=>R.ok (D.int 999)>=>fun zR=>R.of (ki wu zR))>=>fun vQ=>R.of (gZ tJ vQ))else((R.ok (D.int 1)>=>fun FU=>R.of (pY FU))>=>fun Cb=>(aP 4 v1>=>fun D9=>R.ok (D.int 999)>=>fun HQ=>R.of (ki D9 HQ))>=>fun v30=>R.of (gp Cb v30)))>=>fun kJ=>(((R.ok []>=>fit)>=>fun uR=>R.ok (D.lst uR))>=>fun HR=>R.ok []>=>fun Cd=>R.ok (HR::Cd))>=>fun nj=>R.ok (kJ::nj))>=>fit)>=>fun ds=>R.ok (D.tup ds))>=>fun kj=>R.ok (Out.rt kj))else(R.ok (Out.nx v1))) fun iA=>
 (aT ((aP 2 iA>=>fun Ea=>R.ok (D.int 6)>=>fun FW=>R.of (sJ Ea FW)>=>dX)>=>fun Bu=>if Bu=true then(aT (((aP 6 iA>=>fun Dq=>((R.ok []>=>fit)>=>fun Bv=>R.ok (D.lst Bv))>=>fun Eg=>R.of (xM Dq Eg)>=>dX)>=>fun zd=>if zd=true then(j9 6 iA>=>fun Eb=>(R.ok (D.int 1)>=>fun Ec=>R.of (pY Ec))>=>fun Ef=>uG Eb Ef)else(((aP 0 iA>=>fun Ce=>R.ok []>=>fun Dm=>R.ok (Ce::Dm))>=>iG)>=>fun Ed=>R.ok (D.lst Ed)))>=>fun Bw=>R.ok (Out.nx (List.set iA 7 (Sl.val Bw)))) fun Eh=>
 (aT (R.bind ((((R.ok (D.int 1)>=>fun K2=>(aP 0 Eh>=>fun K1=>R.ok []>=>fun KY=>R.ok (K1::KY))>=>fun K3=>R.ok (K2::K3))>=>BU)>=>fun HU=>eZ Eh [7]>=>fun KN=>R.ne (cG (bN 0) jo jq (jf 1 KN) HU)>=>fit)>=>fun K4=>R.ok (Out.nx (List.set Eh 8 (Sl.own K4)))) (Te 8)) fun Dr=>
 (aT ((j9 8 Dr>=>fun FY=>(aP 4 Dr>=>fun OB=>((aP 8 Dr>=>fun OE=>R.ok []>=>fun OC=>R.ok (OE::OC))>=>fun OD=>R.of (lL OD))>=>fun Na=>R.of (ki OB Na))>=>fun KZ=>uG FY KZ)>=>fun K0=>R.ok (Out.nx (List.set Dr 9 (Sl.val K0)))) fun IY=>
 (aT (((aP 0 IY>=>fun T5=>R.ok []>=>fun X4=>R.ok (T5::X4))>=>iG)>=>fun T4=>R.ok (Out.nx (List.set IY 10 (Sl.own T4)))) fun HV=>
 (aT ((((bM 9 HV>=>fun XT=>((aP 9 HV>=>fun XW=>R.ok (D.int 1)>=>fun X0=>R.of (gp XW X0))>=>fun X1=>R.ok []>=>fun X2=>R.ok (X1::X2))>=>fun X3=>R.ok (XT::X3))>=>fit)>=>fun ds=>R.ok (D.tup ds))>=>fun v85=>AW v85>=>fun ZC=>ownAt 10 HV>=>fun v87=>(aP 9 HV>=>fun XX=>R.ok (D.int 1)>=>fun XY=>R.of (gp XX XY))>=>fun F3=>AV 10 HV ZC.1 v87 F3>=>fun OG=>ownAt 10 OG>=>fun XU=>aP 9 OG>=>fun XS=>sy 10 OG ZC.2 XU XS) fun QS=>
 ((((bM 5 (nW 10 QS)>=>fun Lf=>(((aP 6 (nW 10 QS)>=>fun Lh=>((R.ok []>=>fit)>=>fun Lk=>R.ok (D.lst Lk))>=>fun Li=>R.of (xM Lh Li)>=>dX)>=>fun uV=>if uV=true then((j9 6 (nW 10 QS)>=>fun Lo=>((bM 10 (nW 10 QS)>=>fun Lr=>R.ok []>=>fun Lp=>R.ok (Lr::Lp))>=>fit)>=>fun ze=>fit (Lo++ze))>=>fun Ll=>R.ok (D.lst Ll))else((((((aP 0 (nW 10 QS)>=>fun Lw=>R.ok []>=>fun T6=>R.ok (Lw::T6))>=>xW)>=>fun Lv=>R.ok (D.lst Lv))>=>fun Ls=>R.ok []>=>fun Lu=>R.ok (Ls::Lu))>=>fit)>=>fun Lq=>R.ok (D.lst Lq)))>=>fun Ln=>R.ok []>=>fun Lg=>R.ok (Ln::Lg))>=>fun Lj=>R.ok (Lf::Lj))>=>fit)>=>fun ds=>R.ok (D.tup ds))>=>fun Le=>R.ok (Out.rt Le)))))))else(R.ok (Out.nx iA))) fun yV=>
 (aT ((aP 2 yV>=>fun T7=>R.ok (D.int 7)>=>fun T8=>R.of (sJ T7 T8)>=>dX)>=>fun T9=>if T9=true then(aT (((((((bM 4 yV>=>fun Ua=>((aP 4 yV>=>fun Ub=>R.ok (D.int 7)>=>fun Uc=>R.of (uE Ub Uc))>=>fun Ud=>((aP 4 yV>=>fun Ue=>R.ok (D.int 49)>=>fun Ug=>R.of (uE Ue Ug))>=>fun Uh=>(bM 3 yV>=>fun Ui=>R.ok []>=>fun Uj=>R.ok (Ui::Uj))>=>fun Uk=>R.ok (Uh::Uk))>=>fun Ul=>R.ok (Ud::Ul))>=>fun Um=>R.ok (Ua::Um))>=>fit)>=>fun Uo=>R.ok (D.lst Uo))>=>fun Up=>(bM 0 yV>=>fun Uq=>R.ok []>=>fun Ur=>R.ok (Uq::Ur))>=>fun Us=>R.ok (Up::Us))>=>kU)>=>fun Ut=>R.ok (D.lst Ut))>=>fun Uu=>R.ok (Out.nx (List.set yV 10 (Sl.val Uu)))) fun Cq=>
 ((((bM 5 (nW 10 Cq)>=>fun Uv=>(((((j9 6 (nW 10 Cq)>=>fun abR=>R.ok none>=>fun abS=>(aP 3 (nW 10 Cq)>=>Fl)>=>fun abT=>R.ok (cut abR abS abT))>=>fun abU=>((bM 10 (nW 10 Cq)>=>fun abV=>R.ok []>=>fun abW=>R.ok (abV::abW))>=>fit)>=>fun abX=>fit (abU++abX))>=>fun Uw=>(j9 6 (nW 10 Cq)>=>fun abY=>(aP 3 (nW 10 Cq)>=>Fl)>=>fun abZ=>R.ok none>=>fun ab0=>R.ok (cut abY abZ ab0))>=>fun ab1=>fit (Uw++ab1))>=>fun Ux=>R.ok (D.lst Ux))>=>fun Uy=>R.ok []>=>fun Uz=>R.ok (Uy::Uz))>=>fun UA=>R.ok (Uv::UA))>=>fit)>=>fun ds=>R.ok (D.tup ds))>=>fun UB=>R.ok (Out.rt UB)))else(R.ok (Out.nx yV))) fun wx=>
 (aT (((aP 2 wx>=>fun ab2=>R.ok (D.int 8)>=>fun ab3=>R.of (sJ ab2 ab3)>=>dX)>=>fun ab4=>if ab4=true then(aP 3 wx>=>fun ab5=>R.ok (D.int 1)>=>fun ab6=>R.of (Dj ab5 ab6)>=>dX)else R.ok false)>=>fun ab7=>if ab7=true then(aT (((((j9 6 wx>=>fun ab8=>(aP 3 wx>=>fun ab9=>R.ok (D.int 2)>=>fun aca=>R.of (gp ab9 aca))>=>fun acb=>uG ab8 acb)>=>fun acd=>((j9 6 wx>=>fun ace=>(aP 3 wx>=>fun acf=>R.ok (D.int 1)>=>fun acg=>R.of (gp acf acg))>=>fun ach=>uG ace ach)>=>fun aci=>R.ok []>=>fun acj=>R.ok (aci::acj))>=>fun ack=>R.ok (acd::ack))>=>fit)>=>fun ds=>R.ok (D.tup ds))>=>fun acm=>AW acm>=>fun X5=>ownAt 6 wx>=>fun acn=>(aP 3 wx>=>fun aco=>R.ok (D.int 1)>=>fun acp=>R.of (gp aco acp))>=>fun acq=>AV 6 wx X5.1 acn acq>=>fun UC=>ownAt 6 UC>=>fun acr=>(aP 3 UC>=>fun acs=>R.ok (D.int 2)>=>fun acu=>R.of (gp acs acu))>=>fun acv=>sy 6 UC X5.2 acr acv) fun X6=>
 ((((bM 5 (nW 6 X6)>=>fun acw=>(bM 6 (nW 6 X6)>=>fun acx=>R.ok []>=>fun acy=>R.ok (acx::acy))>=>fun acz=>R.ok (acw::acz))>=>fit)>=>fun ds=>R.ok (D.tup ds))>=>fun acA=>R.ok (Out.rt acA)))else(R.ok (Out.nx wx))) fun Cr=>
 ((((bM 5 Cr>=>fun acB=>(((((j9 6 Cr>=>fun acC=>R.ok none>=>fun acD=>(aP 3 Cr>=>Fl)>=>fun acE=>R.ok (cut acC acD acE))>=>fun acF=>((((bM 0 Cr>=>fun acG=>((aP 2 Cr>=>fun acH=>R.ok (D.int 6)>=>fun acI=>R.of (ki acH acI))>=>fun acJ=>(bM 4 Cr>=>fun acK=>R.ok []>=>fun acL=>R.ok (acK::acL))>=>fun acM=>R.ok (acJ::acM))>=>fun acN=>R.ok (acG::acN))>=>fH)>=>fun acO=>R.ok []>=>fun acP=>R.ok (acO::acP))>=>fit)>=>fun acQ=>fit (acF++acQ))>=>fun acR=>(j9 6 Cr>=>fun acS=>(aP 3 Cr>=>Fl)>=>fun acT=>R.ok none>=>fun acU=>R.ok (cut acS acT acU))>=>fun acV=>fit (acR++acV))>=>fun acW=>R.ok (D.lst acW))>=>fun acX=>R.ok []>=>fun acY=>R.ok (acX::acY))>=>fun acZ=>R.ok (acB::acZ))>=>fit)>=>fun ds=>R.ok (D.tup ds))>=>fun ac0=>R.ok (Out.rt ac0)))))))
def gz:=mD 5 11 rR
def cj(d:D)(env:DE):R Out:=
 (bN 4) d env>=>fun v20=>
  (((aP 0 v20>=>fun kI=>(aP 4 v20>=>fun rJ=>R.ok []>=>fun tJ=>R.ok (rJ::tJ))>=>fun qg=>R.ok (kI::qg))>=>br)>=>fun qU=>R.ok (Out.nx v20))
def cu(d:D)(env:DE):R Out:=
 (bN 5) d env>=>fun v30=>
  ((((((((j9 3 v30>=>fun FW=>(aP 5 v30>=>fun Bw=>R.ok (D.int 1)>=>fun zd=>R.of (gp Bw zd))>=>fun Eh=>uG FW Eh)>=>fun Bu=>((j9 3 v30>=>fun Bv=>aP 5 v30>=>fun Eb=>uG Bv Eb)>=>fun Dq=>R.ok []>=>fun Eg=>R.ok (Dq::Eg))>=>fun Ea=>R.ok (Bu::Ea))>=>iK)>=>fun yV=>R.ok (D.lst yV))>=>fun Cd=>R.ok []>=>fun uR=>R.ok (Cd::uR))>=>fun HR=>R.of (lL HR))>=>fun D9=>R.ok (D.int 0)>=>fun HQ=>R.of (Dj D9 HQ)>=>dX)>=>fun FU=>if FU=true then(R.err "NoForm":R Out)else(R.ok (Out.nx v30)))
def qq(env:DE):R Out:=
 (aT ((bM 1 env>=>fun v3=>R.ok (D.int 0)>=>fun v4=>xG v3 v4)>=>fun v2=>R.ok (Out.nx (List.set env 2 (Sl.val v2)))) fun v1=>
 (aT ((bM 1 v1>=>fun v7=>R.ok (D.int 1)>=>fun v8=>xG v7 v8)>=>fun v6=>R.ok (Out.nx (List.set v1 3 (Sl.val v6)))) fun v5=>
 (aT (((aP 0 v5>=>fun jW=>R.ok (D.int 1)>=>fun iA=>R.of (sJ jW iA)>=>dX)>=>fun v11=>if v11=true then(aP 2 v5>=>fun gf=>R.ok (D.int 0)>=>fun jV=>R.of (xM gf jV)>=>dX)else R.ok false)>=>fun v10=>if v10=true then(R.err "NoForm":R Out)else(R.ok (Out.nx v5))) fun v9=>
 (aT ((bM 3 v9>=>vL)>=>fun kj=>cW cj kj v9) fun kc=>
 (aT (((R.ok (D.int 1)>=>fun Ef=>(((aP 3 kc>=>fun Dr=>R.ok []>=>fun K4=>R.ok (Dr::K4))>=>fun Dm=>R.of (lL Dm))>=>fun Ed=>R.ok []>=>fun Ce=>R.ok (Ed::Ce))>=>fun Ec=>R.ok (Ef::Ec))>=>BU)>=>fun wu=>cW cu wu kc) fun vQ=>
 (R.ok (D.bl true)>=>fun HU=>R.ok (Out.rt HU)))))))
def cz:=QL 2 6 qq
def cO:=fun ds=>R.ne (cz ds)
def zV(env:DE):R Out:=
 (aT (((j9 1 env>=>fun v5=>R.ok (D.int 0)>=>fun v6=>uG v5 v6)>=>fun v3=>R.ok (D.int 0)>=>fun v4=>R.of (Dj v3 v4)>=>dX)>=>fun v2=>if v2=true then((((R.ok (D.int 0)>=>fun v8=>((((bM 0 env>=>fun iA=>(bM 1 env>=>fun jV=>R.ok []>=>fun kc=>R.ok (jV::kc))>=>fun gf=>R.ok (iA::gf))>=>nC)>=>fun jW=>R.ok (D.lst jW))>=>fun v10=>R.ok []>=>fun v11=>R.ok (v10::v11))>=>fun v9=>R.ok (v8::v9))>=>fit)>=>fun ds=>R.ok (D.tup ds))>=>fun v7=>R.ok (Out.rt v7))else(R.ok (Out.nx env))) fun v1=>
 ((((((bM 0 v1>=>fun qU=>((((bM 1 v1>=>fun vQ=>R.ok []>=>fun wu=>R.ok (vQ::wu))>=>qi)>=>fun tJ=>R.ok (D.lst tJ))>=>fun qg=>R.ok []>=>fun rJ=>R.ok (qg::rJ))>=>fun kI=>R.ok (qU::kI))>=>nC)>=>fun v20=>R.ok (D.lst v20))>=>fun kJ=>R.ok []>=>fun nj=>R.ok (kJ::nj))>=>jA)>=>fun kj=>R.ok (Out.rt kj)))
def nG:=mD 2 2 zV
def qr(env:DE):R Bool:=
 R.ok true
def kW(env:DE):R D:=
 ((aP 1 env>=>fun Cb=>(aP 0 env>=>fun FU=>(R.ok (D.int 16807)>=>fun HQ=>R.ok []>=>fun HR=>R.ok (HQ::HR))>=>fun D9=>R.ok (FU::D9))>=>fun v30=>R.ok (Cb::v30))>=>cM)
def vU(env:DE):R Out:=
 (aT ((((((j9 0 env>=>fun v7=>R.ok none>=>fun v8=>(R.ok (D.int 63)>=>Fl)>=>fun v9=>R.ok (cut v7 v8 v9))>=>fun v6=>R.ok (D.lst v6))>=>fun v4=>(bM 1 env>=>fun v10=>(R.ok (D.int 189)>=>fun jW=>R.ok []>=>fun iA=>R.ok (jW::iA))>=>fun v11=>R.ok (v10::v11))>=>fun v5=>R.ok (v4::v5))>=>iI)>=>fun v3=>R.ok (D.lst v3))>=>fun v2=>R.ok (Out.nx (List.set env 3 (Sl.val v2)))) fun v1=>
 (aT ((((aP 3 v1>=>fun nj=>R.ok []>=>fun v20=>R.ok (nj::v20))>=>fun kJ=>R.of (lL kJ))>=>fun kc=>aP 2 v1>=>fun kj=>R.of (Zl kc kj)>=>dX)>=>fun jV=>if jV=true then(bM 3 v1>=>fun qU=>R.ok (Out.rt qU))else(R.ok (Out.nx v1))) fun gf=>
 (aT ((((bM 0 gf>=>fun Cd=>vL Cd>=>fun xs=>R.ok (fE xs))>=>fun tJ=>eZ gf []>=>fun vQ=>R.ne (cG (bT 2 (lT (bN 0) (lT (bN 1) AH))) qr kW (jf 2 vQ) tJ)>=>fit)>=>fun rJ=>R.of (zO rJ))>=>fun qg=>R.ok (Out.nx (List.set gf 4 (Sl.val qg)))) fun kI=>
 (aT ((aP 4 kI>=>fun Bu=>((((aP 3 kI>=>fun Eg=>R.ok []>=>fun Bv=>R.ok (Eg::Bv))>=>fun Dq=>R.of (lL Dq))>=>fun Bw=>aP 2 kI>=>fun zd=>R.of (gp Bw zd))>=>fun FW=>R.ok (D.int 1)>=>fun Eh=>R.of (gZ FW Eh))>=>fun Ea=>R.of (ki Bu Ea))>=>fun yV=>R.ok (Out.nx (List.set kI 5 (Sl.val yV)))) fun uR=>
 (((j9 3 uR>=>fun Ec=>(aP 5 uR>=>Fl)>=>fun Ed=>((aP 5 uR>=>fun Dm=>aP 2 uR>=>fun Dr=>R.of (gZ Dm Dr))>=>Fl)>=>fun Ce=>R.ok (cut Ec Ed Ce))>=>fun Ef=>R.ok (D.lst Ef))>=>fun Eb=>R.ok (Out.rt Eb))))))
def jQ:=mD 3 6 vU
def gS(env:DE):R Bool:=
 R.ok true
def cP(env:DE):R D:=
 ((bM 1 env>=>fun v7=>(bM 0 env>=>fun v9=>R.ok []>=>fun v10=>R.ok (v9::v10))>=>fun v8=>R.ok (v7::v8))>=>nG)
def pF(env:DE):R Out:=
 (((((R.ne ((aP 0 env>=>fun jW=>((((bM 1 env>=>fun kj=>R.ok []>=>fun kJ=>R.ok (kj::kJ))>=>nq)>=>fun kc=>R.ok (D.lst kc))>=>fun gf=>R.ok []>=>fun jV=>R.ok (gf::jV))>=>fun iA=>R.ok (jW::iA))>=>Cp))>=>fun v11=>R.ok (map (fun ns=>D.lst (map D.int ns)) v11))>=>fun v3=>eZ env [0]>=>fun v4=>R.ne (cG (bN 0) gS cP (jf 1 v4) v3)>=>fit)>=>fun v2=>R.ok (D.lst v2))>=>fun v1=>R.ok (Out.rt v1))
def eg:=mD 2 2 pF
def eT(env:DE):R Out:=
 ((R.ne (aP 0 env>=>fun v5=>(aP 1 env>=>fun v7=>R.ok []>=>fun v8=>R.ok (v7::v8))>=>fun v6=>R.ok (v5::v6)))>=>fun v4=>cz v4>=>fun _=>R.ok (Out.nx env))
def iM(env:DE):R Out:=
 (aT ((aP 3 env>=>fun v11=>Dl ["NoForm"] ["NoWord","BadText","NoMove","NoRow","Unlike","NoString","BadPicture","TooMany"] v11)>=>fun v10=>R.ok (Out.nx (List.set env 4 (Sl.val v10)))) fun v9=>
 (((aP 3 v9>=>fun gf=>Dl ["NoForm"] ["BraidError"] gf)>=>fun iA=>dX iA>=>fun t=>if t=true then((aP 3 v9>=>fun kc=>Dl ["NoForm"] ["ValueError"] kc)>=>fun jV=>dX jV>=>fun t=>if t=true then(aP 4 v9>=>fun kj=>dX kj>=>fun t=>R.ok (D.bl (!t)))else R.ok (D.bl false))else R.ok (D.bl false))>=>fun jW=>R.ok (Out.nx (List.set v9 2 (Sl.val jW)))))
def qt(env:DE):R Out:=
 (aT (R.ok (D.bl false)>=>fun v2=>R.ok (Out.nx (List.set env 2 (Sl.val v2)))) fun v1=>
 (aT (tryD 3 ["NoForm"] eT iM v1) fun v3=>
 (bM 2 v3>=>fun kJ=>R.ok (Out.rt kJ))))
def dJ:=mS 2 5 qt
section
variable{X:Cx}
theorem Lx{A:Around}{E:Value->Shared->Prop}{s:Shared}{d:Addr}{xs:List (List Key×Addr×Value)}{Q:Value->Shared->Prop}(hd:(d==sysModules)=false)
  (m:Heap.DictOfH (tupleKind (dB X.prog X.w)) s.heap d xs)(z:xs.length<=sizeLine)(q:Q (.int xs.length (s.toks+1)) {s with toks:=s.toks+1+1}):wpAny (model X.prog X.w) A (call (.builtin "len") [.ref d]) Q E s:=by
 have z':xs.length<=16777216:=z
 have inner:∀A,wpAny (model X.prog X.w) A (call (.builtin "dict.__len__") [.ref d]) (fun r s'=>r=.int xs.length s.toks/\s'={s with toks:=s.toks+1}) E s:=fun A=>by
  refine call_meetsIn (S:=fun _ R s'=>s'=s/\R (.ok (.ret (.int xs.length s.toks))) {s with toks:=s.toks+1}) slot_dict_len m.typeIs PySem.F.entry_dict_len (PySem.F.args_dict_len_1 _) (.of_wp fun A R s' h=>?_) ⟨rfl,rfl,rfl⟩
  obtain⟨rfl,h⟩:=h
  obtain⟨o,es,ep,h1,h2,h3,h4,_⟩:=m
  show wpAny _ _ (dictSize d>>=fun n=>_) _ _ _
  unfold dictSize
  refine wpAny_bind (wpAny_bind (wpAny_dictEntries h1 h3 (wpAny_pure (wpAny_bind (wpAny_pendingCount_other hd (wpAny_ret_mkInt ?_))))))
  rw[size_of_entries h4]
  exact h
 refine Calls.call_function_entry kind_len plain_len entry_len (args_len1 _) ?_
 unfold Builtin.«len»
 refine wpAny_bind (wpAny_pure (wpAny_bind (wpAny_callSpecial?_slot (name:=Str.ofString "__len__") m.typeIs slot_dict_len (cC (inner _) fun r s' h=>?_))))
 obtain⟨rfl,rfl⟩:=h
 refine wpAny_bind (wpAny_holding (wpAny_pure (wpAny_bind (wpAny_letGo ?_))))
 show wpAny _ _ (if((xs.length:Nat):Int)<0 then _ else _) _ _ _
 rw[if_neg 'a']
 show wpAny _ _ (if 2^63<=((xs.length:Nat):Int)then _ else _) _ _ _
 rw[if_neg 'a']
 exact wpAny_bind (wpAny_mkInt (wpAny_pure ⟨_,rfl,q⟩))
theorem HW:rK X (.builtin "len") (fun xs H Q=>∃a kvs,xs=[V.ref a]/\H a=some (.dT kvs)/\Q (.int kvs.length) H):=by
 intro pins s σ H xs us Q I r h
 obtain⟨a,kvs,rfl,ha,q⟩:=h
 obtain⟨u,rfl,ru⟩:=vals1 r
 cases ru
 obtain⟨z,hd,ys,rel,dd⟩:=xC I.hok (.inl ha)
 have e:kvs.length=ys.length:=Paired.length rel
 exact Lx hd dd 'a' ⟨.int kvs.length,H,I.tok _,⟨_,by rw[e]⟩,q⟩
theorem OH:Zf X "int.bit_length" (fun x vs H Q=>∃i,x=.int i/\vs=[]/\Q (.int (Builtin.Int.intBits i)) H):=by
 intro pins s σ H x xs v us Q I r rs h
 obtain⟨i,rfl,rfl,q⟩:=h
 obtain⟨t,rfl⟩:=r
 have e:=rs.zero
 subst e
 exact call_int_bit_length ⟨.int _,H,I.tok _,⟨_,rfl⟩,q⟩
end
theorem R.gU {α:Type}(a:α):(R.ok a).ne=.ok a:=rfl
theorem sF{b:D->DE->R DE}{ct:DE->R Bool}{fe:DE->R D}{e₀:DE}(g:Int->Int)(w:List Int)(h:∀k∈w,∃e,b (.int k) e₀=.ok e/\ct e=.ok true/\fe e=.ok (.int (g k))):cG b ct fe e₀ (aI w)=.ok (aI (w.map g)):=by
 rw[kH (fun d=>match d with
  |.int k=>.int (g k)
  |_=>.non) _ fun x hx=>by
   obtain⟨k,hk,rfl⟩:=mem_map.mp hx
   exact h k hk]
 unfold aI
 rw[map_map,map_map]
 rfl
def upTo(n:Nat):List Int:=(range n).map fun i=>((i:Nat):Int)
theorem aw(n:Nat):(upTo n).length=n:=by simp[upTo]
theorem nH(n j:Nat)(h:j<n):(upTo n)[j]?=some (j:Int):=by simp[upTo,h]
theorem HX(n:Nat):upTo (n+1)=upTo n++[(n:Int)]:=by simp[upTo,range_succ]
theorem mem_upTo{n:Nat}{x:Int}:x∈upTo n↔0<=x/\x<n:=by
 simp_all only [upTo,mem_map,mem_range]
 constructor
 ·rintro⟨i,h,rfl⟩;omega
 ·rintro⟨h1,h2⟩;exact⟨x.toNat,by omega,by omega⟩
theorem g4(n:Nat):je 0 n=aI (upTo n):=by
 rw[oi];congr 1;simp[upTo]
theorem Cu(n:Nat):(upTo n).Pairwise (·<=·):=by
 unfold upTo
 rw[pairwise_map]
 exact List.pairwise_lt_range.imp fun h=>by omega
theorem yc(n:Nat):(upTo n).Nodup:=by
 unfold upTo
 unfold Nodup
 rw[pairwise_map]
 exact List.pairwise_lt_range.imp fun h=>by omega
def bp(n:Nat)(r:List Int):Prop:=r.Perm (upTo n)
theorem bp.len {n:Nat}{r:List Int}(h:bp n r):r.length=n:=by rw[h.length_eq,aw]
theorem bp.nd {n:Nat}{r:List Int}(h:bp n r):r.Nodup:=h.nodup_iff.mpr (yc n)
theorem bp.mem {n:Nat}{r:List Int}(h:bp n r){x:Int}:x∈r↔0<=x/\x<n:=h.mem_iff.trans mem_upTo
theorem bp.get {n:Nat}{r:List Int}(h:bp n r){j:Nat}{x:Int}(e:r[j]?=some x):0<=x/\x<n:=h.mem.mp (mem_of_getElem? e)
theorem El(n:Nat):bp n (upTo n):=Perm.refl _
theorem Cv{n:Nat}{r:List Int}(h:bp n r):sortI r=upTo n:=(xT h.symm (Cu n)).symm
def aa(ns:List Int)(k:Nat):Int:=(ns[k]?).getD 0
theorem dh{l:List Int}{j:Nat}(h:j<l.length):l[j]?=some (aa l j):=by
 unfold aa
 rw[getElem?_eq_getElem h]
 rfl
theorem cH{a b:List Int}(hl:a.length=b.length)(h:∀j,j<a.length->aa a j=aa b j):a=b:=by
 refine List.ext_getElem? fun j=>?_
 by_cases hj:j<a.length
 ·rw[dh hj,dh (hl▸hj),h j hj]
 ·rw[getElem?_eq_none 'a',getElem?_eq_none 'a']
theorem aO{n j:Nat}(h:j<n):aa (upTo n) j=j:=by unfold aa;rw[nH n j h];rfl
theorem yd{l:List Int}{j i:Nat}{x:Int}(h:j<l.length):aa (l.set i x) j=if i=j then x else aa l j:=by
 unfold aa
 rw[List.getElem?_set]
 split
 ·subst_vars
  rw[if_pos h]
  rfl
 ·rfl
def jc:List Int->Nat->List Int
 |x::y::l,0=>y::x::l
 |x::l,a+1=>x::jc l a
 |l,_=>l
theorem vV(x:Int)(l:List Int)(a:Nat):jc (x::l) (a+1)=x::jc l a:=by cases l<;>rfl
theorem jB:∀(l:List Int)(a:Nat),(jc l a).length=l.length
 |[],a=>by cases a<;>rfl
 |[x],0=>rfl
 |x::y::l,0=>rfl
 |x::l,a+1=>by rw[vV,length_cons,length_cons,jB l a]
theorem nJ:∀(l:List Int)(a:Nat),a+1<l.length->∀j,aa (jc l a) j=if j=a then aa l (a+1)else if j=a+1 then aa l a else aa l j
 |[],a,h,j=>by simp at h
 |[x],a,h,j=>by simp at h
 |x::y::l,0,h,j=>by
  match j with
  |0=>rfl
  |1=>rfl
  |j+2=>rw[if_neg 'a',if_neg 'a'];rfl
 |x::y::l,a+1,h,j=>by
  rw[vV]
  match j with
  |0=>rw[if_neg 'a',if_neg 'a'];rfl
  |j+1=>
   show aa (jc (y::l) a) j=if j+1=a+1 then aa (y::l) (a+1)else if j+1=a+1+1 then aa (y::l) a else aa (y::l) j
   rw[nJ (y::l) a (by simpa using h) j]
   repeat' split
   all_goals first|rfl|omega
theorem F5:∀(l:List Int)(a:Nat),a+1<l.length->l.take a++[aa l (a+1),aa l a]++l.drop (a+2)=jc l a
 |[],a,h=>by simp at h
 |[x],a,h=>by simp at h
 |x::y::l,0,h=>rfl
 |x::y::l,a+1,h=>by
  rw[vV,<-F5 (y::l) a (by simpa using h)]
  rfl
def sg(a:Nat)(x:Int):Int:=if x=a then(a:Int)+1 else if x=(a:Int)+1 then a else x
def Dt(r:List Int)(a:Nat):List Int:=r.map (sg a)
theorem OI(r:List Int)(a:Nat):(Dt r a).length=r.length:=length_map _
theorem gA{r:List Int}{a p:Nat}(h:p<r.length):aa (Dt r a) p=sg a (aa r p):=by
 have:=dh h
 unfold Dt
 conv=>lhs;unfold aa
 rw[getElem?_map,this]
 rfl
structure Iv(n:Nat)(r s:List Int):Prop where
 lr:r.length=n
 ls:s.length=n
 rs:∀p,p<n->0<=aa r p/\aa r p<n/\aa s (aa r p).toNat=p
 sr:∀v,v<n->0<=aa s v/\aa s v<n/\aa r (aa s v).toNat=v
theorem Iv.symm {n:Nat}{r s:List Int}(h:Iv n r s):Iv n s r:=⟨h.ls,h.lr,h.sr,h.rs⟩
theorem Iv.step {n:Nat}{r s:List Int}(h:Iv n r s){a:Nat}(ha:a+1<n):Iv n (Dt r a) (jc s a):=by
 refine⟨by rw[OI,h.lr],by rw[jB,h.ls],fun p hp=>?_,fun v hv=>?_⟩
 ·obtain⟨h1,h2,h3⟩:=h.rs p hp
  rw[gA (h.lr.symm▸hp),nJ _ _ (h.ls.symm▸ha)]
  generalize aa r p=v at h1 h2 h3
  unfold sg
  by_cases e1:v=a
  ·rw[if_pos e1]
   refine⟨by omega,by omega,?_⟩
   rw[if_neg 'a',if_pos 'a',<-h3,show v.toNat=a by omega]
  ·rw[if_neg e1]
   by_cases e2:v=(a:Int)+1
   ·rw[if_pos e2]
    refine⟨by omega,by omega,?_⟩
    rw[if_pos 'a',<-h3,show v.toNat=a+1 by omega]
   ·rw[if_neg e2]
    refine⟨h1,h2,?_⟩
    rw[if_neg 'a',if_neg 'a',h3]
 ·rw[nJ _ _ (h.ls.symm▸ha)]
  by_cases e1:v=a
  ·obtain⟨h1,h2,h3⟩:=h.sr (a+1) ha
   rw[if_pos e1]
   refine⟨h1,h2,?_⟩
   rw[gA (by rw[h.lr];omega),h3]
   unfold sg
   rw[if_neg 'a',if_pos 'a',e1]
  ·rw[if_neg e1]
   by_cases e2:v=a+1
   ·obtain⟨h1,h2,h3⟩:=h.sr a 'a'
    rw[if_pos e2]
    refine⟨h1,h2,?_⟩
    rw[gA (by rw[h.lr];omega),h3]
    unfold sg
    rw[if_pos rfl,e2]
    omega
   ·obtain⟨h1,h2,h3⟩:=h.sr v hv
    rw[if_neg e2]
    refine⟨h1,h2,?_⟩
    rw[gA (by rw[h.lr];omega),h3]
    unfold sg
    rw[if_neg 'a',if_neg 'a']
theorem Iv.IZ {n:Nat}{r s:List Int}(h:Iv n r s){v w:Nat}(hv:v<n)(hw:w<n)(e:aa s v=aa s w):v=w:=by
 have h1:=(h.sr v hv).2.2
 have h2:=(h.sr w hw).2.2
 rw[e]at h1
 omega
theorem UD{n:Nat}{r:List Int}(h:bp n r):∃s,Iv n r s:=by
 have hc:∀v,v<n->aa ((upTo n).map fun v=>((r.idxOf v:Nat):Int)) v=(r.idxOf ((v:Nat):Int):Nat):=fun v hv=>by
  unfold aa
  rw[getElem?_map,nH n v hv]
  rfl
 refine⟨(upTo n).map fun v=>((r.idxOf v:Nat):Int),h.len,by rw[length_map,aw],fun p hp=>?_,fun v hv=>?_⟩
 ·have Vz:p<r.length:=by rw[h.len];exact hp
  have hg:=h.get (dh Vz)
  refine⟨hg.1,hg.2,?_⟩
  rw[hc _ 'a',show(((aa r p).toNat:Nat):Int)=aa r p by omega]
  have e:aa r p=r[p]:=by
   have:=dh Vz
   rw[getElem?_eq_getElem Vz]at this
   exact(Option.some.inj this).symm
  rw[e,h.nd.idxOf_getElem p Vz]
 ·have hm:(v:Int)∈r:=h.mem.mpr 'a'
  have hl:=List.idxOf_lt_length_of_mem hm
  rw[hc v hv]
  have Oh:=hl
  rw[h.len]at Oh
  refine⟨by omega,by omega,?_⟩
  rw[toNat_natCast]
  have:=dh hl
  rw[getElem?_eq_getElem hl,getElem_idxOf hl]at this
  exact(Option.some.inj this).symm
theorem Iv.idx {n:Nat}{r s:List Int}(h:Iv n r s){v:Nat}(hv:v<n):(v:Int)∈r/\((r.idxOf (v:Int):Nat):Int)=aa s v:=by
 obtain⟨h1,h2,h3⟩:=h.sr v hv
 have hm:(v:Int)∈r:=by
  have:=dh (l:=r) (j:=(aa s v).toNat) (by rw[h.lr];omega)
  rw[h3]at this
  exact mem_of_getElem? this
 refine⟨hm,?_⟩
 have hl:=List.idxOf_lt_length_of_mem hm
 have:=dh hl
 rw[getElem?_eq_getElem hl,getElem_idxOf hl]at this
 have e:=Option.some.inj this
 have Oh:=hl
 rw[h.lr]at Oh
 have h4:=(h.rs _ Oh).2.2
 rw[<-e,toNat_natCast]at h4
 exact h4.symm
def zf(l:List Int):List Int:=((range (l.length-1)).map fun i=>1+((i:Nat):Int)).filter fun k=>decide (aa l k.toNat<aa l (k-1).toNat)
theorem tU{l:List Int}{k:Int}:k∈zf l↔∃a:Nat,k=(a:Int)+1/\a+1<l.length/\aa l (a+1)<aa l a:=by
 unfold zf
 rw[mem_filter,mem_map]
 constructor
 ·rintro⟨⟨i,hi,rfl⟩,h⟩
  rw[mem_range]at hi
  rw[decide_eq_true_eq,show(1+(i:Int)).toNat=i+1 by omega,show(1+(i:Int)-1).toNat=i by omega]at h
  exact⟨i,by omega,by omega,h⟩
 ·rintro⟨a,rfl,h1,h2⟩
  refine⟨⟨a,mem_range.mpr 'a',by omega⟩,?_⟩
  rw[decide_eq_true_eq,show((a:Int)+1).toNat=a+1 by omega,show((a:Int)+1-1).toNat=a by omega]
  exact h2
theorem F6(l:List Int):(zf l).length<=l.length:=by
 have h:=length_filter_le (fun k=>decide (aa l k.toNat<aa l (k-1).toNat)) ((range (l.length-1)).map fun i=>1+((i:Nat):Int))
 unfold zf
 rw[length_map,length_range]at h
 omega
theorem OJ{n:Nat}{r s:List Int}(h:Iv n r s)(hd:∀a,a+1<n->¬aa s (a+1)<aa s a):r=upTo n:=by
 have hlt:∀a,a+1<n->aa s a<aa s (a+1):=fun a ha=>by
  have h1:=hd a ha
  have h2:aa s a≠aa s (a+1):=fun z=>by
   have:=h.IZ 'a' ha z
   omega
  omega
 have hge:∀a,a<n->(a:Int)<=aa s a:=fun a=>by
  induction a with
  |zero=>intro ha;exact(h.sr 0 ha).1
  |succ a ih=>
   intro ha
   have h1:=ih 'a'
   have h2:=hlt a ha
   omega
 have hle:∀d a,a+d+1=n->aa s a<=a:=fun d=>by
  induction d with
  |zero=>
   intro a ha
   have:=(h.sr a 'a').2.1
   omega
  |succ d ih=>
   intro a ha
   have h1:=ih (a+1) 'a'
   have h2:=hlt a 'a'
   omega
 have hs:∀a,a<n->aa s a=a:=fun a ha=>by
  have h1:=hge a ha
  have h2:=hle (n-1-a) a 'a'
  omega
 refine cH (by rw[h.lr,aw]) fun p hp=>?_
 rw[h.lr]at hp
 obtain⟨h1,h2,h3⟩:=h.rs p hp
 rw[hs _ 'a']at h3
 rw[aO hp]
 omega
structure Od(n:Nat)(o r z:List Int):Prop where
 lo:o.length=n
 lz:z.length=n
 at_:∀p,p<n->aa o (aa r p).toNat=aa z p
 cr:∀p q,p<q->q<n->aa r q<aa r p->aa z q<aa z p
def S(n:Nat)(f:Nat->Nat):Nat:=((range n).map f).sum
theorem UE(f:Nat->Nat):S 0 f=0:=rfl
theorem jY(n:Nat)(f:Nat->Nat):S (n+1) f=S n f+f n:=by
 unfold S
 rw[range_succ,map_append,sum_append]
 simp
theorem F7(n:Nat)(f:Nat->Nat):S (n+1) f=f 0+S n fun i=>f (i+1):=by
 unfold S
 rw[range_succ_eq_map,map_cons,sum_cons,map_map]
 rfl
theorem gD{n:Nat}{f g:Nat->Nat}(h:∀i,i<n->f i=g i):S n f=S n g:=by
 induction n with
 |zero=>rfl
 |succ n ih=>rw[jY,jY,ih fun i hi=>h i 'a',h n 'a']
theorem Cw(n:Nat)(f g:Nat->Nat):S n (fun i=>f i+g i)=S n f+S n g:=by
 induction n with
 |zero=>rfl
 |succ n ih=>rw[jY,jY,jY,ih];omega
theorem OO(n c:Nat):S n (fun _=>c)=n*c:=by
 induction n with
 |zero=>rw[Nat.zero_mul];rfl
 |succ n ih=>rw[jY,ih,Nat.succ_mul]
theorem Ly(n m:Nat)(f:Nat->Nat->Nat):S n (fun i=>S m fun j=>f i j)=S m fun j=>S n fun i=>f i j:=by
 induction n with
 |zero=>
  rw[UE,show(fun j=>S 0 fun i=>f i j)=fun _=>0 from rfl,OO,Nat.mul_zero]
 |succ n ih=>
  rw[jY,ih,<-Cw]
  exact gD fun j _=>(jY n fun i=>f i j).symm
theorem UG(n q:Nat)(g:Nat->Nat):S n (fun p=>if p<q then g p else 0)=S (min n q) g:=by
 induction n with
 |zero=>rw[Nat.zero_min];rfl
 |succ n ih=>
  rw[jY,ih]
  by_cases h:n<q
  ·rw[if_pos h,show min n q=n by omega,show min (n+1) q=n+1 by omega,jY]
  ·rw[if_neg h,show min n q=q by omega,show min (n+1) q=q by omega]
   rfl
theorem Lz{n:Nat}{r s:List Int}(h:Iv n r s)(f:Nat->Nat):S n (fun v=>f (aa s v).toNat)=S n f:=by
 unfold S
 have p:((range n).map fun v=>(aa s v).toNat).Perm (range n):=by
  refine(List.perm_ext_iff_of_nodup ?_ List.nodup_range).mpr fun x=>?_
  ·unfold Nodup
   rw[pairwise_map]
   refine Pairwise.imp_of_mem ?_ List.nodup_range
   intro a b ha hb hab e
   rw[mem_range]at ha hb
   have h1:=h.sr a ha
   have h2:=h.sr b hb
   exact hab (h.IZ ha hb 'a')
  ·rw[mem_map]
   constructor
   ·rintro⟨v,hv,rfl⟩
    rw[mem_range]at hv⊢
    have:=h.sr v hv
    omega
   ·intro hx
    rw[mem_range]at hx
    obtain⟨h1,h2,h3⟩:=h.rs x hx
    exact⟨(aa r x).toNat,mem_range.mpr 'a',by rw[h3,toNat_natCast]⟩
 have:=(p.map f).sum_nat
 rw[map_map]at this
 exact this
def zg(x:Int)(pre:List Int):Nat:=(pre.filter fun s=>decide (x<s)).length
theorem Em(x y:Int)(pre:List Int):zg x (pre++[y])=zg x pre+if x<y then 1 else 0:=by
 unfold zg
 rw[List.filter_append,length_append]
 congr 1
 rw[List.filter_cons]
 by_cases h:x<y
 ·rw[if_pos (decide_eq_true h),if_pos h];rfl
 ·rw[if_neg (by rw[decide_eq_true_eq];exact h),if_neg h];rfl
theorem OP{x:Int}{a b:List Int}(p:a.Perm b):zg x a=zg x b:=(p.filter _).length_eq
def By:List Int->List Int->Nat
 |_,[]=>0
 |pre,x::l=>zg x pre+By (pre++[x]) l
theorem Cy:∀(l:List Int){a b:List Int},a.Perm b->By a l=By b l
 |[],a,b,p=>rfl
 |x::l,a,b,p=>by
  unfold By
  rw[OP p,Cy l (p.append_right [x])]
theorem wZ:∀(l:List Int)(a:Nat)(pre:List Int),a+1<l.length->By pre (jc l a)+(if aa l (a+1)<aa l a then 1 else 0)=By pre l+(if aa l a<aa l (a+1)then 1 else 0)
 |[],a,pre,h=>by simp at h
 |[x],a,pre,h=>by simp at h
 |x::y::l,0,pre,h=>by
  show zg y pre+(zg x (pre++[y])+By (pre++[y]++[x]) l)+(if y<x then 1 else 0)=zg x pre+(zg y (pre++[x])+By (pre++[x]++[y]) l)+(if x<y then 1 else 0)
  rw[Em,Em,Cy l (show(pre++[y]++[x]).Perm (pre++[x]++[y])by
   rw[List.append_assoc,List.append_assoc]
   exact Perm.append_left pre (Perm.swap x y []))]
  omega
 |x::y::l,a+1,pre,h=>by
  rw[vV]
  show zg x pre+By (pre++[x]) (jc (y::l) a)+(if aa (y::l) (a+1)<aa (y::l) a then 1 else 0)=zg x pre+By (pre++[x]) (y::l)+(if aa (y::l) a<aa (y::l) (a+1)then 1 else 0)
  have:=wZ (y::l) a (pre++[x]) (by simpa using h)
  omega
theorem QU:∀(l pre:List Int),By pre l=S l.length fun j=>zg (aa l j) (pre++l.take j)
 |[],pre=>rfl
 |x::l,pre=>by
  rw[length_cons,F7]
  show zg x pre+By (pre++[x]) l=_
  rw[QU l (pre++[x]),show zg (aa (x::l) 0) (pre++(x::l).take 0)=zg x pre by rw[List.take_zero,append_nil];rfl]
  congr 1
  refine gD fun i _=>?_
  show zg (aa l i) (pre++[x]++l.take i)=zg (aa l i) (pre++x::l.take i)
  rw[List.append_assoc]
  rfl
theorem X7(x:Int)(l:List Int):∀q,q<=l.length->zg x (l.take q)=S q fun p=>if x<aa l p then 1 else 0
 |0,_=>rfl
 |q+1,h=>by
  have hq:q<l.length:=by omega
  have e:l.take (q+1)=l.take q++[aa l q]:=by
   rw[take_succ,dh hq]
   rfl
  rw[e,Em,X7 x l q 'a',jY]
def iN(l:List Int):Nat:=By [] l
theorem zW(l:List Int):iN l=S l.length fun q=>S l.length fun p=>if p<q then(if aa l q<aa l p then 1 else 0)else 0:=by
 unfold iN
 rw[QU]
 refine gD fun q hq=>?_
 rw[nil_append,X7 _ _ q 'a',UG,show min l.length q=q by omega]
theorem En{n:Nat}{r s:List Int}(h:Iv n r s):iN r=iN s:=by
 rw[zW,zW,h.lr,h.ls,<-Lz h (fun q=>S n fun p=>if p<q then(if aa r q<aa r p then 1 else 0)else 0),Ly n n fun q p=>if p<q then(if aa s q<aa s p then 1 else 0)else 0]
 refine gD fun w hw=>?_
 rw[<-Lz h (fun p=>if p<(aa s w).toNat then(if aa r (aa s w).toNat<aa r p then 1 else 0)else 0)]
 refine gD fun v hv=>?_
 obtain⟨h1,h2,h3⟩:=h.sr w hw
 obtain⟨g1,g2,g3⟩:=h.sr v hv
 rw[h3,g3]
 repeat' split
 all_goals first|rfl|omega
theorem ed{l:List Int}{i:Int}(h:0<=i)(h2:i<l.length):iC (aI l) i=some (.int (aa l i.toNat)):=by
 rw[tj,tw h,dh 'a']
 rfl
theorem gV{b:D->DE->R DE}{ct:DE->R Bool}{fe:DE->R D}{e₀:DE}(P:Int->Bool):∀(w:List Int),(∀k∈w,∃e,b (.int k) e₀=.ok e/\ct e=.ok (P k)/\fe e=.ok (.int k))->cG b ct fe e₀ (aI w)=.ok (aI (w.filter P))
 |[],_=>rfl
 |k::w,h=>by
  obtain⟨e,h1,h2,h3⟩:=h k (by simp)
  have ih:=gV P w fun x hx=>h x (by simp[hx])
  rw[<-jN]
  unfold cG
  rw[h1,R.bF,h2,R.bF,List.filter_cons]
  by_cases hp:P k=true
  ·rw[if_pos hp,if_pos hp,h3,R.bF,ih]
   rfl
  ·rw[if_neg hp,if_neg hp,ih]
theorem OQ(n:Nat)(h:n<=7):BU [.int 1,.int n]=.ok (aI ((range (n-1)).map fun i=>1+((i:Nat):Int))):=by
 rw[uL 1 n 'a',show((n:Int)-1).toNat=n-1 by omega,oi]
theorem OS{n:Nat}{k:Int}(h:k∈(range (n-1)).map fun i=>1+((i:Nat):Int)):∃a:Nat,k=(a:Int)+1/\a+1<n:=by
 obtain⟨i,hi,rfl⟩:=mem_map.mp h
 rw[mem_range]at hi
 exact⟨i,by omega,by omega⟩
theorem Cz{n:Nat}{r s:List Int}(h:Iv n r s){v:Nat}(hv:v<n):qd (aI r) (.int v)=.ok (.int (aa s v)):=by
 unfold qd
 rw[uM]
 obtain⟨h1,h2⟩:=h.idx hv
 show(if(v:Int)∈r then R.ok (D.int (r.idxOf (v:Int):Nat))else R.bad)=_
 rw[if_pos h1,h2]
theorem CA:∀n:Nat,(replicate n [D.int 0]).flatten=aI (replicate n 0)
 |0=>rfl
 |n+1=>by
  rw[replicate_succ,flatten_cons,CA n]
  rfl
theorem qV{n:Nat}{r s:List Int}(h:Iv n r s)(hn:n<=7):cK [.lst (aI r)]=.ok (aI s):=by
 unfold cK vR
 simp_all [bf,h.lr]
 rw[Tf _ _ ⟨by omega,by omega,big (by rw[toNat_natCast,length_cons,length_nil];omega)⟩,toNat_natCast]
 have e0:=CA n
 rw[e0]
 dsimp
 obtain⟨t,e,hj⟩:=sj (S:=List Int×Sl×Sl) (b:=kT) (fun i t=>t.1.length=n/\∀p,p<i->p<n->aa t.1 (aa r p).toNat=p) (fun t=>[.val (.lst (aI r)),.own (aI t.1),t.2.1,t.2.2]) (fE (aI r)) 0 (replicate n 0,.no,.no) ⟨length_replicate,fun p hp=>by omega⟩ (by
  rintro j ⟨l,s2,s3⟩ x ⟨hl,hs⟩ hx
  obtain⟨c,hc,rfl⟩:=zM hx
  rw[zero_add]at hs⊢
  have hjn:j<n:=by
   have:=(List.getElem?_eq_some_iff.mp hc).1
   rwa [h.lr]at this
  rw[dh (by rw[h.lr];exact hjn)]at hc
  have Ja:=Option.some.inj hc
  obtain⟨h1,h2,h3⟩:=h.rs j hjn
  unfold kT
  simp_all only [bT2,reduceIte,ah,ai,aC,aD,aE,aF]
  rw[tm 'a' (by rw[bf];have:l.length=n:=hl;omega),AL,<-Ja]
  refine⟨(l.set (aa r j).toNat j,_,_),rfl,by rw[length_set];exact hl,fun p hp hpn=>?_⟩
  obtain⟨p1,p2,p3⟩:=h.rs p hpn
  have ZD:l.length=n:=hl
  show aa (l.set (aa r j).toNat j) (aa r p).toNat=p
  rw[yd 'a']
  by_cases ep:p=j
  ·subst ep
   rw[if_pos rfl]
  ·rw[if_neg fun z=>by rw[<-z,h3]at p3;omega]
   exact hs p 'a' hpn)
 obtain⟨l,s2,s3⟩:=t
 obtain⟨hl,hs⟩:=hj
 dsimp only at e
 rw[e]
 have el:l=s:=by
  have Oh:l.length=n:=hl
  refine cH (by rw[Oh,h.ls]) fun v hv=>?_
  rw[Oh]at hv
  obtain⟨h1,h2,h3⟩:=h.sr v hv
  have:=hs (aa s v).toNat (by rw[zero_add];unfold fE;rw[length_map,length_zipIdx,bf,h.lr];omega) 'a'
  rw[h3,toNat_natCast]at this
  dsimp only at this
  omega
 rw[el]
 dsimp [jM]
theorem ye(l:List Int)(hn:l.length<=7):lW [.lst (aI l)]=.ok (aI (zf l)):=by
 unfold lW F0
 simp_all [bf]
 rw[OQ _ hn]
 dsimp [eZ]
 rw[gV (fun k=>decide (aa l k.toNat<aa l (k-1).toNat)) _ fun k hk=>⟨_,dA _ _ _,by
  obtain⟨a,rfl,ha⟩:=OS hk
  unfold x8 jf
  dsimp
  rw[ed 'a' 'a',ed 'a' 'a']
  dsimp,by
  unfold x9 jf
  dsimp⟩]
 dsimp [R.gU]
 have hd:=F6 l
 rw[show List.filter _ _=zf l from rfl,dg 'a']
 dsimp [jM]
theorem zX{n:Nat}{r s:List Int}(h:Iv n r s)(hn:n<=7):nA [.lst (aI r)]=.ok (aI (zf s)):=by
 unfold nA Cn
 simp_all
 rw[qV h hn]
 dsimp
 rw[ye s (by rw[h.ls];exact hn)]
 dsimp [jM]
theorem uW{l:List Int}(hn:l.length<=7){a:Nat}(ha:a+1<l.length):aV [.lst (aI l),.int ((a:Int)+1)]=.ok (aI (jc l a)):=by
 unfold aV iJ
 simp_all [qR]
 rw[AK _ _ 'a',xQ _ _ 'a',ed 'a' 'a',ed 'a' 'a',show((a:Int)+1-1).toNat=a by omega,show((a:Int)+1+1).toNat=a+2 by omega,show((a:Int)+1).toNat=a+1 by omega]
 dsimp
 rw[show[D.int (aa l (a+1)),D.int (aa l a)]=aI [aa l (a+1),aa l a]from rfl,AJ,dg (by simp_all only [length_append,length_take,length_cons,length_nil];omega)]
 dsimp
 rw[AJ,F5 l a ha,dg (by rw[jB];omega)]
 dsimp [jM]
theorem LA{n:Nat}{r s:List Int}(h:Iv n r s)(hn:n<=7){a:Nat}(ha:a+1<n):cR [.lst (aI r),.int ((a:Int)+1)]=.ok (aI (Dt r a)):=by
 unfold cR ji
 simp_all
 rw[qV h hn]
 dsimp
 rw[uW (by rw[h.ls];exact hn) (by rw[h.ls];exact ha)]
 dsimp
 rw[qV (h.step ha).symm hn]
 dsimp [jM]
abbrev RP:=List Int×List Int
structure Ad where
 dx:Addr
 kn:Addr
 nu:Addr
 fi:Addr
 la:Addr
 sh:Addr
 lo:Addr
 ke:Addr
 li:Addr
 ks:List Addr
def Ad.hd (A:Ad):List Addr:=[A.dx,A.kn,A.nu,A.fi,A.la,A.sh,A.lo,A.ke,A.li]
def Ad.all (A:Ad):List Addr:=A.hd++A.ks
def wy(A:Ad):List (Str×V):=[("known",.ref A.kn),("numbers",.ref A.nu),("firsts",.ref A.fi),("lasts",.ref A.la),("shorter",.ref A.sh),("longer",.ref A.lo),("kept",.ref A.ke),("line",.ref A.li)]
def kk(r:List Int):List Key:=r.map Sum.inl
theorem ac1(r:List Int):(kk r).map kV=r.map V.int:=by unfold kk;rw[map_map];rfl
theorem LB{r s:List Int}(h:kk r=kk s):r=s:=by
 unfold kk at h
 exact(List.map_inj_right (fun x y e=>Sum.inl.inj e)).mp h
def Eo(ks:List Int):Int:=ks.foldl (fun b k=>Builtin.bitOr b (1*2^(k-1).toNat)) 0
def wz(l:List Int):Int:=Eo (zf l)
def CB(p:RP)(a:Nat):RP:=(jc p.1 a,Dt p.2 a)
def Du(p:RP)(a:Nat):RP:=(Dt p.1 a,jc p.2 a)
def kX(p q:RP):List Int:=(zf q.2).filter fun k=> !decide (k∈zf p.1)
def g5:Nat->RP->RP->RP×RP
 |0,p,q=>(p,q)
 |f+1,p,q=>match (kX p q).getLast? with
  |none=>(p,q)
  |some k=>g5 f (CB p (k-1).toNat) (Du q (k-1).toNat)
theorem Iv.uniq {n:Nat}{r r' s:List Int}(h:Iv n r s)(g:Iv n r' s):r=r':=by
 refine cH (by rw[h.lr,g.lr]) fun j hj=>?_
 obtain⟨a1,a2,a3⟩:=h.rs j (by rw[h.lr]at hj;exact hj)
 obtain⟨b1,b2,b3⟩:=g.sr (aa r j).toNat 'a'
 rw[a3,toNat_natCast]at b3
 omega
theorem F8{n:Nat}{p q:RP}(h:Iv n p.1 p.2)(g:Iv n q.1 q.2)(e:p.1=q.1):p=q:=by
 have h':=h.symm
 rw[e]at h'
 exact Prod.ext e (Iv.uniq h' g.symm)
structure jg(C:Addr)(H:Hp)(a:Addr)(A:Ad)(ex:List (Str×V))(n:Nat)(kn:List RP)(ln:List Int)(B:Nat)(nu sh lo ke:List (List Key×V)):Prop where
 ob:H a=some (.ins C A.dx (wy A++ex))
 dx:∃o,H A.dx=some o
 nd:(a::A.all).Nodup
 hkn:H A.kn=some (.lst (A.ks.map V.ref))
 CC:A.ks.length=kn.length
 hks:∀(i:Nat)(b:Addr)(p:RP),A.ks[i]?=some b->kn[i]?=some p->H b=some (.lst (p.1.map V.int))
 zh:H A.nu=some (.dT nu)
 yW:H A.fi=some (.lst (kn.map fun p=>V.int (wz p.2)))
 hla:H A.la=some (.lst (kn.map fun p=>V.int (wz p.1)))
 hsh:H A.sh=some (.dT sh)
 hlo:H A.lo=some (.dT lo)
 hke:H A.ke=some (.dT ke)
 hli:H A.li=some (.lst (ln.map V.int))
 rw:∀p∈kn,Iv n p.1 p.2
 n1:∀(i:Nat)(p:RP),kn[i]?=some p->dE nu (kk p.1)=some (.int i)
 n2:∀r:List Int,(∀p∈kn,p.1≠r)->dE nu (kk r)=none
 s1:∀(i:Nat)(k:Int)(v:V),dE sh [.inl (i:Int),.inl k]=some v->∃(j:Nat)(p:RP),kn[i]?=some p/\kn[j]?=some (Du p (k-1).toNat)/\v=.int j
 l1:∀(i:Nat)(k:Int)(v:V),dE lo [.inl (i:Int),.inl k]=some v->∃(j:Nat)(p:RP),kn[i]?=some p/\kn[j]?=some (CB p (k-1).toNat)/\v=.int j
 k1:∀(i j:Nat)(v:V),dE ke [.inl (i:Int),.inl (j:Int)]=some v->∃(t:Addr)(i' j':Nat)(p q:RP),kn[i]?=some p/\kn[j]?=some q/\v=.ref t/\H t=some (.tup [.int i',.int j'])/\kn[i']?=some (g5 50 p q).1/\kn[j']?=some (g5 50 p q).2
 z:kn.length<=B/\nu.length<=B/\sh.length<=B/\lo.length<=B/\ke.length<=B
 li:∀m∈ln,0<=m/\m<kn.length
theorem jg.same {C:Addr}{H H':Hp}{a:Addr}{A:Ad}{ex:List (Str×V)}{n:Nat}{kn:List RP}{ln:List Int}{B:Nat}{nu sh lo ke:List (List Key×V)}(c:jg C H a A ex n kn ln B nu sh lo ke)(s:aN H H'):jg C H' a A ex n kn ln B nu sh lo ke:=
 ⟨s _ _ c.ob,let⟨o,h⟩:=c.dx;⟨o,s _ _ h⟩,c.nd,s _ _ c.hkn,c.CC,fun i b p e1 e2=>s _ _ (c.hks i b p e1 e2),s _ _ c.zh,s _ _ c.yW,s _ _ c.hla,s _ _ c.hsh,s _ _ c.hlo,s _ _ c.hke,s _ _ c.hli,c.rw,c.n1,c.n2,c.s1,c.l1,
  fun i j v e=>by
   obtain⟨t,i',j',p,q,h1,h2,h3,h4,h5⟩:=c.k1 i j v e
   exact⟨t,i',j',p,q,h1,h2,h3,s _ _ h4,h5⟩,c.z,c.li⟩
theorem jg.more {C:Addr}{H:Hp}{a:Addr}{A:Ad}{ex:List (Str×V)}{n:Nat}{kn:List RP}{ln:List Int}{B B':Nat}{nu sh lo ke:List (List Key×V)}(c:jg C H a A ex n kn ln B nu sh lo ke)(h:B<=B'):jg C H a A ex n kn ln B' nu sh lo ke:=
 {c with z:=by have:=c.z;omega}
theorem jg.UH {C:Addr}{H:Hp}{a:Addr}{A:Ad}{ex:List (Str×V)}{n:Nat}{kn:List RP}{ln:List Int}{B:Nat}{nu sh lo ke:List (List Key×V)}(c:jg C H a A ex n kn ln B nu sh lo ke):
  (A.kn≠A.fi/\A.kn≠A.la/\A.kn≠A.li/\A.fi≠A.la/\A.fi≠A.li/\A.la≠A.li)/\(A.nu≠A.sh/\A.nu≠A.lo/\A.nu≠A.ke/\A.sh≠A.lo/\A.sh≠A.ke/\A.lo≠A.ke)/\
  (∀b∈A.ks,b≠A.kn/\b≠A.fi/\b≠A.la/\b≠A.li)/\(A.dx≠A.kn/\A.dx≠A.nu/\A.dx≠A.fi/\A.dx≠A.la/\A.dx≠A.sh/\A.dx≠A.lo/\A.dx≠A.ke/\A.dx≠A.li/\a≠A.dx)/\(∀b∈A.ks,b≠A.dx):=by
 have nd:=c.nd
 unfold Ad.all Ad.hd at nd
 simp only [cons_append,nil_append,nodup_cons,mem_cons,not_or]at nd
 obtain⟨⟨a1,a2⟩,⟨d1,d2,d3,d4,d5,d6,d7,d8,d9⟩,⟨k1,k2,k3,k4,k5,k6,k7,k8⟩,⟨n1,n2,n3,n4,n5,n6,n7⟩,⟨f1,f2,f3,f4,f5,f6⟩,⟨l1,l2,l3,l4,l5⟩,⟨s1,s2,s3,s4⟩,⟨o1,o2,o3⟩,⟨e1,e2⟩,i1,_⟩:=nd
 refine⟨⟨k2,k3,k7,f1,f5,l4⟩,⟨n3,n4,n5,s1,s2,o1⟩,fun b hb=>⟨fun z=>k8 (z▸hb),fun z=>f6 (z▸hb),fun z=>l5 (z▸hb),fun z=>i1 (z▸hb)⟩,⟨d1,d2,d3,d4,d5,d6,d7,d8,a1⟩,fun b hb z=>d9 (z▸hb)⟩
structure jd(H H':Hp)(F F':List Addr):Prop where
 kp:∀x o,x∉F->H x=some o->H' x=some o
 nw:∀x∈F',x∈F\/H x=none
 gr:∀x,H' x=none->H x=none
theorem jd.refl (H:Hp)(F:List Addr):jd H H F F:=⟨fun _ _ _ h=>h,fun _ h=>.inl h,fun _ h=>h⟩
theorem jd.trans {H H1 H2:Hp}{F F1 F2:List Addr}(a:jd H H1 F F1)(b:jd H1 H2 F1 F2):jd H H2 F F2:=
 ⟨fun x o hx h=>b.kp x o (fun z=>(a.nw x z).elim hx fun q=>by rw[h]at q;cases q) (a.kp x o hx h),fun x hx=>(b.nw x hx).elim (fun z=>a.nw x z) fun z=>.inr (a.gr x z),fun x hx=>a.gr x (b.gr x hx)⟩
theorem jd.same {H H1:Hp}(s:aN H H1)(F:List Addr):jd H H1 F F:=⟨fun x o _ h=>s x o h,fun _ h=>.inl h,fun _ h=>s.free h⟩
theorem jd.upd {H:Hp}{F:List Addr}{x:Addr}(hx:x∈F)(o:HO):jd H (upd H x o) F F:=⟨fun y o' hy h=>by rw[aj (fun z=>hy (by rw[z];exact hx))];exact h,fun _ h=>.inl h,fun y hy=>by
 by_cases z:y=x
 ·rw[z,ak]at hy;cases hy
 ·rw[aj z]at hy;exact hy⟩
theorem jg.there {C:Addr}{H:Hp}{a:Addr}{A:Ad}{ex:List (Str×V)}{n:Nat}{kn:List RP}{ln:List Int}{B:Nat}{nu sh lo ke:List (List Key×V)}(c:jg C H a A ex n kn ln B nu sh lo ke){x:Addr}(hx:x∈a::A.all):∃o,H x=some o:=by
 rcases mem_cons.mp hx with rfl|hx
 ·exact⟨_,c.ob⟩
 ·rcases mem_append.mp hx with hx|hx
  ·unfold Ad.hd at hx
   simp only [mem_cons,not_mem_nil,or_false]at hx
   rcases hx with rfl|rfl|rfl|rfl|rfl|rfl|rfl|rfl|rfl
   ·exact c.dx
   ·exact⟨_,c.hkn⟩
   ·exact⟨_,c.zh⟩
   ·exact⟨_,c.yW⟩
   ·exact⟨_,c.hla⟩
   ·exact⟨_,c.hsh⟩
   ·exact⟨_,c.hlo⟩
   ·exact⟨_,c.hke⟩
   ·exact⟨_,c.hli⟩
  ·obtain⟨i,hi,ei⟩:=getElem_of_mem hx
   exact⟨_,c.hks i x (kn[i]'(by rw[<-c.CC];exact hi)) (by rw[getElem?_eq_getElem hi,ei]) (getElem?_eq_getElem (by rw[<-c.CC];exact hi))⟩
theorem qu{α:Type}{l:List α}{x y:α}{i:Nat}(e:(l++[x])[i]?=some y)(h:¬i<l.length):i=l.length/\x=y:=by
 have h1:=(List.getElem?_eq_some_iff.mp e).1
 rw[length_append,length_singleton]at h1
 have h2:i=l.length:=by omega
 subst h2
 exact⟨rfl,by simpa using e⟩
theorem cy{α:Type}{l m:List α}{x:α}{i:Nat}(e:l[i]?=some x):(l++m)[i]?=some x:=by
 rw[getElem?_append_left (List.getElem?_eq_some_iff.mp e).1]
 exact e
theorem jg.add {C:Addr}{H H9:Hp}{a:Addr}{A:Ad}{ex:List (Str×V)}{n:Nat}{kn:List RP}{ln:List Int}{B:Nat}{nu sh lo ke:List (List Key×V)}(c:jg C H a A ex n kn ln B nu sh lo ke){p:RP}(hm:¬∃q∈kn,q.1=p.1)(iv:Iv n p.1 p.2){l2:Addr}(VL:H l2=none)
  (ZE:H9 a=some (.ins C A.dx (wy A++ex)))(ZF:H9 A.nu=some (.dT (putK nu (kk p.1) (.int (kn.length:Int)))))(kn9:H9 A.kn=some (.lst (A.ks.map V.ref++[.ref l2])))
  (fi9:H9 A.fi=some (.lst ((kn.map fun p=>V.int (wz p.2))++[V.int (wz p.2)])))(la9:H9 A.la=some (.lst ((kn.map fun p=>V.int (wz p.1))++[V.int (wz p.1)])))(l29:H9 l2=some (.lst (p.1.map V.int)))
  (keep:∀x o,x≠A.nu->x≠A.kn->x≠A.fi->x≠A.la->H x=some o->H9 x=some o):jg C H9 a {A with ks:=A.ks++[l2]} ex n (kn++[p]) ln (B+1) (putK nu (kk p.1) (.int (kn.length:Int))) sh lo ke:=by
 have zj:∀j,dE (putK nu (kk p.1) (.int (kn.length:Int))) j=if j=kk p.1 then some (.int (kn.length:Int))else dE nu j:=fun j=>kP nu (kk p.1) j _
 have hz:(kn++[p]).length<=B+1/\(putK nu (kk p.1) (.int (kn.length:Int))).length<=B+1/\sh.length<=B+1/\lo.length<=B+1/\ke.length<=B+1:=by
  have h0:=c.z
  have h1:=gY nu (kk p.1) (.int (kn.length:Int))
  rw[length_append,length_singleton]
  omega
 have hli:∀m∈ln,0<=m/\m<((kn++[p]).length:Int):=fun m hm'=>by
  have:=c.li m hm'
  rw[length_append]
  omega
 have nl:∀{x y:Addr}{xs:List V}{kv:List (List Key×V)},H x=some (.lst xs)->H y=some (.dT kv)->x≠y:=fun h1 h2=>bO h1 h2 (by intro z;cases z)
 obtain⟨⟨n1,n2,n3,n4,n5,n6⟩,⟨m1,m2,m3,m4,m5,m6⟩,UI,⟨d1,d2,d3,d4,d5,d6,d7,d8,d9⟩,X8⟩:=c.UH
 refine⟨ZE,?_,?_,by rw[map_append];exact kn9,by rw[length_append,length_append,c.CC];rfl,fun i b' q' e1 e2=>?_,ZF,by rw[map_append];exact fi9,by rw[map_append];exact la9,
  keep _ _ (Ne.symm m1) (Ne.symm (nl c.hkn c.hsh)) (Ne.symm (nl c.yW c.hsh)) (Ne.symm (nl c.hla c.hsh)) c.hsh,
  keep _ _ (Ne.symm m2) (Ne.symm (nl c.hkn c.hlo)) (Ne.symm (nl c.yW c.hlo)) (Ne.symm (nl c.hla c.hlo)) c.hlo,
  keep _ _ (Ne.symm m3) (Ne.symm (nl c.hkn c.hke)) (Ne.symm (nl c.yW c.hke)) (Ne.symm (nl c.hla c.hke)) c.hke,
  keep _ _ (nl c.hli c.zh) (Ne.symm n3) (Ne.symm n5) (Ne.symm n6) c.hli,fun q' ND=>?_,fun i q' e=>?_,fun r hr'=>?_,fun i k' v e=>?_,fun i k' v e=>?_,fun i j v e=>?_,hz,hli⟩
 ·obtain⟨o,ho⟩:=c.dx
  exact⟨o,keep _ _ d2 d1 d3 d4 ho⟩
 ·show(a::(A.hd++(A.ks++[l2]))).Nodup
  rw[<-List.append_assoc,<-cons_append,List.nodup_append]
  refine⟨c.nd,by simp,fun x hx y hy=>?_⟩
  have ey:y=l2:=by simpa using hy
  rw[ey]
  intro z
  obtain⟨o,ho⟩:=c.there hx
  rw[z,VL]at ho
  cases ho
 ·have NT:(A.ks++[l2])[i]?=some b':=e1
  by_cases hi:i<kn.length
  ·rw[getElem?_append_left (by rw[c.CC];exact hi)]at NT
   rw[getElem?_append_left hi]at e2
   have M6:=UI b' (mem_of_getElem? NT)
   have hbH:=c.hks i b' q' NT e2
   exact keep _ _ (nl hbH c.zh) M6.1 M6.2.1 M6.2.2.1 hbH
  ·obtain⟨_,z2⟩:=qu e2 hi
   obtain⟨_,z1⟩:=qu NT (by rw[c.CC];exact hi)
   rw[<-z1,<-z2]
   exact l29
 ·rcases mem_append.mp ND with h|h
  ·exact c.rw q' h
  ·have:q'=p:=by simpa using h
   rw[this];exact iv
 ·rw[zj]
  by_cases hi:i<kn.length
  ·rw[getElem?_append_left hi]at e
   have hne:¬kk q'.1=kk p.1:=fun z=>hm ⟨q',mem_of_getElem? e,LB z⟩
   rw[if_neg hne]
   exact c.n1 i q' e
  ·obtain⟨z1,z2⟩:=qu e hi
   rw[<-z2,if_pos rfl,z1]
 ·rw[zj,if_neg (fun z=>hr' p (by simp) (LB z).symm)]
  exact c.n2 r fun q' ND=>hr' q' (by simp[ND])
 ·obtain⟨j,p',h1,h2,h3⟩:=c.s1 i k' v e
  exact⟨j,p',cy h1,cy h2,h3⟩
 ·obtain⟨j,p',h1,h2,h3⟩:=c.l1 i k' v e
  exact⟨j,p',cy h1,cy h2,h3⟩
 ·obtain⟨t',i',j',p',q',h1,h2,h3,h4,h5,h6⟩:=c.k1 i j v e
  have nt:∀{y:Addr}{xs:List V},H y=some (.lst xs)->t'≠y:=fun h=>bO h4 h (by intro z;cases z)
  exact⟨t',i',j',p',q',cy h1,cy h2,h3,keep _ _ (bO h4 c.zh (by intro z;cases z)) (nt c.hkn) (nt c.yW) (nt c.hla) h4,cy h5,cy h6⟩
theorem jg.UJ {C:Addr}{H:Hp}{a:Addr}{A:Ad}{ex:List (Str×V)}{n:Nat}{kn:List RP}{ln:List Int}{B:Nat}{nu sh lo ke:List (List Key×V)}(c:jg C H a A ex n kn ln B nu sh lo ke){i j:Nat}{k:Int}{p:RP}(hi:kn[i]?=some p)(hj:kn[j]?=some (Du p (k-1).toNat)):
  jg C (upd H A.sh (.dT (putK sh [.inl (i:Int),.inl k] (.int j)))) a A ex n kn ln (B+1) nu (putK sh [.inl (i:Int),.inl k] (.int j)) lo ke:=by
 have hz:kn.length<=B+1/\nu.length<=B+1/\(putK sh ([.inl (i:Int),.inl k]:List Key) (.int j)).length<=B+1/\lo.length<=B+1/\ke.length<=B+1:=by
  have h0:=c.z
  have h1:=gY sh ([.inl (i:Int),.inl k]:List Key) (.int j)
  omega
 have zj:∀x,dE (putK sh ([.inl (i:Int),.inl k]:List Key) (.int j)) x=if x=[.inl (i:Int),.inl k]then some (.int j)else dE sh x:=fun x=>kP sh _ x _
 have nl:∀{x:Addr}{xs:List V},H x=some (.lst xs)->x≠A.sh:=fun h1=>bO h1 c.hsh (by intro z;cases z)
 obtain⟨_,⟨m1,m2,m3,m4,m5,m6⟩,UI,⟨d1,d2,d3,d4,d5,d6,d7,d8,d9⟩,X8⟩:=c.UH
 have kp:∀x o,x≠A.sh->H x=some o->(upd H A.sh (.dT (putK sh [.inl (i:Int),.inl k] (.int j)))) x=some o:=fun x o hx h=>by rw[aj hx];exact h
 have sem:∀(i':Nat)(k':Int)(v:V),dE (putK sh ([.inl (i:Int),.inl k]:List Key) (.int j)) [.inl (i':Int),.inl k']=some v->∃(j:Nat)(p:RP),kn[i']?=some p/\kn[j]?=some (Du p (k'-1).toNat)/\v=.int j:=fun i' k' v e=>by
  rw[zj]at e
  split at e
  ·rename_i z
   injection z with z1 z2
   injection z2 with z2 _
   have q1:(i':Int)=i:=Sum.inl.inj z1
   have q2:k'=k:=Sum.inl.inj z2
   have q3:i'=i:=by omega
   subst q2 q3
   cases e
   exact⟨j,p,hi,hj,rfl⟩
  ·exact c.s1 i' k' v e
 refine⟨kp _ _ (bO c.ob c.hsh (by intro z;cases z)) c.ob,?_,c.nd,kp _ _ (nl c.hkn) c.hkn,c.CC,fun i b p e1 e2=>kp _ _ (nl (c.hks i b p e1 e2)) (c.hks i b p e1 e2),kp _ _ m1 c.zh,kp _ _ (nl c.yW) c.yW,kp _ _ (nl c.hla) c.hla,ak,kp _ _ (Ne.symm m4) c.hlo,kp _ _ (Ne.symm m5) c.hke,kp _ _ (nl c.hli) c.hli,c.rw,c.n1,c.n2,sem,c.l1,fun i j v e=>?_,hz,c.li⟩
 ·obtain⟨o,h⟩:=c.dx
  exact⟨o,kp _ _ d5 h⟩
 ·obtain⟨t,i',j',p,q,h1,h2,h3,h4,h5⟩:=c.k1 i j v e
  exact⟨t,i',j',p,q,h1,h2,h3,kp _ _ (bO h4 c.hsh (by intro z;cases z)) h4,h5⟩
theorem jg.UK {C:Addr}{H:Hp}{a:Addr}{A:Ad}{ex:List (Str×V)}{n:Nat}{kn:List RP}{ln:List Int}{B:Nat}{nu sh lo ke:List (List Key×V)}(c:jg C H a A ex n kn ln B nu sh lo ke){i j:Nat}{k:Int}{p:RP}(hi:kn[i]?=some p)(hj:kn[j]?=some (CB p (k-1).toNat)):
  jg C (upd H A.lo (.dT (putK lo [.inl (i:Int),.inl k] (.int j)))) a A ex n kn ln (B+1) nu sh (putK lo [.inl (i:Int),.inl k] (.int j)) ke:=by
 have hz:kn.length<=B+1/\nu.length<=B+1/\sh.length<=B+1/\(putK lo ([.inl (i:Int),.inl k]:List Key) (.int j)).length<=B+1/\ke.length<=B+1:=by
  have h0:=c.z
  have h1:=gY lo ([.inl (i:Int),.inl k]:List Key) (.int j)
  omega
 have zj:∀x,dE (putK lo ([.inl (i:Int),.inl k]:List Key) (.int j)) x=if x=[.inl (i:Int),.inl k]then some (.int j)else dE lo x:=fun x=>kP lo _ x _
 have nl:∀{x:Addr}{xs:List V},H x=some (.lst xs)->x≠A.lo:=fun h1=>bO h1 c.hlo (by intro z;cases z)
 obtain⟨_,⟨m1,m2,m3,m4,m5,m6⟩,UI,⟨d1,d2,d3,d4,d5,d6,d7,d8,d9⟩,X8⟩:=c.UH
 have kp:∀x o,x≠A.lo->H x=some o->(upd H A.lo (.dT (putK lo [.inl (i:Int),.inl k] (.int j)))) x=some o:=fun x o hx h=>by rw[aj hx];exact h
 have sem:∀(i':Nat)(k':Int)(v:V),dE (putK lo ([.inl (i:Int),.inl k]:List Key) (.int j)) [.inl (i':Int),.inl k']=some v->∃(j:Nat)(p:RP),kn[i']?=some p/\kn[j]?=some (CB p (k'-1).toNat)/\v=.int j:=fun i' k' v e=>by
  rw[zj]at e
  split at e
  ·rename_i z
   injection z with z1 z2
   injection z2 with z2 _
   have q1:(i':Int)=i:=Sum.inl.inj z1
   have q2:k'=k:=Sum.inl.inj z2
   have q3:i'=i:=by omega
   subst q2 q3
   cases e
   exact⟨j,p,hi,hj,rfl⟩
  ·exact c.l1 i' k' v e
 refine⟨kp _ _ (bO c.ob c.hlo (by intro z;cases z)) c.ob,?_,c.nd,kp _ _ (nl c.hkn) c.hkn,c.CC,fun i b p e1 e2=>kp _ _ (nl (c.hks i b p e1 e2)) (c.hks i b p e1 e2),kp _ _ m2 c.zh,kp _ _ (nl c.yW) c.yW,kp _ _ (nl c.hla) c.hla,kp _ _ m4 c.hsh,ak,kp _ _ (Ne.symm m6) c.hke,kp _ _ (nl c.hli) c.hli,c.rw,c.n1,c.n2,c.s1,sem,fun i j v e=>?_,hz,c.li⟩
 ·obtain⟨o,h⟩:=c.dx
  exact⟨o,kp _ _ d6 h⟩
 ·obtain⟨t,i',j',p,q,h1,h2,h3,h4,h5⟩:=c.k1 i j v e
  exact⟨t,i',j',p,q,h1,h2,h3,kp _ _ (bO h4 c.hlo (by intro z;cases z)) h4,h5⟩
theorem jg.UL {C:Addr}{H:Hp}{a:Addr}{A:Ad}{ex:List (Str×V)}{n:Nat}{kn:List RP}{ln:List Int}{B:Nat}{nu sh lo ke:List (List Key×V)}(c:jg C H a A ex n kn ln B nu sh lo ke){i j i' j':Nat}{p q:RP}{t:Addr}(hi:kn[i]?=some p)(hj:kn[j]?=some q)(ht:H t=some (.tup [.int i',.int j']))(Ep:kn[i']?=some (g5 50 p q).1)(Bx:kn[j']?=some (g5 50 p q).2):
  jg C (upd H A.ke (.dT (putK ke [.inl (i:Int),.inl (j:Int)] (.ref t)))) a A ex n kn ln (B+1) nu sh lo (putK ke [.inl (i:Int),.inl (j:Int)] (.ref t)):=by
 have hz:kn.length<=B+1/\nu.length<=B+1/\sh.length<=B+1/\lo.length<=B+1/\(putK ke ([.inl (i:Int),.inl (j:Int)]:List Key) (.ref t)).length<=B+1:=by
  have h0:=c.z
  have h1:=gY ke ([.inl (i:Int),.inl (j:Int)]:List Key) (.ref t)
  omega
 have zj:∀x,dE (putK ke ([.inl (i:Int),.inl (j:Int)]:List Key) (.ref t)) x=if x=[.inl (i:Int),.inl (j:Int)]then some (.ref t)else dE ke x:=fun x=>kP ke _ x _
 have nl:∀{x:Addr}{xs:List V},H x=some (.lst xs)->x≠A.ke:=fun h1=>bO h1 c.hke (by intro z;cases z)
 have nt:∀{x:Addr}{xs:List V},H x=some (.tup xs)->x≠A.ke:=fun h1=>bO h1 c.hke (by intro z;cases z)
 obtain⟨_,⟨m1,m2,m3,m4,m5,m6⟩,UI,⟨d1,d2,d3,d4,d5,d6,d7,d8,d9⟩,X8⟩:=c.UH
 have kp:∀x o,x≠A.ke->H x=some o->(upd H A.ke (.dT (putK ke [.inl (i:Int),.inl (j:Int)] (.ref t)))) x=some o:=fun x o hx h=>by rw[aj hx];exact h
 refine⟨kp _ _ (bO c.ob c.hke (by intro z;cases z)) c.ob,?_,c.nd,kp _ _ (nl c.hkn) c.hkn,c.CC,fun i b p e1 e2=>kp _ _ (nl (c.hks i b p e1 e2)) (c.hks i b p e1 e2),kp _ _ m3 c.zh,kp _ _ (nl c.yW) c.yW,kp _ _ (nl c.hla) c.hla,kp _ _ m5 c.hsh,kp _ _ m6 c.hlo,ak,kp _ _ (nl c.hli) c.hli,c.rw,c.n1,c.n2,c.s1,c.l1,fun x y v e=>?_,hz,c.li⟩
 ·obtain⟨o,h⟩:=c.dx
  exact⟨o,kp _ _ d7 h⟩
 ·rw[zj]at e
  split at e
  ·rename_i z
   injection z with z1 z2
   injection z2 with z2 _
   have q1:(x:Int)=i:=Sum.inl.inj z1
   have q2:(y:Int)=j:=Sum.inl.inj z2
   have q3:x=i:=by omega
   have q4:y=j:=by omega
   subst q3 q4
   cases e
   exact⟨t,i',j',p,q,hi,hj,rfl,kp _ _ (nt ht) ht,Ep,Bx⟩
  ·obtain⟨t,i',j',p,q,h1,h2,h3,h4,h5⟩:=c.k1 x y v e
   exact⟨t,i',j',p,q,h1,h2,h3,kp _ _ (nt h4) h4,h5⟩
section
variable{A:Ad}{ex:List (Str×V)}
theorem zY:(wy A++ex).lookup ("known":Str)=some (.ref A.kn):=rfl
theorem F9:(wy A++ex).lookup ("numbers":Str)=some (.ref A.nu):=rfl
theorem LC:(wy A++ex).lookup ("firsts":Str)=some (.ref A.fi):=rfl
theorem LD:(wy A++ex).lookup ("lasts":Str)=some (.ref A.la):=rfl
theorem Ga:(wy A++ex).lookup ("shorter":Str)=some (.ref A.sh):=rfl
theorem Gb:(wy A++ex).lookup ("longer":Str)=some (.ref A.lo):=rfl
theorem LG:(wy A++ex).lookup ("kept":Str)=some (.ref A.ke):=rfl
theorem CD:(wy A++ex).lookup ("line":Str)=some (.ref A.li):=rfl
end
def vW(z w:Int):List (Str×V):=[("none",.int z),("whole",.int w)]
theorem QV{A:Ad}{z w:Int}:(wy A++vW z w).lookup ("none":Str)=some (.int z):=rfl
theorem X9{A:Ad}{z w:Int}:(wy A++vW z w).lookup ("whole":Str)=some (.int w):=rfl
abbrev six:List Int:=[1,2,3,4,5,6]
def UM(l:List (Int×Bool)):List Int:=(l.filter (·.2)).map (·.1)
def sel(b1 b2 b3 b4 b5 b6:Bool):List Int:=UM [(1,b1),(2,b2),(3,b3),(4,b4),(5,b5),(6,b6)]
theorem yf(f:Int->Bool):∀l:List Int,l.filter f=UM (l.map fun k=>(k,f k))
 |[]=>rfl
 |k::l=>by
  have ih:=yf f l
  unfold UM at ih⊢
  rw[map_cons]
  cases h:f k with
  |true=>rw[List.filter_cons_of_pos h,List.filter_cons_of_pos (by rfl),map_cons,ih]
  |false=>rw[List.filter_cons_of_neg (by rw[h];decide),List.filter_cons_of_neg (by simp),ih]
theorem tV(f:Int->Bool):six.filter f=sel (f 1) (f 2) (f 3) (f 4) (f 5) (f 6):=yf f six
theorem OT(f:Int->Bool):∀m:Nat,m<=7->((range (m-1)).map fun i=>1+((i:Nat):Int)).filter f=six.filter fun k=>decide (k.toNat<m)&&f k
 |0,_=>rfl
 |1,_=>rfl
 |2,_=>rfl
 |3,_=>rfl
 |4,_=>rfl
 |5,_=>rfl
 |6,_=>rfl
 |7,_=>rfl
 |m+8,h=>by omega
def Yb(l:List Int)(k:Int):Bool:=decide (k.toNat<l.length)&&decide (aa l k.toNat<aa l (k-1).toNat)
theorem w6{l:List Int}(h:l.length<=7):zf l=six.filter (Yb l):=OT _ l.length h
theorem LH:∀b1 b2 b3 b4 b5 b6 c1 c2 c3 c4 c5 c6:Bool,Builtin.bitAnd (Eo (sel b1 b2 b3 b4 b5 b6)) (Builtin.bitNot (Eo (sel c1 c2 c3 c4 c5 c6)))=Eo (sel (b1&& !c1) (b2&& !c2) (b3&& !c3) (b4&& !c4) (b5&& !c5) (b6&& !c6)):=by decide +kernel
theorem CF:∀b1 b2 b3 b4 b5 b6:Bool,decide (0<Eo (sel b1 b2 b3 b4 b5 b6))=(sel b1 b2 b3 b4 b5 b6).getLast?.isSome/\∀k∈(sel b1 b2 b3 b4 b5 b6).getLast?,((Builtin.Int.intBits (Eo (sel b1 b2 b3 b4 b5 b6)):Nat):Int)=k:=by decide +kernel
theorem A0{p q:RP}(hp:p.1.length<=7)(hq:q.2.length<=7):kX p q=six.filter fun k=>Yb q.2 k&& !Yb p.1 k:=by
 unfold kX
 rw[w6 hq,w6 hp,List.filter_filter]
 refine List.filter_congr fun k hk=>?_
 have:decide (k∈six.filter (Yb p.1))=Yb p.1 k:=by
  rw[Bool.eq_iff_iff,decide_eq_true_iff,mem_filter]
  exact⟨fun h=>h.2,fun h=>⟨hk,h⟩⟩
 rw[this,Bool.and_comm]
theorem Gd{p q:RP}(hp:p.1.length<=7)(hq:q.2.length<=7):Builtin.bitAnd (wz q.2) (Builtin.bitNot (wz p.1))=Eo (kX p q):=by
 unfold wz
 rw[w6 hq,w6 hp,A0 hp hq,tV,tV,tV]
 exact LH ..
theorem LJ{p q:RP}(hp:p.1.length<=7)(hq:q.2.length<=7):decide (0<Eo (kX p q))=(kX p q).getLast?.isSome:=by
 rw[A0 hp hq,tV]
 exact(CF ..).1
theorem LK{p q:RP}(hp:p.1.length<=7)(hq:q.2.length<=7){k:Int}(h:(kX p q).getLast?=some k):((Builtin.Int.intBits (Eo (kX p q)):Nat):Int)=k:=by
 rw[A0 hp hq,tV]at h⊢
 exact(CF ..).2 k h
theorem zZ:∀(l pre:List Int),By pre l<=l.length*(pre.length+l.length)
 |[],pre=>by simp[By]
 |x::l,pre=>by
  have h1:zg x pre<=pre.length:=length_filter_le _ _
  have h2:=zZ l (pre++[x])
  rw[length_append,length_singleton]at h2
  show zg x pre+By (pre++[x]) l<=(l.length+1)*(pre.length+(l.length+1))
  rw[Nat.add_mul,show pre.length+(l.length+1)=pre.length+1+l.length by omega]
  omega
theorem uX{n:Nat}{p:RP}(hn:n<=7)(h:Iv n p.1 p.2):iN p.1<=49:=by
 have h1:=zZ p.1 []
 rw[h.lr,length_nil,zero_add]at h1
 have h2:n*n<=7*7:=Nat.mul_le_mul hn hn
 unfold iN
 omega
theorem qW{n:Nat}{p q:RP}(hp:Iv n p.1 p.2)(hq:Iv n q.1 q.2){k:Int}(h:k∈kX p q):∃j:Nat,k=(j:Int)+1/\j+1<n/\aa p.1 j<aa p.1 (j+1)/\aa q.2 (j+1)<aa q.2 j:=by
 unfold kX at h
 obtain⟨h1,h2⟩:=mem_filter.mp h
 obtain⟨j,e,h3,h4⟩:=tU.mp h1
 rw[hq.ls]at h3
 have h5:k∉zf p.1:=by simpa using h2
 have h6:¬aa p.1 (j+1)<aa p.1 j:=fun z=>h5 (tU.mpr ⟨j,e,by rw[hp.lr];exact h3,z⟩)
 have h7:aa p.1 j≠aa p.1 (j+1):=fun z=>by
  have:=hp.symm.IZ (v:=j) (w:=j+1) 'a' h3 z
  omega
 exact⟨j,e,h3,by omega,h4⟩
theorem uY{n:Nat}{p:RP}(h:Iv n p.1 p.2){j:Nat}(hj:j+1<n):Iv n (CB p j).1 (CB p j).2:=(h.symm.step hj).symm
theorem uZ{n:Nat}{p:RP}(h:Iv n p.1 p.2){j:Nat}(hj:j+1<n):Iv n (Du p j).1 (Du p j).2:=h.step hj
theorem qv{p q:RP}{k:Int}(f:Nat)(h:(kX p q).getLast?=some k):g5 (f+1) p q=g5 f (CB p (k-1).toNat) (Du q (k-1).toNat):=by
 show(match (kX p q).getLast? with
  |none=>(p,q)
  |some k=>g5 f (CB p (k-1).toNat) (Du q (k-1).toNat))=_
 rw[h]
theorem qw{p q:RP}(f:Nat)(h:(kX p q).getLast?=none):g5 f p q=(p,q):=by
 cases f with
 |zero=>rfl
 |succ f=>
  show(match (kX p q).getLast? with
   |none=>(p,q)
   |some k=>g5 f (CB p (k-1).toNat) (Du q (k-1).toNat))=_
  rw[h]
theorem LL{n:Nat}{p:RP}(h:Iv n p.1 p.2){j:Nat}(hj:j+1<n)(hl:aa p.1 j<aa p.1 (j+1)):iN p.1<iN (CB p j).1:=by
 have e:=wZ p.1 j [] (by rw[h.lr];exact hj)
 show By [] p.1<By [] (jc p.1 j)
 rw[if_pos hl,if_neg 'a']at e
 omega
def nI(ls:List Nat):List Int:=ls.map fun(m:Nat)=>(m:Int)
def di(kn:List RP)(ls:List Nat)(R:List RP):Prop:=ls.map (fun m=>kn[m]?)=R.map some
theorem di.len {kn:List RP}{ls:List Nat}{R:List RP}(h:di kn ls R):ls.length=R.length:=by
 have:=congrArg length h
 simpa using this
theorem di.at {kn:List RP}{ls:List Nat}{R:List RP}(h:di kn ls R){i:Nat}{r:RP}(e:R[i]?=some r):∃m,ls[i]?=some m/\kn[m]?=some r:=by
 have h1:(ls.map fun m=>kn[m]?)[i]?=(R.map some)[i]?:=by rw[show ls.map (fun m=>kn[m]?)=R.map some from h]
 rw[getElem?_map,getElem?_map,e]at h1
 cases h2:ls[i]? with
 |none=>rw[h2]at h1;cases h1
 |some m=>rw[h2]at h1;exact⟨m,rfl,Option.some.inj h1⟩
theorem di.mem {kn:List RP}{ls:List Nat}{R:List RP}(h:di kn ls R){m:Nat}(hm:m∈ls):m<kn.length:=by
 have:kn[m]?∈R.map some:=by rw[<-show ls.map (fun m=>kn[m]?)=R.map some from h];exact mem_map.mpr ⟨m,hm,rfl⟩
 obtain⟨r,_,e⟩:=mem_map.mp this
 exact(List.getElem?_eq_some_iff.mp e.symm).1
theorem di.li {kn:List RP}{ls:List Nat}{R:List RP}(h:di kn ls R):∀m∈nI ls,0<=m/\m<kn.length:=fun m hm=>by
 obtain⟨x,hx,rfl⟩:=mem_map.mp hm
 have:=h.mem hx
 omega
theorem di.pre {kn mo:List RP}{ls:List Nat}{R:List RP}(h:di kn ls R):di (kn++mo) ls R:=by
 unfold di
 rw[<-show ls.map (fun m=>kn[m]?)=R.map some from h]
 refine map_congr_left fun m hm=>?_
 rw[getElem?_append_left (h.mem hm)]
theorem di.app {kn:List RP}{ls:List Nat}{R:List RP}(h:di kn ls R){m:Nat}{r:RP}(e:kn[m]?=some r):di kn (ls++[m]) (R++[r]):=by
 unfold di
 rw[map_append,map_append,show ls.map (fun m=>kn[m]?)=R.map some from h]
 simp[e]
theorem di.set {kn:List RP}{ls:List Nat}{R:List RP}(h:di kn ls R)(i:Nat){m:Nat}{r:RP}(e:kn[m]?=some r):di kn (ls.set i m) (R.set i r):=by
 unfold di
 rw[map_set,map_set,show ls.map (fun m=>kn[m]?)=R.map some from h,e]
theorem di.drop {kn:List RP}{ls:List Nat}{R:List RP}(h:di kn ls R):di kn ls.dropLast R.dropLast:=by
 unfold di
 rw[map_dropLast,map_dropLast,show ls.map (fun m=>kn[m]?)=R.map some from h]
theorem mG(ls:List Nat):(nI ls).length=ls.length:=length_map _
def yg:List RP->RP->List RP
 |[],c=>[c]
 |p::ps,c=>if(g5 50 p c).1=p then c::p::ps else(g5 50 p c).2::yg ps (g5 50 p c).1
def w9(R:List RP)(p:RP):List RP:=(yg R.reverse p).reverse
def iO(n:Nat)(R:List RP)(p:RP):List RP:=if(w9 R p).getLast?=some (upTo n,upTo n)then(w9 R p).dropLast else w9 R p
theorem Ge:∀(R:List RP)(p:RP),(yg R p).length=R.length+1
 |[],p=>rfl
 |r::R,p=>by
  unfold yg
  split
  ·rfl
  ·rw[length_cons,Ge R,length_cons]
theorem xf(R:List RP)(p:RP):(w9 R p).length=R.length+1:=by unfold w9;rw[length_reverse,Ge,length_reverse]
theorem jg.CG {C:Addr}{H:Hp}{a:Addr}{A:Ad}{ex:List (Str×V)}{n:Nat}{kn:List RP}{ln:List Int}{B:Nat}{nu sh lo ke:List (List Key×V)}(c:jg C H a A ex n kn ln B nu sh lo ke){ZG:List Int}(h:∀m∈ZG,0<=m/\m<kn.length):
  jg C (upd H A.li (.lst (ZG.map V.int))) a A ex n kn ZG B nu sh lo ke:=by
 have nd:∀{x:Addr}{xs:List (List Key×V)},H x=some (.dT xs)->x≠A.li:=fun h1=>bO h1 c.hli (by intro z;cases z)
 have nt:∀{x:Addr}{xs:List V},H x=some (.tup xs)->x≠A.li:=fun h1=>bO h1 c.hli (by intro z;cases z)
 obtain⟨⟨n1,n2,n3,n4,n5,n6⟩,_,UI,⟨d1,d2,d3,d4,d5,d6,d7,d8,d9⟩,X8⟩:=c.UH
 have kp:∀x o,x≠A.li->H x=some o->(upd H A.li (.lst (ZG.map V.int))) x=some o:=fun x o hx h=>by rw[aj hx];exact h
 refine⟨kp _ _ (bO c.ob c.hli (by intro z;cases z)) c.ob,?_,c.nd,kp _ _ n3 c.hkn,c.CC,fun i b p e1 e2=>kp _ _ (UI b (mem_of_getElem? e1)).2.2.2 (c.hks i b p e1 e2),kp _ _ (nd c.zh) c.zh,kp _ _ n5 c.yW,kp _ _ n6 c.hla,kp _ _ (nd c.hsh) c.hsh,kp _ _ (nd c.hlo) c.hlo,kp _ _ (nd c.hke) c.hke,ak,c.rw,c.n1,c.n2,c.s1,c.l1,fun i j v e=>?_,c.z,h⟩
 ·obtain⟨o,h⟩:=c.dx
  exact⟨o,kp _ _ d8 h⟩
 ·obtain⟨t,i',j',p,q,h1,h2,h3,h4,h5⟩:=c.k1 i j v e
  exact⟨t,i',j',p,q,h1,h2,h3,kp _ _ (nt h4) h4,h5⟩
theorem jg.inj {C:Addr}{H:Hp}{a:Addr}{A:Ad}{ex:List (Str×V)}{n:Nat}{kn:List RP}{ln:List Int}{B:Nat}{nu sh lo ke:List (List Key×V)}(c:jg C H a A ex n kn ln B nu sh lo ke){i j:Nat}{p q:RP}(hi:kn[i]?=some p)(hj:kn[j]?=some q):((i:Int)=j↔p=q):=by
 constructor
 ·intro e
  have:i=j:=by omega
  subst this
  rw[hi]at hj
  exact Option.some.inj hj
 ·rintro rfl
  have h1:=c.n1 i p hi
  rw[c.n1 j p hj]at h1
  injection h1 with h1
  injection h1 with h1
  exact h1.symm
theorem jg.A5 {n:Nat}:∀(f:Nat){p q:RP},Iv n p.1 p.2->Iv n q.1 q.2->Iv n (g5 f p q).1.1 (g5 f p q).1.2/\Iv n (g5 f p q).2.1 (g5 f p q).2.2
 |0,p,q,h1,h2=>⟨h1,h2⟩
 |f+1,p,q,h1,h2=>by
  cases hl:(kX p q).getLast? with
  |none=>rw[qw _ hl];exact⟨h1,h2⟩
  |some k=>
   rw[qv f hl]
   obtain⟨j,rfl,hj,_⟩:=qW h1 h2 (mem_of_getLast? hl)
   rw[show((j:Int)+1-1).toNat=j by omega]
   exact jg.A5 f (uY h1 hj) (uZ h2 hj)
theorem pW{α:Type}{l:List α}{x:α}(h:l.getLast?=some x):iC l (-1)=some x:=by
 obtain⟨ys,rfl⟩:=List.getLast?_eq_some_iff.mp h
 unfold L2.iC L2.pV
 rw[if_neg (by decide),length_append,length_singleton,if_pos 'a']
 simp
 rw[show(-1+((ys.length:Int)+1)).toNat=ys.length by omega]
 simp
theorem Gf{α:Type}{l:List α}{x:α}(h:l.getLast?=some x):l[l.length-1]?=some x:=by
 obtain⟨ys,rfl⟩:=List.getLast?_eq_some_iff.mp h
 simp
theorem di.last {kn:List RP}{ls:List Nat}{R:List RP}(h:di kn ls R)(hp:0<R.length):∃m r,ls.getLast?=some m/\R.getLast?=some r/\kn[m]?=some r:=by
 have e:R[R.length-1]?=some (R[R.length-1]' 'a'):=getElem?_eq_getElem 'a'
 obtain⟨m,h1,h2⟩:=h.at e
 refine⟨m,_,?_,?_,h2⟩
 ·rw[List.getLast?_eq_getElem?,h.len];exact h1
 ·rw[List.getLast?_eq_getElem?];exact e
theorem UN(ls:List Nat)(m:Nat):(nI (ls++[m])).map V.int=(nI ls).map V.int++[V.int m]:=by unfold nI;simp
theorem u9{ls:List Nat}{i m:Nat}(h:ls[i]?=some m):((nI ls).map V.int)[i]?=some (V.int m):=by unfold nI;rw[getElem?_map,getElem?_map,h];rfl
theorem LM(ls:List Nat)(i m:Nat):((nI ls).map V.int).set i (V.int m)=(nI (ls.set i m)).map V.int:=by unfold nI;rw[map_set,map_set]
theorem Gg(ls:List Nat):((nI ls).map V.int).dropLast=(nI ls.dropLast).map V.int:=by unfold nI;rw[map_dropLast,map_dropLast]
theorem xg{ls:List Nat}{m:Nat}(h:ls.getLast?=some m):((nI ls).map V.int).getLast?=some (V.int m):=by unfold nI;rw[getLast?_map,getLast?_map,h];rfl
theorem LN{R:List RP}{t:Nat}{r c:RP}(h:R[t]?=some r):yg (R.take (t+1)).reverse c=if(g5 50 r c).1=r then c::(R.take (t+1)).reverse else(g5 50 r c).2::yg (R.take t).reverse (g5 50 r c).1:=by
 have e:R.take (t+1)=R.take t++[r]:=by rw[take_succ,h];rfl
 rw[e,List.reverse_append]
 rfl
theorem jg.QW {C:Addr}{H:Hp}{a:Addr}{A:Ad}{ex:List (Str×V)}{n:Nat}{kn:List RP}{ln:List Int}{B:Nat}{nu sh lo ke:List (List Key×V)}(c:jg C H a A ex n kn ln B nu sh lo ke)(Y9:List (Str×V)):
  jg C (upd H a (.ins C A.dx (wy A++Y9))) a A Y9 n kn ln B nu sh lo ke:=by
 have nl:∀{x:Addr}{xs:List V},H x=some (.lst xs)->x≠a:=fun h1=>bO h1 c.ob (by intro z;cases z)
 have nd:∀{x:Addr}{xs:List (List Key×V)},H x=some (.dT xs)->x≠a:=fun h1=>bO h1 c.ob (by intro z;cases z)
 have nt:∀{x:Addr}{xs:List V},H x=some (.tup xs)->x≠a:=fun h1=>bO h1 c.ob (by intro z;cases z)
 obtain⟨_,_,_,⟨d1,d2,d3,d4,d5,d6,d7,d8,d9⟩,_⟩:=c.UH
 have kp:∀x o,x≠a->H x=some o->(upd H a (.ins C A.dx (wy A++Y9))) x=some o:=fun x o hx h=>by rw[aj hx];exact h
 refine⟨ak,?_,c.nd,kp _ _ (nl c.hkn) c.hkn,c.CC,fun i b p e1 e2=>kp _ _ (nl (c.hks i b p e1 e2)) (c.hks i b p e1 e2),kp _ _ (nd c.zh) c.zh,kp _ _ (nl c.yW) c.yW,kp _ _ (nl c.hla) c.hla,kp _ _ (nd c.hsh) c.hsh,kp _ _ (nd c.hlo) c.hlo,kp _ _ (nd c.hke) c.hke,kp _ _ (nl c.hli) c.hli,c.rw,c.n1,c.n2,c.s1,c.l1,fun i j v e=>?_,c.z,c.li⟩
 ·obtain⟨o,h⟩:=c.dx
  exact⟨o,kp _ _ (Ne.symm d9) h⟩
 ·obtain⟨t,i',j',p,q,h1,h2,h3,h4,h5⟩:=c.k1 i j v e
  exact⟨t,i',j',p,q,h1,h2,h3,kp _ _ (nt h4) h4,h5⟩
theorem jR{H:Hp}{a C dx:Addr}{fs:List (Str×V)}(hob:H a=some (.ins C dx fs)){l:Addr}(hl:H l=none)(o:HO)(f:Str):
  l≠a/\(upd H l o) a=some (.ins C dx fs)/\(upd (upd H l o) a (.ins C dx (kO f (.ref l) fs))) a=some (.ins C dx (kO f (.ref l) fs))/\(upd (upd H l o) a (.ins C dx (kO f (.ref l) fs))) l=some o/\(∀x u,x≠a->H x=some u->(upd (upd H l o) a (.ins C dx (kO f (.ref l) fs))) x=some u)/\∀x,(upd (upd H l o) a (.ins C dx (kO f (.ref l) fs))) x=none->H x=none:=by
 have hla:l≠a:=fun z=>by rw[z,hob]at hl;cases hl
 refine⟨hla,by rw[aj (Ne.symm hla)];exact hob,ak,by rw[aj hla];exact ak,fun x u hx h=>?_,fun x hx=>?_⟩
 ·rw[aj hx,aj (fun z=>by rw[z,hl]at h;cases h)]
  exact h
 ·by_cases z:x=a
  ·rw[z,ak]at hx;cases hx
  ·rw[aj z]at hx
   by_cases z2:x=l
   ·rw[z2];exact hl
   ·rw[aj z2]at hx;exact hx
def qX(n:Nat):RP:=((upTo n).reverse,(upTo n).reverse)
def mH(n:Nat)(R:List RP):Nat:=(R.takeWhile fun r=>decide (r=qX n)).length
def vX(n:Nat)(R:List RP):D:=.tup [.int (mH n R),.lst ((R.drop (mH n R)).map fun p=>D.lst (aI p.1))]
theorem CH{n:Nat}{R:List RP}{i:Nat}(h:∀j<i,R[j]?=some (qX n))(hs:R[i]?≠some (qX n)):mH n R=i:=by
 induction R generalizing i with
 |nil=>
  cases i with
  |zero=>rfl
  |succ i=>have:=h 0 'a';simp at this
 |cons r R ih=>
  unfold mH
  cases i with
  |zero=>
   have hr:¬r=qX n:=fun e=>hs (by rw[e];rfl)
   rw[List.takeWhile_cons_of_neg (by simp[hr])]
   rfl
  |succ i=>
   have hr:r=qX n:=by have:=h 0 'a';simpa using this
   rw[List.takeWhile_cons_of_pos (by simp[hr]),length_cons]
   have:=ih (i:=i) (fun j hj=>by have:=h (j+1) 'a';simpa using this) (by simpa using hs)
   unfold mH at this
   rw[this]
theorem LO(n:Nat)(R:List RP)(p:RP):(iO n R p).length<=R.length+1:=by
 unfold iO
 split
 ·rw[List.length_dropLast,xf];omega
 ·rw[xf];omega
def kY(r:List Int):List Int:=(upTo r.length).map fun v=>((r.idxOf v:Nat):Int)
theorem jr{n:Nat}{r:List Int}(h:bp n r):Iv n r (kY r):=by
 obtain⟨s,iv⟩:=UD h
 have e:kY r=s:=by
  refine cH (by unfold kY;rw[length_map,aw,iv.lr,iv.ls]) fun j hj=>?_
  have Bx:j<n:=by unfold kY at hj;rwa [length_map,aw,iv.lr]at hj
  have hg:(kY r)[j]?=some ((r.idxOf (j:Int):Nat):Int):=by
   unfold kY
   rw[getElem?_map,nH _ j (by rw[iv.lr];exact Bx)]
   rfl
  rw[<-(iv.idx Bx).2]
  unfold aa
  rw[hg]
  rfl
 rw[e]
 exact iv
def iP(n:Nat)(rs:List (List Int)):List RP:=rs.foldl (fun R r=>iO n R (r,kY r)) []
theorem HY{n:Nat}{rs:List (List Int)}{i:Nat}{r:List Int}(h:rs[i]?=some r):iP n (rs.take (i+1))=iO n (iP n (rs.take i)) (r,kY r):=by
 unfold iP
 rw[take_succ,h,foldl_append]
 rfl
theorem tW(n:Nat):∀(rs:List (List Int))(R:List RP),(rs.foldl (fun R r=>iO n R (r,kY r)) R).length<=R.length+rs.length
 |[],R=>Nat.le_refl _
 |r::rs,R=>by
  have h:=tW n rs (iO n R (r,kY r))
  have h2:=LO n R (r,kY r)
  rw[List.foldl_cons,length_cons]
  omega
def QX(n:Nat)(p y:RP):Prop:=∀i j,i<j->j<n->aa y.2 j<aa y.2 i->aa p.1 i<aa p.1 j
def QY(n:Nat)(w q x:RP):Prop:=∀t,t<n->aa w.2 t=aa x.2 (aa q.2 t).toNat
structure LP(n:Nat)(p0 q0 p q y:RP):Prop where
 iy:Iv n y.1 y.2
 pp:QY n p p0 y
 pq:QY n q0 y q
 ap:QX n p0 y
 aq:QX n y q
 pl:∀t,t<n->aa p.1 t=aa p0.1 (aa y.1 t).toNat
def sw(a t:Nat):Nat:=if t=a then a+1 else if t=a+1 then a else t
theorem LQ{a t n:Nat}(ha:a+1<n)(ht:t<n):sw a t<n:=by
 unfold sw
 repeat' split
 all_goals omega
theorem Yc(a:Nat){x:Int}(h:0<=x):sw a (sg a x).toNat=x.toNat:=by
 unfold sg sw
 repeat' split
 all_goals omega
theorem oB{l:List Int}{a:Nat}(h:a+1<l.length)(t:Nat):aa (jc l a) t=aa l (sw a t):=by
 rw[nJ _ _ h]
 unfold sw
 repeat' split
 all_goals rfl
theorem LP.start {n:Nat}{p q:RP}(ip:Iv n p.1 p.2)(hi:Iv n (upTo n) (upTo n)):LP n p q p q (upTo n,upTo n):=by
 have c:∀t,t<n->(aa (upTo n) t).toNat=t:=fun t ht=>by rw[aO ht];exact toNat_natCast t
 refine⟨hi,fun t ht=>?_,fun t ht=>?_,fun i j hij hj h=>?_,fun i j hij hj h=>?_,fun t ht=>?_⟩
 ·obtain⟨h1,h2,_⟩:=ip.sr t ht
  show _=aa (upTo n) (aa p.2 t).toNat
  rw[aO 'a']
  omega
 ·show _=aa q.2 (aa (upTo n) t).toNat
  rw[c t ht]
 ·dsimp only at h
  rw[aO hj,aO 'a']at h
  omega
 ·dsimp only
  rw[aO hj,aO 'a']
  omega
 ·show _=aa p.1 (aa (upTo n) t).toNat
  rw[c t ht]
theorem LP.step {n:Nat}{p0 q0 p q y:RP}(o:LP n p0 q0 p q y)(Yd:Iv n p0.1 p0.2)(ip:Iv n p.1 p.2)(iq:Iv n q.1 q.2){j:Nat}(hj:j+1<n)(hup:aa p.1 j<aa p.1 (j+1))(hdn:aa q.2 (j+1)<aa q.2 j):LP n p0 q0 (CB p j) (Du q j) (CB y j):=by
 have iy:=o.iy
 refine⟨uY iy hj,fun t ht=>?_,fun t ht=>?_,fun i i' Zt Ep h=>?_,fun i i' Zt Ep h=>?_,fun t ht=>?_⟩
 ·obtain⟨h1,h2,_⟩:=Yd.sr t ht
  show aa (Dt p.2 j) t=aa (Dt y.2 j) (aa p0.2 t).toNat
  rw[gA (by rw[ip.ls];exact ht),gA (by rw[iy.ls];omega),o.pp t ht]
 ·obtain⟨h1,h2,_⟩:=iy.sr t ht
  show aa q0.2 t=aa (jc q.2 j) (aa (Dt y.2 j) t).toNat
  rw[gA (by rw[iy.ls];exact ht),oB (by rw[iq.ls];exact hj),Yc j h1,o.pq t ht]
 ·have h':aa (Dt y.2 j) i'<aa (Dt y.2 j) i:=h
  rw[gA (by rw[iy.ls];exact Ep),gA (by rw[iy.ls];omega)]at h'
  by_cases hb:aa y.2 i'<aa y.2 i
  ·exact o.ap i i' Zt Ep hb
  ·obtain⟨a1,a2,a3⟩:=iy.sr i 'a'
   obtain⟨b1,b2,b3⟩:=iy.sr i' Ep
   have hne:aa y.2 i≠aa y.2 i':=fun e=>by
    have:=iy.IZ (v:=i) (w:=i') 'a' Ep e
    omega
   have hab:aa y.2 i=j/\aa y.2 i'=j+1:=by
    unfold sg at h'
    repeat' split at h'
    all_goals omega
   have e1:=o.pl j 'a'
   have e2:=o.pl (j+1) hj
   rw[hab.1,toNat_natCast]at a3
   rw[hab.2,show((j:Int)+1).toNat=j+1 by omega]at b3
   rw[a3,toNat_natCast]at e1
   rw[b3,toNat_natCast]at e2
   omega
 ·have h':aa (jc q.2 j) i'<aa (jc q.2 j) i:=h
  show aa (jc y.1 j) i<aa (jc y.1 j) i'
  rw[oB (by rw[iq.ls];exact hj),oB (by rw[iq.ls];exact hj)]at h'
  rw[oB (by rw[iy.lr];exact hj),oB (by rw[iy.lr];exact hj)]
  by_cases hc:i=j/\i'=j+1
  ·obtain⟨rfl,rfl⟩:=hc
   unfold sw at h'
   rw[if_pos rfl,if_neg 'a',if_pos rfl]at h'
   omega
  ·refine o.aq (sw j i) (sw j i') ?_ (LQ hj Ep) h'
   unfold sw
   repeat' split
   all_goals omega
 ·obtain⟨h1,h2,_⟩:=iy.rs (sw j t) (LQ hj ht)
  show aa (jc p.1 j) t=aa p0.1 (aa (jc y.1 j) t).toNat
  rw[oB (by rw[ip.lr];exact hj),oB (by rw[iy.lr];exact hj),o.pl _ (LQ hj ht)]
theorem Gi{n:Nat}{p0 q0:RP}(Yd:Iv n p0.1 p0.2):∀(f:Nat)(p q y:RP),Iv n p.1 p.2->Iv n q.1 q.2->LP n p0 q0 p q y->∃y',LP n p0 q0 (g5 f p q).1 (g5 f p q).2 y'
 |0,p,q,y,_,_,o=>⟨y,o⟩
 |f+1,p,q,y,ip,iq,o=>by
  cases h:(kX p q).getLast? with
  |none=>rw[qw _ h];exact⟨y,o⟩
  |some k=>
   obtain⟨j,rfl,hj,h1,h2⟩:=qW ip iq (mem_of_getLast? h)
   rw[qv f h,show((j:Int)+1-1).toNat=j by omega]
   exact Gi Yd f _ _ _ (uY ip hj) (uZ iq hj) (o.step Yd ip iq hj h1 h2)
theorem Gj{n:Nat}(hn:n<=7):∀(f:Nat)(p q:RP),Iv n p.1 p.2->Iv n q.1 q.2->49<f+iN p.1->kX (g5 f p q).1 (g5 f p q).2=[]
 |0,p,q,ip,iq,h=>by have:=uX hn ip;omega
 |f+1,p,q,ip,iq,h=>by
  cases hk:(kX p q).getLast? with
  |none=>
   rw[qw _ hk]
   exact List.getLast?_eq_none_iff.mp hk
  |some k=>
   obtain⟨j,rfl,hj,h1,h2⟩:=qW ip iq (mem_of_getLast? hk)
   rw[qv f hk,show((j:Int)+1-1).toNat=j by omega]
   have:=LL ip hj h1
   exact Gj hn f _ _ (uY ip hj) (uZ iq hj) 'a'
theorem QY.calm {n:Nat}{w q x:RP}(hp:QY n w q x)(iq:Iv n q.1 q.2)(ix:Iv n x.1 x.2)(ad:QX n q x){i j:Nat}(hij:i<=j)(hj:j<n)(h:aa w.2 i<=aa w.2 j):aa q.2 i<=aa q.2 j:=by
 refine byContradiction fun hc=>?_
 obtain⟨a1,a2,a3⟩:=iq.sr i 'a'
 obtain⟨b1,b2,b3⟩:=iq.sr j hj
 rw[hp i 'a',hp j hj]at h
 have hne:(aa q.2 j).toNat<(aa q.2 i).toNat:=by omega
 have hx:aa x.2 (aa q.2 i).toNat≠aa x.2 (aa q.2 j).toNat:=fun e=>by
  have:=ix.IZ (v:=(aa q.2 i).toNat) (w:=(aa q.2 j).toNat) 'a' 'a' e
  omega
 have:=ad (aa q.2 j).toNat (aa q.2 i).toNat hne 'a' 'a'
 rw[a3,b3]at this
 omega
theorem kZ{p q:RP}{n:Nat}(ip:Iv n p.1 p.2)(iq:Iv n q.1 q.2):kX p q=[]↔∀j,j+1<n->aa q.2 (j+1)<aa q.2 j->aa p.1 (j+1)<aa p.1 j:=by
 constructor
 ·intro h j hj hd
  refine byContradiction fun hc=>?_
  have hm:((j:Int)+1)∈kX p q:=by
   unfold kX
   rw[mem_filter]
   refine⟨tU.mpr ⟨j,rfl,by rw[iq.ls];exact hj,hd⟩,?_⟩
   have:((j:Int)+1)∉zf p.1:=fun z=>by
    obtain⟨a,e,_,h2⟩:=tU.mp z
    have:a=j:=by omega
    subst this
    exact hc h2
   rw[decide_eq_false this]
   rfl
  rw[h]at hm
  cases hm
 ·intro h
  cases e:kX p q with
  |nil=>rfl
  |cons k t=>
   obtain⟨j,_,hj,h1,h2⟩:=qW ip iq (k:=k) (by rw[e];exact mem_cons_self)
   have:=h j hj h2
   omega
theorem switch(f:Nat->Bool):∀(d u:Nat),f u=false->f (u+d)=true->∃i,u<=i/\i<u+d/\f i=false/\f (i+1)=true
 |0,u,h1,h2=>by rw[Nat.add_zero,h1]at h2;cases h2
 |d+1,u,h1,h2=>by
  cases h:f (u+d)with
  |true=>
   obtain⟨i,a,b,c,e⟩:=switch f d u h1 h
   exact⟨i,a,by omega,c,e⟩
  |false=>exact⟨u+d,by omega,by omega,h,h2⟩
theorem UO{n:Nat}{r q x s' w y w2 s:RP}(ir:Iv n r.1 r.2)(iq:Iv n q.1 q.2)(ix:Iv n x.1 x.2)(is':Iv n s'.1 s'.2)(iw:Iv n w.1 w.2)(iy:Iv n y.1 y.2)(OU:Iv n w2.1 w2.2)
  (hrq:kX r q=[])(hws:kX w s'=[])(hw:QY n w q x)(aqx:QX n q x)(axs:QX n x s')(QZ:QY n w y w2)(ayw:QX n y w2)(ary:QX n r y):kX w2 s'=[]:=by
 refine(kZ OU is').mpr fun j hj hd=>byContradiction fun hc=>?_
 have hstop:=(kZ iw is').mp hws j hj hd
 obtain⟨v0,v1,v2⟩:=iw.rs j 'a'
 obtain⟨u0,u1,u2⟩:=iw.rs (j+1) hj
 generalize hv:(aa w.1 j).toNat=v at*
 generalize hu:(aa w.1 (j+1)).toNat=u at*
 have huv:u<v:=by omega
 have hy:aa y.2 v<aa y.2 u:=by
  refine byContradiction fun hz=>?_
  obtain⟨a1,a2,a3⟩:=iy.sr u 'a'
  obtain⟨b1,b2,b3⟩:=iy.sr v 'a'
  have e1:=QZ u 'a'
  have e2:=QZ v 'a'
  rw[u2]at e1
  rw[v2]at e2
  obtain⟨c1,c2,c3⟩:=OU.sr (aa y.2 u).toNat 'a'
  obtain⟨d1,d2,d3⟩:=OU.sr (aa y.2 v).toNat 'a'
  rw[<-e1,show(((j+1:Nat):Int)).toNat=j+1 by omega]at c3
  rw[<-e2,toNat_natCast]at d3
  have hne:aa y.2 u≠aa y.2 v:=fun e=>by
   have:=iy.IZ (v:=u) (w:=v) 'a' 'a' e
   omega
  omega
 have hq:aa q.2 v<aa q.2 u:=by
  refine byContradiction fun hz=>?_
  obtain⟨a1,a2,a3⟩:=iq.sr u 'a'
  obtain⟨b1,b2,b3⟩:=iq.sr v 'a'
  have e1:=hw u 'a'
  have e2:=hw v 'a'
  rw[u2]at e1
  rw[v2]at e2
  have:=axs j (j+1) 'a' hj hd
  obtain⟨c1,c2,c3⟩:=ix.sr (aa q.2 u).toNat 'a'
  obtain⟨d1,d2,d3⟩:=ix.sr (aa q.2 v).toNat 'a'
  rw[<-e1,show(((j+1:Nat):Int)).toNat=j+1 by omega]at c3
  rw[<-e2,toNat_natCast]at d3
  have hne:aa q.2 u≠aa q.2 v:=fun e=>by
   have:=iq.IZ (v:=u) (w:=v) 'a' 'a' e
   omega
  omega
 obtain⟨i,i1,i2,i3,i4⟩:=switch (fun t=>decide (aa w.2 t<=j)) (v-u) u (by rw[decide_eq_false];omega) (by rw[show u+(v-u)=v by omega,decide_eq_true];omega)
 have i3':=of_decide_eq_false i3
 have i4':=of_decide_eq_true i4
 have y1:=QZ.calm iy OU ayw (i:=u) (j:=i) i1 'a' 'a'
 have y2:=QZ.calm iy OU ayw (i:=i+1) (j:=v) 'a' 'a' 'a'
 have q1:=hw.calm iq ix aqx (i:=u) (j:=i) i1 'a' 'a'
 have q2:=hw.calm iq ix aqx (i:=i+1) (j:=v) 'a' 'a' 'a'
 have hr:=(kZ ir iq).mp hrq i 'a' 'a'
 have:=ary i (i+1) 'a' 'a' 'a'
 omega
def CI:List RP->Prop
 |q::p::ps=>kX p q=[]/\CI (p::ps)
 |_=>True
def A6(n:Nat)(R:List RP):Prop:=∀x∈R,Iv n x.1 x.2
theorem CI.tail {q:RP}{R:List RP}(h:CI (q::R)):CI R:=by
 cases R with
 |nil=>trivial
 |cons p ps=>exact h.2
structure UQ(n:Nat)(p c p' c':RP):Prop where
 ip:Iv n p'.1 p'.2
 ic:Iv n c'.1 c'.2
 fr:kX p' c'=[]
 ex:∃y,LP n p c p' c' y
theorem ko{n:Nat}(hn:n<=7){p c:RP}(ip:Iv n p.1 p.2)(ic:Iv n c.1 c.2)(hi:Iv n (upTo n) (upTo n)):UQ n p c (g5 50 p c).1 (g5 50 p c).2:=
 ⟨(jg.A5 50 ip ic).1,(jg.A5 50 ip ic).2,Gj hn 50 p c ip ic 'a',Gi ip 50 p c _ ip ic (LP.start ip hi)⟩
theorem UQ.none {n:Nat}{p c p' c':RP}(s:UQ n p c p' c')(ic:Iv n c.1 c.2)(ip:Iv n p.1 p.2)(e:p'=p):c'=c:=by
 obtain⟨y,o⟩:=s.ex
 subst e
 have hy:∀t,t<n->aa y.2 t=t:=fun t ht=>by
  have h1:=ip.rs t ht
  have:=o.pp (aa p'.1 t).toNat 'a'
  rw[h1.2.2,toNat_natCast]at this
  exact this.symm
 refine F8 (n:=n) s.ic ic ?_
 refine Iv.uniq (n:=n) (s:=c.2) ?_ ic
 have:c'.2=c.2:=cH (by rw[s.ic.ls,ic.ls]) fun t ht=>by
  rw[s.ic.ls]at ht
  rw[o.pq t ht,hy t ht,toNat_natCast]
 rw[<-this]
 exact s.ic
theorem LR{n:Nat}(hn:n<=7)(hi:Iv n (upTo n) (upTo n)):∀(ps:List RP)(p c:RP),A6 n (p::ps)->Iv n c.1 c.2->CI (p::ps)->CI ((g5 50 p c).2::yg ps (g5 50 p c).1)
 |[],p,c,hI,ic,_=>by
  have s:=ko hn (hI p (by simp)) ic hi
  exact⟨s.fr,trivial⟩
 |r::ps,p,c,hI,ic,hL=>by
  have ip:=hI p (by simp)
  have ir:=hI r (by simp)
  have s:=ko hn ip ic hi
  have s2:=ko hn ir s.ip hi
  unfold yg
  by_cases e:(g5 50 r (g5 50 p c).1).1=r
  ·rw[if_pos e]
   have e2:=s2.none s.ip ir e
   have f2:=s2.fr
   rw[e,e2]at f2
   exact⟨s.fr,f2,hL.2⟩
  ·rw[if_neg e]
   refine⟨?_,LR hn hi ps r _ (fun x hx=>hI x (mem_cons_of_mem _ hx)) s.ip hL.2⟩
   obtain⟨x,o⟩:=s.ex
   obtain⟨y,o2⟩:=s2.ex
   exact UO (s:=c) ir ip o.iy s.ic s.ip o2.iy s2.ic hL.1 s.fr o.pp o.ap o.aq o2.pq o2.aq o2.ap
theorem UR{n:Nat}(hn:n<=7)(hi:Iv n (upTo n) (upTo n)){R:List RP}{c:RP}(hI:A6 n R)(ic:Iv n c.1 c.2)(hL:CI R.reverse):CI (yg R.reverse c):=by
 cases h:R.reverse with
 |nil=>exact trivial
 |cons p ps=>
  rw[h]at hL
  have UT:A6 n (p::ps):=fun x hx=>hI x (by rw[<-mem_reverse,h];exact hx)
  have s:=ko hn (UT p (by simp)) ic hi
  unfold yg
  by_cases e:(g5 50 p c).1=p
  ·rw[if_pos e]
   have e2:=s.none ic (UT p (by simp)) e
   have f:=s.fr
   rw[e,e2]at f
   exact⟨f,hL⟩
  ·rw[if_neg e]
   exact LR hn hi ps p c UT ic hL
def UU(n:Nat)(p:RP):Prop:=∃a,a+1<n/\aa p.2 (a+1)<aa p.2 a
theorem Gk{n:Nat}{p:RP}(ip:Iv n p.1 p.2)(hi:Iv n (upTo n) (upTo n))(h:¬UU n p):p=(upTo n,upTo n):=
 F8 (n:=n) ip hi (OJ ip fun a ha hd=>h ⟨a,ha,hd⟩)
theorem UW{n:Nat}{p:RP}(h:UU n p):p≠(upTo n,upTo n):=fun e=>by
 obtain⟨a,ha,hd⟩:=h
 rw[e]at hd
 dsimp only at hd
 rw[aO ha,aO 'a']at hd
 omega
theorem QY.nst {n:Nat}{w q x:RP}(hp:QY n w q x)(iq:Iv n q.1 q.2)(ix:Iv n x.1 x.2)(ad:QX n q x){a:Nat}(ha:a+1<n)(h:aa q.2 (a+1)<aa q.2 a):aa w.2 (a+1)<aa w.2 a:=by
 refine byContradiction fun hc=>?_
 have:=hp.calm iq ix ad (i:=a) (j:=a+1) 'a' ha 'a'
 omega
theorem LS{n:Nat}(hn:n<=7)(hi:Iv n (upTo n) (upTo n)):∀(ps:List RP)(p c:RP),A6 n (p::ps)->Iv n c.1 c.2->CI (p::ps)->(∀x∈p::ps,UU n x)->∀x∈yg ps (g5 50 p c).1,UU n x
 |[],p,c,hI,ic,_,hN,x,hx=>by
  have s:=ko hn (hI p (by simp)) ic hi
  obtain⟨y,o⟩:=s.ex
  obtain⟨a,ha,hd⟩:=hN p (by simp)
  rw[mem_singleton.mp hx]
  exact⟨a,ha,o.pp.nst (hI p (by simp)) o.iy o.ap ha hd⟩
 |r::ps,p,c,hI,ic,hL,hN,x,hx=>by
  have ip:=hI p (by simp)
  have ir:=hI r (by simp)
  have s:=ko hn ip ic hi
  have s2:=ko hn ir s.ip hi
  obtain⟨z,o⟩:=s.ex
  obtain⟨y,o2⟩:=s2.ex
  obtain⟨a,ha,hd⟩:=hN p (by simp)
  have Nm:=o.pp.nst ip o.iy o.ap ha hd
  unfold yg at hx
  by_cases e:(g5 50 r (g5 50 p c).1).1=r
  ·rw[if_pos e]at hx
   rcases mem_cons.mp hx with rfl|hx
   ·exact⟨a,ha,Nm⟩
   ·exact hN x (mem_cons_of_mem _ hx)
  ·rw[if_neg e]at hx
   rcases mem_cons.mp hx with rfl|hx
   ·refine byContradiction fun hc=>?_
    have e2:=Gk s2.ic hi hc
    have hy:∀t,t<n->aa (g5 50 p c).1.2 t=aa y.2 t:=fun t ht=>by
     have h1:=o2.iy.sr t ht
     have:=o2.pq t ht
     rw[e2]at this
     dsimp only at this
     rw[aO 'a']at this
     omega
    rw[hy _ ha,hy _ 'a']at Nm
    have h1:=o2.ap a (a+1) 'a' ha Nm
    have h2:=(kZ ir ip).mp hL.1 a ha hd
    omega
   ·exact LS hn hi ps r _ (fun x hx=>hI x (mem_cons_of_mem _ hx)) s.ip hL.2 (fun x hx=>hN x (mem_cons_of_mem _ hx)) x hx
structure Gm(n:Nat)(R:List RP):Prop where
 iv:A6 n R
 lw:CI R.reverse
 ns:∀x∈R,UU n x
theorem A7{n:Nat}:∀(R:List RP)(p:RP),(∀x∈R,Iv n x.1 x.2)->Iv n p.1 p.2->∀x∈yg R p,Iv n x.1 x.2
 |[],p,_,hp,x,hx=>by rw[mem_singleton.mp hx];exact hp
 |r::R,p,hR,hp,x,hx=>by
  obtain⟨i1,i2⟩:=jg.A5 50 (hR r (by simp)) hp
  unfold yg at hx
  split at hx
  ·rcases mem_cons.mp hx with rfl|hx
   ·exact hp
   ·exact hR x hx
  ·rcases mem_cons.mp hx with rfl|hx
   ·exact i2
   ·exact A7 R _ (fun y hy=>hR y (by simp[hy])) i1 x hx
theorem LU{n:Nat}(hn:n<=7)(hi:Iv n (upTo n) (upTo n)){R:List RP}{c:RP}(h:Gm n R)(ic:Iv n c.1 c.2):∃d T,yg R.reverse c=d::T/\∀x∈T,UU n x:=by
 cases hr:R.reverse with
 |nil=>exact⟨c,[],rfl,fun x hx=>nomatch hx⟩
 |cons p ps=>
  have UT:A6 n (p::ps):=fun x hx=>h.iv x (by rw[<-mem_reverse,hr];exact hx)
  have hN':∀x∈p::ps,UU n x:=fun x hx=>h.ns x (by rw[<-mem_reverse,hr];exact hx)
  have hL:=h.lw
  rw[hr]at hL
  unfold yg
  by_cases e:(g5 50 p c).1=p
  ·rw[if_pos e]
   exact⟨c,p::ps,rfl,hN'⟩
  ·rw[if_neg e]
   exact⟨_,_,rfl,LS hn hi ps p c UT ic hL hN'⟩
theorem LV{n:Nat}(hn:n<=7)(hi:Iv n (upTo n) (upTo n)){R:List RP}{c:RP}(h:Gm n R)(ic:Iv n c.1 c.2):Gm n (iO n R c):=by
 have hlw:=UR hn hi h.iv ic h.lw
 have VM:=A7 R.reverse c (fun x hx=>h.iv x (by simpa using hx)) ic
 obtain⟨d,T,e,hT⟩:=LU hn hi h ic
 have Ye:(w9 R c).getLast?=some d:=by unfold w9;rw[e];simp
 have Yg:(w9 R c).dropLast=T.reverse:=by unfold w9;rw[e];simp
 unfold iO
 rw[Ye]
 by_cases hd:some d=some (upTo n,upTo n)
 ·rw[if_pos hd,Yg]
  rw[e]at hlw VM
  exact⟨fun x hx=>VM x (mem_cons_of_mem _ (by simpa using hx)),by rw[reverse_reverse];exact hlw.tail,fun x hx=>hT x (by simpa using hx)⟩
 ·rw[if_neg hd]
  unfold w9
  refine⟨fun x hx=>VM x (by simpa using hx),by rw[reverse_reverse];exact hlw,fun x hx=>?_⟩
  rw[mem_reverse,e]at hx
  rcases mem_cons.mp hx with rfl|hx
  ·refine byContradiction fun hc=>hd ?_
   rw[Gk (VM x (by rw[e];exact mem_cons_self)) hi hc]
  ·exact hT x hx
theorem Gn{n:Nat}(hn:n<=7)(hi:Iv n (upTo n) (upTo n)):∀(rs:List (List Int))(R:List RP),(∀r∈rs,bp n r)->Gm n R->Gm n (rs.foldl (fun R r=>iO n R (r,kY r)) R)
 |[],R,_,h=>h
 |r::rs,R,hr,h=>Gn hn hi rs _ (fun x hx=>hr x (by simp[hx])) (LV hn hi h (jr (hr r (by simp))))
theorem HZ{n:Nat}{r s:List Int}(h:Iv n r s)(hd:∀j,j+1<n->aa r (j+1)<aa r j):r=(upTo n).reverse:=by
 have up:∀j,j<n->aa r j<=(n:Int)-1-j:=fun j=>by
  induction j with
  |zero=>intro h0;have:=(h.rs 0 h0).2.1;omega
  |succ j ih=>intro hj;have:=ih 'a';have:=hd j hj;omega
 have dn:∀d j,j+d+1=n->(d:Int)<=aa r j:=fun d=>by
  induction d with
  |zero=>intro j hj;exact(h.rs j 'a').1
  |succ d ih=>intro j hj;have:=ih (j+1) 'a';have:=hd j 'a';omega
 refine cH (by rw[h.lr,length_reverse,aw]) fun j hj=>?_
 rw[h.lr]at hj
 have h1:=up j hj
 have h2:=dn (n-1-j) j 'a'
 have h3:aa (upTo n).reverse j=((n-1-j:Nat):Int):=by
  unfold aa
  rw[getElem?_reverse (by rw[aw];exact hj),aw,nH n _ 'a']
  rfl
 omega
theorem Er{n:Nat}{p:RP}(ip:Iv n p.1 p.2)(hh:Iv n (qX n).1 (qX n).2)(h:kX p (qX n)=[]):p=qX n:=by
 refine F8 (n:=n) ip hh (HZ ip fun j hj=>(kZ ip hh).mp h j hj ?_)
 have c:∀p,p<n->aa (upTo n).reverse p=((n-1-p:Nat):Int):=fun p hp=>by
  unfold aa
  rw[getElem?_reverse (by rw[aw];exact hp),aw,nH n _ 'a']
  rfl
 show aa (upTo n).reverse (j+1)<aa (upTo n).reverse j
 rw[c _ hj,c _ 'a']
 omega
theorem CI.at_:∀{l A B:List RP}{p q:RP},CI l->l=A++q::p::B->kX p q=[]
 |_,[],B,p,q,h,e=>by rw[e]at h;exact h.1
 |l,a::A,B,p,q,h,e=>by
  rw[e,cons_append]at h
  exact CI.at_ h.tail rfl
theorem Gm.nb {n:Nat}{R A B:List RP}{p q:RP}(h:Gm n R)(e:R=A++p::q::B):kX p q=[]:=
 h.lw.at_ (A:=B.reverse) (B:=A.reverse) (by rw[e];simp)
theorem Gq{n:Nat}(hh:Iv n (qX n).1 (qX n).2){R:List RP}(h:Gm n R):∀(B A:List RP)(p:RP),R=A++p::B->p≠qX n->∀x∈p::B,x≠qX n
 |[],A,p,e,hp,x,hx=>by rw[mem_singleton.mp hx];exact hp
 |q::B,A,p,e,hp,x,hx=>by
  have ip:=h.iv p (by rw[e];simp)
  have hq:q≠qX n:=fun z=>by
   have:=h.nb e
   rw[z]at this
   exact hp (Er ip hh this)
  rcases mem_cons.mp hx with rfl|hx
  ·exact hp
  ·exact Gq hh h B (A++[p]) q (by rw[e];simp) hq x hx
theorem CJ{n:Nat}(R:List RP):R=replicate (mH n R) (qX n)++R.drop (mH n R):=by
 unfold mH
 induction R with
 |nil=>rfl
 |cons p R ih=>
  by_cases h:p=qX n
  ·rw[List.takeWhile_cons_of_pos (by simpa using h),length_cons,replicate_succ,List.drop_succ_cons,cons_append,<-ih,h]
  ·rw[List.takeWhile_cons_of_neg (by simpa using h)]
   rfl
theorem LW{n:Nat}(R:List RP):∀p B,R.drop (mH n R)=p::B->p≠qX n:=by
 unfold mH
 induction R with
 |nil=>intro p B h;cases h
 |cons q R ih=>
  intro p B h
  by_cases hq:q=qX n
  ·rw[List.takeWhile_cons_of_pos (by simpa using hq),length_cons,List.drop_succ_cons]at h
   exact ih p B h
  ·rw[List.takeWhile_cons_of_neg (by simpa using hq)]at h
   have:q=p:=(List.cons.inj h).1
   rw[<-this];exact hq
theorem Ia{n:Nat}(hh:Iv n (qX n).1 (qX n).2){R:List RP}(h:Gm n R):∀x∈R.drop (mH n R),x≠qX n:=fun x hx=>by
 cases e:R.drop (mH n R)with
 |nil=>rw[e]at hx;cases hx
 |cons p B=>
  rw[e]at hx
  exact Gq hh h B (replicate (mH n R) (qX n)) p (by rw[<-e];exact CJ R) (LW R p B e) x hx
def cmp(o r:List Int):List Int:=r.map fun s=>aa o s.toNat
def zk(o:List Int)(R:List (List Int)):List Int:=R.foldl cmp o
def kK(R:List (List Int)):Nat:=(R.map iN).sum
theorem dM{o r:List Int}{t:Nat}(h:t<r.length):aa (cmp o r) t=aa o (aa r t).toNat:=by
 unfold cmp
 have:=dh h
 unfold aa at this⊢
 rw[getElem?_map,this]
 rfl
theorem oE(o:List Int)(a b:List (List Int)):zk o (a++b)=zk (zk o a) b:=foldl_append
theorem tX(a b:List (List Int)):kK (a++b)=kK a+kK b:=by unfold kK;rw[map_append,sum_append]
theorem Gr{n:Nat}{o r q s:List Int}(iq:Iv n q s)(hr:r.length=n):cmp (cmp o r) q=cmp o (cmp r q):=by
 refine cH (by unfold cmp;simp) fun t ht=>?_
 have IS:t<q.length:=by unfold cmp at ht;simpa using ht
 have h1:=iq.rs t (by rw[<-iq.lr];exact IS)
 rw[dM IS,dM (by rw[hr];omega),dM (by unfold cmp;simpa using IS),dM IS]
theorem LP.prd {n:Nat}{p0 q0 p q y:RP}(o:LP n p0 q0 p q y)(ZI:Iv n q0.1 q0.2)(Yd:Iv n p0.1 p0.2)(ip:Iv n p.1 p.2)(iq:Iv n q.1 q.2):cmp p.1 q.1=cmp p0.1 q0.1:=by
 refine cH (by unfold cmp;simp[iq.lr,ZI.lr]) fun t ht=>?_
 have IS:t<n:=by unfold cmp at ht;rw[length_map,iq.lr]at ht;exact ht
 rw[dM (by rw[iq.lr];exact IS),dM (by rw[ZI.lr];exact IS)]
 obtain⟨a1,a2,a3⟩:=iq.rs t IS
 obtain⟨b1,b2,b3⟩:=ZI.rs t IS
 obtain⟨c1,c2,c3⟩:=o.iy.rs (aa q.1 t).toNat 'a'
 rw[o.pl _ 'a']
 have h1:=o.pq (aa y.1 (aa q.1 t).toNat).toNat 'a'
 rw[c3,toNat_natCast,a3]at h1
 have:=ZI.IZ (v:=(aa y.1 (aa q.1 t).toNat).toNat) (w:=(aa q0.1 t).toNat) 'a' 'a' (by rw[h1,b3])
 rw[this]
theorem LX{n:Nat}{o s:List Int}(h:Iv n o s){a:Nat}(ha:a+1<n):(aa o a<aa o (a+1)->iN (jc o a)=iN o+1)/\(aa o (a+1)<aa o a->iN (jc o a)+1=iN o):=by
 have e:=wZ o a [] (by rw[h.lr];exact ha)
 unfold iN
 constructor
 ·intro c
  rw[if_neg 'a',if_pos c]at e
  omega
 ·intro c
  rw[if_pos c,if_neg 'a']at e
  omega
theorem Gs{n:Nat}:∀(f:Nat)(p q:RP),Iv n p.1 p.2->Iv n q.1 q.2->iN (g5 f p q).1.1+iN (g5 f p q).2.1=iN p.1+iN q.1
 |0,p,q,_,_=>rfl
 |f+1,p,q,ip,iq=>by
  cases h:(kX p q).getLast? with
  |none=>rw[qw _ h]
  |some k=>
   obtain⟨j,rfl,hj,h1,h2⟩:=qW ip iq (mem_of_getLast? h)
   rw[qv f h,show((j:Int)+1-1).toNat=j by omega,Gs f _ _ (uY ip hj) (uZ iq hj)]
   have e1:=(LX ip hj).1 h1
   have e2:=(LX iq.symm hj).2 h2
   have e3:=En iq
   have e4:=En (uZ iq hj)
   show iN (jc p.1 j)+iN (Du q j).1=_
   have e5:iN (Du q j).2=iN (jc q.2 j):=rfl
   omega
theorem LY{n:Nat}(hn:n<=7)(hi:Iv n (upTo n) (upTo n)){p c:RP}(ip:Iv n p.1 p.2)(ic:Iv n c.1 c.2):cmp (g5 50 p c).1.1 (g5 50 p c).2.1=cmp p.1 c.1:=by
 have s:=ko hn ip ic hi
 obtain⟨y,o⟩:=s.ex
 exact o.prd ic ip s.ip s.ic
def fwd(R:List RP):List (List Int):=(R.reverse).map (·.1)
theorem nK(p:RP)(R:List RP):fwd (p::R)=fwd R++[p.1]:=by unfold fwd;simp
theorem Gu{n:Nat}(hn:n<=7)(hi:Iv n (upTo n) (upTo n)):∀(R:List RP)(c:RP),A6 n R->Iv n c.1 c.2->(∀o,zk o (fwd (yg R c))=zk o (fwd R++[c.1]))/\kK (fwd (yg R c))=kK (fwd R)+iN c.1
 |[],c,_,_=>⟨fun o=>rfl,by unfold yg kK fwd;simp⟩
 |p::ps,c,hI,ic=>by
  have ip:=hI p (by simp)
  have s:=ko hn ip ic hi
  unfold yg
  by_cases e:(g5 50 p c).1=p
  ·rw[if_pos e]
   exact⟨fun o=>by rw[nK],by rw[nK,tX];simp[kK]⟩
  ·rw[if_neg e]
   obtain⟨h1,h2⟩:=Gu hn hi ps (g5 50 p c).1 (fun x hx=>hI x (by simp[hx])) s.ip
   refine⟨fun o=>?_,?_⟩
   ·rw[nK,oE,h1 o,nK,List.append_assoc,oE,oE]
    show cmp (cmp (zk o (fwd ps)) (g5 50 p c).1.1) (g5 50 p c).2.1=cmp (cmp (zk o (fwd ps)) p.1) c.1
    rw[Gr s.ic s.ip.lr,LY hn hi ip ic,<-Gr ic ip.lr]
   ·rw[nK,tX,h2,nK,tX]
    have:=Gs 50 p c ip ic
    have e1:∀r:List Int,kK [r]=iN r:=fun r=>by simp[kK]
    rw[e1,e1]
    omega
theorem OV{n:Nat}(hn:n<=7)(hi:Iv n (upTo n) (upTo n))(c0:iN (upTo n)=0){R:List RP}{c:RP}(hI:A6 n R)(ic:Iv n c.1 c.2):(∀o:List Int,o.length=n->zk o ((iO n R c).map (·.1))=zk o (R.map (·.1)++[c.1]))/\kK ((iO n R c).map (·.1))=kK (R.map (·.1))+iN c.1:=by
 have UT:A6 n R.reverse:=fun x hx=>hI x (by simpa using hx)
 obtain⟨h1,h2⟩:=Gu hn hi R.reverse c UT ic
 have ef:fwd (yg R.reverse c)=(w9 R c).map (·.1):=rfl
 have er:fwd R.reverse=R.map (·.1):=by unfold fwd;rw[reverse_reverse]
 rw[ef,er]at h2
 unfold iO
 by_cases hd:(w9 R c).getLast?=some (upTo n,upTo n)
 ·rw[if_pos hd]
  have hne:w9 R c≠[]:=fun z=>by rw[z]at hd;cases hd
  have Au:(w9 R c).dropLast++[(upTo n,upTo n)]=w9 R c:=by
   have:=List.dropLast_concat_getLast hne
   rw[List.getLast?_eq_some_getLast hne]at hd
   rw[Option.some.inj hd]at this
   exact this
  rw[<-Au,map_append,tX]at h2
  have e1:kK ([((upTo n,upTo n):RP)].map (·.1))=0:=by simp[kK,c0]
  rw[e1]at h2
  refine⟨fun o ho=>?_,h2⟩
  have h3:=h1 o
  rw[ef,er,<-Au,map_append,oE]at h3
  rw[<-h3]
  show _=cmp (zk o ((w9 R c).dropLast.map (·.1))) (upTo n)
  have hl:(zk o ((w9 R c).dropLast.map (·.1))).length=n:=by
   have VM:=A7 R.reverse c (fun x hx=>hI x (by simpa using hx)) ic
   have ha:∀x∈(w9 R c).dropLast,x.1.length=n:=fun x hx=>by
    rw[dropLast_eq_take]at hx
    have:=mem_of_mem_take hx
    unfold w9 at this
    exact(VM x (by simpa using this)).lr
   generalize (w9 R c).dropLast=Z at ha
   clear Au h3 h2 h1
   induction Z generalizing o with
   |nil=>exact ho
   |cons z Z ih=>
    refine ih (cmp o z.1) ?_ fun x hx=>ha x (by simp[hx])
    unfold cmp
    rw[length_map]
    exact ha z (by simp)
  refine cH (by unfold cmp;rw[length_map,hl,aw]) fun t ht=>?_
  rw[hl]at ht
  rw[dM (by rw[aw];exact ht),aO ht,toNat_natCast]
 ·rw[if_neg hd]
  exact⟨fun o _=>by have:=h1 o;rw[ef,er]at this;exact this,h2⟩
def tCI(K:'b')(caps:List Nat)(tl te:TE):TE:=fun σ H Q=>Jj K tl σ H fun J H1=>∃(l:Addr)(xs vs:List V),J=RW K l/\cV K H1 l xs/\vs.length=caps.length/\(∀(j i:Nat)(v:V),caps[j]?=some i->vs[j]?=some v->σ[i]?=some (some v))/\
 ∀Dd,H1 Dd=none->∃Pv:Nat->List V->Hp->Prop,Pv 0 [] (upd H1 Dd (.lst []))/\(∀i acc Hx,Pv i acc Hx->cV K Hx l xs/\Hx Dd=some (.lst acc))/\
  (∀i acc Hx x,Pv i acc Hx->xs[i]?=some x->te (some x::vs.map some) Hx fun v H2=>H2 Dd=some (.lst acc)/\acc.length<sizeLine/\Pv (i+1) (acc++[v]) (upd H2 Dd (.lst (acc++[v]))))/\∀acc Hx,Pv xs.length acc Hx->Q (.ref Dd) Hx
section
variable{X:Cx}{pos:Pos}{scope:Scope}{N:List Str}{caps:List Nat}
theorem LZ{elt tg iter:Expr}{tl te:TE}(S:iD X scope N 1 caps)(vO:X.calm=true)(hi:PI X tg iter (Jj X.K tl))(hg:∀s H fp C pl,PG (rF X scope N s H fp C pl) tg (Jf 0))(he:∀s H fp C pl,PE (rF X scope N s H fp C pl) elt te)
  (hs:∀x,foldedSetIterable iter X.env x=pure x:=by intro _;rfl):PE X (.ListComp elt [⟨tg,iter,[],0⟩] scope pos) (tCI X.K caps tl te):=by
 intro pins s σ H Q I h
 rw[eval_ListComp]
 refine wpAny_comprehension_free (use:=none) rfl hs (rN (S.cells I)) S.kind S.names ?_
 refine cC (hi pins s σ H (fun J H1=>∃(l:Addr)(xs vs:List V),J=RW X.K l/\cV X.K H1 l xs/\vs.length=caps.length/\(∀(j i:Nat)(v:V),caps[j]?=some i->vs[j]?=some v->σ[i]?=some (some v))/\
  ∀Dd,H1 Dd=none->∃Pv:Nat->List V->Hp->Prop,Pv 0 [] (upd H1 Dd (.lst []))/\(∀i acc Hx,Pv i acc Hx->cV X.K Hx l xs/\Hx Dd=some (.lst acc))/\
   (∀i acc Hx x,Pv i acc Hx->xs[i]?=some x->te (some x::vs.map some) Hx fun v H2=>H2 Dd=some (.lst acc)/\acc.length<sizeLine/\Pv (i+1) (acc++[v]) (upd H2 Dd (.lst (acc++[v]))))/\∀acc Hx,Pv xs.length acc Hx->Q (.ref Dd) Hx) I ?_) fun v s1 h1=>cC h1 fun itv s2 h2=>?_
 ·exact h
 obtain⟨it,fp,tn,J,H2,rfl,I2,T,Dh,f2,l,xs,vs,rfl,hq,Zq,hvs,hinv⟩:=h2
 refine wpAny_newObj_type (wpAny_newFunctionEnv S.cell (by intro y hy;simp at hy) (fun h₁ DU hsb₁=>?_) S.kind)
 dsimp only at DU hsb₁⊢
 have SM:H2 s2.heap.objs.size=none:=I2.hok.fresh (Nat.le_refl _)
 have I3:Inv X pins σ (upd H2 s2.heap.objs.size (.lst [])) {s2 with heap:=s2.heap.push {cls:=.type "list",dict:=none,data:=.seq ([]:List Value).toArray}}:=
  I2.laid (t':=s2.toks) (fun b u e=>Heap.get?_push_of_some _ e) (Nat.le_refl _) ⟨zero_le _,[],0,.nil,Heap.get?_push_size _ rfl⟩
 generalize WX:({s2 with heap:=s2.heap.push {cls:=.type "list",dict:=none,data:=.seq ([]:List Value).toArray}}:Shared)=s3 at I3
 have SN:s3.heap=s2.heap.push {cls:=.type "list",dict:=none,data:=.seq ([]:List Value).toArray}:=by rw[<-WX]
 rw[<-SN]at DU hsb₁⊢
 generalize hDd:s2.heap.objs.size=Dd at*
 have k3:∀b o,s3.heap.get? b=some o->h₁.get? b=some o:=fun b o e=>hsb₁.extBut b o (ne_of_lt (Heap.lt_size e)) (Heap.get?_push_of_some _ e)
 have JT:∀b∈fp,∃o,s2.heap.get? b=some o:=fun b hb=>let⟨o,e,_⟩:=T.obj 0 _ Dh b hb;⟨o,e⟩
 have SQ:∀b∈fp,∃o,s3.heap.get? b=some o:=fun b hb=>let⟨o,e⟩:=JT b hb;⟨o,by rw[SN];exact Heap.get?_push_of_some _ e⟩
 have hfD:∀b∈fp,b≠Dd:=fun b hb=>let⟨o,e⟩:=JT b hb;by rw[<-hDd];exact ne_of_lt (Heap.lt_size e)
 have f3:∀b∈fp,nZ X pins (upd H2 Dd (.lst [])) b:=fun b hb=>⟨by rw[aj (hfD b hb)];exact(f2 b hb).1,(f2 b hb).2⟩
 have I4:=S.start (t':=s2.toks+([]:List (Str×Value)).length) I3 f3 (Nat.le_refl _) DU k3 SQ Zq (fun j i v e1 e2=>hvs j i v e1 e2) _ rfl
 generalize hX:rF X scope N s3 (upd H2 Dd (.lst [])) fp s3.heap.objs.size (X.pn++pins)=X' at I4
 have WY:=hg s3 (upd H2 Dd (.lst [])) fp s3.heap.objs.size (X.pn++pins)
 have SR:=he s3 (upd H2 Dd (.lst [])) fp s3.heap.objs.size (X.pn++pins)
 rw[hX]at WY SR
 have eK:X'.K=X.K:=by rw[<-hX];rfl
 have eP:X'.prog=X.prog:=by rw[<-hX];rfl
 have eW:X'.w=X.w:=by rw[<-hX];rfl
 have eA:X'.A=X.A:=by rw[<-hX];rfl
 have eE:X'.xe=fun _ _=>False:=by rw[<-hX];rfl
 have eC:X'.calm=true:=by rw[<-hX];exact vO
 have eL:X'.env.locals=s3.heap.objs.size:=by rw[<-hX];rfl
 have eS:X'.s₀=s3:=by rw[<-hX];rfl
 have eX:X'.ex=fp:=by rw[<-hX];rfl
 have eF:X'.fs=Ao X.stack:=by rw[<-hX];rfl
 have eN:X'.pn=X.pn++pins:=by rw[<-hX];rfl
 have eH:X'.H₀=upd H2 Dd (.lst []):=by rw[<-hX];rfl
 have eV:X'.env=compEnvC scope (Bt X.env.cells scope.names []) s3.heap.objs.size X.env:=by rw[<-hX];rfl
 have SS:∀{Hx:Hp},(∀b∈fp,Hx b=none)->∀b∈fp,nZ X' [] Hx b:=fun{Hx} hn b hb=>by
  obtain⟨_,c1,c2,c3,c4,c5⟩:=f3 b hb
  have q:=I4.ok.RD b (by rw[eX];exact hb)
  refine⟨hn b hb,q.1,I4.ok.Aq b (by rw[eX];exact hb),.inl (by rw[eX];exact hb),q.2,fun p hp=>?_⟩
  rw[eN,append_nil]at hp
  exact c5 p hp
 obtain⟨Pv,pv0,pvl,pvs,pvd⟩:=hinv Dd SM
 have loop:∀s4:Shared,Inv X' [] (replicate 1 none++vs.map some) (upd H2 Dd (.lst [])) s4->tn 0 s4.heap->
   codeAny (model X.prog X.w) X.A (.compLoop (.ListComp elt [⟨tg,iter,[],0⟩] scope pos) 0 (.ref it) (.ref Dd) (compEnvC scope (Bt X.env.cells scope.names []) s3.heap.objs.size X.env))
    (compPost (model X.prog X.w) X.A X.xe none (EP X pins σ Q) (.ref Dd) s3.heap.objs.size) s4:=by
  intro s4 J4 JU
  refine vN (fun n s'=>∃(i:Nat)(acc:List V)(Hx:Hp)(t0:Option V),n=xs.length-i/\i<=xs.length/\Inv X' [] (t0::vs.map some) Hx s'/\tn i s'.heap/\(∀b∈fp,Hx b=none)/\Pv i acc Hx) ?_ xs.length
   ⟨0,[],_,none,by simp,zero_le _,J4,JU,fun b hb=>(f3 b hb).1,pv0⟩
  rintro n s5 ⟨i,acc,Hx,t0,rfl,hi5,J5,Nr,MX,p5⟩
  obtain⟨hq5,WZ⟩:=pvl i acc Hx p5
  by_cases hlt:i<xs.length
  ·have hx:xs[i]?=some xs[i]:=getElem?_eq_getElem hlt
   have TI:=T.item X' eP eW eK eC i [] s5 _ Hx (fun _ _=>False) J5 (SS MX) Nr ⟨xs,xs[i],hq5,hx⟩
   rw[eA]at TI
   refine cC TI fun r s6 h6=>?_
   obtain⟨u,rfl,h6⟩:=h6
   refine cC h6 fun _ s7 h7=>?_
   obtain⟨x,H7,J7,rx,⟨rfl,hy⟩,SV,fr7⟩:=h7
   have exi:=hy xs hq5
   have J7':=J7.pinned (SS fr7) (T.obj _ _ SV)
   have TG:=WY _ s7 _ H7 x u (fun σ8 H8=>σ8=some x::vs.map some/\H8=H7) J7' rx ⟨rfl,rfl⟩
   rw[eP,eW,eA,eE,eV]at TG
   refine cC TG fun _ s8 h8=>?_
   obtain⟨σ8,H8,J8,rfl,rfl⟩:=h8
   refine cC (wpAny_tests_nil (Q:=fun b s'=>b=true/\s'=s8) ⟨rfl,rfl⟩) fun ok s9 h9=>?_
   obtain⟨rfl,rfl⟩:=h9
   have Fz:∀{σx:St}{Hy:Hp}{sx:Shared},Inv X' ([]++uw fp s7.heap) σx Hy sx->tn (i+1) sx.heap/\∀b∈fp,Hy b=none:=fun{σx Hy sx} Jx=>
    ⟨T.keep _ _ _ SV fun b hb o e=>(Jx.pin (b,o) (mem_append_right _ (mem_append_right _ (gO hb e)))).1,fun b hb=>by
     obtain⟨o,e,d⟩:=T.obj _ _ SV b hb
     exact(Jx.pin (b,o) (mem_append_right _ (mem_append_right _ (gO hb e)))).2.1⟩
   rw[if_pos rfl]
   have TE:=SR _ s9 _ H8 _ J8 (pvs i acc H8 x p5 exi)
   rw[eP,eW,eA,eE,eV]at TE
   refine cC TE fun y W0 h10=>?_
   obtain⟨v,BW,J10,rv,SW,hlen,p10⟩:=h10
   have TM:=fY (X:=X') _ W0 _ BW (.ref Dd) [v] (.ref Dd) [y] (fun _ VC=>VC=upd BW Dd (.lst (acc++[v]))) J10 rfl (.cons rv .nil) ⟨Dd,acc,v,rfl,rfl,SW,hlen,rfl⟩
   rw[eP,eW,eA,eE]at TM
   refine cC TM fun _ s11 h11=>?_
   obtain⟨v',VC,W3,_,rfl⟩:=h11
   obtain⟨k1,k2⟩:=Fz W3
   exact⟨xs.length-(i+1),by omega,i+1,acc++[v],_,some x,rfl,hlt,W3.kM,k1,k2,p10⟩
  ·have e:i=xs.length:=by omega
   subst e
   have TD:=T.done X' eP eW eK eC xs.length [] s5 _ Hx (fun _ _=>False) J5 (SS MX) Nr ⟨xs,hq5,Nat.le_refl _⟩
   rw[eA]at TD
   refine cC TD fun r s6 h6=>?_
   obtain⟨rfl,J6⟩:=h6
   obtain⟨m6,SX,_⟩:=J6.loc
   rw[eL]at SX
   have un6:Un (Ao X.stack) fp (upd H2 Dd (.lst [])) Hx s3.heap s6.heap:=by
    have u:=J6.base
    rw[eF,eX,eH,eS]at u
    exact u
   have hxC:Hx s3.heap.objs.size=none:=by have:=J6.free;rw[eL]at this;exact this
   have SY:nX X.prog X.w Hx s6.heap:=by
    have z:=J6.hok
    rw[eP,eW]at z
    exact z
   have os6:s6.os=s3.os:=by have:=J6.os;rw[eS]at this;exact this
   have I6:Inv X pins σ Hx s6:=I3.xq (s':=s6) os6 un6 SY J6.bare fun b hb=>by
    obtain⟨_,c1,c2,c3,c4,c5⟩:=f3 b hb
    exact⟨c3,c1,c4,c5⟩
   have fC:nZ X pins Hx s3.heap.objs.size:=⟨hxC,(I3.G9 (Nat.le_refl _) (I3.hok.fresh (Nat.le_refl _))).2⟩
   refine⟨m6,SX,fun h7 hs7=>⟨.ref Dd,Hx,zJ (fp:=[s3.heap.objs.size]) (t':=s6.toks) I6 (fun b hb=>by
    have z:b=s3.heap.objs.size:=by simpa using hb
    rw[z];exact fC) (fun b u hb e=>(hs7.2 b (fun z=>hb (by simp[z]))).trans e),rfl,pvd acc Hx p5⟩⟩
 have JU:tn 0 h₁:=T.keep _ _ _ Dh fun b hb o e=>k3 b o (by rw[SN];exact Heap.get?_push_of_some _ e)
 have eG:({heap:=h₁,gens:=s3.gens,drawn:=s3.drawn,toks:=s2.toks+([]:List (Str×Value)).length,os:=s3.os}:Shared)={heap:=h₁,gens:=s2.gens,drawn:=s2.drawn,toks:=s2.toks+([]:List (Str×Value)).length,os:=s2.os}:=by rw[<-WX]
 rw[eG]at I4
 exact codeAny_compStart_list (loop _ I4 JU) (T.self _ 0 _ _ _ JU (loop _ I4 JU))
end
def k9(env:DE):R Bool:=
 R.ok true
def lg(env:DE):R D:=
 (bM 0 env>=>fun iA=>R.ok (D.int 0)>=>fun gf=>xG iA gf)
def Gv(env:DE):R Out:=
 ((((((bM 4 env>=>fun v6=>R.ok (D.int 0)>=>fun v7=>xG v6 v7)>=>fun v4=>(((bM 1 env>=>vL)>=>fun v9=>eZ env []>=>fun v10=>R.ne (cG (bN 0) k9 lg (jf 1 v10) v9)>=>fit)>=>fun v8=>R.of (zO v8))>=>fun v5=>R.of (gZ v4 v5))>=>fun v2=>((bM 4 env>=>fun kj=>R.ok (D.int 1)>=>fun kJ=>xG kj kJ)>=>fun jV=>R.ok []>=>fun kc=>R.ok (jV::kc))>=>fun v3=>R.ok (v2::v3))>=>fit)>=>fun ds=>R.ok (D.tup ds))>=>fun v1=>R.ok (Out.rt v1))
def eu(ds:List D):R D:=match ds with
 |[.int n,d]=>R.ne (bx [d]>=>fun rs=> @ite _ ((1<=n/\n<=7)/\rs.length<=40/\∀r∈rs,bp n.toNat r) (propDecidable _) (Gv [.val (.int n),.val d,.no,.no,.val (vX n.toNat (iP n.toNat rs))]>=>ah) .bad)
 |_=>.bad
def L4(env:DE):R Out:=
 (((bM 0 env>=>fun v2=>(((bM 0 env>=>fun v6=>(bM 1 env>=>fun v8=>R.ok []>=>fun v9=>R.ok (v8::v9))>=>fun v7=>R.ok (v6::v7))>=>eg)>=>fun v4=>R.ok []>=>fun v5=>R.ok (v4::v5))>=>fun v3=>R.ok (v2::v3))>=>eu)>=>fun v1=>R.ok (Out.rt v1))
def yh:=mD 2 2 L4
def CK(env:DE):R Bool:=
 R.ok true
def yi(env:DE):R D:=
 (j9 0 env>=>fun ZC=>R.ok (D.lst ZC))
def yj(d:D)(env:DE):R Out:=
 (bN 4) d env>=>fun Cd=>
  (aT (((aP 1 Cd>=>fun Bu=>((R.ok (D.int 11)>=>fun Bw=>aP 4 Cd>=>fun zd=>R.of (gZ Bw zd))>=>fun FW=>(R.ok (D.int 40692)>=>fun Dq=>R.ok []>=>fun Eg=>R.ok (Dq::Eg))>=>fun Eh=>R.ok (FW::Eh))>=>fun Ea=>R.ok (Bu::Ea))>=>cM)>=>fun yV=>R.ok (Out.nx (List.set Cd 5 (Sl.val yV)))) fun uR=>
 (aT (((bM 2 uR>=>fun Ef=>(bM 3 uR>=>fun Ed=>((aP 5 uR>=>fun K4=>R.ok (D.int 9)>=>fun HU=>R.of (ki K4 HU))>=>fun Dm=>(((aP 5 uR>=>fun KW=>R.ok (D.int 9)>=>fun Ds=>R.of (uE KW Ds))>=>fun OA=>((((bM 3 uR>=>fun K2=>R.ok (D.int 1)>=>fun K3=>xG K2 K3)>=>fun KQ=>R.ok []>=>fun KR=>R.ok (KQ::KR))>=>fun KS=>R.of (lL KS))>=>fun KU=>R.ok (D.int 1)>=>fun KP=>R.of (gZ KU KP))>=>fun KO=>R.of (ki OA KO))>=>fun KN=>((aP 5 uR>=>fun IY=>R.ok (D.int 64)>=>fun K0=>R.of (uE IY K0))>=>fun K1=>R.ok []>=>fun KY=>R.ok (K1::KY))>=>fun HS=>R.ok (KN::HS))>=>fun Dr=>R.ok (Dm::Dr))>=>fun Ce=>R.ok (Ed::Ce))>=>fun Ec=>R.ok (Ef::Ec))>=>gz)>=>fun Eb=>R.ok (Out.nx (List.set uR 6 (Sl.val Eb)))) fun Bv=>
 (aT (((((bM 6 Bv>=>fun OD=>R.ok (D.int 0)>=>fun OE=>xG OD OE)>=>fun OB=>(((((bM 6 Bv>=>fun v87=>R.ok (D.int 1)>=>fun F3=>xG v87 F3)>=>vL)>=>fun T5=>eZ Bv []>=>fun X4=>R.ne (cG (bN 0) CK yi (jf 1 X4) T5)>=>fit)>=>fun T4=>R.ok (D.lst T4))>=>fun OC=>R.ok []>=>fun HV=>R.ok (OC::HV))>=>fun Na=>R.ok (OB::Na))>=>fit)>=>fun ds=>R.ok (D.tup ds))>=>fun KZ=>R.ok (Out.nx (List.set Bv 7 (Sl.val KZ)))) fun FY=>
 (aT (((((aP 5 FY>=>fun XW=>R.ok (D.int 16)>=>fun X0=>R.of (uE XW X0))>=>fun X1=>R.ok (D.int 2)>=>fun X2=>R.of (ki X1 X2))>=>fun XT=>R.ok (D.int 0)>=>fun X3=>R.of (sJ XT X3)>=>dX)>=>fun XS=>if XS=true then(((aP 2 FY>=>fun Le=>(aP 3 FY>=>fun Lj=>R.ok []>=>fun Ln=>R.ok (Lj::Ln))>=>fun Lf=>R.ok (Le::Lf))>=>cO)>=>fun XX=>R.ok (D.bl true)>=>fun XY=>R.of (uP XX XY)>=>dX)else R.ok false)>=>fun XU=>if XU=true then(R.ok (D.bl false)>=>fun Lg=>R.ok (Out.rt Lg))else(R.ok (Out.nx FY))) fun OG=>
 (aT (((aP 6 OG>=>fun Li=>(aP 2 OG>=>fun Ll=>R.ok []>=>fun Lo=>R.ok (Ll::Lo))>=>fun Lk=>R.ok (Li::Lk))>=>dG)>=>fun Lh=>R.ok (Out.nx (List.set OG 8 (Sl.val Lh)))) fun uV=>
 (aT (((((aP 8 uV>=>dX)>=>fun Ls=>R.ok (!Ls))>=>fun Lq=>if Lq=true then((((aP 2 uV>=>fun Lv=>(aP 7 uV>=>fun T6=>R.ok []>=>fun wx=>R.ok (T6::wx))>=>fun Lw=>R.ok (Lv::Lw))>=>dJ)>=>dX)>=>fun Lu=>R.ok (!Lu))else R.ok false)>=>fun Lp=>if Lp=true then R.ok true else(((aP 8 uV>=>dX)>=>fun T7=>if T7=true then(((aP 2 uV>=>fun Uu=>(aP 7 uV>=>fun Up=>R.ok []>=>fun Us=>R.ok (Up::Us))>=>fun Ut=>R.ok (Uu::Ut))>=>cO)>=>fun T8=>R.ok (D.bl true)>=>fun Cq=>R.of (uP T8 Cq)>=>dX)else R.ok false)>=>fun T9=>if T9=true then R.ok true else(aP 7 uV>=>fun Uo=>aP 6 uV>=>fun Ua=>R.of (xM Uo Ua)>=>dX)))>=>fun Lr=>if Lr=true then(R.ok (D.bl false)>=>fun Um=>R.ok (Out.rt Um))else(R.ok (Out.nx uV))) fun ze=>
 (((((aP 2 ze>=>fun Uh=>(aP 3 ze>=>fun Ue=>R.ok []>=>fun Ug=>R.ok (Ue::Ug))>=>fun Uk=>R.ok (Uh::Uk))>=>cO)>=>fun Ub=>R.ok (D.bl true)>=>fun Uc=>R.of (uP Ub Uc)>=>dX)>=>fun Ul=>if Ul=true then R.ok true else(((aP 8 ze>=>dX)>=>fun Uj=>R.ok (!Uj))>=>fun Ui=>if Ui=true then((((aP 2 ze>=>fun Ur=>(aP 7 ze>=>fun Uv=>R.ok []>=>fun UA=>R.ok (Uv::UA))>=>fun UB=>R.ok (Ur::UB))>=>dJ)>=>dX)>=>fun Uq=>R.ok (!Uq))else R.ok false))>=>fun Ud=>if Ud=true then(R.ok (D.bl false)>=>fun Uy=>R.ok (Out.rt Uy))else(R.ok (Out.nx ze)))))))))
def Q0(env:DE):R Out:=
 (aT ((((aP 0 env>=>fun v5=>(R.ok (D.int 0)>=>fun v7=>R.ok []>=>fun v8=>R.ok (v7::v8))>=>fun v6=>R.ok (v5::v6))>=>bX)>=>fun v3=>(R.ok (D.int 10)>=>fun v9=>R.ok (D.int 9)>=>fun v10=>R.of (DS v9 v10))>=>fun v4=>R.of (ki v3 v4))>=>fun v2=>R.ok (Out.nx (List.set env 1 (Sl.val v2)))) fun v1=>
 (aT (((aP 1 v1>=>fun iA=>(R.ok (D.int 1)>=>fun jV=>(R.ok (D.int 7)>=>fun kj=>R.ok []>=>fun kJ=>R.ok (kj::kJ))>=>fun kc=>R.ok (jV::kc))>=>fun gf=>R.ok (iA::gf))>=>fG)>=>fun jW=>R.ok (Out.nx (List.set v1 2 (Sl.val jW)))) fun v11=>
 (aT (((bM 2 v11>=>fun qU=>(((bM 0 v11>=>fun tJ=>(bM 2 v11>=>fun wu=>(R.ok (D.int 12)>=>fun Cb=>R.ok []>=>fun v30=>R.ok (Cb::v30))>=>fun zR=>R.ok (wu::zR))>=>fun vQ=>R.ok (tJ::vQ))>=>jQ)>=>fun qg=>R.ok []>=>fun rJ=>R.ok (qg::rJ))>=>fun kI=>R.ok (qU::kI))>=>yh)>=>fun v20=>R.ok (Out.nx (List.set v11 3 (Sl.val v20)))) fun nj=>
 (aT (((R.ok (D.int 3)>=>fun Uz=>R.ok []>=>fun Ux=>R.ok (Uz::Ux))>=>JP)>=>fun D9=>cW yj D9 nj) fun FU=>
 (R.ok (D.bl true)>=>fun Uw=>R.ok (Out.rt Uw))))))
def yk:=mS 1 9 Q0
end DL
namespace DL.qx
open PySem PySem.Spec PyProof.Rows L2 DL
def top(i:Nat):Stmt:=PySem.Challenge.pw_braidcomb_k35_forms_refused.main.body.getD i (.Pass ⟨0,0,0,0⟩)
abbrev vc:Stmt:=top 14
theorem Es:aA ["word"] ["word"] (ae vc):=pA
abbrev ym:Stmt:=top 15
theorem qy:aA ["word","left","k"] ["word"] (ae ym):=pA
abbrev z0:Stmt:=top 17
theorem Et:aA ["row"] ["row"] (ae z0):=pA
abbrev vY:Stmt:=top 18
theorem A8:aA ["n"] ["n"] (ae vY):=pA
abbrev Gw:Stmt:=top 19
theorem L5:aA ["n"] ["n"] (ae Gw):=pA
abbrev tY:Stmt:=top 20
theorem jC:aA ["row","places","place","string"] ["row"] (ae tY):=pA
abbrev yn:Stmt:=top 21
theorem Ib:aA ["row"] ["row"] (ae yn):=pA
abbrev z4:Stmt:=top 22
theorem Eu:aA ["row"] ["row"] (ae z4):=pA
abbrev g6:Stmt:=top 23
theorem mJ:aA ["row","k"] ["row","k"] (ae g6):=pA
abbrev iQ:Stmt:=top 24
theorem nM:aA ["row","k"] ["row","k"] (ae iQ):=pA
abbrev z5:Stmt:=top 25
theorem oF:aA ["n","word","row","k"] ["n","word"] (ae z5):=pA
abbrev yo:Stmt:=top 26
theorem Ic:aA ["row"] ["row"] (ae yo):=pA
abbrev lj:Stmt:=top 27
theorem wA:aA ["row"] ["row"] (ae lj):=pA
abbrev mK:Stmt:=top 28
theorem yp:aA ["one","other"] ["one","other"] (ae mK):=pA
abbrev yq:Stmt:=top 31
theorem lY:aA ["crossings","bits","k"] ["crossings"] (ae yq):=pA
abbrev jj:Stmt:=top 34
theorem oG:aA ["n","row"] ["n","row"] (ae jj):=pA
abbrev pG:Stmt:=top 35
theorem dN:aA ["n","form","halves","rows","row","place"] ["n","form"] (ae pG):=pA
abbrev L6:Stmt:=top 36
theorem kq:aA ["n","word","pieces","order","sign_above","k","place","held"] ["n","word"] (ae L6):=pA
abbrev qz:Stmt:=top 37
theorem wB:aA ["row"] ["row"] (ae qz):=pA
abbrev yr:Stmt:=top 38
theorem CL:aA ["n","piece"] ["n","piece"] (ae yr):=pA
abbrev qA:Stmt:=top 39
theorem wC:aA ["halves","row"] ["halves","row"] (ae qA):=pA
abbrev jk:Stmt:=top 40
theorem bH:aA ["steps","rows","halves","step"] ["steps"] (ae jk):=pA
abbrev jt:Stmt:=top 41
theorem eU:aA ["n","steps","comb","row","found"] ["n","steps"] (ae jt):=pA
abbrev ju:Stmt:=top 42
theorem tZ:aA ["n","word"] ["n","word"] (ae ju):=pA
abbrev Gx:Stmt:=top 43
theorem L7:aA ["n","word"] ["n","word"] (ae Gx):=pA
abbrev vZ:Stmt:=top 45
theorem A9:aA ["_law_cell","_law_k","_law_factor"] ["_law_cell","_law_k","_law_factor"] (ae vZ):=pA
abbrev pH:Stmt:=top 46
theorem ve:aA ["_law_script","_law_k"] ["_law_script","_law_k"] (ae pH):=pA
abbrev pI:Stmt:=top 47
theorem nN:aA ["_law_seed","_law_least","_law_most"] ["_law_seed","_law_least","_law_most"] (ae pI):=pA
abbrev nP:Stmt:=top 48
theorem lZ:aA ["_law_number","_law_n","_law_k"] ["_law_number","_law_n"] (ae nP):=pA
abbrev rS:Stmt:=top 49
theorem lq:aA ["_law_number","_law_n","_law_k","_law_other"] ["_law_number","_law_n"] (ae rS):=pA
abbrev rT:Stmt:=top 50
theorem fJ:aA ["_law_cells","_law_n","_law_most","_law_word","_law_k","_law_cell"] ["_law_cells","_law_n","_law_most"] (ae rT):=pA
abbrev oH:Stmt:=top 51
theorem jD:aA ["_law_cells","_law_n","_law_most","_law_word","_law_total","_law_at"] ["_law_cells","_law_n","_law_most"] (ae oH):=pA
abbrev wb:Stmt:=top 52
theorem oJ:aA ["_law_cells","_law_n","_law_row_here","_law_s"] ["_law_cells","_law_n"] (ae wb):=pA
abbrev jZ:Stmt:=top 53
theorem dO:aA ["_law_found","_law_n","_law_last","_law_one","_law_k"] ["_law_found","_law_n"] (ae jZ):=pA
abbrev pJ:Stmt:=top 54
theorem nQ:aA ["_law_n","_law_how","_law_far","_law_row_here"] ["_law_n","_law_how","_law_far"] (ae pJ):=pA
abbrev iR:Stmt:=top 55
theorem cA:aA ["_law_n","_law_told","_law_how","_law_at","_law_far","_law_halves","_law_rows","_law_last","_law_over","_law_k","_law_row_here"] ["_law_n","_law_told","_law_how","_law_at","_law_far"] (ae iR):=pA
abbrev pK:Stmt:=top 56
theorem dQ:aA ["_law_n","_law_told","_law_good","e","_law_others"] ["_law_n","_law_told"] (ae pK):=pA
abbrev Ew:Stmt:=top 57
theorem kr:aA ["_law_script","_law_seed","_law_n","_law_told","_law_j","_law_draw","_law_bad","_law_handed","_law_due"] ["_law_script"] (ae Ew):=pA
structure Tb(K:'b')(mg:Str->Option Value) where
 t9:Addr
 uc:FuncData
 yt:Df K mg "turned" vc ["word"] t9 uc
 qY:Addr
 qZ:FuncData
 vg:Df K mg "trimmed" ym ["word"] qY qZ
 ud:Addr
 ue:FuncData
 yu:Df K mg "is_row" z0 ["row"] ud ue
 fK:Addr
 fM:FuncData
 dz:Df K mg "straight" vY ["n"] fK fM
 yv:Addr
 yw:FuncData
 vh:Df K mg "half" Gw ["n"] yv yw
 g7:Addr
 g8:FuncData
 g9:Df K mg "places_of" tY ["row"] g7 g8
 q8:Addr
 q9:FuncData
 oK:Df K mg "stops" yn ["row"] q8 q9
 qB:Addr
 qC:FuncData
 nR:Df K mg "starts" z4 ["row"] qB qC
 bA:Addr
 bB:FuncData
 bh:Df K mg "with_crossing_behind" g6 ["row","k"] bA bB
 cS:Addr
 cT:FuncData
 bR:Df K mg "with_crossing_ahead" iQ ["row","k"] cS cT
 uf:Addr
 ug:FuncData
 uh:Df K mg "row_of" z5 ["n","word"] uf ug
 xh:Addr
 xj:FuncData
 Ba:Df K mg "ahead" yo ["row"] xh xj
 jE:Addr
 jF:FuncData
 mO:Df K mg "flipped_row" lj ["row"] jE jF
 ky:Addr
 kB:FuncData
 oM:Df K mg "free_to_go" mK ["one","other"] ky kB
 rf:Addr
 rg:FuncData
 hU:Df K mg "as_bits" yq ["crossings"] rf rg
 bY:Addr
 bZ:FuncData
 fO:Df K mg "refuse_unsound_row" jj ["n","row"] bY bZ
 dR:Addr
 dS:FuncData
 dU:Df K mg "checked_form" pG ["n","form"] dR dS
 Gy:Addr
 Gz:FuncData
 L8:Df K mg "cut" L6 ["n","word"] Gy Gz
 jG:Addr
 jH:FuncData
 mQ:Df K mg "turned_step" qz ["row"] jG jH
 rh:Addr
 rm:FuncData
 vj:Df K mg "step_of" yr ["n","piece"] rh rm
 jI:Addr
 jJ:FuncData
 mR:Df K mg "past_halves" qA ["halves","row"] jI jJ
 dm:Addr
 dq:FuncData
 b7:Df K mg "rows_behind_halves" jk ["steps"] dm dq
 gE:Addr
 gF:FuncData
 j0:Df K mg "form_of_steps" jt ["n","steps"] gE gF
 gG:Addr
 gH:FuncData
 j3:Df K mg "steps_of_word" ju ["n","word"] gG gH
 Bb:Addr
 Bc:FuncData
 Ex:Df K mg "form" Gx ["n","word"] Bb Bc
 gW:Addr
 gX:FuncData
 jv:Df K mg "_law_mix" vZ ["_law_cell","_law_k","_law_factor"] gW gX
 fQ:Addr
 fR:FuncData
 iS:Df K mg "_law_cell_at" pH ["_law_script","_law_k"] fQ fR
 iT:Addr
 iU:FuncData
 lu:Df K mg "_law_strings" pI ["_law_seed","_law_least","_law_most"] iT iU
 gI:Addr
 gJ:FuncData
 j5:Df K mg "_law_crossing" nP ["_law_number","_law_n"] gI gJ
 kC:Addr
 kD:FuncData
 oN:Df K mg "_law_piece" rS ["_law_number","_law_n"] kC kD
 kE:Addr
 kF:FuncData
 oO:Df K mg "_law_drawn" rT ["_law_cells","_law_n","_law_most"] kE kF
 l9:Addr
 mf:FuncData
 qD:Df K mg "_law_part" oH ["_law_cells","_law_n","_law_most"] l9 mf
 oQ:Addr
 oU:FuncData
 sG:Df K mg "_law_row" wb ["_law_cells","_law_n"] oQ oU
 iW:Addr
 iX:FuncData
 ly:Df K mg "_law_is_form" jZ ["_law_found","_law_n"] iW iX
 iY:Addr
 iZ:FuncData
 lA:Df K mg "_law_bad_row" pJ ["_law_n","_law_how","_law_far"] iY iZ
 jK:Addr
 jL:FuncData
 mU:Df K mg "_law_spoilt" iR ["_law_n","_law_told","_law_how","_law_at","_law_far"] jK jL
 i6:Addr
 i7:FuncData
 i9:Df K mg "_law_refused" pK ["_law_n","_law_told"] i6 i7
 L9:Addr
 GA:FuncData
 Q1:Df K mg "law" Ew ["_law_script"] L9 GA
 ui:mg "ValueError"=none
 Ma:mg "abs"=none
 Ey:mg "bool"=none
 mh:mg "enumerate"=none
 Mb:mg "int"=none
 bJ:mg "isinstance"=none
 ie:mg "len"=none
 eM:mg "list"=none
 Q2:mg "max"=none
 du:mg "range"=none
 fU:mg "reversed"=none
 yx:mg "sorted"=none
 Mc:mg "sum"=none
 Bd:mg "tuple"=none
 mj:Tok
 mm:mg "FEWEST_STRINGS"=some (.int 1 mj)
 uj:Tok
 uk:mg "MOST_KEPT"=some (.int 200000 uj)
 pL:Tok
 pM:mg "MOST_STRINGS"=some (.int 7 pL)
 oV:Addr
 rV:mg "BadPicture"=some (.ref oV)
 vk:Addr
 yy:mg "BadText"=some (.ref vk)
 oW:Addr
 rW:mg "BraidError"=some (.ref oW)
 yz:Addr
 Ie:mg "NoForm"=some (.ref yz)
 yA:Addr
 z6:mg "NoMove"=some (.ref yA)
 Be:Addr
 CM:mg "NoRow"=some (.ref Be)
 sH:Addr
 wc:mg "NoString"=some (.ref sH)
 yB:Addr
 z7:mg "NoWord"=some (.ref yB)
 vm:Addr
 yD:mg "TooMany"=some (.ref vm)
 yE:Addr
 z8:mg "Unlike"=some (.ref yE)
 nS:Xc K mg "NoForm" yz
 yF:Cat K mg "NoForm" ["NoForm"]
 rX:Xy K ["NoForm"] "BraidError" (.ref oW)
 rY:Xy K ["NoForm"] "ValueError" (.type "ValueError")
 aS:Xz K ["NoForm"] ["NoWord","BadText","NoMove","NoRow","Unlike","NoString","BadPicture","TooMany"] [yB,vk,yA,Be,yE,sH,oV,vm]
end DL.qx
namespace DL.H
open PySem PySem.W L2
noncomputable section
def vi(i:Int)(t:Nat):Value:=.int i t
def vs(s:String)(t:Nat):Value:=.str (Str.ofString s) t
def vr(a:Nat):Value:=.ref a
def vy(s:String):Value:=.type s
def vb(s:String):Value:=.builtin s
def vn:Value:=.none
def vt:Value:=.bool true
def vf:Value:=.bool false
def pl:Data:=.plain
def ob(c:Value)(d:Data)(s:List (Option Value)):Obj:=⟨c,none,d,⟨s⟩⟩
def en(P:Params)(x:String)(t:Nat)(v:Value):DictEntry:=⟨PyData.keyHash P (Str.ofString x),.str (Str.ofString x) t,v⟩
def cd(n:String)(b m:List Value)(s:Addr)(q:String)(hd:Bool)(sn:List Str)(su:List Value)(ab:Bool)(c:Option Bool)(de:Bool):ClassData:=⟨Str.ofString n,b,m,s,Str.ofString q,hd,sn,su,ab,c,de⟩
def E:Obj:=ob (vy "tuple") (.seq ⟨[]⟩ 0) []
def F:Obj:=ob vn (.fields ⟨[]⟩) []
def Z:String:="/claim/cut.py"
def nO(s:Stmt):Str:=match s with|.FunctionDef n _ _ _ _ _ _ _ _ _=>n|_=>Str.empty
def lO(s:Stmt):Nat:=match s with|.FunctionDef _ _ _ _ _ _ _ _ _ p=>p.line|_=>0
def tf(s:Stmt)(q:Str):Obj:=⟨.none,none,.func {name:=nO s,qualname:=q,params:=eQ s,body:=.stmts (bE s),scope:=ae s,globals:=0,closure:=[],defaults:=.none,kwdefaults:=.none},⟨[]⟩⟩
def hf(n q:Str)(s:Stmt)(m:Value)(c:Nat):Obj:=⟨.type "function",none,.func (fnOf n q (eQ s) (bE s) (ae s) .none .none .none m none (.ref c) .none),⟨[]⟩⟩
def cf(n q:Str)(t l k:Nat)(f:Value)(a b:Nat)(x y z:Value)(u:Nat):Obj:=ob (vy "code") (.fields ⟨[.str n t,.str q (t+1),vs Z (t+2),.int l 0,.int k 0,vi 0 0,vi 0 0,f,vr a,.bool (f !=vi 0 0),vi 181 0,vr b,vn,x,y,z,.int u 0,.int l 0,vs Z (u+1)]⟩) []
def tu:List String->Nat->List Value
 |[],_=>[]
 |x::l,t=>vs x t::tu l (t+1)
def Q3(s:Stmt)(q:Str)(a t:Nat)(m:Value)(ns:List String):List Obj:=[E,F,ob (vy "tuple") (.seq ⟨tu ns (t+3)⟩ 0) [],E,tf s q,cf (nO s) q t (lO s) (eQ s).args.length (vi 3 0) a (a+1) (vr (a+2)) (vr (a+3)) (vr (a+4)) (t+3+ns.length),hf (nO s) q s m (a+5)]
def fb5(s:Stmt)(q:Str)(a t:Nat)(m:Value):List Obj:=[E,F,tf s q,cf (nO s) q t (lO s) (eQ s).args.length (vi 3 0) a (a+1) vn vn (vr (a+2)) (t+3),hf (nO s) q s m (a+3)]
def xb(P:Params)(n:String)(a t:Nat)(m:Value)(b:Nat)(l:Nat):List Obj:=
 [ob (vy "tuple") (.seq ⟨[vr b]⟩ 0) [],ob (vy "builtin_function_or_method") (.fields ⟨[vb "type.__prepare__",vy "type"]⟩) [],
  ob (vy "dict") (.dict ⟨[en P "__module__" (t+5) m,en P "__qualname__" (t+7) (vs n (t+6)),en P "__firstlineno__" (t+9) (.int l (t+8)),en P "__static_attributes__" (t+10) (vr (a+7))]⟩ 4) [],E,F,
  cf (Str.ofString n) (Str.ofString n) t l 0 (vi 0 0) (a+3) (a+4) vn vn vn (t+3),ob (vy "frame") pl [some (vr (a+5)),some (vr 3),some (vr (a+2)),none,some m,none,some (vr 0)],E,
  ob (vy "dict") (.dict ⟨[en P "__module__" (t+5) m,en P "__firstlineno__" (t+9) (.int l (t+8)),en P "__static_attributes__" (t+10) (vr (a+7)),en P "__doc__" (t+11) vn]⟩ 2) [],
  ob (vy "type") (.cls (cd n [vr b] [vr (a+9),vr b,vy "ValueError",vy "Exception",vy "BaseException",vy "object"] (a+8) n true [] [] false none false)) [some (vr a),none,some (vs n (t-2)),some (vs n (t+6)),some (vb "ValueError.__new__"),some vt],
  ob (vy "super") (.fields ⟨[vr (a+9),vr (a+9),vr (a+9)]⟩) [],ob (vy "builtin_function_or_method") (.fields ⟨[vb "object.__init_subclass__",vr (a+9)]⟩) []]
def sp:List Obj->List Obj×List Obj
 |[]=>([],[])
 |x::l=>(x::(sp l).2,(sp l).1)
def bt:Nat->List Obj->BT
 |0,_=>.nil
 |_+1,[]=>.nil
 |n+1,x::l=>.node x (bt n (sp l).1) (bt n (sp l).2)
end
end DL.H
namespace DL.qx.H
open PySem PySem.W DL.H L2
noncomputable section
abbrev pw:Program:=PySem.Challenge.pw_braidcomb_k35_forms_refused
abbrev T(i:Nat):Stmt:=DL.qx.top i
def J(i j:Nat):Stmt:=match T i with|.ClassDef _ _ _ b _ _ _ _ _ _ _=>b.getD j (.Pass ⟨0,0,0,0⟩)|s=>s
def M3(P:Params):List DictEntry:=[en P "__doc__" 166 vn,en P "__package__" 167 vn,en P "__loader__" 168 (vb "__main__.__loader__#opaque"),en P "__spec__" 169 vn,en P "__annotations__" 170 (vr 6),en P "__builtins__" 171 (vr 4),en P "__file__" 173 (vs "/claim/cut.py" 172),en P "__cached__" 174 vn,en P "BraidError" 206 (vr 24),en P "NoWord" 222 (vr 37),en P "BadText" 238 (vr 49),en P "NoMove" 254 (vr 61),en P "NoRow" 270 (vr 73),en P "NoForm" 286 (vr 85),en P "Unlike" 302 (vr 97),en P "NoString" 318 (vr 109),en P "BadPicture" 334 (vr 121),en P "TooMany" 350 (vr 133),en P "FEWEST_STRINGS" 354 (vi 1 353),en P "MOST_STRINGS" 356 (vi 7 355),en P "turned" 362 (vr 140),en P "trimmed" 371 (vr 147),en P "is_row" 380 (vr 154),en P "straight" 387 (vr 161),en P "half" 394 (vr 168),en P "places_of" 404 (vr 175),en P "stops" 410 (vr 180),en P "starts" 417 (vr 187),en P "with_crossing_behind" 425 (vr 194),en P "with_crossing_ahead" 433 (vr 201),en P "row_of" 443 (vr 208),en P "ahead" 449 (vr 213),en P "flipped_row" 455 (vr 218),en P "free_to_go" 461 (vr 223),en P "MOST_KEPT" 465 (vi 200000 464),en P "as_bits" 474 (vr 230),en P "Comb" 580 (vr 294),en P "refuse_unsound_row" 590 (vr 305),en P "checked_form" 602 (vr 312),en P "cut" 616 (vr 319),en P "turned_step" 623 (vr 326),en P "step_of" 631 (vr 333),en P "past_halves" 639 (vr 340),en P "rows_behind_halves" 649 (vr 347),en P "form_of_steps" 655 (vr 352),en P "steps_of_word" 661 (vr 357),en P "form" 669 (vr 364),en P "_law_mix" 680 (vr 371),en P "_law_cell_at" 688 (vr 378),en P "_law_strings" 697 (vr 385),en P "_law_crossing" 706 (vr 392),en P "_law_piece" 716 (vr 399),en P "_law_drawn" 728 (vr 406),en P "_law_part" 734 (vr 411),en P "_law_row" 744 (vr 418),en P "_law_is_form" 750 (vr 423),en P "_law_bad_row" 760 (vr 430),en P "_law_spoilt" 766 (vr 435),en P "_law_refused" 777 (vr 442),en P "law" 783 (vr 447)]
def m3(P:Params)(v:Value)(k e:Nat):Obj:=ob (vy "dict") (.dict ⟨en P "__name__" 165 v::(M3 P).take k⟩ e) []
def L12:List (Nat×Nat):=[(2,20),(4,33),(6,45),(8,57),(10,69),(12,81),(14,93),(16,105),(18,117),(20,129),(25,139),(27,146),(36,153),(40,160),(42,167),(44,174),(49,179),(51,186),(53,193),(55,200),(57,207),(66,212),(68,217),(70,222),(74,229),(79,236),(152,304),(157,311),(168,318),(183,325),(185,332),(189,339),(193,346),(201,351),(207,356),(209,363),(212,370),(214,377),(218,384),(223,391),(228,398),(234,405),(240,410),(247,417),(252,422),(270,429),(283,434),(301,441),(309,446)]
def Md(k:Nat):Obj:=ob vn (.fields ⟨(L12.take k).flatMap fun x=>[.int x.1 0,vi 0 0,vr x.2]⟩) []
def w0:Value:=vs "braidcomb.errors" 187
def w1:Value:=vs "braidcomb.words" 351
def w2:Value:=vs "braidcomb.rows" 372
def w3:Value:=vs "braidcomb.sliding" 462
def w4:Value:=vs "braidcomb.forms" 581
def w5:Value:=vs "law_braidcomb_k35_forms_refused" 670
def f7(i a t:Nat)(m:Value)(ns:List String):List Obj:=Q3 (T i) (nO (T i)) a t m ns
def f5(i a t:Nat)(m:Value):List Obj:=fb5 (T i) (nO (T i)) a t m
def FL(P:Params):List Obj:=[boot_o_0 P,boot_o_1 P,boot_o_2 P,m3 P w5 60 61,boot_o_4 P,boot_o_5 P,boot_o_6 P,boot_o_7 P,boot_o_8 P,boot_o_9 P,boot_o_10 P]
 ++[E,(Md 49),(ob (vy "code") (.fields ⟨[(vs "<module>" 182),(vs "<module>" 183),(vs "/claim/cut.py" 184),(vi 1 0),(vi 0 0),(vi 0 0),(vi 0 0),(vi 0 0),(vr 11),vf,(vi 181 0),(vr 12),vn,vn,vn,vn,(vi 185 0),(vi 1 0),(vs "/claim/cut.py" 186)]⟩) []),(ob (vy "frame") pl [(some (vr 13)),(some (vr 3)),(some (vr 3)),none,(some (vs "__main__" 164)),none,(some (vr 0))]),(ob (vy "tuple") (.seq ⟨[(vy "ValueError")]⟩ 0) []),(ob (vy "builtin_function_or_method") (.fields ⟨[(vb "type.__prepare__"),(vy "type")]⟩) []),(ob (vy "dict") (.dict ⟨[(en P "__module__" 196 (vs "braidcomb.errors" 187)),(en P "__qualname__" 198 (vs "BraidError" 197)),(en P "__firstlineno__" 200 (vi 2 199)),(en P "__static_attributes__" 201 (vr 22))]⟩ 4) []),E,F,(ob (vy "code") (.fields ⟨[(vs "BraidError" 191),(vs "BraidError" 192),(vs "/claim/cut.py" 193),(vi 2 0),(vi 0 0),(vi 0 0),(vi 0 0),(vi 0 0),(vr 18),vf,(vi 181 0),(vr 19),vn,vn,vn,vn,(vi 194 0),(vi 2 0),(vs "/claim/cut.py" 195)]⟩) []),(ob (vy "frame") pl [(some (vr 20)),(some (vr 3)),(some (vr 17)),none,(some (vs "braidcomb.errors" 187)),none,(some (vr 0))]),E,(ob (vy "dict") (.dict ⟨[(en P "__module__" 196 (vs "braidcomb.errors" 187)),(en P "__firstlineno__" 200 (vi 2 199)),(en P "__static_attributes__" 201 (vr 22)),(en P "__weakref__" 203 (vr 25)),(en P "__doc__" 204 vn)]⟩ 3) []),(ob (vy "type") (.cls (cd "BraidError" [(vy "ValueError")] [(vr 24),(vy "ValueError"),(vy "Exception"),(vy "BaseException"),(vy "object")] 23 "BraidError" true [] [(vr 37),(vr 49),(vr 61),(vr 73),(vr 85),(vr 97),(vr 109),(vr 121),(vr 133)] false none false)) [(some (vr 15)),none,(some (vs "BraidError" 189)),(some (vs "BraidError" 197)),(some (vb "ValueError.__new__")),(some vt)]),(ob (vy "getset_descriptor") (.fields ⟨[(vs "__weakref__" 202),(vr 24),(vb "ExceptionGroup.__weakref__"),vn]⟩) []),(ob (vy "super") (.fields ⟨[(vr 24),(vr 24),(vr 24)]⟩) []),(ob (vy "builtin_function_or_method") (.fields ⟨[(vb "object.__init_subclass__"),(vr 24)]⟩) [])]
 ++xb P "NoWord" 28 209 w0 24 4
 ++xb P "BadText" 40 225 w0 24 6
 ++xb P "NoMove" 52 241 w0 24 8
 ++xb P "NoRow" 64 257 w0 24 10
 ++xb P "NoForm" 76 273 w0 24 12
 ++xb P "Unlike" 88 289 w0 24 14
 ++xb P "NoString" 100 305 w0 24 16
 ++xb P "BadPicture" 112 321 w0 24 18
 ++xb P "TooMany" 124 337 w0 24 20
 ++f5 14 136 357 w1
 ++f7 15 141 363 w1 ["word","left","k"]
 ++f7 17 148 374 w2 ["row"]
 ++f7 18 155 381 w2 ["n"]
 ++f7 19 162 388 w2 ["n"]
 ++f7 20 169 395 w2 ["row","places","place","string"]
 ++f5 21 176 405 w2
 ++f7 22 181 411 w2 ["row"]
 ++f7 23 188 418 w2 ["row","k"]
 ++f7 24 195 426 w2 ["row","k"]
 ++f7 25 202 434 w2 ["n","word","row","k"]
 ++f5 26 209 444 w2
 ++f5 27 214 450 w2
 ++f5 28 219 456 w2
 ++f7 31 224 466 w3 ["crossings","bits","k"]
 ++[E,(ob (vy "builtin_function_or_method") (.fields ⟨[(vb "type.__prepare__"),(vy "type")]⟩) []),(ob (vy "dict") (.dict ⟨[(en P "__module__" 482 w3),(en P "__qualname__" 484 (vs "Comb" 483)),(en P "__firstlineno__" 486 (vi 79 485)),(en P "__init__" 494 (vr 244)),(en P "number_of" 503 (vr 251)),(en P "without_first" 513 (vr 258)),(en P "with_last" 523 (vr 265)),(en P "slide" 534 (vr 272)),(en P "slide_kept" 545 (vr 279)),(en P "put" 556 (vr 286)),(en P "form_told" 562 (vr 291)),(en P "__static_attributes__" 573 (vr 292))]⟩ 12) []),E,(ob vn (.fields ⟨[(vi 81 0),(vi 4 0),(vr 243),(vi 93 0),(vi 4 0),(vr 250),(vi 102 0),(vi 4 0),(vr 257),(vi 108 0),(vi 4 0),(vr 264),(vi 114 0),(vi 4 0),(vr 271),(vi 123 0),(vi 4 0),(vr 278),(vi 132 0),(vi 4 0),(vr 285),(vi 146 0),(vi 4 0),(vr 290)]⟩) []),(ob (vy "code") (.fields ⟨[(vs "Comb" 477),(vs "Comb" 478),(vs "/claim/cut.py" 479),(vi 79 0),(vi 0 0),(vi 0 0),(vi 0 0),(vi 0 0),(vr 234),vf,(vi 181 0),(vr 235),vn,vn,vn,vn,(vi 480 0),(vi 79 0),(vs "/claim/cut.py" 481)]⟩) []),(ob (vy "frame") pl [(some (vr 236)),(some (vr 3)),(some (vr 233)),none,(some w3),none,(some (vr 0))])]
 ++Q3 (J 32 0) "Comb.__init__" 238 487 w3 ["self","n"]
 ++Q3 (J 32 1) "Comb.number_of" 245 495 w3 ["self","row","key"]
 ++Q3 (J 32 2) "Comb.without_first" 252 504 w3 ["self","number","k","step"]
 ++Q3 (J 32 3) "Comb.with_last" 259 514 w3 ["self","number","k","step"]
 ++Q3 (J 32 4) "Comb.slide" 266 524 w3 ["self","one","other","free","k"]
 ++Q3 (J 32 5) "Comb.slide_kept" 273 535 w3 ["self","one","other","pair","found"]
 ++Q3 (J 32 6) "Comb.put" 280 546 w3 ["self","row","line","place","pair"]
 ++fb5 (J 32 7) "Comb.form_told" 287 557 w3
 ++[(ob (vy "tuple") (.seq ⟨[(vs "firsts" 563),(vs "kept" 564),(vs "known" 565),(vs "lasts" 566),(vs "line" 567),(vs "longer" 568),(vs "none" 569),(vs "numbers" 570),(vs "shorter" 571),(vs "whole" 572)]⟩ 0) []),(ob (vy "dict") (.dict ⟨[(en P "__module__" 482 w3),(en P "__firstlineno__" 486 (vi 79 485)),(en P "__init__" 494 (vr 244)),(en P "number_of" 503 (vr 251)),(en P "without_first" 513 (vr 258)),(en P "with_last" 523 (vr 265)),(en P "slide" 534 (vr 272)),(en P "slide_kept" 545 (vr 279)),(en P "put" 556 (vr 286)),(en P "form_told" 562 (vr 291)),(en P "__static_attributes__" 573 (vr 292)),(en P "__dict__" 575 (vr 295)),(en P "__weakref__" 577 (vr 296)),(en P "__doc__" 578 vn)]⟩ 4) []),(ob (vy "type") (.cls (cd "Comb" [(vy "object")] [(vr 294),(vy "object")] 293 "Comb" true [] [] false none false)) [none,none,(some (vs "Comb" 475)),(some (vs "Comb" 483)),(some (vb "object.__new__")),(some vt)]),(ob (vy "getset_descriptor") (.fields ⟨[(vs "__dict__" 574),(vr 294),(vb "function.__dict__"),(vb "function.__dict__#set")]⟩) []),(ob (vy "getset_descriptor") (.fields ⟨[(vs "__weakref__" 576),(vr 294),(vb "ExceptionGroup.__weakref__"),vn]⟩) []),(ob (vy "super") (.fields ⟨[(vr 294),(vr 294),(vr 294)]⟩) []),(ob (vy "builtin_function_or_method") (.fields ⟨[(vb "object.__init_subclass__"),(vr 294)]⟩) [])]
 ++f7 34 299 583 w4 ["n","row"]
 ++f7 35 306 591 w4 ["n","form","halves","rows","row","place"]
 ++f7 36 313 603 w4 ["n","word","pieces","order","sign_above","k","place","held"]
 ++f7 37 320 617 w4 ["row"]
 ++f7 38 327 624 w4 ["n","piece"]
 ++f7 39 334 632 w4 ["halves","row"]
 ++f7 40 341 640 w4 ["steps","rows","halves","step"]
 ++f5 41 348 650 w4
 ++f5 42 353 656 w4
 ++f7 43 358 662 w4 ["n","word"]
 ++f7 45 365 672 w5 ["_law_cell","_law_k","_law_factor"]
 ++f7 46 372 681 w5 ["_law_script","_law_k"]
 ++f7 47 379 689 w5 ["_law_seed","_law_least","_law_most"]
 ++f7 48 386 698 w5 ["_law_number","_law_n","_law_k"]
 ++f7 49 393 707 w5 ["_law_number","_law_n","_law_k","_law_other"]
 ++f7 50 400 717 w5 ["_law_cells","_law_n","_law_most","_law_word","_law_k","_law_cell"]
 ++f5 51 407 729 w5
 ++f7 52 412 735 w5 ["_law_cells","_law_n","_law_row_here","_law_s"]
 ++f5 53 419 745 w5
 ++f7 54 424 751 w5 ["_law_n","_law_how","_law_far","_law_row_here"]
 ++f5 55 431 761 w5
 ++f7 56 436 767 w5 ["_law_n","_law_told","_law_good","e","_law_others"]
 ++f5 57 443 778 w5
def as:List Addr:=2::3::(range 437).map (·+11)
def K(P:Params):Frag:=as.map fun a=>(a,(FL P).getD a E)
def q:Program:=view pw [1,2,3,4,5,6,7,8,9,10,12,13,14,15,17,18,19,20,21,22,23,24,25,26,27,28,30,31,32,34,35,36,37,38,39,40,41,42,43,45,46,47,48,49,50,51,52,53,54,55,56,57]
def env:Env:={scope:=pw.main.scope,locals:=mainNs,globals:=mainNs,cells:=[],code:=vr 13,frame:=some 14}
def bd:List Stmt:=behindTheImports pw
abbrev cE:Code:=.body bd env
abbrev fr:List Frame:=[topFrame ⟨0,0,0,0⟩]
abbrev an:Option Value:=(some (vr 6))
def S(P:Params):Nat->List Obj
 |0=>(((FL P).take 15).set 12 (Md 0)).set 3 (boot_o_3 P)
 |1=>((((FL P).take 40).set 3 (m3 P w0 10 11)).set 12 (Md 2)).set 24 ((ob (vy "type") (.cls (cd "BraidError" [(vy "ValueError")] [(vr 24),(vy "ValueError"),(vy "Exception"),(vy "BaseException"),(vy "object")] 23 "BraidError" true [] [(vr 37)] false none false)) [(some (vr 15)),none,(some (vs "BraidError" 189)),(some (vs "BraidError" 197)),(some (vb "ValueError.__new__")),(some vt)]))
 |2=>((((FL P).take 64).set 3 (m3 P w0 12 13)).set 12 (Md 4)).set 24 ((ob (vy "type") (.cls (cd "BraidError" [(vy "ValueError")] [(vr 24),(vy "ValueError"),(vy "Exception"),(vy "BaseException"),(vy "object")] 23 "BraidError" true [] [(vr 37),(vr 49),(vr 61)] false none false)) [(some (vr 15)),none,(some (vs "BraidError" 189)),(some (vs "BraidError" 197)),(some (vb "ValueError.__new__")),(some vt)]))
 |3=>((((FL P).take 88).set 3 (m3 P w0 14 15)).set 12 (Md 6)).set 24 ((ob (vy "type") (.cls (cd "BraidError" [(vy "ValueError")] [(vr 24),(vy "ValueError"),(vy "Exception"),(vy "BaseException"),(vy "object")] 23 "BraidError" true [] [(vr 37),(vr 49),(vr 61),(vr 73),(vr 85)] false none false)) [(some (vr 15)),none,(some (vs "BraidError" 189)),(some (vs "BraidError" 197)),(some (vb "ValueError.__new__")),(some vt)]))
 |4=>((((FL P).take 112).set 3 (m3 P w0 16 17)).set 12 (Md 8)).set 24 ((ob (vy "type") (.cls (cd "BraidError" [(vy "ValueError")] [(vr 24),(vy "ValueError"),(vy "Exception"),(vy "BaseException"),(vy "object")] 23 "BraidError" true [] [(vr 37),(vr 49),(vr 61),(vr 73),(vr 85),(vr 97),(vr 109)] false none false)) [(some (vr 15)),none,(some (vs "BraidError" 189)),(some (vs "BraidError" 197)),(some (vb "ValueError.__new__")),(some vt)]))
 |5=>(((FL P).take 136).set 3 (m3 P w1 19 20)).set 12 (Md 10)
 |6=>(((FL P).take 224).set 3 (m3 P w3 35 36)).set 12 (Md 24)
 |7=>(((FL P).take 231).set 3 (m3 P w3 36 37)).set 12 (Md 25)
 |8=>(((FL P).take 299).set 3 (m3 P w3 37 38)).set 12 (Md 26)
 |9=>(((FL P).take 393).set 3 (m3 P w5 51 52)).set 12 (Md 40)
 |10=>(FL P).take 448
 |_=>[]
abbrev st(i n t:Nat)(w:World)(os:OsState):SharedT:=⟨bt 12 (S w.params i),n,(boot_heap w.params).life,⟨[]⟩,boot_drawn,t,os⟩
theorem pre(w:World)(os:OsState):topGo treeTable pw w 11 an 12 ⟨boot_heap w.params,⟨[]⟩,boot_drawn,boot_toks,os⟩ (topStub pw)=some ((st 0 15 187 w os).abs,⟨denote treeTable cE,cE,⟨0,0,0,0⟩,fr⟩):=by kernel_rfl
theorem blk(w:World)(os:OsState):segRun treeTable pw w 11 an 1 1 (st 0 15 187 w os).abs (blockOf bd env cE ⟨0,0,0,0⟩ fr)=some (.next,(st 0 15 187 w os).abs,cE,⟨0,0,0,0⟩):=by kernel_rfl
abbrev Pc(N i n t d k:Nat)(p:Pos)(n2 t2:Nat)(p2:Pos)(w:World)(os:OsState):Prop:=segRunT treeTable pw w 11 an 1 N (st i n t w os) (piecesOf ((bd.drop d).take k) env cE p fr)=some (.next,st (i+1) n2 t2 w os,cE,p2)
theorem pc0(w:World)(os:OsState):Pc 409 0 15 187 0 3 ⟨0,0,0,0⟩ 40 223 ⟨4,0,5,8⟩ w os:=by kernel_rfl
theorem pc1(w:World)(os:OsState):Pc 427 1 40 223 3 2 ⟨4,0,5,8⟩ 64 255 ⟨8,0,9,8⟩ w os:=by kernel_rfl
theorem pc2(w:World)(os:OsState):Pc 427 2 64 255 5 2 ⟨8,0,9,8⟩ 88 287 ⟨12,0,13,8⟩ w os:=by kernel_rfl
theorem pc3(w:World)(os:OsState):Pc 427 3 88 287 7 2 ⟨12,0,13,8⟩ 112 319 ⟨16,0,17,8⟩ w os:=by kernel_rfl
theorem pc4(w:World)(os:OsState):Pc 445 4 112 319 9 4 ⟨16,0,17,8⟩ 136 355 ⟨23,0,23,14⟩ w os:=by kernel_rfl
theorem pc5(w:World)(os:OsState):Pc 438 5 136 355 13 18 ⟨23,0,23,14⟩ 224 466 ⟨73,0,73,9⟩ w os:=by kernel_rfl
theorem pc6(w:World)(os:OsState):Pc 32 6 224 466 31 1 ⟨73,0,73,9⟩ 231 475 ⟨74,0,78,15⟩ w os:=by kernel_rfl
theorem pc7(w:World)(os:OsState):Pc 466 7 231 475 32 1 ⟨74,0,78,15⟩ 299 581 ⟨79,0,150,80⟩ w os:=by kernel_rfl
theorem pc8(w:World)(os:OsState):Pc 445 8 299 581 33 16 ⟨79,0,150,80⟩ 393 707 ⟨223,0,227,17⟩ w os:=by kernel_rfl
theorem pc9(w:World)(os:OsState):Pc 268 9 393 707 49 9 ⟨223,0,227,17⟩ 448 784 ⟨309,0,324,15⟩ w os:=by kernel_rfl
theorem fin(w:World)(os:OsState):topRun treeTable pw w 11 an 2 (st 10 448 784 w os).abs (restOf [] env cE ⟨309,0,324,15⟩ fr)=some (st 10 448 784 w os).abs:=by kernel_rfl
theorem cut:bd=((bd.drop 0).take 3++((bd.drop 3).take 2++((bd.drop 5).take 2++((bd.drop 7).take 2++((bd.drop 9).take 4++((bd.drop 13).take 18++((bd.drop 31).take 1++((bd.drop 32).take 1++((bd.drop 33).take 16++((bd.drop 49).take 9++[])))))))))):=by kernel_rfl
theorem rest{tb:String->Option Builtin}{p:Program}{w:World}{n₀ N:Nat}{ann:Option Value}{s r:Shared}{b b':List Stmt}{e:Env}{c:Code}{ps:Pos}{B:List Frame}(h:b=b')(k:topRun tb p w n₀ ann N s (restOf b' e c ps B)=some r):topRun tb p w n₀ ann N s (restOf b e c ps B)=some r:=h▸k
theorem run(w:World)(os:OsState):topRun treeTable pw w 11 an (12+(1+(409+(427+(427+(427+(445+(438+(32+(466+(445+(268+2)))))))))))) ⟨boot_heap w.params,⟨[]⟩,boot_drawn,boot_toks,os⟩ (topStub pw)=some (st 10 448 784 w os).abs:=go_top (pre w os) (piece_block (blk w os) (rest cut (piece_app (segRun_of (pc0 w os)) (piece_app (segRun_of (pc1 w os)) (piece_app (segRun_of (pc2 w os)) (piece_app (segRun_of (pc3 w os)) (piece_app (segRun_of (pc4 w os)) (piece_app (segRun_of (pc5 w os)) (piece_app (segRun_of (pc6 w os)) (piece_app (segRun_of (pc7 w os)) (piece_app (segRun_of (pc8 w os)) (piece_app (segRun_of (pc9 w os)) (fin w os)))))))))))))
def lo:List Str:=[]
def hk:Hook:=kHook K as (fun _=>by kernel_rfl)
def Xt(s:Shared):Bool:=xlAt q [] s&&recOk (OpenLaw.row PySem.Challenge.rw_braidcomb_k35_forms_refused).toRowW.records s
abbrev H1(P:Params):Heap:=absHeap (bt 12 (S P 10)) 448 (boot_heap P).life
theorem Yh(w:World)(os:OsState):(staticsOk (importedModules pw.main.body) (boot_heap w.params) (H1 w.params)&&namesBound pw (H1 w.params)&&gensDone ⟨H1 w.params,⟨[]⟩,boot_drawn,784,os⟩&&laidKept (boot_heap w.params) (H1 w.params))=true:=by kernel_rfl
theorem Yi(w:World)(os:OsState):(openSeen q lo (importedModules pw.main.body) Xt true ⟨H1 w.params,⟨[]⟩,boot_drawn,784,os⟩)=openGood q lo:=by kernel_rfl
theorem Yj(w:World)(os:OsState):(hk.obs ⟨H1 w.params,⟨[]⟩,boot_drawn,784,os⟩)=hk.val w:=by kernel_rfl
theorem o1:opening pw=plainProg pw.main.scope.names:=by kernel_rfl
theorem o2(s:Shared):fenceModules? pw s=some s:=by kernel_rfl
theorem o3:ble 600 7674=true:=by kernel_rfl
theorem op(w:World):(fencedOpening treeTable pw w 7674).map (fun s=>(s.heap,s.gens,s.drawn,s.toks))=some (boot_heap w.params,⟨[]⟩,boot_drawn,boot_toks):=boot_open o1 o3 o2 w
theorem sz(w:World):((boot_heap w.params).isNs mainGlobals&&(⟨[]⟩:Array GenState).size==0,(boot_heap w.params).objs.size,(boot_heap w.params).nsMap mainGlobals "__annotations__")=(true,11,an):=by kernel_rfl
theorem le:ble (12+(1+(409+(427+(427+(427+(445+(438+(32+(466+(445+(268+2)))))))))))) 7674=true:=by kernel_rfl
theorem ab(w:World)(os:OsState):some (st 10 448 784 w os).abs=some ⟨H1 w.params,⟨[]⟩,boot_drawn,784,os⟩:=by kernel_rfl
theorem run'(w:World)(os:OsState):topRun treeTable pw w 11 an (12+(1+(409+(427+(427+(427+(445+(438+(32+(466+(445+(268+2)))))))))))) ⟨boot_heap w.params,⟨[]⟩,boot_drawn,boot_toks,os⟩ (topStub pw)=some ⟨H1 w.params,⟨[]⟩,boot_drawn,784,os⟩:=Eq.trans (run w os) (ab w os)
theorem left:LeftO pw q lo Xt hk.obs hk.val 7674 true:=
 @LeftO.of_pieces pw q lo Xt hk.α hk.obs hk.val 7674 true boot_heap H1 ⟨[]⟩ ⟨[]⟩ boot_drawn boot_drawn boot_toks 784 11 an (12+(1+(409+(427+(427+(427+(445+(438+(32+(466+(445+(268+2)))))))))))) op sz run' le (fun w=>funext fun os=>Prod.ext (Yh w os) (Prod.ext (Yi w os) (Yj w os)))
end
end DL.qx.H
namespace DL.qx
open PySem PySem.Spec PyProof.Rows L2 DL
abbrev Me:Stmt:=inClass (top 32) 1
structure Nb(K:'b')(mg:Str->Option Value)(C:Addr):Prop where
 cl:Ju K C
 kn:gn K C "known"
 nu:gn K C "numbers"
 fi:gn K C "firsts"
 la:gn K C "lasts"
 sh:gn K C "shorter"
 lo:gn K C "longer"
 ke:gn K C "kept"
 li:gn K C "line"
 no:gn K C "none"
 wh:gn K C "whole"
 mgC:mg "Comb"=some (.ref C)
 mtu:mg "tuple"=none
 mli:mg "list"=none
 ZJ:mg "len"=none
def CN(K:'b')(C:Addr):Sp:=fun vs H Q _=>∃(a:Addr)(A:Ad)(ex:List (Str×V))(n:Nat)(kn:List RP)(ln:List Int)(B:Nat)(nu sh lo ke:List (List Key×V))(p:RP)(v:V),
 vs=[.ref a,v]/\jg C H a A ex n kn ln B nu sh lo ke/\n<=7/\B<1000000/\Iv n p.1 p.2/\Is K (fun x=>x∉a::A.all) H (.lst (aI p.1)) v/\
 ∀(i:Nat)(H':Hp)(A':Ad)(mo:List RP)(Ez:List (List Key×V)),jg C H' a A' ex n (kn++mo) ln (B+1) Ez sh lo ke->(kn++mo)[i]?=some p->jd H H' (a::A.all) (a::A'.all)->A'.li=A.li->Q (.int i) H'
section
variable{P:Program}{w:World}{K:'b'}{mg:Str->Option Value}{base:Heap}
theorem sc1:aA ["self","row","key"] ["self","row"] (ae Me):=⟨rfl,rfl,rfl,by decide +kernel,rfl,by decide +kernel,by decide +kernel⟩
theorem UX{f C:Addr}{fd:FuncData}(F:Bq K "number_of" "Comb.number_of" Me f fd)(T:Nb K mg C)(t:Tb K mg)
  (nU:lH P w K mg base 2 t.qB t.qC ["row"] nA)(kG:lH P w K mg base 1 t.q8 t.q9 ["row"] lW)(Mf:Ok P w K mg base 1 t.rf t.rg ["crossings"] nz)
  (Q4:∀ks:List Int,(∀k∈ks,1<=k/\k<=7)->nz [.lst (aI ks)]=.ok (.int (Eo ks))):b8 P w K mg base lI 3 f fd ["self","row"] (CN K C):=by
 refine F.ok sc1 (fun vs H Q E h=>?_) (fun cdv A outer s H vs Q E hr h=>?_)
 ·obtain⟨a,A,ex,n,kn,ln,B,nu,sh,lo,ke,p,v,rfl,_⟩:=h
  rfl
 ·obtain⟨a,A,ex,n,kn,ln,B,nu,sh,lo,ke,p,v,rfl,c,hn,hB,iv,M8,k⟩:=h
  have hu:=sS hr
  refine⟨_,aK (dC (i:=2) sc1.nd rfl (Or.inl rfl) (qP y4 (by rfl) T.mtu BZ (ao (pv 1) aL)))
   (aK (vI (Dw (uD hu (pv 2) (bD (pv 0) rfl)))
    (aK (wQ hu (bD (pv 0) rfl) (pv 2) (fu n9 (by rfl) T.ZJ cX (ao (bD (pv 0) rfl) aL)) rfl)
    (aK (fX (sQ plainAttrs_list PySem.F.slot_list_append PySem.F.type_list_append fY (bD (pv 0) rfl) (ao (qP og (by rfl) T.mli lS (ao (pv 1) aL)) aL)) rfl)
    (aK (fX (sQ plainAttrs_list PySem.F.slot_list_append PySem.F.type_list_append fY (bD (pv 0) rfl) (ao (eO (E:=fun _ _ _=>False) Mf 'd' (by rfl) t.hU.m t.hU.F.kp t.hU.b .nil lR (ao (eO (E:=fun _ _ _=>False) nU 'd' (by rfl) t.nR.m t.nR.F.kp t.nR.b .nil lR (ao (pv 1) aL)) aL)) aL)) rfl)
    (b9 (fX (sQ plainAttrs_list PySem.F.slot_list_append PySem.F.type_list_append fY (bD (pv 0) rfl) (ao (eO (E:=fun _ _ _=>False) Mf 'd' (by rfl) t.hU.m t.hU.F.kp t.hU.b .nil lR (ao (eO (E:=fun _ _ _=>False) kG 'd' (by rfl) t.oK.m t.oK.F.kp t.oK.b .nil lR (ao (pv 1) aL)) aL)) aL)) rfl))))) lP)
   (b9 (mz (AD hu (bD (pv 0) rfl) (pv 2) (fun _ _=>rfl))))),?_⟩
  obtain⟨b,vs,rfl,lb,il⟩:=id M8
  have ev:=gb il
  subst ev
  refine⟨_,rfl,b,_,rfl,.inl ⟨lb.sq,fun l hl=>?_⟩⟩
  have s1:aN H (upd H l (.tup (p.1.map V.int))):=aM hl _
  have c1:=c.same s1
  have hkey:(upd H l (.tup (p.1.map V.int))) l=some (.tup ((kk p.1).map kV)):=by rw[ac1];exact ak
  have Bf:=jd.same s1 (a::A.all)
  generalize hH1:upd H l (.tup (p.1.map V.int))=H1 at s1 c1 hkey Bf
  refine⟨_,rfl,_,rfl,a,C,A.dx,_,_,rfl,c1.ob,T.cl,T.nu,F9,A.nu,_,rfl,oh.t c1.zh hkey,_,rfl,?_⟩
  by_cases hm:∃q∈kn,q.1=p.1
  ·obtain⟨q,hq,eq⟩:=hm
   have hqp:q=p:=F8 (c.rw q hq) iv eq
   subst hqp
   obtain⟨i,hi,ei⟩:=getElem_of_mem hq
   have Ep:kn[i]?=some q:=by rw[getElem?_eq_getElem hi,ei]
   have hv:=c.n1 i q Ep
   rw[hv]
   refine uB ?_
   refine⟨_,rfl,a,C,A.dx,_,_,rfl,c1.ob,T.cl,T.nu,F9,_,rfl,A.nu,.int i,rfl,?_,?_⟩
   ·have:=oh.t (k:=kk q.1) c1.zh hkey
    rw[hv]at this
    exact this
   ·exact k i H1 A [] nu (by rw[append_nil];exact c1.more 'a') (by rw[append_nil];exact Ep) Bf rfl
  ·have hv:dE nu (kk p.1)=none:=c.n2 p.1 fun q hq e=>hm ⟨q,hq,e⟩
   rw[hv]
   refine wk ?_
   have hz:=c.z
   obtain⟨⟨n1,n2,n3,n4,n5,n6⟩,⟨m1,m2,m3,m4,m5,m6⟩,UI,⟨d1,d2,d3,d4,d5,d6,d7,d8,d9⟩,X8⟩:=c.UH
   have big:∀{x:Nat},x<=1000001->x<sizeLine:=fun h=>Nat.lt_of_le_of_lt h (by decide)
   have OW:∀x∈A.hd,x∈a::A.all:=fun x hx=>mem_cons_of_mem _ (mem_append_left _ hx)
   refine⟨_,rfl,a,C,A.dx,_,_,rfl,c1.ob,T.cl,T.kn,zY,A.kn,_,rfl,.inl (cV.of c1.hkn),_,rfl,a,C,A.dx,_,_,rfl,c1.ob,T.cl,T.nu,F9,_,rfl,A.nu,_,rfl,BO.t c1.zh hkey (big 'a'),?_⟩
   rw[length_map,c.CC]
   have k1n:A.kn≠A.nu:=bO c.hkn c.zh (by intro z;cases z)
   have fin:A.fi≠A.nu:=bO c.yW c.zh (by intro z;cases z)
   have lan:A.la≠A.nu:=bO c.hla c.zh (by intro z;cases z)
   have an:a≠A.nu:=bO c.ob c.zh (by intro z;cases z)
   have akn:a≠A.kn:=bO c.ob c.hkn (by intro z;cases z)
   have afi:a≠A.fi:=bO c.ob c.yW (by intro z;cases z)
   have ala:a≠A.la:=bO c.ob c.hla (by intro z;cases z)
   have ln1:l≠A.nu:=fun z=>by rw[z,c.zh]at hl;cases hl
   generalize hH2:upd H1 A.nu (.dT (putK nu (kk p.1) (.int (kn.length:Int))))=H2
   have Yk:H2 a=some (.ins C A.dx (wy A++ex)):=by rw[<-hH2,aj an];exact c1.ob
   have Q5:H2 A.kn=some (.lst (A.ks.map V.ref)):=by rw[<-hH2,aj k1n];exact c1.hkn
   have EA:jd H H2 (a::A.all) (a::A.all):=Bf.trans (by rw[<-hH2];exact jd.upd (OW _ (by simp[Ad.hd])) _)
   have lb2:wm K (fun _=>True) H2 b (p.1.map V.int):=lb.ext ⟨fun _ _ _ _=>trivial,fun x o px hx=>EA.kp x o px hx⟩
   refine⟨_,rfl,a,C,A.dx,_,_,rfl,Yk,T.cl,T.kn,zY,.inl ⟨rfl,_,cV.of Q5⟩,_,rfl,b,_,rfl,.inl lb2.sq,fun l2 hl2=>?_⟩
   have VL:H l2=none:=EA.gr l2 hl2
   have l2k:A.kn≠l2:=fun z=>by rw[<-z,Q5]at hl2;cases hl2
   refine⟨A.kn,A.ks.map V.ref,.ref l2,rfl,rfl,by rw[aj l2k];exact Q5,by rw[length_map,c.CC];exact big 'a',?_⟩
   generalize Nc:upd (upd H2 l2 (.lst (p.1.map V.int))) A.kn (.lst (A.ks.map V.ref++[.ref l2]))=H3
   have ux:jd H H3 (a::A.all) (a::A.all):=by
    rw[<-Nc]
    exact(EA.trans (jd.same (aM hl2 _) _)).trans (jd.upd (OW _ (by simp[Ad.hd])) _)
   have Ym:H3 a=some (.ins C A.dx (wy A++ex)):=by rw[<-Nc,aj akn];exact aM hl2 _ _ _ Yk
   have fi3:H3 A.fi=some (.lst (kn.map fun p=>V.int (wz p.2))):=by
    rw[<-Nc,aj (Ne.symm n1)]
    refine aM hl2 _ _ _ ?_
    rw[<-hH2,aj fin]
    exact c1.yW
   have lb3:wm K (fun _=>True) H3 b (p.1.map V.int):=lb.ext ⟨fun _ _ _ _=>trivial,fun x o px hx=>ux.kp x o px hx⟩
   refine⟨_,rfl,a,C,A.dx,_,_,rfl,Ym,T.cl,T.fi,LC,.inl ⟨rfl,_,cV.of fi3⟩,_,rfl,_,[.lst (aI p.1)],⟨.ref b,[],rfl,⟨b,_,rfl,lb3,cF p.1⟩,rfl⟩,?_⟩
   have hd7:∀(m:Nat)(x y:List Int),m<=7->Iv m x y->∀k∈zf y,1<=k/\k<=7:=fun m x y hm h k hk=>by
    obtain⟨a',e,h1,_⟩:=tU.mp hk
    rw[h.ls]at h1
    omega
   rw[zX iv hn]
   intro q ws H4 s4 hq4 hw4 iw4
   have ew:=gb iw4
   subst ew
   refine⟨fun _=>True,[.lst (aI (zf p.2))],⟨.ref q,[],rfl,⟨q,_,rfl,.inl ⟨trivial,.inl hw4⟩,cF _⟩,rfl⟩,?_⟩
   rw[Q4 _ (hd7 n p.1 p.2 hn iv)]
   intro v5 H5 s5 i5
   have e5:v5=.int (Eo (zf p.2)):=i5
   subst e5
   have OY:=s4.trans s5
   refine⟨A.fi,_,.int (wz p.2),rfl,rfl,OY _ _ fi3,by rw[length_map];exact big 'a',?_⟩
   generalize Nd:upd H5 A.fi (.lst ((kn.map fun p=>V.int (wz p.2))++[V.int (wz p.2)]))=H6
   have ZK:jd H H6 (a::A.all) (a::A.all):=by
    rw[<-Nd]
    exact(ux.trans (jd.same OY _)).trans (jd.upd (OW _ (by simp[Ad.hd])) _)
   have ZL:H6 a=some (.ins C A.dx (wy A++ex)):=by rw[<-Nd,aj afi];exact OY _ _ Ym
   have la6:H6 A.la=some (.lst (kn.map fun p=>V.int (wz p.1))):=by
    rw[<-Nd,aj (Ne.symm n4)]
    refine OY _ _ ?_
    rw[<-Nc,aj (Ne.symm n2)]
    refine aM hl2 _ _ _ ?_
    rw[<-hH2,aj lan]
    exact c1.hla
   have lb6:wm K (fun _=>True) H6 b (p.1.map V.int):=lb.ext ⟨fun _ _ _ _=>trivial,fun x o px hx=>ZK.kp x o px hx⟩
   refine⟨_,rfl,a,C,A.dx,_,_,rfl,ZL,T.cl,T.la,LD,.inl ⟨rfl,_,cV.of la6⟩,_,rfl,_,[.lst (aI p.1)],⟨.ref b,[],rfl,⟨b,_,rfl,lb6,cF p.1⟩,rfl⟩,?_⟩
   rw[ye p.1 (by rw[iv.lr];exact hn)]
   intro q7 ws7 H7 s7 hq7 hw7 iw7
   have ew7:=gb iw7
   subst ew7
   refine⟨fun _=>True,[.lst (aI (zf p.1))],⟨.ref q7,[],rfl,⟨q7,_,rfl,.inl ⟨trivial,.inl hw7⟩,cF _⟩,rfl⟩,?_⟩
   rw[Q4 _ (hd7 n p.2 p.1 hn iv.symm)]
   intro v8 H8 s8 i8
   have e8:v8=.int (Eo (zf p.1)):=i8
   subst e8
   have Q6:=s7.trans s8
   refine⟨A.la,_,.int (wz p.1),rfl,rfl,Q6 _ _ la6,by rw[length_map];exact big 'a',?_⟩
   generalize Q7:upd H8 A.la (.lst ((kn.map fun p=>V.int (wz p.1))++[V.int (wz p.1)]))=H9
   have fr9:jd H H9 (a::A.all) (a::A.all):=by
    rw[<-Q7]
    exact(ZK.trans (jd.same Q6 _)).trans (jd.upd (OW _ (by simp[Ad.hd])) _)
   have keep:∀x o,x≠A.nu->x≠A.kn->x≠A.fi->x≠A.la->H x=some o->H9 x=some o:=fun x o x1 x2 x3 x4 hx=>by
    rw[<-Q7,aj x4]
    refine Q6 _ _ ?_
    rw[<-Nd,aj x3]
    refine OY _ _ ?_
    rw[<-Nc,aj x2]
    refine aM hl2 _ _ _ ?_
    rw[<-hH2,aj x1]
    exact s1 _ _ hx
   have ZE:H9 a=some (.ins C A.dx (wy A++ex)):=keep a _ an akn afi ala c.ob
   have ZF:H9 A.nu=some (.dT (putK nu (kk p.1) (.int (kn.length:Int)))):=by
    rw[<-Q7,aj (Ne.symm lan)]
    refine Q6 _ _ ?_
    rw[<-Nd,aj (Ne.symm fin)]
    refine OY _ _ ?_
    rw[<-Nc,aj (Ne.symm k1n)]
    refine aM hl2 _ _ _ ?_
    rw[<-hH2]
    exact ak
   have ac9:H9 l=some (.tup ((kk p.1).map kV)):=by
    have lk:∀{x:Addr}{o:HO},H x=some o->l≠x:=fun hx z=>by rw[z,hx]at hl;cases hl
    rw[<-Q7,aj (lk c.hla)]
    refine Q6 _ _ ?_
    rw[<-Nd,aj (lk c.yW)]
    refine OY _ _ ?_
    rw[<-Nc,aj (lk c.hkn)]
    refine aM hl2 _ _ _ ?_
    rw[<-hH2,aj (lk c.zh)]
    exact hkey
   have l29:H9 l2=some (.lst (p.1.map V.int)):=by
    have lk:∀{x:Addr}{o:HO},H x=some o->l2≠x:=fun hx z=>by rw[z,hx]at VL;cases VL
    rw[<-Q7,aj (lk c.hla)]
    refine Q6 _ _ ?_
    rw[<-Nd,aj (lk c.yW)]
    refine OY _ _ ?_
    rw[<-Nc,aj (lk c.hkn)]
    exact ak
   have kn9:H9 A.kn=some (.lst (A.ks.map V.ref++[.ref l2])):=by
    rw[<-Q7,aj n2]
    refine Q6 _ _ ?_
    rw[<-Nd,aj n1]
    refine OY _ _ ?_
    rw[<-Nc]
    exact ak
   have fi9:H9 A.fi=some (.lst ((kn.map fun p=>V.int (wz p.2))++[V.int (wz p.2)])):=by
    rw[<-Q7,aj n4]
    refine Q6 _ _ ?_
    rw[<-Nd]
    exact ak
   have la9:H9 A.la=some (.lst ((kn.map fun p=>V.int (wz p.1))++[V.int (wz p.1)])):=by
    rw[<-Q7]
    exact ak
   have zj:∀j,dE (putK nu (kk p.1) (.int (kn.length:Int))) j=if j=kk p.1 then some (.int (kn.length:Int))else dE nu j:=fun j=>kP nu (kk p.1) j _
   have c9:=c.add hm iv VL ZE ZF kn9 fi9 la9 l29 keep
   refine⟨_,rfl,a,C,A.dx,_,_,rfl,ZE,T.cl,T.nu,F9,_,rfl,A.nu,.int (kn.length:Int),rfl,?_,?_⟩
   ·have:=oh.t (k:=kk p.1) ZF ac9
    rw[zj,if_pos rfl]at this
    exact this
   ·refine k kn.length H9 _ [p] _ c9 (by simp) ⟨fr9.kp,fun x hx=>?_,fr9.gr⟩ rfl
    have Dy:x∈a::(A.hd++(A.ks++[l2])):=hx
    rw[<-List.append_assoc,<-cons_append]at Dy
    rcases mem_append.mp Dy with h|h
    ·exact .inl h
    ·have:x=l2:=by simpa using h
     rw[this];exact .inr VL
end
end DL.qx
namespace DL.qx
open PySem PySem.Spec PyProof.Rows L2 DL
abbrev Mg:Stmt:=inClass (top 32) 2
def Q8(C:Addr):Sp:=fun vs H Q _=>∃(a:Addr)(A:Ad)(z w:Int)(n:Nat)(kn:List RP)(ln:List Int)(B:Nat)(nu sh lo ke:List (List Key×V))(p:RP)(i j:Nat),
 vs=[.ref a,.int i,.int ((j:Int)+1)]/\jg C H a A (vW z w) n kn ln B nu sh lo ke/\n<=7/\B+1<1000000/\kn[i]?=some p/\j+1<n/\
 ∀(i':Nat)(H':Hp)(A':Ad)(mo:List RP)(Ez UY:List (List Key×V)),jg C H' a A' (vW z w) n (kn++mo) ln (B+2) Ez UY lo ke->(kn++mo)[i']?=some (Du p j)->jd H H' (a::A.all) (a::A'.all)->A'.li=A.li->Q (.int i') H'
section
variable{P:Program}{w:World}{K:'b'}{mg:Str->Option Value}{base:Heap}
theorem sc2:aA ["self","number","k","step"] ["self","number","k"] (ae Mg):=⟨rfl,rfl,rfl,by decide +kernel,rfl,by decide +kernel,by decide +kernel⟩
theorem Yn{f C fN:Addr}{fd Mh:FuncData}(F:Bq K "without_first" "Comb.without_first" Mg f fd)(T:Nb K mg C)(t:Tb K mg)
  (mN:Meth K C "number_of" fN)(bN:Binds K Mh ["self","row"] [])(GN:b8 P w K mg base lI 3 fN Mh ["self","row"] (CN K C))
  (G_x:lH P w K mg base 2 t.cS t.cT ["row","k"] cR):b8 P w K mg base lI 4 f fd ["self","number","k"] (Q8 C):=by
 refine F.ok sc2 (fun vs H Q E h=>?_) (fun cdv A outer s H vs Q E hr h=>?_)
 ·obtain⟨a,A,z,w,n,kn,ln,B,nu,sh,lo,ke,p,i,j,rfl,_⟩:=h
  rfl
 ·obtain⟨a,A,z,w,n,kn,ln,B,nu,sh,lo,ke,p,i,j,rfl,c,hn,hB,hi,hj,k⟩:=h
  have hu:=sS hr
  refine⟨_,aK (dC (i:=3) sc2.nd rfl (Or.inl rfl) (r9 (ao (pv 1) (ao (pv 2) aL))))
   (aK (vI (Dw (uD hu (pv 3) (bD (pv 0) rfl)))
    (b9 (wQ hu (bD (pv 0) rfl) (pv 3) (jx (pv 0) T.cl mN GN 'd' bN .nil o9 (ao (eO (E:=fun _ _ _=>False) G_x 'd' (by rfl) t.bR.m t.bR.F.kp t.bR.b .nil lR (ao (jh dY (bD (pv 0) rfl) (pv 1) (fun _ _=>rfl)) (ao (pv 2) aL))) aL)) rfl)) lP)
   (b9 (mz (AD hu (bD (pv 0) rfl) (pv 3) (fun _ _=>rfl))))),?_⟩
  refine⟨_,rfl,_,rfl,(by show 2<=sizeLine;decide),fun l hl=>?_⟩
  have s1:aN H (upd H l (.tup [.int i,.int ((j:Int)+1)])):=aM hl _
  have c1:=c.same s1
  have hkey:(upd H l (.tup [.int i,.int ((j:Int)+1)])) l=some (.tup (([.inl (i:Int),.inl ((j:Int)+1)]:List Key).map kV)):=ak
  have Bf:=jd.same s1 (a::A.all)
  have Yo:l∉a::A.all:=fun hx=>by
   obtain⟨o,ho⟩:=c.there hx
   rw[hl]at ho
   cases ho
  generalize hH1:upd H l (.tup [.int i,.int ((j:Int)+1)])=H1 at s1 c1 hkey Bf
  refine⟨_,rfl,_,rfl,a,C,A.dx,_,_,rfl,c1.ob,T.cl,T.sh,Ga,A.sh,_,rfl,oh.t c1.hsh hkey,_,rfl,?_⟩
  have ej:((j:Int)+1-1).toNat=j:=by omega
  cases hv:dE sh ([.inl (i:Int),.inl ((j:Int)+1)]:List Key)with
  |some v=>
   refine uB ?_
   obtain⟨j',p',h1,h2,rfl⟩:=c.s1 i ((j:Int)+1) v hv
   rw[hi]at h1
   cases h1
   rw[ej]at h2
   refine⟨_,rfl,a,C,A.dx,_,_,rfl,c1.ob,T.cl,T.sh,Ga,_,rfl,A.sh,.int j',rfl,?_,?_⟩
   ·have:=oh.t (k:=[.inl (i:Int),.inl ((j:Int)+1)]) c1.hsh hkey
    rw[hv]at this
    exact this
   ·exact k j' H1 A [] nu sh (by rw[append_nil];exact c1.more 'a') (by rw[append_nil];exact h2) Bf rfl
  |none=>
   refine wk ?_
   have iv:=c.rw p (mem_of_getElem? hi)
   have Ko:i<A.ks.length:=by rw[c.CC];exact(List.getElem?_eq_some_iff.mp hi).1
   have hb1:=c1.hks i A.ks[i] p (getElem?_eq_getElem Ko) hi
   refine⟨_,rfl,a,A.dx,_,rfl,c1.ob,rfl,_,rfl,a,C,A.dx,_,_,rfl,c1.ob,T.cl,T.kn,zY,_,rfl,A.kn,A.ks.map V.ref,i,.ref A.ks[i],rfl,rfl,cV.of c1.hkn,gC (by rw[getElem?_map,getElem?_eq_getElem Ko];rfl),_,rfl,fun _=>True,[.lst (aI p.1),.int ((j:Int)+1)],⟨_,_,rfl,⟨_,_,rfl,.inl ⟨trivial,.inl hb1⟩,cF _⟩,⟨_,_,rfl,rfl,rfl⟩⟩,?_⟩
   rw[LA iv hn hj]
   intro q ws H2 s2 hq2 QZ OU
   have ew:=gb OU
   subst ew
   have c2:=c1.same s2
   have hqF:q∉a::A.all:=fun hx=>by
    obtain⟨o,ho⟩:=c1.there hx
    rw[hq2]at ho
    cases ho
   refine⟨a,A,vW z w,n,kn,ln,B,nu,sh,lo,ke,Du p j,.ref q,rfl,c2,hn,by omega,iv.step hj,⟨q,_,rfl,.inl ⟨hqF,.inl QZ⟩,cF _⟩,fun i' H3 A' mo Ez c3 UZ ux eli=>?_⟩
   have um:H3 l=some (.tup (([.inl (i:Int),.inl ((j:Int)+1)]:List Key).map kV)):=ux.kp l _ Yo (s2 _ _ hkey)
   have hz:=c3.z
   refine⟨_,rfl,a,C,A'.dx,_,_,rfl,c3.ob,T.cl,T.sh,Ga,_,rfl,A'.sh,_,rfl,BO.t c3.hsh um (Nat.lt_of_le_of_lt (show sh.length<=1000001 by omega) (by decide)),?_⟩
   have Ep:(kn++mo)[i]?=some p:=cy hi
   have c4:=c3.UJ (i:=i) (j:=i') (k:=(j:Int)+1) Ep (by rw[ej];exact UZ)
   have hl4:A'.sh≠l:=fun zz=>by rw[<-zz,c3.hsh]at um;cases um
   refine⟨_,rfl,a,C,A'.dx,_,_,rfl,c4.ob,T.cl,T.sh,Ga,_,rfl,A'.sh,.int i',rfl,?_,?_⟩
   ·have hk4:(upd H3 A'.sh (.dT (putK sh [.inl (i:Int),.inl ((j:Int)+1)] (.int i')))) l=some (.tup (([.inl (i:Int),.inl ((j:Int)+1)]:List Key).map kV)):=by rw[aj (Ne.symm hl4)];exact um
    have:=oh.t (k:=[.inl (i:Int),.inl ((j:Int)+1)]) c4.hsh hk4
    rw[kP,if_pos rfl]at this
    exact this
   ·refine k i' _ A' mo Ez _ c4 UZ ?_ eli
    exact((Bf.trans (jd.same s2 _)).trans ux).trans (jd.upd (mem_cons_of_mem _ (mem_append_left _ (by simp[Ad.hd]))) _)
end
abbrev Mi:Stmt:=inClass (top 32) 3
def Q9(C:Addr):Sp:=fun vs H Q _=>∃(a:Addr)(A:Ad)(z w:Int)(n:Nat)(kn:List RP)(ln:List Int)(B:Nat)(nu sh lo ke:List (List Key×V))(p:RP)(i j:Nat),
 vs=[.ref a,.int i,.int ((j:Int)+1)]/\jg C H a A (vW z w) n kn ln B nu sh lo ke/\n<=7/\B+1<1000000/\kn[i]?=some p/\j+1<n/\
 ∀(i':Nat)(H':Hp)(A':Ad)(mo:List RP)(Ez U0:List (List Key×V)),jg C H' a A' (vW z w) n (kn++mo) ln (B+2) Ez sh U0 ke->(kn++mo)[i']?=some (CB p j)->jd H H' (a::A.all) (a::A'.all)->A'.li=A.li->Q (.int i') H'
section
variable{P:Program}{w:World}{K:'b'}{mg:Str->Option Value}{base:Heap}
theorem sc3:aA ["self","number","k","step"] ["self","number","k"] (ae Mi):=⟨rfl,rfl,rfl,by decide +kernel,rfl,by decide +kernel,by decide +kernel⟩
theorem Yp{f C fN:Addr}{fd Mh:FuncData}(F:Bq K "with_last" "Comb.with_last" Mi f fd)(T:Nb K mg C)(t:Tb K mg)
  (mN:Meth K C "number_of" fN)(bN:Binds K Mh ["self","row"] [])(GN:b8 P w K mg base lI 3 fN Mh ["self","row"] (CN K C))
  (G_x:lH P w K mg base 1 t.bA t.bB ["row","k"] aV):b8 P w K mg base lI 4 f fd ["self","number","k"] (Q9 C):=by
 refine F.ok sc3 (fun vs H Q E h=>?_) (fun cdv A outer s H vs Q E hr h=>?_)
 ·obtain⟨a,A,z,w,n,kn,ln,B,nu,sh,lo,ke,p,i,j,rfl,_⟩:=h
  rfl
 ·obtain⟨a,A,z,w,n,kn,ln,B,nu,sh,lo,ke,p,i,j,rfl,c,hn,hB,hi,hj,k⟩:=h
  have hu:=sS hr
  refine⟨_,aK (dC (i:=3) sc3.nd rfl (Or.inl rfl) (r9 (ao (pv 1) (ao (pv 2) aL))))
   (aK (vI (Dw (uD hu (pv 3) (bD (pv 0) rfl)))
    (b9 (wQ hu (bD (pv 0) rfl) (pv 3) (jx (pv 0) T.cl mN GN 'd' bN .nil o9 (ao (eO (E:=fun _ _ _=>False) G_x 'd' (by rfl) t.bh.m t.bh.F.kp t.bh.b .nil lR (ao (jh dY (bD (pv 0) rfl) (pv 1) (fun _ _=>rfl)) (ao (pv 2) aL))) aL)) rfl)) lP)
   (b9 (mz (AD hu (bD (pv 0) rfl) (pv 3) (fun _ _=>rfl))))),?_⟩
  refine⟨_,rfl,_,rfl,(by show 2<=sizeLine;decide),fun l hl=>?_⟩
  have s1:aN H (upd H l (.tup [.int i,.int ((j:Int)+1)])):=aM hl _
  have c1:=c.same s1
  have hkey:(upd H l (.tup [.int i,.int ((j:Int)+1)])) l=some (.tup (([.inl (i:Int),.inl ((j:Int)+1)]:List Key).map kV)):=ak
  have Bf:=jd.same s1 (a::A.all)
  have Yo:l∉a::A.all:=fun hx=>by
   obtain⟨o,ho⟩:=c.there hx
   rw[hl]at ho
   cases ho
  generalize hH1:upd H l (.tup [.int i,.int ((j:Int)+1)])=H1 at s1 c1 hkey Bf
  refine⟨_,rfl,_,rfl,a,C,A.dx,_,_,rfl,c1.ob,T.cl,T.lo,Gb,A.lo,_,rfl,oh.t c1.hlo hkey,_,rfl,?_⟩
  have ej:((j:Int)+1-1).toNat=j:=by omega
  cases hv:dE lo ([.inl (i:Int),.inl ((j:Int)+1)]:List Key)with
  |some v=>
   refine uB ?_
   obtain⟨j',p',h1,h2,rfl⟩:=c.l1 i ((j:Int)+1) v hv
   rw[hi]at h1
   cases h1
   rw[ej]at h2
   refine⟨_,rfl,a,C,A.dx,_,_,rfl,c1.ob,T.cl,T.lo,Gb,_,rfl,A.lo,.int j',rfl,?_,?_⟩
   ·have:=oh.t (k:=[.inl (i:Int),.inl ((j:Int)+1)]) c1.hlo hkey
    rw[hv]at this
    exact this
   ·exact k j' H1 A [] nu lo (by rw[append_nil];exact c1.more 'a') (by rw[append_nil];exact h2) Bf rfl
  |none=>
   refine wk ?_
   have iv:=c.rw p (mem_of_getElem? hi)
   have Ko:i<A.ks.length:=by rw[c.CC];exact(List.getElem?_eq_some_iff.mp hi).1
   have hb1:=c1.hks i A.ks[i] p (getElem?_eq_getElem Ko) hi
   refine⟨_,rfl,a,A.dx,_,rfl,c1.ob,rfl,_,rfl,a,C,A.dx,_,_,rfl,c1.ob,T.cl,T.kn,zY,_,rfl,A.kn,A.ks.map V.ref,i,.ref A.ks[i],rfl,rfl,cV.of c1.hkn,gC (by rw[getElem?_map,getElem?_eq_getElem Ko];rfl),_,rfl,fun _=>True,[.lst (aI p.1),.int ((j:Int)+1)],⟨_,_,rfl,⟨_,_,rfl,.inl ⟨trivial,.inl hb1⟩,cF _⟩,⟨_,_,rfl,rfl,rfl⟩⟩,?_⟩
   rw[uW (by rw[iv.lr];exact hn) (by rw[iv.lr];exact hj)]
   intro q ws H2 s2 hq2 QZ OU
   have ew:=gb OU
   subst ew
   have c2:=c1.same s2
   have hqF:q∉a::A.all:=fun hx=>by
    obtain⟨o,ho⟩:=c1.there hx
    rw[hq2]at ho
    cases ho
   refine⟨a,A,vW z w,n,kn,ln,B,nu,sh,lo,ke,CB p j,.ref q,rfl,c2,hn,by omega,(iv.symm.step hj).symm,⟨q,_,rfl,.inl ⟨hqF,.inl QZ⟩,cF _⟩,fun i' H3 A' mo Ez c3 UZ ux eli=>?_⟩
   have um:H3 l=some (.tup (([.inl (i:Int),.inl ((j:Int)+1)]:List Key).map kV)):=ux.kp l _ Yo (s2 _ _ hkey)
   have hz:=c3.z
   refine⟨_,rfl,a,C,A'.dx,_,_,rfl,c3.ob,T.cl,T.lo,Gb,_,rfl,A'.lo,_,rfl,BO.t c3.hlo um (Nat.lt_of_le_of_lt (show lo.length<=1000001 by omega) (by decide)),?_⟩
   have Ep:(kn++mo)[i]?=some p:=cy hi
   have c4:=c3.UK (i:=i) (j:=i') (k:=(j:Int)+1) Ep (by rw[ej];exact UZ)
   have hl4:A'.lo≠l:=fun zz=>by rw[<-zz,c3.hlo]at um;cases um
   refine⟨_,rfl,a,C,A'.dx,_,_,rfl,c4.ob,T.cl,T.lo,Gb,_,rfl,A'.lo,.int i',rfl,?_,?_⟩
   ·have hk4:(upd H3 A'.lo (.dT (putK lo [.inl (i:Int),.inl ((j:Int)+1)] (.int i')))) l=some (.tup (([.inl (i:Int),.inl ((j:Int)+1)]:List Key).map kV)):=by rw[aj (Ne.symm hl4)];exact um
    have:=oh.t (k:=[.inl (i:Int),.inl ((j:Int)+1)]) c4.hlo hk4
    rw[kP,if_pos rfl]at this
    exact this
   ·refine k i' _ A' mo Ez _ c4 UZ ?_ eli
    exact((Bf.trans (jd.same s2 _)).trans ux).trans (jd.upd (mem_cons_of_mem _ (mem_append_left _ (by simp[Ad.hd]))) _)
end
end DL.qx
namespace DL.qx
open PySem PySem.Spec PyProof.Rows L2 DL
abbrev Mj:Stmt:=inClass (top 32) 4
def Ra(C:Addr):Sp:=fun vs H Q _=>∃(a:Addr)(A:Ad)(z w:Int)(n:Nat)(kn:List RP)(ln:List Int)(B:Nat)(nu sh lo ke:List (List Key×V))(p q:RP)(i j:Nat),
 vs=[.ref a,.int i,.int j]/\jg C H a A (vW z w) n kn ln B nu sh lo ke/\n<=7/\B+300<1000000/\kn[i]?=some p/\kn[j]?=some q/\
 ∀(t:Addr)(i' j':Nat)(H':Hp)(A':Ad)(mo:List RP)(Ez UY U0:List (List Key×V)),jg C H' a A' (vW z w) n (kn++mo) ln (B+200) Ez UY U0 ke->(kn++mo)[i']?=some (g5 50 p q).1->(kn++mo)[j']?=some (g5 50 p q).2->
  H t=none->H' t=some (.tup [.int i',.int j'])->jd H H' (a::A.all) (a::A'.all)->A'.li=A.li->Q (.ref t) H'
section
variable{P:Program}{w:World}{K:'b'}{mg:Str->Option Value}{base:Heap}
theorem VN:aA ["self","one","other","free","k"] ["self","one","other"] (ae Mj):=⟨rfl,rfl,rfl,by decide +kernel,rfl,by decide +kernel,by decide +kernel⟩
theorem Yq{f C fS fL:Addr}{fd Rb fdL:FuncData}(F:Bq K "slide" "Comb.slide" Mj f fd)(T:Nb K mg C)
  (mS:Meth K C "without_first" fS)(bS:Binds K Rb ["self","number","k"] [])(GS:b8 P w K mg base lI 4 fS Rb ["self","number","k"] (Q8 C))
  (mL:Meth K C "with_last" fL)(bL:Binds K fdL ["self","number","k"] [])(GL:b8 P w K mg base lI 4 fL fdL ["self","number","k"] (Q9 C)):b8 P w K mg base lI 5 f fd ["self","one","other"] (Ra C):=by
 refine F.ok VN (fun vs H Q E h=>?_) (fun cdv A outer s H vs Q E hr h=>?_)
 ·obtain⟨a,A,z,w,n,kn,ln,B,nu,sh,lo,ke,p,q,i,j,rfl,_⟩:=h
  rfl
 ·obtain⟨a,A,z,w,n,kn,ln,B,nu,sh,lo,ke,p,q,i,j,rfl,c,hn,hB,hi,hj,k⟩:=h
  have hu:=sS hr
  refine⟨_,aK (dC (i:=3) VN.nd rfl (Or.inl rfl) (sN Jo (jh dY (bD (pv 0) rfl) (pv 2) (fun _ _=>rfl)) (E5 Jp (jh dY (bD (pv 0) rfl) (pv 1) (fun _ _=>rfl)))))
   (aK (xw PassesOwn.never (kh kN (pv 3) iB (aG _))
    (aK (dC (i:=4) VN.nd rfl (Or.inl rfl) (AB PySem.F.plainAttrs_int PySem.F.slot_int_bit_length PySem.F.type_int_bit_length OH (pv 3)))
    (aK (dC (i:=1) VN.nd rfl (Or.inl rfl) (jx (pv 0) T.cl mL GL 'd' bL .nil o9 (ao (pv 1) (ao (pv 4) aL))))
    (aK (dC (i:=2) VN.nd rfl (Or.inl rfl) (jx (pv 0) T.cl mS GS 'd' bS .nil o9 (ao (pv 2) (ao (pv 4) aL))))
    (b9 (dC (i:=3) VN.nd rfl (Or.inl rfl) (sN Jo (jh dY (bD (pv 0) rfl) (pv 2) (fun _ _=>rfl)) (E5 Jp (jh dY (bD (pv 0) rfl) (pv 1) (fun _ _=>rfl))))))))))
   (b9 (mz (r9 (ao (pv 1) (ao (pv 2) aL)))))),?_⟩
  have ZM:∀{H2:Hp}{A2:Ad}{Q5:List RP}{B2:Nat}{xm yG lo2:List (List Key×V)}{i2:Nat}{p2:RP},jg C H2 a A2 (vW z w) n Q5 ln B2 xm yG lo2 ke->Q5[i2]?=some p2->iC (Q5.map fun p=>V.int (wz p.2)) (i2:Int)=some (.int (wz p2.2))/\iC (Q5.map fun p=>V.int (wz p.1)) (i2:Int)=some (.int (wz p2.1)):=fun c2 h2=>
   ⟨gC (by rw[getElem?_map,h2];rfl),gC (by rw[getElem?_map,h2];rfl)⟩
  have l7:∀{x:RP},Iv n x.1 x.2->x.1.length<=7/\x.2.length<=7:=fun h=>⟨by rw[h.lr];exact hn,by rw[h.ls];exact hn⟩
  have ivp:=c.rw p (mem_of_getElem? hi)
  have ivq:=c.rw q (mem_of_getElem? hj)
  refine⟨_,rfl,a,C,A.dx,_,_,rfl,c.ob,T.cl,T.fi,LC,_,rfl,A.fi,_,j,_,rfl,rfl,cV.of c.yW,(ZM c hj).1,_,rfl,a,C,A.dx,_,_,rfl,c.ob,T.cl,T.la,LD,_,rfl,A.la,_,i,_,rfl,rfl,cV.of c.hla,(ZM c hi).2,_,rfl,_,_,rfl,rfl,?_⟩
  dsimp only
  rw[Gd (l7 ivp).1 (l7 ivq).2]
  refine⟨fun m σ H2=>∃(A2:Ad)(mo:List RP)(xm yG lo2:List (List Key×V))(i2 j2:Nat)(p2 q2:RP)(s:Nat)(kv:Option V),σ=[some (.ref a),some (.int i2),some (.int j2),some (.int (Eo (kX p2 q2))),kv]/\jg C H2 a A2 (vW z w) n (kn++mo) ln (B+4*s) xm yG lo2 ke/\
    (kn++mo)[i2]?=some p2/\(kn++mo)[j2]?=some q2/\g5 (50-s) p2 q2=g5 50 p q/\s<=iN p2.1/\m=50-s/\jd H H2 (a::A.all) (a::A2.all)/\A2.li=A.li,⟨50,A,[],nu,sh,lo,i,j,p,q,0,none,rfl,by rw[append_nil];exact c,by rw[append_nil];exact hi,by rw[append_nil];exact hj,rfl,zero_le _,rfl,jd.refl _ _,rfl⟩,?_⟩
  rintro m σ H2 ⟨A2,mo,xm,yG,lo2,i2,j2,p2,q2,s,kv,rfl,c2,hi2,OZ,hs,hsc,hm,EA,VO⟩
  have M7:=c2.rw p2 (mem_of_getElem? hi2)
  have M8:=c2.rw q2 (mem_of_getElem? OZ)
  have ah2:=uX hn M7
  refine⟨_,rfl,_,_,rfl,rfl,_,rfl,?_⟩
  dsimp only
  rw[LJ (l7 M7).1 (l7 M8).2]
  cases hl:(kX p2 q2).getLast? with
  |none=>
   refine uB ?_
   rw[qw _ hl]at hs
   refine⟨_,rfl,_,rfl,(by show 2<=sizeLine;decide),fun t ht=>?_⟩
   have st:=aM ht (.tup [V.int i2,V.int j2])
   refine k t i2 j2 _ A2 mo xm yG lo2 ((c2.same st).more 'a') (by rw[<-hs];exact hi2) (by rw[<-hs];exact OZ) (EA.gr t ht) ak (EA.trans (jd.same st _)) VO
  |some kk'=>
   refine wk ?_
   obtain⟨j',rfl,Bx,hlt,_⟩:=qW M7 M8 (mem_of_getLast? hl)
   have hup:=LL M7 Bx hlt
   have ivu:=uY M7 Bx
   have ah3:=uX hn ivu
   have hsl:g5 (50-(s+1)) (CB p2 j') (Du q2 j')=g5 50 p q:=by
    rw[<-hs,show 50-s=(50-(s+1))+1 by omega,qv _ hl,show((j':Int)+1-1).toNat=j' by omega]
   refine⟨fun σ' H'=>∃m'<m,∃(A2:Ad)(mo:List RP)(xm yG lo2:List (List Key×V))(i2 j2:Nat)(p2 q2:RP)(s:Nat)(kv:Option V),σ'=[some (.ref a),some (.int i2),some (.int j2),some (.int (Eo (kX p2 q2))),kv]/\jg C H' a A2 (vW z w) n (kn++mo) ln (B+4*s) xm yG lo2 ke/\
    (kn++mo)[i2]?=some p2/\(kn++mo)[j2]?=some q2/\g5 (50-s) p2 q2=g5 50 p q/\s<=iN p2.1/\m'=50-s/\jd H H' (a::A.all) (a::A2.all)/\A2.li=A.li,fun σ' H' h=>h,?_⟩
   refine⟨_,rfl,(by first|exact rfl|exact trivial),_,rfl,rfl,?_⟩
   dsimp only
   rw[LK (l7 M7).1 (l7 M8).2 hl]
   refine⟨_,rfl,a,A2.dx,_,rfl,c2.ob,rfl,_,rfl,_,rfl,a,A2,z,w,n,kn++mo,ln,B+4*s,xm,yG,lo2,ke,p2,i2,j',rfl,c2,hn,by omega,hi2,Bx,fun i3 H3 A3 ZN nu3 ZO c3 UZ ux Yr=>?_⟩
   have hj3:(kn++mo++ZN)[j2]?=some q2:=cy OZ
   refine⟨_,rfl,a,A3.dx,_,rfl,c3.ob,rfl,_,rfl,_,rfl,a,A3,z,w,n,kn++mo++ZN,ln,B+4*s+2,nu3,yG,ZO,ke,q2,j2,j',rfl,c3,hn,by omega,hj3,Bx,fun j4 H4 A4 GB Ys Yt c4 Yu U1 el4=>?_⟩
   have U3:(kn++mo++ZN++GB)[i3]?=some (CB p2 j'):=cy UZ
   refine⟨_,rfl,a,C,A4.dx,_,_,rfl,c4.ob,T.cl,T.fi,LC,_,rfl,A4.fi,_,j4,_,rfl,rfl,cV.of c4.yW,(ZM c4 Yu).1,_,rfl,a,C,A4.dx,_,_,rfl,c4.ob,T.cl,T.la,LD,_,rfl,A4.la,_,i3,_,rfl,rfl,cV.of c4.hla,(ZM c4 U3).2,_,rfl,_,_,rfl,rfl,?_⟩
   have iva:=uZ M8 Bx
   dsimp only
   rw[Gd (l7 ivu).1 (l7 iva).2]
   rw[List.append_assoc,List.append_assoc]at c4 U3 Yu
   refine⟨50-(s+1),by omega,A4,mo++(ZN++GB),Ys,Yt,ZO,i3,j4,CB p2 j',Du q2 j',s+1,_,rfl,?_,U3,Yu,hsl,by omega,rfl,(EA.trans ux).trans U1,el4.trans (Yr.trans VO)⟩
   rw[show B+4*(s+1)=B+4*s+2+2 by omega]
   exact c4
end
end DL.qx
namespace DL.qx
open PySem PySem.Spec PyProof.Rows L2 DL
abbrev Ml:Stmt:=inClass (top 32) 5
def Rc(C:Addr):Sp:=fun vs H Q _=>∃(a:Addr)(A:Ad)(z w:Int)(n:Nat)(kn:List RP)(ln:List Int)(B:Nat)(nu sh lo ke:List (List Key×V))(p q:RP)(i j:Nat),
 vs=[.ref a,.int i,.int j]/\jg C H a A (vW z w) n kn ln B nu sh lo ke/\n<=7/\B+400<1000000/\kn[i]?=some p/\kn[j]?=some q/\
 ∀(t:Addr)(i' j':Nat)(H':Hp)(A':Ad)(mo:List RP)(Ez UY U0 ke':List (List Key×V)),jg C H' a A' (vW z w) n (kn++mo) ln (B+201) Ez UY U0 ke'->(kn++mo)[i']?=some (g5 50 p q).1->(kn++mo)[j']?=some (g5 50 p q).2->
  H' t=some (.tup [.int i',.int j'])->jd H H' (a::A.all) (a::A'.all)->A'.li=A.li->Q (.ref t) H'
section
variable{P:Program}{w:World}{K:'b'}{mg:Str->Option Value}{base:Heap}
theorem ZP:aA ["self","one","other","pair","found"] ["self","one","other"] (ae Ml):=⟨rfl,rfl,rfl,by decide +kernel,rfl,by decide +kernel,by decide +kernel⟩
theorem Yv{f C fS:Addr}{fd Rb:FuncData}(F:Bq K "slide_kept" "Comb.slide_kept" Ml f fd)(T:Nb K mg C)(t:Tb K mg)
  (mS:Meth K C "slide" fS)(bS:Binds K Rb ["self","one","other"] [])(GS:b8 P w K mg base lI 5 fS Rb ["self","one","other"] (Ra C)):b8 P w K mg base lI 6 f fd ["self","one","other"] (Rc C):=by
 refine F.ok ZP (fun vs H Q E h=>?_) (fun cdv A outer s H vs Q E hr h=>?_)
 ·obtain⟨a,A,z,w,n,kn,ln,B,nu,sh,lo,ke,p,q,i,j,rfl,_⟩:=h
  rfl
 ·obtain⟨a,A,z,w,n,kn,ln,B,nu,sh,lo,ke,p,q,i,j,rfl,c,hn,hB,hi,hj,k⟩:=h
  have hu:=sS hr
  refine⟨_,aK (dC (i:=3) ZP.nd rfl (Or.inl rfl) (r9 (ao (pv 1) (ao (pv 2) aL))))
   (aK (dC (i:=4) ZP.nd rfl (Or.inl rfl) (JH hu (bD (pv 0) rfl) (pv 3) ⟨rfl,rfl,rfl,rfl⟩))
   (aK (vI (kh R5 (pv 4) Jb (aG _))
    (aK (dC (i:=4) ZP.nd rfl (Or.inl rfl) (jx (pv 0) T.cl mS GS 'd' bS .nil o9 (ao (pv 1) (ao (pv 2) aL))))
    (b9 (vI (kh sO (fu HW (by rfl) T.ZJ cX (ao (bD (pv 0) rfl) aL)) (wK (by rfl) t.uk (v:=.int 200000) ⟨_,rfl⟩) (aG _))
     (b9 (wQ hu (bD (pv 0) rfl) (pv 3) (pv 4) rfl)) lP))) lP)
   (b9 (mz (pv 4))))),?_⟩
  refine⟨_,rfl,_,rfl,(by show 2<=sizeLine;decide),fun l hl=>?_⟩
  have s1:aN H (upd H l (.tup [.int i,.int j])):=aM hl _
  have c1:=c.same s1
  have hkey:(upd H l (.tup [.int i,.int j])) l=some (.tup (([.inl (i:Int),.inl (j:Int)]:List Key).map kV)):=ak
  have Bf:=jd.same s1 (a::A.all)
  have Yo:l∉a::A.all:=fun hx=>by
   obtain⟨o,ho⟩:=c.there hx
   rw[hl]at ho
   cases ho
  generalize hH1:upd H l (.tup [.int i,.int j])=H1 at s1 c1 hkey Bf
  refine⟨_,rfl,a,C,A.dx,_,_,rfl,c1.ob,T.cl,T.ke,LG,A.ke,rfl,.inr ⟨_,.inl c1.hke⟩,_,rfl,_,oh.t c1.hke hkey,?_⟩
  cases hv:dE ke ([.inl (i:Int),.inl (j:Int)]:List Key)with
  |some v=>
   obtain⟨t',i',j',p',q',h1,h2,rfl,h4,h5,h6⟩:=c1.k1 i j v hv
   rw[hi]at h1
   rw[hj]at h2
   cases h1
   cases h2
   refine⟨_,rfl,rfl,_,rfl,?_⟩
   rw[decide_eq_false (show¬((some (V.ref t')).getD .non=.non)from fun zz=>nomatch zz)]
   refine uB ?_
   exact⟨_,rfl,k t' i' j' H1 A [] nu sh lo ke (by rw[append_nil];exact c1.more 'a') (by rw[append_nil];exact h5) (by rw[append_nil];exact h6) h4 Bf rfl⟩
  |none=>
   refine⟨_,rfl,rfl,_,rfl,?_⟩
   rw[decide_eq_true (show((none:Option V).getD .non=.non)from rfl)]
   refine wk ?_
   refine⟨_,rfl,a,A.dx,_,rfl,c1.ob,rfl,_,rfl,_,rfl,a,A,z,w,n,kn,ln,B,nu,sh,lo,ke,p,q,i,j,rfl,c1,hn,by omega,hi,hj,fun t' i' j' H2 A2 mo xm yG lo2 c2 hi2 OZ htn Tq EA VO=>?_⟩
   have hz:=c2.z
   have Yw:=Bf.trans EA
   refine⟨_,rfl,a,C,A2.dx,_,_,rfl,c2.ob,T.cl,T.ke,LG,A2.ke,_,rfl,c2.hke,_,_,rfl,rfl,_,rfl,?_⟩
   generalize decide ((ke.length:Int)<200000)=bb
   cases bb with
   |true=>
    refine wk ?_
    have Yx:H2 l=some (.tup (([.inl (i:Int),.inl (j:Int)]:List Key).map kV)):=EA.kp l _ Yo hkey
    refine⟨_,rfl,_,rfl,a,C,A2.dx,_,_,rfl,c2.ob,T.cl,T.ke,LG,_,rfl,A2.ke,_,rfl,BO.t c2.hke Yx (Nat.lt_of_le_of_lt (show ke.length<=1000001 by omega) (by decide)),?_⟩
    have c3:=c2.UL (cy hi) (cy hj) Tq hi2 OZ
    refine⟨_,rfl,k t' i' j' _ A2 mo xm yG lo2 _ c3 hi2 OZ ?_ (Yw.trans (jd.upd (mem_cons_of_mem _ (mem_append_left _ (by simp[Ad.hd]))) _)) VO⟩
    rw[aj (bO Tq c2.hke (by intro zz;cases zz))]
    exact Tq
   |false=>
    refine uB ?_
    exact⟨_,rfl,k t' i' j' H2 A2 mo xm yG lo2 ke (c2.more 'a') hi2 OZ Tq Yw VO⟩
end
end DL.qx
namespace DL.qx
open PySem PySem.Spec PyProof.Rows L2 DL
abbrev Mm:Stmt:=inClass (top 32) 6
def Rf(K:'b')(C:Addr):Sp:=fun vs H Q _=>∃(a:Addr)(A:Ad)(zn:Nat)(w:Int)(n:Nat)(kn:List RP)(ls:List Nat)(R:List RP)(B:Nat)(nu sh lo ke:List (List Key×V))(p:RP)(v:V),
 vs=[.ref a,v]/\jg C H a A (vW zn w) n kn (nI ls) B nu sh lo ke/\di kn ls R/\kn[zn]?=some (upTo n,upTo n)/\n<=7/\B+402*(R.length+1)<900000/\R.length<=1000/\Iv n p.1 p.2/\Is K (fun x=>x∉a::A.all) H (.lst (aI p.1)) v/\
 ∀(H':Hp)(A':Ad)(mo:List RP)(ls':List Nat)(Ez UY U0 ke':List (List Key×V)),jg C H' a A' (vW zn w) n (kn++mo) (nI ls') (B+402*(R.length+1)) Ez UY U0 ke'->di (kn++mo) ls' (iO n R p)->jd H H' (a::A.all) (a::A'.all)->Q .non H'
section
variable{P:Program}{w:World}{K:'b'}{mg:Str->Option Value}{base:Heap}
theorem Yy:aA ["self","row","line","place","pair"] ["self","row"] (ae Mm):=⟨rfl,rfl,rfl,by decide +kernel,rfl,by decide +kernel,by decide +kernel⟩
theorem Yz{f C fN fS:Addr}{fd Mh Rb:FuncData}(F:Bq K "put" "Comb.put" Mm f fd)(T:Nb K mg C)
  (mN:Meth K C "number_of" fN)(bN:Binds K Mh ["self","row"] [])(GN:b8 P w K mg base lI 3 fN Mh ["self","row"] (CN K C))
  (mS:Meth K C "slide_kept" fS)(bS:Binds K Rb ["self","one","other"] [])(GS:b8 P w K mg base lI 6 fS Rb ["self","one","other"] (Rc C)):b8 P w K mg base lI 7 f fd ["self","row"] (Rf K C):=by
 refine F.ok Yy (fun vs H Q E h=>?_) (fun cdv A outer s H vs Q E hr h=>?_)
 ·obtain⟨a,A,zn,w,n,kn,ls,R,B,nu,sh,lo,ke,p,v,rfl,_⟩:=h
  rfl
 ·obtain⟨a,A,zn,w,n,kn,ls,R,B,nu,sh,lo,ke,p,v,rfl,c,hR,hzn,hn,hB,hRl,ivp,isr,k⟩:=h
  have hu:=sS hr
  refine⟨_,aK (dC (i:=2) Yy.nd rfl (Or.inl rfl) (bD (pv 0) rfl))
   (aK (fX (sQ plainAttrs_list PySem.F.slot_list_append PySem.F.type_list_append fY (pv 2) (ao (jx (pv 0) T.cl mN GN 'd' bN .nil o9 (ao (pv 1) aL)) aL)) rfl)
   (aK (dC (i:=3) Yy.nd rfl (Or.inl rfl) (sN bz (fu n9 (by rfl) T.ZJ cX (ao (pv 2) aL)) iB))
   (aK (xw PassesOwn.never (kh kN (pv 3) iB (aG _))
    (aK (dC (i:=4) Yy.nd rfl (Or.inl rfl) (jx (pv 0) T.cl mS GS 'd' bS .nil o9 (ao (jh dY (pv 2) (sN bz (pv 3) iB) (fun _ _=>rfl)) (ao (jh dY (pv 2) (pv 3) (fun _ _=>rfl)) aL))))
    (aK (vI (kh Jr (jh Aw (pv 4) iB (fun _ _=>rfl)) (jh dY (pv 2) (sN bz (pv 3) iB) (fun _ _=>rfl)) (aG _)) (b9 Je) lP)
    (aK (Ar (jh Aw (pv 4) iB (fun _ _=>rfl)) (xu (pv 2) (sN bz (pv 3) iB) set_list (by intro _;rfl)) rfl rfl rfl)
    (aK (Ar (jh Aw (pv 4) iB (fun _ _=>rfl)) (xu (pv 2) (pv 3) set_list (by intro _;rfl)) rfl rfl rfl)
    (b9 (Dz (i:=3) Yy.nd rfl (Or.inl rfl) iB RU)))))))
   (b9 (vI (kh Jr (jh dY (pv 2) (E5 gP iB) (fun _ _=>rfl)) (bD (pv 0) rfl) (aG _))
    (b9 (fX (AB plainAttrs_list slot_list_pop type_list_pop JD (pv 2)) rfl)) lP))))),?_⟩
  refine⟨_,rfl,a,C,A.dx,_,_,rfl,c.ob,T.cl,T.li,CD,?_⟩
  refine⟨_,rfl,.inl ⟨rfl,_,cV.of c.hli⟩,_,rfl,a,A.dx,_,rfl,c.ob,rfl,_,rfl,a,A,vW zn w,n,kn,nI ls,B,nu,sh,lo,ke,p,v,rfl,c,hn,by omega,ivp,isr,fun i1 H1 A1 YA YB c1 hi1 Bf VP=>?_⟩
  have hz:=c1.z
  have ZD:=hR.len
  have big:∀{x:Nat},x<=1000001->x<sizeLine:=fun h=>Nat.lt_of_le_of_lt h (by decide)
  refine⟨A.li,(nI ls).map V.int,.int i1,rfl,rfl,by rw[<-VP];exact c1.hli,by rw[length_map,mG];exact big 'a',?_⟩
  have hR1:di (kn++YA) (ls++[i1]) (R++[p]):=hR.pre.app hi1
  have c2:=c1.CG hR1.li
  rw[UN,VP]at c2
  have EA:jd H (upd H1 A.li (.lst ((nI ls).map V.int++[.int i1]))) (a::A.all) (a::A1.all):=Bf.trans (jd.upd (by rw[<-VP];exact mem_cons_of_mem _ (mem_append_left _ (by simp[Ad.hd]))) _)
  generalize upd H1 A.li (.lst ((nI ls).map V.int++[.int i1]))=H2 at c2 EA
  have adl:H2 A.li=some (.lst ((nI (ls++[i1])).map V.int)):=by rw[<-VP];exact c2.hli
  refine⟨_,rfl,A.li,_,rfl,.inl (cV.of adl),_,_,rfl,rfl,?_⟩
  have epl:((((nI (ls++[i1])).map V.int).length:Nat):Int)-1=(R.length:Nat):=by
   rw[length_map,mG,length_append,length_singleton]
   omega
  dsimp only
  rw[epl]
  refine⟨fun m σ H2=>∃(A2:Ad)(mo:List RP)(xm yG lo2 Nf:List (List Key×V))(YC:List Nat)(t:Nat)(cr:RP)(dn:List RP)(pr:Option V),σ=[some (.ref a),some v,some (.ref A.li),some (.int t),pr]/\jg C H2 a A2 (vW zn w) n (kn++mo) (nI YC) (B+1+201*(R.length-t)) xm yG lo2 Nf/\
    di (kn++mo) YC (R.take t++cr::dn)/\t<=R.length/\(yg (R.take t).reverse cr).reverse++dn=w9 R p/\m=t/\jd H H2 (a::A.all) (a::A2.all)/\A2.li=A.li,
   ⟨R.length,A1,YA,YB,sh,lo,ke,ls++[i1],R.length,p,[],none,rfl,by rw[sub_self];exact c2,by rw[take_length];exact hR1,Nat.le_refl _,by rw[take_length,append_nil];rfl,rfl,EA,VP⟩,?_⟩
  rintro m σ H3 ⟨A3,mo,nu3,sh3,ZO,ke3,yX,t,cr,dn,pr,rfl,c3,hL,htR,hT,rfl,ux,Yr⟩
  have hli:H3 A.li=some (.lst ((nI yX).map V.int)):=by rw[<-Yr];exact c3.hli
  refine⟨_,rfl,_,_,rfl,rfl,_,rfl,?_⟩
  cases m with
  |zero=>
   rw[decide_eq_false 'a']
   refine uB ?_
   have Rg:di (kn++mo) yX (w9 R p):=by
    rw[<-hT]
    exact hL
   obtain⟨m1,r1,hm1,hm2,VQ⟩:=Rg.last (by rw[xf];omega)
   refine⟨_,rfl,_,rfl,A.li,_,-1,_,rfl,rfl,cV.of hli,pW (xg hm1),_,rfl,a,C,A3.dx,_,_,rfl,c3.ob,T.cl,T.no,QV,rfl,_,rfl,?_⟩
   have hz2:(kn++mo)[zn]?=some (upTo n,upTo n):=cy hzn
   by_cases hq:r1=(upTo n,upTo n)
   ·rw[decide_eq_true (show V.int (m1:Int)=V.int (zn:Int)from congrArg V.int ((c3.inj VQ hz2).mpr hq))]
    refine wk ?_
    refine⟨_,rfl,.inl ⟨rfl,_,cV.of hli⟩,A.li,_,_,rfl,rfl,hli,Gf (xg hm1),?_⟩
    rw[Gg,<-Yr]
    have hdr:di (kn++mo) yX.dropLast (iO n R p):=by
     unfold iO
     rw[if_pos (by rw[hm2,hq])]
     exact Rg.drop
    exact k _ A3 mo yX.dropLast _ _ _ _ ((c3.CG hdr.li).more 'a') hdr (ux.trans (jd.upd (mem_cons_of_mem _ (mem_append_left _ (by simp[Ad.hd]))) _))
   ·rw[decide_eq_false (show¬V.int (m1:Int)=V.int (zn:Int)from fun e=>hq ((c3.inj VQ hz2).mp (by injection e)))]
    refine uB ?_
    have hdr:di (kn++mo) yX (iO n R p):=by
     unfold iO
     rw[if_neg (by rw[hm2];exact fun e=>hq (Option.some.inj e))]
     exact Rg
    exact k _ A3 mo yX _ _ _ _ (c3.more 'a') hdr ux
  |succ t=>
   rw[decide_eq_true 'a']
   refine wk ?_
   have hrt:R[t]?=some (R[t]' 'a'):=getElem?_eq_getElem 'a'
   generalize R[t]' 'a'=r at hrt
   have etk:R.take (t+1)=R.take t++[r]:=by rw[take_succ,hrt];rfl
   have ltk:(R.take t).length=t:=by rw[length_take];omega
   have g1:(R.take (t+1)++cr::dn)[t]?=some r:=by
    rw[etk,List.append_assoc,getElem?_append_right 'a',ltk,sub_self]
    rfl
   have g2:(R.take (t+1)++cr::dn)[t+1]?=some cr:=by
    rw[getElem?_append_right (by rw[length_take];omega),show t+1-(R.take (t+1)).length=0 by rw[length_take];omega]
    rfl
   obtain⟨ma,la,ka⟩:=hL.at g1
   obtain⟨mb,lb,kb⟩:=hL.at g2
   refine⟨fun σ' H'=>∃m'<t+1,∃(A2:Ad)(mo:List RP)(xm yG lo2 Nf:List (List Key×V))(YC:List Nat)(t:Nat)(cr:RP)(dn:List RP)(pr:Option V),σ'=[some (.ref a),some v,some (.ref A.li),some (.int t),pr]/\jg C H' a A2 (vW zn w) n (kn++mo) (nI YC) (B+1+201*(R.length-t)) xm yG lo2 Nf/\
    di (kn++mo) YC (R.take t++cr::dn)/\t<=R.length/\(yg (R.take t).reverse cr).reverse++dn=w9 R p/\m'=t/\jd H H' (a::A.all) (a::A2.all)/\A2.li=A.li,fun σ' H' h=>h,?_⟩
   have ZQ:((t+1:Nat):Int)-1=(t:Nat):=by omega
   refine⟨_,rfl,a,A3.dx,_,rfl,c3.ob,rfl,_,rfl,_,rfl,_,_,rfl,rfl,A.li,_,((t+1:Nat):Int)-1,.int ma,rfl,rfl,cV.of hli,by rw[ZQ];exact gC (u9 la),_,rfl,_,rfl,A.li,_,((t+1:Nat):Int),.int mb,rfl,rfl,cV.of hli,gC (u9 lb),
    a,A3,zn,w,n,kn++mo,nI yX,_,nu3,sh3,ZO,ke3,r,cr,ma,mb,rfl,c3,hn,by omega,ka,kb,fun tt i4 j4 H4 A4 GB Ys Yt lo4 ke4 c4 U3 Yu ZR U1 el4=>?_⟩
   have CO:=el4.trans Yr
   have O0:H4 A.li=some (.lst ((nI yX).map V.int)):=by rw[<-CO];exact c4.hli
   refine⟨_,rfl,tt,_,0,_,rfl,rfl,Bp.of ZR,rfl,_,rfl,_,rfl,_,_,rfl,rfl,A.li,_,((t+1:Nat):Int)-1,.int ma,rfl,rfl,cV.of O0,by rw[ZQ];exact gC (u9 la),rfl,_,rfl,?_⟩
   have kaX:(kn++mo++GB)[ma]?=some r:=cy ka
   have hsl:=LN (c:=cr) hrt
   by_cases ZS:(g5 50 r cr).1=r
   ·rw[decide_eq_true (show V.int (i4:Int)=V.int (ma:Int)from congrArg V.int ((c4.inj U3 kaX).mpr ZS))]
    refine wk ?_
    have Rg:di (kn++mo++GB) yX (w9 R p):=by
     rw[<-hT,hsl,if_pos ZS,reverse_cons,reverse_reverse,show R.take (t+1)++[cr]++dn=R.take (t+1)++cr::dn by rw[List.append_assoc];rfl]
     exact hL.pre
    have hli:=O0
    obtain⟨m1,r1,hm1,hm2,VQ⟩:=Rg.last (by rw[xf];omega)
    rw[List.append_assoc]at c4 VQ Rg
    refine⟨_,rfl,_,rfl,A.li,_,-1,_,rfl,rfl,cV.of hli,pW (xg hm1),_,rfl,a,C,A4.dx,_,_,rfl,c4.ob,T.cl,T.no,QV,rfl,_,rfl,?_⟩
    have hz2:(kn++(mo++GB))[zn]?=some (upTo n,upTo n):=cy hzn
    by_cases hq:r1=(upTo n,upTo n)
    ·rw[decide_eq_true (show V.int (m1:Int)=V.int (zn:Int)from congrArg V.int ((c4.inj VQ hz2).mpr hq))]
     refine wk ?_
     refine⟨_,rfl,.inl ⟨rfl,_,cV.of hli⟩,A.li,_,_,rfl,rfl,hli,Gf (xg hm1),?_⟩
     rw[Gg,<-CO]
     have hdr:di (kn++(mo++GB)) yX.dropLast (iO n R p):=by
      unfold iO
      rw[if_pos (by rw[hm2,hq])]
      exact Rg.drop
     exact k _ A4 (mo++GB) yX.dropLast _ _ _ _ ((c4.CG hdr.li).more 'a') hdr ((ux.trans U1).trans (jd.upd (mem_cons_of_mem _ (mem_append_left _ (by simp[Ad.hd]))) _))
    ·rw[decide_eq_false (show¬V.int (m1:Int)=V.int (zn:Int)from fun e=>hq ((c4.inj VQ hz2).mp (by injection e)))]
     refine uB ?_
     have hdr:di (kn++(mo++GB)) yX (iO n R p):=by
      unfold iO
      rw[if_neg (by rw[hm2];exact fun e=>hq (Option.some.inj e))]
      exact Rg
     exact k _ A4 (mo++GB) yX _ _ _ _ (c4.more 'a') hdr (ux.trans U1)
   ·rw[decide_eq_false (show¬V.int (i4:Int)=V.int (ma:Int)from fun e=>ZS ((c4.inj U3 kaX).mp (by injection e)))]
    refine uB ?_
    have lt1:t+1<yX.length:=(List.getElem?_eq_some_iff.mp lb).1
    have ixa:pV ((nI yX).map V.int).length (((t+1:Nat):Int)-1)=some t:=by
     unfold L2.pV
     rw[ZQ,if_pos 'a',if_pos (by rw[length_map,mG];omega),toNat_natCast]
    refine⟨_,rfl,tt,_,0,_,rfl,rfl,Bp.of ZR,rfl,_,rfl,_,rfl,_,_,rfl,rfl,A.li,_,_,t,rfl,rfl,O0,ixa,?_⟩
    have hLa:di (kn++mo++GB) (yX.set t i4) ((R.take (t+1)++cr::dn).set t (g5 50 r cr).1):=hL.pre.set t U3
    have c5:=c4.CG hLa.li
    rw[CO,<-LM]at c5
    have MX:jd H (upd H4 A.li (.lst (((nI yX).map V.int).set t (.int i4)))) (a::A.all) (a::A4.all):=(ux.trans U1).trans (jd.upd (by rw[<-CO];exact mem_cons_of_mem _ (mem_append_left _ (by simp[Ad.hd]))) _)
    have Zs:(upd H4 A.li (.lst (((nI yX).map V.int).set t (.int i4)))) tt=some (.tup [.int i4,.int j4]):=by rw[aj (bO ZR O0 (by intro zz;cases zz))];exact ZR
    generalize upd H4 A.li (.lst (((nI yX).map V.int).set t (.int i4)))=H5 at c5 MX Zs
    have adp:H5 A.li=some (.lst ((nI (yX.set t i4)).map V.int)):=by rw[<-CO];exact c5.hli
    have ixb:pV ((nI (yX.set t i4)).map V.int).length ((t+1:Nat):Int)=some (t+1):=by
     unfold L2.pV
     rw[if_pos 'a',if_pos (by rw[length_map,mG,length_set];omega),toNat_natCast]
    refine⟨_,rfl,tt,_,1,_,rfl,rfl,Bp.of Zs,rfl,_,rfl,_,rfl,A.li,_,_,t+1,rfl,rfl,adp,ixb,?_⟩
    have ZT:=hLa.set (t+1) Yu
    have c6:=c5.CG ZT.li
    rw[CO,<-LM]at c6
    have ZK:jd H (upd H5 A.li (.lst (((nI (yX.set t i4)).map V.int).set (t+1) (.int j4)))) (a::A.all) (a::A4.all):=MX.trans (jd.upd (by rw[<-CO];exact mem_cons_of_mem _ (mem_append_left _ (by simp[Ad.hd]))) _)
    refine⟨_,rfl,_,_,rfl,rfl,?_⟩
    have adq:((R.take (t+1)++cr::dn).set t (g5 50 r cr).1).set (t+1) (g5 50 r cr).2=R.take t++(g5 50 r cr).1::(g5 50 r cr).2::dn:=by
     rw[etk,List.append_assoc,List.set_append_right _ _ 'a',List.set_append_right _ _ 'a',ltk,sub_self,show t+1-t=1 by omega]
     rfl
    rw[adq]at ZT
    rw[List.append_assoc]at c6 ZT
    dsimp only
    rw[ZQ]
    refine⟨t,by omega,A4,mo++GB,Ys,Yt,lo4,ke4,_,t,(g5 50 r cr).1,(g5 50 r cr).2::dn,_,rfl,c6.more 'a',ZT,by omega,?_,rfl,ZK,CO⟩
    rw[<-hT,hsl,if_neg ZS,reverse_cons,List.append_assoc]
    rfl
end
end DL.qx
namespace DL.qx
open PySem PySem.Spec PyProof.Rows L2 DL
abbrev GC:Stmt:=inClass (top 32) 7
def adt(K:'b'):TE:=tCB (fun xs H Q=>∃p ys,xs=[V.ref p]/\(cV K H p ys\/Bp K H p ys)/\∀l,H l=none->Q (.ref l) (upd H l (.lst ys))) (E7 (Wd (R8 K) (Wk K (Nn 1) "known") (Nn 0)) Jv)
def Rh(K:'b')(C:Addr):Sp:=fun vs H Q _=>∃(a:Addr)(A:Ad)(z:Int)(wn n:Nat)(kn:List RP)(ls:List Nat)(R:List RP)(B:Nat)(nu sh lo ke:List (List Key×V)),
 vs=[.ref a]/\jg C H a A (vW z wn) n kn (nI ls) B nu sh lo ke/\di kn ls R/\kn[wn]?=some (qX n)/\R.length<=1000/\∀(v:V)(H':Hp),aN H H'->Is K (fun x=>H x=none) H' (vX n R) v->Q v H'
section
variable{P:Program}{w:World}{K:'b'}{mg:Str->Option Value}{base:Heap}
theorem sc7:aA ["self","many"] ["self"] (ae GC):=⟨rfl,rfl,rfl,by decide +kernel,rfl,by decide +kernel,by decide +kernel⟩
theorem YD{f C:Addr}{fd:FuncData}(F:Bq K "form_told" "Comb.form_told" GC f fd)(T:Nb K mg C):b8 P w K mg base lI 1 f fd ["self"] (Rh K C):=by
 refine F.ok sc7 (fun vs H Q E h=>?_) (fun cdv A outer s H vs Q E hr h=>?_)
 ·obtain⟨a,A,z,wn,n,kn,ls,R,B,nu,sh,lo,ke,rfl,_⟩:=h
  rfl
 ·obtain⟨a,A,z,wn,n,kn,ls,R,B,nu,sh,lo,ke,rfl,c,hR,hwn,hRl,k⟩:=h
  have hu:=sS hr
  refine⟨_,aK (dC (i:=1) sc7.nd rfl (Or.inl rfl) iB)
   (aK (xw PassesOwn.never (pw_and (kh sO (pv 1) (fu n9 (by rfl) T.ZJ cX (ao (bD (pv 0) rfl) aL)) (aG _)) (pw_and1 (kh Jr (jh dY (bD (pv 0) rfl) (pv 1) (fun _ _=>rfl)) (bD (pv 0) rfl) (aG _)))).pt
    (b9 (Dz (i:=1) sc7.nd rfl (Or.inl rfl) iB Jh)))
   (b9 (mz (r9 (ao (pv 1) (ao (LZ (te:=adt K) (Hz (N:=["number","self"]) (nt:=1) (caps:=[0]) (ae GC) ["self","many"] (by decide +kernel)) rfl (wM (BI Fc (bD (pv 0) rfl) (E9 (pv 1)) E8)) (fun _ _ _ _ _=>wL (i:=0) (by show Nodup (["number","self"]:List Str);decide +kernel) rfl (Or.inl rfl)) (fun _ _ _ _ _=>by exact qP og (by rfl) T.mli lS (ao (jh dY (bD (pv 1) rfl) (pv 0) (fun _ _=>rfl)) aL))) aL)))))),?_⟩
  refine⟨fun m σ H2=>∃i:Nat,σ=[some (.ref a),some (.int i)]/\H2=H/\i<=R.length/\(∀j<i,R[j]?=some (qX n))/\m=R.length-i,⟨R.length,0,rfl,rfl,zero_le _,fun j hj=>absurd hj (Nat.not_lt_zero _),rfl⟩,?_⟩
  rintro m σ H2 ⟨i,rfl,rfl,hiR,hal,hm⟩
  refine⟨_,rfl,_,rfl,a,C,A.dx,_,_,rfl,c.ob,T.cl,T.li,CD,A.li,_,rfl,.inl (cV.of c.hli),_,_,rfl,rfl,_,rfl,?_⟩
  by_cases hlt:i<R.length
  ·rw[decide_eq_true (show(i:Int)<(((nI ls).map V.int).length:Nat)by rw[length_map,mG,hR.len];omega)]
   refine wk ?_
   obtain⟨mi,hm1,hm2⟩:=hR.at (getElem?_eq_getElem hlt)
   refine⟨_,rfl,a,C,A.dx,_,_,rfl,c.ob,T.cl,T.li,CD,_,rfl,A.li,_,i,.int mi,rfl,rfl,cV.of c.hli,gC (u9 hm1),_,rfl,a,C,A.dx,_,_,rfl,c.ob,T.cl,T.wh,X9,rfl,_,rfl,?_⟩
   by_cases he:R[i]=qX n
   ·rw[decide_eq_true (show V.int (mi:Int)=V.int (wn:Int)from congrArg V.int ((c.inj hm2 hwn).mpr he))]
    refine wk ?_
    refine⟨fun σ' H'=>∃m'<m,∃i:Nat,σ'=[some (.ref a),some (.int i)]/\H'=H2/\i<=R.length/\(∀j<i,R[j]?=some (qX n))/\m'=R.length-i,fun _ _ h=>h,_,rfl,_,_,rfl,rfl,R.length-(i+1),by omega,i+1,rfl,rfl,hlt,fun j hj=>?_,rfl⟩
    by_cases hji:j<i
    ·exact hal j hji
    ·have:j=i:=by omega
     subst this
     rw[getElem?_eq_getElem hlt,he]
   ·rw[decide_eq_false (show¬V.int (mi:Int)=V.int (wn:Int)from fun e=>he ((c.inj hm2 hwn).mp (by injection e)))]
    refine uB ?_
    have hcn:mH n R=i:=CH hal (by rw[getElem?_eq_getElem hlt];exact fun e=>he (Option.some.inj e))
    have U4:yZ ((nI ls).map V.int) (some (i:Int)) none=(nI (ls.drop i)).map V.int:=by
     unfold yZ nI
     rw[n8 _ _ _ 'a',pU,toNat_natCast,length_map,length_map,hR.len,min_eq_left hiR,map_drop,map_drop]
     refine take_of_length_le ?_
     rw[length_drop,length_map,length_map,hR.len]
     exact Nat.le_refl _
    refine⟨_,rfl,_,rfl,a,C,A.dx,_,_,rfl,c.ob,T.cl,T.li,CD,_,rfl,_,rfl,A.li,_,rfl,cV.of c.hli,fun q hq=>?_⟩
    rw[U4]
    have s1:=aM hq (.lst ((nI (ls.drop i)).map V.int))
    have hq1:(upd H2 q (.lst ((nI (ls.drop i)).map V.int))) q=some (.lst ((nI (ls.drop i)).map V.int)):=ak
    generalize upd H2 q (.lst ((nI (ls.drop i)).map V.int))=H1 at s1 hq1
    have U5:di kn (ls.drop i) (R.drop i):=by
     unfold di
     rw[map_drop,map_drop,show ls.map (fun m=>kn[m]?)=R.map some from hR]
    refine⟨q,rfl,⟨_,cV.of hq1⟩,q,_,[.ref a],rfl,cV.of hq1,rfl,fun j i' v e1 e2=>?_,fun Dd hD=>?_⟩
    ·match j with
     |0=>
      have z1:0=i':=by simpa using e1
      have z2:V.ref a=v:=by simpa using e2
      subst z1 z2
      rfl
     |j+1=>simp at e1
    ·refine⟨fun j acc Hx=>∃as:List Addr,acc=as.map V.ref/\as.length=j/\j<=(R.drop i).length/\aN H1 Hx/\Hx Dd=some (.lst acc)/\(∀b∈as,H1 b=none/\b≠Dd)/\∀(k:Nat)(b:Addr)(r:RP),as[k]?=some b->(R.drop i)[k]?=some r->Hx b=some (.lst (r.1.map V.int)),⟨[],rfl,rfl,zero_le _,aM hD _,ak,(fun b hb=>nomatch hb),fun k b r e=>by simp at e⟩,?_,?_,?_⟩
     ·rintro j acc Hx ⟨as,rfl,_,_,sx,Ig,_⟩
      exact⟨cV.of (sx _ _ hq1),Ig⟩
     ·rintro j acc Hx x ⟨as,rfl,hj,U6,sx,Ig,hnew,hat⟩ hx
      have hjr:j<(ls.drop i).length:=by
       have:=(List.getElem?_eq_some_iff.mp hx).1
       rwa [length_map,mG]at this
      have O1:j<(R.drop i).length:=by rw[<-U5.len];exact hjr
      obtain⟨m,hm1,hm2⟩:=U5.at (getElem?_eq_getElem O1)
      rw[u9 hm1]at hx
      cases hx
      have cx:=c.same (s1.trans sx)
      have Hw:m<A.ks.length:=by rw[c.CC];exact(List.getElem?_eq_some_iff.mp hm2).1
      have hb:=cx.hks m A.ks[m] _ (getElem?_eq_getElem Hw) hm2
      refine⟨_,rfl,a,C,A.dx,_,_,rfl,cx.ob,T.cl,T.kn,zY,_,rfl,A.kn,A.ks.map V.ref,m,.ref A.ks[m],rfl,rfl,cV.of cx.hkn,gC (by rw[getElem?_map,getElem?_eq_getElem Hw];rfl),A.ks[m],_,rfl,.inl (cV.of hb),fun l2 hl2=>?_⟩
      have U7:Dd≠l2:=fun zz=>by rw[<-zz,Ig]at hl2;cases hl2
      have hl1:H1 l2=none:=sx.free hl2
      refine⟨by rw[aj U7];exact Ig,by rw[length_map,hj];exact lt_of_lt_of_le (show j<1000001 by rw[length_drop]at O1;omega) (by decide),as++[l2],by rw[map_append];rfl,by rw[length_append,hj];rfl,O1,?_,ak,fun b M6=>?_,fun k' b r e1 e2=>?_⟩
      ·intro y o hy
       have hyD:y≠Dd:=fun zz=>by rw[zz,hD]at hy;cases hy
       rw[aj hyD]
       exact aM hl2 _ _ _ (sx _ _ hy)
      ·rcases mem_append.mp M6 with h|h
       ·exact hnew b h
       ·have:b=l2:=by simpa using h
        rw[this];exact⟨hl1,Ne.symm U7⟩
      ·by_cases hk:k'<as.length
       ·rw[getElem?_append_left hk]at e1
        have Ww:=hat k' b r e1 e2
        rw[aj (hnew b (mem_of_getElem? e1)).2]
        exact aM hl2 _ _ _ Ww
       ·obtain⟨z1,z2⟩:=qu e1 hk
        rw[hj]at z1
        rw[z1,getElem?_eq_getElem O1]at e2
        cases e2
        rw[<-z2,aj (Ne.symm U7)]
        exact ak
     ·rintro acc Hx ⟨as,rfl,hj,U6,sx,Ig,hnew,hat⟩
      refine⟨(by show 2<=sizeLine;decide),fun pt YE=>?_⟩
      have st:=aM YE (.tup [V.int i,V.ref Dd])
      have hlen:as.length=((R.drop i).map (·.1)).length:=by
       rw[hj,length_map,mG,length_map]
       exact U5.len
      have hD0:H2 Dd=none:=s1.free hD
      refine k _ _ ((s1.trans sx).trans st) ?_
      unfold vX
      rw[hcn]
      refine⟨pt,_,rfl,.inl ⟨(s1.trans sx).free YE,.inl ak⟩,_,_,rfl,rfl,_,_,rfl,⟨Dd,_,rfl,.inl ⟨hD0,.inl (st _ _ Ig)⟩,?_⟩,rfl⟩
      have:=tH (K:=K) (P:=fun x=>H2 x=none) (H:=upd Hx pt (.tup [V.int i,V.ref Dd])) hlen (fun b hb=>s1.free (hnew b hb).1) fun k' b ns e1 e2=>by
       rw[getElem?_map]at e2
       cases hr:(R.drop i)[k']? with
       |none=>rw[hr]at e2;cases e2
       |some r=>
        rw[hr]at e2
        cases e2
        exact st _ _ (hat k' b r e1 hr)
      rw[map_map]at this
      exact this
  ·rw[decide_eq_false (show¬(i:Int)<(((nI ls).map V.int).length:Nat)by rw[length_map,mG,hR.len];omega)]
   refine uB ?_
   refine uB ?_
   have hcn:mH n R=i:=CH hal (by rw[getElem?_eq_none 'a'];exact fun e=>nomatch e)
   have U4:yZ ((nI ls).map V.int) (some (i:Int)) none=(nI (ls.drop i)).map V.int:=by
    unfold yZ nI
    rw[n8 _ _ _ 'a',pU,toNat_natCast,length_map,length_map,hR.len,min_eq_left hiR,map_drop,map_drop]
    refine take_of_length_le ?_
    rw[length_drop,length_map,length_map,hR.len]
    exact Nat.le_refl _
   refine⟨_,rfl,_,rfl,a,C,A.dx,_,_,rfl,c.ob,T.cl,T.li,CD,_,rfl,_,rfl,A.li,_,rfl,cV.of c.hli,fun q hq=>?_⟩
   rw[U4]
   have s1:=aM hq (.lst ((nI (ls.drop i)).map V.int))
   have hq1:(upd H2 q (.lst ((nI (ls.drop i)).map V.int))) q=some (.lst ((nI (ls.drop i)).map V.int)):=ak
   generalize upd H2 q (.lst ((nI (ls.drop i)).map V.int))=H1 at s1 hq1
   have U5:di kn (ls.drop i) (R.drop i):=by
    unfold di
    rw[map_drop,map_drop,show ls.map (fun m=>kn[m]?)=R.map some from hR]
   refine⟨q,rfl,⟨_,cV.of hq1⟩,q,_,[.ref a],rfl,cV.of hq1,rfl,fun j i' v e1 e2=>?_,fun Dd hD=>?_⟩
   ·match j with
    |0=>
     have z1:0=i':=by simpa using e1
     have z2:V.ref a=v:=by simpa using e2
     subst z1 z2
     rfl
    |j+1=>simp at e1
   ·refine⟨fun j acc Hx=>∃as:List Addr,acc=as.map V.ref/\as.length=j/\j<=(R.drop i).length/\aN H1 Hx/\Hx Dd=some (.lst acc)/\(∀b∈as,H1 b=none/\b≠Dd)/\∀(k:Nat)(b:Addr)(r:RP),as[k]?=some b->(R.drop i)[k]?=some r->Hx b=some (.lst (r.1.map V.int)),⟨[],rfl,rfl,zero_le _,aM hD _,ak,(fun b hb=>nomatch hb),fun k b r e=>by simp at e⟩,?_,?_,?_⟩
    ·rintro j acc Hx ⟨as,rfl,_,_,sx,Ig,_⟩
     exact⟨cV.of (sx _ _ hq1),Ig⟩
    ·rintro j acc Hx x ⟨as,rfl,hj,U6,sx,Ig,hnew,hat⟩ hx
     have hjr:j<(ls.drop i).length:=by
      have:=(List.getElem?_eq_some_iff.mp hx).1
      rwa [length_map,mG]at this
     have O1:j<(R.drop i).length:=by rw[<-U5.len];exact hjr
     obtain⟨m,hm1,hm2⟩:=U5.at (getElem?_eq_getElem O1)
     rw[u9 hm1]at hx
     cases hx
     have cx:=c.same (s1.trans sx)
     have Hw:m<A.ks.length:=by rw[c.CC];exact(List.getElem?_eq_some_iff.mp hm2).1
     have hb:=cx.hks m A.ks[m] _ (getElem?_eq_getElem Hw) hm2
     refine⟨_,rfl,a,C,A.dx,_,_,rfl,cx.ob,T.cl,T.kn,zY,_,rfl,A.kn,A.ks.map V.ref,m,.ref A.ks[m],rfl,rfl,cV.of cx.hkn,gC (by rw[getElem?_map,getElem?_eq_getElem Hw];rfl),A.ks[m],_,rfl,.inl (cV.of hb),fun l2 hl2=>?_⟩
     have U7:Dd≠l2:=fun zz=>by rw[<-zz,Ig]at hl2;cases hl2
     have hl1:H1 l2=none:=sx.free hl2
     refine⟨by rw[aj U7];exact Ig,by rw[length_map,hj];exact lt_of_lt_of_le (show j<1000001 by rw[length_drop]at O1;omega) (by decide),as++[l2],by rw[map_append];rfl,by rw[length_append,hj];rfl,O1,?_,ak,fun b M6=>?_,fun k' b r e1 e2=>?_⟩
     ·intro y o hy
      have hyD:y≠Dd:=fun zz=>by rw[zz,hD]at hy;cases hy
      rw[aj hyD]
      exact aM hl2 _ _ _ (sx _ _ hy)
     ·rcases mem_append.mp M6 with h|h
      ·exact hnew b h
      ·have:b=l2:=by simpa using h
       rw[this];exact⟨hl1,Ne.symm U7⟩
     ·by_cases hk:k'<as.length
      ·rw[getElem?_append_left hk]at e1
       have Ww:=hat k' b r e1 e2
       rw[aj (hnew b (mem_of_getElem? e1)).2]
       exact aM hl2 _ _ _ Ww
      ·obtain⟨z1,z2⟩:=qu e1 hk
       rw[hj]at z1
       rw[z1,getElem?_eq_getElem O1]at e2
       cases e2
       rw[<-z2,aj (Ne.symm U7)]
       exact ak
    ·rintro acc Hx ⟨as,rfl,hj,U6,sx,Ig,hnew,hat⟩
     refine⟨(by show 2<=sizeLine;decide),fun pt YE=>?_⟩
     have st:=aM YE (.tup [V.int i,V.ref Dd])
     have hlen:as.length=((R.drop i).map (·.1)).length:=by
      rw[hj,length_map,mG,length_map]
      exact U5.len
     have hD0:H2 Dd=none:=s1.free hD
     refine k _ _ ((s1.trans sx).trans st) ?_
     unfold vX
     rw[hcn]
     refine⟨pt,_,rfl,.inl ⟨(s1.trans sx).free YE,.inl ak⟩,_,_,rfl,rfl,_,_,rfl,⟨Dd,_,rfl,.inl ⟨hD0,.inl (st _ _ Ig)⟩,?_⟩,rfl⟩
     have:=tH (K:=K) (P:=fun x=>H2 x=none) (H:=upd Hx pt (.tup [V.int i,V.ref Dd])) hlen (fun b hb=>s1.free (hnew b hb).1) fun k' b ns e1 e2=>by
      rw[getElem?_map]at e2
      cases hr:(R.drop i)[k']? with
      |none=>rw[hr]at e2;cases e2
      |some r=>
       rw[hr]at e2
       cases e2
       exact st _ _ (hat k' b r e1 hr)
     rw[map_map]at this
     exact this
end
end DL.qx
namespace DL.qx
open PySem PySem.Spec PyProof.Rows L2 DL
abbrev EB:Stmt:=inClass (top 32) 0
def VR(i:Int):List (Str×V):=[("none",.int i)]
def Ri(K:'b')(C:Addr):Sp:=fun vs H Q _=>∃(a dx:Addr)(n:Nat),vs=[.ref a,.int n]/\(1<=n/\n<=7)/\H a=some (.ins C dx [])/\(∃o,H dx=some o)/\a≠dx/\
 ∀(H':Hp)(A':Ad)(kn:List RP)(zn wn:Nat)(nu:List (List Key×V)),jg C H' a A' (vW zn wn) n kn (nI []) 2 nu [] [] []->kn[zn]?=some (upTo n,upTo n)->kn[wn]?=some (qX n)->(∀x u,x≠a->H x=some u->x≠dx->H' x=some u)->(∀x∈A'.all,x=dx\/H x=none)->(∀x,H' x=none->H x=none)->Q .non H'
section
variable{P:Program}{w:World}{K:'b'}{mg:Str->Option Value}{base:Heap}
theorem sc0:aA ["self","n"] ["self","n"] (ae EB):=⟨rfl,rfl,rfl,by decide +kernel,rfl,by decide +kernel,by decide +kernel⟩
theorem YF{f C fN:Addr}{fd Mh:FuncData}(F:Bq K "__init__" "Comb.__init__" EB f fd)(T:Nb K mg C)(t:Tb K mg)
  (mN:Meth K C "number_of" fN)(bN:Binds K Mh ["self","row"] [])(GN:b8 P w K mg base lI 3 fN Mh ["self","row"] (CN K C))
  (G_s:lH P w K mg base 1 t.fK t.fM ["n"] bG)(G_h:lH P w K mg base 1 t.yv t.yw ["n"] sE)
  (es:∀n:Nat,n<=7->bG [.int n]=.ok (aI (upTo n)))(eh:∀n:Nat,1<=n/\n<=7->sE [.int n]=.ok (aI (upTo n).reverse))(ivh:∀n:Nat,Iv n (upTo n).reverse (upTo n).reverse)(ivs:∀n:Nat,Iv n (upTo n) (upTo n)):b8 P w K mg base lI 4 f fd ["self","n"] (Ri K C):=by
 refine F.ok sc0 (fun vs H Q E h=>?_) (fun cdv A outer s H vs Q E hr h=>?_)
 ·obtain⟨a,dx,n,rfl,_⟩:=h
  rfl
 ·obtain⟨a,dx,n,rfl,hn,hob,hdx,hne,k⟩:=h
  have hu:=sS hr
  refine⟨_,(aK (mB (pv 0) (uz aL) rfl) (aK (mB (pv 0) sV rfl) (aK (mB (pv 0) (uz aL) rfl) (aK (mB (pv 0) (uz aL) rfl) (aK (mB (pv 0) sV rfl) (aK (mB (pv 0) sV rfl) (aK (mB (pv 0) sV rfl) (aK (mB (pv 0) (uz aL) rfl) (aK (mB (pv 0) (jx (pv 0) T.cl mN GN 'd' bN .nil o9 (ao (eO (E:=fun _ _ _=>False) G_s 'd' (by rfl) t.dz.m t.dz.F.kp t.dz.b .nil lR (ao (pv 1) aL)) aL)) rfl) (b9 (mB (pv 0) (jx (pv 0) T.cl mN GN 'd' bN .nil o9 (ao (eO (E:=fun _ _ _=>False) G_h 'd' (by rfl) t.vh.m t.vh.F.kp t.vh.b .nil lR (ao (pv 1) aL)) aL)) rfl))))))))))),?_⟩
  refine⟨(by show 0<=sizeLine;decide),fun l1 h1=>?_⟩
  obtain⟨ne1,YG,ob1,at1,ZU,Ng⟩:=jR hob h1 (.lst []) "known"
  refine⟨_,rfl,a,C,dx,_,rfl,YG,T.cl,T.kn,(by show 0<1000;decide),?_⟩
  generalize hH1:upd (upd H l1 (.lst [])) a _=H1 at ob1 at1 ZU Ng
  intro l2 h2
  obtain⟨ne2,YH,Yk,at2,O2,Rj⟩:=jR ob1 h2 (.dT []) "numbers"
  refine⟨_,rfl,a,C,dx,_,rfl,YH,T.cl,T.nu,(by show 1<1000;decide),?_⟩
  generalize hH2:upd (upd H1 l2 (.dT [])) a _=H2 at Yk at2 O2 Rj
  refine⟨(by show 0<=sizeLine;decide),fun l3 h3=>?_⟩
  obtain⟨ne3,YJ,Ym,U8,GD,U9⟩:=jR Yk h3 (.lst []) "firsts"
  refine⟨_,rfl,a,C,dx,_,rfl,YJ,T.cl,T.fi,(by show 2<1000;decide),?_⟩
  generalize Nc:upd (upd H2 l3 (.lst [])) a _=H3 at Ym U8 GD U9
  refine⟨(by show 0<=sizeLine;decide),fun l4 h4=>?_⟩
  obtain⟨ne4,YK,ob4,VS,CP,VU⟩:=jR Ym h4 (.lst []) "lasts"
  refine⟨_,rfl,a,C,dx,_,rfl,YK,T.cl,T.la,(by show 3<1000;decide),?_⟩
  generalize hH4:upd (upd H3 l4 (.lst [])) a _=H4 at ob4 VS CP VU
  intro l5 h5
  obtain⟨ne5,YL,ob5,YM,BA,YN⟩:=jR ob4 h5 (.dT []) "shorter"
  refine⟨_,rfl,a,C,dx,_,rfl,YL,T.cl,T.sh,(by show 4<1000;decide),?_⟩
  generalize hH5:upd (upd H4 l5 (.dT [])) a _=H5 at ob5 YM BA YN
  intro l6 h6
  obtain⟨ZV,YQ,ZL,ZW,CQ,ZX⟩:=jR ob5 h6 (.dT []) "longer"
  refine⟨_,rfl,a,C,dx,_,rfl,YQ,T.cl,T.lo,(by show 5<1000;decide),?_⟩
  generalize Nd:upd (upd H5 l6 (.dT [])) a _=H6 at ZL ZW CQ ZX
  intro l7 h7
  obtain⟨ne7,YR,ob7,at7,GF,gr7⟩:=jR ZL h7 (.dT []) "kept"
  refine⟨_,rfl,a,C,dx,_,rfl,YR,T.cl,T.ke,(by show 6<1000;decide),?_⟩
  generalize hH7:upd (upd H6 l7 (.dT [])) a _=H7 at ob7 at7 GF gr7
  refine⟨(by show 0<=sizeLine;decide),fun l8 h8=>?_⟩
  obtain⟨ne8,YS,ZY,at8,O3,gr8⟩:=jR ob7 h8 (.lst []) "line"
  refine⟨_,rfl,a,C,dx,_,rfl,YS,T.cl,T.li,(by show 7<1000;decide),?_⟩
  generalize hH8:upd (upd H7 l8 (.lst [])) a _=H8 at ZY at8 O3 gr8
  have v1:H8 l1=some (.lst []):=(O3 _ _ ne1 (GF _ _ ne1 (CQ _ _ ne1 (BA _ _ ne1 (CP _ _ ne1 (GD _ _ ne1 (O2 _ _ ne1 at1)))))))
  have v2:H8 l2=some (.dT []):=(O3 _ _ ne2 (GF _ _ ne2 (CQ _ _ ne2 (BA _ _ ne2 (CP _ _ ne2 (GD _ _ ne2 at2))))))
  have v3:H8 l3=some (.lst []):=(O3 _ _ ne3 (GF _ _ ne3 (CQ _ _ ne3 (BA _ _ ne3 (CP _ _ ne3 U8)))))
  have v4:H8 l4=some (.lst []):=(O3 _ _ ne4 (GF _ _ ne4 (CQ _ _ ne4 (BA _ _ ne4 VS))))
  have v5:H8 l5=some (.dT []):=(O3 _ _ ne5 (GF _ _ ne5 (CQ _ _ ne5 YM)))
  have v6:H8 l6=some (.dT []):=(O3 _ _ ZV (GF _ _ ZV ZW))
  have v7:H8 l7=some (.dT []):=(O3 _ _ ne7 at7)
  have v8:H8 l8=some (.lst []):=at8
  have kp:∀x u,x≠a->H x=some u->H8 x=some u:=fun x u hn hx=>(O3 _ _ hn (GF _ _ hn (CQ _ _ hn (BA _ _ hn (CP _ _ hn (GD _ _ hn (O2 _ _ hn (ZU _ _ hn hx))))))))
  have gr:∀x,H8 x=none->H x=none:=fun x hx=>(Ng _ (Rj _ (U9 _ (VU _ (YN _ (ZX _ (gr7 _ (gr8 _ hx))))))))
  have f1:H l1=none:=h1
  have f2:H l2=none:=(Ng _ h2)
  have f3:H l3=none:=(Ng _ (Rj _ h3))
  have f4:H l4=none:=(Ng _ (Rj _ (U9 _ h4)))
  have f5:H l5=none:=(Ng _ (Rj _ (U9 _ (VU _ h5))))
  have f6:H l6=none:=(Ng _ (Rj _ (U9 _ (VU _ (YN _ h6)))))
  have f7:H l7=none:=(Ng _ (Rj _ (U9 _ (VU _ (YN _ (ZX _ h7))))))
  have f8:H l8=none:=(Ng _ (Rj _ (U9 _ (VU _ (YN _ (ZX _ (gr7 _ h8)))))))
  have adA:l1≠l2:=az at1 h2
  have adB:l1≠l3:=az (O2 _ _ ne1 at1) h3
  have adC:l2≠l3:=az at2 h3
  have adD:l1≠l4:=az (GD _ _ ne1 (O2 _ _ ne1 at1)) h4
  have adE:l2≠l4:=az (GD _ _ ne2 at2) h4
  have adF:l3≠l4:=az U8 h4
  have adG:l1≠l5:=az (CP _ _ ne1 (GD _ _ ne1 (O2 _ _ ne1 at1))) h5
  have adH:l2≠l5:=az (CP _ _ ne2 (GD _ _ ne2 at2)) h5
  have adI:l3≠l5:=az (CP _ _ ne3 U8) h5
  have adJ:l4≠l5:=az VS h5
  have adK:l1≠l6:=az (BA _ _ ne1 (CP _ _ ne1 (GD _ _ ne1 (O2 _ _ ne1 at1)))) h6
  have adL:l2≠l6:=az (BA _ _ ne2 (CP _ _ ne2 (GD _ _ ne2 at2))) h6
  have adM:l3≠l6:=az (BA _ _ ne3 (CP _ _ ne3 U8)) h6
  have adN:l4≠l6:=az (BA _ _ ne4 VS) h6
  have adO:l5≠l6:=az YM h6
  have adP:l1≠l7:=az (CQ _ _ ne1 (BA _ _ ne1 (CP _ _ ne1 (GD _ _ ne1 (O2 _ _ ne1 at1))))) h7
  have adQ:l2≠l7:=az (CQ _ _ ne2 (BA _ _ ne2 (CP _ _ ne2 (GD _ _ ne2 at2)))) h7
  have adR:l3≠l7:=az (CQ _ _ ne3 (BA _ _ ne3 (CP _ _ ne3 U8))) h7
  have adS:l4≠l7:=az (CQ _ _ ne4 (BA _ _ ne4 VS)) h7
  have adT:l5≠l7:=az (CQ _ _ ne5 YM) h7
  have adU:l6≠l7:=az ZW h7
  have adV:l1≠l8:=az (GF _ _ ne1 (CQ _ _ ne1 (BA _ _ ne1 (CP _ _ ne1 (GD _ _ ne1 (O2 _ _ ne1 at1)))))) h8
  have adW:l2≠l8:=az (GF _ _ ne2 (CQ _ _ ne2 (BA _ _ ne2 (CP _ _ ne2 (GD _ _ ne2 at2))))) h8
  have adX:l3≠l8:=az (GF _ _ ne3 (CQ _ _ ne3 (BA _ _ ne3 (CP _ _ ne3 U8)))) h8
  have adY:l4≠l8:=az (GF _ _ ne4 (CQ _ _ ne4 (BA _ _ ne4 VS))) h8
  have adZ:l5≠l8:=az (GF _ _ ne5 (CQ _ _ ne5 YM)) h8
  have ad0:l6≠l8:=az (GF _ _ ZV ZW) h8
  have ad1:l7≠l8:=az at7 h8
  have vd:∃o,H8 dx=some o:=by
   obtain⟨o,ho⟩:=hdx
   exact⟨o,kp _ _ (Ne.symm hne) ho⟩
  have Rk:∀{l:Addr},H l=none->l≠dx:=fun hl z=>by
   obtain⟨o,ho⟩:=hdx
   rw[<-z,hl]at ho
   cases ho
  have c:jg C H8 a ⟨dx,l1,l2,l3,l4,l5,l6,l7,l8,[]⟩ [] n [] [] 0 [] [] [] []:=by
   refine⟨ZY,vd,?_,v1,rfl,(fun i b p e=>by simp at e),v2,v3,v4,v5,v6,v7,v8,(fun p hp=>by simp at hp),(fun i p e=>by simp at e),(fun r _=>rfl),(fun i k v e=>by cases e),(fun i k v e=>by cases e),(fun i j v e=>by cases e),⟨Nat.le_refl _,Nat.le_refl _,Nat.le_refl _,Nat.le_refl _,Nat.le_refl _⟩,(fun m hm=>by simp at hm)⟩
   show(a::dx::l1::l2::l3::l4::l5::l6::l7::l8::[]).Nodup
   simp only [nodup_cons,mem_cons,not_mem_nil,or_false,not_or,not_false_eq_true,List.nodup_nil,and_true]
   exact⟨⟨hne,Ne.symm ne1,Ne.symm ne2,Ne.symm ne3,Ne.symm ne4,Ne.symm ne5,Ne.symm ZV,Ne.symm ne7,Ne.symm ne8⟩,⟨Ne.symm (Rk f1),Ne.symm (Rk f2),Ne.symm (Rk f3),Ne.symm (Rk f4),Ne.symm (Rk f5),Ne.symm (Rk f6),Ne.symm (Rk f7),Ne.symm (Rk f8)⟩,⟨adA,adB,adD,adG,adK,adP,adV⟩,⟨adC,adE,adH,adL,adQ,adW⟩,⟨adF,adI,adM,adR,adX⟩,⟨adJ,adN,adS,adY⟩,⟨adO,adT,adZ⟩,⟨adU,ad0⟩,ad1⟩
  generalize ZY=ZY at c
  clear YG YH YJ YK YL YQ YR YS
  have VF:∀x∈(⟨dx,l1,l2,l3,l4,l5,l6,l7,l8,[]⟩:Ad).all,x=dx\/H x=none:=fun x hx=>by
   unfold Ad.all Ad.hd at hx
   simp only [append_nil,mem_cons,not_mem_nil,or_false]at hx
   rcases hx with rfl|rfl|rfl|rfl|rfl|rfl|rfl|rfl|rfl
   ·exact .inl rfl
   ·exact .inr f1
   ·exact .inr f2
   ·exact .inr f3
   ·exact .inr f4
   ·exact .inr f5
   ·exact .inr f6
   ·exact .inr f7
   ·exact .inr f8
  generalize (⟨dx,l1,l2,l3,l4,l5,l6,l7,l8,[]⟩:Ad)=A at c VF
  refine⟨_,rfl,a,A.dx,_,rfl,c.ob,rfl,_,rfl,fun _=>True,[.int n],⟨_,_,rfl,rfl,rfl⟩,?_⟩
  rw[es n hn.2]
  intro q ws H9 s9 hq9 hw9 iw9
  have ew:=gb iw9
  subst ew
  have c9:=c.same s9
  have nF:∀{Hx Hy:Hp}{Ax:Ad}{y:Addr}{exx:List (Str×V)}{knn:List RP}{lnn:List Int}{BB:Nat}{nn ss ll kk:List (List Key×V)},jg C Hx a Ax exx n knn lnn BB nn ss ll kk->Hx y=none->y∉a::Ax.all:=fun cx hy hx=>by
   obtain⟨o,ho⟩:=cx.there hx
   rw[hy]at ho
   cases ho
  refine⟨a,A,[],n,[],[],0,[],[],[],[],(upTo n,upTo n),.ref q,rfl,c9,hn.2,by decide,ivs n,⟨q,_,rfl,.inl ⟨nF (Hy:=H9) c hq9,.inl hw9⟩,cF _⟩,fun i1 BW A1 YA YB c10 hi1 Bf VP=>?_⟩
  refine⟨_,rfl,a,C,A1.dx,_,rfl,c10.ob,T.cl,T.no,(by show 8<1000;decide),?_⟩
  have ZZ:=c10.QW (VR i1)
  have YT:jd H8 (upd BW a (.ins C A1.dx (wy A1++(VR i1)))) (a::A.all) (a::A1.all):=((jd.same s9 _).trans Bf).trans (jd.upd mem_cons_self _)
  rw[show kO ("none":Str) (.int (i1:Int)) (wy A1++[])=wy A1++(VR i1)from rfl]
  generalize upd BW a (.ins C A1.dx (wy A1++(VR i1)))=VC at ZZ YT
  refine⟨_,rfl,a,A1.dx,_,rfl,ZZ.ob,rfl,_,rfl,fun _=>True,[.int n],⟨_,_,rfl,rfl,rfl⟩,?_⟩
  rw[eh n hn]
  intro q2 ws2 H12 JS ad2 ad3 ad4
  have ew2:=gb ad4
  subst ew2
  have c12:=ZZ.same JS
  refine⟨a,A1,(VR i1),n,[]++YA,[],1,YB,[],[],[],qX n,.ref q2,rfl,c12,hn.2,by decide,ivh n,⟨q2,_,rfl,.inl ⟨nF (Hy:=H12) ZZ ad2,.inl ad3⟩,cF _⟩,fun i2 H13 A2 mo2 xm c13 hi2 EA VO=>?_⟩
  refine⟨_,rfl,a,C,A2.dx,_,rfl,c13.ob,T.cl,T.wh,(by show 9<1000;decide),?_⟩
  have c14:=c13.QW (vW i1 i2)
  rw[show kO ("whole":Str) (.int (i2:Int)) (wy A2++(VR i1))=wy A2++vW i1 i2 from rfl]
  have Va:jd H8 (upd H13 a (.ins C A2.dx (wy A2++vW i1 i2))) (a::A.all) (a::A2.all):=((YT.trans (jd.same JS _)).trans EA).trans (jd.upd mem_cons_self _)
  refine k _ A2 ([]++YA++mo2) i1 i2 xm c14 (cy hi1) hi2 (fun x u hx h1 h2=>?_) (fun x hx=>?_) (fun x hx=>gr x (Va.gr x hx))
  ·refine Va.kp x u (fun hm=>?_) (kp x u hx h1)
   rcases mem_cons.mp hm with z|z
   ·exact hx z
   ·rcases VF x z with z|z
    ·exact h2 z
    ·rw[z]at h1;cases h1
  ·rcases Va.nw x (mem_cons_of_mem _ hx)with z|z
   ·rcases mem_cons.mp z with z|z
    ·rw[z]at hx
     exact absurd hx (nodup_cons.mp c14.nd).1
    ·exact VF x z
   ·exact .inr (gr x z)
end
end DL.qx
namespace DL.qx
open PySem PySem.Spec PyProof.Rows L2 DL
theorem Vb{α:Type}(r:R α)(c:Str):r.ne≠.err c:=by cases r<;>exact fun z=>nomatch z
structure CbM(P:Program)(w:World)(K:'b')(mg:Str->Option Value)(base:Heap)(C:Addr) where
 fI:Addr
 dI:FuncData
 fP:Addr
 dP:FuncData
 fT:Addr
 dT:FuncData
 M:Mk K C fI
 bI:Binds K dI ["self","n"] []
 GI:b8 P w K mg base lI 4 fI dI ["self","n"] (Ri K C)
 mP:Meth K C "put" fP
 bP:Binds K dP ["self","row"] []
 GP:b8 P w K mg base lI 7 fP dP ["self","row"] (Rf K C)
 mT:Meth K C "form_told" fT
 bT:Binds K dT ["self"] []
 GT:b8 P w K mg base lI 1 fT dT ["self"] (Rh K C)
section
variable{P:Program}{w:World}{K:'b'}{mg:Str->Option Value}{base:Heap}
theorem Vc{C:Addr}(T:Nb K mg C)(Z:CbM P w K mg base C)(t:Tb K mg)(G_r:VJ P w K mg base 3 t.dm t.dq ["steps"] bx):
  Ok P w K mg base 9 t.gE t.gF ["n","steps"] eu:=by
 refine t.j0.F.ok eU (fun vs H Q E h=>?_) (fun cdv A outer s H vs Q E hr h=>?_)
 ·obtain⟨Pa,ds,i,h⟩:=h
  match ds,h with
  |[.int n,d],h=>
   obtain⟨v,r,rfl,_,v',r',rfl,_,e⟩:=i
   have e':r'=[]:=e
   subst e'
   rfl
 ·obtain⟨Pa,ds,i,h⟩:=h
  obtain⟨n,d,rfl⟩:∃n d,ds=[.int n,d]:=by
   match ds,h with
   |[.int n,d],h=>exact⟨n,d,rfl⟩
  obtain⟨v0,r0,rfl,i0,v1,r1,rfl,i1,e2⟩:=i
  have Vy:r1=[]:=e2
  have e0':v0=.int n:=i0
  subst Vy e0'
  cases em:eu [.int n,d]with
  |bad=>rw[em]at h;exact h.elim
  |err c=>exact absurd em (Vb _ c)
  |ok ad5=>
  rw[em]at h
  have em':R.bind (bx [d]) (fun rs=> @ite _ ((1<=n/\n<=7)/\rs.length<=40/\∀r∈rs,bp n.toNat r) (propDecidable _) (Gv [.val (.int n),.val d,.no,.no,.val (vX n.toNat (iP n.toNat rs))]>=>ah) .bad)=.ok ad5:=R.bO em
  obtain⟨rs,hrs,YU⟩:=R.dZ em'
  by_cases hg:(1<=n/\n<=7)/\rs.length<=40/\∀r∈rs,bp n.toNat r
  case neg=>
   rw[if_neg hg]at YU
   cases YU
  case pos=>
  rw[if_pos hg]at YU
  obtain⟨hn,aiA,YV⟩:=hg
  obtain⟨m,rfl⟩:∃m:Nat,n=m:=⟨n.toNat,by omega⟩
  rw[toNat_natCast]at YU YV
  have hu:=sS hr
  refine⟨_,aK (dC (i:=2) eU.nd rfl (Or.inl rfl) (NF Z.M Z.GI 'd' (by rfl) T.mgC Z.bI .nil o9 (ao (pv 0) aL)))
   (aK (Jk PassesOwn.never rfl (wM (eO (E:=fun _ _ _=>False) G_r 'd' (by rfl) t.b7.m t.b7.F.kp t.b7.b .nil lR (ao (pv 1) aL))) (wL (i:=3) eU.nd rfl (Or.inl rfl))
    (b9 (fX (jx (pv 2) T.cl Z.mP Z.GP 'd' Z.bP .nil o9 (ao (pv 3) aL)) rfl)))
   (aK (dC (i:=4) eU.nd rfl (Or.inl rfl) (Jw (pv 2) T.cl Z.mT Z.GT 'd' Z.bT .nil o9))
   (aW (cZ (E:=EN) (xE (au (bc fj bW (PE.aB (AF (nD 4) (PE.aB cI))) (PE.aB (XD rfl t.Mc (PE.lK (p8 (Hz (N:=["step"]) (nt:=1) (caps:=[]) (ae jt) ["n","steps","comb","row","found"] (by decide +kernel)) rfl (xH (iL (nD 1))) (Kp.ok (uO (nt:=1) 0)) (fun _ _ _ _ _=>(uu 0 (by show Nodup (["step"]:List Str);decide +kernel))) (fun _ _ _ _ _=>PX) (fun _ _ _ _ _=>(AF (nD 0) (PE.aB cI)))))))) (au (AF (nD 4) (PE.aB cI)) bw))))))),?_⟩
  refine⟨_,rfl,fun x dx hx hdx hne=>?_⟩
  refine⟨x,dx,m,rfl,by omega,ak,⟨_,by rw[aj hne];exact ak⟩,Ne.symm hne,fun H1 A1 Z0 zn wn YB c1 hz1 hw1 ZU nw1 Ng=>⟨rfl,?_⟩⟩
  have Xu:aN H H1:=fun y u hy=>by
   have hyx:y≠x:=fun z=>by rw[z,hx]at hy;cases hy
   have hyd:y≠dx:=fun z=>by rw[z,hdx]at hy;cases hy
   exact ZU y u hyx (by rw[aj hyx,aj hyd];exact hy) hyd
  have nF1:∀y∈x::A1.all,H y=none:=fun y hy=>by
   rcases mem_cons.mp hy with rfl|hy
   ·exact hx
   ·rcases nw1 y hy with rfl|hy
    ·exact hdx
    ·by_cases z1:y=x
     ·rw[z1];exact hx
     ·by_cases z2:y=dx
      ·rw[z2];exact hdx
      ·rw[aj z1,aj z2]at hy;exact hy
  refine⟨_,rfl,fun _=>True,[d],⟨_,_,rfl,(i1.same Xu).weak,rfl⟩,?_⟩
  rw[hrs]
  intro la as H2 JS YW
  have c2:=c1.same JS
  have hlen:=YW.len
  have asF:∀b∈la::as,b∉x::A1.all:=fun b hb hF=>by
   obtain⟨o,ho⟩:=c1.there hF
   rw[YW.fr b hb]at ho
   cases ho
  refine⟨la,rfl,⟨_,cV.of YW.ha⟩,Jl (K:=K) (a:=la) (xs:=as.map V.ref) (fun i σ Hx=>∃(A2:Ad)(mo:List RP)(ls:List Nat)(B2:Nat)(xm yG lo2 Nf:List (List Key×V))(rv:Option V),σ=[some (.int (m:Int)),some v1,some (.ref x),rv,none]/\jg C Hx x A2 (vW zn wn) m (Z0++mo) (nI ls) B2 xm yG lo2 Nf/\
    di (Z0++mo) ls (iP m (rs.take i))/\B2<=2+402*41*i/\i<=rs.length/\jd H2 Hx (x::A1.all) (x::A2.all)) ⟨A1,[],[],2,YB,[],[],[],none,rfl,by rw[append_nil];exact c2,rfl,by omega,zero_le _,jd.refl _ _⟩ ?_ ?_ ?_⟩
  ·rintro i σ Hx hi ⟨A2,mo,ls,B2,xm,yG,lo2,Nf,rv,rfl,c3,hL,hB,hir,ux⟩
   exact cV.of (ux.kp la _ (asF la (by simp)) YW.ha)
  ·rintro i y σ Hx hy ⟨A2,mo,ls,B2,xm,yG,lo2,Nf,rv,rfl,c3,hL,hB,hir,ux⟩
   have hia:i<as.length:=by
    have:=(List.getElem?_eq_some_iff.mp hy).1
    rwa [length_map]at this
   have YX:i<rs.length:=by rw[<-hlen];exact hia
   rw[getElem?_map,getElem?_eq_getElem hia]at hy
   cases hy
   have hr1:rs[i]?=some rs[i]:=getElem?_eq_getElem YX
   have hb2:=YW.it i as[i] rs[i] (getElem?_eq_getElem hia) hr1
   have hbF:=asF as[i] (mem_cons_of_mem _ (getElem_mem _))
   have hb3:=ux.kp _ _ hbF hb2
   have ad7:as[i]∉x::A2.all:=fun hF=>by
    rcases ux.nw _ hF with z|z
    ·exact hbF z
    ·rw[hb2]at z;cases z
   have hcl:=tW m (rs.take i) []
   have O4:(iP m (rs.take i)).length<=40:=by
    unfold iP
    rw[length_nil,length_take]at hcl
    omega
   refine⟨_,rfl,x,A2.dx,_,rfl,c3.ob,rfl,_,rfl,x,A2,zn,wn,m,Z0++mo,ls,iP m (rs.take i),B2,xm,yG,lo2,Nf,(rs[i],kY rs[i]),.ref as[i],rfl,c3,hL,cy hz1,by omega,by omega,by omega,jr (YV _ (getElem_mem _)),⟨as[i],_,rfl,.inl ⟨ad7,.inl hb3⟩,cF _⟩,fun H4 A4 GB ls4 Ys Yt lo4 ke4 c4 hL4 U1=>?_⟩
   rw[List.append_assoc]at c4 hL4
   exact⟨A4,mo++GB,ls4,_,Ys,Yt,lo4,ke4,_,rfl,c4,by rw[HY hr1];exact hL4,by omega,YX,ux.trans U1⟩
  ·rintro σ Hx ⟨A2,mo,ls,B2,xm,yG,lo2,Nf,rv,rfl,c3,hL,hB,hir,ux⟩
   rw[length_map,hlen,take_length]at hL
   have hcl:=tW m rs []
   have O4:(iP m rs).length<=1000:=by
    unfold iP
    rw[length_nil]at hcl
    omega
   refine⟨_,rfl,x,A2.dx,_,rfl,c3.ob,rfl,x,A2,zn,wn,m,Z0++mo,ls,iP m rs,B2,xm,yG,lo2,Nf,rfl,c3,hL,cy hw1,O4,fun fv H5 s5 i5=>?_⟩
   have sHx:aN H Hx:=fun y u hy=>ux.kp y u (fun hF=>by rw[nF1 y hF]at hy;cases hy) (JS _ _ (Xu _ _ hy))
   have sH5:=sHx.trans s5
   refine⟨⟨Pa,H⟩,[.val (.int (m:Int)),.val d,.no,.no,.val (vX m (iP m rs))],[],⟨rfl,sH5,fun i dd e=>?_,fun i xs e=>?_,fun i j xs ys b e=>?_,(fun b hb=>nomatch hb),fun i v e=>?_,DQ.none fun i w e=>?_⟩,?_⟩
   ·match i with
    |0=>cases e;exact⟨_,rfl,rfl⟩
    |1=>cases e;exact⟨_,rfl,Is.ext ⟨fun a o p _=>⟨.inl p,fun z=>nomatch z⟩,fun a o _ q=>sH5 a o q⟩ _ _ i1⟩
    |2=>cases e
    |3=>cases e
    |4=>cases e;exact⟨_,rfl,Is.ext ⟨fun a o p _=>⟨.inr (sHx.free p),fun z=>nomatch z⟩,fun a o _ q=>q⟩ _ _ i5⟩
    |i+5=>cases e
   ·match i with
    |0=>cases e
    |1=>cases e
    |2=>cases e
    |3=>cases e
    |4=>cases e
    |i+5=>cases e
   ·match i with
    |0=>cases e
    |1=>cases e
    |2=>cases e
    |3=>cases e
    |4=>cases e
    |i+5=>cases e
   ·match i with
    |0=>cases e
    |1=>cases e
    |2=>cases e
    |3=>cases e
    |4=>cases e
    |i+5=>cases e
   ·match i with
    |0=>cases e
    |1=>cases e
    |2=>cases e
    |3=>cases e
    |4=>cases e
    |i+5=>cases e
   ·obtain⟨o,ho,hv⟩:=R.dZ YU
    obtain⟨dd,hdd,ho2⟩:=R.dZ (show R.bind _ (fun v1=>R.ok (Out.rt v1))=.ok o from ho)
    cases ho2
    cases hv
    exact sX ho fun v H' sH' Xb=>h v H' sH' (Is.ext ⟨fun a o p _=>p.1,fun a o _ q=>q⟩ _ _ Xb)
end
end DL.qx
namespace DL
open PySem PySem.Spec PyProof.Rows L2
def gB:List Int->List Int->Option (List Int)
 |[],o=>some o
 |k::w,o=>if k<0\/aa o k.toNat<aa o (k-1).toNat then none else gB w (jc o (k-1).toNat)
theorem kL{n a:Nat}{o w:List Int}:gB (((a:Int)+1)::w) o=if aa o (a+1)<aa o a then none else gB w (jc o a):=by
 conv=>lhs;unfold gB
 rw[show((a:Int)+1).toNat=a+1 by omega,show((a:Int)+1-1).toNat=a by omega]
 by_cases h:aa o (a+1)<aa o a
 ·rw[if_pos (.inr h),if_pos h]
 ·rw[if_neg (by rintro(z|z);omega;exact h z),if_neg h]
def Ps(n:Nat)(w:List Int):Prop:=∀k∈w,∃a:Nat,k=(a:Int)+1/\a+1<n
def mZ(w o:List Int):List Int:=w.foldl (fun o k=>jc o (k-1).toNat) o
theorem GG(f:Int->Int):∀(l:List Int)(a:Nat),jc (l.map f) a=(jc l a).map f
 |[],a=>by cases a<;>rfl
 |[x],0=>rfl
 |[x],a+1=>by cases a<;>rfl
 |x::y::l,0=>rfl
 |x::y::l,a+1=>by
  show jc (f x::map f (y::l)) (a+1)=_
  rw[vV,vV,GG f (y::l) a]
  rfl
theorem Mn{n a:Nat}(h:a+1<n):jc (upTo n) a=(upTo n).map (sg a):=by
 refine cH (by rw[jB,length_map]) fun j hj=>?_
 rw[jB,aw]at hj
 have e:=gA (r:=upTo n) (a:=a) (p:=j) (by rw[aw];exact hj)
 unfold Dt at e
 rw[e,nJ _ _ (by rw[aw];exact h),aO hj]
 unfold sg
 by_cases h1:j=a
 ·rw[if_pos h1,aO 'a',if_pos (show(j:Int)=a by omega)]
  omega
 ·rw[if_neg h1,if_neg (show¬(j:Int)=a by omega)]
  by_cases h2:j=a+1
  ·rw[if_pos h2,aO 'a',if_pos (show(j:Int)=a+1 by omega)]
  ·rw[if_neg h2,if_neg (show¬(j:Int)=a+1 by omega)]
theorem Bg(f:Int->Int):∀(w o:List Int),mZ w (o.map f)=(mZ w o).map f
 |[],o=>rfl
 |k::w,o=>by
  show mZ w (jc (o.map f) (k-1).toNat)=(mZ w (jc o (k-1).toNat)).map f
  rw[GG,Bg f w]
theorem pN(n:Nat):Iv n (upTo n) (upTo n):=⟨aw n,aw n,fun p hp=>by rw[aO hp,toNat_natCast];exact⟨by omega,by omega,aO hp⟩,fun p hp=>by rw[aO hp,toNat_natCast];exact⟨by omega,by omega,aO hp⟩⟩
theorem EC{n:Nat}:∀w:List Int,Ps n w->Iv n (mZ w.reverse (upTo n)) (mZ w (upTo n))
 |[],_=>pN n
 |k::w,h=>by
  obtain⟨a,rfl,ha⟩:=h k (by simp)
  have ih:=EC w fun x hx=>h x (by simp[hx])
  rw[reverse_cons]
  have e1:mZ (((a:Int)+1)::w) (upTo n)=Dt (mZ w (upTo n)) a:=by
   show mZ w (jc (upTo n) ((a:Int)+1-1).toNat)=_
   rw[show((a:Int)+1-1).toNat=a by omega,Mn ha,Bg]
   rfl
  have e2:mZ (w.reverse++[(a:Int)+1]) (upTo n)=jc (mZ w.reverse (upTo n)) a:=by
   unfold mZ
   rw[foldl_append]
   show jc _ ((a:Int)+1-1).toNat=_
   rw[show((a:Int)+1-1).toNat=a by omega]
  rw[e1,e2]
  exact(ih.symm.step ha).symm
theorem Rl{n:Nat}{o s:List Int}(h:Iv n o s){a:Nat}(ha:a+1<n):aa o a≠aa o (a+1):=fun e=>by
 have:=h.symm.IZ (v:=a) (w:=a+1) 'a' ha e
 omega
theorem GH{n:Nat}{o s:List Int}(h:Iv n o s){a:Nat}(ha:a+1<n):iN (jc o a)=iN o+1/\aa o a<aa o (a+1)\/iN (jc o a)+1=iN o/\aa o (a+1)<aa o a:=by
 have e:=wZ o a [] (by rw[h.lr];exact ha)
 have d:=Rl h ha
 unfold iN
 by_cases c:aa o a<aa o (a+1)
 ·rw[if_neg 'a',if_pos c]at e
  exact .inl ⟨by omega,c⟩
 ·rw[if_pos 'a',if_neg c]at e
  exact .inr ⟨by omega,by omega⟩
theorem qE{n:Nat}:∀(w o s z:List Int),Ps n w->Iv n o s->gB w o=some z->z=mZ w o/\iN z=iN o+w.length
 |[],o,s,z,_,_,h=>by cases h;exact⟨rfl,rfl⟩
 |k::w,o,s,z,hw,hi,h=>by
  obtain⟨a,rfl,ha⟩:=hw k (by simp)
  rw[kL (n:=n)]at h
  split at h
  ·cases h
  ·rename_i hc
   obtain⟨e1,e2⟩:=qE w (jc o a) (Dt s a) z (fun x hx=>hw x (by simp[hx])) (hi.symm.step ha).symm h
   have:=GH hi ha
   refine⟨?_,by rw[e2,length_cons];omega⟩
   rw[e1]
   show _=mZ w (jc o ((a:Int)+1-1).toNat)
   rw[show((a:Int)+1-1).toNat=a by omega]
theorem CS{n:Nat}:∀(w o s:List Int),Ps n w->Iv n o s->iN (mZ w o)<=iN o+w.length/\(iN (mZ w o)=iN o+w.length->gB w o=some (mZ w o))
 |[],o,s,_,_=>⟨Nat.le_refl _,fun _=>rfl⟩
 |k::w,o,s,hw,hi=>by
  obtain⟨a,rfl,ha⟩:=hw k (by simp)
  have e0:mZ (((a:Int)+1)::w) o=mZ w (jc o a):=by
   show mZ w (jc o ((a:Int)+1-1).toNat)=_
   rw[show((a:Int)+1-1).toNat=a by omega]
  obtain⟨e1,e2⟩:=CS w (jc o a) (Dt s a) (fun x hx=>hw x (by simp[hx])) (hi.symm.step ha).symm
  rw[kL (n:=n),e0,length_cons]
  rcases GH hi ha with⟨c1,c2⟩|⟨c1,c2⟩
  ·exact⟨by omega,fun h=>by rw[if_neg 'a'];exact e2 'a'⟩
  ·exact⟨by omega,fun h=>by omega⟩
theorem O5:∀n:Nat,n<8->iN (upTo n)=0:=by decide +kernel
theorem Mp{n:Nat}{w z:List Int}(hw:Ps n w)(h:gB w (upTo n)=some z):gB w.reverse (upTo n)=some (mZ w.reverse (upTo n)):=by
 obtain⟨e1,e2⟩:=qE w _ _ z hw (pN n) h
 refine(CS w.reverse (upTo n) (upTo n) (fun k hk=>hw k (by simpa using hk)) (pN n)).2 ?_
 rw[En (EC w hw),<-e1,e2,length_reverse]
theorem GJ{n:Nat}{w z:List Int}(hw:Ps n w)(h:gB w (upTo n)=some z):Iv n z (mZ w.reverse (upTo n)):=by
 rw[(qE w _ _ z hw (pN n) h).1]
 exact(EC w hw).symm
theorem z9:∀(w o:List Int)(k:Int),gB (w++[k]) o=(gB w o).bind fun z=>gB [k] z
 |[],o,k=>rfl
 |x::w,o,k=>by
  rw[cons_append]
  unfold gB
  split
  ·rfl
  ·exact z9 w _ k
theorem Iv.nd {n:Nat}{r s:List Int}(h:Iv n r s):s.Nodup:=by
 unfold Nodup
 rw[List.pairwise_iff_getElem]
 intro i j hi hj hij e
 rw[h.ls]at hi hj
 have e2:aa s i=aa s j:=by
  unfold aa
  rw[getElem?_eq_getElem,getElem?_eq_getElem]
  ·exact e
 have:=h.IZ hi hj e2
 omega
theorem yH{n:Nat}{r s:List Int}(h:Iv n r s):bp n r:=by
 refine(List.perm_ext_iff_of_nodup h.symm.nd (yc n)).mpr fun x=>?_
 rw[mem_upTo]
 constructor
 ·intro hx
  obtain⟨p,hp,rfl⟩:=getElem_of_mem hx
  rw[h.lr]at hp
  have:=h.rs p hp
  rw[show aa r p=r[p]by
   unfold aa
   rw[getElem?_eq_getElem]
   rfl]at this
  exact⟨this.1,this.2.1⟩
 ·rintro⟨h0,h1⟩
  have:=(h.idx (v:=x.toNat) 'a').1
  rwa [show((x.toNat:Nat):Int)=x by omega]at this
def fl(n:Nat)(l:List Int):List Int:=l.map fun x=>(n:Int)-1-x
theorem oX(n:Nat)(l:List Int):(fl n l).length=l.length:=length_map _
theorem uo{n:Nat}{l:List Int}{p:Nat}(h:p<l.length):aa (fl n l) p=(n:Int)-1-aa l p:=by
 have:=dh h
 unfold fl
 conv=>lhs;unfold aa
 rw[getElem?_map,this]
 rfl
theorem fV{l:List Int}{p:Nat}(h:p<l.length):aa l.reverse p=aa l (l.length-1-p):=by
 unfold aa
 rw[getElem?_reverse h]
theorem Rm(n:Nat):fl n (upTo n).reverse=upTo n:=by
 refine cH (by rw[oX,length_reverse]) fun p hp=>?_
 rw[oX,length_reverse,aw]at hp
 rw[uo (by rw[length_reverse,aw];exact hp),fV (by rw[aw];exact hp),aw,aO 'a',aO hp]
 omega
theorem Mq{n:Nat}{r:List Int}(h:bp n r):bp n (fl n r):=by
 have e:fl n (upTo n)=(upTo n).reverse:=by
  rw[<-Rm n]
  unfold fl
  rw[map_reverse,reverse_reverse,<-map_reverse]
  congr 1
  have:=Rm n
  unfold fl at this
  rw[this]
 exact(Perm.map _ h).trans (by
  show(fl n (upTo n)).Perm _
  rw[e]
  exact reverse_perm _)
theorem GK{n:Nat}{r:List Int}(h:bp n r):bp n r.reverse:=(reverse_perm r).trans h
theorem ig(n:Nat)(hn:n<=7):bG [.int n]=.ok (aI (upTo n)):=by
 unfold bG xZ
 simp_all
 rw[jm _ 'a',toNat_natCast,g4]
 dsimp [jM]
theorem Ih{n:Nat}{r s:List Int}(h:Iv n r s)(hn:n<=7):tQ [.lst (aI r)]=.ok (aI (fl n s)):=by
 unfold tQ F4
 simp_all
 rw[qV h hn]
 dsimp [eZ]
 rw[sF (fun k=>(n:Int)-1-k) s fun k _=>⟨_,dA _ _ _,rfl,by
  unfold ya jf
  dsimp [bf,h.lr]⟩]
 dsimp [R.gU]
 rw[dg (by rw[length_map,h.ls];omega)]
 dsimp [jM]
 rfl
theorem ED{n:Nat}{r:List Int}(h:r.length=n)(hn:n<=7):gx [.lst (aI r)]=.ok (aI (fl n r.reverse)):=by
 unfold gx rO
 simp_all [AM,eZ]
 rw[sF (fun k=>(n:Int)-1-k) r.reverse fun k _=>⟨_,dA _ _ _,rfl,by
  unfold nv jf
  dsimp [bf,h]⟩]
 dsimp [R.gU]
 rw[dg (by rw[length_map,length_reverse];omega)]
 dsimp [jM]
 rfl
theorem Mr{b:D->DE->R Out}{x:D}{xs:List D}{e e':DE}(h:b x e=.ok (.nx e')):cW b (x::xs) e=cW b xs e':=by
 rw[cW,h];rfl
theorem vo(gs:List (List Int))(c:List Int):B9 (gs++[c]) (.int (-1))=.ok (gs.length,c):=by
 have hk:pV (gs++[c]).length (-1)=some gs.length:=by
  unfold L2.pV
  rw[if_neg (by decide),length_append,length_singleton,if_pos 'a']
  congr 1
  omega
 have hg:(gs++[c])[gs.length]?=some c:=by simp
 unfold B9
 simp_all only [hk,hg]
theorem GO{ix:Nat}{env:DE}{nss:List (List Int)}{k:Nat}{l:List Int}{v:Int}(h:l.length<1000):D7 ix env nss (k,l) (.int v)=.ok (.nx (env.set ix (.deep (Ct.ls (nss.set k (l++[v])))))):=if_pos (lt_of_lt_of_le h (by decide))
theorem GQ{ix:Nat}{env:DE}{nss:List (List Int)}{ns:List Int}(h:nss.length<1000):KI ix env nss ns=.ok (.nx (env.set ix (.deep (Ct.ls (nss++[ns]))))):=if_pos (lt_of_lt_of_le h (by decide))
theorem lB(nss:List (List Int))(r:DE):gR 0 (.deep (Ct.ls nss)::r)=.ok nss:=rfl
theorem lC(i:Nat)(a:Sl)(r:DE):gR (i+1) (a::r)=gR i r:=rfl
theorem Ms(nss:List (List Int))(r:DE):aP 0 (.deep (Ct.ls nss)::r)=.ok (.lst (nss.map fun ns=>.lst (aI ns))):=rfl
theorem Vd{n:Nat}(hn:n<=7){o:List Int}(ho:o.length=n)(s0 s1 s3:Sl){a:Nat}(ha:a+1<n)(hc:¬aa o (a+1)<aa o a):lX (.int ((a:Int)+1)) [s0,s1,.own (aI o),s3]=.ok (.nx [s0,s1,.own (aI (jc o a)),.val (.int ((a:Int)+1))]):=by
 unfold lX
 have h0:¬(a:Int)+1<0:=by omega
 simp_all only [dA,mS,mD,mF,eI,aJ,reduceAdd,reduceSub,reduceEqDiff,reduceIte,ah,ai,aC,aD,aE,aF,h0,decide_false]
 rw[ed 'a' 'a',ed 'a' 'a',show((a:Int)+1-1).toNat=a by omega,show((a:Int)+1).toNat=a+1 by omega]
 dsimp [hc,decide_false]
 rw[uW 'a' 'a']
 dsimp
theorem CT{n:Nat}(hn:n<=7)(s0 s1:Sl):∀(w o z:List Int)(s3:Sl),Ps n w->o.length=n->gB w o=some z->∃s3',cW lX (aI w) [s0,s1,.own (aI o),s3]=.ok (.nx [s0,s1,.own (aI z),s3'])
 |[],o,z,s3,_,_,h=>by cases h;exact⟨s3,rfl⟩
 |k::w,o,z,s3,hv,ho,h=>by
  obtain⟨a,rfl,ha⟩:=hv k (by simp)
  rw[kL (n:=n)]at h
  split at h
  ·cases h
  ·rename_i hc
   rw[<-jN,Mr (Vd hn ho s0 s1 s3 ha hc)]
   exact CT hn s0 s1 w (jc o a) z _ (fun x hx=>hv x (by simp[hx])) (by rw[jB,ho]) h
theorem Aa{n:Nat}(hn:n<=7){w z:List Int}(hv:Ps n w)(h:gB w (upTo n)=some z):nC [.int n,.lst (aI w)]=.ok (aI z):=by
 unfold nC Co
 simp_all
 rw[ig n hn]
 dsimp
 obtain⟨s3,e⟩:=CT hn (.val (.int n)) (.val (.lst (aI w))) w (upTo n) z .no hv (aw n) h
 rw[e]
 dsimp [jM]
def kg(l:List Int)(k:Int):List Int:=if l.getLast?=some (-k)then l.dropLast else l++[k]
def jS(s w:List Int):List Int:=w.foldl kg s
theorem Mt(s a b:List Int):jS s (a++b)=jS (jS s a) b:=foldl_append
theorem yI:∀(w s:List Int),(jS s w).length<=s.length+w.length
 |[],s=>by simp[jS]
 |k::w,s=>by
  have:=yI w (kg s k)
  show(jS (kg s k) w).length<=_
  have h2:(kg s k).length<=s.length+1:=by
   unfold kg
   split
   ·rw[List.length_dropLast];omega
   ·simp
  rw[length_cons];omega
theorem EE(l:List Int):iC l (-1)=l.getLast?:=by
 rw[List.getLast?_eq_getElem?]
 unfold L2.iC L2.pV
 rw[if_neg (by decide)]
 cases l with
 |nil=>rfl
 |cons x r=>
  rw[if_pos (by simp;omega)]
  show(x::r)[(-1+((x::r).length:Int)).toNat]?=_
  congr 1
  simp;omega
theorem EF(w:List Int)(hw:w.length<=100000):nq [.lst (aI w)]=.ok (aI (jS [] w)):=by
 unfold nq zT
 simp_all
 obtain⟨s',e,hj⟩:=sj (S:=List Int×Sl) (b:=oA) (fun i s=>s.1=jS [] (w.take i))
  (fun s=>[.val (.lst (aI w)),.own (aI s.1),s.2]) (aI w) 0 ([],.no) rfl (by
   rintro j ⟨l,s2⟩ x hs hx
   obtain⟨k,hk,rfl⟩:=AZ hx
   rw[zero_add]at hs⊢
   have IW:l=jS [] (w.take j):=hs
   have ZD:=yI (w.take j) []
   rw[<-IW,length_take]at ZD
   simp -implicitDefEqProofs only [length_nil]at ZD
   refine⟨(kg l k,.val (.int k)),?_,by show kg l k=_;rw[Cg hk,Mt,IW];rfl⟩
   unfold oA kg
   simp_all only [dA,reduceIte,ah,ai,aC,aD,aE,aF,bf]
   cases l with
   |nil=>
    simp_all only [length_nil,reduceIte,ah,ai,aC,aD,aE,aF,Int.natCast_zero,Int.lt_irrefl,decide_false,List.getLast?_nil]
    rw[FP (by simp[aI])]
    rfl
   |cons y r=>
    have h0:(0:Int)<((y::r).length:Nat):=by simp
    generalize hyr:y::r=l at*
    simp_all only [h0,decide_true,reduceIte,ah,ai,aC,aD,aE,aF]
    rw[tj,EE]
    cases hq:l.getLast? with
    |none=>rw[<-hyr]at hq;simp at hq
    |some z=>
     simp_all only [map_some,reduceIte,ah,ai,aC,aD,aE,aF]
     by_cases hz:z= -k
     ·have Zv:(z== -k)=true:=by rw[beq_iff_eq];exact hz
      subst hz
      simp_all only [beq_self_eq_true,reduceIte,ah,ai,aC,aD,aE,aF]
      rw[N9 (by rw[bf];omega)]
      dsimp
      show _=R.ok (Out.nx [_,Sl.own (aI l.dropLast),_])
      unfold aI
      rw[map_dropLast]
     ·have Zv:(z== -k)=false:=beq_false_of_ne hz
      have hz2:¬(some z=some (-k)):=fun e=>hz (Option.some.inj e)
      simp_all only [Zv,reduceIte,ah,ai,aC,aD,aE,aF]
      rw[FP (by rw[bf];omega),if_neg hz2]
      dsimp
      unfold aI
      rw[map_append]
      rfl)
 obtain⟨l,s2⟩:=s'
 rw[zero_add,bf,take_length]at hj
 have Bx:l=jS [] w:=hj
 dsimp only at e
 rw[show([]:List D)=aI []from rfl,e,Bx]
 dsimp [jM]
theorem CU:∀(w s:List Int),∀k∈jS s w,k∈s\/k∈w
 |[],s,k,h=>.inl h
 |x::w,s,k,h=>by
  rcases CU w (kg s x) k h with h|h
  ·unfold kg at h
   split at h
   ·exact .inl (mem_of_mem_take (by rw[dropLast_eq_take]at h;exact h))
   ·rcases mem_append.mp h with h|h
    ·exact .inl h
    ·exact .inr (by rw[mem_singleton.mp h];exact mem_cons_self)
  ·exact .inr (mem_cons_of_mem _ h)
theorem O6(s0:Sl)(b k:Int)(hk:1<=k/\k<=7)(s2:Sl):km (.int k) [s0,.val (.int b),s2]=.ok (.nx [s0,.val (.int (Builtin.bitOr b (1*2^(k-1).toNat))),.val (.int k)]):=by
 unfold km
 simp_all only [dA,mS,mD,mF,eI,aJ,reduceAdd,reduceSub,reduceEqDiff,reduceIte,ah,ai,aC,aD,aE,aF]
 rw[show Oq (.int 1) (.int (k-1))=some (.int (1*2^(k-1).toNat))from if_pos (by
  unfold He
  exact⟨by omega,by omega,by decide⟩)]
 dsimp [HA]
theorem Ab(s0:Sl):∀(ks:List Int)(b:Int)(s2:Sl),(∀k∈ks,1<=k/\k<=7)->∃s2',cW km (aI ks) [s0,.val (.int b),s2]=.ok (.nx [s0,.val (.int (ks.foldl (fun b k=>Builtin.bitOr b (1*2^(k-1).toNat)) b)),s2'])
 |[],b,s2,_=>⟨s2,rfl⟩
 |k::ks,b,s2,h=>by
  rw[<-jN,Mr (O6 s0 b k (h k (by simp)) s2)]
  exact Ab s0 ks _ _ fun x hx=>h x (by simp[hx])
theorem O7:∀ks:List Int,(∀k∈ks,1<=k/\k<=7)->nz [.lst (aI ks)]=.ok (.int (Eo ks)):=fun ks h=>by
 unfold nz zU
 simp_all
 obtain⟨s2,e⟩:=Ab (.val (.lst (aI ks))) ks 0 .no h
 rw[e]
 dsimp
 rfl
theorem O8(n:Nat):Iv n (upTo n).reverse (upTo n).reverse:=by
 have c:∀p,p<n->aa (upTo n).reverse p=((n-1-p:Nat):Int):=fun p hp=>by
  rw[fV (by rw[aw];exact hp),aw,aO 'a']
 have h:∀p,p<n->0<=aa (upTo n).reverse p/\aa (upTo n).reverse p<n/\aa (upTo n).reverse (aa (upTo n).reverse p).toNat=p:=fun p hp=>by
  rw[c p hp,toNat_natCast,c _ 'a']
  refine⟨by omega,by omega,?_⟩
  omega
 exact⟨by rw[length_reverse,aw],by rw[length_reverse,aw],h,h⟩
theorem GR(n:Nat)(hn:1<=n/\n<=7):sE [.int n]=.ok (aI (upTo n).reverse):=by
 unfold sE Ld
 simp_all
 have er:KG [.int ((n:Int)-1),.int (-1),.int (-1)]=.ok (KD ((n:Int)-1) (-1) (Builtin.Range.rangeSize ((n:Int)-1) (-1) (-1)).toNat):=if_pos (by unfold RC;omega)
 rw[er]
 have e2:KD ((n:Int)-1) (-1) (Builtin.Range.rangeSize ((n:Int)-1) (-1) (-1)).toNat=aI (upTo n).reverse:=by
  have hc:n=1\/n=2\/n=3\/n=4\/n=5\/n=6\/n=7:=by omega
  rcases hc with rfl|rfl|rfl|rfl|rfl|rfl|rfl<;>rfl
 rw[e2]
 dsimp [jM]
theorem rn(r:List Int)(h:r.length<64):zP (aI r)=.ok (aI (sortI r)):=by
 unfold zP
 rw[uM]
 exact if_pos h
theorem Ii{r:List Int}(hr:r.length<64):qm [.lst (aI r)]=.ok (.bl (decide (1<=r.length/\r.length<=7/\sortI r=upTo r.length))):=by
 unfold qm Cm
 simp_all [bf]
 by_cases h1:(r.length:Int)<1
 ·rw[decide_eq_false (p:=(1<=r.length/\_)) (fun z=>by omega)]
  dsimp [h1,decide_true]
 ·dsimp [h1,decide_false]
  by_cases h7:(7:Int)<r.length
  ·rw[decide_eq_false (p:=(1<=r.length/\_)) (fun z=>by omega)]
   dsimp [h7,decide_true]
  ·dsimp [h7,decide_false]
   rw[rn _ hr,bf,ig r.length 'a']
   dsimp [xO]
   by_cases h:sortI r=upTo r.length
   ·rw[decide_eq_true h,decide_eq_true (p:=(1<=r.length/\_)) ⟨by omega,by omega,h⟩]
   ·rw[decide_eq_false h,decide_eq_false (p:=(1<=r.length/\_)) (fun z=>h z.2.2)]
theorem Ij(r:List Int):(sortI r).length=r.length:=(List.mergeSort_perm r (fun a b=>decide (a<=b))).length_eq
theorem mq{n:Nat}{r:List Int}(h:sortI r=upTo n):bp n r:=by
 have p:=List.mergeSort_perm r (fun a b=>decide (a<=b))
 unfold sortI at h
 rw[h]at p
 exact p.symm
def ik(n:Nat)(r:List Int):Prop:=sortI r=upTo n/\r≠upTo n/\r≠(upTo n).reverse
theorem Ik{n:Nat}(hn:1<=n/\n<=7){r:List Int}(hr:r.length<64):(ik n r->br [.int n,.lst (aI r)]=.ok .non)/\(¬ik n r->br [.int n,.lst (aI r)]=.err "NoForm"):=by
 have key:∀{P Q:Prop}(c:Prop),(c->P)->(¬c->Q)->(c->P)/\(¬c->Q):=fun _ a b=>⟨a,b⟩
 unfold br QL jO
 simp_all [bf]
 by_cases h1:(r.length:Int)=n
 ·have e1:((r.length:Int)==n)=true:=by rw[h1];exact beq_self_eq_true _
  have e2:r.length=n:=by omega
  dsimp [e1,Bool.not_true]
  rw[Ii hr,e2]
  by_cases h2:sortI r=upTo n
  ·rw[decide_eq_true (p:=(1<=n/\_)) ⟨hn.1,hn.2,h2⟩]
   dsimp [Bool.not_true]
   rw[ig n hn.2,GR n hn]
   dsimp [xO]
   by_cases h3:r=upTo n
   ·rw[decide_eq_true h3]
    refine⟨fun z=>absurd h3 z.2.1,fun _=>?_⟩
    dsimp
    rfl
   ·rw[decide_eq_false h3]
    dsimp
    by_cases h4:r=(upTo n).reverse
    ·rw[decide_eq_true h4]
     refine⟨fun z=>absurd h4 z.2.2,fun _=>?_⟩
     dsimp
     rfl
    ·rw[decide_eq_false h4]
     refine⟨fun _=>?_,fun z=>absurd ⟨h2,h3,h4⟩ z⟩
     dsimp
  ·rw[decide_eq_false (p:=(1<=n/\_)) (fun z=>h2 z.2.2)]
   refine⟨fun z=>absurd z.1 h2,fun _=>?_⟩
   dsimp [Bool.not_false]
   rfl
 ·have e1:((r.length:Int)==n)=false:=beq_eq_false_iff_ne.mpr h1
  refine⟨fun z=>?_,fun _=>?_⟩
  ·have:=Ij r
   rw[z.1,aw]at this
   omega
  ·dsimp [e1,Bool.not_false]
   rfl
theorem Mu(k:Int)(ns:List Int):AU (.int k) (.lst (aI ns))=some (.bl (!decide (k∈ns))):=by
 show(B4 (aI ns)).map (fun ns=>D.bl (!decide (k∈ns)))=_
 rw[uM]
 rfl
theorem EG{n:Nat}(hn:n<=7){p q:RP}(h1:Iv n p.1 p.2)(h2:Iv n q.1 q.2):iK [.lst (aI p.1),.lst (aI q.1)]=.ok (aI (kX p q)):=by
 unfold iK tR
 simp_all
 rw[zX h2 hn]
 dsimp [eZ]
 rw[gV (fun k=> !decide (k∈zf p.1)) _ fun k _=>⟨_,dA _ _ _,by
  unfold pC jf
  dsimp
  rw[ye p.1 (by rw[h1.lr];exact hn)]
  dsimp [Mu],by
  unfold pD jf
  dsimp⟩]
 dsimp [R.gU]
 have hl:(kX p q).length<=7:=le_trans (length_filter_le _ _) (le_trans (F6 q.2) (by rw[h2.ls];exact hn))
 rw[show(zf q.2).filter (fun k=> !decide (k∈zf p.1))=kX p q from rfl,dg 'a']
 dsimp [jM]
theorem ja{b:D->DE->R Out}{x:D}{xs:List D}{e e':DE}(h:b x e=.ok (.nx e')):cW b (x::xs) e=cW b xs e':=by
 conv=>lhs;unfold cW
 rw[h]
 rfl
theorem GU{b:D->DE->R Out}{x:D}{xs:List D}{e:DE}{c:Str}(h:b x e=.err c):cW b (x::xs) e=.err c:=by
 conv=>lhs;unfold cW
 rw[h]
 rfl
theorem YY{n:Nat}(hn:1<=n/\n<=7){r:List Int}(hr:r.length<64)(s1 s2 s3 s4 s5:Sl):(ik n r->cj (.lst (aI r)) [.val (.int n),s1,s2,s3,s4,s5]=.ok (.nx [.val (.int n),s1,s2,s3,.val (.lst (aI r)),s5]))/\(¬ik n r->cj (.lst (aI r)) [.val (.int n),s1,s2,s3,s4,s5]=.err "NoForm"):=by
 obtain⟨h1,h2⟩:=Ik hn hr
 unfold cj
 simp_all only [dA,mS,mD,mF,eI,aJ,reduceAdd,reduceSub,reduceEqDiff,reduceIte,ah,ai,aC,aD,aE,aF]
 constructor
 ·intro h
  rw[h1 h]
  rfl
 ·intro h
  rw[h2 h]
  rfl
theorem GV{n:Nat}(hn:1<=n/\n<=7)(s1 s2 s3 s5:Sl):∀(rs:List (List Int))(s4:Sl),(∀r∈rs,r.length<64)->((∀r∈rs,ik n r)->∃O9,cW cj (rs.map fun r=>.lst (aI r)) [.val (.int n),s1,s2,s3,s4,s5]=.ok (.nx [.val (.int n),s1,s2,s3,O9,s5]))/\(¬(∀r∈rs,ik n r)->cW cj (rs.map fun r=>.lst (aI r)) [.val (.int n),s1,s2,s3,s4,s5]=.err "NoForm")
 |[],s4,_=>⟨fun _=>⟨s4,rfl⟩,fun h=>absurd (fun _ z=>(nomatch z)) h⟩
 |r::rs,s4,hr=>by
  obtain⟨a,b⟩:=YY hn (hr r (by simp)) s1 s2 s3 s4 s5
  obtain⟨c,d⟩:=GV hn s1 s2 s3 s5 rs (.val (.lst (aI r))) fun x hx=>hr x (by simp[hx])
  rw[map_cons]
  by_cases h:ik n r
  ·rw[ja (a h)]
   exact⟨fun z=>c fun x hx=>z x (by simp[hx]),fun z=>d fun y=>z fun x hx=>by
    rcases mem_cons.mp hx with rfl|hx
    ·exact h
    ·exact y x hx⟩
  ·rw[GU (b h)]
   exact⟨fun z=>absurd (z r (by simp)) h,fun _=>rfl⟩
def mr:List (List Int)->Prop
 |p::q::L=>kX (p,kY p) (q,kY q)=[]/\mr (q::L)
 |_=>True
theorem YZ{n:Nat}(hn:1<=n/\n<=7)(s0 s1 s2 s4 s5:Sl){A B:List (List Int)}{p q:List Int}(hp:bp n p)(hq:bp n q):
  (kX (p,kY p) (q,kY q)=[]->cu (.int ((A.length:Int)+1)) [s0,s1,s2,.val (.lst ((A++p::q::B).map fun r=>.lst (aI r))),s4,s5]=.ok (.nx [s0,s1,s2,.val (.lst ((A++p::q::B).map fun r=>.lst (aI r))),s4,.val (.int ((A.length:Int)+1))]))/\
  (kX (p,kY p) (q,kY q)≠[]->cu (.int ((A.length:Int)+1)) [s0,s1,s2,.val (.lst ((A++p::q::B).map fun r=>.lst (aI r))),s4,s5]=.err "NoForm"):=by
 have f:=EG hn.2 (p:=(p,kY p)) (q:=(q,kY q)) (jr hp) (jr hq)
 have a1:iC ((A++p::q::B).map fun r=>D.lst (aI r)) ((A.length:Int)+1-1)=some (.lst (aI p)):=by
  rw[show(A.length:Int)+1-1=((A.length:Nat):Int)by omega]
  exact gC (by simp)
 have a2:iC ((A++p::q::B).map fun r=>D.lst (aI r)) ((A.length:Int)+1)=some (.lst (aI q)):=by
  rw[show(A.length:Int)+1=((A.length+1:Nat):Int)by omega]
  exact gC (by simp)
 unfold cu
 generalize ((A++p::q::B).map fun r=>D.lst (aI r))=Z at*
 simp_all only [dA,mS,mD,mF,eI,aJ,reduceAdd,reduceSub,reduceEqDiff,reduceIte,ah,ai,aC,aD,aE,aF,a1,a2]
 rw[f]
 dsimp [bf]
 cases e:kX (p,kY p) (q,kY q)with
 |nil=>
  refine⟨fun _=>?_,fun z=>absurd rfl z⟩
  rfl
 |cons x l=>
  refine⟨fun z=>(nomatch z),fun _=>?_⟩
  dsimp
  exact if_pos (decide_eq_true 'a')
theorem Mv{n:Nat}(hn:1<=n/\n<=7)(s0 s1 s2 s4:Sl):∀(B:List (List Int))(A:List (List Int))(p:List Int)(s5:Sl),(∀r∈A++p::B,bp n r)->
  (mr (p::B)->∃s5',cW cu (je ((A.length:Int)+1) B.length) [s0,s1,s2,.val (.lst ((A++p::B).map fun r=>.lst (aI r))),s4,s5]=.ok (.nx [s0,s1,s2,.val (.lst ((A++p::B).map fun r=>.lst (aI r))),s4,s5']))/\
  (¬mr (p::B)->cW cu (je ((A.length:Int)+1) B.length) [s0,s1,s2,.val (.lst ((A++p::B).map fun r=>.lst (aI r))),s4,s5]=.err "NoForm")
 |[],A,p,s5,_=>⟨fun _=>⟨s5,by rw[show je ((A.length:Int)+1) ([]:List (List Int)).length=[]from rfl];rfl⟩,fun h=>absurd (show mr [p]from trivial) h⟩
 |q::B,A,p,s5,hr=>by
  have er:je ((A.length:Int)+1) (q::B).length=.int ((A.length:Int)+1)::je (((A++[p]).length:Int)+1) B.length:=by
   rw[length_cons,oi,oi,range_succ_eq_map,map_cons,map_map,<-jN]
   congr 1
   congr 1
   apply map_congr_left
   intro x _
   simp_all only [Function.comp,length_append,length_singleton]
   omega
  obtain⟨a,b⟩:=YZ hn s0 s1 s2 s4 s5 (A:=A) (B:=B) (hr p (by simp)) (hr q (by simp))
  obtain⟨c,d⟩:=Mv hn s0 s1 s2 s4 B (A++[p]) q (.val (.int ((A.length:Int)+1))) (by rw[List.append_assoc];exact hr)
  rw[List.append_assoc,List.singleton_append]at c d
  rw[er]
  by_cases h:kX (p,kY p) (q,kY q)=[]
  ·rw[ja (a h)]
   exact⟨fun z=>c z.2,fun z=>d fun y=>z ⟨h,y⟩⟩
  ·rw[GU (b h)]
   exact⟨fun z=>absurd z.1 h,fun _=>rfl⟩
def oY(n:Nat)(h:Int)(rs:List (List Int)):Prop:=(n=1->h=0)/\(∀r∈rs,ik n r)/\mr rs
def aU(rs:List (List Int)):List D:=rs.map fun r=>.lst (aI r)
theorem yJ{n:Nat}(hn:1<=n/\n<=7)(h:Int){rs:List (List Int)}(hr:∀r∈rs,r.length<64)(hl:rs.length<1000):
  (oY n h rs->cz [.int n,.tup [.int h,.lst (aU rs)]]=.ok (.bl true))/\(¬oY n h rs->cz [.int n,.tup [.int h,.lst (aU rs)]]=.err "NoForm"):=by
 have a0:∀(x y:D),iC [x,y] 0=some x:=fun _ _=>rfl
 have a1:∀(x y:D),iC [x,y] 1=some y:=fun _ _=>rfl
 have hz:(aU rs).length=rs.length:=length_map _
 unfold cz QL qq
 simp_all [a0,a1]
 by_cases c:n=1/\h≠0
 ·have c1:((n:Int)==1)=true:=by rw[c.1];rfl
  have c2:(h==0)=false:=beq_eq_false_iff_ne.mpr c.2
  refine⟨fun z=>absurd (z.1 c.1) c.2,fun _=>?_⟩
  dsimp [c1,c2,Bool.not_false]
  rfl
 ·have c3:(R.ok ((n:Int)==1)>=>fun t=>if t=true then R.ok (!(h==0))else R.ok false)=R.ok false:=by
   rw[R.bF]
   by_cases c1:n=1
   ·have:h=0:=byContradiction fun z=>c ⟨c1,z⟩
    rw[this]
    split<;>rfl
   ·rw[if_neg (by rw[beq_iff_eq];omega)]
  have c4:(n=1->h=0):=fun z=>byContradiction fun y=>c ⟨z,y⟩
  rw[R.bF]at c3
  rw[c3]
  dsimp
  obtain⟨e1,e2⟩:=GV hn (.val (.tup [.int h,.lst (aU rs)])) (.val (.int h)) (.val (.lst (aU rs))) .no rs .no hr
  by_cases q:∀r∈rs,ik n r
  ·obtain⟨s4,e3⟩:=e1 q
   unfold aU at*
   rw[e3]
   dsimp [hz]
   cases rs with
   |nil=>
    refine⟨fun _=>?_,fun z=>absurd ⟨c4,q,trivial⟩ z⟩
    rw[uL _ _ 'a']
    rfl
   |cons p B=>
    obtain⟨f1,f2⟩:=Mv hn (.val (.int n)) (.val (.tup [.int h,.lst ((p::B).map fun r=>.lst (aI r))])) (.val (.int h)) s4 B [] p .no (fun r z=>mq (q r z).1)
    rw[uL _ _ 'a',show((((p::B).length:Nat):Int)-1).toNat=B.length by rw[length_cons];omega]
    rw[nil_append,show((([]:List (List Int)).length:Int)+1)=1 from rfl]at f1 f2
    dsimp
    rw[map_cons]at f1 f2
    by_cases w:mr (p::B)
    ·obtain⟨s5,e5⟩:=f1 w
     refine⟨fun _=>?_,fun z=>absurd ⟨c4,q,w⟩ z⟩
     rw[e5]
     rfl
    ·refine⟨fun z=>absurd z.2.2 w,fun _=>?_⟩
     rw[f2 w]
     rfl
  ·refine⟨fun z=>absurd z.2.1 q,fun _=>?_⟩
   have e3:=e2 q
   unfold aU at*
   rw[e3]
   rfl
theorem Mw{ms cs:List Str}{n:Str}{b:Bool}(h:n∈ms)(hb:cs.any (xR · n)=b):Dl ms cs (.exc n)=.ok (.bl b):=by
 rw[<-hb];exact if_pos h
theorem EH{n:Nat}(hn:1<=n/\n<=7){h:Int}{rs:List (List Int)}(hr:∀r∈rs,r.length<64)(hl:rs.length<1000)(hf:¬oY n h rs):dJ [.int n,.tup [.int h,.lst (aU rs)]]=.ok (.bl true):=by
 have ec:=(yJ hn h hr hl).2 hf
 unfold dJ qt
 simp_all
 generalize D.tup [.int h,.lst (aU rs)]=T at*
 have e:tryD 3 ["NoForm"] eT iM [.val (.int n),.val T,.val (.bl false),.no,.no]=.ok (.nx [.val (.int n),.val T,.val (.bl true),.no,.val (.bl false)]):=by
  unfold tryD
  have e1:eT [.val (.int n),.val T,.val (.bl false),.no,.no]=.err "NoForm":=by
   unfold eT
   dsimp
   rw[ec]
   rfl
  rw[e1]
  have a1:Dl ["NoForm"] ["NoWord","BadText","NoMove","NoRow","Unlike","NoString","BadPicture","TooMany"] (.exc "NoForm")=.ok (.bl false):=Mw (by decide) (by decide)
  have a2:Dl ["NoForm"] ["BraidError"] (.exc "NoForm")=.ok (.bl true):=Mw (by decide) (by decide)
  have a3:Dl ["NoForm"] ["ValueError"] (.exc "NoForm")=.ok (.bl true):=Mw (by decide) (by decide)
  unfold iM
  dsimp [a1,a2,a3,mem_singleton,Bool.not_false,unO,R.gU]
 rw[e]
 dsimp
theorem Bh{b:D->DE->R Out}{x d:D}{xs:List D}{e:DE}(h:b x e=.ok (.rt d)):cW b (x::xs) e=.ok (.rt d):=by
 conv=>lhs;unfold cW
 rw[h]
 rfl
theorem Pb(xs:List D):zK (.lst xs) .non=some (.bl true):=rfl
theorem Ve(s0 s1 s3 s4:Sl)(k:Int):bu (.int k) [s0,s1,.val .non,s3,s4]=.ok (.nx [s0,s1,.val .non,s3,.val (.int k)]):=by
 unfold bu
 simp_all only [dA,mS,mD,mF,eI,aJ,reduceAdd,reduceSub,reduceEqDiff,reduceIte,ah,ai,aC,aD,aE,aF,Ob]
def pQ(p q:RP)(j:Nat):Prop:=aa q.2 (j+1)<aa q.2 j->aa p.1 (j+1)<aa p.1 j
theorem Vf{n:Nat}(hn:n<=7)(s0 s1:Sl){p q:RP}(ip:Iv n p.1 p.2)(iq:Iv n q.1 q.2){j:Nat}(hj:j+1<n)(s4:Sl):
  (pQ p q j->bu (.int ((j:Int)+1)) [s0,s1,.val (.lst (aI p.1)),.val (.lst (aI q.1)),s4]=.ok (.nx [s0,s1,.val (.lst (aI p.1)),.val (.lst (aI q.1)),.val (.int ((j:Int)+1))]))/\(¬pQ p q j->bu (.int ((j:Int)+1)) [s0,s1,.val (.lst (aI p.1)),.val (.lst (aI q.1)),s4]=.ok (.rt (.bl false))):=by
 have e1:qd (aI q.1) (.int ((j:Int)+1-1))=.ok (.int (aa q.2 j)):=by rw[show(j:Int)+1-1=((j:Nat):Int)by omega];exact Cz iq 'a'
 have e2:qd (aI q.1) (.int ((j:Int)+1))=.ok (.int (aa q.2 (j+1))):=by have:=Cz iq hj;rw[<-this];congr 2
 have hne:=Rl ip hj
 unfold bu pQ
 simp_all only [dA,mS,mD,mF,eI,aJ,reduceAdd,reduceSub,reduceEqDiff,reduceIte,ah,ai,aC,aD,aE,aF,Pb,e1,e2]
 by_cases c:aa q.2 j>aa q.2 (j+1)
 ·dsimp [c,decide_true]
  have lp:=ip.lr
  rw[ed 'a' 'a',ed 'a' 'a']
  dsimp
  rw[show((j:Int)+1-1).toNat=j by omega,show((j:Int)+1).toNat=j+1 by omega]
  by_cases d:aa p.1 j<aa p.1 (j+1)
  ·rw[decide_eq_true d]
   refine⟨fun z=>?_,fun _=>?_⟩
   ·have:=z trivial
    omega
   ·dsimp
  ·rw[decide_eq_false d]
   refine⟨fun _=>?_,fun z=>absurd (fun _=>?_) z⟩
   ·dsimp
   ·omega
 ·refine⟨fun _=>?_,fun z=>absurd (fun y=>absurd y c) z⟩
  dsimp [c,decide_false]
theorem CV(j m:Nat):je ((j:Int)+1) (m+1)=.int ((j:Int)+1)::je (((j+1:Nat):Int)+1) m:=by
 rw[oi,oi,range_succ_eq_map,map_cons,map_map,<-jN]
 congr 1
 congr 1
 apply map_congr_left
 intro x _
 simp_all only [Function.comp]
 omega
theorem Mx{n:Nat}(hn:n<=7)(s0 s1:Sl){p q:RP}(ip:Iv n p.1 p.2)(iq:Iv n q.1 q.2):∀(m j:Nat)(s4:Sl),j+1+m<=n->
  ((∀i,j<=i->i<j+m->pQ p q i)->∃O9,cW bu (je ((j:Int)+1) m) [s0,s1,.val (.lst (aI p.1)),.val (.lst (aI q.1)),s4]=.ok (.nx [s0,s1,.val (.lst (aI p.1)),.val (.lst (aI q.1)),O9]))/\
  (¬(∀i,j<=i->i<j+m->pQ p q i)->cW bu (je ((j:Int)+1) m) [s0,s1,.val (.lst (aI p.1)),.val (.lst (aI q.1)),s4]=.ok (.rt (.bl false)))
 |0,j,s4,_=>⟨fun _=>⟨s4,by rw[show je ((j:Int)+1) 0=[]from rfl];rfl⟩,fun z=>absurd (fun i _ _=>by omega) z⟩
 |m+1,j,s4,h=>by
  obtain⟨a,b⟩:=Vf hn s0 s1 ip iq (j:=j) 'a' s4
  obtain⟨c,d⟩:=Mx hn s0 s1 ip iq m (j+1) (.val (.int ((j:Int)+1))) 'a'
  rw[CV]
  by_cases w:pQ p q j
  ·rw[ja (a w)]
   refine⟨fun z=>c fun i h1 h2=>z i 'a' 'a',fun z=>d fun y=>z fun i h1 h2=>?_⟩
   by_cases hi:i=j
   ·rw[hi];exact w
   ·exact y i 'a' 'a'
  ·rw[Bh (b w)]
   exact⟨fun z=>absurd (z j 'a' 'a') w,fun _=>rfl⟩
theorem My(s0 s1 s3:Sl):∀(m j:Nat)(s4:Sl),∃O9,cW bu (je ((j:Int)+1) m) [s0,s1,.val .non,s3,s4]=.ok (.nx [s0,s1,.val .non,s3,O9])
 |0,j,s4=>⟨s4,by rw[show je ((j:Int)+1) 0=[]from rfl];rfl⟩
 |m+1,j,s4=>by
  rw[CV,ja (Ve s0 s1 s3 s4 _)]
  exact My s0 s1 s3 m (j+1) _
theorem qF{n:Nat}(hn:n<=7):xW [.int n]=.ok (aI (upTo n).reverse):=by
 refine(if_pos ⟨by omega,by omega⟩).trans (congrArg R.ok ?_)
 rw[toNat_natCast]
 have hc:n=0\/n=1\/n=2\/n=3\/n=4\/n=5\/n=6\/n=7:=by omega
 rcases hc with rfl|rfl|rfl|rfl|rfl|rfl|rfl|rfl<;>rfl
theorem Mz{n:Nat}(hn:1<=n/\n<=7){r:List Int}(hr:r.length<64)(h:¬ik n r)(s0 s2 s3 s4:Sl):aQ (.lst (aI r)) [s0,.val (.int n),s2,s3,s4]=.ok (.rt (.bl false)):=by
 unfold aQ
 simp_all only [dA,mS,mD,mF,eI,aJ,reduceAdd,reduceSub,reduceEqDiff,reduceIte,ah,ai,aC,aD,aE,aF,eZ]
 rw[gV (fun _=>false) r fun s _=>⟨_,dA _ _ _,rfl,rfl⟩]
 have ef:r.filter (fun _=>false)=[]:=List.filter_eq_nil_iff.mpr fun _ _=>by simp
 have t1:∀xs:List D,jU (y8 (.lst xs)) "list"=true:=fun _=>rfl
 rw[ef]
 dsimp [R.gU,t1,Bool.not_true]
 rw[dg (by decide),show(D.lst [])=.lst (aI [])from rfl]
 dsimp [sZ,decide_true,Bool.not_true]
 rw[rn _ hr,jm _ 'a',toNat_natCast,g4]
 have Vg:=qF hn.2
 by_cases h1:sortI r=upTo n
 ·by_cases h2:r=upTo n
  ·dsimp [Vg,sZ,xO,h1,decide_true,Bool.not_true,decide_eq_true h2]
  ·have h3:r=(upTo n).reverse:=byContradiction fun z=>h ⟨h1,h2,z⟩
   dsimp [Vg,sZ,xO,h1,decide_true,Bool.not_true,decide_eq_false h2,decide_eq_true h3]
 ·dsimp [Vg,sZ,xO,decide_eq_false h1,Bool.not_false]
theorem Vh{n:Nat}(hn:1<=n/\n<=7){r:List Int}(hr:r.length<64)(h:ik n r)(s0 s3 s4:Sl):∃O9,aQ (.lst (aI r)) [s0,.val (.int n),.val .non,s3,s4]=.ok (.nx [s0,.val (.int n),.val (.lst (aI r)),.val (.lst (aI r)),O9]):=by
 unfold aQ
 simp_all only [dA,mS,mD,mF,eI,aJ,reduceAdd,reduceSub,reduceEqDiff,reduceIte,ah,ai,aC,aD,aE,aF,eZ]
 rw[gV (fun _=>false) r fun s _=>⟨_,dA _ _ _,rfl,rfl⟩]
 have ef:r.filter (fun _=>false)=[]:=List.filter_eq_nil_iff.mpr fun _ _=>by simp
 have t1:∀xs:List D,jU (y8 (.lst xs)) "list"=true:=fun _=>rfl
 rw[ef]
 dsimp [R.gU,t1,Bool.not_true]
 rw[dg (by decide),show(D.lst [])=.lst (aI [])from rfl]
 dsimp [sZ,decide_true,Bool.not_true]
 rw[rn _ hr,jm _ 'a',toNat_natCast,g4]
 have Vg:=qF hn.2
 rw[h.1]
 dsimp [Vg,sZ,xO,decide_true,Bool.not_true,decide_eq_false h.2.1,decide_eq_false h.2.2]
 rw[uL _ _ 'a']
 rw[show((n:Int)-1).toNat=n-1 by omega,show(1:Int)=((0:Nat):Int)+1 from rfl]
 obtain⟨s,e⟩:=My s0 (.val (.int n)) (.val (.lst (aI r))) (n-1) 0 s4
 dsimp [e]
 exact⟨_,rfl⟩
theorem MA{n:Nat}{p q:RP}(ip:Iv n p.1 p.2)(iq:Iv n q.1 q.2):(∀i,0<=i->i<0+(n-1)->pQ p q i)↔kX p q=[]:=
 ⟨fun z=>(kZ ip iq).mpr fun j hj=>z j 'a' 'a',fun z i _ hi=>(kZ ip iq).mp z i 'a'⟩
theorem Vi{n:Nat}(hn:1<=n/\n<=7){p r:List Int}(hp:bp n p)(hr:r.length<64)(h:ik n r)(s0 s3 s4:Sl):
  (kX (p,kY p) (r,kY r)=[]->∃O9,aQ (.lst (aI r)) [s0,.val (.int n),.val (.lst (aI p)),s3,s4]=.ok (.nx [s0,.val (.int n),.val (.lst (aI r)),.val (.lst (aI r)),O9]))/\
  (kX (p,kY p) (r,kY r)≠[]->aQ (.lst (aI r)) [s0,.val (.int n),.val (.lst (aI p)),s3,s4]=.ok (.rt (.bl false))):=by
 unfold aQ
 simp_all only [dA,mS,mD,mF,eI,aJ,reduceAdd,reduceSub,reduceEqDiff,reduceIte,ah,ai,aC,aD,aE,aF,eZ]
 rw[gV (fun _=>false) r fun s _=>⟨_,dA _ _ _,rfl,rfl⟩]
 have ef:r.filter (fun _=>false)=[]:=List.filter_eq_nil_iff.mpr fun _ _=>by simp
 have t1:∀xs:List D,jU (y8 (.lst xs)) "list"=true:=fun _=>rfl
 rw[ef]
 dsimp [R.gU,t1,Bool.not_true]
 rw[dg (by decide),show(D.lst [])=.lst (aI [])from rfl]
 dsimp [sZ,decide_true,Bool.not_true]
 rw[rn _ hr,jm _ 'a',toNat_natCast,g4]
 have Vg:=qF hn.2
 rw[h.1]
 dsimp [Vg,sZ,xO,decide_true,Bool.not_true,decide_eq_false h.2.1,decide_eq_false h.2.2]
 rw[uL _ _ 'a']
 rw[show((n:Int)-1).toNat=n-1 by omega,show(1:Int)=((0:Nat):Int)+1 from rfl]
 have ip:=jr hp
 have iq:=jr (mq h.1)
 obtain⟨a,b⟩:=Mx hn.2 s0 (.val (.int n)) (p:=(p,kY p)) (q:=(r,kY r)) ip iq (n-1) 0 s4 'a'
 rw[MA ip iq]at a b
 constructor
 ·intro z
  obtain⟨s,e⟩:=a z
  dsimp [e]
  exact⟨_,rfl⟩
 ·intro z
  have e:=b z
  dsimp [e]
theorem GW{n:Nat}(hn:1<=n/\n<=7)(s0:Sl):∀(rs:List (List Int))(p:List Int)(s3 s4:Sl),bp n p->(∀r∈rs,r.length<64)->
  ((∀r∈rs,ik n r)/\mr (p::rs)->∃a b c,cW aQ (aU rs) [s0,.val (.int n),.val (.lst (aI p)),s3,s4]=.ok (.nx [s0,.val (.int n),a,b,c]))/\
  (¬((∀r∈rs,ik n r)/\mr (p::rs))->cW aQ (aU rs) [s0,.val (.int n),.val (.lst (aI p)),s3,s4]=.ok (.rt (.bl false)))
 |[],p,s3,s4,_,_=>⟨fun _=>⟨_,s3,s4,rfl⟩,fun z=>absurd ⟨fun _ y=>(nomatch y),show mr [p]from trivial⟩ z⟩
 |r::rs,p,s3,s4,hp,hr=>by
  rw[show aU (r::rs)=.lst (aI r)::aU rs from rfl]
  by_cases h:ik n r
  ·obtain⟨a,b⟩:=Vi hn hp (hr r (by simp)) h s0 s3 s4
   by_cases w:kX (p,kY p) (r,kY r)=[]
   ·obtain⟨s,e⟩:=a w
    obtain⟨c,d⟩:=GW hn s0 rs r (.val (.lst (aI r))) s (mq h.1) fun x hx=>hr x (by simp[hx])
    rw[ja e]
    refine⟨fun z=>c ⟨fun x hx=>z.1 x (by simp[hx]),z.2.2⟩,fun z=>d fun y=>z ⟨fun x hx=>?_,w,y.2⟩⟩
    rcases mem_cons.mp hx with rfl|hx
    ·exact h
    ·exact y.1 x hx
   ·rw[Bh (b w)]
    exact⟨fun z=>absurd z.2.1 w,fun _=>rfl⟩
  ·rw[Bh (Mz hn (hr r (by simp)) h s0 _ s3 s4)]
   exact⟨fun z=>absurd (z.1 r (by simp)) h,fun _=>rfl⟩
theorem MB{n:Nat}(hn:1<=n/\n<=7)(s0:Sl)(rs:List (List Int))(s3 s4:Sl)(hr:∀r∈rs,r.length<64):
  ((∀r∈rs,ik n r)/\mr rs->∃a b c,cW aQ (aU rs) [s0,.val (.int n),.val .non,s3,s4]=.ok (.nx [s0,.val (.int n),a,b,c]))/\
  (¬((∀r∈rs,ik n r)/\mr rs)->cW aQ (aU rs) [s0,.val (.int n),.val .non,s3,s4]=.ok (.rt (.bl false))):=by
 cases rs with
 |nil=>exact⟨fun _=>⟨_,s3,s4,rfl⟩,fun z=>absurd ⟨fun _ y=>(nomatch y),trivial⟩ z⟩
 |cons r rs=>
  rw[show aU (r::rs)=.lst (aI r)::aU rs from rfl]
  by_cases h:ik n r
  ·obtain⟨s,e⟩:=Vh hn (hr r (by simp)) h s0 s3 s4
   obtain⟨c,d⟩:=GW hn s0 rs r (.val (.lst (aI r))) s (mq h.1) fun x hx=>hr x (by simp[hx])
   rw[ja e]
   refine⟨fun z=>c ⟨fun x hx=>z.1 x (by simp[hx]),z.2⟩,fun z=>d fun y=>z ⟨fun x hx=>?_,y.2⟩⟩
   rcases mem_cons.mp hx with rfl|hx
   ·exact h
   ·exact y.1 x hx
  ·rw[Bh (Mz hn (hr r (by simp)) h s0 _ s3 s4)]
   exact⟨fun z=>absurd (z.1 r (by simp)) h,fun _=>rfl⟩
theorem EI{n:Nat}(hn:1<=n/\n<=7)(h:Int){rs:List (List Int)}(hr:∀r∈rs,r.length<64):
  (oY n h rs->dG [.tup [.int h,.lst (aU rs)],.int n]=.ok (.bl true))/\(¬oY n h rs->dG [.tup [.int h,.lst (aU rs)],.int n]=.ok (.bl false)):=by
 unfold dG qk
 have a0:∀(x y:D),iC [x,y] 0=some x:=fun _ _=>rfl
 have a1:∀(x y:D),iC [x,y] 1=some y:=fun _ _=>rfl
 have t1:∀xs:List D,jU (y8 (.lst xs)) "list"=true:=fun _=>rfl
 have t2:∀xs:List D,jU (y8 (.tup xs)) "tuple"=true:=fun _=>rfl
 have t3:∀i:Int,jU (y8 (.int i)) "int"=true:=fun _=>rfl
 have t4:∀i:Int,jU (y8 (.int i)) "bool"=false:=fun _=>rfl
 have b2:((2:Int)==2)=true:=rfl
 have b3:(((2:Nat):Int)==2)=true:=rfl
 simp_all [t1,t2,Bool.not_true,a0,a1,t3,t4]
 dsimp [b2,b3,Bool.not_true,a0,a1,t3,t4]
 obtain⟨e1,e2⟩:=MB hn (.val (.tup [.int h,.lst (aU rs)])) rs .no .no hr
 by_cases c:n=1
 ·have c1:((n:Int)==1)=true:=by rw[c];rfl
  by_cases d:h=0
  ·have d1:(h==0)=true:=by rw[d];rfl
   dsimp [c1,d1,Bool.not_true,a1]
   by_cases q:(∀r∈rs,ik n r)/\mr rs
   ·obtain⟨x,y,z,e⟩:=e1 q
    refine⟨fun _=>?_,fun w=>absurd ⟨fun _=>d,q⟩ w⟩
    dsimp [e]
   ·refine⟨fun w=>absurd w.2 q,fun _=>?_⟩
    dsimp [e2 q]
  ·have d1:(h==0)=false:=beq_eq_false_iff_ne.mpr d
   refine⟨fun w=>absurd (w.1 c) d,fun _=>?_⟩
   dsimp [c1,d1,Bool.not_false]
 ·have c1:((n:Int)==1)=false:=beq_eq_false_iff_ne.mpr 'a'
  dsimp [c1,a1]
  by_cases q:(∀r∈rs,ik n r)/\mr rs
  ·obtain⟨x,y,z,e⟩:=e1 q
   refine⟨fun _=>?_,fun w=>absurd ⟨fun z=>absurd z c,q⟩ w⟩
   dsimp [e]
  ·refine⟨fun w=>absurd w.2 q,fun _=>?_⟩
   dsimp [e2 q]
theorem GX(ns:List Int)(k:Nat):bX [.lst (aI ns),.int k]=.ok (.int (aa ns k)):=by
 unfold bX qj aa
 simp_all [bf]
 by_cases h:(k:Int)<(ns.length:Int)
 ·have h':k<ns.length:=by omega
  simp_all only [h,decide_true,reduceIte,ah,ai,aC,aD,aE,aF]
  rw[tj,tw 'a',toNat_natCast,getElem?_eq_getElem h']
  simp_all only [map_some,reduceIte,ah,ai,aC,aD,aE,aF,getD_some]
 ·have h':ns.length<=k:=by omega
  simp_all only [h,decide_false,reduceIte,ah,ai,aC,aD,aE,aF]
  rw[getElem?_eq_none h']
  rfl
def Ac(l:List Int)(j:Nat)(x:Int):List Int:=l.take j++x::l.drop j
theorem EJ(l:List Int)(j:Nat)(x:Int):(Ac l j x).Perm (l++[x]):=by
 unfold Ac
 refine(List.perm_middle).trans ?_
 rw[List.take_append_drop]
 exact(List.perm_append_singleton x l).symm
def zm(cells:List Int):Nat->List Int
 |0=>[]
 |s+1=>Ac (zm cells s) (uS (aa cells s) s 16807%((s:Int)+1)).toNat s
theorem yK(cells:List Int):∀s,bp s (zm cells s)
 |0=>Perm.refl _
 |s+1=>by
  unfold bp
  rw[HX]
  exact(EJ _ _ _).trans ((yK cells s).append_right _)
theorem Pd{i:Nat}{env:DE}{xs:List Int}{j x:Int}(h:xs.length<1000000)(h0:0<=j)(h1:j<=xs.length):Oj i env (aI xs) (.int j) (.int x)=.ok (.nx (env.set i (.own (aI (Ac xs j.toNat x))))):=by
 have e:(aI xs).take j.toNat++D.int x::(aI xs).drop j.toNat=aI (Ac xs j.toNat x):=by simp[aI,Ac]
 rw[<-e]
 exact if_pos ⟨by rw[bf];exact lt_of_lt_of_le h (by decide),h0,by rw[bf];exact h1⟩
theorem Vj(cells:List Int)(n:Nat)(hn:n<=7):kU [.lst (aI cells),.int n]=.ok (aI (zm cells n)):=by
 unfold kU yb
 simp_all
 rw[Kg n 'a',toNat_natCast,g4]
 dsimp
 obtain⟨s',e,hj⟩:=sj (S:=List Int×Sl) (b:=mE) (fun i s=>s.1=zm cells i) (fun s=>[.val (.lst (aI cells)),.val (.int n),.own (aI s.1),s.2]) (aI (upTo n)) 0 ([],.no) rfl (by
  rintro j ⟨l,s2⟩ x hs hx
  obtain⟨k,hk,rfl⟩:=AZ hx
  have hj:j<n:=by
   have:=(List.getElem?_eq_some_iff.mp hk).1
   rwa [aw]at this
  rw[nH n j hj]at hk
  cases hk
  rw[zero_add]at hs⊢
  have IW:l=zm cells j:=hs
  subst IW
  unfold mE
  simp_all only [dA,reduceIte,ah,ai,aC,aD,aE,aF]
  rw[GX cells j]
  dsimp
  rw[AX _ j 16807 'a' (by decide)]
  dsimp
  rw[dF _ _ 'a']
  dsimp
  have h0:=emod_nonneg (uS (aa cells j) j 16807) (show(j:Int)+1≠0 by omega)
  have h1:=emod_lt_of_pos (uS (aa cells j) j 16807) (show(0:Int)<(j:Int)+1 by omega)
  have hl:=(yK cells j).len
  rw[Pd 'a' h0 'a']
  exact⟨(zm cells (j+1),_),rfl,rfl⟩)
 obtain⟨l,s2⟩:=s'
 have Bx:l=zm cells (0+(aI (upTo n)).length):=hj
 rw[bf,aw,zero_add]at Bx
 dsimp only at e
 rw[show aI []=[]from rfl]at e
 rw[e,Bx]
 dsimp [jM]
theorem Il:DS (.int 10) (.int 30)=some (.int (10^(30:Int).toNat)):=Kb 10 30 (by decide)
theorem Vk{n:Nat}(hn:2<=n/\n<=7){how far:Int}:∃r,fH [.int n,.int how,.int far]=.ok (.lst (aI r))/\r.length<64:=by
 unfold fH ql
 simp_all
 rw[jm _ 'a',toNat_natCast,g4]
 dsimp
 have hl:=aw n
 by_cases c0:how=0
 ·subst c0
  dsimp [beq_self_eq_true]
  exact⟨_,rfl,by omega⟩
 have d0:(how==0)=false:=beq_eq_false_iff_ne.mpr c0
 dsimp [d0]
 by_cases c1:how=1
 ·subst c1
  dsimp [beq_self_eq_true,AM]
  exact⟨_,rfl,by rw[length_reverse];omega⟩
 have d1:(how==1)=false:=beq_eq_false_iff_ne.mpr c1
 dsimp [d1]
 by_cases c2:how=2
 ·subst c2
  dsimp [beq_self_eq_true]
  rw[show((n:Int)-1)=((n-1:Nat):Int)by omega,qF 'a']
  dsimp
  exact⟨_,rfl,by rw[length_reverse,aw];omega⟩
 have d2:(how==2)=false:=beq_eq_false_iff_ne.mpr c2
 dsimp [d2]
 by_cases c3:how=3
 ·subst c3
  dsimp [beq_self_eq_true]
  rw[jN,dg (by rw[length_cons];omega)]
  dsimp
  exact⟨_,rfl,by rw[length_cons];omega⟩
 have d3:(how==3)=false:=beq_eq_false_iff_ne.mpr c3
 dsimp [d3]
 have hc:∀x:Int,((x::cut (upTo n) (some 1) none).length<64/\(x::cut (upTo n) (some 1) none).length<=1000000):=fun x=>by
  rw[xQ _ _ 'a',length_cons,length_drop]
  omega
 by_cases c4:how=4
 ·subst c4
  dsimp [beq_self_eq_true]
  obtain⟨y,hy⟩:∃y,(upTo n).getLast?=some y:=by
   cases e:(upTo n).getLast? with
   |none=>rw[List.getLast?_eq_none_iff]at e;rw[e]at hl;simp at hl;omega
   |some y=>exact⟨y,rfl⟩
  rw[tj,pW hy]
  dsimp [map_some]
  rw[qR,jN,dg (hc y).2]
  dsimp
  exact⟨_,rfl,(hc y).1⟩
 have d4:(how==4)=false:=beq_eq_false_iff_ne.mpr c4
 dsimp [d4,Il]
 rw[dF _ _ (by decide)]
 dsimp
 generalize (10:Int)^(30:Int).toNat=Y0
 obtain⟨y,hy⟩:∃y,iC [D.int (-1),.int n,.int (Y0+far),.int (-far-1)] (far%4)=some (.int y):=by
  rw[tw 'a']
  have:(far%4).toNat=0\/(far%4).toNat=1\/(far%4).toNat=2\/(far%4).toNat=3:=by omega
  rcases this with e|e|e|e<;>rw[e]<;>exact⟨_,rfl⟩
 rw[hy]
 dsimp
 rw[qR,jN,dg (hc y).2]
 dsimp
 exact⟨_,rfl,(hc y).1⟩
theorem CW{i:Nat}{env:DE}{d:D}{xs:List D}{j:Int}(h:0<=j)(h2:j<xs.length):AV i env d xs (.int j)=.ok (env.set i (.own (xs.set j.toNat d))):=by
 unfold AV
 have:pV xs.length j=some j.toNat:=by unfold L2.pV;rw[if_pos h,if_pos h2]
 simp_all only [this]
theorem rq(rs:List (List Int)):(aU rs).length=rs.length:=length_map _
theorem vp(a b:List (List Int)):aU a++aU b=aU (a++b):=(map_append ..).symm
theorem Ae(a:List (List Int))(lo hi:Option Int):cut (aU a) lo hi=aU (cut a lo hi):=by
 unfold cut aU
 rw[length_map,map_take,map_drop]
theorem Af{rs:List (List Int)}{i:Int}(h:0<=i)(h2:i<rs.length):∃r,r∈rs/\rs[i.toNat]?=some r/\iC (aU rs) i=some (.lst (aI r)):=by
 have h3:i.toNat<rs.length:=by omega
 refine⟨rs[i.toNat],getElem_mem h3,getElem?_eq_getElem h3,?_⟩
 rw[tw h]
 unfold aU
 rw[getElem?_map,getElem?_eq_getElem h3]
 rfl
theorem qG{rs:List (List Int)}(h:rs.length<=1000):fit (aU rs)=.ok (aU rs):=qb (big (by rw[rq];omega))
theorem Pe(rs:List (List Int)):cG (bN 0) nE jn (jf 1 []) (aU rs)=.ok (aU rs):=by
 rw[kH id _ fun x hx=>by
   obtain⟨r,hr,rfl⟩:=mem_map.mp hx
   refine⟨_,dA _ _ _,rfl,?_⟩
   unfold jn jf
   simp_all
   rfl,map_id]
theorem Y1{n:Nat}{r:List Int}(h:bp n r)(hh:r≠(upTo n).reverse):∃k:Nat,k+1<n/\aa r k<aa r (k+1):=by
 apply byContradiction
 intro hc
 have hl:=h.len
 have st:∀k,k+1<n->aa r (k+1)<=aa r k:=fun k hk=>by
  apply byContradiction
  intro z
  exact hc ⟨k,hk,by omega⟩
 have Dh:∀d k,k+d<n->aa r (k+d)<=aa r k:=fun d=>by
  induction d with
  |zero=>intro k _;exact Int.le_refl _
  |succ d ih=>
   intro k hk
   have a:=ih k 'a'
   have b:=st (k+d) 'a'
   rw[<-Nat.add_assoc]
   omega
 have hp:r.reverse.Pairwise (·<=·):=by
  rw[List.pairwise_reverse,List.pairwise_iff_getElem]
  intro i j hi hj hij
  have:=Dh (j-i) i 'a'
  rw[show i+(j-i)=j by omega]at this
  unfold aa at this
  rw[getElem?_eq_getElem hi,getElem?_eq_getElem hj]at this
  exact this
 have e:r.reverse=sortI r:=xT (reverse_perm r) hp
 rw[Cv h]at e
 exact hh (by rw[<-e,reverse_reverse])
theorem Im{n:Nat}(hn:2<=n/\n<=7):upTo n≠(upTo n).reverse:=by
 obtain⟨a,b⟩:=hn
 have:n=2\/n=3\/n=4\/n=5\/n=6\/n=7:=by omega
 rcases this with rfl|rfl|rfl|rfl|rfl|rfl<;>decide
theorem Pf{n:Nat}(hn:n<=7){r:List Int}(h:bp n r)(hh:r≠(upTo n).reverse):∃ov:List Int,cG (bN 0) jo jq (jf 1 [.lst (aI r)]) (je 1 ((n:Int)-1).toNat)=.ok (aI ov)/\0<ov.length/\ov.length<=7/\∀k∈ov,1<=k/\k<(n:Int):=by
 have hl:=h.len
 have hm:∀k,k∈((range ((n:Int)-1).toNat).map fun i=>(1:Int)+((i:Nat):Int))↔1<=k/\k<(n:Int):=fun k=>by
  simp_all only [mem_map,mem_range]
  constructor
  ·rintro⟨i,hi,rfl⟩;omega
  ·rintro⟨a,b⟩;exact⟨(k-1).toNat,by omega,by omega⟩
 rw[oi]
 rw[gV (fun k=>decide (aa r (k-1).toNat<aa r k.toNat)) _ fun k hk=>by
  have:=(hm k).mp hk
  refine⟨_,dA _ _ _,?_,?_⟩
  ·unfold jo jf
   simp_all
   rw[ed 'a' 'a',ed 'a' 'a']
   dsimp
  ·unfold jq jf
   dsimp]
 refine⟨_,rfl,?_,?_,fun k hk=>(hm k).mp (mem_filter.mp hk).1⟩
 ·obtain⟨k,hk,hc⟩:=Y1 h hh
  apply List.length_pos_of_mem (a:=(k:Int)+1)
  rw[mem_filter]
  refine⟨(hm _).mpr 'a',?_⟩
  rw[show((k:Int)+1-1).toNat=k by omega,show((k:Int)+1).toNat=k+1 by omega]
  exact decide_eq_true hc
 ·refine le_trans (length_filter_le _ _) ?_
  rw[length_map,length_range]
  omega
theorem Pg:xM (.lst []) (.lst [])=some (.bl false):=sZ [] []
theorem CY(r:List Int)(rs:List (List Int)):xM (.lst (aU (r::rs))) (.lst [])=some (.bl true):=rfl
theorem Io{n:Nat}(hn:1<=n/\n<=7)(h:Int){rs:List (List Int)}(hr:∀r∈rs,bp n r/\r≠(upTo n).reverse)(hl:rs.length<=100){how at_ far:Int}(ha:0<=at_/\at_<=rs.length):∃h' I8,gz [.int n,.tup [.int h,.lst (aU rs)],.int how,.int at_,.int far]=.ok (.tup [.int h',.lst (aU I8)])/\(∀r∈I8,r.length<64)/\I8.length<1000:=by
 have a0:∀(x y:D),iC [x,y] 0=some x:=fun _ _=>rfl
 have a1:∀(x y:D),iC [x,y] 1=some y:=fun _ _=>rfl
 have hlen:∀r∈rs,r.length<64:=fun r hx=>by have:=(hr r hx).1.len;omega
 unfold gz rR
 simp_all [a0,a1,eZ,Pe,R.gU,qG (show rs.length<=1000 by omega)]
 by_cases c:n=1
 ·have c1:((n:Int)==1)=true:=by rw[c];rfl
  dsimp [c1]
  rw[dF _ _ (by decide),dF _ _ (by decide)]
  dsimp
  by_cases d:far%2=0
  ·have d1:(far%2==0)=true:=beq_iff_eq.mpr d
   dsimp [d1]
   exact⟨_,[],rfl,fun _ z=>(nomatch z),by decide⟩
  ·have d1:(far%2==0)=false:=beq_eq_false_iff_ne.mpr d
   dsimp [d1]
   exact⟨_,[],rfl,fun _ z=>(nomatch z),by decide⟩
 have c1:((n:Int)==1)=false:=beq_eq_false_iff_ne.mpr 'a'
 dsimp [c1]
 by_cases h6:how=6
 ·subst h6
  obtain⟨last,lr,lh,el⟩:∃r,bp n r/\r≠(upTo n).reverse/\((((R.of (xM (D.lst (aU rs)) (D.lst []))).bind dX).bind fun zd=>if zd=true then R.of (iC (aU rs) (-1))else(iG [D.int n]).bind fun uR=>R.ok (D.lst uR)))=.ok (.lst (aI r)):=by
   cases rs with
   |nil=>
    refine⟨upTo n,El n,Im 'a',?_⟩
    rw[jm _ 'a',toNat_natCast,g4]
    rfl
   |cons r rs=>
    have hx:=List.getLast_mem (cons_ne_nil r rs)
    refine⟨(r::rs).getLast (cons_ne_nil _ _),(hr _ hx).1,(hr _ hx).2,?_⟩
    rw[CY,pW (x:=.lst (aI ((r::rs).getLast (cons_ne_nil _ _)))) (by unfold aU;rw[getLast?_map,List.getLast?_eq_some_getLast (cons_ne_nil _ _)];rfl)]
    rfl
  dsimp [beq_self_eq_true]
  rw[el]
  dsimp
  rw[uL _ _ 'a']
  obtain⟨ov,eo,op,ol,om⟩:=Pf hn.2 lr lh
  dsimp [eZ,eo,R.gU]
  rw[dg 'a']
  dsimp [bf]
  rw[dF _ _ 'a']
  dsimp
  have q0:=emod_nonneg far (show(ov.length:Int)≠0 by omega)
  have q1:=emod_lt_of_pos far (show(0:Int)<ov.length by omega)
  rw[ed q0 q1]
  dsimp
  have hk:=om (aa ov (far%ov.length).toNat) (mem_of_getElem? (dh 'a'))
  generalize aa ov (far%ov.length).toNat=k at hk
  rw[jm _ 'a',toNat_natCast,g4]
  have ul:=aw n
  dsimp [AW]
  rw[CW 'a' (by rw[bf];omega)]
  dsimp
  rw[tm 'a' (by rw[length_set,bf];omega)]
  dsimp
  rw[AL,AL]
  cases rs with
  |nil=>
   dsimp [show aU []=[]from rfl,Pg]
   rw[qF hn.2]
   dsimp
   exact⟨_,[(upTo n).reverse],rfl,fun r z=>by rw[mem_singleton.mp z,length_reverse];omega,by simp⟩
  |cons r rs=>
   dsimp [CY]
   generalize hz:((upTo n).set (k-1).toNat k).set k.toNat (k-1)=zr
   have zl:zr.length=n:=by rw[<-hz,length_set,length_set,ul]
   rw[show[D.lst (aI zr)]=aU [zr]from rfl,vp,qG (by rw[length_append];simp -implicitDefEqProofs only [length_cons,length_nil]at hl⊢;omega)]
   dsimp
   refine⟨_,(r::rs)++[zr],rfl,fun x hx=>?_,by rw[length_append];simp -implicitDefEqProofs only [length_cons,length_nil]at hl⊢;omega⟩
   rcases mem_append.mp hx with hx|hx
   ·exact hlen x hx
   ·rw[mem_singleton.mp hx];omega
 have d6:(how==6)=false:=beq_eq_false_iff_ne.mpr h6
 dsimp [d6]
 have put:∀r:List Int,r.length<64->∃I8,fit (cut (aU rs) none (some at_)++aU [r])=.ok (aU (cut rs none (some at_)++[r]))/\fit (aU (cut rs none (some at_)++[r])++cut (aU rs) (some at_) none)=.ok (aU I8)/\(∀r∈I8,r.length<64)/\I8.length<1000:=fun r hx=>by
  rw[Ae,Ae,vp,vp,AK _ _ ha.1,xQ _ _ ha.1]
  have e1:(rs.take at_.toNat++[r]).length<=102:=by rw[length_append,length_take,length_singleton];omega
  have e2:(rs.take at_.toNat++[r]++rs.drop at_.toNat).length<=300:=by rw[length_append,length_drop];omega
  refine⟨rs.take at_.toNat++[r]++rs.drop at_.toNat,qG 'a',qG 'a',fun x hz=>?_,by omega⟩
  rcases mem_append.mp hz with hz|hz
  ·rcases mem_append.mp hz with hz|hz
   ·exact hlen x (mem_of_mem_take hz)
   ·rw[mem_singleton.mp hz];exact hx
  ·exact hlen x (mem_of_mem_drop hz)
 by_cases h7:how=7
 ·subst h7
  dsimp [beq_self_eq_true]
  rw[mC _ _ (by decide),mC _ _ (by decide)]
  dsimp
  rw[show[D.int far,.int (far/7),.int (far/49),.int at_]=aI [far,far/7,far/49,at_]from rfl,Vj _ n hn.2]
  dsimp
  obtain⟨I8,p1,p2,p3,p4⟩:=put (zm [far,far/7,far/49,at_] n) (by rw[(yK _ n).len];omega)
  dsimp [show∀x:D,nW 0 [Sl.val x]=[Sl.val x]from fun _=>rfl]
  rw[show[D.lst (aI (zm [far,far/7,far/49,at_] n))]=aU [zm [far,far/7,far/49,at_] n]from rfl]
  dsimp [p1,p2]
  exact⟨_,_,rfl,p3,p4⟩
 have d7:(how==7)=false:=beq_eq_false_iff_ne.mpr h7
 dsimp [d7]
 by_cases h8:how=8/\1<at_
 ·obtain⟨rfl,h9⟩:=h8
  obtain⟨x,mx,ex,fx⟩:=Af (rs:=rs) (i:=at_-2) 'a' 'a'
  obtain⟨y,my,ey,fy⟩:=Af (rs:=rs) (i:=at_-1) 'a' 'a'
  have st:∀(l:List (List Int))(i:Nat)(r:List Int),(aU l).set i (.lst (aI r))=aU (l.set i r):=fun l i r=>map_set.symm
  dsimp [beq_self_eq_true,h9,decide_true,fx,fy,AW]
  rw[CW 'a' (by rw[rq];omega)]
  dsimp
  rw[tm 'a' (by rw[length_set,rq];omega)]
  dsimp [st]
  refine⟨_,_,rfl,fun r hz=>?_,by rw[length_set,length_set];omega⟩
  rcases List.mem_or_eq_of_mem_set hz with hz|rfl
  ·rcases List.mem_or_eq_of_mem_set hz with hz|rfl
   ·exact hlen r hz
   ·exact hlen _ mx
  ·exact hlen _ my
 ·have e8:(if(how==8)=true then R.ok (decide (1<at_))else R.ok false)=R.ok false:=by
   by_cases z:how=8
   ·rw[if_pos (beq_iff_eq.mpr z),decide_eq_false fun y=>h8 ⟨z,y⟩]
   ·rw[if_neg (by rw[beq_iff_eq];exact z)]
  rw[e8]
  dsimp
  rw[dF _ _ (by decide)]
  dsimp
  obtain⟨r,er,zr⟩:=Vk (n:=n) 'a' (how:=how%6) (far:=far)
  obtain⟨I8,p1,p2,p3,p4⟩:=put r zr
  dsimp [er]
  rw[show[D.lst (aI r)]=aU [r]from rfl]
  dsimp [p1,p2]
  exact⟨_,_,rfl,p3,p4⟩
theorem Rn(n:Nat)(f:Nat->Nat):S n (fun i=>f (n-1-i))=S n f:=by
 induction n with
 |zero=>rfl
 |succ n ih=>
  rw[F7,jY,<-ih]
  rw[show n+1-1-0=n by omega,Nat.add_comm]
  congr 1
  exact gD fun i _=>by rw[show n+1-1-(i+1)=n-1-i by omega]
def T2(n:Nat):Nat:=S n fun q=>S n fun p=>if p<q then 1 else 0
theorem MC{n:Nat}{r s:List Int}(h:Iv n r s):iN (fl n s)+iN s=T2 n:=by
 rw[zW,zW,oX,h.ls,<-Cw]
 unfold T2
 refine gD fun q hq=>?_
 rw[<-Cw]
 refine gD fun p hp=>?_
 by_cases hpq:p<q
 ·rw[if_pos hpq,if_pos hpq,if_pos hpq,uo (by rw[h.ls];exact hq),uo (by rw[h.ls];exact hp)]
  have hne:aa s p≠aa s q:=fun z=>by
   have:=h.IZ hp hq z
   omega
  repeat' split
  all_goals omega
 ·rw[if_neg hpq,if_neg hpq,if_neg hpq]
theorem GY{n:Nat}{r s:List Int}(h:Iv n r s):iN s.reverse+iN s=T2 n:=by
 have e1:iN s.reverse=S n fun q=>S n fun p=>if p<q then(if aa s p<aa s q then 1 else 0)else 0:=by
  rw[zW,length_reverse,h.ls,Ly n n fun q p=>if p<q then(if aa s p<aa s q then 1 else 0)else 0,<-Rn n fun p=>S n fun q=>if p<q then(if aa s p<aa s q then 1 else 0)else 0]
  refine gD fun q hq=>?_
  rw[<-Rn n fun q_1=>if n-1-q<q_1 then(if aa s (n-1-q)<aa s q_1 then 1 else 0)else 0]
  refine gD fun p hp=>?_
  rw[fV (by rw[h.ls];exact hq),fV (by rw[h.ls];exact hp),h.ls]
  by_cases hpq:p<q
  ·have hq2:n-1-q<n-1-p:=by omega
   rw[if_pos hpq,if_pos hq2]
  ·have hq2:¬n-1-q<n-1-p:=by omega
   rw[if_neg hpq,if_neg hq2]
 rw[e1,zW,h.ls,<-Cw]
 unfold T2
 refine gD fun q hq=>?_
 rw[<-Cw]
 refine gD fun p hp=>?_
 by_cases hpq:p<q
 ·rw[if_pos hpq,if_pos hpq,if_pos hpq]
  have hne:aa s p≠aa s q:=fun z=>by
   have:=h.IZ hp hq z
   omega
  repeat' split
  all_goals omega
 ·rw[if_neg hpq,if_neg hpq,if_neg hpq]
def Nh(k:Int):Int:=if 0<k then 1 else-1
def vq(w:List Int):Int:=(w.map Nh).sum
theorem Bj(a b:List Int):vq (a++b)=vq a+vq b:=by unfold vq;rw[map_append,sum_append]
def lM(h:Int)(o:List Int):List Int:=if h%2=0 then o else o.reverse
theorem CZ(h:Int)(o:List Int):(lM h o).length=o.length:=by unfold lM;split<;>simp
theorem gj(o r:List Int):(cmp o r).length=r.length:=by unfold cmp;exact length_map _
theorem GZ:∀(w o:List Int),(mZ w o).length=o.length
 |[],o=>rfl
 |k::w,o=>by
  show(mZ w (jc o _)).length=_
  rw[GZ w,jB]
theorem Vl{n:Nat}{o:List Int}(h:o.length=n):cmp o (upTo n)=o:=by
 refine cH (by rw[gj,aw,h]) fun t ht=>?_
 rw[gj,aw]at ht
 rw[dM (by rw[aw];exact ht),aO ht,toNat_natCast]
theorem G0{n:Nat}{o:List Int}(h:o.length=n)(w:List Int):mZ w o=cmp o (mZ w (upTo n)):=by
 conv=>lhs;rw[<-Vl h]
 unfold cmp
 exact Bg _ w _
theorem uq(a b o:List Int):mZ (a++b) o=mZ b (mZ a o):=foldl_append
theorem Vm{n:Nat}{o r s:List Int}(h:o.length=n)(i:Iv n r s):cmp o.reverse (fl n s)=cmp o s:=by
 refine cH (by rw[gj,gj,oX]) fun t ht=>?_
 rw[gj,oX,i.ls]at ht
 obtain⟨a1,a2,_⟩:=i.sr t ht
 rw[dM (by rw[oX,i.ls];exact ht),dM (by rw[i.ls];exact ht),uo (by rw[i.ls];exact ht),fV (by rw[h];omega),h]
 congr 1
 omega
theorem MD{n:Nat}{r s:List Int}(h:Iv n r s)(hr:Iv n r.reverse (kY r.reverse)):iN (fl n r.reverse)=iN r:=by
 have e1:=MC hr.symm
 have e2:=GY h.symm
 omega
theorem C0{n:Nat}{o r s:List Int}(h:o.length=n)(i:Iv n r s):cmp o.reverse (fl n r.reverse)=(cmp o r).reverse:=by
 refine cH (by rw[gj,oX,length_reverse,length_reverse,gj]) fun t ht=>?_
 rw[gj,oX,length_reverse,i.lr]at ht
 obtain⟨a1,a2,_⟩:=i.rs (n-1-t) 'a'
 have e1:aa r.reverse t=aa r (n-1-t):=by rw[fV (by rw[i.lr];exact ht),i.lr]
 have e2:aa (cmp o r).reverse t=aa (cmp o r) (n-1-t):=by rw[fV (by rw[gj,i.lr];exact ht),gj,i.lr]
 rw[dM (by rw[oX,length_reverse,i.lr];exact ht),uo (by rw[length_reverse,i.lr];exact ht),e1,e2,fV (by rw[h];omega),h,dM (by rw[i.lr];omega)]
 congr 1
 omega
def mw(n:Nat)(h:Int)(r:List Int):List Int:=if h%2=0 then r else fl n r.reverse
theorem Ip{n:Nat}(h:Int){r:List Int}(hr:bp n r):bp n (mw n h r):=by
 unfold mw
 split
 ·exact hr
 ·exact Mq (GK hr)
theorem Ir{n:Nat}(h:Int){r:List Int}(hr:bp n r):iN (mw n h r)=iN r:=by
 unfold mw
 split
 ·rfl
 ·exact MD (jr hr) (jr (GK hr))
theorem Iu{n:Nat}(h g:Int){o r:List Int}(ho:o.length=n)(hr:bp n r):cmp (lM (g+h) o) (mw n h r)=lM h (cmp (lM g o) r):=by
 unfold mw lM
 by_cases c:h%2=0
 ·rw[if_pos c,if_pos c]
  by_cases d:g%2=0
  ·rw[if_pos d,if_pos 'a']
  ·rw[if_neg d,if_neg 'a']
 ·rw[if_neg c,if_neg c]
  by_cases d:g%2=0
  ·rw[if_pos d,if_neg 'a',C0 ho (jr hr)]
  ·rw[if_neg d,if_pos 'a']
   have:=C0 (o:=o.reverse) (by rw[length_reverse];exact ho) (jr hr)
   rw[reverse_reverse]at this
   exact this
abbrev hS(qs:List (Int×List Int)):Int:=(qs.map (·.1)).sum
def eY(n:Nat):List (Int×List Int)->List (List Int)
 |[]=>[]
 |q::qs=>mw n (hS qs) q.2::eY n qs
def ME(o:List Int)(qs:List (Int×List Int)):List Int:=qs.foldl (fun o q=>cmp (lM q.1 o) q.2) o
theorem vv(n:Nat):∀qs,(eY n qs).length=qs.length
 |[]=>rfl
 |q::qs=>by show(eY n qs).length+1=_;rw[vv n qs];rfl
theorem Ag{n:Nat}:∀(qs:List (Int×List Int)),(∀q∈qs,bp n q.2)->∀r∈eY n qs,bp n r
 |[],_,r,hr=>nomatch hr
 |q::qs,h,r,hr=>by
  rcases mem_cons.mp hr with rfl|hr
  ·exact Ip _ (h q (by simp))
  ·exact Ag qs (fun x hx=>h x (by simp[hx])) r hr
theorem Ah{n:Nat}:∀(qs:List (Int×List Int))(o:List Int),(∀q∈qs,bp n q.2)->o.length=n->zk (lM (hS qs) o) (eY n qs)=ME o qs
 |[],o,_,_=>by
  show lM 0 o=o
  rfl
 |q::qs,o,h,ho=>by
  have hq:=h q (by simp)
  have ih:=Ah qs (cmp (lM q.1 o) q.2) (fun x hx=>h x (by simp[hx])) (by rw[gj,hq.len])
  show zk (cmp (lM (hS (q::qs)) o) (mw n (hS qs) q.2)) (eY n qs)=ME (cmp (lM q.1 o) q.2) qs
  rw[<-ih,show hS (q::qs)=q.1+hS qs from rfl,Iu _ _ ho hq]
theorem Ai{n:Nat}:∀(qs:List (Int×List Int)),(∀q∈qs,bp n q.2)->kK (eY n qs)=kK (qs.map (·.2))
 |[],_=>rfl
 |q::qs,h=>by
  have ih:=Ai qs fun x hx=>h x (by simp[hx])
  have e:∀(r:List Int)(R:List (List Int)),kK (r::R)=iN r+kK R:=fun r R=>by unfold kK;rw[map_cons,sum_cons]
  show kK (mw n (hS qs) q.2::eY n qs)=kK (q.2::qs.map (·.2))
  rw[e,e,ih,Ir _ (h q (by simp))]
abbrev vx(k:Int):Int:=if k<0 then-k else k
theorem Ro{n:Nat}{k:Int}(h:xY n k):∃a:Nat,vx k=(a:Int)+1/\a+1<n:=by
 unfold xY at h
 unfold vx
 split
 ·exact⟨(-k-1).toNat,by omega,by omega⟩
 ·exact⟨(k-1).toNat,by omega,by omega⟩
theorem Vn{n:Nat}{p:List Int}(h:∀k∈p,xY n k):Ps n (p.map vx):=fun k hk=>by
 obtain⟨x,hx,rfl⟩:=mem_map.mp hk
 exact Ro (h x hx)
theorem MF(a b:Bool):xM (.bl a) (.bl b)=some (.bl (!(a==b))):=rfl
theorem Ph:B4 []=some []:=rfl
theorem C1{α:Type}(l:List α)(x y:α):(l++[x]).set l.length y=l++[y]:=by simp
structure Gp(n:Nat)(p:List Int):Prop where
 ne:p≠[]
 x:∀k∈p,xY n k
 sg:(∀k∈p,0<k)\/∀k∈p,k<0
 le:∃z,gB (p.map vx) (upTo n)=some z
structure Vo(n i:Nat)(u:List Int)(oy:List (List Int))(o:List Int)(s:Bool):Prop where
 len:oy.length<=i
 lo:o.length=n
 good:∀p∈oy,Gp n p/\p.length<=i
 fla:oy.flatten=u
 last:oy=[]\/∃ini cur,oy=ini++[cur]/\(∀k∈cur,s=decide (0<k))/\gB (cur.map vx) (upTo n)=some o
theorem xn{i:Nat}{env:DE}{a v:Int}{l:List Int}(h:0<=a)(h2:a<l.length):sy i env (.int v) (aI l) (.int a)=.ok (.nx (env.set i (.own (aI (l.set a.toNat v))))):=by
 rw[tm h (by rw[bf];exact h2)]
 unfold aI
 rw[map_set]
theorem G1{l:List Int}{a:Nat}(h:a+1<l.length):(l.set (a+1) (aa l a)).set a (aa l (a+1))=jc l a:=by
 refine cH (by rw[length_set,length_set,jB]) fun j hj=>?_
 rw[length_set,length_set]at hj
 rw[yd (by rw[length_set];exact hj),yd hj,nJ _ _ h]
 repeat' split
 all_goals first|rfl|omega|(subst_vars;rfl)
theorem Vp{n i:Nat}(hn:n<=7)(hi:i<100){oy:List (List Int)}{o:List Int}{s:Bool}{u:List Int}(J:Vo n i u oy o s){k:Int}(hk:xY n k)(s1 s5 s6 s7:Sl):
  ∃Y2 o' s' t5 t6 t7,qo (.int k) [.val (.int n),s1,.deep (.ls oy),.own (aI o),.val (.bl s),s5,s6,s7]=.ok (.nx [.val (.int n),s1,.deep (.ls Y2),.own (aI o'),.val (.bl s'),t5,t6,t7])/\Vo n (i+1) (u++[k]) Y2 o' s':=by
 obtain⟨a,ea,ha⟩:=Ro hk
 have lo:=J.lo
 have hlen:=J.len
 have at1:iC (aI o) ((a:Int)+1-1)=some (.int (aa o a)):=by rw[ed 'a' 'a',show((a:Int)+1-1).toNat=a by omega]
 have at2:iC (aI o) ((a:Int)+1)=some (.int (aa o (a+1))):=by rw[ed 'a' 'a',show((a:Int)+1).toNat=a+1 by omega]
 have ku:iC (aI (upTo n)) ((a:Int)+1-1)=some (.int (aa (upTo n) a)):=by rw[ed 'a' (by rw[aw];omega),show((a:Int)+1-1).toNat=a by omega]
 have ku2:iC (aI (upTo n)) ((a:Int)+1)=some (.int (aa (upTo n) (a+1))):=by rw[ed 'a' (by rw[aw];omega),show((a:Int)+1).toNat=a+1 by omega]
 have hgk:Gp n [k]:=⟨by simp,fun x hx=>by rw[mem_singleton.mp hx];exact hk,by
  unfold xY at hk
  by_cases c:0<k
  ·exact .inl fun x hx=>by rw[mem_singleton.mp hx];exact c
  ·exact .inr fun x hx=>by rw[mem_singleton.mp hx];omega,⟨jc (upTo n) a,by
   show gB [vx k] (upTo n)=_
   rw[ea,kL (n:=n),if_neg (by rw[aO 'a',aO 'a'];omega)]
   rfl⟩⟩
 have hkl:gB [vx k] (upTo n)=some (jc (upTo n) a):=by
  rw[ea,kL (n:=n),if_neg (by rw[aO 'a',aO 'a'];omega)]
  rfl
 by_cases hnew:oy=[]\/s≠decide (0<k)\/aa o (a+1)<aa o a
 ·refine⟨oy++[[k]],jc (upTo n) a,decide (0<k),.val (.int k),.val (.int ((a:Int)+1)),.val (.int (aa (upTo n) (a+1))),?_,⟨by simp;omega,by rw[jB,aw],fun p hp=>?_,by rw[flatten_append,J.fla];simp,.inr ⟨oy,[k],rfl,fun x hx=>by rw[mem_singleton.mp hx],hkl⟩⟩⟩
  ·have MG:(if(((oy.length:Nat):Int)==0)=true then R.ok true else if(!(s==decide (0<k)))=true then R.ok true else R.ok (decide (aa o (a+1)<aa o a)):R Bool)=.ok true:=by
    rcases hnew with h|h|h
    ·rw[if_pos (by rw[h];rfl)]
    ·split
     ·rfl
     ·rw[if_pos (by simpa using h)]
    ·rw[decide_eq_true h]
     repeat' split
     all_goals rfl
   unfold qo
   simp_all only [dA,mS,mD,mF,eI,aJ,reduceAdd,reduceSub,reduceEqDiff,reduceIte,ah,ai,aC,aD,aE,aF,Ms,MF,ea,at1,at2,length_map,MG,lB,lC,Ph]
   rw[GQ 'a']
   dsimp [lB,lC,vo]
   rw[ig n hn]
   dsimp [lB,lC,vo]
   rw[GO (by simp)]
   dsimp [ku,ku2]
   rw[xn 'a' (by rw[aw];omega)]
   dsimp
   rw[xn 'a' (by rw[length_set,aw];omega)]
   dsimp
   rw[show((a:Int)+1).toNat=a+1 by omega,show((a:Int)+1-1).toNat=a by omega,G1 (by rw[aw];omega),C1]
  ·rcases mem_append.mp hp with h|h
   ·exact⟨(J.good p h).1,by have:=(J.good p h).2;omega⟩
   ·rw[mem_singleton.mp h]
    exact⟨hgk,by simp⟩
 ·have h1:oy≠[]:=fun z=>hnew (.inl z)
  have h2:s=decide (0<k):=byContradiction fun z=>hnew (.inr (.inl z))
  have h3:¬aa o (a+1)<aa o a:=fun z=>hnew (.inr (.inr z))
  obtain⟨ini,cur,rfl,hs,hl⟩:=J.last.resolve_left h1
  obtain⟨gc,gl⟩:=J.good cur (by simp)
  have Y3:gB ((cur++[k]).map vx) (upTo n)=some (jc o a):=by
   rw[map_append,map_cons,map_nil,z9,hl,ea]
   show gB [(a:Int)+1] o=_
   rw[kL (n:=n),if_neg h3]
   rfl
  refine⟨ini++[cur++[k]],jc o a,s,.val (.int k),.val (.int ((a:Int)+1)),.val (.int (aa o (a+1))),?_,⟨by simp at hlen⊢;omega,by rw[jB,lo],fun p hp=>?_,by have:=J.fla;rw[flatten_append]at this⊢;rw[<-this];simp,.inr ⟨ini,cur++[k],rfl,fun x hx=>?_,Y3⟩⟩⟩
  ·have MG:(if((((ini++[cur]).length:Nat):Int)==0)=true then R.ok true else if(!(s==decide (0<k)))=true then R.ok true else R.ok (decide (aa o (a+1)<aa o a)):R Bool)=.ok false:=by
    rw[if_neg (by simp;omega),h2,if_neg (by simp),decide_eq_false h3]
   unfold qo
   simp_all only [dA,reduceIte,ah,ai,aC,aD,aE,aF,Ms,MF,ea,at1,at2,length_map,MG,lB,lC,vo]
   rw[GO 'a']
   dsimp [at1,at2]
   rw[xn 'a' 'a']
   dsimp
   rw[xn 'a' (by rw[length_set];omega)]
   dsimp
   rw[show((a:Int)+1).toNat=a+1 by omega,show((a:Int)+1-1).toNat=a by omega,G1 'a',C1]
  ·rcases mem_append.mp hp with h|h
   ·exact⟨(J.good p (by simp[h])).1,by have:=(J.good p (by simp[h])).2;omega⟩
   ·rw[mem_singleton.mp h]
    refine⟨⟨by simp,fun x hx=>?_,?_,⟨_,Y3⟩⟩,by rw[length_append,length_singleton];omega⟩
    ·rcases mem_append.mp hx with q|q
     ·exact gc.x x q
     ·rw[mem_singleton.mp q];exact hk
    ·have Sv:=hk
     unfold xY at Sv
     by_cases c:0<k
     ·refine .inl fun x hx=>?_
      rcases mem_append.mp hx with q|q
      ·have:=hs x q
       rw[h2,decide_eq_true c]at this
       exact of_decide_eq_true this.symm
      ·rw[mem_singleton.mp q];exact c
     ·refine .inr fun x hx=>?_
      rcases mem_append.mp hx with q|q
      ·have:=hs x q
       rw[h2,decide_eq_false c]at this
       have:=of_decide_eq_false this.symm
       have:=(gc.x x q).1
       omega
      ·rw[mem_singleton.mp q];omega
  ·rcases mem_append.mp hx with q|q
   ·exact hs x q
   ·rw[mem_singleton.mp q];exact h2
theorem Vq{n:Nat}(hn:n<=7){w:List Int}(hw:∀k∈w,xY n k)(hl:w.length<=100):∃oy:List (List Int),Cp [.int n,.lst (aI w)]=.ok oy/\oy.flatten=w/\oy.length<=w.length/\∀p∈oy,Gp n p/\p.length<=w.length:=by
 unfold Cp QT mT
 simp_all
 rw[ig n hn]
 dsimp
 obtain⟨⟨oy,o,s,t5,t6,t7⟩,e,hj⟩:=sj (S:=List (List Int)×List Int×Bool×Sl×Sl×Sl) (b:=qo) (fun i q=>Vo n i (w.take i) q.1 q.2.1 q.2.2.1)
  (fun q=>[.val (.int n),.val (.lst (aI w)),.deep (.ls q.1),.own (aI q.2.1),.val (.bl q.2.2.1),q.2.2.2.1,q.2.2.2.2.1,q.2.2.2.2.2]) (aI w) 0 ([],upTo n,false,.no,.no,.no)
  ⟨Nat.le_refl _,aw n,(fun p hp=>nomatch hp),rfl,.inl rfl⟩ (by
   rintro j ⟨oy,o,s,t5,t6,t7⟩ x hs hx
   obtain⟨k,hk,rfl⟩:=AZ hx
   have U6:j<w.length:=(List.getElem?_eq_some_iff.mp hk).1
   obtain⟨p1,o1,s1,u5,u6,u7,e,hJ⟩:=Vp hn (show 0+j<100 by omega) hs (hw k (mem_of_getElem? hk)) (.val (.lst (aI w))) t5 t6 t7
   refine⟨(p1,o1,s1,u5,u6,u7),e,?_⟩
   rw[zero_add]at hJ⊢
   rw[Cg hk]
   exact hJ)
 dsimp only at e hj
 rw[e]
 rw[zero_add,bf]at hj
 dsimp [lB,lC,KH]
 exact⟨oy,rfl,by rw[hj.fla,take_length],hj.len,hj.good⟩
theorem Iw(w:List Int)(hw:w.length<=1000):qi [.lst (aI w)]=.ok (aI (w.reverse.map fun k=> -k)):=by
 unfold qi Ck
 simp_all [AM,eZ]
 rw[sF (fun k=> -k) w.reverse fun k _=>⟨_,dA _ _ _,rfl,rfl⟩]
 dsimp [R.gU]
 rw[dg (by rw[length_map,length_reverse];omega)]
 dsimp [jM]
def Dv(q:Int×List Int):D:=.tup [.int q.1,.lst (aI q.2)]
structure StP(n:Nat)(p:List Int)(q:Int×List Int):Prop where
 h:q.1=0\/q.1= -1
 r:bp n q.2
 o:∀o:List Int,o.length=n->cmp (lM q.1 o) q.2=mZ (p.map vx) o
 c:q.1*(T2 n:Int)+(iN q.2:Int)=vq p
theorem MH:∀{p:List Int},(∀k∈p,0<k)->vq p=p.length
 |[],_=>rfl
 |k::p,h=>by
  have ih:=MH (p:=p) fun x hx=>h x (by simp[hx])
  unfold vq at ih⊢
  rw[map_cons,sum_cons,ih,length_cons]
  unfold Nh
  rw[if_pos (h k (by simp))]
  omega
theorem MI:∀{p:List Int},(∀k∈p,k<0)->vq p= -(p.length:Int)
 |[],_=>rfl
 |k::p,h=>by
  have ih:=MI (p:=p) fun x hx=>h x (by simp[hx])
  have:=h k (by simp)
  unfold vq at ih⊢
  rw[map_cons,sum_cons,ih,length_cons]
  unfold Nh
  rw[if_neg 'a']
  omega
theorem Pj{n:Nat}(hn:n<=7){p:List Int}(g:Gp n p)(hl:p.length<=1000):∃q,nG [.int n,.lst (aI p)]=.ok (Dv q)/\StP n p q:=by
 obtain⟨k0,p',rfl⟩:=List.exists_cons_of_ne_nil g.ne
 obtain⟨z,hz⟩:=g.le
 have hp:=Vn g.x
 have at0:iC (aI (k0::p')) 0=some (.int k0):=by rw[tj,tw (by decide)];rfl
 unfold nG zV
 simp_all [at0]
 rcases g.sg with hs|hs
 ·have e:(k0::p').map vx=k0::p':=by
   conv=>rhs;rw[<-map_id (k0::p')]
   refine map_congr_left fun x hx=>?_
   have:=hs x hx
   show(if x<0 then-x else x)=x
   rw[if_neg 'a']
  rw[e]at hp hz
  simp_all [decide_eq_true (hs k0 (by simp)),Aa hn hp hz]
  obtain⟨w1,w2⟩:=qE (k0::p') _ _ z hp (pN n) hz
  refine⟨(0,z),rfl,⟨.inl rfl,yH (GJ hp hz),fun o ho=>?_,?_⟩⟩
  ·rw[e,G0 ho,<-w1]
   rfl
  ·rw[MH hs]
   dsimp only
   rw[w2,O5 n 'a']
   omega
 ·have e:(k0::p').map vx=(k0::p').map fun k=> -k:=map_congr_left fun x hx=>by
   have:=hs x hx
   show(if x<0 then-x else x)= -x
   rw[if_pos this]
  rw[e]at hp hz
  have hk0:=hs k0 (by simp)
  have hr:=Mp hp hz
  rw[<-map_reverse]at hr
  have Zj:Ps n ((k0::p').reverse.map fun k=> -k):=fun x hx=>hp x (by
   rw[map_reverse,mem_reverse]at hx
   exact hx)
  simp_all [decide_eq_false (show¬0<k0 by omega),Iw _ hl,Aa hn Zj hr]
  have iv:=GJ Zj hr
  unfold jA rQ
  simp_all [Ih iv hn]
  have es:mZ ((k0::p').reverse.map fun k=> -k).reverse (upTo n)=mZ ((k0::p').map vx) (upTo n):=by rw[e,map_reverse,reverse_reverse]
  rw[es]at iv⊢
  obtain⟨w1,w2⟩:=qE ((k0::p').map fun k=> -k) _ _ z hp (pN n) hz
  rw[<-e]at w1
  refine⟨(-1,fl n (mZ ((k0::p').map vx) (upTo n))),rfl,⟨.inr rfl,Mq (yH iv.symm),fun o ho=>?_,?_⟩⟩
  ·show cmp o.reverse (fl n (mZ ((k0::p').map vx) (upTo n)))=_
   rw[Vm ho iv,<-G0 ho]
  ·rw[MI hs]
   dsimp only
   have e1:=MC iv
   rw[<-w1]at e1⊢
   rw[w2,O5 n 'a',length_map]at e1
   omega
theorem yL{n:Nat}(hn:n<=7):∀(ps:List (List Int)),(∀p∈ps,Gp n p/\p.length<=1000)->∃qs:List (Int×List Int),cG (bN 0) gS cP (jf 1 [.int n]) (ps.map fun ns=>D.lst (ns.map D.int))=.ok (qs.map Dv)/\qs.length=ps.length/\
  (∀q∈qs,(q.1=0\/q.1= -1)/\bp n q.2)/\(∀o:List Int,o.length=n->ME o qs=mZ (ps.flatten.map vx) o)/\hS qs*(T2 n:Int)+(kK (qs.map (·.2)):Int)=vq ps.flatten
 |[],_=>⟨[],rfl,rfl,(fun q hq=>nomatch hq),(fun o _=>rfl),by show(0:Int)*_+0=0;rw[Int.zero_mul];rfl⟩
 |p::ps,h=>by
  obtain⟨qs,e1,e2,e3,e8,e9⟩:=yL hn ps fun x hx=>h x (by simp[hx])
  obtain⟨q,e4,e5⟩:=Pj hn (h p (by simp)).1 (h p (by simp)).2
  refine⟨q::qs,?_,by rw[length_cons,length_cons,e2],fun x hx=>?_,fun o ho=>?_,?_⟩
  ·rw[map_cons]
   unfold cG
   rw[e1]
   have e6:cP [.val (.lst (aI p)),.val (.int n)]=.ok (Dv q):=by
    unfold cP
    simp_all [e4]
   rw[dA,R.bF,show gS _=.ok true from rfl,R.bF,if_pos rfl]
   have e7:cP (List.set (jf 1 [.int n]) 0 (.val (.lst (p.map D.int))))=.ok (Dv q):=e6
   rw[e7]
   rfl
  ·rcases mem_cons.mp hx with rfl|hx
   ·exact⟨e5.h,e5.r⟩
   ·exact e3 x hx
  ·show ME (cmp (lM q.1 o) q.2) qs=_
   rw[e5.o o ho,e8 _ (by rw[GZ,ho]),flatten_cons,map_append,uq]
  ·have hc:=e5.c
   have e:kK (q.2::qs.map (·.2))=iN q.2+kK (qs.map (·.2)):=by unfold kK;rw[map_cons,sum_cons]
   show(q.1+hS qs)*(T2 n:Int)+(kK (q.2::qs.map (·.2)):Int)=_
   rw[e,flatten_cons,Bj,<-hc,<-e9,Int.add_mul]
   omega
theorem G2:∀(l:List Int)(a:Nat),jc (jc l a) a=l
 |[],a=>by cases a<;>rfl
 |[x],0=>rfl
 |x::y::l,0=>rfl
 |x::l,a+1=>by rw[vV,vV,G2 l a]
theorem Pk(k:Int):vx (-k)=vx k:=by unfold vx;split<;>split<;>omega
theorem Pn{k:Int}(h:k≠0):Nh (-k)= -Nh k:=by unfold Nh;split<;>split<;>omega
theorem Iz{k:Int}(h:k≠0)(s:List Int):vq (kg s k)=vq s+Nh k/\∀o,mZ ((kg s k).map vx) o=mZ ((s++[k]).map vx) o:=by
 unfold kg
 have e1:∀k,vq [k]=Nh k:=fun k=>by simp[vq]
 split
 ·rename_i hl
  have hne:s≠[]:=fun z=>by rw[z]at hl;cases hl
  have Au:s.dropLast++[-k]=s:=by
   have:=List.dropLast_concat_getLast hne
   rw[List.getLast?_eq_some_getLast hne]at hl
   rw[Option.some.inj hl]at this
   exact this
  have h2:vq s=vq s.dropLast+Nh (-k):=by
   conv=>lhs;rw[<-Au]
   rw[Bj,e1]
  refine⟨by rw[h2,Pn h];omega,fun o=>?_⟩
  conv=>rhs;rw[<-Au]
  rw[map_append,map_append,uq,uq]
  show _=jc (jc _ (vx (-k)-1).toNat) (vx k-1).toNat
  rw[Pk,G2]
 ·exact⟨by rw[Bj,e1],fun o=>rfl⟩
theorem Aj:∀(w s:List Int),(∀k∈w,k≠0)->vq (jS s w)=vq s+vq w/\∀o,mZ ((jS s w).map vx) o=mZ ((s++w).map vx) o
 |[],s,_=>⟨by simp[jS,vq],fun o=>by rw[append_nil];rfl⟩
 |k::w,s,h=>by
  obtain⟨p1,p2⟩:=Iz (h k (by simp)) s
  obtain⟨t1,t2⟩:=Aj w (kg s k) fun x hx=>h x (by simp[hx])
  have e:vq (k::w)=Nh k+vq w:=by unfold vq;rw[map_cons,sum_cons]
  refine⟨?_,fun o=>?_⟩
  ·show vq (jS (kg s k) w)=_
   rw[t1,p1,e]
   omega
  ·show mZ ((jS (kg s k) w).map vx) o=_
   rw[t2,map_append,uq,p2,<-uq,<-map_append,List.append_assoc]
   rfl
theorem MJ{n:Nat}(hn:n<=7){w:List Int}(hw:∀k∈w,xY n k)(hl:w.length<=40):∃qs:List (Int×List Int),eg [.int n,.lst (aI w)]=.ok (.lst (qs.map Dv))/\qs.length<=w.length/\
  (∀q∈qs,(q.1=0\/q.1= -1)/\bp n q.2)/\(∀o:List Int,o.length=n->ME o qs=mZ (w.map vx) o)/\hS qs*(T2 n:Int)+(kK (qs.map (·.2)):Int)=vq w:=by
 have VB:=yI w []
 simp -implicitDefEqProofs only [length_nil]at VB
 obtain⟨t1,t2⟩:=Aj w [] fun k hk=>(hw k hk).1
 obtain⟨oy,e1,ef,e2,e3⟩:=Vq hn (w:=jS [] w) (fun k hk=>by
  rcases CU w [] k hk with h|h
  ·cases h
  ·exact hw k h) 'a'
 obtain⟨qs,e4,e5,e6,e7,e8⟩:=yL hn oy fun p hp=>⟨(e3 p hp).1,by have:=(e3 p hp).2;omega⟩
 rw[ef]at e7 e8
 refine⟨qs,?_,by omega,e6,fun o ho=>by rw[e7 o ho,t2];rfl,by rw[e8,t1];show 0+vq w=_;omega⟩
 unfold eg pF
 simp_all [EF w 'a',e1,R.gU,eZ,e4]
 rw[qb (by rw[length_map];exact big 'a')]
 dsimp
theorem Po{n:Nat}(hn:n<=7)(h:Int){r:List Int}(hr:bp n r):gy [.int h,.lst (aI r)]=.ok (aI (mw n h r)):=by
 unfold gy rP mw
 simp_all
 rw[dF _ _ (by decide)]
 dsimp
 by_cases c:h%2=0
 ·rw[if_pos c]
  dsimp [show(h%2==0)=true by rw[beq_iff_eq];exact c,jM]
 ·rw[if_neg c]
  dsimp [show(h%2==0)=false by rw[beq_eq_false_iff_ne];exact c,ED hr.len hn,jM]
theorem Pp{n:Nat}(hn:n<=7){qs:List (Int×List Int)}(hq:∀q∈qs,bp n q.2)(hl:qs.length<=100):bx [.lst (qs.map Dv)]=.ok (eY n qs):=by
 unfold bx jP mT
 simp_all
 obtain⟨⟨rs,h,t3⟩,e,hj1,OZ⟩:=sj (S:=List (List Int)×Int×Sl) (b:=dH) (fun i q=>q.1=(eY n (qs.drop (qs.length-i))).reverse/\q.2.1=hS (qs.drop (qs.length-i)))
  (fun q=>[.val (.lst (qs.map Dv)),.deep (.ls q.1),.val (.int q.2.1),q.2.2]) (qs.map Dv).reverse 0 ([],0,.no) ⟨by rw[sub_zero,drop_length];rfl,by rw[sub_zero,drop_length];rfl⟩ (by
   rintro j ⟨rs,h,t3⟩ x ⟨hs1,hs2⟩ hx
   rw[zero_add]at hs1 hs2⊢
   dsimp only at hs1 hs2
   have U6:j<(qs.map Dv).reverse.length:=(List.getElem?_eq_some_iff.mp hx).1
   rw[length_reverse,length_map]at U6
   rw[getElem?_reverse (by rw[length_map];exact U6),length_map,getElem?_map,getElem?_eq_getElem (show qs.length-1-j<qs.length by omega)]at hx
   have Dy:x=Dv (qs[qs.length-1-j]' 'a'):=(Option.some.inj hx).symm
   have hd:qs.drop (qs.length-(j+1))=(qs[qs.length-1-j]' 'a')::qs.drop (qs.length-j):=by
    rw[show qs.length-(j+1)=qs.length-1-j by omega,List.drop_eq_getElem_cons 'a',show qs.length-1-j+1=qs.length-j by omega]
   have hqm:(qs[qs.length-1-j]' 'a')∈qs:=getElem_mem _
   generalize (qs[qs.length-1-j]' 'a')=q at Dy hd hqm
   obtain⟨hh,r⟩:=q
   subst Dy
   have e1:=Po hn h (hq _ hqm)
   have hlen:rs.length<=100:=by rw[hs1,length_reverse,vv,length_drop];omega
   refine⟨(rs++[mw n h r],h+hh,.val (Dv (hh,r))),?_,?_,?_⟩
   ·unfold dH
    have a1:iC [D.int hh,.lst (aI r)] 1=some (.lst (aI r)):=rfl
    have a0:iC [D.int hh,.lst (aI r)] 0=some (.int hh):=rfl
    simp_all only [dA,reduceIte,ah,ai,aC,aD,aE,aF,Dv,lB,lC,a1,a0,e1,uM]
    rw[GQ 'a']
    dsimp [a0,HA]
   ·show rs++[mw n h r]=_
    rw[hd,hs1,hs2]
    show _=(mw n (hS (qs.drop (qs.length-j))) r::eY n (qs.drop (qs.length-j))).reverse
    rw[reverse_cons]
   ·show h+hh=_
    rw[hd,hs2]
    show _=hh+hS (qs.drop (qs.length-j))
    omega)
 dsimp only at e hj1 OZ
 rw[e]
 rw[zero_add,length_reverse,length_map,sub_self,drop_zero]at hj1
 dsimp [lB,lC,KH,hj1,reverse_reverse]
theorem C3{n:Nat}(hn:n<=7):∀(rs:List (List Int))(R:List RP),(∀r∈rs,bp n r)->Gm n R->(∀o:List Int,o.length=n->zk o ((rs.foldl (fun R r=>iO n R (r,kY r)) R).map (·.1))=zk o (R.map (·.1)++rs))/\kK ((rs.foldl (fun R r=>iO n R (r,kY r)) R).map (·.1))=kK (R.map (·.1))+kK rs
 |[],R,_,_=>⟨fun o _=>by rw[append_nil];rfl,by simp[kK]⟩
 |r::rs,R,hr,h=>by
  have iv:=jr (hr r (by simp))
  obtain⟨a1,a2⟩:=OV hn (pN n) (O5 n 'a') (c:=(r,kY r)) h.iv iv
  obtain⟨b1,b2⟩:=C3 hn rs (iO n R (r,kY r)) (fun x hx=>hr x (by simp[hx])) (LV hn (pN n) h iv)
  have e:kK (r::rs)=iN r+kK rs:=by unfold kK;rw[map_cons,sum_cons]
  refine⟨fun o ho=>?_,?_⟩
  ·show zk o ((rs.foldl (fun R r=>iO n R (r,kY r)) (iO n R (r,kY r))).map (·.1))=_
   rw[b1 o ho,oE,a1 o ho,<-oE,List.append_assoc]
   rfl
  ·show kK ((rs.foldl (fun R r=>iO n R (r,kY r)) (iO n R (r,kY r))).map (·.1))=_
   rw[b2,a2,e]
   show _+iN r+_=_
   omega
theorem MK(qs:List (Int×List Int)):cG (bN 0) k9 lg (jf 1 []) (qs.map Dv)=.ok (aI (qs.map (·.1))):=by
 rw[kH (fun d=>match d with
  |.tup (x::_)=>x
  |_=>.non) _ fun x hx=>by
   obtain⟨q,hq,rfl⟩:=mem_map.mp hx
   exact⟨_,dA _ _ _,rfl,rfl⟩]
 unfold aI
 rw[map_map,map_map]
 rfl
theorem ML(n:Nat):Iv n (qX n).1 (qX n).2:=by
 have c:∀p,p<n->aa (upTo n).reverse p=((n-1-p:Nat):Int):=fun p hp=>by
  rw[fV (by rw[aw];exact hp),aw,aO 'a']
 have h:∀p,p<n->0<=aa (upTo n).reverse p/\aa (upTo n).reverse p<n/\aa (upTo n).reverse (aa (upTo n).reverse p).toNat=p:=fun p hp=>by
  rw[c p hp,toNat_natCast,c _ 'a']
  exact⟨by omega,by omega,by omega⟩
 exact⟨by show(upTo n).reverse.length=n;rw[length_reverse,aw],by show(upTo n).reverse.length=n;rw[length_reverse,aw],h,h⟩
theorem MM{n:Nat}{o:List Int}(h:o.length=n):cmp o (upTo n).reverse=o.reverse:=by
 refine cH (by rw[gj,length_reverse,length_reverse,aw,h]) fun t ht=>?_
 rw[gj,length_reverse,aw]at ht
 rw[dM (by rw[length_reverse,aw];exact ht),fV (by rw[aw];exact ht),aw,aO 'a',toNat_natCast,fV (by rw[h];exact ht),h]
theorem C4(a b:Int)(o:List Int):lM a (lM b o)=lM (a+b) o:=by
 unfold lM
 by_cases c:a%2=0
 ·rw[if_pos c]
  by_cases d:b%2=0
  ·rw[if_pos d,if_pos 'a']
  ·rw[if_neg d,if_neg 'a']
 ·rw[if_neg c]
  by_cases d:b%2=0
  ·rw[if_pos d,if_neg 'a']
  ·rw[if_neg d,if_pos 'a',reverse_reverse]
theorem Ak{n:Nat}:∀(m:Nat)(o:List Int),o.length=n->zk o ((replicate m (qX n)).map (·.1))=lM m o
 |0,o,_=>rfl
 |m+1,o,h=>by
  rw[replicate_succ,map_cons]
  show zk (cmp o (upTo n).reverse) _=_
  rw[MM h,Ak m _ (by rw[length_reverse];exact h),show o.reverse=lM 1 o from rfl,C4]
  congr 1
theorem Al{n:Nat}(hc:iN (upTo n).reverse=T2 n):∀m:Nat,(kK ((replicate m (qX n)).map (·.1)):Int)=m*(T2 n:Int)
 |0=>by rw[show((0:Nat):Int)=0 from rfl,Int.zero_mul];rfl
 |m+1=>by
  have e:∀(r:List Int)(R:List (List Int)),kK (r::R)=iN r+kK R:=fun r R=>by unfold kK;rw[map_cons,sum_cons]
  rw[replicate_succ,map_cons,e]
  show((iN (upTo n).reverse+kK _:Nat):Int)=_
  rw[hc,Int.natCast_add,Al hc m,Int.natCast_add,Int.add_mul]
  omega
theorem MN{n:Nat}(hn:n<8):iN (upTo n).reverse=T2 n:=by
 have:=GY (pN n)
 rw[O5 n hn]at this
 omega
structure FmS(n:Nat)(w:List Int)(h:Int)(R:List RP):Prop where
 ln:Gm n R
 nh:∀x∈R,x≠qX n
 or:zk (lM h (upTo n)) (R.map (·.1))=mZ (w.map vx) (upTo n)
 cr:h*(T2 n:Int)+(kK (R.map (·.1)):Int)=vq w
 bd: -(w.length:Int)<=h/\h<=w.length
 le:R.length<=40
theorem CI.app:∀{A B:List RP},CI (A++B)->CI A
 |[],B,_=>trivial
 |[p],B,_=>trivial
 |q::p::A,B,h=>⟨h.1,CI.app (A:=p::A) h.2⟩
theorem Pq{n:Nat}(h1:1<=n)(hn:n<=7){w:List Int}(hw:∀k∈w,xY n k)(hl:w.length<=40):∃h R,yh [.int n,.lst (aI w)]=.ok (.tup [.int h,.lst (R.map fun p=>.lst (aI p.1))])/\FmS n w h R:=by
 obtain⟨qs,e1,e2,e3,e7,e8⟩:=MJ hn hw hl
 have hq2:∀q∈qs,bp n q.2:=fun q hq=>(e3 q hq).2
 have e4:=Pp hn hq2 'a'
 have e5:=vv n qs
 have e6:=Ag qs hq2
 have l0:Gm n []:=⟨(fun x hx=>nomatch hx),trivial,(fun x hx=>nomatch hx)⟩
 have hL:Gm n (iP n (eY n qs)):=Gn hn (pN n) (eY n qs) [] e6 l0
 obtain⟨p1,p2⟩:=C3 hn (eY n qs) [] e6 l0
 have hcl:=tW n (eY n qs) []
 rw[length_nil]at hcl
 have O4:(iP n (eY n qs)).length<=qs.length:=by
  show((eY n qs).foldl (fun R r=>iO n R (r,kY r)) []).length<=qs.length
  omega
 have p1':∀o:List Int,o.length=n->zk o ((iP n (eY n qs)).map (·.1))=zk o (eY n qs):=p1
 have p2':kK ((iP n (eY n qs)).map (·.1))=kK (eY n qs):=by
  have:kK ((iP n (eY n qs)).map (·.1))=0+kK (eY n qs):=p2
  omega
 have hsb: -(qs.length:Int)<=hS qs/\hS qs<=0:=by
  clear e1 e4 e5 e6 hL p1 p2 hcl O4 p1' p2' e7 e8 e2 hq2
  induction qs with
  |nil=>exact⟨Int.le_refl _,Int.le_refl _⟩
  |cons q qs ih=>
   have:=ih fun x hx=>e3 x (by simp[hx])
   have:=(e3 q (by simp)).1
   rw[show hS (q::qs)=q.1+hS qs from rfl,length_cons]
   omega
 generalize hR:iP n (eY n qs)=C at*
 have hcn:mH n C<=C.length:=List.Sublist.length_le (List.takeWhile_sublist _)
 have Au:=CJ (n:=n) C
 have hrest:=Ia (ML n) hL
 refine⟨mH n C+hS qs,C.drop (mH n C),?_,⟨⟨fun x hx=>hL.iv x (mem_of_mem_drop hx),?_,fun x hx=>hL.ns x (mem_of_mem_drop hx)⟩,hrest,?_,?_,by omega,by rw[length_drop];omega⟩⟩
 ·unfold yh L4
  simp_all [e1]
  have e9:eu [.int n,.lst (qs.map Dv)]=R.ne (Gv [.val (.int n),.val (.lst (qs.map Dv)),.no,.no,.val (vX n C)]>=>ah):=by
   show R.ne (R.bind (bx [.lst (qs.map Dv)]) _)=_
   rw[e4,R.bF]
   refine congrArg R.ne ((if_pos ⟨⟨by omega,by omega⟩,by omega,e6⟩).trans ?_)
   rw[toNat_natCast,hR]
  rw[e9]
  unfold Gv vX
  have a0:∀(x y:D),iC [x,y] 0=some x:=fun _ _=>rfl
  have a1:∀(x y:D),iC [x,y] 1=some y:=fun _ _=>rfl
  dsimp [a0,a1,eZ,MK,R.gU]
  rw[dg (by rw[length_map];omega)]
  dsimp [zO,uM,map_some]
 ·have:=hL.lw
  rw[Au,List.reverse_append]at this
  exact this.app
 ·have h2:=p1' (lM (hS qs) (upTo n)) (by rw[CZ,aw])
  rw[Ah qs (upTo n) hq2 (aw n),e7 _ (aw n)]at h2
  rw[<-h2]
  conv=>rhs;rw[Au]
  rw[map_append,oE,Ak _ _ (by rw[CZ,aw]),C4]
 ·rw[Ai qs hq2]at p2'
  have h3:kK (C.map (·.1))=kK ((replicate (mH n C) (qX n)).map (·.1))+kK ((C.drop (mH n C)).map (·.1)):=by
   conv=>lhs;rw[Au]
   rw[map_append,tX]
  have h4:=Al (MN (show n<8 by omega)) (mH n C)
  rw[<-e8,<-p2',h3,Int.natCast_add,h4,Int.add_mul]
  omega
theorem MO(cells:List Int)(hc:cells.length<=63):∃t:List Int,t.length<=63/\cG (bT 2 (lT (bN 0) (lT (bN 1) AH))) qr kW (jf 2 []) (fE (aI cells))=.ok (aI t):=by
 refine⟨(fE (aI cells)).map fun d=>match d with|.tup [.int k,.int c]=>uS c k 16807|_=>0,by rw[length_map];unfold fE;rw[length_map,length_zipIdx,bf];exact hc,?_⟩
 rw[kH (fun d=>.int (match d with|.tup [.int k,.int c]=>uS c k 16807|_=>0)) _ fun x hx=>by
  obtain⟨i,hi,e⟩:=getElem_of_mem hx
  obtain⟨y,hy,rfl⟩:=uI (i:=i) (d:=x) (by rw[getElem?_eq_getElem hi,e])
  have hz:(aI cells)[i]?=(cells[i]?).map D.int:=by unfold aI;rw[getElem?_map]
  have hi2:i<cells.length:=by
   have:(fE (aI cells)).length=cells.length:=by unfold fE;rw[length_map,length_zipIdx,bf]
   omega
  rw[hz,getElem?_eq_getElem hi2]at hy
  obtain rfl:=Option.some.inj hy
  refine⟨_,rfl,rfl,?_⟩
  unfold kW jf
  simp_all [List.append_eq]
  exact AX _ _ _ 'a' (by decide)]
 unfold aI
 rw[map_map]
 rfl
theorem Pr{cells:List Int}{n:Int}(hc:cells.length<=63)(hn:1<=n):∃w:List Int,jQ [.lst (aI cells),.int n,.int 12]=.ok (.lst (aI w))/\(∀k∈w,xY n k)/\w.length<=12:=by
 unfold jQ vU
 simp_all
 rw[qR,AK _ _ (by decide),Lc _ _ _ (by rw[length_take];omega) 'a' (by decide)]
 dsimp [bf]
 generalize hw:AY (cells.take (63:Int).toNat) n 189=w
 have hx:∀k∈w,xY n k:=hw▸Lb
 by_cases h:(w.length:Int)<=12
 ·refine⟨w,?_,hx,by omega⟩
  dsimp [h,decide_true]
 ·obtain⟨t,ht,e⟩:=MO cells hc
  dsimp [h,decide_false,eZ,e,R.gU]
  rw[dg 'a']
  dsimp [zO,uM,map_some,bf]
  rw[dF _ _ 'a']
  dsimp
  have m0:=emod_nonneg t.sum (show(w.length:Int)-12+1≠0 by omega)
  have m1:=emod_lt_of_pos t.sum (show(0:Int)<(w.length:Int)-12+1 by omega)
  generalize t.sum%((w.length:Int)-12+1)=a at m0 m1
  rw[qR]
  refine⟨_,rfl,fun k hk=>hx k ?_,?_⟩
  ·unfold cut at hk
   exact mem_of_mem_drop (mem_of_mem_take hk)
  ·unfold cut
   rw[n8 _ _ _ m0,n8 _ _ _ 'a',length_take]
   omega
def Jq:D->Prop
 |.int _=>True
 |.bl _=>True
 |.str _=>True
 |.non=>True
 |_=>False
def VV:Nat->D->Prop
 |0,d=>Jq d
 |n+1,d=>match d with
  |.lst xs=>∀x∈xs,VV n x
  |.tup xs=>∀x∈xs,VV n x
  |d=>Jq d
theorem qH{d:D}(h:Jq d):PZ d d=some true:=by
 cases d<;>first|exact h.elim|simp[PZ]
theorem vz{f:D->D->Option Bool}:∀(xs:List D),(∀x∈xs,f x x=some true)->rG f xs xs=some true
 |[],_=>rfl
 |x::xs,h=>by
  unfold rG
  rw[h x (by simp),vz xs fun y hy=>h y (by simp[hy])]
  rfl
theorem yM:∀(n:Nat)(d:D),VV n d->vP n d d=some true
 |0,d,h=>qH h
 |n+1,d,h=>by
  cases d with
  |lst xs=>
   unfold vP
   dsimp only
   rw[if_pos rfl]
   exact vz xs fun x hx=>yM n x (h x hx)
  |tup xs=>
   unfold vP
   dsimp only
   rw[vz xs fun x hx=>yM n x (h x hx)]
   simp
  |non=>exact qH (d:=.non) h
  |bl b=>exact qH (d:=(.bl b)) h
  |int i=>exact qH (d:=(.int i)) h
  |str x=>exact qH (d:=(.str x)) h
  |exc _=>exact h.elim
  |fn _=>exact h.elim
theorem Pu(n:Nat)(ns:List Int):VV (n+1) (.lst (aI ns)):=fun x hx=>by
 obtain⟨i,_,rfl⟩:=mem_map.mp hx
 cases n<;>trivial
theorem Pw(n:Nat)(M:List (List Int)):VV (n+2) (.lst (aU M)):=fun x hx=>by
 obtain⟨ns,_,rfl⟩:=mem_map.mp hx
 exact Pu n ns
theorem MP(rs:List (List Int)):cG (bN 0) CK yi (jf 1 []) (aU rs)=.ok (aU rs):=by
 rw[kH id _ fun x hx=>by
   obtain⟨r,hr,rfl⟩:=mem_map.mp hx
   refine⟨_,dA _ _ _,rfl,?_⟩
   unfold yi jf
   simp_all
   rfl,map_id]
theorem MQ{n:Nat}{Z:List RP}(hL:Gm n Z):∀(B A:List RP),Z=A++B->mr (B.map (·.1))
 |[],_,_=>trivial
 |[_],_,_=>trivial
 |p::q::B,A,e=>by
  have hp:=hL.iv p (by rw[e];simp)
  have hq:=hL.iv q (by rw[e];simp)
  refine⟨?_,MQ hL (q::B) (A++[p]) (by rw[e];simp)⟩
  have e1:(p.1,kY p.1)=p:=Prod.ext rfl ((jr (yH hp)).symm.uniq hp.symm)
  have e2:(q.1,kY q.1)=q:=Prod.ext rfl ((jr (yH hq)).symm.uniq hq.symm)
  show kX (p.1,kY p.1) (q.1,kY q.1)=[]
  rw[e1,e2]
  exact hL.nb e
theorem rz{n:Nat}{w:List Int}{h:Int}{Z:List RP}(F:FmS n w h Z):∀r∈Z.map (·.1),bp n r/\r≠upTo n/\r≠(upTo n).reverse:=fun r hr=>by
 obtain⟨q,hq,rfl⟩:=mem_map.mp hr
 have iq:=F.ln.iv q hq
 have hi:Iv n (upTo n) (upTo n):=pN n
 refine⟨yH iq,fun e=>?_,fun e=>?_⟩
 ·have i2:=iq
  rw[e]at i2
  exact UW (F.ln.ns q hq) (Prod.ext e (i2.symm.uniq hi.symm))
 ·have i2:=iq
  rw[e]at i2
  exact F.nh q hq (Prod.ext e (i2.symm.uniq (ML n).symm))
theorem IA{n:Nat}{w:List Int}{h:Int}{Z:List RP}(F:FmS n w h Z)(h0:n=1->h=0):oY n h (Z.map (·.1)):=
 ⟨h0,fun r hr=>⟨Cv (rz F r hr).1,(rz F r hr).2⟩,MQ F.ln Z [] rfl⟩
theorem C5(h:Int)(rs:List (List Int)):xM (.tup [.int h,.lst (aU rs)]) (.tup [.int h,.lst (aU rs)])=some (.bl false):=by
 unfold xM
 rw[yM]
 ·rfl
 ·show∀x∈[_,_],VV 5 x
  intro x hx
  rcases mem_cons.mp hx with rfl|hx
  ·trivial
  ·rw[mem_singleton.mp hx]
   exact Pw 3 rs
theorem Am{n:Nat}(hn:1<=n/\n<=7){h:Int}{rs:List (List Int)}(hr:∀r∈rs,r.length<64)(hl:rs.length<1000)(hf:oY n h rs):cO [.int n,.tup [.int h,.lst (aU rs)]]=.ok (.bl true):=by
 have e:=(yJ hn h hr hl).1 hf
 unfold cO
 rw[e]
 rfl
theorem vA{n:Nat}(hn:1<=n/\n<=7){sd h:Int}{rs:List (List Int)}(hr:∀r∈rs,bp n r/\r≠(upTo n).reverse)(hl:rs.length<=100)(hf:oY n h rs){j:Int}(hj:0<=j/\j<3)(s0 s4 s5 s6 s7 s8:Sl):
  ∃t4 t5 t6 t7 t8,yj (.int j) [s0,.val (.int sd),.val (.int n),.val (.tup [.int h,.lst (aU rs)]),s4,s5,s6,s7,s8]=.ok (.nx [s0,.val (.int sd),.val (.int n),.val (.tup [.int h,.lst (aU rs)]),t4,t5,t6,t7,t8]):=by
 have a0:∀(x y:D),iC [x,y] 0=some x:=fun _ _=>rfl
 have a1:∀(x y:D),iC [x,y] 1=some y:=fun _ _=>rfl
 have hlen:∀r∈rs,r.length<64:=fun r hx=>by have:=(hr r hx).1.len;omega
 unfold yj
 simp_all only [dA,mS,mD,mF,eI,aJ,reduceAdd,reduceSub,reduceEqDiff,reduceIte,ah,ai,aC,aD,aE,aF]
 rw[AX _ _ _ 'a' (by decide)]
 have m0:=Ei sd (11+j) 40692
 generalize uS sd (11+j) 40692=dr at m0
 dsimp
 rw[dF _ _ (by decide),mC _ _ (by decide),mC _ _ (by decide)]
 dsimp [a0,a1,rq]
 rw[dF _ _ 'a']
 dsimp
 have q0:=emod_nonneg (dr/9) (show(rs.length:Int)+1≠0 by omega)
 have q1:=emod_lt_of_pos (dr/9) (show(0:Int)<(rs.length:Int)+1 by omega)
 obtain⟨h',I8,es,sl,sn⟩:=Io hn h hr hl (how:=dr%9) (at_:=dr/9%((rs.length:Int)+1)) (far:=dr/64) ⟨q0,by omega⟩
 rw[es]
 dsimp [a0,a1,eZ,MP,R.gU,qG (show I8.length<=1000 by omega)]
 rw[mC _ _ (by decide)]
 dsimp
 rw[dF _ _ (by decide)]
 have ck:=Am hn hlen 'a' hf
 have kn:uP (.bl true) (.bl true)=some (.bl false):=rfl
 dsimp [ck,kn]
 rw[show(if(dr/16%2==0)=true then R.ok false else R.ok false)=R.ok false by split<;>rfl]
 dsimp
 obtain⟨i1,i2⟩:=EI hn h' sl
 by_cases g:oY n h' I8
 ·have cg:=Am hn sl sn g
  dsimp [i1 g,cg,ck,kn,Bool.not_true,C5]
  exact⟨_,_,_,_,_,rfl⟩
 ·dsimp [i2 g,EH hn sl sn g,Bool.not_true,Bool.not_false,ck,kn,C5]
  exact⟨_,_,_,_,_,rfl⟩
theorem Y4(ns:List Int)(hl:ns.length<=63):yk [.lst (aI ns)]=.ok (.bl true):=by
 unfold yk Q0
 simp_all [Kc]
 rw[show bX [.lst (aI ns),.int 0]=.ok (.int (aa ns 0))from GX ns 0]
 dsimp
 rw[dF _ _ (by decide)]
 dsimp [Ej]
 generalize aa ns 0%1000000000=sd
 obtain⟨n1,n7⟩:=Cf sd
 generalize nk sd=n0 at n1 n7
 obtain⟨n,rfl⟩:∃n:Nat,n0=n:=⟨n0.toNat,by omega⟩
 obtain⟨w,ew,hx,hw⟩:=Pr (cells:=ns) (n:=n) hl 'a'
 obtain⟨h,Z,ef,F⟩:=Pq (n:=n) 'a' 'a' hx 'a'
 have hb:=F.bd
 have h0:n=1->h=0:=fun e=>by
  subst e
  cases w with
  |nil=>simp -implicitDefEqProofs only [length_nil]at hb;omega
  |cons k w=>have:=hx k (by simp);unfold xY at this;omega
 dsimp [ew,ef]
 rw[Kg _ (by decide),show je 0 (Int.toNat 3)=[.int 0,.int 1,.int 2]from rfl]
 dsimp
 have zr:(Z.map fun p=>D.lst (aI p.1))=aU (Z.map (·.1)):=by unfold aU;rw[map_map];rfl
 rw[zr]
 have hr:∀r∈Z.map (·.1),bp n r/\r≠(upTo n).reverse:=fun r hr=>⟨(rz F r hr).1,(rz F r hr).2.2⟩
 have hl2:(Z.map (·.1)).length<=100:=by rw[length_map];have:=F.le;omega
 have hf:=IA F h0
 generalize Z.map (·.1)=rs at hr hl2 hf
 have hn:1<=n/\n<=7:=by omega
 obtain⟨t4,t5,t6,t7,t8,e1⟩:=vA hn (sd:=sd) hr hl2 hf (j:=0) 'a' (.val (.lst (aI ns))) .no .no .no .no .no
 obtain⟨u4,u5,u6,u7,u8,e2⟩:=vA hn (sd:=sd) hr hl2 hf (j:=1) 'a' (.val (.lst (aI ns))) t4 t5 t6 t7 t8
 obtain⟨v4,v5,v6,v7,v8,e3⟩:=vA hn (sd:=sd) hr hl2 hf (j:=2) 'a' (.val (.lst (aI ns))) u4 u5 u6 u7 u8
 rw[ja e1,ja e2,ja e3]
 rfl
theorem Vr{K:'b'}{H:Hp}{a:Addr}(ns:List Int)(hl:ns.length<=63)(hS:cV K H a (ns.map V.int)):Fq K IU yk [.ref a] H (fun v _=>v=.bl true) fun _ _ _=>False:=XR (Y4 ns hl) hS
end DL
namespace DL.qx
open PySem PySem.Spec PyProof.Rows L2 DL
section
variable{P:Program}{w:World}{K:'b'}{mg:Str->Option Value}{base:Heap}(t:Tb K mg)
theorem IB:lH P w K mg base 1 t.t9 t.uc ["word"] qi:=by
 have h:=rH (P:=P) (w:=w) (base:=base) (k:=0) Es t.yt fun cdv A outer s H E hr=>
  (aW (ng (p8 (Hz (N:=["k"]) (nt:=1) (caps:=[]) (ae vc) ["word"] (by decide +kernel)) rfl (xH (iV t.fU (nD 0))) (Kp.ok (uO (nt:=1) 0)) (fun _ _ _ _ _=>(uu 0 (by show Nodup (["k"]:List Str);decide +kernel))) (fun _ _ _ _ _=>PX) (fun _ _ _ _ _=>(Fi gP eR (nB 0))))))
 exact h
theorem EK:lH P w K mg base 1 t.qY t.qZ ["word"] nq:=by
 have h:=rH (P:=P) (w:=w) (base:=base) (k:=0) qy t.vg fun cdv A outer s H E hr=>
  (aH (vM 1 (jT bw) qy.nd)
  (aH (uH PassesOwn.never rfl (iL (nD 0)) (uu 2 qy.nd) (aW (p7 (ph (aX kN jl (PE.aB (gw bQ cQ t.ie cX (ar (nB 1) aZ))) (PE.aB cI) (aG _)) (p6 (aX (cJ (aY.u6 hr)) bC (PE.aB (wR (nL 1) (PE.aB (Fi gP eR (PE.aB cI))))) (PE.aB (Fi gP eR (nB 2))) (aG _)))).pt (aW (Xl 1)) (aW (Xk 1 (nD 2))))))
  (aW (Ft 1))))
 exact h
theorem C6:lH P w K mg base 1 t.fK t.fM ["n"] bG:=by
 have h:=rH (P:=P) (w:=w) (base:=base) (k:=0) A8 t.dz fun cdv A outer s H E hr=>
  (aW (ng (uK rfl t.eM t.du (ar (nB 0) aZ))))
 exact h
theorem Px:lH P w K mg base 1 t.yv t.yw ["n"] sE:=by
 have h:=rH (P:=P) (w:=w) (base:=base) (k:=0) L5 t.vh fun cdv A outer s H E hr=>
  (aW (ng (Oo rfl t.eM t.du (ar (PE.aB (bc bz bq (nB 0) (PE.aB cI))) (ar (PE.aB (Fi gP eR (PE.aB cI))) (ar (PE.aB (Fi gP eR (PE.aB cI))) aZ))))))
 exact h
theorem Bk:lH P w K mg base 1 t.g7 t.g8 ["row"] cK:=by
 have h:=rH (P:=P) (w:=w) (base:=base) (k:=0) jC t.g9 fun cdv A outer s H E hr=>
  (aH (vM 1 (abj (jT (au cI bw)) (PE.aB (gw bQ cQ t.ie cX (ar (nB 0) aZ)))) jC.nd)
  (aH (uH PassesOwn.never rfl (iE t.mh (nD 0)) (gT2 2 rfl (qT (uu 2 jC.nd) (qT (uu 3 jC.nd) D1))) (aW (AI 1 (nB 3) (nD 2))))
  (aW (Ft 1))))
 exact h
theorem MR:lH P w K mg base 1 t.q8 t.q9 ["row"] lW:=by
 have h:=rH (P:=P) (w:=w) (base:=base) (k:=0) Ib t.oK fun cdv A outer s H E hr=>
  (aW (ng (p8 (Hz (N:=["k","row"]) (nt:=1) (caps:=[0]) (ae yn) ["row"] (by decide +kernel)) rfl (xH (Zn t.du (ar (PE.aB cI) (ar (PE.aB (gw bQ cQ t.ie cX (ar (nB 0) aZ))) aZ)))) (Kp.ok (uO (nt:=1) 0)) (fun _ _ _ _ _=>(uu 0 (by show Nodup (["k","row"]:List Str);decide +kernel))) (fun _ _ _ _ _=>(Zp (aX kN jl (PE.aB (wR (nL 1) (PE.aB (bc bz bq (nB 0) (PE.aB cI))))) (PE.aB (wR (nL 1) (nB 0))) (aG _)))) (fun _ _ _ _ _=>(nD 0)))))
 exact h
theorem nV:lH P w K mg base 1 t.bA t.bB ["row","k"] aV:=by
 have h:=rH (P:=P) (w:=w) (base:=base) (k:=0) mJ t.bh fun cdv A outer s H E hr=>
  (aW (ng (xF (PE.lK (xF (PE.lK (kQ (nL 0) M0 (wq (PE.aB (bc bz bq (nB 1) (PE.aB cI)))))) (PE.lK (jT (au (wR (nL 0) (nB 1)) (au (wR (nL 0) (PE.aB (bc bz bq (nB 1) (PE.aB cI)))) bw)))))) (PE.lK (kQ (nL 0) (wq (PE.aB (bc fj bW (nB 1) (PE.aB cI)))) M0)))))
 exact h
theorem yN:lH P w K mg base 1 t.jE t.jF ["row"] gx:=by
 have h:=rH (P:=P) (w:=w) (base:=base) (k:=0) wA t.mO fun cdv A outer s H E hr=>
  (aW (ng (p8 (Hz (N:=["string","row"]) (nt:=1) (caps:=[0]) (ae lj) ["row"] (by decide +kernel)) rfl (xH (iV t.fU (nD 0))) (Kp.ok (uO (nt:=1) 0)) (fun _ _ _ _ _=>(uu 0 (by show Nodup (["string","row"]:List Str);decide +kernel))) (fun _ _ _ _ _=>PX) (fun _ _ _ _ _=>(bc bz bq (PE.aB (bc bz bq (PE.aB (gw bQ cQ t.ie cX (ar (nB 1) aZ))) (PE.aB cI))) (nB 0))))))
 exact h
theorem EL:Ok P w K mg base 1 t.rf t.rg ["crossings"] nz:=by
 have h:=N8 (P:=P) (w:=w) (base:=base) (k:=0) lY t.hU fun cdv A outer s H E hr=>
  (aH (gq 1 cI lY.nd)
  (aH (uH PassesOwn.never rfl (iL (nD 0)) (uu 2 lY.nd) (aW (Ql 1 XJ (PE.aB (bc R3 Ot (PE.aB cI) (PE.aB (bc bz bq (nB 2) (PE.aB cI))))) lY.nd)))
  (aW (cZ (nD 1)))))
 exact h
theorem C7:Ok P w K mg base 1 t.gW t.gX ["_law_cell","_law_k","_law_factor"] cM:=by
 have h:=N8 (P:=P) (w:=w) (base:=base) (k:=0) A9 t.jv fun cdv A outer s H E hr=>
  (aW (cZ (bc jw jy (PE.aB (bc dw bU (PE.aB (bc DB AE (PE.aB (bc fj bW (PE.aB (bc fj bW (PE.aB (bc DB AE (PE.aB (bc dw bU (nB 0) (PE.aB cI))) (PE.aB cI))) (PE.aB (bc DB AE (nB 1) (nB 1))))) (PE.aB cI))) (nB 2))) (PE.aB cI))) (PE.aB cI))))
 exact h
theorem wD:Ok P w K mg base 1 t.fQ t.fR ["_law_script","_law_k"] bX:=by
 have h:=N8 (P:=P) (w:=w) (base:=base) (k:=0) ve t.iS fun cdv A outer s H E hr=>
  (aH (p7 (aX sO se (nB 1) (PE.aB (gw bQ cQ t.ie cX (ar (nB 0) aZ))) (aG _)) (aW (cZ (wR (nL 0) (nB 1)))) fZ)
  (aW (cZ cI)))
 exact h
theorem wF:Ok P w K mg base 1 t.iT t.iU ["_law_seed","_law_least","_law_most"] fG:=by
 have h:=N8 (P:=P) (w:=w) (base:=base) (k:=0) nN t.lu fun cdv A outer s H E hr=>
  (aH (p7 (ph (aX (cJ (aY.u6 hr)) bC (nB 1) (PE.aB cI) (aG _)) (p6 (aX (cJ (aY.u6 hr)) bC (PE.aB (bc dw bU (nB 0) (PE.aB cI))) (PE.aB cI) (aG _)))).pt (aW (cZ cI)) fZ)
  (aH (gq 1 (gw (Hf rfl) JM t.Q2 S4 (ar (PE.aB cI) (ar (nB 1) aZ))) nN.nd)
  (aW (cZ (bc fj bW (nB 1) (PE.aB (bc dw bU (PE.aB (bc jw jy (nB 0) (PE.aB cI))) (PE.aB (bc fj bW (PE.aB (bc bz bq (nB 2) (nB 1))) (PE.aB cI))))))))))
 exact h
theorem vB:Ok P w K mg base 1 t.gI t.gJ ["_law_number","_law_n"] ee:=by
 have h:=N8 (P:=P) (w:=w) (base:=base) (k:=0) lZ t.j5 fun cdv A outer s H E hr=>
  (aH (gq 2 (bc fj bW (PE.aB cI) (PE.aB (bc dw bU (nB 0) (PE.aB (bc bz bq (nB 1) (PE.aB cI)))))) lZ.nd)
  (aH (p7 (aX (cJ (aY.u6 hr)) bC (PE.aB (bc dw bU (PE.aB (bc jw jy (nB 0) (PE.aB cI))) (PE.aB cI))) (PE.aB cI) (aG _)) (aW (cZ (Fi gP eR (nB 2)))) fZ)
  (aW (cZ (nD 2)))))
 exact h
theorem wG:Ok P w K mg base 1 t.iW t.iX ["_law_found","_law_n"] dG:=by
 have h:=N8 (P:=P) (w:=w) (base:=base) (k:=0) dO t.ly fun cdv A outer s H E hr=>
  (aH (p7 (rE (rM (uF (PE.aB (DY JY BZ t.bJ t.Bd (nB 0))))) (rE (aX (kR (aY.u6 hr)) iF (PE.aB (gw bQ cQ t.ie cX (ar (nB 0) aZ))) (PE.aB cI) (aG _)) (wo (rM (uF (PE.aB (DY FD lS t.bJ t.eM (PE.aB (AF (nD 0) (PE.aB cI)))))))))).pt (aW (cZ Bs)) fZ)
  (aH (p7 (rE (rM (uF (PE.aB (DY JX JZ t.bJ t.Mb (PE.aB (AF (nD 0) (PE.aB cI))))))) (rE (uF (PE.aB (DY FA FE t.bJ t.Ey (PE.aB (AF (nD 0) (PE.aB cI)))))) (wo (ph (aX (cJ (aY.u6 hr)) bC (nB 1) (PE.aB cI) (aG _)) (p6 (aX (kR (aY.u6 hr)) iF (PE.aB (AF (nD 0) (PE.aB cI))) (PE.aB cI) (aG _)))).pt))).pt (aW (cZ Bs)) fZ)
  (aH (gq 2 cN dO.nd)
  (aH (uH PassesOwn.never rfl (iL (AF (nD 0) (PE.aB cI))) (uu 3 dO.nd) (aH (p7 (rE (rM (uF (PE.aB (DY FD lS t.bJ t.eM (nB 3))))) (wo (aX (kR (aY.u6 hr)) iF (PE.aB (PE.bV (p8 (Hz (N:=["_law_s"]) (nt:=1) (caps:=[]) (ae jZ) ["_law_found","_law_n","_law_last","_law_one","_law_k"] (by decide +kernel)) rfl (xH (iL (nD 3))) (Kp.ok (uO (nt:=1) 0)) (fun _ _ _ _ _=>(uu 0 (by show Nodup (["_law_s"]:List Str);decide +kernel))) (fun _ _ _ _ _=>(Zp (rE (rM (uF (PE.aB (DY JX JZ t.bJ t.Mb (nB 0))))) (wo (uF (PE.aB (DY FA FE t.bJ t.Ey (nB 0)))))).pt)) (fun _ _ _ _ _=>(nD 0))))) (PE.aB (PE.bV (jT bw))) (aG _)))).pt (aW (cZ Bs)) fZ)
  (aH (p7 (rE (aX (kR (aY.u6 hr)) iF (PE.aB (PE.bV (FT t.yx (nL 3)))) (PE.aB (PE.bV (uK rfl t.eM t.du (ar (nB 1) aZ)))) (aG _)) (wo (aX (cJ (aY.u6 hr)) bC (nB 3) (PE.aB (PE.bV (uK rfl t.eM t.du (ar (nB 1) aZ)))) (aG _)))).pt (aW (cZ Bs)) fZ)
  (aH (p7 (aX (cJ (aY.u6 hr)) bC (nB 3) (PE.aB (PE.bV (D8 rfl t.eM t.fU t.du (ar (nB 1) aZ)))) (aG _)) (aW (cZ Bs)) fZ)
  (aH (uH PassesOwn.never rfl (Zn t.du (ar (PE.aB cI) (ar (nB 1) aZ))) (uu 4 dO.nd) (aW (p7 (ph (aX E6 B1 (nB 2) (PE.aB cN) (aG _)) (ph (aX kN jl (PE.aB (KC (nL 3) (PE.aB (bc bz bq (nB 4) (PE.aB cI))))) (PE.aB (KC (nL 3) (nB 4))) (aG _)) (p6 (aX sO se (PE.aB (AF (nD 2) (PE.aB (bc bz bq (nB 4) (PE.aB cI))))) (PE.aB (AF (nD 2) (nB 4))) (aG _))))).pt (aW (cZ Bs)) fZ)))
  (aW (gq 2 (nD 3) dO.nd)))))))
  (aW (cZ Bs))))))
 exact h
theorem wH:Ok P w K mg base 1 t.iY t.iZ ["_law_n","_law_how","_law_far"] fH:=by
 have h:=Qq (P:=P) (w:=w) (base:=base) (k:=0) nQ t.lA fun cdv A outer s H E hr=>
  (aH (gq 3 (PE.bV (uK rfl t.eM t.du (ar (nB 0) aZ))) nQ.nd)
  (aH (p7 (aX (cJ (aY.u6 hr)) bC (nB 1) (PE.aB cI) (aG _)) (aW (cZ (nD 3))) fZ)
  (aH (p7 (aX (cJ (aY.u6 hr)) bC (nB 1) (PE.aB cI) (aG _)) (aW (cZ (PE.bV (Tj rfl t.eM t.fU (nL 3))))) fZ)
  (aH (p7 (aX (cJ (aY.u6 hr)) bC (nB 1) (PE.aB cI) (aG _)) (aW (cZ (PE.bV (D8 rfl t.eM t.fU t.du (ar (PE.aB (bc bz bq (nB 0) (PE.aB cI))) aZ))))) fZ)
  (aH (p7 (aX (cJ (aY.u6 hr)) bC (nB 1) (PE.aB cI) (aG _)) (aW (cZ (PE.bV (xF (PE.lK (jT (au (nD 0) bw))) (nL 3))))) fZ)
  (aH (p7 (aX (cJ (aY.u6 hr)) bC (nB 1) (PE.aB cI) (aG _)) (aW (cZ (PE.bV (xF (PE.lK (jT (au (wR (nL 3) (PE.aB (Fi gP eR (PE.aB cI)))) bw))) (PE.lK (kQ (nL 3) (wq (PE.aB cI)) M0)))))) fZ)
  (aW (cZ (PE.bV (xF (PE.lK (jT (au (wR (PE.lK (jT (au (Fi gP eR (PE.aB cI)) (au (nD 0) (au (bc fj bW (PE.aB (bc Jm Fj (PE.aB cI) (PE.aB cI))) (nB 2)) (au (bc bz bq (PE.aB (Fi gP eR (nB 2))) (PE.aB cI)) bw)))))) (PE.aB (bc dw bU (nB 2) (PE.aB cI)))) bw))) (PE.lK (kQ (nL 3) (wq (PE.aB cI)) M0))))))))))))
 exact h
theorem IC(bK:lH P w K mg base 1 t.fK t.fM ["n"] bG):Ok P w K mg base 2 t.ud t.ue ["row"] qm:=by
 have h:=N8 (P:=P) (w:=w) (base:=base) (k:=1) Et t.yu fun cdv A outer s H E hr=>
  (aH (p7 (rE (aX sO se (PE.aB (gw bQ cQ t.ie cX (ar (nB 0) aZ))) (PE.aB (glI t.mm)) (aG _)) (wo (aX kN jl (PE.aB (gw bQ cQ t.ie cX (ar (nB 0) aZ))) (PE.aB (glI t.pM)) (aG _)))).pt (aW (cZ Bs)) fZ)
  (aW (cZ (SA (cJ (aY.u6 hr)) bC (PE.aB (PE.bV (FT t.yx (nL 0)))) (PE.aB (PE.bV (wX t.dz bK 'd' (au (gw bQ cQ t.ie cX (ar (nB 0) aZ)) bw)))) (aG _)))))
 exact h
theorem ID(cL:lH P w K mg base 1 t.g7 t.g8 ["row"] cK)(kG:lH P w K mg base 1 t.q8 t.q9 ["row"] lW):lH P w K mg base 2 t.qB t.qC ["row"] nA:=by
 have h:=rH (P:=P) (w:=w) (base:=base) (k:=1) Eu t.nR fun cdv A outer s H E hr=>
  (aW (ng (wX t.oK kG 'd' (au (PE.bV (wX t.g9 cL 'd' (au (nD 0) bw))) bw))))
 exact h
theorem oZ(cL:lH P w K mg base 1 t.g7 t.g8 ["row"] cK)(bj:lH P w K mg base 1 t.bA t.bB ["row","k"] aV):lH P w K mg base 2 t.cS t.cT ["row","k"] cR:=by
 have h:=rH (P:=P) (w:=w) (base:=base) (k:=1) nM t.bR fun cdv A outer s H E hr=>
  (aW (ng (wX t.g9 cL 'd' (au (PE.bV (wX t.bh bj 'd' (au (PE.bV (wX t.g9 cL 'd' (au (nD 0) bw))) (au (nD 1) bw)))) bw))))
 exact h
theorem IE(bK:lH P w K mg base 1 t.fK t.fM ["n"] bG)(bj:lH P w K mg base 1 t.bA t.bB ["row","k"] aV):lH P w K mg base 2 t.uf t.ug ["n","word"] nC:=by
 have h:=rH (P:=P) (w:=w) (base:=base) (k:=1) oF t.uh fun cdv A outer s H E hr=>
  (aH (vM 2 (wX t.dz bK 'd' (au (nD 0) bw)) oF.nd)
  (aH (uH PassesOwn.never rfl (iL (nD 1)) (uu 3 oF.nd) (aH (p7 (aX sO se (nB 3) (PE.aB cI) (aG _)) (aW Xm) fZ)
  (aH (p7 (aX kN jl (PE.aB (wR (nL 2) (PE.aB (bc bz bq (nB 3) (PE.aB cI))))) (PE.aB (wR (nL 2) (nB 3))) (aG _)) (aW Xm) fZ)
  (aW (vM 2 (abi scl t.bh bj 'd' (ar (nB 2) (ar (nB 3) aZ))) oF.nd)))))
  (aW (Ft 2))))
 exact h
theorem MS(cL:lH P w K mg base 1 t.g7 t.g8 ["row"] cK):lH P w K mg base 2 t.xh t.xj ["row"] tQ:=by
 have h:=rH (P:=P) (w:=w) (base:=base) (k:=1) Ic t.Ba fun cdv A outer s H E hr=>
  (aW (ng (p8 (Hz (N:=["place","row"]) (nt:=1) (caps:=[0]) (ae yo) ["row"] (by decide +kernel)) rfl (xH (iL (PE.bV (wX t.g9 cL 'd' (au (nD 0) bw))))) (Kp.ok (uO (nt:=1) 0)) (fun _ _ _ _ _=>(uu 0 (by show Nodup (["place","row"]:List Str);decide +kernel))) (fun _ _ _ _ _=>PX) (fun _ _ _ _ _=>(bc bz bq (PE.aB (bc bz bq (PE.aB (gw bQ cQ t.ie cX (ar (nB 1) aZ))) (PE.aB cI))) (nB 0))))))
 exact h
theorem Vs(bK:lH P w K mg base 1 t.fK t.fM ["n"] bG):VJ P w K mg base 2 t.Gy t.Gz ["n","word"] Cp:=by
 have h:=okT (P:=P) (w:=w) (base:=base) (k:=1) kq t.L8 fun cdv A outer s H E hr=>
  (aH (QP 2 QO kq.nd)
  (aH (vM 3 (wX t.dz bK 'd' (au (nD 0) bw)) kq.nd)
  (aH (gq 4 Bs kq.nd)
  (aH (uH PassesOwn.never rfl (iL (nD 1)) (uu 5 kq.nd) (aH (gq 6 (gw BG Fo t.Ma J0 (ar (nB 5) aZ)) kq.nd)
  (aH (p7 (rE (aX (cJ (aY.u6 hr)) bC (PE.aB (gw bQ cQ t.ie cX (ar (nB 2) aZ))) (PE.aB cI) (aG _)) (rE (aX (kR (aY.u6 hr)) iF (nB 4) (PE.aB (SA kN jl (nB 5) (PE.aB cI) (aG _))) (aG _)) (wo (aX kN jl (PE.aB (wR (nL 3) (PE.aB (bc bz bq (nB 6) (PE.aB cI))))) (PE.aB (wR (nL 3) (nB 6))) (aG _))))).pt (aH (QR 2 (jT bw))
  (aH (vM 3 (wX t.dz bK 'd' (au (nD 0) bw)) kq.nd)
  (aW (gq 4 (SA kN jl (nB 5) (PE.aB cI) (aG _)) kq.nd)))) fZ)
  (aH (TQ 2 (PE.aB (Fi gP eR (PE.aB cI))) (nB 5))
  (aH (gq 7 (wR (nL 3) (nB 6)) kq.nd)
  (aH (AI 3 (nB 6) (wR (nL 3) (PE.aB (bc bz bq (nB 6) (PE.aB cI)))))
  (aW (AI 3 (PE.aB (bc bz bq (nB 6) (PE.aB cI))) (nD 7)))))))))
  (aW (QQ 2))))))
 exact h
theorem yO(mV:lH P w K mg base 1 t.jE t.jF ["row"] gx):lH P w K mg base 2 t.jI t.jJ ["halves","row"] gy:=by
 have h:=rH (P:=P) (w:=w) (base:=base) (k:=1) wC t.mR fun cdv A outer s H E hr=>
  (aH (p7 (aX (cJ (aY.u6 hr)) bC (PE.aB (bc dw bU (nB 0) (PE.aB cI))) (PE.aB cI) (aG _)) (aW (ng (JN t.eM (nL 1)))) fZ)
  (aW (ng (wX t.mO mV 'd' (au (nD 1) bw)))))
 exact h
theorem zo(j6:Ok P w K mg base 1 t.gI t.gJ ["_law_number","_law_n"] ee):Ok P w K mg base 2 t.kC t.kD ["_law_number","_law_n"] iH:=by
 have h:=Qq (P:=P) (w:=w) (base:=base) (k:=1) lq t.oN fun cdv A outer s H E hr=>
  (aH (gq 2 (DZ IV t.j5 j6 'd' (ar (nB 0) (ar (nB 1) aZ))) lq.nd)
  (aH (p7 (rE (aX kN jl (PE.aB (bc dw bU (PE.aB (bc jw jy (nB 0) (PE.aB cI))) (PE.aB cI))) (PE.aB cI) (aG _)) (wo (aX sO se (nB 1) (PE.aB cI) (aG _)))).pt (aW (cZ (PE.bV (jT (au (nD 2) bw))))) fZ)
  (aH (gq 3 (Zm (ph (aX sO se (PE.aB (gw BG Fo t.Ma J0 (ar (PE.aB (bc fj bW (nB 2) (PE.aB cI))) aZ))) (nB 1) (aG _)) (p6 (aX (kR (aY.u6 hr)) iF (PE.aB (bc fj bW (nB 2) (PE.aB cI))) (PE.aB cI) (aG _)))).pt (bc fj bW (nB 2) (PE.aB cI)) (bc bz bq (nB 2) (PE.aB cI))) lq.nd)
  (aW (cZ (wR (PE.lK (jT (au (PE.bV (jT (au (nD 2) (au (nD 3) (au (nD 2) bw))))) (au (PE.bV (jT (au (nD 2) (au (nD 3) bw)))) (au (PE.bV (jT (au (nD 2) (au (nD 2) bw)))) (au (PE.bV (jT (au (nD 2) (au (Fi gP eR (nB 3)) (au (nD 2) bw))))) bw)))))) (PE.aB (bc dw bU (PE.aB (bc jw jy (nB 0) (PE.aB cI))) (PE.aB cI)))))))))
 exact h
theorem C8(cB:Ok P w K mg base 1 t.gW t.gX ["_law_cell","_law_k","_law_factor"] cM)(dW:Ok P w K mg base 1 t.fQ t.fR ["_law_script","_law_k"] bX):lH P w K mg base 2 t.oQ t.oU ["_law_cells","_law_n"] kU:=by
 have h:=rH (P:=P) (w:=w) (base:=base) (k:=1) oJ t.sG fun cdv A outer s H E hr=>
  (aH (vM 2 (jT bw) oJ.nd)
  (aH (uH PassesOwn.never rfl (iR1 t.du (ar (nB 1) aZ)) (uu 3 oJ.nd) (aW (aby 2 (bc dw bU (PE.aB (DZ IV t.jv cB 'd' (ar (PE.aB (DZ IV t.iS dW 'd' (ar (nB 0) (ar (nB 3) aZ)))) (ar (nB 3) (ar (PE.aB cI) aZ))))) (PE.aB (bc fj bW (nB 3) (PE.aB cI)))) (nD 3))))
  (aW (Ft 2))))
 exact h
theorem zp(kG:lH P w K mg base 1 t.q8 t.q9 ["row"] lW)(nU:lH P w K mg base 2 t.qB t.qC ["row"] nA):lH P w K mg base 3 t.ky t.kB ["one","other"] iK:=by
 have h:=rH (P:=P) (w:=w) (base:=base) (k:=2) yp t.oM fun cdv A outer s H E hr=>
  (aW (ng (p8 (Hz (N:=["k","one"]) (nt:=1) (caps:=[0]) (ae mK) ["one","other"] (by decide +kernel)) rfl (xH (iL (PE.bV (wX t.nR nU 'd' (au (nD 1) bw))))) (Kp.ok (uO (nt:=1) 0)) (fun _ _ _ _ _=>(uu 0 (by show Nodup (["k","one"]:List Str);decide +kernel))) (fun _ _ _ _ _=>(Zp (aX AA HL (nB 0) (PE.aB (PE.bV (wX t.oK kG 'd' (au (nD 1) bw)))) rfl))) (fun _ _ _ _ _=>(nD 0)))))
 exact h
theorem o4(yP:Ok P w K mg base 2 t.ud t.ue ["row"] qm)(bK:lH P w K mg base 1 t.fK t.fM ["n"] bG)(Bl:lH P w K mg base 1 t.yv t.yw ["n"] sE):IX P w K mg base 3 t.bY t.bZ ["n","row"] br:=by
 have h:=Xr (P:=P) (w:=w) (base:=base) (k:=2) oG t.fO fun cdv A outer s H E hr=>
  (aH (p7 (rE (aX (kR (aY.u6 hr)) iF (PE.aB (gw bQ cQ t.ie cX (ar (nB 1) aZ))) (nB 0) (aG _)) (wo (rM (uF (PE.aB (DZ IV t.yu yP 'd' (ar (nB 1) aZ))))))).pt (aW (AQ t.nS hr.hd)) fZ)
  (aW (p7 (rE (aX (cJ (aY.u6 hr)) bC (nB 1) (PE.aB (PE.bV (wX t.dz bK 'd' (au (nD 0) bw)))) (aG _)) (wo (aX (cJ (aY.u6 hr)) bC (nB 1) (PE.aB (PE.bV (wX t.vh Bl 'd' (au (nD 0) bw)))) (aG _)))).pt (aW (AQ t.nS hr.hd)) fZ)))
 exact h
theorem yQ(Bm:lH P w K mg base 2 t.xh t.xj ["row"] tQ):Ok P w K mg base 3 t.jG t.jH ["row"] jA:=by
 have h:=Qq (P:=P) (w:=w) (base:=base) (k:=2) wB t.mQ fun cdv A outer s H E hr=>
  (aW (cZ (xE (au (Fi gP eR (PE.aB cI)) (au (PE.bV (wX t.Ba Bm 'd' (au (nD 0) bw))) bw)))))
 exact h
theorem pR(mW:lH P w K mg base 2 t.jI t.jJ ["halves","row"] gy):VJ P w K mg base 3 t.dm t.dq ["steps"] bx:=by
 have h:=okT (P:=P) (w:=w) (base:=base) (k:=2) bH t.b7 fun cdv A outer s H E hr=>
  (aH (QP 1 QO bH.nd)
  (aH (gq 2 cI bH.nd)
  (aH (uH PassesOwn.never rfl (iV t.fU (nD 0)) (uu 3 bH.nd) (aH (QR 1 (wX t.mR mW 'd' (au (nD 2) (au (AF (nD 3) (PE.aB cI)) bw))))
  (aW (Ql 2 Jh (PE.aB (AF (nD 3) (PE.aB cI))) bH.nd))))
  (aH (XO 1)
  (aW (QQ 1))))))
 exact h
theorem zq(cB:Ok P w K mg base 1 t.gW t.gX ["_law_cell","_law_k","_law_factor"] cM)(o5:Ok P w K mg base 2 t.kC t.kD ["_law_number","_law_n"] iH):lH P w K mg base 3 t.kE t.kF ["_law_cells","_law_n","_law_most"] iI:=by
 have h:=rH (P:=P) (w:=w) (base:=base) (k:=2) fJ t.oO fun cdv A outer s H E hr=>
  (aH (gq 3 (PE.bV (jT bw)) fJ.nd)
  (aH (uH PassesOwn.never rfl (iE t.mh (nD 0)) (gT2 2 rfl (qT (uu 4 fJ.nd) (qT (uu 5 fJ.nd) D1))) (aW (p7 (aX kN jl (nB 1) (PE.aB cI) (aG _)) (aW (gq 3 (PE.bV (xF (nL 3) (PE.aaK (N4 t.oN o5 'd' (au (DZ IV t.jv cB 'd' (ar (nB 5) (ar (nB 4) (ar (PE.aB cI) aZ)))) (au (nD 1) bw)))))) fJ.nd)) fZ)))
  (aW (ng (kQ (nL 3) M0 (wq (nB 2)))))))
 exact h
theorem yR(sI:lH P w K mg base 2 t.oQ t.oU ["_law_cells","_law_n"] kU)(lD:Ok P w K mg base 1 t.iY t.iZ ["_law_n","_law_how","_law_far"] fH):Ok P w K mg base 3 t.jK t.jL ["_law_n","_law_told","_law_how","_law_at","_law_far"] gz:=by
 have h:=Qq (P:=P) (w:=w) (base:=base) (k:=2) cA t.mU fun cdv A outer s H E hr=>
  (aH (XQ 5 6 rfl cA.nd (AF (nD 1) (PE.aB cI)) (p8 (Hz (N:=["_law_row_here"]) (nt:=1) (caps:=[]) (ae iR) ["_law_n","_law_told","_law_how","_law_at","_law_far","_law_halves","_law_rows","_law_last","_law_over","_law_k","_law_row_here"] (by decide +kernel)) rfl (xH (iL (AF (nD 1) (PE.aB cI)))) (Kp.ok (uO (nt:=1) 0)) (fun _ _ _ _ _=>(uu 0 (by show Nodup (["_law_row_here"]:List Str);decide +kernel))) (fun _ _ _ _ _=>PX) (fun _ _ _ _ _=>(PE.bV (JN t.eM (nL 0))))))
  (aH (p7 (aX (cJ (aY.u6 hr)) bC (nB 0) (PE.aB cI) (aG _)) (aW (cZ (xE (au (Zm (aX (cJ (aY.u6 hr)) bC (PE.aB (bc dw bU (nB 4) (PE.aB cI))) (PE.aB cI) (aG _)) (bc fj bW (PE.aB cI) (PE.aB (bc dw bU (nB 4) (PE.aB cI)))) (bc bz bq (PE.aB (Fi gP eR (PE.aB cI))) (PE.aB (bc dw bU (nB 4) (PE.aB cI))))) (au (PE.bV (jT bw)) bw))))) fZ)
  (aH (p7 (aX (cJ (aY.u6 hr)) bC (nB 2) (PE.aB cI) (aG _)) (aH (gq 7 (Zm (aX (kR (aY.u6 hr)) iF (nB 6) (PE.aB (PE.bV (jT bw))) (aG _)) (wR (nL 6) (PE.aB (Fi gP eR (PE.aB cI)))) (PE.bV (uK rfl t.eM t.du (ar (nB 0) aZ)))) cA.nd)
  (aH (Xd 8 (W4 8 (Hz (N:=["_law_k","_law_last"]) (nt:=1) (caps:=[7]) (ae iR) ["_law_n","_law_told","_law_how","_law_at","_law_far","_law_halves","_law_rows","_law_last","_law_over","_law_k","_law_row_here"] (by decide +kernel)) rfl (xH (Zn t.du (ar (PE.aB cI) (ar (nB 0) aZ)))) (Kp.ok (uO (nt:=1) 0)) (fun _ _ _ _ _=>(uu 0 (by show Nodup (["_law_k","_law_last"]:List Str);decide +kernel))) (fun _ _ _ _ _=>(Zp (aX sO se (PE.aB (wR (nL 1) (PE.aB (bc bz bq (nB 0) (PE.aB cI))))) (PE.aB (wR (nL 1) (nB 0))) (aG _)))) (fun _ _ _ _ _=>(nD 0)) cA.nd))
  (aH (gq 9 (wR (nL 8) (PE.aB (bc dw bU (nB 4) (PE.aB (gw bQ cQ t.ie cX (ar (nB 8) aZ)))))) cA.nd)
  (aH (vM 10 (uK rfl t.eM t.du (ar (nB 0) aZ)) cA.nd)
  (aH (KJ 10 rfl (PE.aB (bc bz bq (nB 9) (PE.aB cI))) (nB 9) (xE (au (nD 9) (au (bc bz bq (nB 9) (PE.aB cI)) bw))))
  (aW (SG 10 (cZ (xE (au (nD 5) (au (Zm (aX (kR (aY.u6 hr)) iF (nB 6) (PE.aB (PE.bV (jT bw))) (aG _)) (PE.bV (xF (nL 6) (PE.lK (jT (au (nD 10) bw))))) (PE.bV (jT (au (PE.bV (D8 rfl t.eM t.fU t.du (ar (nB 0) aZ))) bw)))) bw))))))))))) fZ)
  (aH (p7 (aX (cJ (aY.u6 hr)) bC (nB 2) (PE.aB cI) (aG _)) (aH (gq 10 (PE.bV (wX t.sG sI 'd' (au (PE.bV (jT (au (nD 4) (au (bc jw jy (nB 4) (PE.aB cI)) (au (bc jw jy (nB 4) (PE.aB cI)) (au (nD 3) bw)))))) (au (nD 0) bw)))) cA.nd)
  (aW (SG 10 (cZ (xE (au (nD 5) (au (PE.bV (xF (PE.lK (xF (PE.lK (kQ (nL 6) M0 (wq (nB 3)))) (PE.lK (jT (au (nD 10) bw))))) (PE.lK (kQ (nL 6) (wq (nB 3)) M0)))) bw))))))) fZ)
  (aH (p7 (ph (aX (cJ (aY.u6 hr)) bC (nB 2) (PE.aB cI) (aG _)) (p6 (aX kN jl (nB 3) (PE.aB cI) (aG _)))).pt (aH (KJ 6 rfl (PE.aB (bc bz bq (nB 3) (PE.aB cI))) (PE.aB (bc bz bq (nB 3) (PE.aB cI))) (xE (au (wR (nL 6) (PE.aB (bc bz bq (nB 3) (PE.aB cI)))) (au (wR (nL 6) (PE.aB (bc bz bq (nB 3) (PE.aB cI)))) bw))))
  (aW (SG 6 (cZ (xE (au (nD 5) (au (nD 6) bw))))))) fZ)
  (aW (cZ (xE (au (nD 5) (au (PE.bV (xF (PE.lK (xF (PE.lK (kQ (nL 6) M0 (wq (nB 3)))) (PE.lK (jT (au (N4 t.lA lD 'd' (au (nD 0) (au (bc dw bU (nB 2) (PE.aB cI)) (au (nD 4) bw)))) bw))))) (PE.lK (kQ (nL 6) (wq (nB 3)) M0)))) bw))))))))))
 exact h
theorem vC(o7:lH P w K mg base 3 t.ky t.kB ["one","other"] iK)(cU:IX P w K mg base 3 t.bY t.bZ ["n","row"] br):IX P w K mg base 4 t.dR t.dS ["n","form"] cz:=by
 have h:=Xr (P:=P) (w:=w) (base:=base) (k:=3) dN t.dU fun cdv A outer s H E hr=>
  (aH (gq 2 (AF (nD 1) (PE.aB cI)) dN.nd)
  (aH (gq 3 (AF (nD 1) (PE.aB cI)) dN.nd)
  (aH (p7 (ph (aX (cJ (aY.u6 hr)) bC (nB 0) (PE.aB cI) (aG _)) (p6 (aX (kR (aY.u6 hr)) iF (nB 2) (PE.aB cI) (aG _)))).pt (aW (AQ t.nS hr.hd)) fZ)
  (aH (uH Xs rfl (iL (nD 3)) (uu 4 dN.nd) (aW (WL (PE.aB (fBX Og t.fO cU 'd' (ar (nB 0) (ar (nB 4) aZ)))))))
  (aH (uH Xs rfl (Zn t.du (ar (PE.aB cI) (ar (PE.aB (gw bQ cQ t.ie cX (ar (nB 3) aZ))) aZ))) (uu 5 dN.nd) (aW (p7 (aX kN jl (PE.aB (gw bQ cQ t.ie cX (ar (PE.aB (PE.bV (wX t.oM o7 'd' (au (wR (nL 3) (PE.aB (bc bz bq (nB 5) (PE.aB cI)))) (au (wR (nL 3) (nB 5)) bw))))) aZ))) (PE.aB cI) (aG _)) (aW (AQ t.nS hr.hd)) fZ)))
  (aW (cZ Bs)))))))
 exact h
theorem EO(yS:lH P w K mg base 1 t.t9 t.uc ["word"] qi)(ur:lH P w K mg base 2 t.uf t.ug ["n","word"] nC)(mX:Ok P w K mg base 3 t.jG t.jH ["row"] jA):Ok P w K mg base 4 t.rh t.rm ["n","piece"] nG:=by
 have h:=Qq (P:=P) (w:=w) (base:=base) (k:=3) CL t.vj fun cdv A outer s H E hr=>
  (aH (p7 (aX kN jl (PE.aB (wR (nL 1) (PE.aB cI))) (PE.aB cI) (aG _)) (aW (cZ (xE (au cI (au (PE.bV (wX t.uh ur 'd' (au (nD 0) (au (nD 1) bw)))) bw))))) fZ)
  (aW (cZ (N4 t.mQ mX 'd' (au (PE.bV (wX t.uh ur 'd' (au (nD 0) (au (PE.bV (wX t.yt yS 'd' (au (nD 1) bw))) bw)))) bw)))))
 exact h
theorem Bo(cB:Ok P w K mg base 1 t.gW t.gX ["_law_cell","_law_k","_law_factor"] cM)(o8:lH P w K mg base 3 t.kE t.kF ["_law_cells","_law_n","_law_most"] iI):Ok P w K mg base 4 t.l9 t.mf ["_law_cells","_law_n","_law_most"] jQ:=by
 have h:=Qq (P:=P) (w:=w) (base:=base) (k:=3) jD t.qD fun cdv A outer s H E hr=>
  (aH (gq 3 (PE.bV (wX t.oO o8 'd' (au (PE.bV (kQ (nL 0) M0 (wq (PE.aB cI)))) (au (nD 1) (au cI bw))))) jD.nd)
  (aH (p7 (aX Wg SD (PE.aB (gw bQ cQ t.ie cX (ar (nB 3) aZ))) (nB 2) (aG _)) (aW (cZ (nD 3))) fZ)
  (aH (gq 4 (XD rfl t.Mc (PE.lK (p8 (Hz (N:=["_law_k","_law_cell"]) (nt:=2) (caps:=[]) (ae oH) ["_law_cells","_law_n","_law_most","_law_word","_law_total","_law_at"] (by decide +kernel)) rfl (xH (iE t.mh (nD 0))) (Kp.ok (abm 2 (FO (uO (nt:=2) 0) (FO (uO (nt:=2) 1) Ti)))) (fun _ _ _ _ _=>(gT2 2 rfl (qT (uu 0 (by show Nodup (["_law_k","_law_cell"]:List Str);decide +kernel)) (qT (uu 1 (by show Nodup (["_law_k","_law_cell"]:List Str);decide +kernel)) D1)))) (fun _ _ _ _ _=>PX) (fun _ _ _ _ _=>(DZ IV t.jv cB 'd' (ar (nB 1) (ar (nB 0) (ar (PE.aB cI) aZ)))))))) jD.nd)
  (aH (gq 5 (bc dw bU (nB 4) (PE.aB (bc fj bW (PE.aB (bc bz bq (PE.aB (gw bQ cQ t.ie cX (ar (nB 3) aZ))) (nB 2))) (PE.aB cI)))) jD.nd)
  (aW (cZ (PE.bV (kQ (nL 3) (wq (nB 5)) (wq (PE.aB (bc fj bW (nB 5) (nB 2))))))))))))
 exact h
theorem vD(vE:lH P w K mg base 1 t.qY t.qZ ["word"] nq)(MT:VJ P w K mg base 2 t.Gy t.Gz ["n","word"] Cp)(vG:Ok P w K mg base 4 t.rh t.rm ["n","piece"] nG):Ok P w K mg base 5 t.gG t.gH ["n","word"] eg:=by
 have h:=Qq (P:=P) (w:=w) (base:=base) (k:=4) tZ t.j3 fun cdv A outer s H E hr=>
  (aW (cZ (PE.bV (p8 (Hz (N:=["piece","n"]) (nt:=1) (caps:=[0]) (ae ju) ["n","word"] (by decide +kernel)) rfl (iLS (PE.abM (fT1 t.L8 MT 'd' (ar (nB 0) (ar (PE.aB (PE.bV (wX t.vg vE 'd' (au (nD 1) bw)))) aZ))))) (Kp.ok (uO (nt:=1) 0)) (fun _ _ _ _ _=>(uu 0 (by show Nodup (["piece","n"]:List Str);decide +kernel))) (fun _ _ _ _ _=>PX) (fun _ _ _ _ _=>(N4 t.vj vG 'd' (au (nD 1) (au (nD 0) bw))))))))
 exact h
theorem wI(gK:IX P w K mg base 4 t.dR t.dS ["n","form"] cz):Ok P w K mg base 5 t.i6 t.i7 ["_law_n","_law_told"] dJ:=by
 have h:=N8 (P:=P) (w:=w) (base:=base) (k:=4) dQ t.i9 fun cdv A outer s H E hr=>
  (aH (gq 2 Bs dQ.nd)
  (aH (abt 3 t.yF (Tp t.dU gK 'd' (ar (nB 0) (ar (nB 1) aZ))) (fun _=>(aH (gq 4 (XC t.aS t.bJ (nB 3) (QN t.z7 (QN t.yy (QN t.z6 (QN t.CM (QN t.z8 (QN t.wc (QN t.rV (QN t.yD gaN))))))))) dQ.nd)
  (aW (gq 2 (WH (PE.aB (abw t.rX t.rW t.bJ (nB 3))) (WH (PE.aB (XA t.rY zc t.ui t.bJ (nB 3))) (aaL (aaM (nB 4))))) dQ.nd)))) dQ.nd rfl)
  (aW (cZ (nD 2)))))
 exact h
theorem Py(j7:Ok P w K mg base 9 t.gE t.gF ["n","steps"] eu)(j8:Ok P w K mg base 5 t.gG t.gH ["n","word"] eg):Ok P w K mg base 10 t.Bb t.Bc ["n","word"] yh:=by
 have h:=Qq (P:=P) (w:=w) (base:=base) (k:=9) L7 t.Ex fun cdv A outer s H E hr=>
  (aW (cZ (N4 t.j0 j7 'd' (au (nD 0) (au (N4 t.j3 j8 'd' (au (nD 0) (au (nD 1) bw))) bw)))))
 exact h
theorem Vt(fW:Ok P w K mg base 4 t.dR t.dS ["n","form"] cO)(ER:Ok P w K mg base 10 t.Bb t.Bc ["n","word"] yh)(cB:Ok P w K mg base 1 t.gW t.gX ["_law_cell","_law_k","_law_factor"] cM)(dW:Ok P w K mg base 1 t.fQ t.fR ["_law_script","_law_k"] bX)(lE:Ok P w K mg base 1 t.iT t.iU ["_law_seed","_law_least","_law_most"] fG)(qI:Ok P w K mg base 4 t.l9 t.mf ["_law_cells","_law_n","_law_most"] jQ)(lF:Ok P w K mg base 1 t.iW t.iX ["_law_found","_law_n"] dG)(mY:Ok P w K mg base 3 t.jK t.jL ["_law_n","_law_told","_law_how","_law_at","_law_far"] gz)(jb:Ok P w K mg base 5 t.i6 t.i7 ["_law_n","_law_told"] dJ):Ok P w K mg base 11 t.L9 t.GA ["_law_script"] yk:=by
 have h:=N8 (P:=P) (w:=w) (base:=base) (k:=10) kr t.Q1 fun cdv A outer s H E hr=>
  (aH (gq 1 (bc dw bU (PE.aB (DZ IV t.iS dW 'd' (ar (nB 0) (ar (PE.aB cI) aZ)))) (PE.aB (bc Jm Fj (PE.aB cI) (PE.aB cI)))) kr.nd)
  (aH (gq 2 (DZ IV t.lu lE 'd' (ar (nB 1) (ar (PE.aB cI) (ar (PE.aB cI) aZ)))) kr.nd)
  (aH (gq 3 (N4 t.Ex ER 'd' (au (nD 2) (au (N4 t.qD qI 'd' (au (nD 0) (au (nD 2) (au cI bw)))) bw))) kr.nd)
  (aH (uH PassesOwn.never rfl (iR1 t.du (ar (PE.aB cI) aZ)) (uu 4 kr.nd) (aH (gq 5 (DZ IV t.jv cB 'd' (ar (nB 1) (ar (PE.aB (bc fj bW (PE.aB cI) (nB 4))) (ar (PE.aB cI) aZ)))) kr.nd)
  (aH (gq 6 (N4 t.mU mY 'd' (au (nD 2) (au (nD 3) (au (bc dw bU (nB 5) (PE.aB cI)) (au (bc dw bU (PE.aB (bc jw jy (nB 5) (PE.aB cI))) (PE.aB (bc fj bW (PE.aB (gw bQ cQ t.ie cX (ar (PE.aB (AF (nD 3) (PE.aB cI))) aZ))) (PE.aB cI)))) (au (bc jw jy (nB 5) (PE.aB cI)) bw)))))) kr.nd)
  (aH (gq 7 (xE (au (AF (nD 6) (PE.aB cI)) (au (PE.bV (p8 (Hz (N:=["_law_row_here"]) (nt:=1) (caps:=[]) (ae Ew) ["_law_script","_law_seed","_law_n","_law_told","_law_j","_law_draw","_law_bad","_law_handed","_law_due"] (by decide +kernel)) rfl (xH (iL (AF (nD 6) (PE.aB cI)))) (Kp.ok (uO (nt:=1) 0)) (fun _ _ _ _ _=>(uu 0 (by show Nodup (["_law_row_here"]:List Str);decide +kernel))) (fun _ _ _ _ _=>PX) (fun _ _ _ _ _=>(PE.bV (JN t.eM (nL 0)))))) bw))) kr.nd)
  (aH (p7 (ph (aX (cJ (aY.u6 hr)) bC (PE.aB (bc dw bU (PE.aB (bc jw jy (nB 5) (PE.aB cI))) (PE.aB cI))) (PE.aB cI) (aG _)) (p6 (aX xS uQ (PE.aB (DZ (M9.ne Og) t.dU fW 'd' (ar (nB 2) (ar (nB 3) aZ)))) (PE.aB Bs) (aG _)))).pt (aW (cZ Bs)) fZ)
  (aH (gq 8 (DZ IV t.ly lF 'd' (ar (nB 6) (ar (nB 2) aZ))) kr.nd)
  (aH (p7 (rE (ph (rM (uF (nB 8))) (p6 (rM (uF (PE.aB (DZ IV t.i9 jb 'd' (ar (nB 2) (ar (nB 7) aZ)))))))).pt (rE (ph (uF (nB 8)) (p6 (aX xS uQ (PE.aB (DZ (M9.ne Og) t.dU fW 'd' (ar (nB 2) (ar (nB 7) aZ)))) (PE.aB Bs) (aG _)))).pt (wo (aX (kR (aY.u6 hr)) iF (nB 7) (nB 6) (aG _))))).pt (aW (cZ Bs)) fZ)
  (aW (p7 (rE (aX xS uQ (PE.aB (DZ (M9.ne Og) t.dU fW 'd' (ar (nB 2) (ar (nB 3) aZ)))) (PE.aB Bs) (aG _)) (wo (ph (rM (uF (nB 8))) (p6 (rM (uF (PE.aB (DZ IV t.i9 jb 'd' (ar (nB 2) (ar (nB 7) aZ)))))))).pt)).pt (aW (cZ Bs)) fZ)))))))))
  (aW (cZ Bs))))))
 exact h
end
@[irreducible] noncomputable def Kw (w:World):PySem.W.Frag:=H.K w.params
theorem Rp(w:World):Kw w=H.K w.params:=by kernel_rfl
theorem pO{K:'b'}{h:Heap}{mg:Str->Option Value}{x:String}{st:Stmt}{ps:List Str}{f c:Addr}{m:Value}(X:K.In h)(G:h.Ns mainGlobals mg)
  (e:(nsIn K mainGlobals (Str.ofString x),K.lookup f,codeIn K (.ref c) (Str.ofString x),keepIn K (.ref f))=(some (some (.ref f)),some (DL.H.hf (Str.ofString x) (Str.ofString x) st m c),true,true))
  (hb:∀(kV doc pm:Value)(an:Option Addr)(cdv ct:Value)(us:List Value),us.length=ps.length->bindArgs (PySem.W.fnOf (Str.ofString x) (Str.ofString x) (eQ st) (bE st) (ae st) .none kV doc pm an cdv ct) ⟨us,[]⟩=pure (ps.zip us)):
  Df K mg (Str.ofString x) st ps f (PySem.W.fnOf (Str.ofString x) (Str.ofString x) (eQ st) (bE st) (ae st) .none .none .none m none (.ref c) .none):=dfm X G (congrArg (·.1) e) (congrArg (·.2.1) e) (congrArg (·.2.2.1) e) (congrArg (·.2.2.2) e) hb
theorem ES{x q:Str}{a:Arguments}{b:List Stmt}{s:Scope}{p0:Str}(h:∀(kV doc pm:Value)(an:Option Addr)(cdv ct v0:Value),bindArgs (PySem.W.fnOf x q a b s .none kV doc pm an cdv ct) ⟨[v0],[]⟩=pure [(p0,v0)])(kV doc pm:Value)(an:Option Addr)(cdv ct:Value)(us:List Value)(hl:us.length=[p0].length):bindArgs (PySem.W.fnOf x q a b s .none kV doc pm an cdv ct) ⟨us,[]⟩=pure ([p0].zip us):=match us,hl with|[v0],_=>h _ _ _ _ _ _ _
theorem zt{x q:Str}{a:Arguments}{b:List Stmt}{s:Scope}{p0 p1:Str}(h:∀(kV doc pm:Value)(an:Option Addr)(cdv ct v0 v1:Value),bindArgs (PySem.W.fnOf x q a b s .none kV doc pm an cdv ct) ⟨[v0,v1],[]⟩=pure [(p0,v0),(p1,v1)])(kV doc pm:Value)(an:Option Addr)(cdv ct:Value)(us:List Value)(hl:us.length=[p0,p1].length):bindArgs (PySem.W.fnOf x q a b s .none kV doc pm an cdv ct) ⟨us,[]⟩=pure ([p0,p1].zip us):=match us,hl with|[v0,v1],_=>h _ _ _ _ _ _ _ _
theorem Pz{x q:Str}{a:Arguments}{b:List Stmt}{s:Scope}{p0 p1 p2:Str}(h:∀(kV doc pm:Value)(an:Option Addr)(cdv ct v0 v1 v2:Value),bindArgs (PySem.W.fnOf x q a b s .none kV doc pm an cdv ct) ⟨[v0,v1,v2],[]⟩=pure [(p0,v0),(p1,v1),(p2,v2)])(kV doc pm:Value)(an:Option Addr)(cdv ct:Value)(us:List Value)(hl:us.length=[p0,p1,p2].length):bindArgs (PySem.W.fnOf x q a b s .none kV doc pm an cdv ct) ⟨us,[]⟩=pure ([p0,p1,p2].zip us):=match us,hl with|[v0,v1,v2],_=>h _ _ _ _ _ _ _ _ _
theorem bd5{x q:Str}{a:Arguments}{b:List Stmt}{s:Scope}{p0 p1 p2 p3 p4:Str}(h:∀(kV doc pm:Value)(an:Option Addr)(cdv ct v0 v1 v2 v3 v4:Value),bindArgs (PySem.W.fnOf x q a b s .none kV doc pm an cdv ct) ⟨[v0,v1,v2,v3,v4],[]⟩=pure [(p0,v0),(p1,v1),(p2,v2),(p3,v3),(p4,v4)])(kV doc pm:Value)(an:Option Addr)(cdv ct:Value)(us:List Value)(hl:us.length=[p0,p1,p2,p3,p4].length):bindArgs (PySem.W.fnOf x q a b s .none kV doc pm an cdv ct) ⟨us,[]⟩=pure ([p0,p1,p2,p3,p4].zip us):=match us,hl with|[v0,v1,v2,v3,v4],_=>h _ _ _ _ _ _ _ _ _ _ _
theorem Rq(K:'b'){C:Addr}{x q:String}{st:Stmt}{f c:Addr}{m:Value}
  (e:(findIn K (.ref C) (Str.ofString x),isFn K (.ref f),K.lookup f,codeIn K (.ref c) (Str.ofString q),keepIn K (.ref f))=(some (some (.ref f)),true,some (DL.H.hf (Str.ofString x) (Str.ofString q) st m c),true,true)):
  Bq K (Str.ofString x) (Str.ofString q) st f (PySem.W.fnOf (Str.ofString x) (Str.ofString q) (eQ st) (bE st) (ae st) .none .none .none m none (.ref c) .none)/\Meth K C (Str.ofString x) f:=
 ⟨DP (congrArg (·.2.2.1) e) (congrArg (·.2.2.2.1) e) (congrArg (·.2.2.2.2) e),congrArg (·.1) e,congrArg (·.2.1) e,congrArg (·.2.2.2.2) e⟩
theorem all_mk{l:PySem.W.OpenLaw}{w:World}{h:Heap}{mg:Str->Option Value}{fa:Addr}(X:(Kw w).In h)(G:h.Ns mainGlobals mg)(hfa:mg "law"=some (.ref fa)):
  ∃fd:FuncData,(∀(s:Shared)(v:Value),BindsTo s fd ⟨[v],[]⟩ [("_law_script",v)])/\∀base:Heap,(Kw w).In base->base.Ns mainGlobals mg->b8 l.prog w (Kw w) mg base lI 11 fa fd ["_law_script"] (Fq (Kw w) IU yk):=by
 have e:=hfa.symm.trans (mg_of X G (show nsIn (Kw w) mainGlobals "law"=some (some (.ref 447))by kernel_rfl))
 cases e
 have yC:nsIn (Kw w) mainGlobals "Comb"=some (some (.ref 294)):=by kernel_rfl
 have ypg:plainGet (Kw w) 294 Str.empty=true:=by kernel_rfl
 have yhd:hasDictIn (Kw w) 294=true:=by kernel_rfl
 have ypo:plainOver (Kw w) 294=true:=by kernel_rfl
 have ysa:findIn (Kw w) (.ref 294) "__setattr__"=some (some (.builtin "object.__setattr__")):=by kernel_rfl
 have ymk:makesIn (Kw w) 294=true:=by kernel_rfl
 have ykc:keepIn (Kw w) (.ref 294)=true:=by kernel_rfl
 have yn0:findIn (Kw w) (.ref 294) "known"=some none:=by kernel_rfl
 have yn1:findIn (Kw w) (.ref 294) "numbers"=some none:=by kernel_rfl
 have yn2:findIn (Kw w) (.ref 294) "firsts"=some none:=by kernel_rfl
 have yn3:findIn (Kw w) (.ref 294) "lasts"=some none:=by kernel_rfl
 have yn4:findIn (Kw w) (.ref 294) "shorter"=some none:=by kernel_rfl
 have yn5:findIn (Kw w) (.ref 294) "longer"=some none:=by kernel_rfl
 have yn6:findIn (Kw w) (.ref 294) "kept"=some none:=by kernel_rfl
 have yn7:findIn (Kw w) (.ref 294) "line"=some none:=by kernel_rfl
 have yn8:findIn (Kw w) (.ref 294) "none"=some none:=by kernel_rfl
 have yn9:findIn (Kw w) (.ref 294) "whole"=some none:=by kernel_rfl
 have zu:nsIn (Kw w) mainGlobals "BadPicture"=some (some (.ref 121)):=by kernel_rfl
 have ET:nsIn (Kw w) mainGlobals "BadText"=some (some (.ref 49)):=by kernel_rfl
 have zw:nsIn (Kw w) mainGlobals "BraidError"=some (some (.ref 24)):=by kernel_rfl
 have iz:nsIn (Kw w) mainGlobals "NoForm"=some (some (.ref 85)):=by kernel_rfl
 have IF:nsIn (Kw w) mainGlobals "NoMove"=some (some (.ref 61)):=by kernel_rfl
 have MU:nsIn (Kw w) mainGlobals "NoRow"=some (some (.ref 73)):=by kernel_rfl
 have C9:nsIn (Kw w) mainGlobals "NoString"=some (some (.ref 109)):=by kernel_rfl
 have IG:nsIn (Kw w) mainGlobals "NoWord"=some (some (.ref 37)):=by kernel_rfl
 have EU:nsIn (Kw w) mainGlobals "TooMany"=some (some (.ref 133)):=by kernel_rfl
 have II:nsIn (Kw w) mainGlobals "Unlike"=some (some (.ref 97)):=by kernel_rfl
 have rA:xcB (Kw w) 85=true:=by kernel_rfl
 have vH:exmOne (Kw w) (.ref 85) (.ref 85)=some true:=by kernel_rfl
 have zx:kitOne (Kw w) (.type "NoneType") (.ref 24)=some false:=by kernel_rfl
 have qJ:kitOne (Kw w) (.ref 85) (.ref 24)=some (xR "BraidError" "NoForm"):=by kernel_rfl
 have zy:kitOne (Kw w) (.type "NoneType") (.type "ValueError")=some false:=by kernel_rfl
 have qK:kitOne (Kw w) (.ref 85) (.type "ValueError")=some (xR "ValueError" "NoForm"):=by kernel_rfl
 have aeb:kitAny (Kw w) (.type "NoneType") [Value.ref 37,Value.ref 49,Value.ref 61,Value.ref 73,Value.ref 97,Value.ref 109,Value.ref 121,Value.ref 133]=some false:=by kernel_rfl
 have Dc:kitAny (Kw w) (.ref 85) [Value.ref 37,Value.ref 49,Value.ref 61,Value.ref 73,Value.ref 97,Value.ref 109,Value.ref 121,Value.ref 133]=some (any ["NoWord","BadText","NoMove","NoRow","Unlike","NoString","BadPicture","TooMany"] (xR · "NoForm")):=by kernel_rfl
 let t:Tb (Kw w) mg:={t9:=140,uc:=_,yt:=pO X G (c:=139) (m:=H.w1) (by kernel_rfl) (ES fun _ _ _ _ _ _ _=>rfl),qY:=147,qZ:=_,vg:=pO X G (c:=146) (m:=H.w1) (by kernel_rfl) (ES fun _ _ _ _ _ _ _=>rfl),ud:=154,ue:=_,yu:=pO X G (c:=153) (m:=H.w2) (by kernel_rfl) (ES fun _ _ _ _ _ _ _=>rfl),fK:=161,fM:=_,dz:=pO X G (c:=160) (m:=H.w2) (by kernel_rfl) (ES fun _ _ _ _ _ _ _=>rfl),yv:=168,yw:=_,vh:=pO X G (c:=167) (m:=H.w2) (by kernel_rfl) (ES fun _ _ _ _ _ _ _=>rfl),g7:=175,g8:=_,g9:=pO X G (c:=174) (m:=H.w2) (by kernel_rfl) (ES fun _ _ _ _ _ _ _=>rfl),q8:=180,q9:=_,oK:=pO X G (c:=179) (m:=H.w2) (by kernel_rfl) (ES fun _ _ _ _ _ _ _=>rfl),qB:=187,qC:=_,nR:=pO X G (c:=186) (m:=H.w2) (by kernel_rfl) (ES fun _ _ _ _ _ _ _=>rfl),bA:=194,bB:=_,bh:=pO X G (c:=193) (m:=H.w2) (by kernel_rfl) (zt fun _ _ _ _ _ _ _ _=>rfl),cS:=201,cT:=_,bR:=pO X G (c:=200) (m:=H.w2) (by kernel_rfl) (zt fun _ _ _ _ _ _ _ _=>rfl),uf:=208,ug:=_,uh:=pO X G (c:=207) (m:=H.w2) (by kernel_rfl) (zt fun _ _ _ _ _ _ _ _=>rfl),xh:=213,xj:=_,Ba:=pO X G (c:=212) (m:=H.w2) (by kernel_rfl) (ES fun _ _ _ _ _ _ _=>rfl),jE:=218,jF:=_,mO:=pO X G (c:=217) (m:=H.w2) (by kernel_rfl) (ES fun _ _ _ _ _ _ _=>rfl),ky:=223,kB:=_,oM:=pO X G (c:=222) (m:=H.w2) (by kernel_rfl) (zt fun _ _ _ _ _ _ _ _=>rfl),rf:=230,rg:=_,hU:=pO X G (c:=229) (m:=H.w3) (by kernel_rfl) (ES fun _ _ _ _ _ _ _=>rfl),bY:=305,bZ:=_,fO:=pO X G (c:=304) (m:=H.w4) (by kernel_rfl) (zt fun _ _ _ _ _ _ _ _=>rfl),dR:=312,dS:=_,dU:=pO X G (c:=311) (m:=H.w4) (by kernel_rfl) (zt fun _ _ _ _ _ _ _ _=>rfl),Gy:=319,Gz:=_,L8:=pO X G (c:=318) (m:=H.w4) (by kernel_rfl) (zt fun _ _ _ _ _ _ _ _=>rfl),jG:=326,jH:=_,mQ:=pO X G (c:=325) (m:=H.w4) (by kernel_rfl) (ES fun _ _ _ _ _ _ _=>rfl),rh:=333,rm:=_,vj:=pO X G (c:=332) (m:=H.w4) (by kernel_rfl) (zt fun _ _ _ _ _ _ _ _=>rfl),jI:=340,jJ:=_,mR:=pO X G (c:=339) (m:=H.w4) (by kernel_rfl) (zt fun _ _ _ _ _ _ _ _=>rfl),dm:=347,dq:=_,b7:=pO X G (c:=346) (m:=H.w4) (by kernel_rfl) (ES fun _ _ _ _ _ _ _=>rfl),gE:=352,gF:=_,j0:=pO X G (c:=351) (m:=H.w4) (by kernel_rfl) (zt fun _ _ _ _ _ _ _ _=>rfl),gG:=357,gH:=_,j3:=pO X G (c:=356) (m:=H.w4) (by kernel_rfl) (zt fun _ _ _ _ _ _ _ _=>rfl),Bb:=364,Bc:=_,Ex:=pO X G (c:=363) (m:=H.w4) (by kernel_rfl) (zt fun _ _ _ _ _ _ _ _=>rfl),gW:=371,gX:=_,jv:=pO X G (c:=370) (m:=H.w5) (by kernel_rfl) (Pz fun _ _ _ _ _ _ _ _ _=>rfl),fQ:=378,fR:=_,iS:=pO X G (c:=377) (m:=H.w5) (by kernel_rfl) (zt fun _ _ _ _ _ _ _ _=>rfl),iT:=385,iU:=_,lu:=pO X G (c:=384) (m:=H.w5) (by kernel_rfl) (Pz fun _ _ _ _ _ _ _ _ _=>rfl),gI:=392,gJ:=_,j5:=pO X G (c:=391) (m:=H.w5) (by kernel_rfl) (zt fun _ _ _ _ _ _ _ _=>rfl),kC:=399,kD:=_,oN:=pO X G (c:=398) (m:=H.w5) (by kernel_rfl) (zt fun _ _ _ _ _ _ _ _=>rfl),kE:=406,kF:=_,oO:=pO X G (c:=405) (m:=H.w5) (by kernel_rfl) (Pz fun _ _ _ _ _ _ _ _ _=>rfl),l9:=411,mf:=_,qD:=pO X G (c:=410) (m:=H.w5) (by kernel_rfl) (Pz fun _ _ _ _ _ _ _ _ _=>rfl),oQ:=418,oU:=_,sG:=pO X G (c:=417) (m:=H.w5) (by kernel_rfl) (zt fun _ _ _ _ _ _ _ _=>rfl),iW:=423,iX:=_,ly:=pO X G (c:=422) (m:=H.w5) (by kernel_rfl) (zt fun _ _ _ _ _ _ _ _=>rfl),iY:=430,iZ:=_,lA:=pO X G (c:=429) (m:=H.w5) (by kernel_rfl) (Pz fun _ _ _ _ _ _ _ _ _=>rfl),jK:=435,jL:=_,mU:=pO X G (c:=434) (m:=H.w5) (by kernel_rfl) (bd5 fun _ _ _ _ _ _ _ _ _ _ _=>rfl),i6:=442,i7:=_,i9:=pO X G (c:=441) (m:=H.w5) (by kernel_rfl) (zt fun _ _ _ _ _ _ _ _=>rfl),L9:=447,GA:=_,Q1:=pO X G (c:=446) (m:=H.w5) (by kernel_rfl) (ES fun _ _ _ _ _ _ _=>rfl),ui:=mg_none_of X G (by kernel_rfl),Ma:=mg_none_of X G (by kernel_rfl),Ey:=mg_none_of X G (by kernel_rfl),mh:=mg_none_of X G (by kernel_rfl),Mb:=mg_none_of X G (by kernel_rfl),bJ:=mg_none_of X G (by kernel_rfl),ie:=mg_none_of X G (by kernel_rfl),eM:=mg_none_of X G (by kernel_rfl),Q2:=mg_none_of X G (by kernel_rfl),du:=mg_none_of X G (by kernel_rfl),fU:=mg_none_of X G (by kernel_rfl),yx:=mg_none_of X G (by kernel_rfl),Mc:=mg_none_of X G (by kernel_rfl),Bd:=mg_none_of X G (by kernel_rfl),mj:=353,mm:=mg_of X G (by kernel_rfl),uj:=464,uk:=mg_of X G (by kernel_rfl),pL:=355,pM:=mg_of X G (by kernel_rfl),oV:=_,rV:=mg_of X G zu,vk:=_,yy:=mg_of X G ET,oW:=_,rW:=mg_of X G zw,yz:=_,Ie:=mg_of X G iz,yA:=_,z6:=mg_of X G IF,Be:=_,CM:=mg_of X G MU,sH:=_,wc:=mg_of X G C9,yB:=_,z7:=mg_of X G IG,vm:=_,yD:=mg_of X G EU,yE:=_,z8:=mg_of X G II,nS:=⟨mg_of X G iz,iz,(AR rA).2⟩,yF:=⟨⟨_,mg_of X G iz,(by intro n hn;simp only [mem_cons,not_mem_nil,or_false]at hn;rcases hn with rfl<;>first|exact⟨_,iz,vH⟩)⟩⟩,rX:=⟨zx,(by intro n hn;simp only [mem_cons,not_mem_nil,or_false]at hn;rcases hn with rfl<;>first|exact⟨_,iz,(AR rA).1,qJ⟩)⟩,rY:=⟨zy,(by intro n hn;simp only [mem_cons,not_mem_nil,or_false]at hn;rcases hn with rfl<;>first|exact⟨_,iz,(AR rA).1,qK⟩)⟩,aS:=⟨aeb,(by intro n hn;simp only [mem_cons,not_mem_nil,or_false]at hn;rcases hn with rfl<;>first|exact⟨_,iz,(AR rA).1,Dc⟩)⟩}
 refine⟨_,fun s v=>(?_:BindsTo s t.GA ⟨[v],[]⟩ [("_law_script",v)]),fun base _ _=>?_⟩
 ·exact .of_eq rfl
 have yS:= @IB l.prog w (Kw w) mg base t
 have vE:= @EK l.prog w (Kw w) mg base t
 have bK:= @C6 l.prog w (Kw w) mg base t
 have Bl:= @Px l.prog w (Kw w) mg base t
 have cL:= @Bk l.prog w (Kw w) mg base t
 have kG:= @MR l.prog w (Kw w) mg base t
 have bj:= @nV l.prog w (Kw w) mg base t
 have mV:= @yN l.prog w (Kw w) mg base t
 have IJ:= @EL l.prog w (Kw w) mg base t
 have cB:= @C7 l.prog w (Kw w) mg base t
 have dW:= @wD l.prog w (Kw w) mg base t
 have lE:= @wF l.prog w (Kw w) mg base t
 have j6:= @vB l.prog w (Kw w) mg base t
 have lF:= @wG l.prog w (Kw w) mg base t
 have lD:= @wH l.prog w (Kw w) mg base t
 have yP:= @IC l.prog w (Kw w) mg base t bK
 have nU:= @ID l.prog w (Kw w) mg base t cL kG
 have pS:= @oZ l.prog w (Kw w) mg base t cL bj
 have ur:= @IE l.prog w (Kw w) mg base t bK bj
 have Bm:= @MS l.prog w (Kw w) mg base t cL
 have MT:= @Vs l.prog w (Kw w) mg base t bK
 have mW:= @yO l.prog w (Kw w) mg base t mV
 have o5:= @zo l.prog w (Kw w) mg base t j6
 have sI:= @C8 l.prog w (Kw w) mg base t cB dW
 have o7:= @zp l.prog w (Kw w) mg base t kG nU
 have cU:= @o4 l.prog w (Kw w) mg base t yP bK Bl
 have Dg:Ok l.prog w (Kw w) mg base 3 t.bY t.bZ ["n","row"] qp:=IX.calm cU
 have mX:= @yQ l.prog w (Kw w) mg base t Bm
 have qL:= @pR l.prog w (Kw w) mg base t mW
 have o8:= @zq l.prog w (Kw w) mg base t cB o5
 have mY:= @yR l.prog w (Kw w) mg base t sI lD
 have gK:= @vC l.prog w (Kw w) mg base t o7 cU
 have fW:Ok l.prog w (Kw w) mg base 4 t.dR t.dS ["n","form"] cO:=IX.calm gK
 have vG:= @EO l.prog w (Kw w) mg base t yS ur mX
 have qI:= @Bo l.prog w (Kw w) mg base t cB o8
 have j8:= @vD l.prog w (Kw w) mg base t vE MT vG
 have jb:= @wI l.prog w (Kw w) mg base t gK
 have TC:Nb (Kw w) mg 294:=⟨⟨ypg,yhd,ypo,ysa⟩,yn0,yn1,yn2,yn3,yn4,yn5,yn6,yn7,yn8,yn9,mg_of X G yC,t.Bd,t.eM,t.ie⟩
 have⟨YF0,Y5⟩:=Rq (Kw w) (C:=294) (x:="__init__") (q:="Comb.__init__") (st:=EB) (f:=244) (c:=243) (m:=H.w3) (by kernel_rfl)
 have YB0:=YF0.binds (ps:=["self","n"]) (zt fun _ _ _ _ _ _ _ _=>rfl)
 have⟨YF1,aec⟩:=Rq (Kw w) (C:=294) (x:="number_of") (q:="Comb.number_of") (st:=Me) (f:=251) (c:=250) (m:=H.w3) (by kernel_rfl)
 have Z1:=YF1.binds (ps:=["self","row"]) (zt fun _ _ _ _ _ _ _ _=>rfl)
 have Z2:=aec
 have⟨YF2,aed⟩:=Rq (Kw w) (C:=294) (x:="without_first") (q:="Comb.without_first") (st:=Mg) (f:=258) (c:=257) (m:=H.w3) (by kernel_rfl)
 have YB2:=YF2.binds (ps:=["self","number","k"]) (Pz fun _ _ _ _ _ _ _ _ _=>rfl)
 have YM2:=aed
 have⟨YF3,aee⟩:=Rq (Kw w) (C:=294) (x:="with_last") (q:="Comb.with_last") (st:=Mi) (f:=265) (c:=264) (m:=H.w3) (by kernel_rfl)
 have YB3:=YF3.binds (ps:=["self","number","k"]) (Pz fun _ _ _ _ _ _ _ _ _=>rfl)
 have YM3:=aee
 have⟨YF4,aef⟩:=Rq (Kw w) (C:=294) (x:="slide") (q:="Comb.slide") (st:=Mj) (f:=272) (c:=271) (m:=H.w3) (by kernel_rfl)
 have YB4:=YF4.binds (ps:=["self","one","other"]) (Pz fun _ _ _ _ _ _ _ _ _=>rfl)
 have YM4:=aef
 have⟨YF5,aeg⟩:=Rq (Kw w) (C:=294) (x:="slide_kept") (q:="Comb.slide_kept") (st:=Ml) (f:=279) (c:=278) (m:=H.w3) (by kernel_rfl)
 have YB5:=YF5.binds (ps:=["self","one","other"]) (Pz fun _ _ _ _ _ _ _ _ _=>rfl)
 have YM5:=aeg
 have⟨YF6,aeh⟩:=Rq (Kw w) (C:=294) (x:="put") (q:="Comb.put") (st:=Mm) (f:=286) (c:=285) (m:=H.w3) (by kernel_rfl)
 have YB6:=YF6.binds (ps:=["self","row"]) (zt fun _ _ _ _ _ _ _ _=>rfl)
 have YM6:=aeh
 have⟨YF7,aei⟩:=Rq (Kw w) (C:=294) (x:="form_told") (q:="Comb.form_told") (st:=GC) (f:=291) (c:=290) (m:=H.w3) (by kernel_rfl)
 have YB7:=YF7.binds (ps:=["self"]) (ES fun _ _ _ _ _ _ _=>rfl)
 have YM7:=aei
 have Z3:=UX (P:=l.prog) (w:=w) (base:=base) YF1 TC t nU kG IJ O7
 have YG2:=Yn (P:=l.prog) (w:=w) (base:=base) YF2 TC t Z2 Z1 Z3 pS
 have YG3:=Yp (P:=l.prog) (w:=w) (base:=base) YF3 TC t Z2 Z1 Z3 bj
 have YG4:=Yq (P:=l.prog) (w:=w) (base:=base) YF4 TC YM2 YB2 YG2 YM3 YB3 YG3
 have YG5:=Yv (P:=l.prog) (w:=w) (base:=base) YF5 TC t YM4 YB4 YG4
 have YG6:=Yz (P:=l.prog) (w:=w) (base:=base) YF6 TC Z2 Z1 Z3 YM5 YB5 YG5
 have YG7:=YD (P:=l.prog) (w:=w) (base:=base) YF7 TC
 have YG0:=YF (P:=l.prog) (w:=w) (base:=base) YF0 TC t Z2 Z1 Z3 bK Bl (fun n hn=>ig n hn) (fun n hn=>GR n hn) O8 pN
 have j7:=Vc (P:=l.prog) (w:=w) (base:=base) TC ⟨_,_,_,_,_,_,⟨ymk,Y5.1,Y5.2,ykc⟩,YB0,YG0,YM6,YB6,YG6,YM7,YB7,YG7⟩ t qL
 have ER:= @Py l.prog w (Kw w) mg base t j7 j8
 have Y6:= @Vt l.prog w (Kw w) mg base t fW ER cB dW lE qI lF mY jb
 exact Y6
theorem walk{l:PySem.W.OpenLaw}{q:Program}{loose:List Str}{XP:(Str->Option Value)->Heap->Prop}{YP:World->Heap->Prop}{d:DefRec}{K:Params->PySem.W.Frag}(hn:l.most=some 63)(Wv:d.params.defaults=[])
  (hY:∀(w:World)(h:Heap),YP w h->(K w.params).In h)
  (F:∀(w:World)(mg:Str->Option Value)(fa:Addr)(h:Heap),(K w.params).In h->h.Ns mainGlobals mg->mg d.name=some (.ref fa)->
   ∃fd:FuncData,(∀(s:Shared)(u:Value),BindsTo s fd ⟨[u],[]⟩ [("_law_script",u)])/\∀base:Heap,(K w.params).In base->base.Ns mainGlobals mg->b8 l.prog w (K w.params) mg base lI 11 fa fd ["_law_script"] (Fq (K w.params) IU yk)):
  PySem.W.WalkO q loose XP YP l.row.toRowW d [] (fun f vs=>PySem.call f vs):=
 L2.NN (n:=63) (k:=11) (x:="_law_script") (CX:=fun _=>lI) (sp:=fun w=>Fq (K w.params) IU yk) hn (by decide) Wv ⟨rfl,by decide,by decide⟩ hY F (fun w H a ns hl _ hS=>Vr ns hl hS) fun _ _ _ _ _ z=>z
end DL.qx
open PySem PySem.W PyProof.Rows
set_option maxRecDepth 100000 in
set_option maxHeartbeats 0 in
theorem PySem.Challenge.cw_braidcomb_k35_forms_refused_holds : PySem.Challenge.rw_braidcomb_k35_forms_refused.Holds := by
 w_on
 refine holds_law (l:=PySem.Challenge.rw_braidcomb_k35_forms_refused) (by kernel_rfl) fun said=>?_
 refine holds_open (q:=DL.qx.H.q) (Xt:=DL.qx.H.Xt) (XP:=XL DL.qx.H.q []) (Yf:=DL.qx.H.hk.obs) (Ya:=DL.qx.H.hk.val) (YP:=DL.qx.H.hk.says) DL.qx.H.left DL.qx.H.hk.of DL.qx.H.hk.keeps (fun s e=>xl_of s (Bool.and_eq_true_iff.mp e).1) XL.keeps (by rfl) (by rfl) (by rfl) (fun s e=>recFacts_of (Bool.and_eq_true_iff.mp e).2) (by rfl) said (by decide +kernel) ⟨rfl,rfl,rfl,rfl,rfl,by decide +kernel⟩ ?hw ?hc
 case hw=>w_witness2
 refine DL.qx.walk (l:=PySem.Challenge.rw_braidcomb_k35_forms_refused) rfl rfl (fun w h Y=>kIn_of Y) ?F
 case F=>
  intro w mg fa h KX G hmg
  have hh:=DL.qx.all_mk (l:=PySem.Challenge.rw_braidcomb_k35_forms_refused) ((DL.qx.Rp w).symm▸KX) G hmg
  rw[DL.qx.Rp w]at hh
  exact hh
