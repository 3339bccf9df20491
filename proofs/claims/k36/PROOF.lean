import PyProof.Rows.All
import Wide.All
import OpenK.AllK
import Wide.FinOn
import Lean
import PyProof.EqAt
import PyProof.EqKinds
import PyProof.TupleCall
import PyProof.NeKinds
import PyProof.ListRange
import OpenK.KOwn
import KE.KTryMore
import KE.KSorted
import KE.KSort
import PyProof.Rows.SortWalk
import PyProof.SeqI3
import PyProof.Rows.SumAny
import PyProof.Rows.SeqMore2
import KE.KListMore
import PyProof.Rows.Range3
import PyProof.Cells
import KE.KTabLook
import PyProof.SliceStr2
import PyProof.StrBlockI
import PyProof.Rows.FStr
import PyProof.Rows.StrNews2
import PyProof.ListStr
import PyProof.Rows.StrStep
import PyProof.Rows.StrJoinStr
import PyProof.AutoSeq1
import PyProof.ListRange
import KE.KRevIter
import PyProof.CollectIter
import PyProof.FactsAll.range_iterator_1
import PyProof.Rows.RuleM_int
import PyProof.FactsAll.int_6
import OpenK.AllK
import PySem.Challenge.RW_braidcomb_k36_same_by_loops
open PySem.W (instObj methodObj lookIn plainGet hasDictIn findIn handedIn plainGet_of isFn plainOver takerIn Looks makesIn typeIn emptyDict keepIn mroIn kitOne kia_one kitx_list kitx_tuple kitx_dict callWith_K methodCall_KW cellsFrom_some codeIn nsIn mg_of mg_none_of kIn_of)
open Nat (lt_of_lt_of_le ne_of_lt le_trans ne_of_gt zero_le le_of_eq sub_zero le_total min_eq_left min_eq_right sub_self reduceAdd reduceSub reduceEqDiff ble lt_or_ge)
open List (range mem_filter mem_range mem_cons_self mem_cons_of_mem mem_cons mem_append mem_append_left getElem?_set_self getElem?_set_ne mem_append_right size_toArray length_cons map_cons length_map append_nil nodup_cons of_mem_zip replicate length length_take getElem?_append_right getElem?_replicate getElem?_append_left getElem?_map mem_of_getElem? length_append length_replicate map_nil length_drop length_set reverse_cons replicate_succ flatten_cons foldl foldl_cons length_singleton length_dropLast length_reverse nil_append Pairwise find?_cons any_cons cons_append length_nil getElem_of_mem getElem?_eq_getElem dropLast_eq_take drop_zero drop_eq_getElem_cons drop_length lookup_cons not_mem_nil getElem?_reverse range' length_range all_eq_true map_drop map_map map_append take_length take_of_length_le take_nil map_set map_reverse replicate_zero mem_reverse reverse_perm range_succ flatten_append mem_map mem_of_mem_take take_succ reverse map Nodup getElem?_eq_none sum_append sum_cons Perm length_zipIdx map_congr_left map_dropLast mem_of_getLast? reverse_append foldl_append mem_singleton reverse_reverse getElem_mem mem_replicate map_id mem_of_mem_drop append_inj' getD_eq_getElem?_getD take_append_drop)
open Array (toList)
open Int (toNat_natCast emod_nonneg emod_lt_of_pos neg_neg add_assoc)
open Option (getD_none map_some isSome_map getD_some)
open PySem.F (slot_dict_get entry_dict_get plainAttrs_list slot_list_pop type_list_pop slot_dict_len)
open Classical (propDecidable byContradiction)
open Bool (and_eq_true false_eq_true or_eq_true not_eq_true')
set_option bootstrap.genMatcherCode false
set_option hygiene false
local macro_rules
|`(tactic|dsimp [$l,*] $[$c]?)=>`(tactic|simp -implicitDefEqProofs only [reduceIte,ah,ai,aG,aH,aI,aJ,$l,*] $[$c]?)
|`(tactic|dsimp $[$c:location]?)=>`(tactic|simp -implicitDefEqProofs only [reduceIte,ah,ai,aG,aH,aI,aJ] $[$c]?)
local macro_rules
|`(tactic|simp_all [$l,*])=>`(tactic|simp -implicitDefEqProofs only [mS,mD,mF,gp,aN,reduceAdd,reduceSub,reduceEqDiff,reduceIte,ah,ai,aG,aH,aI,aJ,$l,*])
|`(tactic|simp_all)=>`(tactic|simp -implicitDefEqProofs only [mS,mD,mF,gp,aN,reduceAdd,reduceSub,reduceEqDiff,reduceIte,ah,ai,aG,aH,aI,aJ])
local macro_rules|`(tactic|simp_all only [$l,*])=>`(tactic|simp -implicitDefEqProofs only [$l,*])
local macro_rules|`($a>=>$b)=>`(R.bind $a $b)
set_option hygiene true
noncomputable section
set_option Elab.async false
set_option linter.all false
set_option maxRecDepth 100000
namespace L2
open PySem PySem.Spec PyProof.Rows
abbrev Key:=Sum Int Str
def yY:Key->Value->Bool
 |.inl k,v=>Value.isInt k v
 |.inr x,v=>Value.isStrOf x v
def Zo(w:World):Key->Int
 |.inl k=>hashInt k
 |.inr x=>hashStr w x
theorem dq:∀{k:Key}{v:Value},yY k v=true->(∃i t,k=Sum.inl i/\v=Value.int i t)\/(∃x t,k=Sum.inr x/\v=Value.str x t)
 |.inl i,v,h=>by
  obtain⟨t,e⟩:=Value.isInt_shape (k:=i) (v:=v) h
  exact .inl ⟨i,t,rfl,e⟩
 |.inr x,v,h=>by
  obtain⟨t,e⟩:=Value.isStrOf_shape (x:=x) (v:=v) h
  exact .inr ⟨x,t,rfl,e⟩
theorem Gz(i:Int)(t:Tok):yY (.inl i) (.int i t)=true:=by simp[yY,Value.isInt]
theorem GA(x:Str)(t:Tok):yY (.inr x) (.str x t)=true:=by simp[yY,Value.isStrOf]
theorem RX(a b:Int):decide ((Sum.inl a:Key)=Sum.inl b)=(a==b):=by
 by_cases e:a=b
 ·subst e;simp
 ·have h:¬(Sum.inl a:Key)=Sum.inl b:=λq=>e (Sum.inl.inj q)
  rw[decide_eq_false h]
  exact(beq_eq_false_iff_ne.mpr e).symm
theorem RY(a b:Str):decide ((Sum.inr a:Key)=Sum.inr b)=decide (a=b):=by
 by_cases e:a=b
 ·subst e;simp
 ·have h:¬(Sum.inr a:Key)=Sum.inr b:=λq=>e (Sum.inr.inj q)
  rw[decide_eq_false h,decide_eq_false e]
theorem RZ(a:Int)(b:Str):decide ((Sum.inl a:Key)=Sum.inr b)=false:=decide_eq_false (λq=>nomatch q)
theorem R0(a:Str)(b:Int):decide ((Sum.inr a:Key)=Sum.inl b)=false:=decide_eq_false (λq=>nomatch q)
noncomputable def dJ(prog:Program)(w:World):PySem.KeyKind prog w Key where
 is:=yY
 hash:=Zo w
 inj:=λv a b ha hb=>by
  rcases dq ha with⟨i,t,rfl,rfl⟩|⟨x,t,rfl,rfl⟩
  ·rcases dq hb with⟨j,u,rfl,e⟩|⟨y,u,rfl,e⟩
   ·injection e with e1 _;rw[e1]
   ·exact nomatch e
  ·rcases dq hb with⟨j,u,rfl,e⟩|⟨y,u,rfl,e⟩
   ·exact nomatch e
   ·injection e with e1 _;rw[e1]
 byValue:=λk v h=>by
  rcases dq h with⟨i,t,rfl,rfl⟩|⟨x,t,rfl,rfl⟩<;>rfl
 pyHash:=λhv h=>by
  rcases dq hv with⟨i,t,rfl,rfl⟩|⟨x,t,rfl,rfl⟩
  ·exact wpAny_pyHash_int h
  ·exact wpAny_pyHash_str h
 eqBool:=λhu hv h=>by
  rcases dq hu with⟨i,t,rfl,rfl⟩|⟨x,t,rfl,rfl⟩
  ·rcases dq hv with⟨j,u,rfl,rfl⟩|⟨y,u,rfl,rfl⟩
   ·rw[RX]at h;exact wpAny_eqBool_int h
   ·rw[RZ]at h;exact SeqAt.EqAt.int_str i t y u _ _ _ _ h
  ·rcases dq hv with⟨j,u,rfl,rfl⟩|⟨y,u,rfl,rfl⟩
   ·rw[R0]at h;exact SeqAt.EqAt.str_int x t j u _ _ _ _ h
   ·rw[RY]at h;exact wpAny_eqBool_str h
 «strs»:=λk x t v h=>by
  rcases dq h with⟨i,u,rfl,e⟩|⟨y,u,rfl,e⟩
  ·exact nomatch e
  ·injection e with e1 _
   subst e1
   cases v<;>rfl
theorem A8(prog:Program)(w:World)(i:Int)(t:Tok):(dJ prog w).is (.inl i) (.int i t)=true:=Gz i t
theorem A9(prog:Program)(w:World)(x:Str)(t:Tok):(dJ prog w).is (.inr x) (.str x t)=true:=GA x t
end L2
namespace L2
open PySem PySem.Spec PyProof.Rows
inductive V where
 |non|bl (b:Bool)|int (i:Int)|str (x:Str)|Ic (b:Array UInt8)|R3 (b:UInt64)|ref (a:Addr)|ty (n:String)
 deriving DecidableEq
def RelV:V->Value->Prop
 |.non,u=>u=Value.none
 |.bl b,u=>u=Value.bool b
 |.int i,u=>∃t,u=Value.int i t
 |.str x,u=>∃t,u=Value.str x t
 |.Ic b,u=>∃t,u=Value.bytes b t
 |.R3 b,u=>∃t,u=Value.float b t
 |.ref a,u=>u=Value.ref a
 |.ty n,u=>u=Value.type n
abbrev Vals:List V->List Value->Prop:=Paired RelV
theorem Vals.length {xs:List V}{us:List Value}(r:Vals xs us):xs.length=us.length:=Paired.length r
theorem Vals.get:∀{xs:List V}{us:List Value}{i:Nat}{x:V},Vals xs us->xs[i]?=some x->∃u,us[i]?=some u/\RelV x u
 |_,_,_,_,.nil,e=>by simp at e
 |_,_,0,_,.cons r _,e=>by simp at e;subst e;exact⟨_,rfl,r⟩
 |_,_,i+1,x,.cons _ t,e=>by
  obtain⟨u,h1,h2⟩:=Vals.get (i:=i) (x:=x) t (by simpa using e)
  exact⟨u,by simpa using h1,h2⟩
theorem Vals.set {x:V}{u:Value}(r:RelV x u):∀{xs:List V}{us:List Value}(i:Nat),Vals xs us->Vals (xs.set i x) (us.set i u)
 |_,_,_,.nil=>.nil
 |_,_,0,.cons _ t=>.cons r t
 |_,_,i+1,.cons q t=>.cons q (Vals.set r i t)
theorem Vals.append:∀{xs ys:List V}{us ws:List Value},Vals xs us->Vals ys ws->Vals (xs++ys) (us++ws)
 |_,_,_,_,.nil,s=>s
 |_,_,_,_,.cons r t,s=>.cons r (Vals.append t s)
theorem Vals.take:∀{xs:List V}{us:List Value}(n:Nat),Vals xs us->Vals (xs.take n) (us.take n)
 |_,_,0,_=>.nil
 |_,_,_+1,.nil=>.nil
 |_,_,n+1,.cons r t=>.cons r (Vals.take n t)
theorem Vals.drop:∀{xs:List V}{us:List Value}(n:Nat),Vals xs us->Vals (xs.drop n) (us.drop n)
 |_,_,0,r=>r
 |_,_,_+1,.nil=>.nil
 |_,_,n+1,.cons _ t=>Vals.drop n t
def pe:Option V->Option Value->Prop
 |some v,some u=>RelV v u
 |none,none=>True
 |_,_=>False
def KV{κ:Type}:List (κ×V)->List (κ×Value)->Prop:=Paired λ(p:κ×V)(q:κ×Value)=>p.1=q.1/\RelV p.2 q.2
def kV:Key->V
 |.inl i=>.int i
 |.inr x=>.str x
inductive HO where
 |lst (xs:List V)
 |tup (xs:List V)
 |dK (kvs:List (Key×V))|dT (kvs:List (List Key×V))
 |set (S:Int->Bool) (n:Nat)
 |ins (C dx:Addr) (fs:List (Str×V))
 |own (x:Addr)
 |xd (fs:List (Str×V))
 |met (f x:Addr)
 |Zp (lo hi:Int)
 |yx (o:Obj) (u:HO)
 |R4 (ps:Array Value)
 |ext (φ:Heap->Prop)
abbrev Hp:=Addr->Option HO
def upd(H:Hp)(a:Addr)(o:HO):Hp:=λb=>if b=a then some o else H b
theorem au{H:Hp}{a:Addr}{o:HO}:upd H a o a=some o:=by unfold upd;rw[if_pos rfl]
theorem aj{H:Hp}{a b:Addr}{o:HO}(h:b≠a):upd H a o b=H b:=by unfold upd;rw[if_neg h]
theorem bX{H:Hp}{a b:Addr}{o u:HO}(h:H a=some o)(h':H b=some u)(d:o≠u):a≠b:=by
 intro e;subst e;rw[h]at h';exact d (Option.some.inj h')
theorem aA{H:Hp}{a b:Addr}{o:HO}(h:H a=some o)(h':H b=none):a≠b:=by
 intro e;subst e;rw[h]at h';cases h'
section
variable(P:Program)(w:World)
noncomputable def dF(H:Hp)(h:Heap)(a:Addr):HO->Prop
 |.lst xs=>xs.length<=sizeLine/\∃(its:List Value)(n:Nat),Vals xs its/\h.get? a=some {cls:=.type "list",data:=.seq its.toArray n}
 |.tup xs=>xs.length<=sizeLine/\∃its:List Value,Vals xs its/\IsTup h a its.toArray
 |.dK kvs=>kvs.length<=sizeLine/\(a==sysModules)=false/\∃vs,KV kvs vs/\h.DictOf (dJ P w) a vs
 |.dT kvs=>kvs.length<=sizeLine/\(a==sysModules)=false/\∃xs:List (List Key×Addr×Value),
   Paired (λ(p:List Key×V)(q:List Key×Addr×Value)=>p.1=q.1/\H q.2.1=some (.tup (p.1.map kV))/\RelV p.2 q.2.2) kvs xs/\
   ∃o es ep,h.get? a=some o/\o.ExactDict/\o.data=.dict es ep/\es.toList=xs.map (entryOfKey (tupleKind (dJ P w)))/\(xs.map (·.1)).Nodup
 |.set S n=>h.SetOf (intKind P w) a S n
 |.ins C dx fs=>H dx=some (.own a)/\fs.length<=1000/\dx≠a/\h.get? a=some (instObj C dx)/\
   ∃mA,h.Ns1 dx mA/\(∀f,pe (fs.lookup f) (mA f))/\PySem.Within mA (fs.map (·.1))
 |.own _=>∃o,h.get? a=some o
 |.xd fs=>∃mA,h.Ns1 a mA/\∀f,pe (fs.lookup f) (mA f)
 |.Zp lo hi=>∃t u v,h.get? a=some {cls:=.type "range",data:=.fields #[.int lo t,.int hi u,.int 1 v]}
 |.yx o u=>h.get? a=some o/\dF H h a u
 |.R4 ps=>h.get? a=some {cls:=.none,data:=.fields ps}
 |.met f x=>h.get? a=some (methodObj (.ref f) (.ref x))
 |.ext φ=>φ h/\(∃o,h.get? a=some o)/\∀h1 h2:Heap,φ h1->(∀o,h1.get? a=some o->h2.get? a=some o)->φ h2
def qR(H:Hp)(h:Heap):Prop:=∀a o,H a=some o->dF P w H h a o
end
section
variable{P:Program}{w:World}{H H':Hp}{h h':Heap}{a:Addr}{o:HO}
theorem dF.lt (x:dF P w H h a o):a<h.objs.size:=by
 cases o with
 |lst xs=>obtain⟨_,_,_,_,e⟩:=x;exact Heap.lt_size e
 |tup xs=>obtain⟨_,_,_,p⟩:=x;exact p.lt
 |dK kvs=>obtain⟨_,_,_,_,o,_,_,e,_⟩:=x;exact Heap.lt_size e
 |dT kvs=>obtain⟨_,_,_,_,o,_,_,e,_⟩:=x;exact Heap.lt_size e
 |set S n=>obtain⟨o,_,_,_,e,_⟩:=x;exact Heap.lt_size e
 |ins C dx fs=>obtain⟨_,_,_,e,_⟩:=x;exact Heap.lt_size e
 |own y=>obtain⟨_,e⟩:=x;exact Heap.lt_size e
 |xd fs=>obtain⟨_,⟨_,_,_,e,_⟩,_⟩:=x;exact Heap.lt_size e
 |Zp lo hi=>obtain⟨_,_,_,e⟩:=x;exact Heap.lt_size e
 |yx ob u=>obtain⟨e,_⟩:=x;exact Heap.lt_size e
 |R4 ps=>exact Heap.lt_size (show h.get? a=some _ from x)
 |met f y=>exact Heap.lt_size (show h.get? a=some _ from x)
 |ext φ=>obtain⟨_,⟨_,e⟩,_⟩:=x;exact Heap.lt_size e
theorem Paired.R5 {α β:Type}{F G:α->β->Prop}:∀{l₁:List α}{l₂:List β},Paired F l₁ l₂->(∀a b,F a b->G a b)->Paired G l₁ l₂
 |_,_,.nil,_=>.nil
 |_,_,.cons r t,f=>.cons (f _ _ r) (Paired.R5 t f)
theorem dF.CS (x:dF P w H h a o)(k:∀b u,(b=a\/H b=some (.own a))->h.get? b=some u->h'.get? b=some u)
  (ho:∀b,H b=some (.own a)->H' b=some (.own a))(ht:∀b xs,H b=some (.tup xs)->H' b=some (.tup xs)):dF P w H' h' a o:=by
 induction o with
 |lst xs=>obtain⟨z,its,n,r,e⟩:=x;exact⟨z,its,n,r,k _ _ (.inl rfl) e⟩
 |tup xs=>obtain⟨z,its,r,ob,e,c⟩:=x;exact⟨z,its,r,ob,k _ _ (.inl rfl) e,c⟩
 |dK kvs=>obtain⟨z,y,vs,r,ob,es,ep,e,c⟩:=x;exact⟨z,y,vs,r,ob,es,ep,k _ _ (.inl rfl) e,c⟩
 |dT kvs=>
  obtain⟨z,y,xs,r,ob,es,ep,e,c⟩:=x
  exact⟨z,y,xs,Paired.R5 r λp q z=>⟨z.1,ht _ _ z.2.1,z.2.2⟩,ob,es,ep,k _ _ (.inl rfl) e,c⟩
 |set S n=>obtain⟨ob,es,ep,t,e,c⟩:=x;exact⟨ob,es,ep,t,k _ _ (.inl rfl) e,c⟩
 |ins C dx fs=>
  obtain⟨d,z,ne,e,mA,⟨od,es,ep,e2,c⟩,r⟩:=x
  exact⟨ho _ d,z,ne,k _ _ (.inl rfl) e,mA,⟨od,es,ep,k _ _ (.inr d) e2,c⟩,r⟩
 |own y=>obtain⟨ob,e⟩:=x;exact⟨ob,k _ _ (.inl rfl) e⟩
 |xd fs=>obtain⟨mA,⟨od,es,ep,e,c⟩,r⟩:=x;exact⟨mA,⟨od,es,ep,k _ _ (.inl rfl) e,c⟩,r⟩
 |Zp lo hi=>obtain⟨t,u,v,e⟩:=x;exact⟨t,u,v,k _ _ (.inl rfl) e⟩
 |yx ob u ih=>obtain⟨e,q⟩:=x;exact⟨k _ _ (.inl rfl) e,ih q⟩
 |R4 ps=>
  have e:h.get? a=some {cls:=.none,data:=.fields ps}:=x
  show h'.get? a=some {cls:=.none,data:=.fields ps}
  exact k a _ (.inl rfl) e
 |met f y=>
  have e:h.get? a=some (methodObj (.ref f) (.ref y)):=x
  show h'.get? a=some (methodObj (.ref f) (.ref y))
  exact k a _ (.inl rfl) e
 |ext φ=>obtain⟨p,⟨o,e⟩,st⟩:=x;exact⟨st _ _ p λo q=>k _ _ (.inl rfl) q,⟨o,k _ _ (.inl rfl) e⟩,st⟩
theorem qR.lt (x:qR P w H h)(e:H a=some o):a<h.objs.size:=(x a o e).lt
theorem qR.fresh (x:qR P w H h)(e:h.objs.size<=a):H a=none:=by
 cases q:H a with
 |none=>rfl
 |some u=>exact absurd (lt_of_lt_of_le (x.lt q) e) (Nat.lt_irrefl _)
theorem qR.kept (x:qR P w H h)(k:∀b u,h.get? b=some u->h'.get? b=some u):qR P w H h':=λa o e=>
 (x a o e).CS (λb u _ q=>k b u q) (λ_ q=>q) λ_ _ q=>q
theorem qR.laid (x:qR P w H h)(k:∀b u,h.get? b=some u->h'.get? b=some u)(hp:h.objs.size<=a)(new:dF P w (upd H a o) h' a o):qR P w (upd H a o) h':=λb u e=>by
 have hn:=x.fresh hp
 by_cases hb:b=a
 ·subst hb;rw[au]at e;cases e;exact new
 ·rw[aj hb]at e
  exact(x b u e).CS (λc v _ q=>k c v q) (λc q=>by rw[aj (aA q hn)];exact q) λc xs q=>by rw[aj (aA q hn)];exact q
end
def Rd(H:Hp)(a:Addr)(u:HO):Prop:=H a=some u\/∃o,H a=some (.yx o u)
theorem Rd.ok {P:Program}{w:World}{H:Hp}{h:Heap}{a:Addr}{u:HO}(r:Rd H a u)(x:qR P w H h):dF P w H h a u:=by
 rcases r with r|⟨o,r⟩
 ·exact x a u r
 ·obtain⟨_,q⟩:=x a _ r
  exact q
def VS:Option HO->Prop
 |some (.lst _)=>True
 |some (.dK _)=>True
 |some (.dT _)=>True
 |some (.set _ _)=>True
 |some (.ins _ _ _)=>True
 |some (.ext _)=>True
 |_=>False
section
variable{P:Program}{w:World}{H:Hp}{h h':Heap}{x e:Addr}{o':HO}
theorem qR.write (ok:qR P w H h)(mu:VS (H x))(he:e=x\/H e=some (.own x))(k:∀b u,b≠e->h.get? b=some u->h'.get? b=some u)(Vq:∃u,h'.get? e=some u)
  (new:dF P w (upd H x o') h' x o'):qR P w (upd H x o') h':=λb u q=>by
 have VU:∀c y,H c=some (.own y)->c≠x:=λc y r z=>by subst z;rw[r]at mu;exact mu
 have Zq:∀c xs,H c=some (.tup xs)->c≠x:=λc xs r z=>by subst z;rw[r]at mu;exact mu
 by_cases hb:b=x
 ·subst hb;rw[au]at q;cases q;exact new
 ·rw[aj hb]at q
  by_cases R6:b=e
  ·have q':H b=some (.own x):=by
    rcases he with z|z
    ·exact absurd (R6.trans z) hb
    ·rw[R6];exact z
   rw[q]at q';cases q'
   obtain⟨v,hv⟩:=Vq
   exact⟨v,by rw[R6];exact hv⟩
  ·refine(ok b u q).CS (λc v hc r=>k c v ?_ r) (λc r=>by rw[aj (VU c b r)];exact r) λc xs r=>by rw[aj (Zq c xs r)];exact r
   rcases hc with rfl|hc
   ·exact R6
   ·rintro rfl
    rcases he with z|z
    ·exact VU c b hc z
    ·rw[hc]at z;cases z;exact hb rfl
end
structure Un(fs ex:List Addr)(H H':Hp)(h h':Heap):Prop where
 keep:∀b o,h.get? b=some o->H b=none->b∉fs->b∉ex->h'.get? b=some o
 slot:∀b o,h.get? b=some o->H b=none->b∈fs->b∉ex->∃sl,h'.get? b=some {o with slots:=sl}
 free:∀b o,h.get? b=some o->H b=none->b∉ex->H' b=none
 there:∀b o,h.get? b=some o->b∉ex->∃o',h'.get? b=some o'
 tups:∀b xs,H b=some (.tup xs)->H' b=some (.tup xs)
 zR:∀b o u,H b=some (.yx o u)->H' b=some (.yx o u)
 Ba:∀b ps,H b=some (.R4 ps)->∃more,H' b=some (.R4 (ps++more))
section
variable{fs fs' ex YC:List Addr}{H H1 H2:Hp}{h h1 h2 h':Heap}{a x e:Addr}{o:HO}
theorem Un.any (u:Un fs ex H H1 h h1){b:Addr}{ob:Obj}(q:h.get? b=some ob)(n:H b=none)(hx:b∉ex):∃sl,h1.get? b=some {ob with slots:=sl}:=by
 by_cases hb:b∈fs
 ·exact u.slot b ob q n hb hx
 ·exact⟨ob.slots,u.keep b ob q n hb hx⟩
theorem Un.kept (k:∀b u,h.get? b=some u->h'.get? b=some u):Un fs ex H H h h':=
 ⟨λb ob q _ _ _=>k b ob q,λb ob q _ _ _=>⟨ob.slots,k b ob q⟩,λ_ _ _ n _=>n,λb ob q _=>⟨ob,k b ob q⟩,λ_ _ q=>q,λ_ _ _ q=>q,λ_ ps q=>⟨#[],by rw[q];simp⟩⟩
theorem Un.refl:Un fs ex H H h h:=Un.kept λ_ _ q=>q
theorem Un.laid (k:∀b u,h.get? b=some u->h'.get? b=some u)(hp:h.objs.size<=a)(hn:H a=none):Un fs ex H (upd H a o) h h' where
 keep:=λb u q _ _ _=>k b u q
 slot:=λb u q _ _ _=>⟨u.slots,k b u q⟩
 free:=λb u q n _=>by rw[aj (ne_of_lt (lt_of_lt_of_le (Heap.lt_size q) hp))];exact n
 there:=λb u q _=>⟨u,k b u q⟩
 tups:=λb xs q=>by rw[aj (aA q hn)];exact q
 zR:=λb u xs q=>by rw[aj (aA q hn)];exact q
 Ba:=λb ps q=>⟨#[],by rw[aj (aA q hn),q];simp⟩
theorem Un.write (mu:VS (H x))(he:e=x\/H e=some (.own x))(k:∀b u,b≠e->h.get? b=some u->h'.get? b=some u)(Vq:∃u,h'.get? e=some u):Un fs ex H (upd H x o) h h':=by
 have hx:∀b,H b=none->b≠x:=λb n z=>by subst z;rw[n]at mu;exact mu
 have hb:∀b,H b=none->b≠e:=λb n z=>by
  subst z
  rcases he with r|r
  ·exact hx b n r
  ·rw[n]at r;cases r
 have hm:∀b u,H b=some u->¬VS (some u)->b≠x:=λb u q nm z=>by subst z;rw[q]at mu;exact nm mu
 refine⟨λb u q n _ _=>k b u (hb b n) q,λb u q n _ _=>⟨u.slots,k b u (hb b n) q⟩,λb u q n _=>by rw[aj (hx b n)];exact n,λb u q _=>?_,
  λb xs q=>by rw[aj (hm b _ q λz=>z)];exact q,λb u xs q=>by rw[aj (hm b _ q λz=>z)];exact q,λb ps q=>⟨#[],by rw[aj (hm b _ q λz=>z),q];simp⟩⟩
 by_cases R6:b=e
 ·subst R6;exact Vq
 ·exact⟨u,k b u R6 q⟩
end
def YD(h:Heap)(H:Hp):List Addr:=(range h.objs.size).filter λa=>(H a).isSome
def zS(h:Heap)(H:Hp):Heap:=PySem.W.hideAll h (YD h H)
theorem GB(h:Heap)(H:Hp):(zS h H).objs.size=h.objs.size:=PySem.W.hideAll_size _ _
theorem Ip{h:Heap}{H:Hp}{b:Addr}{o:Obj}(e:h.get? b=some o)(n:H b=none):(zS h H).get? b=some o:=
 PySem.W.hideAll_get _ e λhm=>by
  have q:(H b).isSome=true:=(mem_filter.mp hm).2
  rw[n]at q;simp at q
theorem M7{h:Heap}{H:Hp}{b:Addr}{o:Obj}(e:(zS h H).get? b=some o):h.get? b=some o/\H b=none:=by
 have e':h.get? b=some o:=PySem.W.of_hideAll (YD h H) e
 refine⟨e',?_⟩
 cases q:H b with
 |none=>rfl
 |some x=>
  have hm:b∈YD h H:=mem_filter.mpr ⟨mem_range.mpr (Heap.lt_size e'),by simp[q]⟩
  have z:(zS h H).get? b=none:=PySem.W.hideAll_none (YD h H) hm
  rw[z]at e;cases e
def M8(g h:Heap)(L:Addr):List (Addr×Obj):=(range h.objs.size).filterMap λa=>if a=L\/(g.get? a).isSome=true then none else(h.get? a).map λo=>(a,o)
def rest(g h:Heap)(L d:Addr):List (Addr×Obj):=(M8 g h L).filter λp=>decide (p.1≠d)
end L2
namespace L2
open PySem PySem.Spec PyProof.Rows
structure Mod(K:PySem.W.Frag)(mg:Str->Option Value)(base:Heap):Prop where
 VV:K.In base
 glob:base.Ns mainGlobals mg
 blt:∃mb,base.Ns builtinsNs mb/\∀x:Str,x≠"__name__"->mb x=bootBuiltins x
 nolimit:base.NoLimit
structure Cx where
 prog:Program
 w:World
 K:PySem.W.Frag
 mg:Str->Option Value
 base:Heap
 A:Around
 N:List Str
 s₀:Shared
 H₀:Hp
 env:Env
 outer:List Env
 stack:List Env
 ex:List Addr
 fn:Str->Bool
 calm:Bool
 pn:List (Addr×Obj)
 xe:Value->Shared->Prop
def CL(l:List Env):List Addr:=l.filterMap (·.frame)
abbrev Cx.fs (X:Cx):List Addr:=CL X.outer
def yZ(sc:Scope)(x:Str):Prop:=sc.names.lookup x=some .local\/sc.names.lookup x=some .cell\/sc.names.lookup x=some .free
def Loc(sc:Scope)(x:Str):Prop:=sc.names.lookup x=some .local\/sc.names.lookup x=some .cell
def Look(env:Env)(h:Heap)(m:Str->Option Value)(x:Str)(u:Value):Prop:=
 (env.kindOf x=some .local/\m x=some u)\/((env.kindOf x=some .cell\/env.kindOf x=some .free)/\∃c,env.cells.lookup x=some c/\h.IsCell c (some u))
structure Cx.Ok (X:Cx):Prop where
 mod:Mod X.K X.mg X.base
 kind:X.env.scope.kind=.function
 glob:X.env.globals=mainGlobals
 blt:X.env.builtins=builtinsNs
 above:X.s₀.heap.objs.size<=X.env.locals
 inj:∀x y c,X.env.cells.lookup x=some c->X.env.cells.lookup y=some c->x=y
 has:∀x,(X.env.kindOf x=some .cell\/X.env.kindOf x=some .free)->∃c,X.env.cells.lookup x=some c
 P8:∀x c,X.fn x=true->X.env.cells.lookup x=some c->X.s₀.heap.objs.size<=c
 hd:X.calm=true->X.A.handled=none
 frames:X.A.frames=some X.stack
 VW:X.stack=X.outer\/(X.stack=X.env::X.outer/\X.env.frame=some X.env.locals)
 VX:∀b∈X.ex,b≠X.env.locals/\∀x c,X.env.cells.lookup x=some c->c≠b
 bs:∀b o,X.base.get? b=some o->X.s₀.heap.get? b=some o/\X.H₀ b=none
 MF:X.base.objs.size<=X.s₀.heap.objs.size
 GC:∀b o,X.base.get? b=some o->b∉X.ex
 CT:∀b∈X.ex,b∉X.fs
 ud:X.s₀.heap.FunFrames X.base X.outer
 P9:∀b∈X.fs,X.H₀ b=none
structure Inv(X:Cx)(pins:List (Addr×Obj))(σ:List (Option V))(H:Hp)(s:Shared):Prop where
 ok:X.Ok
 os:s.os=X.s₀.os
 bare:AllBare s.gens
 base:Un X.fs X.ex X.H₀ H X.s₀.heap s.heap
 loc:∃m,s.heap.Ns X.env.locals m/\∀(i:Nat)(x:Str)(v:V),X.N[i]?=some x->σ[i]?=some (some v)->yZ X.env.scope x->∃u,RelV v u/\Look X.env s.heap m x u
 cell:∀x c,X.env.cells.lookup x=some c->∃v,s.heap.IsCell c v
 free:H X.env.locals=none
 qZ:∀x c,X.env.cells.lookup x=some c->H c=none
 pin:∀p∈X.pn++pins,s.heap.get? p.1=some p.2/\H p.1=none/\p.1≠X.env.locals/\p.1∉X.fs/\∀v,p.2.data≠.cell v
 hok:qR X.prog X.w H s.heap
 len:σ.length=X.N.length
section
variable{X:Cx}{pins:List (Addr×Obj)}{σ:List (Option V)}{H H':Hp}{s:Shared}{h':Heap}
theorem Cx.Ok.Zs (ok:X.Ok){b:Addr}{o:Obj}(e:X.base.get? b=some o):b∉X.fs:=λhb=>by
 have:=(ok.ud.mem hb).1
 rw[e]at this;cases this
theorem Inv.bs (I:Inv X pins σ H s):∀b o,X.base.get? b=some o->s.heap.get? b=some o/\H b=none:=λb o e=>
 ⟨I.base.keep b o (I.ok.bs b o e).1 (I.ok.bs b o e).2 (I.ok.Zs e) (I.ok.GC b o e),I.base.free b o (I.ok.bs b o e).1 (I.ok.bs b o e).2 (I.ok.GC b o e)⟩
theorem Inv.bk (I:Inv X pins σ H s):∀b o,X.base.get? b=some o->s.heap.get? b=some o:=λb o e=>(I.bs b o e).1
theorem Inv.mod (I:Inv X pins σ H s):Mod X.K X.mg X.base:=I.ok.mod
theorem Inv.ue (I:Inv X pins σ H s):X.K.In s.heap:=I.ok.mod.VV.keeps I.bk
theorem Inv.lt (I:Inv X pins σ H s):X.env.locals<s.heap.objs.size:=let⟨_,hn,_⟩:=I.loc;hn.lt
theorem Inv.sz (I:Inv X pins σ H s):X.s₀.heap.objs.size<=s.heap.objs.size:=le_trans I.ok.above (Nat.le_of_lt I.lt)
theorem Inv.Zt (I:Inv X pins σ H s){a:Addr}(h:s.heap.objs.size<=a):a∉X.fs:=λhb=>by
 obtain⟨_,o,ho,_⟩:=I.ok.ud.mem hb
 exact absurd (lt_of_lt_of_le (Heap.lt_size ho) (le_trans I.sz h)) (Nat.lt_irrefl _)
theorem Inv.R7 (I:Inv X pins σ H s):∀x c,X.env.cells.lookup x=some c->c≠X.env.locals:=λx c e z=>by
 obtain⟨v,o,ho,hd⟩:=I.cell x c e
 obtain⟨m,⟨o',es,ep,R8,M9,_⟩,_⟩:=I.loc
 rw[z,R8]at ho;cases ho;rw[M9]at hd;cases hd
theorem Inv.ud (I:Inv X pins σ H s):s.heap.FunFrames X.base X.outer:=by
 have all:∀(l:List Env),(∀b∈CL l,b∈X.fs)->X.s₀.heap.FunFrames X.base l->s.heap.FunFrames X.base l:=by
  intro l
  induction l with
  |nil=>intro _ _;trivial
  |cons env r ih=>
   intro hs hl
   obtain⟨hk,⟨L,o,hf,hn,ho,hd⟩,hr⟩:=hl
   have hL:L∈X.fs:=hs L (by unfold CL;rw[List.filterMap_cons,hf];exact mem_cons_self)
   obtain⟨sl,e⟩:=I.base.slot L o ho (I.ok.P9 L hL) hL λz=>I.ok.CT L z hL
   exact⟨hk,⟨L,_,hf,hn,e,hd⟩,ih (λb hb=>hs b (by unfold CL;rw[List.filterMap_cons,hf];exact mem_cons_of_mem _ hb)) hr⟩
 exact all X.outer (λ_ hb=>hb) I.ok.ud
theorem Inv.stack (I:Inv X pins σ H s):s.heap.FunFrames X.base X.stack:=by
 rcases I.ok.VW with e|⟨e,hf⟩
 ·rw[e];exact I.ud
 ·rw[e]
  obtain⟨m,hn,_⟩:=I.loc
  refine .cons (by rw[I.ok.kind];decide) hf hn ?_ I.ud
  exact Heap.get?_none_of_le (le_trans I.ok.MF I.ok.above)
theorem Inv.zT (I:Inv X pins σ H s):∀b∈CL X.stack,b∈X.env.locals::X.fs:=λb hb=>by
 rcases I.ok.VW with e|⟨e,hf⟩
 ·rw[e]at hb;exact mem_cons_of_mem _ hb
 ·rw[e]at hb
  unfold CL at hb
  rw[List.filterMap_cons,hf]at hb
  exact hb
theorem Inv.Em (I:Inv X pins σ H s):∀b∈CL X.stack,H b=none:=λb hb=>by
 rcases mem_cons.mp (I.zT b hb)with e|hb
 ·rw[e];exact I.free
 ·obtain⟨_,o,ho,_⟩:=I.ok.ud.mem hb
  exact I.base.free b o ho (I.ok.P9 b hb) λz=>I.ok.CT b z hb
theorem Inv.step {g':Array GenState}{t':Nat}{d':Drawn}{ch:List Addr}(I:Inv X pins σ H s)
  (hch:∀b∈ch,(b∈X.ex\/X.s₀.heap.objs.size<=b)/\b≠X.env.locals/\(∀x c,X.env.cells.lookup x=some c->c≠b)/\∀p∈X.pn++pins,p.1≠b)
  (keep:∀b o,b≠X.env.locals->b∉X.fs->b∉ch->s.heap.get? b=some o->H b=none->h'.get? b=some o)
  (slot:∀b o,b≠X.env.locals->b∈X.fs->b∉ch->s.heap.get? b=some o->H b=none->∃sl,h'.get? b=some {o with slots:=sl})(free:∀b o,b∉ch->s.heap.get? b=some o->H b=none->H' b=none)
  (there:∀b o,b∉ch->s.heap.get? b=some o->∃o',h'.get? b=some o')
  (tups:∀b xs,H b=some (.tup xs)->H' b=some (.tup xs))(zR:∀b o u,H b=some (.yx o u)->H' b=some (.yx o u))(Ba:∀b ps,H b=some (.R4 ps)->∃more,H' b=some (.R4 (ps++more)))
  (ns:∀m,s.heap.Ns X.env.locals m->h'.Ns X.env.locals m)(hok:qR X.prog X.w H' h')(hg:AllBare g'):
  Inv X pins σ H' {s with heap:=h',gens:=g',drawn:=d',toks:=t'}:=by
 have neL:∀b o,X.s₀.heap.get? b=some o->b≠X.env.locals:=λb o e=>ne_of_lt (lt_of_lt_of_le (Heap.lt_size e) I.ok.above)
 have YE:∀b o,X.s₀.heap.get? b=some o->b∉X.ex->b∉ch:=λb o e hx hb=>by
  rcases(hch b hb).1 with z|z
  ·exact hx z
  ·exact absurd (lt_of_lt_of_le (Heap.lt_size e) z) (Nat.lt_irrefl _)
 have cellK:∀x c,X.env.cells.lookup x=some c->∀v,s.heap.IsCell c v->h'.IsCell c v:=λx c e v ⟨o,ho,hd⟩=>by
  have VY:c∉ch:=λz=>(hch c z).2.2.1 x c e rfl
  by_cases hc:c∈X.fs
  ·obtain⟨sl,q⟩:=slot c o (I.R7 x c e) hc VY ho (I.qZ x c e)
   exact⟨_,q,hd⟩
  ·exact⟨o,keep c o (I.R7 x c e) hc VY ho (I.qZ x c e),hd⟩
 refine⟨I.ok,I.os,hg,⟨λb o e n hb hx=>?_,λb o e n hb hx=>?_,λb o e n hx=>?_,λb o e hx=>?_,λb xs e=>tups b xs (I.base.tups b xs e),λb o xs e=>zR b o xs (I.base.zR b o xs e),λb ps e=>?_⟩,?_,λx c e=>?_,?_,λx c e=>?_,λp hp=>?_,hok,I.len⟩
 ·exact keep b o (neL b o e) hb (YE b o e hx) (I.base.keep b o e n hb hx) (I.base.free b o e n hx)
 ·obtain⟨sl,e1⟩:=I.base.slot b o e n hb hx
  obtain⟨sl',e2⟩:=slot b _ (neL b o e) hb (YE b o e hx) e1 (I.base.free b o e n hx)
  exact⟨sl',e2⟩
 ·obtain⟨o',e1⟩:=I.base.there b o e hx
  exact free b o' (YE b o e hx) e1 (I.base.free b o e n hx)
 ·obtain⟨o',e1⟩:=I.base.there b o e hx
  exact there b o' (YE b o e hx) e1
 ·obtain⟨m1,e1⟩:=I.base.Ba b ps e
  obtain⟨m2,e2⟩:=Ba b _ e1
  exact⟨m1++m2,by rw[e2,Array.append_assoc]⟩
 ·obtain⟨m,hn,hl⟩:=I.loc
  refine⟨m,ns m hn,λi x v e1 e2 e3=>?_⟩
  obtain⟨u,r,l⟩:=hl i x v e1 e2 e3
  refine⟨u,r,?_⟩
  rcases l with l|⟨k,c,e,z⟩
  ·exact .inl l
  ·exact .inr ⟨k,c,e,cellK x c e _ z⟩
 ·obtain⟨v,z⟩:=I.cell x c e
  exact⟨v,cellK x c e v z⟩
 ·obtain⟨m,⟨o,_,_,ho,_⟩,_⟩:=I.loc
  exact free _ o (λz=>(hch _ z).2.1 rfl) ho I.free
 ·obtain⟨v,o,ho,hd⟩:=I.cell x c e
  exact free c o (λz=>(hch c z).2.2.1 x c e rfl) ho (I.qZ x c e)
 ·obtain⟨e,n,ne,nf,d⟩:=I.pin p hp
  have VY:p.1∉ch:=λz=>(hch p.1 z).2.2.2 p hp rfl
  exact⟨keep p.1 p.2 ne nf VY e n,free p.1 p.2 VY e n,ne,nf,d⟩
theorem Inv.un {t':Nat}(I:Inv X pins σ H s)(u:Un X.fs [] H H' s.heap h')(hok:qR X.prog X.w H' h'):Inv X pins σ H' {s with heap:=h',toks:=t'}:=by
 obtain⟨m,⟨o,es,ep,ho,r⟩,_⟩:=id I.loc
 obtain⟨sl,hL⟩:=u.any ho I.free (by simp)
 exact I.step (g':=s.gens) (d':=s.drawn) (ch:=[]) (λ_ z=>nomatch z) (λb o _ hb _ e n=>u.keep b o e n hb (by simp)) (λb o _ hb _ e n=>u.slot b o e n hb (by simp)) (λb o _ e n=>u.free b o e n (by simp)) (λb o _ e=>u.there b o e (by simp)) u.tups u.zR u.Ba (λm' hm=>by
  obtain⟨o',Zu,R9,R8,r'⟩:=hm
  rw[ho]at R8;cases R8
  exact⟨_,Zu,R9,hL,r'⟩) hok I.bare
theorem Inv.call {g':Array GenState}{t':Nat}{d':Drawn}{ch:List Addr}(I:Inv X pins σ H s)(u:Un (CL X.stack) ch H H' s.heap h')(hok:qR X.prog X.w H' h')(hg:AllBare g')
  (hch:∀b∈ch,(b∈X.ex\/X.s₀.heap.objs.size<=b)/\b≠X.env.locals/\(∀x c,X.env.cells.lookup x=some c->c≠b)/\∀p∈X.pn++pins,p.1≠b):
  Inv X pins σ H' {s with heap:=h',gens:=g',drawn:=d',toks:=t'}:=by
 obtain⟨m,⟨o,es,ep,ho,r⟩,_⟩:=id I.loc
 obtain⟨sl,hL⟩:=u.any ho I.free λz=>(hch _ z).2.1 rfl
 exact I.step (ch:=ch) hch (λb o hL hb hc e n=>u.keep b o e n (λz=>(mem_cons.mp (I.zT b z)).elim hL hb) hc) (λb o _ _ hc e n=>u.any e n hc) (λb o hc e n=>u.free b o e n hc) (λb o hc e=>u.there b o e hc) u.tups u.zR u.Ba (λm' hm=>by
  obtain⟨o',Zu,R9,R8,r'⟩:=hm
  rw[ho]at R8;cases R8
  exact⟨_,Zu,R9,hL,r'⟩) hok hg
theorem Inv.turned {t':Nat}{it:Addr}(I:Inv X pins σ H s)(k:∀b o,b≠it->s.heap.get? b=some o->h'.get? b=some o)(hn:H it=none)(hL:it≠X.env.locals)
  (h1:it∈X.ex\/X.s₀.heap.objs.size<=it)(h2:∀x c,X.env.cells.lookup x=some c->c≠it)(h3:∀p∈X.pn++pins,p.1≠it):Inv X pins σ H {s with heap:=h',toks:=t'}:=by
 have nit:∀b u,H b=some u->b≠it:=λb u e z=>by rw[z,hn]at e;cases e
 refine I.step (g':=s.gens) (d':=s.drawn) (ch:=[it]) (λb hb=>?_) (λb o _ _ hc e _=>k b o (λz=>hc (by simp[z])) e) (λb o _ _ hc e _=>⟨o.slots,k b o (λz=>hc (by simp[z])) e⟩) (λ_ _ _ _ n=>n)
  (λb o hc e=>⟨o,k b o (λz=>hc (by simp[z])) e⟩) (λ_ _ e=>e) (λ_ _ _ e=>e) (λb ps e=>⟨#[],by rw[e];simp⟩) (λm hm=>?_) (λb u e=>?_) I.bare
 ·have e:b=it:=by simpa using hb
  subst e
  exact⟨h1,hL,h2,h3⟩
 ·obtain⟨o,es,ep,ho,r⟩:=hm
  exact⟨o,es,ep,k _ o (Ne.symm hL) ho,r⟩
 ·refine(I.hok b u e).CS (λc v hc q=>k c v ?_ q) (λ_ q=>q) λ_ _ q=>q
  rcases hc with z|z
  ·rw[z];exact nit b u e
  ·exact nit c _ z
theorem Inv.tok (I:Inv X pins σ H s)(t:Nat):Inv X pins σ H {s with toks:=t}:=I.un (h':=s.heap) (t':=t) Un.refl I.hok
theorem Inv.kept {t':Nat}(I:Inv X pins σ H s)(k:∀b u,s.heap.get? b=some u->h'.get? b=some u):Inv X pins σ H {s with heap:=h',toks:=t'}:=I.un (Un.kept k) (I.hok.kept k)
theorem Inv.laid {a:Addr}{o:HO}{t':Nat}(I:Inv X pins σ H s)(k:∀b u,s.heap.get? b=some u->h'.get? b=some u)(hp:s.heap.objs.size<=a)(new:dF X.prog X.w (upd H a o) h' a o):
  Inv X pins σ (upd H a o) {s with heap:=h',toks:=t'}:=I.un (Un.laid k hp (I.hok.fresh hp)) (I.hok.laid k hp new)
theorem Inv.write {x e:Addr}{o:HO}{t':Nat}(I:Inv X pins σ H s)(mu:VS (H x))(he:e=x\/H e=some (.own x))(k:∀b u,b≠e->s.heap.get? b=some u->h'.get? b=some u)(Vq:∃u,h'.get? e=some u)
  (new:dF X.prog X.w (upd H x o) h' x o):Inv X pins σ (upd H x o) {s with heap:=h',toks:=t'}:=I.un (Un.write mu he k Vq) (I.hok.write mu he k Vq new)
theorem Inv.En {Qa:List (Addr×Obj)}(I:Inv X pins σ H s)(h:∀p∈Qa,s.heap.get? p.1=some p.2/\H p.1=none/\p.1≠X.env.locals/\p.1∉X.fs/\∀v,p.2.data≠.cell v):Inv X Qa σ H s:=
 ⟨I.ok,I.os,I.bare,I.base,I.loc,I.cell,I.free,I.qZ,λp hp=>(mem_append.mp hp).elim (λz=>I.pin p (mem_append_left _ z)) (h p),I.hok,I.len⟩
theorem Bb{N:List Str}(hN:N.Nodup){i j:Nat}{x:Str}(a:N[i]?=some x)(b:N[j]?=some x):i=j:=by
 obtain⟨h1,e1⟩:=List.getElem?_eq_some_iff.mp a
 obtain⟨h2,e2⟩:=List.getElem?_eq_some_iff.mp b
 exact(List.getElem_inj hN).mp (e1.trans e2.symm)
theorem GD{M:Model}{A:Around}{E:Value->Shared->Prop}{i:Nat}{x:Str}{v:V}{u:Value}{Q:Unit->Shared->Prop}(I:Inv X pins σ H s)(hN:X.N.Nodup)(hi:X.N[i]?=some x)(hx:Loc X.env.scope x)(r:RelV v u)
  (h:∀s',Inv X pins (σ.set i (some v)) H s'->(∃a,Heap.SameBut a s.heap s'.heap/\(a=X.env.locals\/X.env.cells.lookup x=some a))->Q () s')(hf:X.fn x=true\/X.env.scope.names.lookup x=some .local:=by first|exact .inl rfl|exact .inr rfl|assumption):wpAny M A (storeName X.env x u) Q E s:=by
 obtain⟨m,hn,hl⟩:=id I.loc
 have hcls:(X.env.scope.kind==.class||(X.env.scope.kind==.module&&X.env.locals !=X.env.globals))=false:=by rw[I.ok.kind];rfl
 have hiσ:i<σ.length:=by rw[I.len];exact(List.getElem?_eq_some_iff.mp hi).1
 have R7:=I.R7
 have tracked:∀{a:Addr}{h':Heap},(∃o,s.heap.get? a=some o/\H a=none)->Heap.SameBut a s.heap h'->qR X.prog X.w H h':=λ{a h'} ha hs b ob e=>by
  obtain⟨_,_,hfree⟩:=ha
  refine(I.hok b ob e).CS (λc w' hc q=>(hs.2 c ?_).trans q) (λ_ q=>q) λ_ _ q=>q
  rintro rfl
  rcases hc with rfl|hc
  ·rw[hfree]at e;cases e
  ·rw[hfree]at hc;cases hc
 rcases hx with hk|hk
 ·refine wpAny_storeName_local hk hn (λh' YF hs=>?_) hcls
  obtain⟨oL,_,_,hoL,_⟩:=id hn
  refine h _ ⟨I.ok,I.os,I.bare,⟨λb o e n hb hx=>?_,λb o e n hb hx=>?_,I.base.free,λb o e hx=>?_,I.base.tups,I.base.zR,I.base.Ba⟩,⟨_,YF,λj y v' e1 e2 e3=>?_⟩,λy c e=>?_,I.free,I.qZ,λp hp=>?_,tracked ⟨oL,hoL,I.free⟩ hs,by simpa using I.len⟩ ⟨_,hs,.inl rfl⟩
  ·exact(hs.2 b (ne_of_lt (lt_of_lt_of_le (Heap.lt_size e) I.ok.above))).trans (I.base.keep b o e n hb hx)
  ·obtain⟨sl,e1⟩:=I.base.slot b o e n hb hx
   exact⟨sl,(hs.2 b (ne_of_lt (lt_of_lt_of_le (Heap.lt_size e) I.ok.above))).trans e1⟩
  ·obtain⟨o',e1⟩:=I.base.there b o e hx
   exact⟨o',(hs.2 b (ne_of_lt (lt_of_lt_of_le (Heap.lt_size e) I.ok.above))).trans e1⟩
  ·by_cases hj:j=i
   ·subst hj
    rw[hi]at e1;cases e1
    rw[getElem?_set_self hiσ]at e2
    cases e2
    exact⟨u,r,.inl ⟨hk,by simp⟩⟩
   ·rw[getElem?_set_ne (Ne.symm hj)]at e2
    obtain⟨u',r',q⟩:=hl j y v' e1 e2 e3
    refine⟨u',r',?_⟩
    rcases q with⟨k,e⟩|⟨k,c,e,z⟩
    ·refine .inl ⟨k,?_⟩
     have:y≠x:=λe=>hj (Bb hN e1 (e▸hi))
     simp[this,e]
    ·exact .inr ⟨k,c,e,z.sameBut hs (R7 y c e)⟩
  ·obtain⟨w',z⟩:=I.cell y c e
   exact⟨w',z.sameBut hs (R7 y c e)⟩
  ·obtain⟨e,n,ne,nf,d⟩:=I.pin p hp
   exact⟨(hs.2 p.1 ne).trans e,n,ne,nf,d⟩
 ·have hfn:X.fn x=true:=by
   rcases hf with z|z
   ·exact z
   ·rw[z]at hk;cases hk
  obtain⟨c,hc⟩:=I.ok.has x (.inl hk)
  obtain⟨w',z⟩:=I.cell x c hc
  refine wpAny_storeName_cell I.ok.kind hk hc z (λh' Ir hs=>?_)
  obtain⟨oc,hoc,Zv⟩:=id z
  refine h {s with heap:=h'} ⟨I.ok,I.os,I.bare,⟨λb o e n hb hx=>?_,λb o e n hb hx=>?_,I.base.free,λb o e hx=>?_,I.base.tups,I.base.zR,I.base.Ba⟩,⟨m,hn.sameBut hs (Ne.symm (R7 x c hc)),λj y v' e1 e2 e3=>?_⟩,λy c' e=>?_,I.free,I.qZ,λp hp=>?_,tracked ⟨oc,hoc,I.qZ x c hc⟩ hs,by simpa using I.len⟩ ⟨c,hs,.inr hc⟩
  ·exact(hs.2 b (ne_of_lt (lt_of_lt_of_le (Heap.lt_size e) (I.ok.P8 x c hfn hc)))).trans (I.base.keep b o e n hb hx)
  ·obtain⟨sl,e1⟩:=I.base.slot b o e n hb hx
   exact⟨sl,(hs.2 b (ne_of_lt (lt_of_lt_of_le (Heap.lt_size e) (I.ok.P8 x c hfn hc)))).trans e1⟩
  ·obtain⟨o',e1⟩:=I.base.there b o e hx
   exact⟨o',(hs.2 b (ne_of_lt (lt_of_lt_of_le (Heap.lt_size e) (I.ok.P8 x c hfn hc)))).trans e1⟩
  ·by_cases hj:j=i
   ·subst hj
    rw[hi]at e1;cases e1
    rw[getElem?_set_self hiσ]at e2
    cases e2
    exact⟨u,r,.inr ⟨.inl hk,c,hc,Ir⟩⟩
   ·rw[getElem?_set_ne (Ne.symm hj)]at e2
    obtain⟨u',r',q⟩:=hl j y v' e1 e2 e3
    refine⟨u',r',?_⟩
    rcases q with q|⟨k,c',e,z'⟩
    ·exact .inl q
    ·refine .inr ⟨k,c',e,z'.sameBut hs ?_⟩
     rintro rfl
     exact hj (Bb hN e1 (I.ok.inj _ _ _ e hc▸hi))
  ·by_cases hcc:c'=c
   ·subst hcc;exact⟨_,Ir⟩
   ·obtain⟨w2,z2⟩:=I.cell y c' e
    exact⟨w2,z2.sameBut hs hcc⟩
  ·obtain⟨e,n,ne,nf,d⟩:=I.pin p hp
   refine⟨(hs.2 p.1 ?_).trans e,n,ne,nf,d⟩
   intro q
   rw[q,hoc]at e
   have q':oc=p.2:=Option.some.inj e
   exact d w' (by rw[<-q'];exact Zv)
theorem pH{M:Model}{A:Around}{E:Value->Shared->Prop}{i:Nat}{x:Str}{v:V}{u:Value}{Q:Unit->Shared->Prop}(I:Inv X pins σ H s)(hN:X.N.Nodup)(hi:X.N[i]?=some x)(hx:Loc X.env.scope x)(r:RelV v u)
  (h:∀s',Inv X pins (σ.set i (some v)) H s'->Q () s')(hf:X.fn x=true\/X.env.scope.names.lookup x=some .local:=by first|exact .inl rfl|exact .inr rfl|assumption):wpAny M A (storeName X.env x u) Q E s:=
 GD I hN hi hx r (λs' I' _=>h s' I') hf
theorem Inv.Qc {s':Shared}{ch:List Addr}(I:Inv X pins σ H s)(ho:s'.os=s.os)(u:Un (CL X.stack) ch H H' s.heap s'.heap)(hok:qR X.prog X.w H' s'.heap)(hg:AllBare s'.gens)
  (hch:∀b∈ch,(b∈X.ex\/X.s₀.heap.objs.size<=b)/\b≠X.env.locals/\(∀x c,X.env.cells.lookup x=some c->c≠b)/\∀p∈X.pn++pins,p.1≠b):Inv X pins σ H' s':=by
 obtain⟨h',g',d',t',o'⟩:=s'
 have e:o'=s.os:=ho
 subst e
 exact I.call (g':=g') (t':=t') (d':=d') u hok hg hch
end
abbrev XK:=Value->Option Addr->Hp->Prop
abbrev St:=List (Option V)
abbrev VK:=V->Hp->Prop
abbrev TE:=St->Hp->VK->Prop
abbrev TT:=St->Hp->(Bool->Hp->Prop)->Prop
abbrev TA:=St->Hp->(List V->Hp->Prop)->Prop
structure Ends where
 nx:St->Hp->Prop
 rt:VK
 bk:St->Hp->Prop:=λ_ _=>False
 ct:St->Hp->Prop:=λ_ _=>False
abbrev TS:=Ends->St->Hp->Prop
def EP(X:Cx)(pins:List (Addr×Obj))(σ:St)(Q:VK)(u:Value)(s':Shared):Prop:=∃v H',Inv X pins σ H' s'/\RelV v u/\Q v H'
def TP(X:Cx)(pins:List (Addr×Obj))(σ:St)(Q:Bool->Hp->Prop)(b:Bool)(s':Shared):Prop:=∃H',Inv X pins σ H' s'/\Q b H'
def AP(X:Cx)(pins:List (Addr×Obj))(σ:St)(Q:List V->Hp->Prop)(us:List Value)(s':Shared):Prop:=∃vs H',Inv X pins σ H' s'/\Vals vs us/\Q vs H'
noncomputable def SP(X:Cx)(pins:List (Addr×Obj))(D:Ends)(f:Flow)(s':Shared):Prop:=
 match f with
 |.next=>∃σ' H',Inv X pins σ' H' s'/\D.nx σ' H'
 |.brk=>∃σ' H',Inv X pins σ' H' s'/\D.bk σ' H'
 |.cont=>∃σ' H',Inv X pins σ' H' s'/\D.ct σ' H'
 |.ret u=>∃v σ' H',Inv X pins σ' H' s'/\RelV v u/\D.rt v H'
def PE(X:Cx)(e:Expr)(t:TE):Prop:=
 ∀(pins:List (Addr×Obj))(s:Shared)(σ:St)(H:Hp)(Q:VK),Inv X pins σ H s->t σ H Q->wpAny (model X.prog X.w) X.A (eval e X.env) (EP X pins σ Q) X.xe s
def PT(X:Cx)(e:Expr)(t:TT):Prop:=
 ∀(pins:List (Addr×Obj))(s:Shared)(σ:St)(H:Hp)(Q:Bool->Hp->Prop),Inv X pins σ H s->t σ H Q->wpAny (model X.prog X.w) X.A (isTrue e X.env (eval e X.env)) (TP X pins σ Q) X.xe s
def PW(X:Cx)(e:Expr)(t:TT):Prop:=
 ∀(whole:Sem Value)(pins:List (Addr×Obj))(s:Shared)(σ:St)(H:Hp)(Q:Bool->Hp->Prop),Inv X pins σ H s->t σ H Q->wpAny (model X.prog X.w) X.A (isTrue e X.env whole) (TP X pins σ Q) X.xe s
theorem PW.pt {X:Cx}{e:Expr}{t:TT}(h:PW X e t):PT X e t:=h _
def PA(X:Cx)(es:List Expr)(t:TA):Prop:=
 ∀(pos:Pos)(pins:List (Addr×Obj))(s:Shared)(σ:St)(H:Hp)(Q:List V->Hp->Prop),Inv X pins σ H s->t σ H Q->wpAny (model X.prog X.w) X.A (spliced (backTo pos (starEach es X.env))) (AP X pins σ Q) X.xe s
def PS(X:Cx)(st:Stmt)(t:TS):Prop:=
 ∀(pins:List (Addr×Obj))(s:Shared)(σ:St)(H:Hp)(D:Ends),Inv X pins σ H s->t D σ H->wpAny (model X.prog X.w) X.A (exec st X.env) (SP X pins D) X.xe s
def q8(X:Cx)(st:List Stmt)(t:TS):Prop:=
 ∀(pins:List (Addr×Obj))(s:Shared)(σ:St)(H:Hp)(D:Ends),Inv X pins σ H s->t D σ H->wpAny (model X.prog X.w) X.A (execs st X.env) (SP X pins D) X.xe s
theorem cM{α:Type}{t:Sem α}{Q Q':α->Shared->Prop}{M:Model}{A:Around}{E:Value->Shared->Prop}{s:Shared}(h:wpAny M A t Q E s)(hQ:∀a s,Q a s->Q' a s):wpAny M A t Q' E s:=wpAny_mono h hQ λ_ _ x=>x
end L2
namespace L2
open PySem PySem.Spec PyProof.Rows
section
variable{X:Cx}
def Na(i:Nat):TE:=λσ H Q=>∃v,σ[i]?=some (some v)/\Q v H
def tC(v:V):TE:=λ_ H Q=>Q v H
theorem jP{i:Nat}{x:Str}{pos:Pos}(hN:X.N[i]?=some x)(hv:yZ X.env.scope x)(hd:(x==("__debug__":Str))=false:=by decide)(hcd:(x==("__classdict__":Str))=false:=by decide):PE X (.Name x pos) (Na i):=by
 intro pins s σ H Q I h
 obtain⟨v,e,h⟩:=h
 obtain⟨m,hn,hl⟩:=I.loc
 obtain⟨u,r,l⟩:=hl i x v hN e hv
 have fin:EP X pins σ Q u s:=⟨v,H,I,r,h⟩
 rcases l with⟨hk,hm⟩|⟨hk,c,hc,hcell⟩
 ·exact wpAny_Name (wpAny_loadName_local I.ok.kind hk hn hm fin) hd
 ·rcases hk with hk|hk
  ·exact wpAny_Name (wpAny_loadName_cell I.ok.kind hk hc hcell fin) hd
  ·exact wpAny_Name (wpAny_loadName_free I.ok.kind hk hc hcell fin hcd) hd
theorem ig{i j pos}:PE X (.Constant (.int i) j pos) (tC (.int i)):=λ_ _ _ H _ I h=>wpAny_Constant_int ⟨.int i,H,I.tok _,⟨_,rfl⟩,h⟩
theorem VZ{b j pos}:PE X (.Constant (.bool b) j pos) (tC (.bl b)):=λ_ _ _ H _ I h=>Constant_bool ⟨.bl b,H,I,rfl,h⟩
theorem Iu{j pos}:PE X (.Constant .none j pos) (tC .non):=λ_ _ _ H _ I h=>Constant_none ⟨.non,H,I,rfl,h⟩
theorem Sd{x j pos}:PE X (.Constant (.str x) j pos) (tC (.str x)):=λ_ _ _ H _ I h=>Calls.Constant_str ⟨.str x,H,I.tok _,⟨_,rfl⟩,h⟩
def Gl(X:Cx)(x:Str):Prop:=X.env.kindOf x=some .globalImplicit
theorem zU{E:Value->Shared->Prop}{pins:List (Addr×Obj)}{s:Shared}{σ:St}{H:Hp}{x:Str}{u:Value}{pos:Pos}{Q:Value->Shared->Prop}(I:Inv X pins σ H s)(hg:Gl X x)(hm:X.mg x=some u)(h:Q u s)
  (hd:(x==("__debug__":Str))=false:=by decide):wpAny (model X.prog X.w) X.A (eval (.Name x pos) X.env) Q E s:=
 Calls.Name_function_global I.ok.kind hg (Calls.loadGlobal_global (by rw[I.ok.glob];exact I.mod.glob.keeps I.bk) hm h) hd
theorem kJ{E:Value->Shared->Prop}{pins:List (Addr×Obj)}{s:Shared}{σ:St}{H:Hp}{x:Str}{u:Value}{pos:Pos}{Q:Value->Shared->Prop}(I:Inv X pins σ H s)(hg:Gl X x)(hm:X.mg x=none)(hv:bootBuiltins x=some u)(h:Q u s)
  (hn:x≠"__name__":=by decide)(hd:(x==("__debug__":Str))=false:=by decide):wpAny (model X.prog X.w) X.A (eval (.Name x pos) X.env) Q E s:=by
 obtain⟨mb,h1,h2⟩:=I.mod.blt
 exact Calls.Name_function_global I.ok.kind hg (Calls.loadGlobal_builtin (by rw[I.ok.glob];exact I.mod.glob.keeps I.bk) hm (by rw[I.ok.blt];exact h1.keeps I.bk) ((h2 x hn).trans hv) h) hd
theorem Nb{x:Str}{v:V}{u:Value}{pos:Pos}(hg:Gl X x)(hm:X.mg x=some u)(r:RelV v u)(hd:(x==("__debug__":Str))=false:=by decide):PE X (.Name x pos) (tC v):=
 λ_ _ _ H _ I h=>zU I hg hm ⟨v,H,I,r,h⟩ hd
theorem Nc{x:Str}{v:V}{u:Value}{pos:Pos}(hg:Gl X x)(hm:X.mg x=none)(hv:bootBuiltins x=some u)(r:RelV v u)(hn:x≠"__name__":=by decide)(hd:(x==("__debug__":Str))=false:=by decide):PE X (.Name x pos) (tC v):=
 λ_ _ _ H _ I h=>kJ I hg hm hv ⟨v,H,I,r,h⟩ hn hd
variable{a b:Expr}{ta tb:TE}{pos:Pos}
noncomputable def PC(X:Cx)(op:CmpOp)(a b:Expr)(t:TE):Prop:=
 ∀(pins:List (Addr×Obj))(s:Shared)(σ:St)(H:Hp)(Q:VK),Inv X pins σ H s->t σ H Q->
  wpAny (model X.prog X.w) X.A (eval a X.env) (λv s₁=>wpAny (model X.prog X.w) X.A (eval b X.env) (λu s₂=>wpAny (model X.prog X.w) X.A (compareOp op v u) (EP X pins σ Q) X.xe s₂) X.xe s₁) X.xe s
theorem Iw(b:Expr){op:CmpOp}(h:op≠.In)(h2:op≠.NotIn):behindInMarks op b=false:=by
 have e1:(op==CmpOp.In)=false:=by cases op<;>first|rfl|exact absurd rfl h
 have e2:(op==CmpOp.NotIn)=false:=by cases op<;>first|rfl|exact absurd rfl h2
 cases b<;>simp[behindInMarks,e1,e2]
def tB(t:TE):TT:=λσ H Q=>t σ H λx H1=>∃c,x=.bl c/\Q c H1
theorem CU{op:CmpOp}{t:TE}(h:PC X op a b t)(h1:behindInMarks op b=false:=by first|exact Iw _ (by decide) (by decide)|rfl):PT X (.Compare a [op] [b] pos) (tB t):=by
 intro pins s σ H Q I hw
 refine wpAny_isTrue_Compare1 (cM (h pins s σ H _ I hw) λv s1 h1=>cM h1 λu s2 h2=>cM h2 λc s3 ⟨x,H1,I1,r1,q1⟩=>?_) h1
 obtain⟨d,rfl,q⟩:=q1
 cases r1
 exact wpAny_truthy_bool ⟨H1,I1,q⟩
theorem Se{e:Expr}{t:TE}(h:PE X e t)(he:∀whole,isTrue e X.env whole=(do let v<-whole;standAt e.pos;holding [v] (truthy v)):=by intro _;rfl):PT X e (tB t):=by
 intro pins s σ H Q I hw
 refine isTrue_plain (cM (h pins s σ H _ I hw) λv s1 ⟨x,H1,I1,r1,q1⟩=>?_) (he _)
 obtain⟨d,rfl,q⟩:=q1
 cases r1
 exact wpAny_truthy_bool ⟨H1,I1,q⟩
variable{tA YG:TT}{rest:List Expr}
def Zw(t u:TT):TT:=λσ H Q=>t σ H λc H1=>if c=true then u σ H1 Q else Q false H1
def tOr(t u:TT):TT:=λσ H Q=>t σ H λc H1=>if c=true then Q true H1 else u σ H1 Q
def Zx(t:TT):TT:=λσ H Q=>t σ H λc H1=>Q (!c) H1
theorem pw_and1(ha:PT X a tA):PW X (.BoolOp .And [a] pos) tA:=by
 intro wh pins s σ H Q I h
 refine isTrue_and (cM (ha pins s σ H Q I h) λc s1 e=>?_)
 cases c with
 |true=>exact isTrue_and_nil e
 |false=>exact e
theorem pw_or1(ha:PT X a tA):PW X (.BoolOp .Or [a] pos) tA:=by
 intro wh pins s σ H Q I h
 refine isTrue_or (cM (ha pins s σ H Q I h) λc s1 e=>?_)
 cases c with
 |false=>exact isTrue_or_nil e
 |true=>exact e
theorem pw_and(ha:PT X a tA)(hb:PW X (.BoolOp .And (b::rest) pos) YG):PW X (.BoolOp .And (a::b::rest) pos) (Zw tA YG):=by
 intro wh pins s σ H Q I h
 refine isTrue_and (cM (ha pins s σ H _ I h) λc s1 ⟨H1,I1,q1⟩=>?_)
 cases c with
 |true=>exact hb wh pins s1 σ H1 Q I1 q1
 |false=>exact⟨H1,I1,q1⟩
theorem pw_or(ha:PT X a tA)(hb:PW X (.BoolOp .Or (b::rest) pos) YG):PW X (.BoolOp .Or (a::b::rest) pos) (tOr tA YG):=by
 intro wh pins s σ H Q I h
 refine isTrue_or (cM (ha pins s σ H _ I h) λc s1 ⟨H1,I1,q1⟩=>?_)
 cases c with
 |true=>exact⟨H1,I1,q1⟩
 |false=>exact hb wh pins s1 σ H1 Q I1 q1
theorem Sf(ha:PT X a tA):PT X (.UnaryOp .Not a pos) (Zx tA):=by
 intro pins s σ H Q I h
 exact isTrue_not (ha pins s σ H (λc H1=>Q (!c) H1) I h)
def tIf(t:TT)(ta tb:TE):TE:=λσ H Q=>t σ H λc H1=>if c=true then ta σ H1 Q else tb σ H1 Q
theorem Iz{c:Expr}(hc:PT X c tA)(ha:PE X a ta)(hb:PE X b tb):PE X (.IfExp c a b pos) (tIf tA ta tb):=by
 intro pins s σ H Q I h
 refine wpAny_IfExp (cM (hc pins s σ H _ I h) λd s1 ⟨H1,I1,q1⟩=>?_)
 cases d with
 |true=>exact ha pins s1 σ H1 Q I1 q1
 |false=>exact hb pins s1 σ H1 Q I1 q1
end
end L2
namespace L2
open PySem PySem.Spec PyProof.Rows
def dG(K:PySem.W.Frag)(H:Hp)(a:Addr)(xs:List V):Prop:=
 Rd H a (.lst xs)\/
  ∃(o:Obj)(its:Array Value)(n:Nat),K.lookup a=some o/\o.cls=.type "list"/\o.dict=none/\o.data=.seq its n/\its.size<=sizeLine/\Vals xs its.toList
def Bc(K:PySem.W.Frag)(H:Hp)(a:Addr)(xs:List V):Prop:=
 Rd H a (.tup xs)\/
  ∃(o:Obj)(its:Array Value)(n:Nat),K.lookup a=some o/\o.cls=.type "tuple"/\o.data=.seq its n/\its.size<=sizeLine/\Vals xs its.toList
def Zy:Value->Option V
 |.none=>some .non
 |.bool b=>some (.bl b)
 |.int i _=>some (.int i)
 |.str x _=>some (.str x)
 |.bytes b _=>some (.Ic b)
 |.float b _=>some (.R3 b)
 |.ref a=>some (.ref a)
 |.type n=>some (.ty n)
 |_=>none
theorem RelV.abs {x:V}{u:Value}(r:RelV x u):Zy u=some x:=by
 cases x with
 |non=>cases r;rfl
 |bl _=>cases r;rfl
 |int _=>obtain⟨t,rfl⟩:=r;rfl
 |str _=>obtain⟨t,rfl⟩:=r;rfl
 |Ic _=>obtain⟨t,rfl⟩:=r;rfl
 |R3 _=>obtain⟨t,rfl⟩:=r;rfl
 |ref _=>cases r;rfl
 |ty _=>cases r;rfl
theorem RelV.inj {x y:V}{u:Value}(r:RelV x u)(q:RelV y u):x=y:=Option.some.inj (r.abs.symm.trans q.abs)
theorem Vals.inj:∀{xs ys:List V}{us:List Value},Vals xs us->Vals ys us->xs=ys
 |_,_,_,.nil,.nil=>rfl
 |_,_,_,.cons r t,.cons r' t'=>by rw[r.inj r',Vals.inj t t']
section
variable{X:Cx}{pins:List (Addr×Obj)}{σ:St}{H:Hp}{s:Shared}{a:Addr}{xs ys:List V}
theorem dG.of {K:PySem.W.Frag}(h:H a=some (.lst xs)):dG K H a xs:=.inl (.inl h)
theorem Bc.of {K:PySem.W.Frag}(h:H a=some (.tup xs)):Bc K H a xs:=.inl (.inl h)
theorem Inv.list (I:Inv X pins σ H s)(h:dG X.K H a xs):∃its:List Value,Vals xs its/\PlainL s.heap a its.toArray/\xs.length<=sizeLine:=by
 rcases h with h|⟨o,its,n,hk,hc,hd,hs,hz,r⟩
 ·obtain⟨z,its,n,r,e⟩:=h.ok I.hok
  exact⟨its,r,⟨_,n,e,rfl,rfl,rfl⟩,z⟩
 ·refine⟨its.toList,r,⟨o,n,I.ue a o hk,hc,hd,by simpa using hs⟩,?_⟩
  have e:=r.length
  simp only [Array.length_toList]at e
  lia
theorem Inv.tuple (I:Inv X pins σ H s)(h:Bc X.K H a xs):∃its:List Value,Vals xs its/\IsTup s.heap a its.toArray/\xs.length<=sizeLine:=by
 rcases h with h|⟨o,its,n,hk,hc,hs,hz,r⟩
 ·obtain⟨z,its,r,p⟩:=h.ok I.hok
  exact⟨its,r,p,z⟩
 ·refine⟨its.toList,r,⟨o,I.ue a o hk,hc,n,by simpa using hs⟩,?_⟩
  have e:=r.length
  simp only [Array.length_toList]at e
  lia
theorem Inv.rS (I:Inv X pins σ H s)(h:dG X.K H a xs)(h':dG X.K H a ys):xs=ys:=by
 obtain⟨its,r,⟨o,n,e,_,_,d⟩,_⟩:=I.list h
 obtain⟨its',r',⟨o',n',e',_,_,d'⟩,_⟩:=I.list h'
 rw[e]at e';cases e'
 rw[d]at d'
 injection d' with d1 _
 have:its=its':=by simpa using congrArg toList d1
 subst this
 exact r.inj r'
theorem Inv.GF (I:Inv X pins σ H s)(h:Bc X.K H a xs)(h':Bc X.K H a ys):xs=ys:=by
 obtain⟨its,r,⟨o,e,_,n,d⟩,_⟩:=I.tuple h
 obtain⟨its',r',⟨o',e',_,n',d'⟩,_⟩:=I.tuple h'
 rw[e]at e';cases e'
 rw[d]at d'
 injection d' with d1 _
 have:its=its':=by simpa using congrArg toList d1
 subst this
 exact r.inj r'
end
abbrev Cx.yy (X:Cx)(E:Value->Shared->Prop):Cx:={X with xe:=E}
abbrev Cx.GG (X:Cx):Cx:=X.yy λ_ _=>False
theorem Cx.Ok.yy {X:Cx}(ok:X.Ok)(E:Value->Shared->Prop):(X.yy E).Ok:=
 ⟨ok.mod,ok.kind,ok.glob,ok.blt,ok.above,ok.inj,ok.has,ok.P8,ok.hd,ok.frames,ok.VW,ok.VX,ok.bs,ok.MF,ok.GC,ok.CT,ok.ud,ok.P9⟩
theorem Cx.Ok.pI {X:Cx}{E:Value->Shared->Prop}(ok:(X.yy E).Ok):X.Ok:=
 ⟨ok.mod,ok.kind,ok.glob,ok.blt,ok.above,ok.inj,ok.has,ok.P8,ok.hd,ok.frames,ok.VW,ok.VX,ok.bs,ok.MF,ok.GC,ok.CT,ok.ud,ok.P9⟩
section
variable{X:Cx}{pins:List (Addr×Obj)}{σ:St}{H:Hp}{s:Shared}{E:Value->Shared->Prop}
theorem Inv.yy (I:Inv X pins σ H s)(E:Value->Shared->Prop):Inv (X.yy E) pins σ H s:=⟨I.ok.yy E,I.os,I.bare,I.base,I.loc,I.cell,I.free,I.qZ,I.pin,I.hok,I.len⟩
theorem Inv.pI (I:Inv (X.yy E) pins σ H s):Inv X pins σ H s:=⟨I.ok.pI,I.os,I.bare,I.base,I.loc,I.cell,I.free,I.qZ,I.pin,I.hok,I.len⟩
theorem SP.pI {D:Ends}{f:Flow}{s':Shared}(h:SP (X.yy E) pins D f s'):SP X pins D f s':=by
 cases f with
 |next=>obtain⟨σ',H',I,q⟩:=h;exact⟨σ',H',I.pI,q⟩
 |brk=>obtain⟨σ',H',I,q⟩:=h;exact⟨σ',H',I.pI,q⟩
 |cont=>obtain⟨σ',H',I,q⟩:=h;exact⟨σ',H',I.pI,q⟩
 |ret u=>obtain⟨v,σ',H',I,r,q⟩:=h;exact⟨v,σ',H',I.pI,r,q⟩
theorem q8.GG {st:List Stmt}{t:TS}(h:q8 X.GG st t):q8 X st t:=λpins s σ H D I hw=>
 wpAny_mono (h pins s σ H D (I.yy _) hw) (λ_ _ q=>q.pI) λ_ _ z=>False.elim z
end
section
variable{X:Cx}{st:Stmt}{rest:List Stmt}{t u:TS}{e:Expr}{te:TE}{pos:Pos}
def V0:TS:=λD σ H=>D.nx σ H
def Zz(t u:TS):TS:=λD σ H=>t {D with nx:=u D} σ H
theorem lN:q8 X [] V0:=λ_ _ σ H _ I h=>wpAny_execs_nil ⟨σ,H,I,h⟩
theorem aK(h1:PS X st t)(h2:q8 X rest u):q8 X (st::rest) (Zz t u):=by
 intro pins s σ H D I h
 refine wpAny_execs_cons (cM (h1 pins s σ H {D with nx:=u D} I h) λf s1 q=>?_)
 cases f with
 |next=>
  obtain⟨σ',H',I',q⟩:=q
  exact h2 pins s1 σ' H' D I' q
 |ret v=>exact q
 |brk=>exact q
 |cont=>exact q
theorem cu(h1:PS X st t):q8 X [st] t:=by
 intro pins s σ H D I h
 refine wpAny_execs_cons (cM (h1 pins s σ H D I h) λf s1 q=>?_)
 cases f with
 |next=>exact wpAny_execs_nil q
 |ret v=>exact q
 |brk=>exact q
 |cont=>exact q
def Sg:TS:=λD σ H=>D.bk σ H
theorem IA:PS X (.Break pos) Sg:=λ_ _ σ H _ I h=>wpAny_Break ⟨σ,H,I,h⟩
theorem Inv.quiet {pins:List (Addr×Obj)}{σ:St}{H:Hp}{s:Shared}(I:Inv X pins σ H s):interactive X.env=false:=by simp[interactive,I.ok.kind]
def V1(te:TE):TS:=λD σ H=>te σ H λ_ H1=>D.nx σ H1
theorem ik(he:PE X e te)(hs:swapsWith e none pos.line X.env=pure false:=by rfl):PS X (.Expr e pos) (V1 te):=by
 intro pins s σ H D I h
 exact wpAny_Expr_any (cM (he pins s σ H _ I h) λv s1 ⟨x,H1,I1,r1,q1⟩=>⟨σ,H1,I1,q1⟩) I.quiet hs
def ZA(te:TE):TS:=λD σ H=>te σ H D.rt
theorem mB(he:PE X e te):PS X (.Return (some e) pos) (ZA te):=by
 intro pins s σ H D I h
 exact wpAny_Return_some (cM (he pins s σ H _ I h) λv s1 ⟨x,H1,I1,r1,q1⟩=>⟨x,σ,H1,I1,r1,q1⟩)
def ZC(c:TT)(t u:TS):TS:=λD σ H=>c σ H λb H1=>if b=true then t D σ H1 else u D σ H1
theorem vc{c:Expr}{a b:List Stmt}{tc:TT}(hc:PT X c tc)(ha:q8 X a t)(hb:q8 X b u):PS X (.If c a b pos) (ZC tc t u):=by
 intro pins s σ H D I h
 refine wpAny_If (cM (hc pins s σ H _ I h) λd s1 ⟨H1,I1,q1⟩=>?_)
 cases d with
 |true=>exact ha pins s1 σ H1 D I1 q1
 |false=>exact hb pins s1 σ H1 D I1 q1
end
abbrev TG:=V->St->Hp->(St->Hp->Prop)->Prop
abbrev Nd:=List V->St->Hp->(St->Hp->Prop)->Prop
noncomputable def PG(X:Cx)(target:Expr)(t:TG):Prop:=
 ∀(pins:List (Addr×Obj))(s:Shared)(σ:St)(H:Hp)(v:V)(u:Value)(Q:St->Hp->Prop),Inv X pins σ H s->RelV v u->t v σ H Q->
  wpAny (model X.prog X.w) X.A (assign target X.env u) (λ_ s'=>∃σ' H',Inv X pins σ' H' s'/\Q σ' H') X.xe s
noncomputable def Eo(X:Cx)(ts:List Expr)(t:Nd):Prop:=
 ∀(pins:List (Addr×Obj))(s:Shared)(σ:St)(H:Hp)(vs:List V)(us:List Value)(Q:St->Hp->Prop),Inv X pins σ H s->Vals vs us->t vs σ H Q->
  wpAny (model X.prog X.w) X.A (assignInOrder ((assignEach ts X.env).map (·.2)) us) (λ_ s'=>∃σ' H',Inv X pins σ' H' s'/\Q σ' H') X.xe s
abbrev Sh:=V->V->V->Hp->(Hp->Prop)->Prop
noncomputable def V2(X:Cx)(t:Sh):Prop:=
 ∀(pins:List (Addr×Obj))(s:Shared)(σ:St)(H:Hp)(o i v:V)(ov iv u:Value)(Q:Hp->Prop),Inv X pins σ H s->RelV o ov->RelV i iv->RelV v u->t o i v H Q->
  wpAny (model X.prog X.w) X.A (setItem ov iv u) (λ_ s'=>∃H',Inv X pins σ H' s'/\Q H') X.xe s
abbrev YH:=V->V->Hp->VK->Prop
def Vr(X:Cx)(op:Operator)(t:YH):Prop:=
 ∀(pins:List (Addr×Obj))(s:Shared)(σ:St)(H:Hp)(x y:V)(v u:Value)(Q:VK),Inv X pins σ H s->RelV x v->RelV y u->t x y H Q->
  wpAny (model X.prog X.w) X.A (inplaceOp op v u) (EP X pins σ Q) X.xe s
section
variable{X:Cx}{pos:Pos}
def IB(i:Nat):TG:=λv σ H Q=>Q (σ.set i (some v)) H
theorem we{i:Nat}{x:Str}(hN:X.N.Nodup)(hi:X.N[i]?=some x)(hx:Loc X.env.scope x)(hf:X.fn x=true\/X.env.scope.names.lookup x=some .local:=by first|exact .inl rfl|exact .inr rfl|assumption):PG X (.Name x pos) (IB i):=by
 intro pins s σ H v u Q I r h
 exact wpAny_assign_Name (pH I hN hi hx r (λs' I'=>⟨_,H,I',h⟩) hf)
def ZD:Nd:=λvs σ H Q=>vs=[]/\Q σ H
def V3(t:TG)(u:Nd):Nd:=λvs σ H Q=>∃v r,vs=v::r/\t v σ H λσ' H'=>u r σ' H' Q
theorem Ng:Eo X [] ZD:=by
 intro pins s σ H vs us Q I r h
 obtain⟨e,h⟩:=h
 subst e
 cases r
 exact assignInOrder_nil ⟨σ,H,I,h⟩
theorem IC{e:Expr}{es:List Expr}{t:TG}{u:Nd}(h1:PG X e t)(h2:Eo X es u)
  (hs:(assignEach (e::es) X.env).map (·.2)=assign e X.env::(assignEach es X.env).map (·.2):=by rfl):Eo X (e::es) (V3 t u):=by
 intro pins s σ H vs us Q I r h
 obtain⟨v,vr,e1,h⟩:=h
 subst e1
 cases r with
 |cons r rr=>
  rw[hs]
  refine assignInOrder_cons (cM (h1 pins s σ H _ _ _ I r h) λ_ s1 ⟨σ1,H1,I1,q1⟩=>?_)
  exact h2 pins s1 σ1 H1 _ _ Q I1 rr q1
def ZE(K:PySem.W.Frag)(n:Nat)(t:Nd):TG:=λv σ H Q=>∃a xs,v=.ref a/\Bc K H a xs/\xs.length=n/\t xs σ H Q
theorem Si{es:List Expr}{k:Nat}{t:Nd}{n:Nat}(hc:X.calm=true)(h:Eo X es t)
  (hn:(assignEach es X.env).length=n:=by rfl)(hst:(assignEach es X.env).findIdx? (·.1)=none:=by rfl):PG X (.Tuple es k pos) (ZE X.K n t):=by
 intro pins s σ H v u Q I r hw
 obtain⟨a,xs,e1,hq,hl,hw⟩:=hw
 subst e1
 cases r
 obtain⟨its,rv,ht,hz⟩:=I.tuple hq
 refine assign_Tuple_tuple (I.ok.hd hc) ht (by simp[hn,<-hl,rv.length]) hst λh' hx=>?_
 have I1:Inv X pins σ H {s with heap:=h'}:=I.kept (t':=s.toks) λb o e=>hx b o (ne_of_lt (Heap.lt_size e)) e
 exact h pins _ σ H xs _ Q I1 (by simpa using rv) hw
def ZF(to ti:TE)(t:Sh):TG:=λv σ H Q=>to σ H λo H1=>ti σ H1 λi H2=>t o i v H2 λH3=>Q σ H3
theorem CV{o i:Expr}{to ti:TE}{t:Sh}(ho:PE X o to)(hi:PE X i ti)(hs:V2 X t)
  (ha:∀v,assign (.Subscript o i pos) X.env v=(do
   let ov<-holding [v] (eval o X.env)
   let iv<-holding [v,ov] (eval i X.env)
   standAt pos
   holding [v,ov,iv] (setItem ov iv v)
   release [v,ov,iv] []):=by intro _;rfl):PG X (.Subscript o i pos) (ZF to ti t):=by
 intro pins s σ H v u Q I r h
 rw[ha]
 refine wpAny_bind (wpAny_holding (cM (ho pins s σ H _ I h) λov s1 ⟨x,H1,I1,r1,q1⟩=>?_))
 refine wpAny_bind (wpAny_holding (cM (hi pins s1 σ H1 _ I1 q1) λiv s2 ⟨y,H2,I2,r2,q2⟩=>?_))
 refine wpAny_bind (wpAny_standAt (wpAny_bind (wpAny_holding (cM (hs pins s2 σ H2 x y v ov iv u _ I2 r1 r2 r q2) λ_ s3 ⟨H3,I3,q3⟩=>?_))))
 exact wpAny_release ⟨σ,H3,I3,q3⟩
def V4(te:TE)(g:TG):TS:=λD σ H=>te σ H λx H1=>g x σ H1 D.nx
theorem CW{tg e:Expr}{te:TE}{g:TG}(he:PE X e te)(hg:PG X tg g)(hs:swapsWithSole [tg] e pos.line X.env=pure false:=by rfl)(hw:swappedStores [tg] e X.env=pure none:=by rfl)
  (h1:(assignEach [tg] X.env).map (·.2)=[assign tg X.env]:=by rfl):PS X (.Assign [tg] e pos) (V4 te g):=by
 intro pins s σ H D I h
 refine wpAny_Assign_stores (cM (he pins s σ H _ I h) λv s1 ⟨x,H1,I1,r1,q1⟩=>?_) hs hw
 rw[h1]
 exact cM (hg pins s1 σ H1 x v _ I1 r1 q1) λ_ s2 q=>q
theorem dO{i:Nat}{x:Str}{e:Expr}{te:TE}{pos':Pos}(hN:X.N.Nodup)(hi:X.N[i]?=some x)(hx:Loc X.env.scope x)(he:PE X e te)(hs:swapsWith e (some (.Name x pos')) pos.line X.env=pure false:=by rfl)(hf:X.fn x=true\/X.env.scope.names.lookup x=some .local:=by first|exact .inl rfl|exact .inr rfl|assumption):
  PS X (.Assign [.Name x pos'] e pos) (V4 te (IB i)):=by
 intro pins s σ H D I h
 refine wpAny_Assign_Name (cM (he pins s σ H _ I h) λv s1 ⟨y,H1,I1,r1,q1⟩=>?_) hs
 exact pH I1 hN hi hx r1 (λs2 I2=>⟨_,H1,I2,q1⟩) hf
def ZG(i j:Nat)(ta:TA):TS:=λD σ H=>ta σ H λvs H1=>∃v w,vs=[v,w]/\D.nx ((σ.set i (some v)).set j (some w)) H1
theorem Sn{i j:Nat}{x y:Str}{a b:Expr}{ta:TA}{px py pt:Pos}{kt k2 So}(hc:X.calm=true)(hN:X.N.Nodup)(hi:X.N[i]?=some x)(hj:X.N[j]?=some y)(hij:i≠j)
  (hx:X.env.scope.names.lookup x=some .local)(hy:X.env.scope.names.lookup y=some .local)(ha:PA X [a,b] ta)
  (hw:swappedStores [.Tuple [.Name x px,.Name y py] kt pt] (.Tuple [a,b] k2 So) X.env=pure (some [x,y]))
  (hs:swapsWithSole [.Tuple [.Name x px,.Name y py] kt pt] (.Tuple [a,b] k2 So) pos.line X.env=pure false:=by rfl):
  PS X (.Assign [.Tuple [.Name x px,.Name y py] kt pt] (.Tuple [a,b] k2 So) pos) (ZG i j ta):=by
 intro pins s σ H D I h
 rw[exec_Assign_arm]
 refine wpAny_bind (wpAny_standAt ?_)
 rw[hs]
 refine wpAny_bind (wpAny_pure ?_)
 rw[if_neg (by decide)]
 refine wpAny_bind (Tuple_ (cM (ha _ pins s σ H _ I h) λus s1 ⟨vs,H1,I1,r1,q1⟩=>?_))
 obtain⟨v,w,e1,q1⟩:=q1
 subst e1
 obtain⟨u1,u2,rfl,rv,oU⟩:∃u1 u2,us=[u1,u2]/\RelV v u1/\RelV w u2:=by
  cases r1 with
  |cons p q=>
   cases q with
   |cons p' q'=>
    cases q'
    exact⟨_,_,rfl,p,p'⟩
 refine wpAny_newObj_type ?_ (by show 2<=sizeLine;decide)
 have I2:Inv X pins σ H1 {s1 with heap:=s1.heap.push {cls:=.type "tuple",data:=.seq [u1,u2].toArray}}:=I1.kept (t':=s1.toks) λb o e=>Heap.get?_push_of_some _ e
 rw[hw]
 refine wpAny_bind (wpAny_pure ?_)
 show wpAny (model X.prog X.w) X.A (do rule "assign.swapped-stores";let items<-unpackItems (.ref s1.heap.objs.size) 2 none;assignInOrder [λv=>bindName X.env y v,λv=>bindName X.env x v] items.reverse;pure Flow.next) _ _ _
 refine wpAny_bind (wpAny_rule (wpAny_bind (unpackItems_tuple (items:=#[u1,u2]) (I.ok.hd hc) (IsTup.new s1.heap _) λh' CY=>?_)))
 have I3:=I2.kept (h':=h') (t':=s1.toks) λb o e=>CY b o (ne_of_lt (Heap.lt_size e)) e
 show wpAny _ _ (assignInOrder [λv=>bindName X.env y v,λv=>bindName X.env x v] [u2,u1]>>=λ_=>pure Flow.next) _ _ _
 refine wpAny_bind (assignInOrder_cons (wpAny_bindName (pH I3 hN hj (.inl hy) oU (λs2 I4=>?_) (.inr hy))))
 refine assignInOrder_cons (wpAny_bindName (pH I4 hN hi (.inl hx) rv (λs3 I5=>assignInOrder_nil (wpAny_pure ?_)) (.inr hx)))
 rw[List.set_comm _ _ (Ne.symm hij)]at I5
 exact⟨_,H1,I5,q1⟩
def ZI(i:Nat)(te:TE)(ti:YH):TS:=λD σ H=>∃x,σ[i]?=some (some x)/\te σ H λy H1=>ti x y H1 λz H2=>D.nx (σ.set i (some z)) H2
theorem CZ{i:Nat}{x:Str}{e:Expr}{te:TE}{op:Operator}{ti:YH}{pos':Pos}(hN:X.N.Nodup)(hi:X.N[i]?=some x)(hx:Loc X.env.scope x)(he:PE X e te)(ho:Vr X op ti)(hf:X.fn x=true\/X.env.scope.names.lookup x=some .local:=by first|exact .inl rfl|exact .inr rfl|assumption):
  PS X (.AugAssign (.Name x pos') op e pos) (ZI i te ti):=by
 intro pins s σ H D I h
 obtain⟨v,e1,h⟩:=h
 obtain⟨m,hn,hl⟩:=I.loc
 have vis:yZ X.env.scope x:=by rcases hx with k|k;exact .inl k;exact .inr (.inl k)
 obtain⟨u,r,l⟩:=hl i x v hi e1 vis
 refine wpAny_AugAssign_Name ?_
 have go:wpAny (model X.prog X.w) X.A (eval e X.env) (λw s₂=>wpAny (model X.prog X.w) X.A (inplaceOp op u w) (λr s₃=>wpAny (model X.prog X.w) X.A (storeName X.env x r) (λ_=>SP X pins D .next) X.xe s₃) X.xe s₂) X.xe s:=by
  refine cM (he pins s σ H _ I h) λw s1 ⟨y,H1,I1,r1,q1⟩=>?_
  refine cM (ho pins s1 σ H1 v y u w _ I1 r r1 q1) λz s2 ⟨zv,H2,I2,r2,q2⟩=>?_
  exact pH I2 hN hi hx r2 (λs3 I3=>⟨_,H2,I3,q2⟩) hf
 rcases l with⟨hk,hm⟩|⟨hk,c,hc,hcell⟩
 ·exact wpAny_loadName_local I.ok.kind hk hn hm go
 ·rcases hk with hk|hk
  ·exact wpAny_loadName_cell I.ok.kind hk hc hcell go
  ·rcases hx with k|k
   ·have:X.env.scope.names.lookup x=some .free:=hk
    rw[k]at this;cases this
   ·have:X.env.scope.names.lookup x=some .free:=hk
    rw[k]at this;cases this
def V5(f:Int->Int->Int):YH:=λx y H Q=>∃i j,x=.int i/\y=.int j/\Q (.int (f i j)) H
theorem ID:Vr X .Add (V5 λi j=>i+j):=by
 intro pins s σ H x y v u Q I r1 r2 h
 obtain⟨i,j,e1,e2,q⟩:=h
 subst e1;subst e2
 obtain⟨t,rfl⟩:=r1
 obtain⟨t',rfl⟩:=r2
 exact iadd_int ⟨.int _,H,I.tok _,⟨_,rfl⟩,q⟩
theorem Sq:Vr X .Sub (V5 λi j=>i-j):=by
 intro pins s σ H x y v u Q I r1 r2 h
 obtain⟨i,j,e1,e2,q⟩:=h
 subst e1;subst e2
 obtain⟨t,rfl⟩:=r1
 obtain⟨t',rfl⟩:=r2
 exact isub_int ⟨.int _,H,I.tok _,⟨_,rfl⟩,q⟩
end
section
variable{X:Cx}{pos:Pos}
def Ss(c:TT)(tb:TS):TS:=λD σ H=>∃W:Nat->St->Hp->Prop,(∃m,W m σ H)/\∀m σ H,W m σ H->
 c σ H λb H1=>if b=true then∃N:St->Hp->Prop,(∀σ' H',N σ' H'->∃m',m'<m/\W m' σ' H')/\tb {D with nx:=N,ct:=N,bk:=D.nx} σ H1 else D.nx σ H1
theorem wZ{c:Expr}{body:List Stmt}{tc:TT}{tb:TS}(hp:PassesOwn (model X.prog X.w) X.A X.env X.xe)(hc:PT X c tc)(hb:q8 X body tb):PS X (.While c body [] pos) (Ss tc tb):=by
 intro pins s σ H D I h
 obtain⟨W,⟨m0,w0⟩,turn⟩:=h
 refine wpAny_While (codeAny_whileLoop (λn s'=>∃σ' H',Inv X pins σ' H' s'/\W n σ' H') ?_ m0 ⟨σ,H,I,w0⟩)
 rintro n s1 ⟨σ1,H1,I1,w1⟩
 refine wpAny_passesOwn hp (cM (hc pins s1 σ1 H1 _ I1 (turn n σ1 H1 w1)) λb s2 ⟨H2,I2,q2⟩=>?_)
 cases b with
 |true=>
  obtain⟨N,hN,q2⟩:=q2
  rw[if_pos rfl]
  refine wpAny_passesOwn hp (cM (hb pins s2 σ1 H2 _ I2 q2) λf s3 q3=>?_)
  cases f with
  |next=>
   obtain⟨σ3,H3,I3,n3⟩:=q3
   obtain⟨m',hm,w3⟩:=hN σ3 H3 n3
   exact⟨m',hm,σ3,H3,I3,w3⟩
  |cont=>
   obtain⟨σ3,H3,I3,n3⟩:=q3
   obtain⟨m',hm,w3⟩:=hN σ3 H3 n3
   exact⟨m',hm,σ3,H3,I3,w3⟩
  |brk=>exact q3
  |ret v=>exact q3
 |false=>
  rw[if_neg Bool.false_ne_true]
  exact wpAny_execs_nil ⟨σ1,H2,I2,q2⟩
end
structure It where
 go:Nat->Hp->Prop
 V6:Nat->Hp->V->Hp->Prop
 stop:Nat->Hp->Prop
def nQ(X:Cx)(pins:List (Addr×Obj))(H:Hp)(b:Addr):Prop:=
 H b=none/\b≠X.env.locals/\b∉X.fs/\(b∈X.ex\/X.s₀.heap.objs.size<=b)/\(∀x c,X.env.cells.lookup x=some c->c≠b)/\∀p∈X.pn++pins,p.1≠b
theorem Inv.GH {X:Cx}{pins:List (Addr×Obj)}{σ:St}{H H':Hp}{s:Shared}{b:Addr}(I:Inv X pins σ H s)(hb:s.heap.objs.size<=b)(hn:H' b=none):nQ X pins H' b:=by
 refine⟨hn,ne_of_gt (lt_of_lt_of_le I.lt hb),I.Zt hb,.inr (le_trans I.sz hb),λx c e z=>?_,λp hp z=>?_⟩
 ·obtain⟨v,q⟩:=I.cell x c e
  exact absurd (lt_of_lt_of_le q.lt (by rw[z];exact hb)) (Nat.lt_irrefl _)
 ·exact absurd (lt_of_lt_of_le (Heap.lt_size (I.pin p hp).1) (by rw[z];exact hb)) (Nat.lt_irrefl _)
structure Turn(P:Program)(w:World)(K:PySem.W.Frag)(tg:Expr)(J:It)(fp:List Addr)(it:Addr)(tn:Nat->Heap->Prop):Prop where
 mem:it∈fp
 obj:∀i h,tn i h->∀b∈fp,∃o,h.get? b=some o/\∀v,o.data≠.cell v
 keep:∀i h h',tn i h->(∀b∈fp,∀o,h.get? b=some o->h'.get? b=some o)->tn i h'
 item:∀(X:Cx),X.prog=P->X.w=w->X.K=K->X.calm=true->∀(i:Nat)(pins:List (Addr×Obj))(s:Shared)(σ:St)(H:Hp)(E:Value->Shared->Prop),Inv X pins σ H s->(∀b∈fp,nQ X pins H b)->tn i s.heap->J.go i H->
  wpAny (model P w) X.A (pyNext (.ref it)) (λr s1=>∃u,r=some u/\
   wpAny (model P w) X.A (letOwnedTupleGo tg (.ref it) u) (λ_ s2=>∃x H',Inv X pins σ H' s2/\RelV x u/\J.V6 i H x H'/\tn (i+1) s2.heap/\∀b∈fp,H' b=none) E s1) E s
 done:∀(X:Cx),X.prog=P->X.w=w->X.K=K->X.calm=true->∀(i:Nat)(pins:List (Addr×Obj))(s:Shared)(σ:St)(H:Hp)(E:Value->Shared->Prop),Inv X pins σ H s->(∀b∈fp,nQ X pins H b)->tn i s.heap->J.stop i H->
  wpAny (model P w) X.A (pyNext (.ref it)) (λr s1=>r=none/\Inv X pins σ H s1) E s
 self:∀(A:Around)(i:Nat)(s:Shared)(Q:Value->Shared->Prop)(E:Value->Shared->Prop),tn i s.heap->Q (.ref it) s->wpAny (model P w) A (pyIter (.ref it)) Q E s
abbrev TI:=St->Hp->(It->Hp->Prop)->Prop
noncomputable def PIE(X:Cx)(pins:List (Addr×Obj))(σ:St)(tg:Expr)(R:It->Hp->Prop)(itv:Value)(s2:Shared):Prop:=
 ∃(it:Addr)(fp:List Addr)(tn:Nat->Heap->Prop)(J:It)(H':Hp),itv=.ref it/\Inv X pins σ H' s2/\Turn X.prog X.w X.K tg J fp it tn/\tn 0 s2.heap/\(∀b∈fp,nQ X pins H' b)/\R J H'
noncomputable def PI(X:Cx)(tg iter:Expr)(wi:TI):Prop:=
 ∀(pins:List (Addr×Obj))(s:Shared)(σ:St)(H:Hp)(R:It->Hp->Prop),Inv X pins σ H s->wi σ H R->
  wpAny (model X.prog X.w) X.A (eval iter X.env) (λv s1=>wpAny (model X.prog X.w) X.A (pyIter v) (PIE X pins σ tg R) X.xe s1) X.xe s
theorem IE{M:Model}{A:Around}{E:Value->Shared->Prop}{s:Shared}{tg:Expr}{it:Addr}{u:Value}{o:Obj}{n:String}{vs:Array Value}{Q:Unit->Shared->Prop}(ho:s.heap.get? it=some o)(hc:o.cls=.type n)(hd:o.data=.fields vs)
  (hn:["enumerate","zip","dict_itemiterator","dict_reverseitemiterator","odict_iterator","itertools.zip_longest","itertools.pairwise"].contains n=false)(hQ:Q () s):wpAny M A (letOwnedTupleGo tg (.ref it) u) Q E s:=by
 unfold letOwnedTupleGo
 cases tg<;>first
  |exact wpAny_pure hQ
  |(cases u<;>first
    |exact wpAny_pure hQ
    |(refine wpAny_bind (wpAny_load ho ?_)
      rw[hc,hd]
      show wpAny M A (if(["enumerate","zip","dict_itemiterator","dict_reverseitemiterator","odict_iterator","itertools.zip_longest","itertools.pairwise"].contains n&&vs[0]?==some (rawInt _))=true then _ else _) Q E s
      rw[if_neg (by intro h;rw[hn,Bool.false_and]at h;cases h)]
      exact wpAny_pure hQ))
def Su(K:PySem.W.Frag)(a:Addr):It:=
 ⟨λi H=>∃xs x,dG K H a xs/\xs[i]?=some x,λi H x H'=>H'=H/\∀xs,dG K H a xs->xs[i]?=some x,λi H=>∃xs,dG K H a xs/\xs.length<=i⟩
def V7(lo:Int)(n:Nat):It:=⟨λi _=>i<n,λi H x H'=>H'=H/\x=.int (lo+i),λi _=>n<=i⟩
theorem GJ{P:Program}{w:World}{K:PySem.W.Frag}{tg:Expr}(a it:Addr):Turn P w K tg (Su K a) [it] it (λi h=>h.IsListIter it a i) where
 mem:=by simp
 obj:=λi h st b hb=>by
  have e:b=it:=by simpa using hb
  subst e
  obtain⟨o,e,c,d⟩:=st
  exact⟨o,e,λv z=>by rw[d]at z;cases z⟩
 keep:=λi h h' st k=>st.at λo e=>k it (by simp) o e
 item:=by
  intro X hP hw hK hc i pins s σ H E I hf st hg
  subst hP hw hK
  obtain⟨xs,x,hq,hx⟩:=hg
  obtain⟨its,rv,p,hz⟩:=I.list hq
  obtain⟨u,hu,ru⟩:=rv.get hx
  obtain⟨f0,f1,f2,f3,f4,f5⟩:=hf it (by simp)
  refine wpAny_pyNext_list_item st p.isList (x:=u) (by simpa using hu) λh' Nh sb=>?_
  have I1:Inv X pins σ H {s with heap:=h'}:=I.turned (t':=s.toks) (λb o hb e=>(sb.2 b hb).trans e) f0 f1 f3 f4 f5
  obtain⟨o,e,c,d⟩:=id Nh
  exact⟨u,rfl,IE (s:={s with heap:=h'}) e c d (by decide) ⟨x,H,I1,ru,⟨rfl,λys hy=>by rw[I.rS hy hq];exact hx⟩,Nh,λb hb=>(hf b hb).1⟩⟩
 done:=by
  intro X hP hw hK hc i pins s σ H E I hf st hg
  subst hP hw hK
  obtain⟨xs,hq,hx⟩:=hg
  obtain⟨its,rv,p,hz⟩:=I.list hq
  obtain⟨f0,f1,f2,f3,f4,f5⟩:=hf it (by simp)
  have hl:=rv.length
  exact wpAny_pyNext_list_end (I.ok.hd hc) st p.isList (by simp;lia) λh' eb=>⟨rfl,I.turned (t':=s.toks) (λb o hb e=>eb b o hb e) f0 f1 f3 f4 f5⟩
 self:=λ_ _ _ _ _ st h=>wpAny_pyIter_listiter st h
theorem C0{P:Program}{w:World}{K:PySem.W.Frag}{tg:Expr}(it:Addr)(lo:Int)(n:Nat):Turn P w K tg (V7 lo n) [it] it (λi h=>IsRangeIter h it (lo+(i:Nat)*1) ((n:Int)-(i:Nat)) 1) where
 mem:=by simp
 obj:=λi h st b hb=>by
  have e:b=it:=by simpa using hb
  subst e
  exact⟨_,st,λv z=>by
   have z':Data.fields _=Data.cell v:=z
   cases z'⟩
 keep:=λi h h' st k=>k it (by simp) _ st
 item:=by
  intro X hP hw hK hc i pins s σ H E I hf st hg
  subst hP hw hK
  obtain⟨f0,f1,f2,f3,f4,f5⟩:=hf it (by simp)
  have W:=Walks.range (prog:=X.prog) (w:=X.w) (I.ok.hd hc) it lo 1 n
  refine W.item i s _ _ hg st λv h' tk hv Nh kk=>?_
  obtain⟨t,rfl⟩:=hv
  have I1:Inv X pins σ H {s with heap:=h',toks:=tk}:=I.turned (λb o hb e=>kk b o (by simpa using hb) e) f0 f1 f3 f4 f5
  refine⟨_,rfl,IE (s:={s with heap:=h',toks:=tk}) (n:="range_iterator") Nh rfl rfl (by decide) ⟨.int (lo+i),H,I1,⟨t,?_⟩,⟨rfl,rfl⟩,Nh,λb hb=>(hf b hb).1⟩⟩
  rw[Int.mul_one]
 done:=by
  intro X hP hw hK hc i pins s σ H E I hf st hg
  subst hP hw hK
  obtain⟨f0,f1,f2,f3,f4,f5⟩:=hf it (by simp)
  exact wpAny_pyNext_range_end (I.ok.hd hc) st (by have:n<=i:=hg;lia) λh' eb=>⟨rfl,I.turned (t':=s.toks) (λb o hb e=>eb b o hb e) f0 f1 f3 f4 f5⟩
 self:=λ_ _ _ _ _ st h=>wpAny_pyIter_rangeiter st h
end L2
namespace L2
open PySem PySem.Spec PyProof.Rows
section
variable{X:Cx}{tg:Expr}
def IF(K:PySem.W.Frag)(tl:TE):TI:=λσ H R=>tl σ H λx H1=>∃a,x=.ref a/\(∃xs,dG K H1 a xs)/\R (Su K a) H1
theorem wg{l:Expr}{tl:TE}(hl:PE X l tl):PI X tg l (IF X.K tl):=by
 intro pins s σ H R I h
 refine cM (hl pins s σ H _ I h) λv s1 ⟨x,H1,I1,r1,q1⟩=>?_
 obtain⟨a,e,⟨xs,hq⟩,q⟩:=q1
 subst e
 cases r1
 obtain⟨its,rv,p,hz⟩:=I1.list hq
 refine wpAny_pyIter_list p.isList ?_
 refine⟨s1.heap.objs.size,[s1.heap.objs.size],_,_,H1,rfl,I1.kept (t':=s1.toks) λb o e=>Heap.get?_push_of_some _ e,GJ a _,⟨_,Heap.get?_push_size _ rfl,rfl,rfl⟩,λb hb=>?_,q⟩
 have e:b=s1.heap.objs.size:=by simpa using hb
 subst e
 exact I1.GH (Nat.le_refl _) (I1.hok.fresh (Nat.le_refl _))
theorem Bd{pins:List (Addr×Obj)}{σ:St}{H:Hp}{s:Shared}{R:It->Hp->Prop}{E:Value->Shared->Prop}{lo hi:Int}{t u v:Tok}{tk:Nat}(I:Inv X pins σ H s)(h1: -(2^62)<=lo)(h2:lo<2^62)(h3: -(2^62)<=hi)(h4:hi<2^62)
  (q:R (V7 lo (hi-lo).toNat) H):wpAny (model X.prog X.w) X.A (pyIter (.ref s.heap.objs.size)) (PIE X pins σ tg R) E {s with heap:=s.heap.push {cls:=.type "range",data:=.fields #[.int lo t,.int hi u,.int 1 v]},toks:=tk}:=by
 refine wpAny_pyIter_range (IsRange.new ..) (small_one h1 h2 h3 h4) ?_
 have I1:Inv X pins σ H {s with heap:=s.heap.push {cls:=.type "range",data:=.fields #[.int lo t,.int hi u,.int 1 v]},toks:=tk}:=I.kept λb o e=>Heap.get?_push_of_some _ e
 refine⟨(s.heap.push {cls:=.type "range",data:=.fields #[.int lo t,.int hi u,.int 1 v]}).objs.size,[(s.heap.push {cls:=.type "range",data:=.fields #[.int lo t,.int hi u,.int 1 v]}).objs.size],_,_,H,rfl,
  I1.kept (t':=tk) λb o e=>Heap.get?_push_of_some _ e,C0 _ lo (hi-lo).toNat,?_,λb hb=>?_,q⟩
 ·have e1:lo+((0:Nat):Int)*1=lo:=by simp
  have e2:(((hi-lo).toNat:Nat):Int)-((0:Nat):Int)=Builtin.Range.rangeSize lo hi 1:=by rw[rangeSize_one];split<;>lia
  show IsRangeIter _ _ (lo+((0:Nat):Int)*1) ((((hi-lo).toNat:Nat):Int)-((0:Nat):Int)) 1
  rw[e1,e2]
  exact Heap.get?_push_size _ rfl
 ·have e:b=(s.heap.push {cls:=.type "range",data:=.fields #[.int lo t,.int hi u,.int 1 v]}).objs.size:=by simpa using hb
  subst e
  exact I1.GH (Nat.le_refl _) (I1.hok.fresh (Nat.le_refl _))
def V8(ta:TA):TI:=λσ H R=>ta σ H λvs H1=>∃j:Int,vs=[.int j]/\ -(2^62)<=j/\j<2^62/\R (V7 0 j.toNat) H1
def V9(ta:TA):TI:=λσ H R=>ta σ H λvs H1=>∃i j:Int,vs=[.int i,.int j]/\(-(2^62)<=i/\i<2^62/\ -(2^62)<=j/\j<2^62)/\R (V7 i (j-i).toNat) H1
theorem GK{a:Expr}{ta:TA}{p pos:Pos}(hg:Gl X "range")(hm:X.mg "range"=none)(ha:PA X [a] ta)(hs:starEach [a] X.env=[(false,eval a X.env)]:=by rfl):PI X tg (.Call (.Name "range" p) [a] [] pos) (V8 ta):=by
 intro pins s σ H R I h
 refine Call_ (kJ I hg hm boot_range (PyProof.Rows.callWith_type1 (cM (ha pos pins s σ H _ I h) λus s1 ⟨vs,H1,I1,r1,q1⟩=>?_) hs rfl))
 obtain⟨j,e,q1,q2,q⟩:=q1
 subst e
 cases r1 with
 |cons r rr=>
  cases rr
  obtain⟨t,rfl⟩:=r
  exact call_range_1 (Bd I1 (by lia) (by lia) q1 q2 (by simpa using q))
theorem GO{a b:Expr}{ta:TA}{p pos:Pos}(hg:Gl X "range")(hm:X.mg "range"=none)(ha:PA X [a,b] ta)(hs:starEach [a,b] X.env=[(false,eval a X.env),(false,eval b X.env)]:=by rfl)(hs2:starEach [b] X.env=[(false,eval b X.env)]:=by rfl):
  PI X tg (.Call (.Name "range" p) [a,b] [] pos) (V9 ta):=by
 intro pins s σ H R I h
 refine Call_ (kJ I hg hm boot_range (PyProof.Rows.callWith_type1 (cM (ha pos pins s σ H _ I h) λus s1 ⟨vs,H1,I1,r1,q1⟩=>?_) (by rw[hs,hs2]) (by rw[hs2];rfl)))
 obtain⟨i,j,e,⟨q1,q2,q3,q4⟩,q⟩:=q1
 subst e
 cases r1 with
 |cons r rr=>
  cases rr with
  |cons r' rr=>
   cases rr
   obtain⟨t,rfl⟩:=r
   obtain⟨t',rfl⟩:=r'
   exact call_range_2 (Bd I1 q1 q2 q3 q4 q)
noncomputable def ZJ(wi:TI)(g:TG)(tb:TS):TS:=λD σ H=>wi σ H λJ H1=>∃W:Nat->Nat->St->Hp->Prop,(∃m,W 0 m σ H1)/\∀i m σ H,W i m σ H->
 (J.stop i H/\D.nx σ H)\/(J.go i H/\∃N:St->Hp->Prop,(∀σ' H',N σ' H'->∃m',m'<m/\W (i+1) m' σ' H')/\∀x H',J.V6 i H x H'->g x σ H' λσ2 H2=>tb {D with nx:=N,ct:=N,bk:=D.nx} σ2 H2)
def uf(fp:List Addr)(h:Heap):List (Addr×Obj):=fp.filterMap λb=>(h.get? b).map λo=>(b,o)
theorem gQ{fp:List Addr}{h:Heap}{b:Addr}{o:Obj}(hb:b∈fp)(e:h.get? b=some o):(b,o)∈uf fp h:=List.mem_filterMap.mpr ⟨b,hb,by rw[e];rfl⟩
theorem GQ{fp:List Addr}{h:Heap}{p:Addr×Obj}(hp:p∈uf fp h):p.1∈fp/\h.get? p.1=some p.2:=by
 obtain⟨b,hb,e⟩:=List.mem_filterMap.mp hp
 cases q:h.get? b with
 |none=>rw[q]at e;cases e
 |some o=>
  rw[q]at e
  have e':(b,o)=p:=Option.some.inj e
  subst e'
  exact⟨hb,q⟩
theorem Inv.pinned {pins:List (Addr×Obj)}{σ:St}{H:Hp}{s:Shared}{fp:List Addr}(I:Inv X pins σ H s)(hf:∀b∈fp,nQ X pins H b)(ho:∀b∈fp,∃o,s.heap.get? b=some o/\∀v,o.data≠.cell v):Inv X (pins++uf fp s.heap) σ H s:=
 I.En λp hp=>(mem_append.mp hp).elim (λz=>I.pin p (mem_append_right _ z)) λz=>by
  obtain⟨hb,e⟩:=GQ z
  obtain⟨f0,f1,f2,_⟩:=hf p.1 hb
  obtain⟨o,e',d⟩:=ho p.1 hb
  rw[e]at e';cases e'
  exact⟨e,f0,f1,f2,d⟩
theorem Inv.kK {pins pl:List (Addr×Obj)}{σ:St}{H:Hp}{s:Shared}(I:Inv X (pins++pl) σ H s):Inv X pins σ H s:=I.En λp hp=>I.pin p (mem_append_right _ (mem_append_left _ hp))
theorem IG{iter:Expr}{body:List Stmt}{wi:TI}{g:TG}{tb:TS}{pos:Pos}(hp:PassesOwn (model X.prog X.w) X.A X.env X.xe)(hc:X.calm=true)(hi:PI X tg iter wi)(hg:PG X tg g)(hb:q8 X body tb)
  (hs:∀x,foldedSetIterable iter X.env x=pure x:=by intro _;rfl):PS X (.For tg iter body [] pos) (ZJ wi g tb):=by
 intro pins s σ H D I h
 refine wpAny_For (cM (hi pins s σ H _ I h) λv s1 h1=>cM h1 λitv s2 h2=>?_) hs
 obtain⟨it,fp,tn,J,H2,e,I2,T,MG,f2,W,⟨m0,w0⟩,turn⟩:=h2
 subst e
 have Sv:∀{H':Hp},(∀b∈fp,H' b=none)->∀b∈fp,nQ X pins H' b:=λhn b hb=>⟨hn b hb,(f2 b hb).2⟩
 refine codeAny_forLoop_any (λn s'=>∃i σ' H',Inv X pins σ' H' s'/\tn i s'.heap/\(∀b∈fp,H' b=none)/\W i n σ' H') ?_ m0 ⟨0,σ,H2,I2,MG,λb hb=>(f2 b hb).1,w0⟩
 rintro n s3 ⟨i,σ3,H3,I3,st3,ug,w3⟩
 rcases turn i n σ3 H3 w3 with⟨stop,qn⟩|⟨go,N,hN,step⟩
 ·refine wpAny_passesOwn hp (cM (T.done X rfl rfl rfl hc i pins s3 σ3 H3 X.xe I3 (Sv ug) st3 stop) λr s4 ⟨hr,I4⟩=>?_)
  subst hr
  exact wpAny_execs_nil ⟨σ3,H3,I4,qn⟩
 ·refine wpAny_passesOwn hp (cM (T.item X rfl rfl rfl hc i pins s3 σ3 H3 X.xe I3 (Sv ug) st3 go) λr s4 ⟨u,hr,h4⟩=>?_)
  subst hr
  refine wpAny_passesOwn hp (cM h4 λ_ s5 ⟨x,H5,I5,r5,y5,Ni,MH⟩=>?_)
  have I5':=I5.pinned (Sv MH) (T.obj _ _ Ni)
  refine wpAny_passesOwn hp (cM (hg _ s5 σ3 H5 x u _ I5' r5 (step x H5 y5)) λ_ s6 ⟨σ6,H6,I6,q6⟩=>?_)
  refine wpAny_passesOwn hp (cM (hb _ s6 σ6 H6 _ I6 q6) λf s7 q7=>?_)
  have again:∀{σ7:St}{H7:Hp},Inv X (pins++uf fp s5.heap) σ7 H7 s7->N σ7 H7->∃m,m<n/\∃i σ' H',Inv X pins σ' H' s7/\tn i s7.heap/\(∀b∈fp,H' b=none)/\W i m σ' H':=λ{σ7 H7} I7 n7=>by
   obtain⟨m',hm,w7⟩:=hN σ7 H7 n7
   refine⟨m',hm,i+1,σ7,H7,I7.kK,T.keep _ _ _ Ni λb hb o e=>(I7.pin (b,o) (mem_append_right _ (mem_append_right _ (gQ hb e)))).1,λb hb=>?_,w7⟩
   obtain⟨o,e,d⟩:=T.obj _ _ Ni b hb
   exact(I7.pin (b,o) (mem_append_right _ (mem_append_right _ (gQ hb e)))).2.1
  cases f with
  |next=>obtain⟨σ7,H7,I7,n7⟩:=q7;exact again I7 n7
  |cont=>obtain⟨σ7,H7,I7,n7⟩:=q7;exact again I7 n7
  |brk=>obtain⟨σ7,H7,I7,q7⟩:=q7;exact⟨σ7,H7,I7.kK,q7⟩
  |ret v=>obtain⟨x7,σ7,H7,I7,r7,q7⟩:=q7;exact⟨x7,σ7,H7,I7.kK,r7,q7⟩
end
theorem II{K:PySem.W.Frag}{a:Addr}{xs:List V}{g:TG}{tb:TS}{D:Ends}{σ:St}{H:Hp}(Pv:Nat->St->Hp->Prop)(h0:Pv 0 σ H)(hl:∀i σ H,i<=xs.length->Pv i σ H->dG K H a xs)
  (hs:∀i x σ H,xs[i]?=some x->Pv i σ H->g x σ H λσ2 H2=>tb {D with nx:=Pv (i+1),ct:=Pv (i+1),bk:=D.nx} σ2 H2)(hd:∀σ H,Pv xs.length σ H->D.nx σ H):
  ∃W:Nat->Nat->St->Hp->Prop,(∃m,W 0 m σ H)/\∀i m σ H,W i m σ H->
   ((Su K a).stop i H/\D.nx σ H)\/((Su K a).go i H/\∃N:St->Hp->Prop,(∀σ' H',N σ' H'->∃m',m'<m/\W (i+1) m' σ' H')/\∀x H',(Su K a).V6 i H x H'->g x σ H' λσ2 H2=>tb {D with nx:=N,ct:=N,bk:=D.nx} σ2 H2):=by
 refine⟨λi m σ H=>m=xs.length-i/\i<=xs.length/\Pv i σ H,⟨xs.length,by simp,zero_le _,h0⟩,?_⟩
 rintro i m σ H ⟨rfl,hi,p⟩
 have q:=hl i σ H hi p
 by_cases hlt:i<xs.length
 ·refine .inr ⟨⟨xs,xs[i],q,by simp[hlt]⟩,Pv (i+1),λσ' H' p'=>⟨xs.length-(i+1),by lia,rfl,hlt,p'⟩,λx H' y=>?_⟩
  obtain⟨e,y⟩:=y
  subst e
  exact hs i x σ _ (y xs q) p
 ·have e:i=xs.length:=by lia
  subst e
  exact .inl ⟨⟨xs,q,Nat.le_refl _⟩,hd σ H p⟩
end L2
namespace L2
open PySem PySem.Spec PyProof.Rows
abbrev R2:=V->V->Hp->VK->Prop
def uh(X:Cx)(f:Value->Value->Sem Value)(r:R2):Prop:=
 ∀(pins:List (Addr×Obj))(s:Shared)(σ:St)(H:Hp)(x y:V)(v u:Value)(Q:VK),Inv X pins σ H s->RelV x v->RelV y u->r x y H Q->
  wpAny (model X.prog X.w) X.A (f v u) (EP X pins σ Q) X.xe s
def Wa(X:Cx)(f:Value->Sem Value)(r:V->Hp->VK->Prop):Prop:=
 ∀(pins:List (Addr×Obj))(s:Shared)(σ:St)(H:Hp)(x:V)(v:Value)(Q:VK),Inv X pins σ H s->RelV x v->r x H Q->
  wpAny (model X.prog X.w) X.A (f v) (EP X pins σ Q) X.xe s
def q9(X:Cx)(f:Value)(r:List V->Hp->VK->Prop):Prop:=
 ∀(pins:List (Addr×Obj))(s:Shared)(σ:St)(H:Hp)(xs:List V)(us:List Value)(Q:VK),Inv X pins σ H s->Vals xs us->r xs H Q->
  wpAny (model X.prog X.w) X.A (call f us) (EP X pins σ Q) X.xe s
def Wb(r:R2)(ta tb:TE):TE:=λσ H Q=>ta σ H λx H1=>tb σ H1 λy H2=>r x y H2 Q
def tUn(r:V->Hp->VK->Prop)(ta:TE):TE:=λσ H Q=>ta σ H λx H1=>r x H1 Q
def rI(C:Int->Int->Prop)(g:Int->Int->V):R2:=λx y H Q=>∃i j,x=.int i/\y=.int j/\C i j/\Q (g i j) H
def Ep(g:Int->Int->V):R2:=λx y H Q=>∃i j,x=.int i/\y=.int j/\Q (g i j) H
def rU(g:Int->V):V->Hp->VK->Prop:=λx H Q=>∃i,x=.int i/\Q (g i) H
section
variable{X:Cx}{a b c:Expr}{ta tb tc:TE}{pos:Pos}
theorem Sw(ha:PE X a ta)(hb:PE X b tb){pins:List (Addr×Obj)}{s:Shared}{σ:St}{H:Hp}{R:V->V->Hp->Prop}(I:Inv X pins σ H s)
  (h:ta σ H λx H1=>tb σ H1 λy H2=>R x y H2){Q:Value->Shared->Prop}{f:Value->Value->Sem Value}
  (hf:∀v u s2 x y H2,Inv X pins σ H2 s2->RelV x v->RelV y u->R x y H2->wpAny (model X.prog X.w) X.A (f v u) Q X.xe s2):
  wpAny (model X.prog X.w) X.A (eval a X.env) (λv s₁=>wpAny (model X.prog X.w) X.A (eval b X.env) (λu s₂=>wpAny (model X.prog X.w) X.A (f v u) Q X.xe s₂) X.xe s₁) X.xe s:=by
 refine cM (ha pins s σ H _ I h) λv s1 ⟨x,H1,I1,r1,q1⟩=>?_
 refine cM (hb pins s1 σ H1 _ I1 q1) λu s2 ⟨y,H2,I2,r2,q2⟩=>?_
 exact hf v u s2 x y H2 I2 r1 r2 q2
theorem rT{op:Operator}{r:R2}(ho:uh X (binaryOp op) r)(ha:PE X a ta)(hb:PE X b tb):PE X (.BinOp a op b pos) (Wb r ta tb):=by
 intro pins s σ H Q I h
 exact wpAny_BinOp (Sw ha hb I h λv u s2 x y H2 I2 rx ry q=>ho pins s2 σ H2 x y v u Q I2 rx ry q)
theorem Er{op:UnaryOp}{r:V->Hp->VK->Prop}(ho:Wa X (unaryOp op) r)(ha:PE X a ta):PE X (.UnaryOp op a pos) (tUn r ta):=by
 intro pins s σ H Q I h
 exact UnaryOp_ (cM (ha pins s σ H _ I h) λv s1 ⟨x,H1,I1,r1,q1⟩=>ho pins s1 σ H1 x v Q I1 r1 q1)
theorem Wc{f:Value->Value->Sem Value}{C:Int->Int->Prop}{g:Int->Int->Int}
  (rule:∀(i j:Int)(t u:Tok)(s:Shared)(Q:Value->Shared->Prop)(E:Value->Shared->Prop),C i j->Q (.int (g i j) s.toks) {s with toks:=s.toks+1}->wpAny (model X.prog X.w) X.A (f (.int i t) (.int j u)) Q E s):
  uh X f (rI C λi j=>.int (g i j)):=by
 intro pins s σ H x y v u Q I rx ry h
 obtain⟨i,j,rfl,rfl,hc,q⟩:=h
 obtain⟨t,rfl⟩:=rx
 obtain⟨t',rfl⟩:=ry
 exact rule i j t t' s _ _ hc ⟨.int (g i j),H,I.tok _,⟨_,rfl⟩,q⟩
theorem Sx{f:Value->Value->Sem Value}{g:Int->Int->Int}
  (rule:∀(i j:Int)(t u:Tok)(s:Shared)(Q:Value->Shared->Prop)(E:Value->Shared->Prop),Q (.int (g i j) s.toks) {s with toks:=s.toks+1}->wpAny (model X.prog X.w) X.A (f (.int i t) (.int j u)) Q E s):
  uh X f (Ep λi j=>.int (g i j)):=by
 intro pins s σ H x y v u Q I rx ry h
 obtain⟨i,j,rfl,rfl,q⟩:=h
 obtain⟨t,rfl⟩:=rx
 obtain⟨t',rfl⟩:=ry
 exact rule i j t t' s _ _ ⟨.int (g i j),H,I.tok _,⟨_,rfl⟩,q⟩
theorem Sy{f:Value->Value->Sem Value}{g:Int->Int->Bool}
  (rule:∀(i j:Int)(t u:Tok)(s:Shared)(Q:Value->Shared->Prop)(E:Value->Shared->Prop),Q (.bool (g i j)) s->wpAny (model X.prog X.w) X.A (f (.int i t) (.int j u)) Q E s):
  uh X f (Ep λi j=>.bl (g i j)):=by
 intro pins s σ H x y v u Q I rx ry h
 obtain⟨i,j,rfl,rfl,q⟩:=h
 obtain⟨t,rfl⟩:=rx
 obtain⟨t',rfl⟩:=ry
 exact rule i j t t' s _ _ ⟨.bl (g i j),H,I,rfl,q⟩
def Wd(i j:Int):Prop:=0<j/\j<1073741824
def GR(i j:Int):Prop:=0<=j/\j<=1000000/\i.natAbs<2^64
def Nj(i j:Int):Prop:=(-(2^64)<i/\i<2^64)\/(-(2^64)<j/\j<2^64)
theorem Nj.ok {i j:Int}(h:Nj i j):IntMulOk i j:=by
 rcases h with⟨h1,h2⟩|⟨h1,h2⟩
 ·exact .of_left (intBits_le_64 h1 h2)
 ·exact .of_right (intBits_le_64 h1 h2)
theorem bD:uh X (binaryOp .Add) (Ep λi j=>.int (i+j)):=Sx λ_ _ _ _ _ _ _ q=>add_int q
theorem bE:uh X (binaryOp .Sub) (Ep λi j=>.int (i-j)):=Sx λ_ _ _ _ _ _ _ q=>sub_int q
theorem zV:uh X (binaryOp .Mult) (rI Nj λi j=>.int (i*j)):=Wc λ_ _ _ _ _ _ _ hc q=>mul_int q hc.ok
theorem j7:uh X (binaryOp .FloorDiv) (rI Wd λi j=>.int (i/j)):=Wc λi j _ _ _ _ _ hc q=>by
 have h1:(0:Int)<j:=hc.1
 have h2:j<1073741824:=hc.2
 exact floordiv_int (by lia) (by rw[Int.fdiv_eq_ediv_of_nonneg i (by lia)];exact q) (.inl (PyProof.noPylong_small (by lia)))
theorem eZ:uh X (binaryOp .Mod) (rI (λ_ j=>0<j) λi j=>.int (i%j)):=Wc λi j _ _ _ _ _ hc q=>by
 have h1:(0:Int)<j:=hc
 exact mod_int' (by lia) (by rw[Int.fmod_eq_emod_of_nonneg i (by lia)];exact q)
theorem Sz:uh X (binaryOp .Pow) (rI GR λi j=>.int (i^j.toNat)):=Wc λ_ _ _ _ _ _ _ hc q=>pow_int_small hc.1 hc.2.1 hc.2.2 q
theorem SA:uh X (binaryOp .LShift) (rI GR λi j=>.int (i*2^j.toNat)):=Wc λ_ _ _ _ _ _ _ hc q=>lshift_int_small hc.1 hc.2.1 hc.2.2 q
theorem IJ:uh X (binaryOp .BitAnd) (Ep λi j=>.int (Builtin.bitAnd i j)):=Sx λ_ _ _ _ _ _ _ q=>and_int q
theorem unI{f:Value->Sem Value}{g:Int->Int}
  (rule:∀(i:Int)(t:Tok)(s:Shared)(Q:Value->Shared->Prop)(E:Value->Shared->Prop),Q (.int (g i) s.toks) {s with toks:=s.toks+1}->wpAny (model X.prog X.w) X.A (f (.int i t)) Q E s):
  Wa X f (rU λi=>.int (g i)):=by
 intro pins s σ H x v Q I rx h
 obtain⟨i,rfl,q⟩:=h
 obtain⟨t,rfl⟩:=rx
 exact rule i t s _ _ ⟨.int (g i),H,I.tok _,⟨_,rfl⟩,q⟩
theorem dg:Wa X (unaryOp .USub) (rU λi=>.int (-i)):=unI λ_ _ _ _ _ q=>neg_int q
theorem IK:Wa X (unaryOp .Invert) (rU λi=>.int (Builtin.bitNot i)):=unI λ_ _ _ _ _ q=>invert_int q
end
noncomputable def ZK:V->V->Bool
 |.non,.non=>true|.non,.int _=>true|.int _,.non=>true|.non,.bl _=>true|.bl _,.non=>true|.non,.str _=>true|.str _,.non=>true
 |.int _,.int _=>true|.bl _,.bl _=>true|.str _,.str _=>true|.Ic _,.Ic _=>true
 |.int _,.str _=>true|.str _,.int _=>true|.bl _,.str _=>true|.str _,.bl _=>true
 |_,_=>false
def rEq:R2:=λx y H Q=>ZK x y=true/\Q (.bl (decide (x=y))) H
theorem Nk{i j:Int}:decide (V.int i=V.int j)=(i==j):=by
 rw[Bool.eq_iff_iff]
 simp
theorem SD{i j:Bool}:decide (V.bl i=V.bl j)=(i==j):=by
 rw[Bool.eq_iff_iff]
 simp
theorem Nm{i j:Str}:decide (V.str i=V.str j)=(i==j):=by
 rw[Bool.eq_iff_iff]
 simp
theorem Nn{i j:Array UInt8}:decide (V.Ic i=V.Ic j)=(i.toList==j.toList):=by
 rw[Bool.eq_iff_iff]
 cases i
 cases j
 simp
section
variable{X:Cx}{a b c:Expr}{ta tb tc:TE}{pos:Pos}
theorem fE{pins:List (Addr×Obj)}{σ:St}{H:Hp}{s:Shared}{Q:VK}{k k':Bool}(I:Inv X pins σ H s)(q:Q (.bl k) H)(e:k=k'):EP X pins σ Q (.bool k') s:=by
 subst e
 exact⟨.bl k,H,I,rfl,q⟩
theorem IL:uh X (compareOp .Eq) rEq:=by
 intro pins s σ H x y v u Q I rx ry h
 obtain⟨hs,q⟩:=h
 cases x with
 |non=>
  cases rx
  cases y with
  |non=>cases ry;exact PySem.EqNone.eq_none_none (fE I q (by simp))
  |bl j=>cases ry;exact PySem.EqNone.eq_none_bool (fE I q (by simp))
  |int j=>obtain⟨t',rfl⟩:=ry;exact PySem.EqNone.eq_none_int (fE I q (by simp))
  |str j=>obtain⟨t',rfl⟩:=ry;exact PySem.EqNone.eq_none_str (fE I q (by simp))
  |_=>exact absurd (show false=true from hs) Bool.false_ne_true
 |bl i=>
  cases rx
  cases y with
  |non=>cases ry;exact PySem.EqNone.eq_bool_none (fE I q (by simp))
  |bl j=>cases ry;exact eq_bool (fE I q SD)
  |str j=>obtain⟨t',rfl⟩:=ry;exact PySem.EqMixed.eq_bool_str (fE I q (by simp))
  |_=>exact absurd (show false=true from hs) Bool.false_ne_true
 |int i=>
  obtain⟨t,rfl⟩:=rx
  cases y with
  |non=>cases ry;exact PySem.EqNone.eq_int_none (fE I q (by simp))
  |int j=>obtain⟨t',rfl⟩:=ry;exact eq_int (fE I q Nk)
  |str j=>obtain⟨t',rfl⟩:=ry;exact PySem.EqMixed.eq_int_str (fE I q (by simp))
  |_=>exact absurd (show false=true from hs) Bool.false_ne_true
 |str i=>
  obtain⟨t,rfl⟩:=rx
  cases y with
  |non=>cases ry;exact PySem.EqNone.eq_str_none (fE I q (by simp))
  |bl j=>cases ry;exact PySem.EqMixed.eq_str_bool (fE I q (by simp))
  |int j=>obtain⟨t',rfl⟩:=ry;exact PySem.EqMixed.eq_str_int (fE I q (by simp))
  |str j=>obtain⟨t',rfl⟩:=ry;exact eq_str (fE I q Nm)
  |_=>exact absurd (show false=true from hs) Bool.false_ne_true
 |Ic i=>
  obtain⟨t,rfl⟩:=rx
  cases y with
  |Ic j=>obtain⟨t',rfl⟩:=ry;exact PySem.W.eq_bytes (fE I q Nn)
  |_=>exact absurd (show false=true from hs) Bool.false_ne_true
 |_=>cases y<;>exact absurd (show false=true from hs) Bool.false_ne_true
theorem ve:uh X (compareOp .Lt) (Ep λi j=>.bl (decide (i<j))):=Sy λ_ _ _ _ _ _ _ q=>lt_int q
theorem Qd:uh X (compareOp .LtE) (Ep λi j=>.bl (decide (i<=j))):=Sy λ_ _ _ _ _ _ _ q=>le_int q
theorem fG:uh X (compareOp .Gt) (Ep λi j=>.bl (decide (j<i))):=Sy λ_ _ _ _ _ _ _ q=>gt_int q
theorem SE:uh X (compareOp .Is) (λx y H Q=>y=.non/\Q (.bl (decide (x=.non))) H):=by
 intro pins s σ H x y v u Q I rx ry h
 obtain⟨rfl,q⟩:=h
 cases ry
 refine is_none_gen (fE I q ?_)
 cases x<;>first
  |(cases rx;rfl)
  |(obtain⟨t,rfl⟩:=rx;rfl)
theorem Np:uh X (compareOp .IsNot) (λx y H Q=>y=.non/\Q (.bl (!decide (x=.non))) H):=by
 intro pins s σ H x y v u Q I rx ry h
 obtain⟨rfl,q⟩:=h
 cases ry
 refine isnot_none_gen (fE I q ?_)
 cases x<;>first
  |(cases rx;rfl)
  |(obtain⟨t,rfl⟩:=rx;rfl)
theorem aF(b:Expr){op:CmpOp}(h:op≠.In:=by decide)(h2:op≠.NotIn:=by decide):behindInMarks op b=false:=by
 have e1:(op==CmpOp.In)=false:=by cases op<;>first|rfl|exact absurd rfl h
 have e2:(op==CmpOp.NotIn)=false:=by cases op<;>first|rfl|exact absurd rfl h2
 cases b<;>simp[behindInMarks,e1,e2]
theorem Nq{op:CmpOp}{r:R2}(ho:uh X (compareOp op) r)(ha:PE X a ta)(hb:PE X b tb)(hm:behindInMarks op b=false):PE X (.Compare a [op] [b] pos) (Wb r ta tb):=by
 intro pins s σ H Q I h
 exact wpAny_Compare1 (Sw ha hb I h λv u s2 x y H2 I2 rx ry q=>ho pins s2 σ H2 x y v u Q I2 rx ry q) hm
def We(t:TE):TT:=λσ H Q=>t σ H λx H'=>∃k,x=.bl k/\Q k H'
theorem j8{op:CmpOp}{r:R2}(ho:uh X (compareOp op) r)(ha:PE X a ta)(hb:PE X b tb)(hm:behindInMarks op b=false):PT X (.Compare a [op] [b] pos) (We (Wb r ta tb)):=by
 intro pins s σ H Q I h
 refine wpAny_isTrue_Compare1 (cM (ha pins s σ H _ I h) λv s1 ⟨x,H1,I1,r1,q1⟩=>cM (hb pins s1 σ H1 _ I1 q1) λu s2 ⟨y,H2,I2,r2,q2⟩=>
  cM (ho pins s2 σ H2 x y v u _ I2 r1 r2 q2) λc s3 ⟨z,H3,I3,r3,k,e,q3⟩=>?_) hm
 subst e
 cases r3
 exact wpAny_truthy_bool ⟨H3,I3,q3⟩
theorem ui:(sizeLine:Nat)<2^63:=by rw[sizeLine_eq];decide
theorem vals1{x:V}{us:List Value}(r:Vals [x] us):∃u,us=[u]/\RelV x u:=by
 cases r with
 |cons r1 r2=>cases r2;exact⟨_,rfl,r1⟩
theorem vals2{x y:V}{us:List Value}(r:Vals [x,y] us):∃u w',us=[u,w']/\RelV x u/\RelV y w':=by
 cases r with
 |cons r1 r2=>
  cases r2 with
  |cons r3 r4=>cases r4;exact⟨_,_,rfl,r1,r3⟩
theorem jD:q9 X (.builtin "abs") (λxs H Q=>∃i,xs=[.int i]/\Q (.int (if i<0 then-i else i)) H):=by
 intro pins s σ H xs us Q I r h
 obtain⟨i,rfl,q⟩:=h
 obtain⟨u,rfl,t,rfl⟩:=vals1 r
 exact call_abs_int λu tk=>⟨.int (if i<0 then-i else i),H,I.tok _,⟨_,rfl⟩,q⟩
theorem y0(hc:X.calm=true):q9 X (.builtin "max") (λxs H Q=>∃i j,xs=[.int i,.int j]/\Q (.int (if j>i then j else i)) H):=by
 intro pins s σ H xs us Q I r h
 obtain⟨i,j,rfl,q⟩:=h
 obtain⟨u,w',rfl,⟨t,rfl⟩,⟨t',rfl⟩⟩:=vals2 r
 refine max_two_ints (I.ok.hd hc) λh' tk k=>⟨_,H,I.kept k,?_,q⟩
 by_cases hj:j>i
 ·rw[if_pos hj,if_pos hj];exact⟨_,rfl⟩
 ·rw[if_neg hj,if_neg hj];exact⟨_,rfl⟩
def Wf(K:PySem.W.Frag)(x:V)(H:Hp)(n:Nat):Prop:=
 match x with
 |.str y=>y.length<=sizeLine/\n=y.length
 |.Ic y=>y.size<=sizeLine/\n=y.size
 |.ref p=>(∃xs,dG K H p xs/\n=xs.length)\/∃xs,Bc K H p xs/\n=xs.length
 |_=>False
theorem bJ:q9 X (.builtin "len") (λxs H Q=>∃x n,xs=[x]/\Wf X.K x H n/\Q (.int n) H):=by
 intro pins s σ H xs us Q I r h
 obtain⟨x,n,rfl,e,q⟩:=h
 obtain⟨u,rfl,rx⟩:=vals1 r
 have hl:=ui
 have hs:sizeLine=16777216:=sizeLine_eq
 cases x with
 |str y=>
  obtain⟨t,rfl⟩:=rx
  obtain⟨hy,e'⟩:y.length<=sizeLine/\n=y.length:=e
  subst e'
  exact len_str (by lia) ⟨.int _,H,I.tok _,⟨_,rfl⟩,q⟩
 |Ic y=>
  obtain⟨t,rfl⟩:=rx
  obtain⟨hy,e'⟩:y.size<=sizeLine/\n=y.size:=e
  subst e'
  exact PySem.W.len_bytes (by lia) ⟨.int _,H,I.tok _,⟨_,rfl⟩,q⟩
 |ref p=>
  cases rx
  have e':(∃xs,dG X.K H p xs/\n=xs.length)\/∃xs,Bc X.K H p xs/\n=xs.length:=e
  rcases e' with⟨xs,hx,e'⟩|⟨xs,hx,e'⟩
  ·subst e'
   obtain⟨its,r',pl,hz⟩:=I.list hx
   have hlen:=r'.length
   exact Calls.call_len_list pl.isList (by simp only [size_toArray];lia) ⟨.int xs.length,H,I.tok _,⟨_,by simp only [size_toArray];rw[hlen]⟩,q⟩
  ·subst e'
   obtain⟨its,r',pl,hz⟩:=I.tuple hx
   have hlen:=r'.length
   exact len_tuple pl (by simp only [size_toArray];lia) ⟨.int xs.length,H,I.tok _,⟨_,by simp only [size_toArray];rw[hlen]⟩,q⟩
 |_=>exact(show False from e).elim
end
end L2
namespace L2
open PySem PySem.Spec PyProof.Rows
structure C1(h:Heap)(x dx C:Addr)(mA:Str->Option Value):Prop where
 obj:h.get? x=some (instObj C dx)
 ns:h.Ns1 dx mA
 ne:dx≠x
theorem GU{h:Heap}{dx:Addr}{mA:Str->Option Value}(n:h.Ns1 dx mA):∃od,h.get? dx=some od/\∀name,lookIn name od=some (mA name):=by
 obtain⟨o,es,ep,ho,hd,hk,_,hm⟩:=n
 refine⟨o,ho,λname=>?_⟩
 have e:=hm name
 unfold nsFind findBy at e
 rw[<-Array.find?_toList]at e
 unfold lookIn
 rw[hd]
 dsimp only
 split
 ·rename_i y q
  rw[q]at e
  exact congrArg some e
 ·rename_i q
  rw[q]at e
  have a:es.toList.any (·.refKey)=false:=by
   rw[List.any_eq_false]
   intro y hy
   obtain⟨z,t,hkey⟩:=hk y (Array.mem_toList_iff.mp hy)
   simp[DictEntry.refKey,hkey]
  have a':¬es.toList.any (·.refKey)=true:=by rw[a];exact Bool.false_ne_true
  rw[if_neg a']
  exact congrArg some e
theorem C1.look {h:Heap}{x dx C:Addr}{mA:Str->Option Value}(I:C1 h x dx C mA):∃od,PySem.W.InstAt h x (instObj C dx) C (some od)/\∀name,lookIn name od=some (mA name):=
 let⟨od,ho,hl⟩:=GU I.ns
 ⟨od,⟨I.obj,rfl,rfl,ho⟩,hl⟩
section
variable{prog:Program}{w:World}{A:Around}{E:Value->Shared->Prop}{s:Shared}{K:PySem.W.Frag}{x dx C f:Addr}{mA:Str->Option Value}{name:Str}{v:Value}
theorem get_map{expr:Bool}{Q:Value->Shared->Prop}(X:K.In s.heap)(I:C1 s.heap x dx C mA)(hg:plainGet K C name=true)(hh:hasDictIn K C=true)
  (ha:findIn K (.ref C) name=some none)(hv:mA name=some v)(hv':handedIn v=true)(h:Q v {s with toks:=s.toks+1}):
  wpAny (model prog w) A (getAttr (.ref x) name expr) Q E s:=by
 obtain⟨od,J,hl⟩:=I.look
 exact PySem.W.get_value X J (plainGet_of hg).1 (PySem.W.findObj_own hh ha rfl (by rw[hl,hv])) hv' h
theorem IM{pl:Sem Bool}{Q:Value×List Value->Shared->Prop}(X:K.In s.heap)(I:C1 s.heap x dx C mA)(hg:plainGet K C name=true)
  (hf:findIn K (.ref C) name=some (some (.ref f)))(ht:isFn K (.ref f)=true)(hv:mA name=none)(h:Q (.ref f,[.ref x]) s):
  wpAny (model prog w) A (getMethod (.ref x) name pl) Q E s:=by
 obtain⟨od,J,hl⟩:=I.look
 exact PySem.W.method_fn X J (plainGet_of hg).1 (plainGet_of hg).2 hf (beq_iff_eq.mp ht) (by show(lookIn name od).map (·.isSome)=some false;rw[hl,hv];rfl) h
theorem Nr{ns:List Str}{Q:Unit->Shared->Prop}(X:K.In s.heap)(I:C1 s.heap x dx C mA)
  (hs:findIn K (.ref C) "__setattr__"=some (some (.builtin "object.__setattr__")))(hp:plainOver K C=true)(ht:takerIn K C name=some none)(hh:hasDictIn K C=true)
  (hw:PySem.Within mA ns)(hsz:ns.length<=sizeLine)
  (h:∀h',C1 h' x dx C (λy=>if y=name then some v else mA y)->Heap.SameBut dx s.heap h'->Q () {s with heap:=h',toks:=s.toks+2}):
  wpAny (model prog w) A (setAttr (.ref x) name v) Q E s:=by
 obtain⟨od,J,hl⟩:=I.look
 refine PySem.W.set_plain X J hs (PySem.W.osa_open (s:={s with toks:=s.toks+1}) (r:=none) X J hp ht λb=>?_)
 obtain⟨cd,hc,M9⟩:=PySem.W.any_some hh
 have hx:s.heap.get? x=some ⟨.ref C,some dx,.plain,#[]⟩:=I.obj
 refine wpAny_bind (wpAny_pure (wpAny_bind (wpAny_bind (wpAny_loadPart hx (wpAny_bind (Looks.here (s:={s with toks:=s.toks+1}) (PySem.W.looks_clsIn X hc) ?_))))))
 rw[M9]
 refine wpAny_pure (a:=some dx) (wpAny_bind (wpAny_pure (wpAny_bind ?_)))
 refine wpAny_nsSet1 (s:={s with toks:=s.toks+1}) I.ns λh' hn2 hs2=>?_
 obtain⟨oD,esD,epD,hoD,hdD,hcD⟩:=hn2.count (PySem.Within.cons name v hw)
 refine wpAny_bind (wpAny_lookBehind hoD (by rw[hdD];exact pastItsLine_dict (le_trans hcD (by rw[length_cons];lia))) ?_)
 exact wpAny_pure (h _ ⟨(hs2.2 _ (Ne.symm I.ne)).trans I.obj,hn2,I.ne⟩ hs2)
theorem IP{R:Result->Shared->Prop}{vs:List Value}{kw:List (Str×Value)}(X:K.In s.heap)(hm:makesIn K C=true)
  (hi:findIn K (.ref C) "__init__"=some (some (.ref f)))(hf:typeIn K (.ref f)=some (.type "function"))
  (h:codeAny (model prog w) (A.under (.builtin "type.__call__" ⟨.ref C::vs,kw⟩)) (.call (.ref f) ⟨.ref (s.heap.objs.size+1)::vs,kw⟩) (PySem.W.InitBack (s.heap.objs.size+1) R)
   {s with heap:=(s.heap.push emptyDict).push (instObj C s.heap.objs.size)}):
  codeAny (model prog w) A (.call (.ref C) ⟨vs,kw⟩) R s:=by
 obtain⟨hh,g,d,t,os⟩:=s
 exact PySem.W.make_core (PySem.W.makes_of X hm) (PySem.W.looks_findIn X hi) (λself=>PySem.W.bind_fn X self hf) (.inl rfl) h
end
def kL(f:Str)(v:V):List (Str×V)->List (Str×V)
 |[]=>[(f,v)]
 |(g,x)::r=>if g=f then(g,v)::r else(g,x)::kL f v r
theorem vg(f g:Str)(v:V):∀fs:List (Str×V),(kL f v fs).lookup g=if g=f then some v else fs.lookup g
 |[]=>by
  show List.lookup g [(f,v)]=_
  by_cases h:g=f
  ·have hb:(g==f)=true:=beq_iff_eq.mpr h
   simp only [List.lookup,hb,if_pos h]
  ·have hb:(g==f)=false:=beq_eq_false_iff_ne.mpr h
   simp only [List.lookup,hb,if_neg h]
 |(k,x)::r=>by
  have ih:=vg f g v r
  rw[show kL f v ((k,x)::r)=(if k=f then(k,v)::r else(k,x)::kL f v r)from rfl]
  by_cases hk:k=f
  ·rw[if_pos hk]
   by_cases h:g=k
   ·have hb:(g==k)=true:=beq_iff_eq.mpr h
    simp only [List.lookup,hb,if_pos (h.trans hk)]
   ·have hb:(g==k)=false:=beq_eq_false_iff_ne.mpr h
    simp only [List.lookup,hb,if_neg (λe:g=f=>h (e.trans hk.symm))]
  ·rw[if_neg hk]
   by_cases h:g=k
   ·have hb:(g==k)=true:=beq_iff_eq.mpr h
    simp only [List.lookup,hb,if_neg (λe:g=f=>hk (h.symm.trans e))]
   ·have hb:(g==k)=false:=beq_eq_false_iff_ne.mpr h
    simp only [List.lookup,hb]
    exact ih
theorem uj(f:Str)(v:V):∀fs:List (Str×V),f∈(kL f v fs).map (·.1)/\∀g,g∈fs.map (·.1)->g∈(kL f v fs).map (·.1)
 |[]=>⟨by simp[kL],λg h=>by simp at h⟩
 |(k,x)::r=>by
  obtain⟨i1,i2⟩:=uj f v r
  rw[show kL f v ((k,x)::r)=(if k=f then(k,v)::r else(k,x)::kL f v r)from rfl]
  by_cases hk:k=f
  ·rw[if_pos hk]
   subst hk
   exact⟨by simp,λg h=>by simpa using h⟩
  ·rw[if_neg hk]
   refine⟨?_,λg h=>?_⟩
   ·rw[map_cons]
    exact mem_cons_of_mem _ i1
   ·rw[map_cons]at h⊢
    rcases mem_cons.mp h with e|e
    ·exact mem_cons.mpr (.inl e)
    ·exact mem_cons_of_mem _ (i2 g e)
theorem vh(f:Str)(v:V):∀fs:List (Str×V),(kL f v fs).length<=fs.length+1
 |[]=>by simp[kL]
 |(k,x)::r=>by
  have ih:=vh f v r
  rw[show kL f v ((k,x)::r)=(if k=f then(k,v)::r else(k,x)::kL f v r)from rfl]
  by_cases hk:k=f
  ·rw[if_pos hk,length_cons,length_cons];lia
  ·rw[if_neg hk,length_cons,length_cons];lia
theorem pe.some_of {v:V}{o:Option Value}(r:pe (some v) o):∃u,o=some u/\RelV v u:=by
 cases o with
 |none=>exact(show False from r).elim
 |some u=>exact⟨u,rfl,r⟩
theorem pe.none_of {o:Option Value}(r:pe none o):o=none:=by
 cases o with
 |none=>rfl
 |some u=>exact(show False from r).elim
theorem GV{v:V}{u:Value}(r:RelV v u):handedIn u=true:=by
 cases v with
 |non=>cases (show u=Value.none from r);rfl
 |bl b=>cases (show u=Value.bool b from r);rfl
 |int i=>obtain⟨t,e⟩:=(show∃t,u=Value.int i t from r);cases e;rfl
 |str x=>obtain⟨t,e⟩:=(show∃t,u=Value.str x t from r);cases e;rfl
 |Ic b=>obtain⟨t,e⟩:=(show∃t,u=Value.bytes b t from r);cases e;rfl
 |R3 b=>obtain⟨t,e⟩:=(show∃t,u=Value.float b t from r);cases e;rfl
 |ref a=>cases (show u=Value.ref a from r);rfl
 |ty n=>cases (show u=Value.type n from r);rfl
section
variable{P:Program}{w:World}{H H':Hp}{h h':Heap}{a C dx:Addr}{fs fs':List (Str×V)}
theorem wj(hok:qR P w H h)(e:H a=some (.ins C dx fs)):∃mA,C1 h a dx C mA/\(∀f,pe (fs.lookup f) (mA f))/\PySem.Within mA (fs.map (·.1))/\fs.length<=1000/\H dx=some (.own a):=by
 obtain⟨d,z,ne,ob,mA,n,r,q⟩:=(show dF P w H h a (.ins C dx fs)from hok a _ e)
 exact⟨mA,⟨ob,n,ne⟩,r,q,z,d⟩
end
structure IQ(K:PySem.W.Frag)(C:Addr):Prop where
 pg:plainGet K C Str.empty=true
 hd:hasDictIn K C=true
 po:plainOver K C=true
 sa:findIn K (.ref C) "__setattr__"=some (some (.builtin "object.__setattr__"))
theorem IQ.get {K:PySem.W.Frag}{C:Addr}(c:IQ K C)(f:Str):plainGet K C f=true:=c.pg
def gq(K:PySem.W.Frag)(C:Addr)(f:Str):Prop:=findIn K (.ref C) f=some none
theorem gq.Wg {K:PySem.W.Frag}{C:Addr}{f:Str}(n:gq K C f):takerIn K C f=some none:=by
 unfold takerIn
 rw[show findIn K (.ref C) f=some none from n]
 rfl
structure Meth(K:PySem.W.Frag)(C:Addr)(m:Str)(f:Addr):Prop where
 at_:findIn K (.ref C) m=some (some (.ref f))
 fn:isFn K (.ref f)=true
 kp:keepIn K (.ref f)=true
section
variable{X:Cx}{pins:List (Addr×Obj)}{σ:St}{H:Hp}{s:Shared}{a C dx:Addr}{fs:List (Str×V)}{f:Str}{v:V}{A:Around}{E:Value->Shared->Prop}
theorem C2{b:Bool}{Q:Value->Shared->Prop}(I:Inv X pins σ H s)(e:H a=some (.ins C dx fs))(c:IQ X.K C)(n:gq X.K C f)(l:fs.lookup f=some v)
  (h:∀u s',Inv X pins σ H s'->RelV v u->Q u s'):wpAny (model X.prog X.w) A (getAttr (.ref a) f b) Q E s:=by
 obtain⟨mA,O,r,_,_,_⟩:=wj I.hok e
 obtain⟨u,hu,ru⟩:=pe.some_of (v:=v) (o:=mA f) (by rw[<-l];exact r f)
 exact get_map I.ue O (c.get f) c.hd n hu (GV ru) (h u _ (I.tok _) ru)
theorem w6{m:Str}{g:Addr}{pl:Sem Bool}{Q:Value×List Value->Shared->Prop}(I:Inv X pins σ H s)(e:H a=some (.ins C dx fs))(c:IQ X.K C)(k:Meth X.K C m g)(l:fs.lookup m=none)
  (h:Q (.ref g,[.ref a]) s):wpAny (model X.prog X.w) A (getMethod (.ref a) m pl) Q E s:=by
 obtain⟨mA,O,r,_,_,_⟩:=wj I.hok e
 have hn:mA m=none:=pe.none_of (by rw[<-l];exact r m)
 exact IM I.ue O (c.get m) k.at_ k.fn hn h
theorem C3{y:V}{u:Value}{Q:Unit->Shared->Prop}(I:Inv X pins σ H s)(e:H a=some (.ins C dx fs))(c:IQ X.K C)(n:gq X.K C f)(hl:fs.length<1000)(ry:RelV y u)
  (h:∀s',Inv X pins σ (upd H a (.ins C dx (kL f y fs))) s'->Q () s'):wpAny (model X.prog X.w) A (setAttr (.ref a) f u) Q E s:=by
 obtain⟨mA,O,r,wi,_,ho⟩:=wj I.hok e
 have hz:(fs.map (·.1)).length<=sizeLine:=by rw[length_map,sizeLine_eq];lia
 refine Nr I.ue O c.sa c.po n.Wg c.hd wi hz λh' O' sb=>h _ ?_
 have hd:∃o,h'.get? dx=some o:=let⟨o,_,_,e',_⟩:=O'.ns;⟨o,e'⟩
 refine I.write (x:=a) (e:=dx) (by rw[e];exact True.intro) (.inr ho) (λb q hb z=>(sb.2 b hb).trans z) hd ?_
 refine⟨by rw[aj O.ne];exact ho,?_,O.ne,O'.obj,_,O'.ns,λg=>?_,λg hg=>?_⟩
 ·have:=vh f y fs;lia
 ·show pe ((kL f y fs).lookup g) (if g=f then some u else mA g)
  rw[vg]
  by_cases q:g=f
  ·rw[if_pos q,if_pos q];exact ry
  ·rw[if_neg q,if_neg q];exact r g
 ·by_cases q:g=f
  ·rw[q];exact(uj f y fs).1
  ·refine(uj f y fs).2 g (wi g λz=>hg ?_)
   show(if g=f then some u else mA g)=none
   rw[if_neg q];exact z
theorem Inv.made (I:Inv X pins σ H s):Inv X pins σ (upd (upd H s.heap.objs.size (.own (s.heap.objs.size+1))) (s.heap.objs.size+1) (.ins C s.heap.objs.size []))
  {s with heap:=(s.heap.push emptyDict).push (instObj C s.heap.objs.size)}:=by
 have e1:(s.heap.push emptyDict).get? s.heap.objs.size=some emptyDict:=Heap.get?_push_size s.heap rfl
 have e2:((s.heap.push emptyDict).push (instObj C s.heap.objs.size)).get? (s.heap.objs.size+1)=some (instObj C s.heap.objs.size):=by
  have:=Heap.get?_push_size (s.heap.push emptyDict) (o:=instObj C s.heap.objs.size) rfl
  rwa [Heap.size_push]at this
 have e3:(s.heap.push emptyDict).Ns s.heap.objs.size (λ_=>none):=⟨emptyDict,#[],_,e1,rfl,(λe he=>absurd he (by simp)),λ_=>rfl⟩
 have I1:=I.laid (a:=s.heap.objs.size) (o:=.own (s.heap.objs.size+1)) (h':=s.heap.push emptyDict) (t':=s.toks) (λb u q=>Heap.get?_push_of_some _ q) (Nat.le_refl _) ⟨_,e1⟩
 refine I1.laid (a:=s.heap.objs.size+1) (o:=.ins C s.heap.objs.size []) (t':=s.toks) (λb u q=>Heap.get?_push_of_some _ q) (le_of_eq (Heap.size_push _ _)) ?_
 have ne:s.heap.objs.size≠s.heap.objs.size+1:=ne_of_lt (Nat.lt_succ_self _)
 refine⟨by rw[aj ne,au],zero_le _,ne,e2,λ_=>none,(Heap.Ns1.of_empty e3).at λo q=>Heap.get?_push_of_some _ q,λ_=>True.intro,λy hy=>absurd rfl hy⟩
theorem Nt{prog:Program}{w:World}{env:Env}{e:Expr}{f:Str}{pos:Pos}{s:Shared}{Q:Value->Shared->Prop}(hb:attributeBase e f env (eval e env)=eval e env)
  (h:wpAny (model prog w) A (eval e env) (λo s₁=>wpAny (model prog w) A (getAttr o f true) Q E s₁) E s):wpAny (model prog w) A (eval (.Attribute e f pos) env) Q E s:=
 Attribute_any_ h (by rw[arm_eval_Attribute,hb])
end
def Wh(K:PySem.W.Frag)(ta:TE)(f:Str):TE:=λσ H Q=>ta σ H λx H1=>∃a C dx fs v,x=.ref a/\H1 a=some (.ins C dx fs)/\IQ K C/\gq K C f/\fs.lookup f=some v/\Q v H1
def ZL(K:PySem.W.Frag)(ta tv:TE)(f:Str):TS:=λD σ H=>tv σ H λy H1=>ta σ H1 λx H2=>∃a C dx fs,x=.ref a/\H2 a=some (.ins C dx fs)/\IQ K C/\gq K C f/\fs.length<1000/\
 D.nx σ (upd H2 a (.ins C dx (kL f y fs)))
section
variable{X:Cx}{o e value:Expr}{f:Str}{pos pos' ZM:Pos}{ta tv:TE}
theorem bK(he:PE X e ta)(hb:attributeBase e f X.env (eval e X.env)=eval e X.env):PE X (.Attribute e f pos) (Wh X.K ta f):=by
 intro pins s σ H Q I h
 refine Nt hb (cM (he pins s σ H _ I h) λu s1 ⟨x,H1,I1,rx,a,C,dx,fs,v,ex,ea,c,n,l,q⟩=>?_)
 subst ex
 obtain rfl:u=Value.ref a:=rx
 exact C2 I1 ea c n l λu' s2 I2 ru=>⟨v,H1,I2,ru,q⟩
theorem mC(ha:PE X o ta)(hv:PE X value tv)(hs:swapsWith value (some (.Attribute o f pos')) pos.line X.env=pure false):PS X (.Assign [.Attribute o f pos'] value pos) (ZL X.K ta tv f):=by
 intro pins s σ H D I h
 refine plainObj_wpAny_Assign_Attribute (cM (hv pins s σ H _ I h) λu s1 ⟨y,H1,I1,ry,q⟩=>cM (ha pins s1 σ H1 _ I1 q) λov s2 ⟨x,H2,I2,rx,a,C,dx,fs,ex,ea,c,n,l,q2⟩=>?_) hs
 subst ex
 obtain rfl:ov=Value.ref a:=rx
 exact C3 I2 ea c n l ry λs3 I3=>⟨σ,_,I3,q2⟩
end
section
variable{X:Cx}{pins:List (Addr×Obj)}{σ:St}{H:Hp}{s:Shared}{A:Around}{E:Value->Shared->Prop}{Q:Value->Shared->Prop}{c:Value}{b:Bool}
inductive vH (K:PySem.W.Frag) (H:Hp):V->Value->Prop where
 |non:vH K H .non (.type "NoneType")
 |bl (x:Bool):vH K H (.bl x) (.type "bool")
 |int (i:Int):vH K H (.int i) (.type "int")
 |str (x:Str):vH K H (.str x) (.type "str")
 |R3 (x:UInt64):vH K H (.R3 x) (.type "float")
 |lst {a:Addr} {xs:List V} (e:H a=some (.lst xs)):vH K H (.ref a) (.type "list")
 |yx {a:Addr} {o:Obj} {xs:List V} (e:H a=some (.yx o (.lst xs))):vH K H (.ref a) (.type "list")
 |tup {a:Addr} {xs:List V} (e:H a=some (.tup xs)):vH K H (.ref a) (.type "tuple")
 |dK {a:Addr} {kvs:List (Key×V)} (e:H a=some (.dK kvs)):vH K H (.ref a) (.type "dict")
 |dT {a:Addr} {kvs:List (List Key×V)} (e:H a=some (.dT kvs)):vH K H (.ref a) (.type "dict")
 |ins {a C dx:Addr} {fs:List (Str×V)} (e:H a=some (.ins C dx fs)) (cl:IQ K C) (ha:findIn K (.ref C) "__class__"=some (some (.builtin "object.__class__")))
   (hn:PySem.W.specialIn K (.builtin "object.__class__") "__get__"=some (some (.builtin "getset_descriptor.__get__"))) (htk:PySem.W.takesIn K (.builtin "object.__class__")=some true)
   (hm:mroIn K C (.type "object")=some true):vH K H (.ref a) (.ref C)
theorem qv{x:V}{u t:Value}(I:Inv X pins σ H s)(rx:RelV x u)(ty:vH X.K H x t)(e:kitOne X.K t c=some b)(h:∀tk,Q (.bool b) {s with toks:=tk}):
  wpAny (model X.prog X.w) A (call (.builtin "isinstance") [u,c]) Q E s:=by
 cases ty with
 |non=>cases (show u=Value.none from rx);exact kia_one PySem.W.kitx_none I.ue True.intro e (λz=>nomatch z) h
 |bl y=>cases (show u=Value.bool y from rx);exact kia_one PySem.W.kitx_bool I.ue True.intro e (λz=>nomatch z) h
 |int i=>obtain⟨t,q⟩:=(show∃t,u=Value.int i t from rx);cases q;exact kia_one PySem.W.kitx_int I.ue True.intro e (λz=>nomatch z) h
 |str y=>obtain⟨t,q⟩:=(show∃t,u=Value.str y t from rx);cases q;exact kia_one PySem.W.kitx_str I.ue True.intro e (λz=>nomatch z) h
 |R3 y=>obtain⟨t,q⟩:=(show∃t,u=Value.float y t from rx);cases q;exact kia_one PySem.W.kitx_float I.ue True.intro e (λz=>nomatch z) h
 | @lst a xs ea=>
  cases (show u=Value.ref a from rx)
  obtain⟨_,_,n,_,h1⟩:=(show dF X.prog X.w H s.heap a (.lst xs)from I.hok a _ ea)
  exact kia_one kitx_list I.ue ⟨_,h1,rfl⟩ e (λz=>nomatch z) h
 | @yx a ob xs ea=>
  cases (show u=Value.ref a from rx)
  obtain⟨_,_,_,n,_,h1⟩:=(show dF X.prog X.w H s.heap a (.yx ob (.lst xs))from I.hok a _ ea)
  exact kia_one kitx_list I.ue ⟨_,h1,rfl⟩ e (λz=>nomatch z) h
 | @tup a xs ea=>
  cases (show u=Value.ref a from rx)
  obtain⟨_,_,_,p⟩:=(show dF X.prog X.w H s.heap a (.tup xs)from I.hok a _ ea)
  obtain⟨o,h1,h2,_⟩:=p
  exact kia_one kitx_tuple I.ue ⟨o,h1,h2⟩ e (λz=>nomatch z) h
 | @dK a kvs ea=>
  cases (show u=Value.ref a from rx)
  obtain⟨_,_,vs,_,p⟩:=(show dF X.prog X.w H s.heap a (.dK kvs)from I.hok a _ ea)
  obtain⟨o,es,ep,h1,h2,_⟩:=p
  exact kia_one kitx_dict I.ue ⟨o,h1,h2.1⟩ e (λz=>nomatch z) h
 | @dT a kvs ea=>
  cases (show u=Value.ref a from rx)
  obtain⟨_,_,xs,_,o,es,ep,h1,h2,_⟩:=(show dF X.prog X.w H s.heap a (.dT kvs)from I.hok a _ ea)
  exact kia_one kitx_dict I.ue ⟨o,h1,h2.1⟩ e (λz=>nomatch z) h
 | @ins a C dx fs ea cl ha hn htk hm=>
  cases (show u=Value.ref a from rx)
  obtain⟨mA,O,_⟩:=wj I.hok ea
  obtain⟨od,J,_⟩:=O.look
  exact kia_one (PySem.W.kitx_own (cl.get _) cl.hd ha hn htk hm) I.ue J e (λz=>nomatch z) h
end
end L2
namespace L2
open PySem PySem.Spec PyProof.Rows
structure bh(k:Nat)(A:Around):Prop where
 hd:A.handled=none
 dp:A.depth+3*k+5<recursionLimit
 un:A.units+16*k+200<cLine
theorem bh.mono {j k:Nat}{A:Around}(r:bh k A)(h:j<=k):bh j A:=⟨r.hd,by have:=r.dp;lia,by have:=r.un;lia⟩
theorem bh.deeper {k:Nat}{A:Around}(r:bh (k+1) A)(env:Env):bh k (A.deeper env):=
 ⟨r.hd,by have:=r.dp;show A.depth+1+3*k+5<_;lia,by have:=r.un;show A.units+3+16*k+200<_;lia⟩
theorem C4{A:Around}{C:Addr}{us:List Value}{kw:List (Str×Value)}:(A.under (.builtin "type.__call__" ⟨.ref C::us,kw⟩)).depth=A.depth+1:=by
 first|rfl|simp[Around.under,Code.weight,Code.isCreation,Code.isGuard,Code.isCaller,Code.frames,Code.isFrame,guardIds]
theorem C5{A:Around}{C:Addr}{us:List Value}{kw:List (Str×Value)}:(A.under (.builtin "type.__call__" ⟨.ref C::us,kw⟩)).units=A.units+1:=by
 first|rfl|simp[Around.under,Code.cUnits,Code.frames,Code.isFrame]
theorem bh.make {k:Nat}{A:Around}(r:bh (k+1) A)(C:Addr)(us:List Value)(kw:List (Str×Value)):bh k (A.under (.builtin "type.__call__" ⟨.ref C::us,kw⟩)):=
 ⟨r.hd,by have:=r.dp;rw[C4];lia,by have:=r.un;rw[C5];lia⟩
theorem bh.depth {k:Nat}{A:Around}(r:bh k A):A.depth<recursionLimit:=by have:=r.dp;lia
theorem bh.units {k:Nat}{A:Around}(r:bh k A):A.units+64<cLine:=by have:=r.un;lia
def SG:TA:=λ_ H Q=>Q [] H
def Qe(ta:TE)(tr:TA):TA:=λσ H Q=>ta σ H λx H1=>tr σ H1 λxs H2=>Q (x::xs) H2
section
variable{X:Cx}{e:Expr}{es:List Expr}{te:TE}{t:TA}{pos:Pos}
theorem aP:PA X [] SG:=λ_ _ _ _ H Q I h=>Calls.spliced_nil ⟨[],H,I,.nil,h⟩
theorem aD(ha:PE X e te)(hr:PA X es t)(hs:starEach (e::es) X.env=(false,eval e X.env)::starEach es X.env:=by rfl):PA X (e::es) (Qe te t):=by
 intro pos pins s σ H Q I h
 rw[hs]
 show wpAny _ _ (spliced ((false,eval e X.env)::backTo pos (starEach es X.env))) _ _ s
 refine Calls.spliced_cons (cM (ha pins s σ H _ I h) λu s1 ⟨x,H1,I1,r1,q1⟩=>?_)
 exact cM (hr pos pins s1 σ H1 _ I1 q1) λus s2 ⟨xs,H2,I2,r2,q2⟩=>⟨x::xs,H2,I2,.cons r1 r2,q2⟩
def ZN(t:TA):TE:=λσ H Q=>t σ H λxs H1=>xs.length<=sizeLine/\∀p,H1 p=none->Q (.ref p) (upd H1 p (.tup xs))
def ZO(t:TA):TE:=λσ H Q=>t σ H λxs H1=>xs.length<=sizeLine/\∀p,H1 p=none->Q (.ref p) (upd H1 p (.lst xs))
theorem uk{x1}(h:PA X es t):PE X (.Tuple es x1 pos) (ZN t):=by
 intro pins s σ H Q I hq
 refine wpAny_Tuple_spliced (cM (h pos pins s σ H _ I hq) λus s1 ⟨xs,H1,I1,r,z,q⟩=>⟨by rw[<-r.length];exact z,?_⟩)
 have hf:H1 s1.heap.objs.size=none:=I1.hok.fresh (Nat.le_refl _)
 refine⟨.ref s1.heap.objs.size,upd H1 s1.heap.objs.size (.tup xs),I1.laid (t':=s1.toks) (λb u e=>Heap.get?_push_of_some _ e) (Nat.le_refl _) ?_,rfl,q _ hf⟩
 exact⟨z,us,r,⟨_,Heap.get?_push_size _ rfl,rfl,_,rfl⟩⟩
theorem um(h:PA X es t):PE X (.List es pos) (ZO t):=by
 intro pins s σ H Q I hq
 refine wpAny_List_spliced (cM (h pos pins s σ H _ I hq) λus s1 ⟨xs,H1,I1,r,z,q⟩=>⟨by rw[<-r.length];exact z,?_⟩)
 have hf:H1 s1.heap.objs.size=none:=I1.hok.fresh (Nat.le_refl _)
 refine⟨.ref s1.heap.objs.size,upd H1 s1.heap.objs.size (.lst xs),I1.laid (t':=s1.toks) (λb u e=>Heap.get?_push_of_some _ e) (Nat.le_refl _) ?_,rfl,q _ hf⟩
 exact⟨z,us,0,r,Heap.get?_push_size _ rfl⟩
end
abbrev Sp:=List V->Hp->VK->XK->Prop
abbrev Ie:=List Env->Hp->Shared->XK->Value->Shared->Prop
structure C6(P:Program)(w:World)(K:PySem.W.Frag)(mg:Str->Option Value)(base:Heap)(A:Around)(outer:List Env)(s:Shared)(H:Hp):Prop where
 frames:A.frames=some outer
 mod:Mod K mg base
 bs:∀b o,base.get? b=some o->s.heap.get? b=some o/\H b=none
 MF:base.objs.size<=s.heap.objs.size
 ud:s.heap.FunFrames base outer
 P9:∀b∈CL outer,H b=none
 hok:qR P w H s.heap
 bare:AllBare s.gens
def CE(outer:List Env)(P:Program)(w:World)(H:Hp)(s:Shared)(Q:VK)(u:Value)(s':Shared):Prop:=
 ∃v H',s'.os=s.os/\AllBare s'.gens/\Un (CL outer) [] H H' s.heap s'.heap/\qR P w H' s'.heap/\RelV v u/\Q v H'
def CR(CX:Ie)(outer:List Env)(P:Program)(w:World)(H:Hp)(s:Shared)(Q:VK)(E:XK)(r:Result)(s':Shared):Prop:=
 match r with
 |.ok (.ret u)=>CE outer P w H s Q u s'
 |.ok _=>False
 |.error e=>CX outer H s E e s'
structure cO(P:Program)(w:World)(K:PySem.W.Frag)(mg:Str->Option Value)(base:Heap)(CX:Ie)(k:Nat)(f:Addr)(fd:FuncData)(ps:List Str)(sp:Sp):Prop where
 len:∀vs H Q E,sp vs H Q E->vs.length=ps.length
 run:∀(A:Around)(outer:List Env)(s:Shared)(H:Hp)(args:Args)(us:List Value)(vs:List V)(Q:VK)(E:XK),bh k A->C6 P w K mg base A outer s H->BindsTo s fd args (ps.zip us)->Vals vs us->sp vs H Q E->
  codeAny (model P w) A (.call (.ref f) args) (CR CX outer P w H s Q E) s
theorem C6.make {P:Program}{w:World}{K:PySem.W.Frag}{mg:Str->Option Value}{base:Heap}{A:Around}{outer:List Env}{s:Shared}{H:Hp}(e:C6 P w K mg base A outer s H)(C:Addr)(us:List Value)(kw:List (Str×Value)):
  C6 P w K mg base (A.under (.builtin "type.__call__" ⟨.ref C::us,kw⟩)) outer s H:=⟨by first|exact e.frames|(simpa[Around.under,Code.envs,Code.isFrame,pushEnvs]using e.frames),e.mod,e.bs,e.MF,e.ud,e.P9,e.hok,e.bare⟩
section
variable{X:Cx}{pins:List (Addr×Obj)}{σ:St}{H:Hp}{s s':Shared}
theorem Inv.Wi (I:Inv X pins σ H s):C6 X.prog X.w X.K X.mg X.base X.A X.stack s H:=
 ⟨I.ok.frames,I.ok.mod,I.bs,le_trans I.ok.MF I.sz,I.stack,I.Em,I.hok,I.bare⟩
theorem Inv.after {Q:VK}{u:Value}(I:Inv X pins σ H s)(h:CE X.stack X.prog X.w H s Q u s'):EP X pins σ Q u s':=by
 obtain⟨v,H',os,bare,un,hok,r,q⟩:=h
 obtain⟨hh,g,d,t,jN⟩:=s'
 obtain rfl:jN=s.os:=os
 exact⟨v,H',I.call (h':=hh) (g':=g) (d':=d) (t':=t) (ch:=[]) un hok bare (λb z=>absurd z (by simp)),r,q⟩
end
def Wj(sp:Sp)(yz:List V)(E:XK)(t:TA):TE:=λσ H Q=>t σ H λvs H1=>sp (vs++yz) H1 Q E
def Qf(C:Addr)(m:Str)(sp:Sp)(yz:List V)(E:XK)(ta:TE)(t:TA):TE:=λσ H Q=>ta σ H λx H1=>∃a dx fs,x=.ref a/\H1 a=some (.ins C dx fs)/\fs.lookup m=none/\
 t σ H1 λvs H2=>sp (x::(vs++yz)) H2 Q E
def Wk(C:Addr)(sp:Sp)(yz:List V)(E:XK)(t:TA):TE:=λσ H Q=>t σ H λvs H1=>∀x dx,H1 x=none->H1 dx=none->dx≠x->
 sp (.ref x::(vs++yz)) (upd (upd H1 dx (.own x)) x (.ins C dx [])) (λv H2=>v=.non/\Q (.ref x) H2) E
def Binds(K:PySem.W.Frag)(fd:FuncData)(ps:List Str)(ds:List Value):Prop:=
 ∀(s:Shared)(us:List Value),K.In s.heap->(us++ds).length=ps.length->BindsTo s fd ⟨us,[]⟩ (ps.zip (us++ds))
theorem Binds.all {K:PySem.W.Frag}{fd:FuncData}{ps:List Str}(h:∀us:List Value,us.length=ps.length->bindArgs fd ⟨us,[]⟩=pure (ps.zip us)):Binds K fd ps []:=λs us _ hl=>by
 rw[append_nil]at hl⊢
 exact .of_eq (h us hl)
def Passes(CX:Ie)(X:Cx)(E:XK):Prop:=∀(pins:List (Addr×Obj))(σ:St)(H:Hp)(s:Shared)(e:Value)(s':Shared),Inv X pins σ H s->CX X.stack H s E e s'->X.xe e s'
section
variable{X:Cx}{CX:Ie}{k:Nat}{f C:Addr}{fd:FuncData}{ps:List Str}{sp:Sp}{yz:List V}{ds:List Value}{E:XK}{x m:Str}{p pos apos:Pos}{e o:Expr}{es:List Expr}{ta:TE}{t:TA}
theorem C7{pins:List (Addr×Obj)}{σ:St}{H:Hp}{s:Shared}{Q:VK}{us:List Value}{vs:List V}(F:cO X.prog X.w X.K X.mg X.base CX k f fd ps sp)(hr:bh k X.A)(hb:Binds X.K fd ps ds)(hd:Vals yz ds)(hx:Passes CX X E)
  (I:Inv X pins σ H s)(r:Vals vs us)(h:sp (vs++yz) H Q E):wpAny (model X.prog X.w) X.A (call (.ref f) us) (EP X pins σ Q) X.xe s:=by
 have r2:Vals (vs++yz) (us++ds):=r.append hd
 have hl:(us++ds).length=ps.length:=by rw[<-r2.length];exact F.len _ _ _ _ h
 refine wpAny_call (codeAny_mono (F.run X.A X.stack s H ⟨us,[]⟩ (us++ds) (vs++yz) Q E hr I.Wi (hb s us I.ue hl) r2 h) λr s' hq=>?_)
 cases r with
 |error e=>exact hx pins σ H s e s' I hq
 |ok fl=>
  cases fl with
  |ret u=>exact I.after hq
  |next=>exact False.elim hq
  |brk=>exact False.elim hq
  |cont=>exact False.elim hq
theorem fq(F:cO X.prog X.w X.K X.mg X.base CX k f fd ps sp)(hr:bh k X.A)(hg:Gl X x)(hm:X.mg x=some (.ref f))(hk:keepIn X.K (.ref f)=true)(hb:Binds X.K fd ps ds)(hd:Vals yz ds)(hx:Passes CX X E)
  (ha:PA X (e::es) t)(hdb:(x==("__debug__":Str))=false:=by decide)(he:starEach (e::es) X.env=(false,eval e X.env)::starEach es X.env:=by rfl)(hpl:(backTo pos (starEach es X.env)).any (·.1)=false:=by rfl):
  PE X (.Call (.Name x p) (e::es) [] pos) (Wj sp yz E t):=by
 intro pins s σ H Q I h
 refine wpAny_Call_Name_kw (zU I hg hm ?_ hdb)
 refine callWith_K (h₀:=X.base) I.ok.mod.VV hk (cM (ha pos pins s σ H _ I h) λus s1 ⟨vs,H1,I1,r,q⟩=>⟨I1.ue,?_⟩) he hpl
 exact C7 F hr hb hd hx I1 r q
theorem jl{pl:Sem Bool}(he:PE X o ta)(c:IQ X.K C)(hm:Meth X.K C m f)(F:cO X.prog X.w X.K X.mg X.base CX k f fd ps sp)(hr:bh k X.A)(hb:Binds X.K fd ps ds)(hd:Vals yz ds)(hx:Passes CX X E)(ha:PA X (e::es) t)
  (hst:starEach (e::es) X.env=(false,eval e X.env)::starEach es X.env:=by rfl)(hpl:(backTo pos (starEach es X.env)).any (·.1)=false:=by rfl)
  (ht:eval (.Call (.Attribute o m apos) (e::es) [] pos) X.env=(do
   let ov<-eval o X.env
   standAt apos.atName
   let(f,first)<-holding [ov] (getMethod ov m pl)
   callWith pos f first (backTo pos (starEach (e::es) X.env)) (backToKw pos (keywordEach [] X.env))):=by rfl):
  PE X (.Call (.Attribute o m apos) (e::es) [] pos) (Qf C m sp yz E ta t):=by
 intro pins s σ H Q I h
 refine methodCall_KW (pl:=pl) (cM (he pins s σ H _ I h) λu s1 ⟨x,H1,I1,rx,a,dx,fs,ex,ea,l,q⟩=>?_) ht
 subst ex
 obtain rfl:u=Value.ref a:=rx
 refine w6 I1 ea c hm l ?_
 refine callWith_K (first:=[.ref a]) (h₀:=X.base) I.ok.mod.VV hm.kp (cM (ha pos pins s1 σ H1 _ I1 q) λus s2 ⟨vs,H2,I2,r,q2⟩=>⟨I2.ue,?_⟩) hst hpl
 exact C7 (us:=.ref a::us) (vs:=.ref a::vs) F hr hb hd hx I2 (.cons rfl r) q2
theorem IS{pl:Sem Bool}(he:PE X o ta)(c:IQ X.K C)(hm:Meth X.K C m f)(F:cO X.prog X.w X.K X.mg X.base CX k f fd ps sp)(hr:bh k X.A)(hb:Binds X.K fd ps ds)(hd:Vals yz ds)(hx:Passes CX X E)
  (ht:eval (.Call (.Attribute o m apos) [] [] pos) X.env=(do
   let ov<-eval o X.env
   standAt apos.atName
   let(f,first)<-holding [ov] (getMethod ov m pl)
   callWith pos f first (backTo pos (starEach [] X.env)) (backToKw pos (keywordEach [] X.env))):=by rfl):
  PE X (.Call (.Attribute o m apos) [] [] pos) (Qf C m sp yz E ta SG):=by
 intro pins s σ H Q I h
 refine methodCall_KW (pl:=pl) (cM (he pins s σ H _ I h) λu s1 ⟨x,H1,I1,rx,a,dx,fs,ex,ea,l,q⟩=>?_) ht
 subst ex
 obtain rfl:u=Value.ref a:=rx
 refine w6 I1 ea c hm l ?_
 exact PySem.W.callWith_K0 (first:=[.ref a]) I1.ue hm.kp (C7 (us:=[.ref a]) (vs:=[.ref a]) F hr hb hd hx I1 (.cons rfl .nil) q)
structure Mk(K:PySem.W.Frag)(C f:Addr):Prop where
 makes:makesIn K C=true
 init:findIn K (.ref C) "__init__"=some (some (.ref f))
 fn:isFn K (.ref f)=true
 kp:keepIn K (.ref C)=true
theorem IU{pins:List (Addr×Obj)}{σ:St}{H:Hp}{s:Shared}{Q:VK}{us:List Value}{vs:List V}(M:Mk X.K C f)(F:cO X.prog X.w X.K X.mg X.base CX k f fd ps sp)(hr:bh (k+1) X.A)(hb:Binds X.K fd ps ds)(hd:Vals yz ds)
  (hx:Passes CX X E)(I:Inv X pins σ H s)(r:Vals vs us)
  (h:∀x dx,H x=none->H dx=none->dx≠x->sp (.ref x::(vs++yz)) (upd (upd H dx (.own x)) x (.ins C dx [])) (λv H2=>v=.non/\Q (.ref x) H2) E):
  wpAny (model X.prog X.w) X.A (call (.ref C) us) (EP X pins σ Q) X.xe s:=by
 have hq:=h (s.heap.objs.size+1) s.heap.objs.size (I.hok.fresh (Nat.le_succ _)) (I.hok.fresh (Nat.le_refl _)) (ne_of_lt (Nat.lt_succ_self _))
 have I2:=Inv.made (C:=C) I
 have r2:Vals (V.ref (s.heap.objs.size+1)::(vs++yz)) (Value.ref (s.heap.objs.size+1)::(us++ds)):=.cons rfl (r.append hd)
 have hl:(Value.ref (s.heap.objs.size+1)::us++ds).length=ps.length:=by
  have e:=r2.length
  rw[F.len _ _ _ _ hq]at e
  exact e.symm
 refine wpAny_call (IP (f:=f) I.ue M.makes M.init (beq_iff_eq.mp M.fn) (codeAny_mono (F.run _ X.stack _ _ ⟨Value.ref (s.heap.objs.size+1)::us,[]⟩ (Value.ref (s.heap.objs.size+1)::(us++ds)) _ _ E (hr.make C us [])
  (I2.Wi.make C us []) (hb _ (Value.ref (s.heap.objs.size+1)::us) I2.ue hl) r2 hq) λr s' C8=>?_))
 cases r with
 |error e=>exact hx pins σ _ _ e s' I2 C8
 |ok fl=>
  cases fl with
  |ret u=>
   obtain⟨v,H',I3,rv,ev,q3⟩:=I2.after C8
   subst ev
   exact⟨rv,⟨V.ref (s.heap.objs.size+1),H',I3,rfl,q3⟩⟩
  |next=>exact False.elim C8
  |brk=>exact False.elim C8
  |cont=>exact False.elim C8
theorem Nu(M:Mk X.K C f)(F:cO X.prog X.w X.K X.mg X.base CX k f fd ps sp)(hr:bh (k+1) X.A)(hg:Gl X x)(hm:X.mg x=some (.ref C))(hb:Binds X.K fd ps ds)(hd:Vals yz ds)(hx:Passes CX X E)
  (ha:PA X (e::es) t)(hdb:(x==("__debug__":Str))=false:=by decide)(he:starEach (e::es) X.env=(false,eval e X.env)::starEach es X.env:=by rfl)(hpl:(backTo pos (starEach es X.env)).any (·.1)=false:=by rfl):
  PE X (.Call (.Name x p) (e::es) [] pos) (Wk C sp yz E t):=by
 intro pins s σ H Q I h
 refine wpAny_Call_Name_kw (zU I hg hm ?_ hdb)
 refine callWith_K (h₀:=X.base) I.ok.mod.VV M.kp (cM (ha pos pins s σ H _ I h) λus s1 ⟨vs,H1,I1,r,q⟩=>⟨I1.ue,?_⟩) he hpl
 exact IU M F hr hb hd hx I1 r q
end
structure aC(N P:List Str)(sc:Scope):Prop where
 kind:sc.kind=.function
 co:sc.isCoroutine=false
 gen:sc.isGenerator=false
 nd:N.Nodup
 pre:N.take P.length=P
 par:∀x∈P,sc.names.lookup x=some .local\/sc.names.lookup x=some .cell
 SH:∀y∈sc.names,y.2≠.free
theorem y4{kindOf:Str->Option NameKind}{x:Str}:∀{binds:List (Str×Value)}{m:Str->Option Value},(∀v,(x,v)∉binds)->bindL kindOf binds m x=m x
 |[],_,_=>rfl
 |(n,v)::r,m,h=>by
  unfold bindL
  rw[y4 λw hw=>h w (mem_cons_of_mem _ hw)]
  split
  ·have:x≠n:=by rintro rfl;exact h v mem_cons_self
   simp[this]
  ·rfl
theorem y6{kindOf:Str->Option NameKind}{x:Str}:∀{binds:List (Str×Value)}{m:Str->Option Value},(∀v,(x,v)∉binds)->bindC kindOf binds m x=m x
 |[],_,_=>rfl
 |(n,v)::r,m,h=>by
  unfold bindC
  rw[y6 λw hw=>h w (mem_cons_of_mem _ hw)]
  split
  ·rfl
  ·have:x≠n:=by rintro rfl;exact h v mem_cons_self
   simp[this]
theorem y7{kindOf:Str->Option NameKind}{x:Str}{v:Value}:∀{P:List Str}{vs:List Value}{i:Nat}{m:Str->Option Value},P.Nodup->P[i]?=some x->vs[i]?=some v->kindOf x=some .local->
  bindL kindOf (P.zip vs) m x=some v
 |[],_,_,_,_,h,_,_=>by simp at h
 |_::_,[],_,_,_,_,h,_=>by simp at h
 |p::P,w::vs,0,m,nd,h1,h2,hk=>by
  simp at h1 h2;subst h1;subst h2
  show bindL kindOf ((p,w)::P.zip vs) m p=_
  unfold bindL
  rw[y4 λv hv=>(nodup_cons.mp nd).1 (of_mem_zip hv).1,if_pos hk]
  simp
 |p::P,w::vs,i+1,m,nd,h1,h2,hk=>by
  show bindL kindOf ((p,w)::P.zip vs) m x=_
  unfold bindL
  exact y7 (i:=i) (nodup_cons.mp nd).2 (by simpa using h1) (by simpa using h2) hk
theorem y8{kindOf:Str->Option NameKind}{x:Str}{v:Value}:∀{P:List Str}{vs:List Value}{i:Nat}{m:Str->Option Value},P.Nodup->P[i]?=some x->vs[i]?=some v->kindOf x≠some .local->
  bindC kindOf (P.zip vs) m x=some v
 |[],_,_,_,_,h,_,_=>by simp at h
 |_::_,[],_,_,_,_,h,_=>by simp at h
 |p::P,w::vs,0,m,nd,h1,h2,hk=>by
  simp at h1 h2;subst h1;subst h2
  show bindC kindOf ((p,w)::P.zip vs) m p=_
  unfold bindC
  rw[y6 λv hv=>(nodup_cons.mp nd).1 (of_mem_zip hv).1,if_neg hk]
  simp
 |p::P,w::vs,i+1,m,nd,h1,h2,hk=>by
  show bindC kindOf ((p,w)::P.zip vs) m x=_
  unfold bindC
  exact y8 (i:=i) (nodup_cons.mp nd).2 (by simpa using h1) (by simpa using h2) hk
def start(N:List Str)(vs:List V):St:=vs.map some++replicate (N.length-vs.length) none
noncomputable def qT(CX:Ie)(P:Program)(w:World)(K:PySem.W.Frag)(mg:Str->Option Value)(base:Heap)(N:List Str)(qual:Str)(scope:Scope)(f:Addr)(cd:Value)(A:Around)(outer:List Env)(s:Shared)(H:Hp)(E:XK):Cx where
 prog:=P
 w:=w
 K:=K
 mg:=mg
 base:=base
 A:=A.deeper (envOfC qual scope s.heap.objs.size f cd)
 N:=N
 s₀:=s
 H₀:=H
 env:=envOfC qual scope s.heap.objs.size f cd
 outer:=outer
 stack:=envOfC qual scope s.heap.objs.size f cd::outer
 ex:=[]
 calm:=true
 fn:=λ_=>true
 pn:=[]
 xe:=λe s'=>wpAny (model P w) (A.deeper (envOfC qual scope s.heap.objs.size f cd)) (leaving (envOfC qual scope s.heap.objs.size f cd) e) (λ_ ZP=>CX outer H s E e ZP) (λe' ZP=>CX outer H s E e' ZP) s'
theorem Be{sc:Scope}{n:Nat}{x:Str}(h:sc.names.lookup x=some .cell):∃c,(cellsFrom n sc.names []).lookup x=some c:=by
 have q:=cellsFrom_some sc.names n [] (.inl h)
 exact Option.isSome_iff_exists.mp q
theorem GW{CX:Ie}{P:Program}{w:World}{K:PySem.W.Frag}{mg:Str->Option Value}{base:Heap}{N ps:List Str}{qual:Str}{scope:Scope}{f:Addr}{cd:Value}{A:Around}{outer:List Env}{s s1:Shared}{H:Hp}{E:XK}{us:List Value}{vs:List V}
  (S:aC N ps scope)(hd:A.handled=none)(e0:C6 P w K mg base A outer s H)(hl:vs.length=ps.length)(r:Vals vs us)
  (x:InCallC s s.heap.objs.size (bindL (envOfC qual scope s.heap.objs.size f cd).kindOf (ps.zip us) λ_=>none) (cellsFrom (s.heap.objs.size+1) scope.names []) (bindC (envOfC qual scope s.heap.objs.size f cd).kindOf (ps.zip us) λ_=>none) s1):
  Inv (qT CX P w K mg base N qual scope f cd A outer s H E) [] (start N vs) H s1:=by
 have hpl:ps.length<=N.length:=by have:=congrArg length S.pre;rw[length_take]at this;lia
 obtain⟨h1,tk,rfl,hk⟩:=x.done
 have Wl:∀b:Addr,b∉(qT CX P w K mg base N qual scope f cd A outer s H E).ex:=λb z=>absurd (show b∈([]:List Addr)from z) (by simp)
 refine⟨⟨e0.mod,S.kind,rfl,rfl,Nat.le_refl _,λy z c h1 h2=>?_,λy hy=>?_,λy c _ h=>?_,λ_=>hd,Around.frames_deeper e0.frames,.inr ⟨rfl,rfl⟩,λb z=>absurd z (Wl b),e0.bs,e0.MF,λb _ _=>Wl b,λb z=>absurd z (Wl b),e0.ud,e0.P9⟩,
  rfl,e0.bare,Un.kept hk,⟨_,x.toInCall.ns,λi y v h1 h2 h3=>?_⟩,λy c h=>⟨_,x.cell y c h⟩,e0.hok.fresh (Nat.le_refl _),λy c h=>?_,λp hp=>absurd (show p∈([]:List (Addr×Obj))from hp) (by simp),e0.hok.kept hk,?_⟩
 ·exact name_of_addr x.apart (PySem.mem_of_lookup h1) (PySem.mem_of_lookup h2)
 ·have hy:scope.names.lookup y=some .cell\/scope.names.lookup y=some .free:=hy
  rcases hy with hy|hy
  ·exact Be hy
  ·exact absurd rfl (S.SH _ (PySem.mem_of_lookup hy))
 ·exact Nat.le_of_lt (x.above y c (PySem.mem_of_lookup h))
 ·have hi:i<vs.length:=by
   unfold start at h2
   by_cases hi:i<vs.length
   ·exact hi
   ·rw[getElem?_append_right (by simpa using hi)]at h2
    rw[getElem?_replicate]at h2
    split at h2<;>cases h2
  have ha:vs[i]?=some v:=by
   unfold start at h2
   rw[getElem?_append_left (by simpa using hi),getElem?_map]at h2
   cases e:vs[i]? with
   |none=>rw[e]at h2;cases h2
   |some a=>rw[e]at h2;cases h2;rfl
  obtain⟨u,hu,rv⟩:=r.get ha
  have hp:ps[i]?=some y:=by
   rw[<-S.pre,List.getElem?_take_of_lt (by lia)];exact h1
  have ndP:ps.Nodup:=by rw[<-S.pre];exact S.nd.sublist (List.take_sublist _ _)
  refine⟨u,rv,?_⟩
  rcases S.par y (mem_of_getElem? hp)with k|k
  ·exact .inl ⟨k,y7 ndP hp hu k⟩
  ·obtain⟨c,e⟩:=Be (n:=s.heap.objs.size+1) k
   refine .inr ⟨.inl k,c,e,?_⟩
   have q:=x.cell y c e
   rw[y8 ndP hp hu (by show scope.names.lookup y≠_;rw[k];decide)]at q
   exact q
 ·exact e0.hok.fresh (Nat.le_of_lt (x.above y c (PySem.mem_of_lookup h)))
 ·unfold start
  show _=N.length
  rw[length_append,length_map,length_replicate]
  lia
theorem Wm{CX:Ie}{P:Program}{w:World}{K:PySem.W.Frag}{mg:Str->Option Value}{base:Heap}{k:Nat}{f:Addr}{name qual:Str}{params:Arguments}{body:List Stmt}{scope:Scope}{dV kV doc pm cdv ct oc:Value}{an od:Option Addr}
  {Ig:Array (Option Value)}{N ps:List Str}{sp:Sp}(lk:K.lookup f=some ⟨oc,od,.func (PySem.W.fnOf name qual params body scope dV kV doc pm an cdv ct),Ig⟩)(hcd:codeIn K cdv qual=true)(S:aC N ps scope)
  (len:∀vs H Q E,sp vs H Q E->vs.length=ps.length)
  (hbody:∀(A:Around)(outer:List Env)(s:Shared)(H:Hp)(vs:List V)(Q:VK)(E:XK),bh k (A.deeper (envOfC qual scope s.heap.objs.size f cdv))->sp vs H Q E->
   ∃t,q8 (qT CX P w K mg base N qual scope f cdv A outer s H E) body t/\t {nx:=λ_ H'=>Q .non H',rt:=Q} (start N vs) H):
  cO P w K mg base CX (k+1) f (PySem.W.fnOf name qual params body scope dV kV doc pm an cdv ct) ps sp:=by
 refine⟨len,λA outer s H args us vs Q E hr e0 hb r yA=>?_⟩
 have hl:=len _ _ _ _ yA
 have KX:K.In s.heap:=e0.mod.VV.keeps λb o e=>(e0.bs b o e).1
 have lim:s.heap.NoLimit:=e0.mod.nolimit.keeps λb o e=>(e0.bs b o e).1
 have hkind:∀y∈ps.zip us,scope.names.lookup y.1=some .local\/(scope.names.lookup y.1=some .cell/\((cellsFrom (s.heap.objs.size+1) scope.names []).lookup y.1).isSome=true):=λ⟨n,v⟩ hy=>by
  rcases S.par n (of_mem_zip hy).1 with q|q
  ·exact .inl q
  ·exact .inr ⟨q,cellsFrom_some _ _ _ (.inl q)⟩
 refine codeAny_call_function hr.depth (KX _ _ lk) rfl S.co S.gen rfl (PySem.W.codeRec_of KX hcd) (hb _ _ _ _ ?_)
 refine wpAny_newFunctionEnv_cells S.kind hkind λenv he s1 x=>?_
 subst he
 refine⟨lim.keeps x.toInCall.keep,codeAny_func ?_⟩
 obtain⟨t,ht,hq⟩:=hbody A outer s H vs Q E (hr.deeper _) yA
 have I:Inv (qT CX P w K mg base N qual scope f cdv A outer s H E) [] (start N vs) H s1:=GW S hr.hd e0 hl r x
 refine wpAny_mono (ht [] s1 (start N vs) H _ I hq) (λfl s' hs=>?_) λe s' hs=>hs
 have fin:∀{σ':St}{H':Hp}{v:V}{u:Value},Inv (qT CX P w K mg base N qual scope f cdv A outer s H E) [] σ' H' s'->RelV v u->Q v H'->CE outer P w H s Q u s':=
  λ{σ' H' v u} J rv q=>⟨v,H',J.os,J.bare,J.base,J.hok,rv,q⟩
 cases fl with
 |ret u=>
  obtain⟨v,σ',H',J,rv,q⟩:=hs
  exact fin J rv q
 |next=>
  obtain⟨σ',H',J,q⟩:=hs
  exact fin (v:=V.non) (u:=Value.none) J rfl q
 |brk=>
  obtain⟨_,_,_,q⟩:=hs
  exact False.elim q
 |cont=>
  obtain⟨_,_,_,q⟩:=hs
  exact False.elim q
end L2
namespace L2
open PySem PySem.Spec PyProof.Rows
section
variable{X:Cx}{x:Str}{p pos:Pos}{e:Expr}{es:List Expr}{t:TA}{id T:String}{r:List V->Hp->VK->Prop}
def ZQ(r:List V->Hp->VK->Prop)(t:TA):TE:=λσ H Q=>t σ H λvs H1=>r vs H1 Q
theorem kM(hc:q9 X (.builtin id) r)(hg:Gl X x)(hm:X.mg x=none)(hv:bootBuiltins x=some (.builtin id))(ha:PA X (e::es) t)(hn:x≠"__name__":=by decide)(hdb:(x==("__debug__":Str))=false:=by decide)
  (he:starEach (e::es) X.env=(false,eval e X.env)::starEach es X.env:=by rfl)(hpl:(backTo pos (starEach es X.env)).any (·.1)=false:=by rfl):PE X (.Call (.Name x p) (e::es) [] pos) (ZQ r t):=by
 intro pins s σ H Q I h
 refine wpAny_Call_Name_kw (kJ I hg hm hv ?_ hn hdb)
 exact PyProof.Rows.callWith_builtin1 (cM (ha pos pins s σ H _ I h) λus s1 ⟨vs,H1,I1,r1,q1⟩=>hc pins s1 σ H1 vs us Q I1 r1 q1) he hpl
theorem qw(hc:q9 X (.type T) r)(hg:Gl X x)(hm:X.mg x=none)(hv:bootBuiltins x=some (.type T))(ha:PA X (e::es) t)(hn:x≠"__name__":=by decide)(hdb:(x==("__debug__":Str))=false:=by decide)
  (he:starEach (e::es) X.env=(false,eval e X.env)::starEach es X.env:=by rfl)(hpl:(backTo pos (starEach es X.env)).any (·.1)=false:=by rfl):PE X (.Call (.Name x p) (e::es) [] pos) (ZQ r t):=by
 intro pins s σ H Q I h
 refine wpAny_Call_Name_kw (kJ I hg hm hv ?_ hn hdb)
 exact PyProof.Rows.callWith_type1 (cM (ha pos pins s σ H _ I h) λus s1 ⟨vs,H1,I1,r1,q1⟩=>hc pins s1 σ H1 vs us Q I1 r1 q1) he hpl
end
end L2
namespace HT
open PySem PyProof.Rows
section
open PySem.SeqAt
open PySem.AutoSeq1 (wpAny_loadPart')
open PySem.MeetsSeq PySem.MeetsSeq2 PySem.MeetsSeq3
end
section
variable{prog:Program}{w:World}{A:Around}{E:Value->Shared->Prop}{s:Shared}
def w9(n d:Nat):Option Int->Nat
 |none=>d
 |some v=>if v<0 then(v+(n:Int)).toNat else min v.toNat n
theorem pJ(n d:Nat):w9 n d none=d:=rfl
theorem j9(n d k:Nat):w9 n d (some (k:Int))=min k n:=by
 show(if(k:Int)<0 then((k:Int)+(n:Int)).toNat else min (k:Int).toNat n)=min k n
 rw[if_neg (by lia),toNat_natCast]
end
end HT
namespace L2
open PySem PySem.Spec PyProof.Rows
abbrev TO:=St->Hp->(Option Int->Hp->Prop)->Prop
def PO(X:Cx)(e:Option Expr)(t:TO):Prop:=
 ∀(pins:List (Addr×Obj))(s:Shared)(σ:St)(H:Hp)(Q:Option Int->Hp->Prop),Inv X pins σ H s->t σ H Q->
  wpAny (model X.prog X.w) X.A (evalPart e X.env) (λu s'=>∃o H',Inv X pins σ H' s'/\IsPart u o/\Q o H') X.xe s
def Nv:TO:=λ_ H Q=>Q none H
def Wn(t:TE):TO:=λσ H Q=>t σ H λx H1=>∃i,x=.int i/\Q (some i) H1
theorem intsAre_of{ns:List Int}:∀{us:List Value},Vals (ns.map V.int) us->IntsAre us ns:=by
 induction ns with
 |nil=>intro us r;rw[map_nil]at r;cases r;exact .nil
 |cons n ns ih=>
  intro us r
  rw[map_cons]at r
  cases r with
  |cons r1 r2=>
   obtain⟨t,e⟩:=r1
   subst e
   exact .cons n t (ih r2)
section
variable{X:Cx}{e:Expr}{te:TE}{lo hi:Option Expr}{tl th:TO}{pos p2:Pos}
theorem Es:PO X none Nv:=by
 intro pins s σ H Q I h
 rw[evalPart_none]
 exact wpAny_pure ⟨none,H,I,.none,h⟩
theorem Et(h:PE X e te):PO X (some e) (Wn te):=by
 intro pins s σ H Q I hw
 rw[evalPart_some]
 refine cM (h pins s σ H _ I hw) λu s1 ⟨x,H1,I1,r1,q1⟩=>?_
 obtain⟨i,rfl,q⟩:=q1
 obtain⟨t,rfl⟩:=r1
 exact⟨some i,H1,I1,.int i t,q⟩
noncomputable def SlR(X:Cx)(r:V->Option Int->Option Int->Hp->VK->Prop):Prop:=
 ∀(pins:List (Addr×Obj))(s:Shared)(σ:St)(H:Hp)(x:V)(v vl vu:Value)(lo hi:Option Int)(sl:Addr)(Q:VK),Inv X pins σ H s->RelV x v->s.heap.IsSliceOf sl vl vu .none->IsPart vl lo->IsPart vu hi->r x lo hi H Q->
  ∃T id,typeLookup (.type T) "__getitem__"=pure (some (.builtin id))/\s.TypeIs v T/\wpAny (model X.prog X.w) X.A (getItem v (.ref sl)) (EP X pins σ Q) X.xe s
def tSl(r:V->Option Int->Option Int->Hp->VK->Prop)(te:TE)(tl th:TO):TE:=λσ H Q=>te σ H λx H1=>tl σ H1 λl H2=>th σ H2 λu H3=>r x l u H3 Q
theorem Bf{r:V->Option Int->Option Int->Hp->VK->Prop}(hr:SlR X r)(he:PE X e te)(hl:PO X lo tl)(hu:PO X hi th):PE X (.Subscript e (.Slice lo hi none p2) pos) (tSl r te tl th):=by
 intro pins s σ H Q I h
 refine Subscript_ (cM (he pins s σ H _ I h) λv s1 ⟨x,H1,I1,r1,q1⟩=>?_)
 refine wpAny_Slice (cM (hl pins s1 σ H1 _ I1 q1) λvl s2 ⟨l,H2,I2,pl,q2⟩=>cM (hu pins s2 σ H2 _ I2 q2) λvu s3 ⟨u,H3,I3,pu,q3⟩=>?_)
 rw[evalPart_none]
 refine wpAny_pure ?_
 have I4:Inv X pins σ H3 {s3 with heap:=s3.heap.push {cls:=.type "slice",data:=.fields #[vl,vu,.none]}}:=I3.kept (t':=s3.toks) λb ob q=>Heap.get?_push_of_some _ q
 obtain⟨T,id,hT,ht,hg⟩:=hr pins {s3 with heap:=s3.heap.push {cls:=.type "slice",data:=.fields #[vl,vu,.none]}} σ H3 x v vl vu l u s3.heap.objs.size Q I4 r1 (Heap.IsSliceOf.new ..) pl pu q3
 show wpAny (model X.prog X.w) X.A (subscriptTail e (.Slice lo hi none p2) v (.ref s3.heap.objs.size)) (EP X pins σ Q) X.xe {s3 with heap:=s3.heap.push {cls:=.type "slice",data:=.fields #[vl,vu,.none]}}
 exact tail_any (ops:=[.ref s3.heap.objs.size,v]) ht hT hg (by with_unfolding_all rfl)
def yB(xs:List V)(lo hi:Option Int):List V:=(xs.drop (HT.w9 xs.length 0 lo)).take (HT.w9 xs.length xs.length hi-HT.w9 xs.length 0 lo)
theorem Bg(xs:List V)(lo hi:Option Int):(yB xs lo hi).length<=xs.length:=by
 unfold yB
 rw[length_take,length_drop]
 lia
end
end L2
namespace L2
open PySem PySem.Spec PyProof.Rows
def rR(n:Nat)(i:Int):Option Nat:=if 0<=i then(if i<n then some i.toNat else none)else if-(n:Int)<=i then some (i+n).toNat else none
def i6{α:Type}(xs:List α)(i:Int):Option α:=(rR xs.length i).bind λj=>xs[j]?
theorem Eu{n:Nat}{i:Int}{j:Nat}(h:rR n i=some j):seqIndex? i n=some j/\j<n/\ -(n:Int)<=i/\i<n:=by
 unfold rR at h
 by_cases h0:0<=i
 ·rw[if_pos h0]at h
  by_cases h1:i<n
  ·rw[if_pos h1]at h
   have e:i.toNat=j:=Option.some.inj h
   exact⟨by rw[seqIndex_of h0 h1,e],by lia,by lia,h1⟩
  ·rw[if_neg h1]at h;cases h
 ·rw[if_neg h0]at h
  by_cases h1: -(n:Int)<=i
  ·rw[if_pos h1]at h
   have e:(i+n).toNat=j:=Option.some.inj h
   exact⟨by rw[seqIndex_neg (by lia) h1,e],by lia,h1,by lia⟩
  ·rw[if_neg h1]at h;cases h
theorem zW{α:Type}{xs:List α}{i:Int}{v:α}(h:i6 xs i=some v):∃j,seqIndex? i xs.length=some j/\xs[j]?=some v/\j<xs.length/\ -(xs.length:Int)<=i/\i<xs.length:=by
 unfold i6 at h
 cases e:rR xs.length i with
 |none=>rw[e]at h;cases h
 |some j=>
  rw[e]at h
  obtain⟨h1,h2,h3,h4⟩:=Eu e
  exact⟨j,h1,h,h2,h3,h4⟩
theorem jm{α:Type}{xs:List α}{j:Nat}{v:α}(h:xs[j]?=some v):i6 xs (j:Int)=some v:=by
 have hj:j<xs.length:=(List.getElem?_eq_some_iff.mp h).1
 have e:rR xs.length (j:Int)=some j:=by
  unfold rR
  rw[if_pos (by lia),if_pos (by lia)];simp
 unfold i6;rw[e];exact h
theorem xf{α:Type}(xs:List α)(v:α):i6 (xs++[v]) (-1)=some v:=by
 have hl:(xs++[v]).length=xs.length+1:=by simp
 have e:rR (xs++[v]).length (-1)=some xs.length:=by
  unfold rR
  rw[hl,if_neg (by decide),if_pos (by lia)]
  congr 1
  lia
 unfold i6
 rw[e]
 show(xs++[v])[xs.length]?=some v
 simp
def wk(b:Expr):Prop:=∀o i,subscripted b false o i=operate [o,i] (getItem o i)
noncomputable def Nx(X:Cx)(r:R2):Prop:=
 ∀(value slice:Expr)(pins:List (Addr×Obj))(s:Shared)(σ:St)(H:Hp)(x y:V)(v u:Value)(Q:VK),Inv X pins σ H s->RelV x v->RelV y u->r x y H Q->
  subscripted slice false v u=operate [v,u] (getItem v u)->wpAny (model X.prog X.w) X.A (subscriptTail value slice v u) (EP X pins σ Q) X.xe s
noncomputable def ZR(X:Cx)(id:String)(r:V->List V->Hp->VK->Prop):Prop:=
 ∀(pins:List (Addr×Obj))(s:Shared)(σ:St)(H:Hp)(x:V)(xs:List V)(v:Value)(us:List Value)(Q:VK),Inv X pins σ H s->RelV x v->Vals xs us->r x xs H Q->
  wpAny (model X.prog X.w) X.A (call (.builtin id) (v::us)) (EP X pins σ Q) X.xe s
section
variable{X:Cx}{a b:Expr}{ta tb:TE}{pos:Pos}
theorem Nx.or {r r':R2}(h:Nx X r)(h':Nx X r'):Nx X (λx y H Q=>r x y H Q\/r' x y H Q):=by
 intro value slice pins s σ H x y v u Q I rx ry q hs
 rcases q with q|q
 ·exact h value slice pins s σ H x y v u Q I rx ry q hs
 ·exact h' value slice pins s σ H x y v u Q I rx ry q hs
theorem i7{r:R2}(hr:Nx X r)(ha:PE X a ta)(hb:PE X b tb)(hs:wk b):PE X (.Subscript a b pos) (Wb r ta tb):=by
 intro pins s σ H Q I h
 exact Subscript_ (Sw ha hb I h λv u s2 x y H2 I2 rx ry q=>hr a b pins s2 σ H2 x y v u Q I2 rx ry q (hs _ _))
def SJ(K:PySem.W.Frag):R2:=λx y H Q=>∃p xs i v,x=.ref p/\y=.int i/\dG K H p xs/\i6 xs i=some v/\Q v H
def Wo(K:PySem.W.Frag):R2:=λx y H Q=>∃p xs i v,x=.ref p/\y=.int i/\Bc K H p xs/\i6 xs i=some v/\Q v H
def Wq:R2:=λx y H Q=>∃z i c,x=.str z/\y=.int i/\z.length<=sizeLine/\i6 z.cps.toList i=some c/\Q (.str ⟨#[c]⟩) H
theorem ed:Nx X (SJ X.K):=by
 intro value slice pins s σ H x y v u Q I rx ry h hs
 obtain⟨p,xs,i,z,rfl,rfl,hq,he,q⟩:=h
 cases rx
 obtain⟨t,rfl⟩:=ry
 obtain⟨its,r,pl,hz⟩:=I.list hq
 obtain⟨j,h1,h2,h3,h4,h5⟩:=zW he
 obtain⟨w,ew,oU⟩:=r.get h2
 have hl:=r.length
 have hn:=ui
 have fin:EP X pins σ Q w s:=⟨z,H,I,oU,q⟩
 by_cases h0:0<=i
 ·have hj:i.toNat=j:=by
   rw[seqIndex_of h0 h5]at h1
   exact Option.some.inj h1
  exact item_listR pl.isList h0 (by lia) (by rw[hj];simpa using ew) fin hs
 ·have hj:(i+(its.toArray.size:Int)).toNat=j:=by
   rw[seqIndex_neg (by lia) h4]at h1
   rw[size_toArray,<-hl]
   exact Option.some.inj h1
  exact subscriptTail_builtinR (x:=w) pl.isList.typeIs slot_list_getitem.lookup
   (wpAny_getItem_list_neg (Q:=λr s'=>r=w/\EP X pins σ Q r s') pl.isList (by lia) (by rw[size_toArray]<;>lia) (by lia) (by rw[hj];simpa using ew) ⟨rfl,fin⟩) hs
theorem zX:Nx X (Wo X.K):=by
 intro value slice pins s σ H x y v u Q I rx ry h hs
 obtain⟨p,xs,i,z,rfl,rfl,hq,he,q⟩:=h
 cases rx
 obtain⟨t,rfl⟩:=ry
 obtain⟨its,r,pl,hz⟩:=I.tuple hq
 obtain⟨j,h1,h2,h3,h4,h5⟩:=zW he
 obtain⟨w,ew,oU⟩:=r.get h2
 have hl:=r.length
 have hn:=ui
 have fin:EP X pins σ Q w s:=⟨z,H,I,oU,q⟩
 exact subscriptTail_builtinR (x:=w) pl.typeIs slot_tuple_getitem.lookup
  (getItem_tuple (j:=j) (Q:=λr s'=>r=w/\EP X pins σ Q r s') pl (by lia) (by lia) (by rw[size_toArray,<-hl];exact h1) (by simpa using ew) ⟨rfl,fin⟩) hs
theorem SK:Nx X Wq:=by
 intro value slice pins s σ H x y v u Q I rx ry h hs
 obtain⟨z,i,c,rfl,rfl,hz,he,q⟩:=h
 obtain⟨t,rfl⟩:=rx
 obtain⟨t',rfl⟩:=ry
 obtain⟨j,h1,h2,h3,h4,h5⟩:=zW he
 have hl:z.cps.toList.length=z.length:=by simp[Str.length]
 rw[hl]at h1 h4 h5
 have hn:=ui
 exact tail_any (typeIs_str s z t) slot_str_getitem.lookup (getItem_str (c:=c) (by
  have e1:decide (i< -(2^63:Int))=false:=decide_eq_false (by lia)
  have e2:decide (i>=2^63)=false:=decide_eq_false (by lia)
  rw[e1,e2,Bool.or_false]) (by rw[h1];simpa using h2) ⟨.str ⟨#[c]⟩,H,I.tok _,⟨_,rfl⟩,q⟩) hs
def rIx(K:PySem.W.Frag):R2:=λx y H Q=>SJ K x y H Q\/Wo K x y H Q\/Wq x y H Q
theorem SM:Nx X (rIx X.K):=ed.or (zX.or SK)
theorem C9(its:List Value)(n j:Nat)(u:Value):Obj.mapSeq (·.setIfInBounds j u) {cls:=.type "list",data:=.seq its.toArray n}={cls:=.type "list",data:=.seq (its.set j u).toArray n}:=by
 simp[Obj.mapSeq]
theorem Inv.lst {pins:List (Addr×Obj)}{σ:St}{H:Hp}{s:Shared}{p:Addr}{xs:List V}(I:Inv X pins σ H s)(h:H p=some (.lst xs)):
  ∃(its:List Value)(n:Nat),Vals xs its/\s.heap.get? p=some {cls:=.type "list",data:=.seq its.toArray n}/\xs.length<=sizeLine:=by
 obtain⟨z,its,n,r,e⟩:=I.hok p _ h
 exact⟨its,n,r,e,z⟩
theorem Inv.SN {pins:List (Addr×Obj)}{σ:St}{H:Hp}{s:Shared}{p:Addr}{xs ys:List V}{its its':List Value}{n n':Nat}{f:Obj->Obj}(I:Inv X pins σ H s)(h:H p=some (.lst xs))
  (ho:s.heap.get? p=some {cls:=.type "list",data:=.seq its.toArray n})(hf:f {cls:=.type "list",data:=.seq its.toArray n}={cls:=.type "list",data:=.seq its'.toArray n'})(r:Vals ys its')(hz:ys.length<=sizeLine)(t:Nat):
  Inv X pins σ (upd H p (.lst ys)) {s with heap:=s.heap.update p f,toks:=t}:=by
 have e:(s.heap.update p f).get? p=some {cls:=.type "list",data:=.seq its'.toArray n'}:=by
  rw[Heap.get?_update_self f ho (by rw[hf]<;>rfl),hf]
 refine I.write (x:=p) (e:=p) (by rw[h];trivial) (.inl rfl) (λb u hb q=>(Heap.get?_update_other _ _ (Ne.symm hb)).trans q) ⟨_,e⟩ ?_
 exact⟨hz,its',n',r,e⟩
def Wr:V->V->V->Hp->(Hp->Prop)->Prop:=λo i v H Q=>∃p xs k j,o=.ref p/\i=.int k/\H p=some (.lst xs)/\rR xs.length k=some j/\Q (upd H p (.lst (xs.set j v)))
theorem set_list:V2 X Wr:=by
 intro pins s σ H o i v ov iv u Q I ro ri rv h
 obtain⟨p,xs,k,j,rfl,rfl,hp,hj,q⟩:=h
 cases ro
 obtain⟨t,rfl⟩:=ri
 obtain⟨its,n,r,ho,hz⟩:=I.lst hp
 obtain⟨h1,h2,h3,h4⟩:=Eu hj
 have hl:=r.length
 have hn:=ui
 have I':Inv X pins σ (upd H p (.lst (xs.set j v))) {s with heap:=s.heap.update p (Obj.mapSeq (·.setIfInBounds j u))}:=
  I.SN hp ho (C9 its n j u) (r.set rv j) (by rw[length_set];exact hz) s.toks
 by_cases h0:0<=k
 ·have hk:k.toNat=j:=by
   rw[seqIndex_of h0 h4]at h1
   exact Option.some.inj h1
  exact PySem.W.ki_setAt ho h0 (by lia) (by rw[size_toArray,<-hl];exact h4) (by rw[hk];exact⟨_,I',q⟩)
 ·have hk:(k+(its.toArray.size:Int)).toNat=j:=by
   rw[seqIndex_neg (by lia) h3]at h1
   rw[size_toArray,<-hl]
   exact Option.some.inj h1
  exact PySem.W.ki_setBack ho (by lia) (by rw[size_toArray,<-hl];exact h3) (by lia) (by rw[hk];exact⟨_,I',q⟩)
theorem zY(lo hi:Option Int)(n:Nat):(sliceBounds lo hi none n).1=((HT.w9 n 0 lo:Nat):Int)/\(sliceBounds lo hi none n).2.1=((HT.w9 n n hi:Nat):Int)/\(sliceBounds lo hi none n).2.2=1:=by
 refine⟨?_,?_,rfl⟩
 ·cases lo with
  |none=>simp[sliceBounds,HT.w9]
  |some i=>
   simp only [sliceBounds,HT.w9,getD_none,show(1:Int)>0 by decide,if_true]
   by_cases h:i<0
   ·simp only [h,if_true]<;>lia
   ·simp only [h,if_false]<;>lia
 ·cases hi with
  |none=>simp[sliceBounds,HT.w9]
  |some i=>
   simp only [sliceBounds,HT.w9,getD_none,show(1:Int)>0 by decide,if_true]
   by_cases h:i<0
   ·simp only [h,if_true]<;>lia
   ·simp only [h,if_false]<;>lia
theorem yD(its:List Value)(lo hi:Option Int):slicePick its.toArray lo hi none=((its.drop (HT.w9 its.length 0 lo)).take (HT.w9 its.length its.length hi-HT.w9 its.length 0 lo)).toArray:=by
 obtain⟨h1,h2,h3⟩:=zY lo hi its.toArray.size
 unfold slicePick
 rw[h1,h2,h3]
 simp only [sliceRange_one,pick_run,size_toArray]<;>rfl
def ZS(K:PySem.W.Frag):V->Option Int->Option Int->Hp->VK->Prop:=λx lo hi H Q=>∃a xs,x=.ref a/\dG K H a xs/\∀p,H p=none->Q (.ref p) (upd H p (.lst (yB xs lo hi)))
theorem Ew:SlR X (ZS X.K):=by
 intro pins s σ H x v vl vu lo hi sl Q I rx hs pl pu h
 obtain⟨a,xs,rfl,hx,q⟩:=h
 cases rx
 obtain⟨its,r,ht,hz⟩:=I.list hx
 have hlen:=r.length
 refine⟨"list",_,slot_list_getitem.lookup,ht.isList.typeIs,?_⟩
 refine wpAny_getItem_list_slice ht.isList hs pl pu .none (by simp) ?_ (by rw[size_toArray]<;>lia)
 rw[yD,<-hlen]
 refine⟨.ref s.heap.objs.size,_,I.laid (t':=s.toks) (o:=.lst (yB xs lo hi)) (λb ob q=>Heap.get?_push_of_some _ q) (Nat.le_refl _) ?_,rfl,q _ (I.hok.fresh (Nat.le_refl _))⟩
 exact⟨le_trans (Bg xs lo hi) hz,_,0,(r.drop (HT.w9 xs.length 0 lo)).take (HT.w9 xs.length xs.length hi-HT.w9 xs.length 0 lo),Heap.get?_push_size _ rfl⟩
theorem nR:q9 X (.builtin "len") (λxs H Q=>∃p ys,xs=[.ref p]/\(dG X.K H p ys\/Bc X.K H p ys)/\Q (.int ys.length) H):=by
 intro pins s σ H xs us Q I r h
 obtain⟨p,ys,rfl,hq,q⟩:=h
 obtain⟨u,rfl,rx⟩:=vals1 r
 cases rx
 have hn:=ui
 rcases hq with hq|hq
 ·obtain⟨its,r',pl,hz⟩:=I.list hq
  have hlen:=r'.length
  exact Calls.call_len_list pl.isList (by simp only [size_toArray]<;>lia) ⟨.int ys.length,H,I.tok _,⟨s.toks+1,by rw[size_toArray,hlen]⟩,q⟩
 ·obtain⟨its,r',pl,hz⟩:=I.tuple hq
  have hlen:=r'.length
  exact len_tuple pl (by simp only [size_toArray]<;>lia) ⟨.int ys.length,H,I.tok _,⟨s.toks+1,by rw[size_toArray,hlen]⟩,q⟩
theorem nS:q9 X (.type "list") (λxs H Q=>∃p ys,xs=[.ref p]/\(dG X.K H p ys\/Bc X.K H p ys)/\∀l,H l=none->Q (.ref l) (upd H l (.lst ys))):=by
 intro pins s σ H xs us Q I r h
 obtain⟨p,ys,rfl,hq,q⟩:=h
 obtain⟨u,rfl,rx⟩:=vals1 r
 cases rx
 have fin:∀(its:List Value),Vals ys its->ys.length<=sizeLine->∀(h':Heap)(c':Nat),(∀b o',s.heap.get? b=some o'->h'.get? b=some o')->
   h'.get? s.heap.objs.size=some {cls:=.type "list",dict:=none,data:=.seq its.toArray c',slots:=#[]}->EP X pins σ Q (.ref s.heap.objs.size) {s with heap:=h'}:=λits r' hz h' c' kp e=>
  ⟨.ref s.heap.objs.size,_,I.laid (t':=s.toks) kp (Nat.le_refl _) (show dF X.prog X.w _ h' _ (.lst ys)from⟨hz,its,c',r',e⟩),rfl,q _ (I.hok.fresh (Nat.le_refl _))⟩
 rcases hq with hq|hq
 ·obtain⟨its,r',pl,hz⟩:=I.list hq
  have hlen:=r'.length
  obtain⟨o,ho,hc,n,hd⟩:=pl.isList
  exact call_list_seq p (.inl rfl) ho hc hd (λh' c' kp e=>fin its r' hz h' c' kp e) (by simp only [size_toArray]<;>lia)
 ·obtain⟨its,r',pl,hz⟩:=I.tuple hq
  have hlen:=r'.length
  obtain⟨o,ho,hc,n,hd⟩:=pl
  exact call_list_seq p (.inr rfl) ho hc hd (λh' c' kp e=>fin its r' hz h' c' kp e) (by simp only [size_toArray]<;>lia)
theorem yE:q9 X (.type "tuple") (λxs H Q=>∃p ys,xs=[.ref p]/\((dG X.K H p ys/\∀l,H l=none->Q (.ref l) (upd H l (.tup ys)))\/(Bc X.K H p ys/\Q (.ref p) H))):=by
 intro pins s σ H xs us Q I r h
 obtain⟨p,ys,rfl,h⟩:=h
 obtain⟨u,rfl,rx⟩:=vals1 r
 cases rx
 rcases h with⟨hq,q⟩|⟨hq,q⟩
 ·obtain⟨its,r',pl,hz⟩:=I.list hq
  have hlen:=r'.length
  refine call_tuple_list pl.isList (λh' kp=>?_) (by simp only [size_toArray]<;>lia)
  have I1:Inv X pins σ H {s with heap:=h'}:=I.kept (t':=s.toks) kp
  have I2:Inv X pins σ (upd H h'.objs.size (.tup ys)) {s with heap:=h'.push {cls:=.type "tuple",data:=.seq its.toArray}}:=
   I1.laid (t':=s.toks) (λb o e=>Heap.get?_push_of_some _ e) (Nat.le_refl _) (show dF X.prog X.w _ _ _ (.tup ys)from⟨hz,its,r',IsTup.new _ _⟩)
  exact⟨.ref h'.objs.size,_,I2,rfl,q _ (I1.hok.fresh (Nat.le_refl _))⟩
 ·obtain⟨its,r',pl,hz⟩:=I.tuple hq
  exact call_tuple_same pl ⟨.ref p,H,I,rfl,q⟩
noncomputable def ZT(K:PySem.W.Frag)(T:String)(x:V)(H:Hp):Prop:=match x with
 |.str _=>T="str"
 |.int _=>T="int"
 |.ref p=>(T="list"/\∃xs,dG K H p xs)\/(T="tuple"/\∃o,K.lookup p=some o/\o.cls=.type "tuple"/\o.dict=none)\/
   (T="dict"/\((∃kvs,H p=some (.dK kvs))\/∃kvs,H p=some (.dT kvs)))\/(T="set"/\∃S n,H p=some (.set S n))
 |_=>False
theorem IV{pins:List (Addr×Obj)}{σ:St}{H:Hp}{s:Shared}{T:String}{x:V}{v:Value}(I:Inv X pins σ H s)(r:RelV x v)(ty:ZT X.K T x H):
  s.TypeIs v T/\∀a,v=.ref a->∃ob,s.heap.get? a=some ob/\ob.dict=none:=by
 cases x with
 |str z=>
  obtain⟨t,rfl⟩:=r
  cases (show T="str" from ty)
  exact⟨typeIs_str s z t,λ_ e=>nomatch e⟩
 |int i=>
  obtain⟨t,rfl⟩:=r
  cases (show T="int" from ty)
  exact⟨typeIs_int s i t,λ_ e=>nomatch e⟩
 |ref p=>
  cases r
  rcases ty with⟨rfl,xs,hq⟩|⟨rfl,o,hk,hc,hd⟩|⟨rfl,hk⟩|⟨rfl,S,n,hk⟩
  ·obtain⟨its,_,pl,_⟩:=I.list hq
   refine⟨pl.isList.typeIs,λa e=>?_⟩
   cases e
   obtain⟨o,n,e,c,hd,_⟩:=pl
   exact⟨o,e,hd⟩
  ·refine⟨⟨o,I.ue p o hk,hc⟩,λa e=>?_⟩
   cases e
   exact⟨o,I.ue _ o hk,hd⟩
  ·have z:∃o,s.heap.get? p=some o/\o.ExactDict:=by
    rcases hk with⟨kvs,hk⟩|⟨kvs,hk⟩
    ·obtain⟨_,_,_,_,o,_,_,e,ex,_⟩:=I.hok p _ hk
     exact⟨o,e,ex⟩
    ·obtain⟨_,_,_,_,o,_,_,e,ex,_⟩:=I.hok p _ hk
     exact⟨o,e,ex⟩
   obtain⟨o,e,ex⟩:=z
   refine⟨⟨o,e,ex.1⟩,λa e2=>?_⟩
   cases e2
   exact⟨o,e,ex.2.1⟩
  ·obtain⟨o,_,_,_,e,ex,_⟩:=I.hok p _ hk
   refine⟨⟨o,e,ex.1⟩,λa e2=>?_⟩
   cases e2
   exact⟨o,e,ex.2.1⟩
 |_=>exact False.elim ty
def ZU(K:PySem.W.Frag)(T:String)(r:V->List V->Hp->VK->Prop)(to:TE):TE:=λσ H Q=>to σ H λx H1=>ZT K T x H1/\r x [] H1 Q
def tBM(K:PySem.W.Frag)(T:String)(r:V->List V->Hp->VK->Prop)(to:TE)(t:TA):TE:=λσ H Q=>to σ H λx H1=>ZT K T x H1/\t σ H1 λxs H2=>r x xs H2 Q
variable{o e:Expr}{es:List Expr}{to:TE}{t:TA}{name:Str}{apos bV:Pos}{T id:String}{r:V->List V->Hp->VK->Prop}
theorem zZ(pa:PlainAttrs T)(slot:Slot T name id)(hty:typeOf (.builtin id)=pure (.type "method_descriptor"))(hm:ZR X id r)(ho:PE X o to)
  (hbase:attributeBase o name X.env (eval o X.env)=eval o X.env:=by rfl)(hline:(apos.endLine==bV.line)=true:=by rfl):PE X (.Call (.Attribute o name apos) [] [] bV) (ZU X.K T r to):=by
 intro pins s σ H Q I h
 refine wpAny_Call_method0_late hbase hline (cM (ho pins s σ H _ I h) λv s1 ⟨x,H1,I1,r1,ty,q1⟩=>?_)
 obtain⟨h1,h2⟩:=IV I1 r1 ty
 exact⟨T,id,pa,slot,hty,h1,h2,Calls.callWith_builtin rfl (PySem.evalArgs_none (hm pins s1 σ H1 x [] v [] Q I1 r1 .nil q1))⟩
theorem xg(pa:PlainAttrs T)(slot:Slot T name id)(hty:typeOf (.builtin id)=pure (.type "method_descriptor"))(hm:ZR X id r)(ho:PE X o to)(ha:PA X (e::es) t)
  (hbase:attributeBase o name X.env (eval o X.env)=eval o X.env:=by rfl)
  (hfew:((backTo bV (starEach (e::es) X.env)).all (λx=> !x.1)&&(backToKw bV (keywordEach [] X.env)).all (λx=>x.1.isSome)
   &&decide ((e::es).length+([]:List Keyword).length+(if([]:List Keyword).isEmpty then 0 else 1)<30))=true:=by rfl)
  (hline:(apos.endLine==bV.line)=true:=by rfl)(hs:starEach (e::es) X.env=(false,eval e X.env)::starEach es X.env:=by rfl)(hplain:(backTo bV (starEach es X.env)).any (·.1)=false:=by rfl):
  PE X (.Call (.Attribute o name apos) (e::es) [] bV) (tBM X.K T r to t):=by
 intro pins s σ H Q I h
 refine wpAny_Call_method_late hbase hfew hline rfl (cM (ho pins s σ H _ I h) λv s1 ⟨x,H1,I1,r1,ty,q1⟩=>?_)
 obtain⟨h1,h2⟩:=IV I1 r1 ty
 refine⟨T,id,pa,slot,hty,h1,h2,?_⟩
 have hA:=ha bV pins s1 σ H1 _ I1 q1
 rw[hs]at hA⊢
 refine Calls.callWith_builtin (by show(false||(backTo bV (starEach es X.env)).any (·.1))=false;rw[hplain]<;>rfl) (Calls.evalArgs_plain ?_)
 exact cM hA λus s2 ⟨vs,H2,I2,r2,q2⟩=>hm pins s2 σ H2 x vs v us Q I2 r1 r2 q2
end
end L2
namespace L2
open PySem PySem.Spec PyProof.Rows
noncomputable def ZV(X:Cx)(id:String)(r:V->List V->Hp->VK->Prop):Prop:=
 ∀(pins:List (Addr×Obj))(s:Shared)(σ:St)(H:Hp)(x:V)(xs:List V)(v:Value)(us:List Value)(Q:VK),Inv X pins σ H s->RelV x v->Vals xs us->r x xs H Q->
  wpAny (model X.prog X.w) X.A (call (.builtin id) (v::us)) (EP X pins σ Q) X.xe s
theorem Vals.one:∀{x:V}{us:List Value},Vals [x] us->∃u,us=[u]/\RelV x u
 |_,_,.cons r .nil=>⟨_,rfl,r⟩
theorem Vals.zero:∀{us:List Value},Vals [] us->us=[]
 |_,.nil=>rfl
theorem Vals.dropLast {xs:List V}{us:List Value}(h:Vals xs us):Vals xs.dropLast us.dropLast:=by
 induction h with
 |nil=>exact .nil
 |cons r t ih=>
  cases t with
  |nil=>exact .nil
  |cons q t'=>exact .cons r ih
theorem Vals.reverse {xs:List V}{us:List Value}(h:Vals xs us):Vals xs.reverse us.reverse:=by
 induction h with
 |nil=>exact .nil
 |cons r t ih=>rw[reverse_cons,reverse_cons];exact Vals.append ih (.cons r .nil)
theorem Vals.rep {xs:List V}{us:List Value}(h:Vals xs us):∀k:Nat,Vals (replicate k xs).flatten (replicate k us).flatten
 |0=>.nil
 |k+1=>by
  rw[replicate_succ,replicate_succ,flatten_cons,flatten_cons]
  exact Vals.append h (Vals.rep h k)
theorem Dc{α:Type}(l:List α):l.eraseIdx (l.length-1)=l.dropLast:=by
 induction l with
 |nil=>rfl
 |cons a r ih=>
  cases r with
  |nil=>rfl
  |cons b r=>
   have e:(a::b::r).length-1=((b::r).length-1)+1:=by
    have h1:(a::b::r).length=r.length+2:=rfl
    have h2:(b::r).length=r.length+1:=rfl
    lia
   rw[e,List.eraseIdx_cons_succ,ih]
   all_goals rfl
theorem foldl_rep(its:List Value):∀(k:Nat)(acc:List Value),
  foldl (λx1 x2=>x1++x2) acc.toArray (replicate k its.toArray)=(acc++(replicate k its).flatten).toArray
 |0,acc=>by simp
 |k+1,acc=>by
  have e:acc.toArray++its.toArray=(acc++its).toArray:=by simp
  have e2:(acc++its)++(replicate k its).flatten=acc++(replicate (k+1) its).flatten:=by
   rw[replicate_succ,flatten_cons,List.append_assoc]
  rw[<-e2,<-foldl_rep its k (acc++its),<-e,replicate_succ,foldl_cons]
section
variable{X:Cx}{pins:List (Addr×Obj)}{σ:St}{H:Hp}{s:Shared}{l b:Addr}{xs ys zs:List V}
theorem Inv.SQ {its its':List Value}{n:Nat}{f:Array Value->Array Value}{t':Nat}(I:Inv X pins σ H s)(hH:H l=some (.lst xs))
  (e:s.heap.get? l=some {cls:=.type "list",data:=.seq its.toArray n})(hf:f its.toArray=its'.toArray)(hv:Vals ys its')(hz:ys.length<=sizeLine):
  Inv X pins σ (upd H l (.lst ys)) {s with heap:=s.heap.update l (Obj.mapSeq f),toks:=t'}:=by
 have q:=PySem.IsL.update e f
 rw[hf]at q
 refine I.write (x:=l) (e:=l) (by rw[hH];exact trivial) (.inl rfl) (λb' u hb hu=>(Heap.get?_update_other s.heap (Obj.mapSeq f) (Ne.symm hb)).trans hu) ⟨_,q⟩ ?_
 exact⟨hz,its',_,hv,q⟩
theorem Inv.Ws {its:List Value}{t':Nat}(I:Inv X pins σ H s)(hv:Vals ys its)(hz:ys.length<=sizeLine):
  Inv X pins σ (upd H s.heap.objs.size (.lst ys)) {s with heap:=s.heap.push {cls:=.type "list",data:=.seq its.toArray},toks:=t'}:=
 I.laid (λ_ _ q=>Heap.get?_push_of_some _ q) (Nat.le_refl _) ⟨hz,its,0,hv,Heap.get?_push_size _ rfl⟩
theorem Inv.fresh (I:Inv X pins σ H s):H s.heap.objs.size=none:=I.hok.fresh (Nat.le_refl _)
theorem Inv.Ny (I:Inv X pins σ H s)(hH:H l=some (.lst xs)):xs.length<=sizeLine/\∃(its:List Value)(n:Nat),Vals xs its/\xs.length=its.length/\s.heap.get? l=some {cls:=.type "list",data:=.seq its.toArray n}:=by
 obtain⟨z,its,n,r,e⟩:=I.hok l _ hH
 exact⟨z,its,n,r,r.length,e⟩
theorem IW{n:Nat}(h:n<=sizeLine):Builtin.List.listTooLong n=false:=by
 unfold Builtin.List.listTooLong
 exact decide_eq_false (by lia)
end
section
variable{X:Cx}
def Nz:V->List V->Hp->VK->Prop:=λx vs H Q=>∃l xs y,x=.ref l/\vs=[y]/\H l=some (.lst xs)/\xs.length<sizeLine/\Q .non (upd H l (.lst (xs++[y])))
theorem fZ:ZV X "list.append" Nz:=by
 intro pins s σ H x vs v us Q I rx rv h
 obtain⟨l,xs,y,rfl,rfl,hH,hz,q⟩:=h
 cases rx
 obtain⟨u,rfl,ru⟩:=rv.one
 obtain⟨z,its,n,r,hl,e⟩:=I.Ny hH
 refine call_meets F.slot_list_append ⟨_,e,rfl⟩ F.entry_list_append (F.args_list_append_2 _ _) (PySem.list_append l its.toArray n u (by rw[size_toArray];lia)) ⟨e,?_⟩
 refine⟨.non,_,I.SQ (its':=its++[u]) hH e (by simp) (r.append (.cons ru .nil)) ?_,rfl,q⟩
 rw[length_append,length_singleton]
 lia
def ZW:V->List V->Hp->VK->Prop:=λx vs H Q=>∃l xs y,x=.ref l/\vs=[]/\H l=some (.lst xs)/\xs[xs.length-1]?=some y/\Q y (upd H l (.lst xs.dropLast))
theorem IX:ZV X "list.pop" ZW:=by
 intro pins s σ H x vs v us Q I rx rv h
 obtain⟨l,xs,y,rfl,rfl,hH,hy,q⟩:=h
 cases rx
 have ZX:=rv.zero
 subst ZX
 obtain⟨z,its,n,r,hl,e⟩:=I.Ny hH
 obtain⟨u,hu,ru⟩:=r.get hy
 have ZY:its.toArray[its.toArray.size-1]?=some u:=by
  show its.toArray[its.length-1]?=some u
  rw[<-Array.getElem?_toList,<-hl]
  exact hu
 refine call_meets F.slot_list_pop ⟨_,e,rfl⟩ F.entry_list_pop (F.args_list_pop_1 _) (MeetsSeq.list_pop_last l its.toArray n u ZY (by rw[size_toArray];lia)) ⟨e,?_⟩
 refine⟨y,_,I.SQ (its':=its.dropLast) hH e ?_ r.dropLast ?_,ru,q⟩
 ·show its.toArray.eraseIdxIfInBounds (its.toArray.size-1)=its.dropLast.toArray
  rw[size_toArray,List.eraseIdxIfInBounds_toArray,Dc]
 ·rw[length_dropLast]
  lia
def IY:V->List V->Hp->VK->Prop:=λx vs H Q=>∃l xs,x=.ref l/\vs=[]/\H l=some (.lst xs)/\Q .non (upd H l (.lst xs.reverse))
theorem Dg:ZV X "list.reverse" IY:=by
 intro pins s σ H x vs v us Q I rx rv h
 obtain⟨l,xs,rfl,rfl,hH,q⟩:=h
 cases rx
 have ZX:=rv.zero
 subst ZX
 obtain⟨z,its,n,r,hl,e⟩:=I.Ny hH
 refine call_meets F.slot_list_reverse ⟨_,e,rfl⟩ F.entry_list_reverse (F.args_list_reverse_1 _) (AutoSeq1.list_reverse_list_0 l its.toArray n (by rw[size_toArray];lia)) ⟨e,?_⟩
 refine⟨.non,_,I.SQ (its':=its.reverse) hH e (by simp) r.reverse ?_,rfl,q⟩
 rw[length_reverse]
 lia
def ZZ:R2:=λx y H Q=>∃l k xs,x=.ref l/\y=.int k/\H l=some (.lst xs)/\ -(2^63)<=k/\k<2^63/\xs.length*k.toNat<=sizeLine/\
 ∀p,H p=none->Q (.ref p) (upd H p (.lst (replicate k.toNat xs).flatten))
theorem len_rep{α:Type}(xs:List α)(k:Nat):(replicate k xs).flatten.length=k*xs.length:=by
 induction k with
 |zero=>simp
 |succ k ih=>rw[replicate_succ,flatten_cons,length_append,ih,Nat.succ_mul,Nat.add_comm]
theorem SR:uh X (binaryOp .Mult) ZZ:=by
 intro pins s σ H x y v u Q I rx ry h
 obtain⟨l,k,xs,rfl,rfl,hH,h1,h2,hz,q⟩:=h
 cases rx
 obtain⟨t,rfl⟩:=ry
 obtain⟨z,its,n,r,hl,e⟩:=I.Ny hH
 have hlen:its.toArray.size*k.toNat<=sizeLine:=by rw[size_toArray,<-hl];exact hz
 have Z0:¬its.toArray.size*k.toNat>(2^63-1)/8:=by
  have:(sizeLine:Nat)<=(2^63-1)/8:=by decide
  lia
 have hfit:¬(!Builtin.List.listFitsIndex k)=true:=by
  rw[fitsIndex_both h1 h2]
  exact Bool.false_ne_true
 have Wt:¬Builtin.List.listTooLong (its.toArray.size*k.toNat)=true:=by
  rw[IW hlen]
  exact Bool.false_ne_true
 have hnew:foldl (λx1 x2=>x1++x2) #[] (replicate (if its.toArray.isEmpty=true then 0 else k.toNat) its.toArray)=(replicate k.toNat its).flatten.toArray:=by
  have f0:∀m:Nat,foldl (λx1 x2=>x1++x2) #[] (replicate m its.toArray)=(replicate m its).flatten.toArray:=λm=>by
   have:=foldl_rep its m []
   rw[nil_append]at this
   exact this
  rw[f0]
  cases its with
  |nil=>simp
  |cons a r'=>rw[if_neg (by simp)]
 refine wpAny_binaryOp_repeat_ref (T:="list") (U:="int") (by decide) ⟨_,e,rfl⟩ (λs'=>typeIs_int s' k t) noFill_list_mul F.fills_int_mul F.slot_int_rmul repeat_list F.slot_int_index.lookup
  (call_meets F.slot_int_rmul (typeIs_int s k t) F.entry_int_rmul (F.args_int_rmul_2 _ _) (int___rmul___int_list k t l its.toArray n)
   ⟨e,rfl,⟨_,e,rfl⟩,call_meets F.slot_list_mul ⟨_,e,rfl⟩ F.entry_list_mul (F.args_list_mul_2 _ _) (AutoListH.list___mul___list_int_3 l its.toArray n k t hfit Z0 Wt) ⟨e,?_⟩⟩)
 rw[hnew]
 exact⟨.ref _,_,I.Ws (t':=s.toks) (r.rep k.toNat) (by rw[len_rep,Nat.mul_comm];exact hz),rfl,q _ I.fresh⟩
end
section
variable{prog:Program}{w:World}{A:Around}{E:Value->Shared->Prop}{s:Shared}
set_option maxRecDepth 100000 in
end
end L2
namespace Att
open PySem PySem.W PySem.Calls PyProof.Rows
theorem vI{P:Params}{h:Heap}:∀(ns:List Int)(vs:List Value),WellAll P h vs (ns.map WData.int)->IntsAre vs ns:=by
 intro ns
 induction ns with
 |nil=>
  intro vs w
  rw[map_nil]at w
  cases w
  exact .nil
 |cons n ns ih=>
  intro vs w
  rw[map_cons]at w
  cases w with
  |cons a b=>
   cases a
   exact .cons _ _ (ih _ b)
theorem GX{l:OpenLaw}{n:Nat}(hn:l.most=some n){P:Params}{h:Heap}{args:List WData}{vals:List Value}
  (hpre:l.row.toRowW.claim.pre args=true)(Z1:WellAll P h vals args):
  ∃a vs ns,vals=[Value.ref a]/\args=[WData.list (ns.map WData.int)]/\h.get? a=some {cls:=.type "list",data:=.seq vs.toArray}/\IntsAre vs ns/\ns.length<=n:=by
 have hsh:WShape.hasAll [] args [.list .int]=true:=(pre_splitW hpre).1
 have hc:l.pre.holds [] {args:=args}=true:=(pre_splitW hpre).2
 obtain⟨d,r,rfl,h1,h2⟩:=hasAllW_cons hsh
 obtain rfl:=hasAllW_nil h2
 obtain⟨xs,rfl,h3⟩:=hasW_list h1
 obtain⟨ns,rfl⟩:=items_int h3
 have hlen:ns.length<=n:=by
  unfold OpenLaw.pre at hc
  have h4:(WTm.not (.lt (.lit (.int (n:Int))) (.len (.arg 0)))).holds [] {args:=[.list (ns.map .int)]}=true:=by
   have h4:=(holds_andW hc).1
   rw[hn]at h4
   exact h4
  have h5:=condW_of h4 (w_not (w_lt w_lit (w_len_list (w_arg rfl))))
  rw[length_map]at h5
  refine Nat.le_of_not_lt λq=>?_
  have q':(n:Int)<((ns.length:Nat):Int):=by lia
  first
   |(rw[decide_eq_true q']at h5;exact absurd h5 (by decide))
   |(simp at h5;lia)
 cases Z1 with
 |cons w1 w2=>
  cases w2
  cases w1 with
  |list ho hall=>exact⟨_,_,ns,rfl,rfl,ho,vI ns _ hall,hlen⟩
theorem GY(l:OpenLaw)(args:List WData):l.row.toRowW.claim.post args (.bool true) args=true:=
 postW_of (r:=l.row.toRowW) (X:=(true==true))
  (show WShape.has [] (.bool true) .bool=true by first|rfl|decide|simp[WShape.has,WShape.arms,WShape.armsAll])
  (show(WTm.eq .res (.lit (.bool true))).value [] {args:=args,res:=some (.bool true),after:=args}=some (.bool (true==true))from w_eq_bool (w_res rfl) w_lit) rfl
theorem Bh{l:OpenLaw}{n:Nat}{q:Program}{loose:List Str}{XP:(Str->Option Value)->Heap->Prop}{YP:World->Heap->Prop}{d:DefRec}
  (hn:l.most=some n)(Wu:d.params.defaults=[])
  (call:∀(w:World)(s₀ s₁:Shared)(mg mb:Str->Option Value)(fa:Addr)(o:Obj)(pm cd doc:Value)(a:Addr)(vs:List Value)(ns:List Int),
   Ground q loose [] XP w s₀ mg mb s₁.heap->YP w s₁.heap->
   s₁.heap.get? fa=some o->o.data=.func (docDef d.name d.params d.body d.scope pm cd doc)->s₁.heap.CodeRec cd d.name->mg d.name=some (.ref fa)->
   s₁.heap.get? a=some {cls:=.type "list",data:=.seq vs.toArray}->IntsAre vs ns->ns.length<=n->s₁.gens=#[]->
   codeAny (model l.prog w) callerA (.call (.ref fa) ⟨[.ref a],[]⟩) (λr s'=>r=.ok (.ret (.bool true))/\OldK s₁.heap s'.heap/\s'.os=s₁.os/\AllBare s'.gens) s₁):
  WalkO q loose XP YP l.row.toRowW d [] (λf vs=>PySem.call f vs):=by
 intro w s₀ s₁ mg mb G Y fa o pm cd doc dV kV ho hd hcd hD hmg hg args vals as hpre hlay hrd Z1 hlo
 obtain rfl:dV=.none:=Dflts.none hD Wu
 obtain rfl:kV=.none:=Dflts.noKw hD
 obtain⟨a,vs,ns,rfl,rfl,hobj,hints,hlen⟩:=GX hn hpre Z1
 refine enter_call (codeAny_mono (call w s₀ s₁ mg mb fa o pm cd doc a vs ns G Y ho (fd_plain hd) hcd hmg hobj hints hlen hg) λr s' hq=>?_)
 obtain⟨rfl,h2,h3,h4⟩:=hq
 exact⟨.inl ⟨.bool true,.bool true,[],rfl,λ_=>rfl,.bool true,GY l _,λ_=>⟨Pairwise.nil,λ_ hm=>(nomatch hm)⟩⟩,h2,h3,h4⟩
section
variable{prog:Program}{w:World}{A:Around}{E:Value->Shared->Prop}{s:Shared}{K:Frag}
def ledger(h:Heap)(L d:Addr):List (Addr×Obj):=(range h.objs.size).filterMap λa=>if a=L\/a=d then none else(h.get? a).map λo=>(a,o)
end
end Att
namespace L2
open PySem PySem.Spec PyProof.Rows
theorem y9:∀{vs:List Value}{ns:List Int},IntsAre vs ns->Vals (ns.map V.int) vs
 |_,_,.nil=>.nil
 |_,_,.cons n t h=>.cons ⟨t,rfl⟩ (y9 h)
def SS(H:Hp):Prop:=∀b,H b=none\/∃o xs,H b=some (.yx o (.lst xs))
theorem IZ{P:Program}{w:World}{K:PySem.W.Frag}{mg mb:Str->Option Value}{CX:Ie}{k:Nat}{fa a:Addr}{fd:FuncData}{x:Str}{sp:Sp}{s₁:Shared}{vs:List Value}{ns:List Int}
  (KX:K.In s₁.heap)(hns:s₁.heap.Ns mainGlobals mg)(hb:s₁.heap.Ns builtinsNs mb)(Wv:∀x:Str,x≠"__name__"->mb x=bootBuiltins x)(hlim:s₁.heap.NoLimit)(hg:s₁.gens=#[])
  (ha:s₁.heap.get? a=some {cls:=.type "list",data:=.seq vs.toArray})(hi:IntsAre vs ns)(hl:ns.length<=sizeLine)(hr:bh k callerA)
  (F:∀base:Heap,K.In base->base.Ns mainGlobals mg->cO P w K mg base CX k fa fd [x] sp)(hbind:∀(s:Shared)(u:Value),BindsTo s fd ⟨[u],[]⟩ [(x,u)])
  (yA:∀H:Hp,SS H->dG K H a (ns.map V.int)->sp [.ref a] H (λv _=>v=.bl true) λ_ _ _=>False)
  (Z2:∀H e s',CX [] H s₁ (λ_ _ _=>False) e s'->False):
  codeAny (model P w) callerA (.call (.ref fa) ⟨[.ref a],[]⟩) (λr s'=>r=.ok (.ret (.bool true))/\OldK s₁.heap s'.heap/\s'.os=s₁.os/\AllBare s'.gens) s₁:=by
 have rv:=y9 hi
 have Z3:=hi.length
 have core:∀H:Hp,SS H->dG K H a (ns.map V.int)->qR P w H s₁.heap->(∀b,H b≠none->b=a)->(H a≠none->K.lookup a=none)->
   codeAny (model P w) callerA (.call (.ref fa) ⟨[.ref a],[]⟩) (λr s'=>r=.ok (.ret (.bool true))/\OldK s₁.heap s'.heap/\s'.os=s₁.os/\AllBare s'.gens) s₁:=by
  intro H hO hS hok hA hK
  have Ex:∀{b:Addr}{o:Obj},s₁.heap.get? b=some o->H b=none->(zS s₁.heap H).get? b=some o:=λe n=>Ip e n
  have Wl:∀{b:Addr}{o:Obj}{es:Array DictEntry}{ep:Nat},s₁.heap.get? b=some o->o.data=.dict es ep->H b=none:=λ{b o es ep} e d=>by
   cases q:H b with
   |none=>rfl
   |some u=>
    have e':b=a:=hA b (by rw[q];simp)
    subst e'
    rw[ha]at e;cases e
    have d':Data.seq vs.toArray _=Data.dict es ep:=d
    cases d'
  have YJ:∀{b:Addr}{m:Str->Option Value},s₁.heap.Ns b m->(zS s₁.heap H).Ns b m:=λ{b m}⟨o,es,ep,e,d,r⟩=>⟨o,es,ep,Ex e (Wl e d),d,r⟩
  have hKb:K.In (zS s₁.heap H):=λb o e=>Ex (KX b o e) (by
   cases q:H b with
   |none=>rfl
   |some u=>
    have e':b=a:=hA b (by rw[q];simp)
    subst e'
    rw[hK (by rw[q];simp)]at e;cases e)
  have hM:Mod K mg (zS s₁.heap H):=⟨hKb,YJ hns,⟨mb,YJ hb,Wv⟩,let⟨mc,h1,h2⟩:=hlim;⟨mc,YJ h1,h2⟩⟩
  have e0:C6 P w K mg (zS s₁.heap H) callerA [] s₁ H:=⟨rfl,hM,λb o e=>M7 e,le_of_eq (GB _ _),trivial,λb hb=>absurd (show b∈([]:List Addr)from hb) (by simp),hok,.of_eq hg⟩
  refine codeAny_mono ((F _ hKb (YJ hns)).run callerA [] s₁ H ⟨[.ref a],[]⟩ [.ref a] [.ref a] _ _ hr e0 (hbind s₁ (.ref a)) (.cons rfl .nil) (yA H hO hS)) λr s' h=>?_
  cases r with
  |error e=>exact(Z2 H e s' h).elim
  |ok fl=>
   cases fl with
   |next=>exact False.elim h
   |brk=>exact False.elim h
   |cont=>exact False.elim h
   |ret u=>
    obtain⟨v,H',os,bare,un,Z4,r',q⟩:=h
    have q':v=.bl true:=q
    subst q'
    obtain rfl:u=Value.bool true:=r'
    refine⟨rfl,OldK.of_keep λb o e=>?_,os,bare⟩
    cases q:H b with
    |none=>exact un.keep b o e q (by intro z;exact absurd (show b∈([]:List Addr)from z) (by simp)) (by simp)
    |some u=>
     rcases hO b with z|⟨ob,xs,z⟩
     ·rw[q]at z;cases z
     ·have z2:=un.zR b ob _ z
      obtain⟨e1,_⟩:=hok b _ z
      obtain⟨e2,_⟩:=Z4 b _ z2
      rw[e]at e1;cases e1
      exact e2
 cases hk:K.lookup a with
 |some o=>
  have e:=KX a o hk
  rw[ha]at e
  cases e
  refine core (λ_=>none) (λ_=>.inl rfl) (.inr ⟨_,vs.toArray,_,hk,rfl,rfl,rfl,by rw[size_toArray,Z3];exact hl,by simpa using rv⟩) (λb u z=>by have z':(none:Option HO)=some u:=z;cases z') (λb z=>absurd rfl z) λz=>absurd rfl z
 |none=>
  refine core (λb=>if b=a then some (.yx {cls:=.type "list",data:=.seq vs.toArray} (.lst (ns.map V.int)))else none) (λb=>?_) (.inl (.inr ⟨{cls:=.type "list",data:=.seq vs.toArray},if_pos rfl⟩)) (λb u z=>?_) (λb z=>?_) λ_=>hk
  ·by_cases hb:b=a
   ·exact .inr ⟨_,_,if_pos hb⟩
   ·exact .inl (if_neg hb)
  ·by_cases hb:b=a
   ·have z':=(if_pos hb).symm.trans z
    cases z'
    subst hb
    exact⟨ha,by rw[length_map];exact hl,vs,_,rv,ha⟩
   ·have z':=(if_neg hb).symm.trans z
    cases z'
  ·by_cases hb:b=a
   ·exact hb
   ·exact absurd (if_neg hb) z
end L2
namespace L2
open PySem PySem.Spec PyProof.Rows
abbrev KOf{K:PySem.W.Frag}{h:Heap}(_:K.In h):PySem.W.Frag:=K
theorem NB{l:PySem.W.OpenLaw}{n k:Nat}{q:Program}{loose:List Str}{XP:(Str->Option Value)->Heap->Prop}{YP:World->Heap->Prop}{d:DefRec}{K:Params->PySem.W.Frag}{CX:World->Ie}{sp:World->Sp}{x:Str}
  (hn:l.most=some n)(hn2:n<=sizeLine)(Wu:d.params.defaults=[])(hr:bh k callerA)
  (hY:∀(w:World)(h:Heap),YP w h->(K w.params).In h)
  (F:∀(w:World)(mg:Str->Option Value)(fa:Addr)(h:Heap),(K w.params).In h->h.Ns mainGlobals mg->mg d.name=some (.ref fa)->
   ∃fd:FuncData,(∀(s:Shared)(u:Value),BindsTo s fd ⟨[u],[]⟩ [(x,u)])/\
    ∀base:Heap,(K w.params).In base->base.Ns mainGlobals mg->cO l.prog w (K w.params) mg base (CX w) k fa fd [x] (sp w))
  (yA:∀(w:World)(H:Hp)(a:Addr)(ns:List Int),ns.length<=n->SS H->dG (K w.params) H a (ns.map V.int)->sp w [.ref a] H (λv _=>v=.bl true) λ_ _ _=>False)
  (Z2:∀(w:World)(H:Hp)(s:Shared)(e:Value)(s':Shared),CX w [] H s (λ_ _ _=>False) e s'->False):
  PySem.W.WalkO q loose XP YP l.row.toRowW d [] (λf vs=>PySem.call f vs):=by
 refine Att.Bh hn Wu λw s₀ s₁ mg mb fa o pm cd doc a vs ns G Y ho hd hcd hmg hobj hints hlen hg=>?_
 have KX:=hY w _ Y
 obtain⟨fd,hb,hF⟩:=F w mg fa _ KX G.T.g hmg
 exact IZ KX G.T.g G.T.b G.T.builtins G.T.nolimit hg hobj hints (le_trans hlen hn2) hr hF hb (λH hO hS=>yA w H a ns hlen hO hS) λH e s'=>Z2 w H s₁ e s'
end L2
namespace L2
open PySem PySem.Spec PyProof.Rows
def inClass(s:Stmt)(j:Nat):Stmt:=match s with
 |.ClassDef _ _ _ body _ _ _ _ _ _ _=>body.getD j (.Pass ⟨0,0,0,0⟩)
 |_=>.Pass ⟨0,0,0,0⟩
def fu(s:Stmt):Arguments:=match s with
 |.FunctionDef _ a _ _ _ _ _ _ _ _=>a
 |_=>{posonlyargs:=[],args:=[],vararg:=none,kwonlyargs:=[],kw_defaults:=[],kwarg:=none,defaults:=[]}
def bM(s:Stmt):List Stmt:=match s with
 |.FunctionDef _ _ b _ _ _ _ _ _ _=>b
 |_=>[]
def ae(s:Stmt):Scope:=match s with
 |.FunctionDef _ _ _ _ _ _ sc _ _ _=>sc
 |_=>{kind:=.function,names:=[],isGenerator:=false,isCoroutine:=false}
abbrev lK:Ie:=λ_ _ _ _ _ _=>False
abbrev E0:XK:=λ_ _ _=>False
theorem oV{X:Cx}:Passes lK X E0:=λ_ _ _ _ _ _ _ h=>h.elim
structure Bj(K:PySem.W.Frag)(x qual:Str)(st:Stmt)(f:Addr)(fd:FuncData):Prop where
 ex:∃(oc:Value)(od:Option Addr)(kV doc pm:Value)(an:Option Addr)(cdv ct:Value)(Ig:Array (Option Value)),
  fd=PySem.W.fnOf x qual (fu st) (bM st) (ae st) .none kV doc pm an cdv ct/\K.lookup f=some ⟨oc,od,.func fd,Ig⟩/\codeIn K cdv qual=true
 kp:keepIn K (.ref f)=true
section
variable{P:Program}{w:World}{K:PySem.W.Frag}{mg:Str->Option Value}{base:Heap}
theorem Bj.ok {x qual:Str}{st:Stmt}{f:Addr}{fd:FuncData}{N ps:List Str}{k:Nat}{sp:Sp}(F:Bj K x qual st f fd)(S:aC N ps (ae st))(len:∀vs H Q E,sp vs H Q E->vs.length=ps.length)
  (hbody:∀(cdv:Value)(A:Around)(outer:List Env)(s:Shared)(H:Hp)(vs:List V)(Q:VK)(E:XK),bh k (A.deeper (envOfC qual (ae st) s.heap.objs.size f cdv))->sp vs H Q E->
   ∃t,q8 (qT lK P w K mg base N qual (ae st) f cdv A outer s H E).GG (bM st) t/\t {nx:=λ_ H'=>Q .non H',rt:=Q} (start N vs) H):cO P w K mg base lK (k+1) f fd ps sp:=by
 obtain⟨oc,od,kV,doc,pm,an,cdv,ct,Ig,rfl,lk,hcd⟩:=F.ex
 refine Wm lk hcd S len λA outer s H vs Q E hr yA=>?_
 obtain⟨t,h,q⟩:=hbody cdv A outer s H vs Q E hr yA
 exact⟨t,h.GG,q⟩
theorem Bj.binds {x qual:Str}{st:Stmt}{f:Addr}{fd:FuncData}{ps:List Str}(F:Bj K x qual st f fd)
  (h:∀(kV doc pm:Value)(an:Option Addr)(cdv ct:Value)(us:List Value),us.length=ps.length->bindArgs (PySem.W.fnOf x qual (fu st) (bM st) (ae st) .none kV doc pm an cdv ct) ⟨us,[]⟩=pure (ps.zip us)):Binds K fd ps []:=by
 obtain⟨oc,od,kV,doc,pm,an,cdv,ct,Ig,rfl,lk,hcd⟩:=F.ex
 exact .all (h kV doc pm an cdv ct)
theorem Dh{x qual:Str}{st:Stmt}{f:Addr}{oc:Value}{od an:Option Addr}{Ig:Array (Option Value)}{kV doc pm cdv ct:Value}(l:K.lookup f=some ⟨oc,od,.func (PySem.W.fnOf x qual (fu st) (bM st) (ae st) .none kV doc pm an cdv ct),Ig⟩)
  (c:codeIn K cdv qual=true)(k:keepIn K (.ref f)=true):Bj K x qual st f (PySem.W.fnOf x qual (fu st) (bM st) (ae st) .none kV doc pm an cdv ct):=⟨⟨oc,od,kV,doc,pm,an,cdv,ct,Ig,rfl,l,c⟩,k⟩
end
theorem rV{A:Around}{k:Nat}(hr:bh k A):A.units+1<cLine:=Nat.lt_of_le_of_lt (Nat.add_le_add_left (by decide:1<=64) _) hr.units
section
variable{X:Cx}
theorem pv(i:Nat){x:Str}{pos:Pos}(hN:X.N[i]?=some x:=by rfl)(hv:yZ X.env.scope x:=by first|exact Or.inl rfl|exact Or.inr (Or.inl rfl)|exact Or.inr (Or.inr rfl))(hd:(x==("__debug__":Str))=false:=by decide)
  (hcd:(x==("__classdict__":Str))=false:=by decide):PE X (.Name x pos) (Na i):=jP hN hv hd hcd
end
theorem uo{A B:Prop}(h:B):if false=true then A else B:=by
 rw[if_neg Bool.false_ne_true]
 exact h
theorem vJ{A B:Prop}(h:A):if true=true then A else B:=by
 rw[if_pos rfl]
 exact h
def aO(H H':Hp):Prop:=∀b o,H b=some o->H' b=some o
theorem aO.refl (H:Hp):aO H H:=λ_ _ h=>h
theorem aO.trans {H H1 H2:Hp}(a:aO H H1)(b:aO H1 H2):aO H H2:=λc o h=>b c o (a c o h)
theorem aO.free {H H':Hp}(e:aO H H'){l:Addr}(h:H' l=Option.none):H l=Option.none:=by
 cases q:H l with
 |none=>rfl
 |some o=>
  rw[e l o q]at h
  cases h
theorem aO.seq {K:PySem.W.Frag}{H H':Hp}{a:Addr}{xs:List V}(e:aO H H')(h:dG K H a xs):dG K H' a xs:=by
 rcases h with(h|⟨o,h⟩)|h
 ·exact .inl (.inl (e _ _ h))
 ·exact .inl (.inr ⟨o,e _ _ h⟩)
 ·exact .inr h
end L2
set_option maxHeartbeats 4000000
namespace L2
open PySem PySem.Spec PyProof.Rows
section
variable{κ:Type}[DecidableEq κ]
def dQ(kvs:List (κ×V))(k:κ):Option V:=(kvs.find? λkv=>decide (kv.1=k)).map (·.2)
def putK(kvs:List (κ×V))(k:κ)(v:V):List (κ×V):=
 if(kvs.any λkv=>decide (kv.1=k))=true then kvs.map (λkv=>if kv.1=k then(kv.1,v)else kv)else kvs++[(k,v)]
def acY(kvs:List (κ×V))(k:κ):List (κ×V):=kvs.filter λkv=>decide (kv.1≠k)
theorem fH{p:κ×V}{r:List (κ×V)}{k:κ}(e:p.1=k):dQ (p::r) k=some p.2:=by simp[dQ,find?_cons,e]
theorem fJ{p:κ×V}{r:List (κ×V)}{k:κ}(e:¬p.1=k):dQ (p::r) k=dQ r k:=by simp[dQ,find?_cons,e]
theorem rW(k:κ):∀kvs:List (κ×V),(kvs.any λkv=>decide (kv.1=k))=(dQ kvs k).isSome
 |[]=>rfl
 |p::r=>by
  rw[any_cons]
  by_cases e:p.1=k
  ·simp only [fH e,decide_eq_true e,Bool.true_or,Option.isSome_some]
  ·rw[fJ e,decide_eq_false e,Bool.false_or];exact rW k r
theorem Bk(k j:κ)(y:V):∀kvs:List (κ×V),dQ (kvs.map λkv=>if kv.1=k then(kv.1,y)else kv) j=(dQ kvs j).map λx=>if j=k then y else x
 |[]=>rfl
 |p::r=>by
  have ih:=Bk k j y r
  rw[map_cons]
  by_cases h:p.1=k
  ·rw[if_pos h]
   by_cases e:p.1=j
   ·rw[fH (p:=(p.1,y)) e,fH e,map_some,if_pos (e.symm.trans h)]
   ·rw[fJ (p:=(p.1,y)) e,fJ e,ih]
  ·rw[if_neg h]
   by_cases e:p.1=j
   ·rw[fH (p:=p) e,fH e,map_some,if_neg (λz=>h (e.trans z))]
   ·rw[fJ (p:=p) e,fJ e,ih]
theorem za(k j:κ)(y:V):∀kvs:List (κ×V),dQ kvs k=none->dQ (kvs++[(k,y)]) j=if j=k then some y else dQ kvs j
 |[],_=>by
  by_cases e:k=j
  ·rw[if_pos e.symm];exact fH (p:=(k,y)) e
  ·rw[if_neg (λz=>e z.symm)];exact fJ (p:=(k,y)) e
 |p::r,hn=>by
  rw[cons_append]
  have hk:¬p.1=k:=λz=>by rw[fH z]at hn;cases hn
  rw[fJ hk]at hn
  have ih:=za k j y r hn
  by_cases e:p.1=j
  ·rw[fH e,fH e,if_neg (λz=>hk (e.trans z))]
  ·rw[fJ e,fJ e,ih]
theorem kN(kvs:List (κ×V))(k j:κ)(y:V):dQ (putK kvs k y) j=if j=k then some y else dQ kvs j:=by
 unfold putK
 by_cases a:(kvs.any λkv=>decide (kv.1=k))=true
 ·rw[if_pos a,Bk]
  rw[rW]at a
  by_cases e:j=k
  ·obtain⟨x,hx⟩:=Option.isSome_iff_exists.mp a
   rw[if_pos e,e,hx,map_some,if_pos rfl]
  ·rw[if_neg e]
   cases dQ kvs j with
   |none=>rfl
   |some x=>rw[map_some,if_neg e]
 ·rw[if_neg a]
  refine za k j y kvs ?_
  rw[rW]at a
  cases q:dQ kvs k with
  |none=>rfl
  |some x=>rw[q]at a;exact(a rfl).elim
theorem g5(kvs:List (κ×V))(k:κ)(v:V):(putK kvs k v).length<=kvs.length+1:=by
 unfold putK
 split
 ·rw[length_map];lia
 ·rw[length_append,length_cons,length_nil];lia
theorem pe.uq {o:Option V}{u:Option Value}(r:pe o u):o.isSome=u.isSome:=by
 cases o with
 |none=>cases u with
  |none=>rfl
  |some _=>exact(show False from r).elim
 |some _=>cases u with
  |none=>exact(show False from r).elim
  |some _=>rfl
theorem pe.getD {o:Option V}{u:Option Value}{d:V}{d':Value}(r:pe o u)(rd:RelV d d'):RelV (o.getD d) (u.getD d'):=by
 cases o with
 |none=>cases u with
  |none=>exact rd
  |some _=>exact(show False from r).elim
 |some _=>cases u with
  |none=>exact(show False from r).elim
  |some _=>exact r
theorem KV.val {kvs:List (κ×V)}{vs:List (κ×Value)}(r:KV kvs vs)(k:κ):pe (dQ kvs k) (valueAt vs k):=by
 unfold KV at r
 induction r with
 |nil=>exact True.intro
 | @cons p q ps qs h t ih=>
  obtain⟨h1,h2⟩:=h
  by_cases e:p.1=k
  ·have e':q.1=k:=h1.symm.trans e
   have b:valueAt (q::qs) k=some q.2:=by simp[valueAt,find?_cons,e']
   rw[fH e,b];exact h2
  ·have e':¬q.1=k:=λz=>e (h1.trans z)
   have b:valueAt (q::qs) k=valueAt qs k:=by simp[valueAt,find?_cons,e']
   rw[fJ e,b];exact ih
theorem KV.any {kvs:List (κ×V)}{vs:List (κ×Value)}(r:KV kvs vs)(k:κ):(kvs.any λkv=>decide (kv.1=k))=vs.any λkv=>decide (kv.1=k):=by
 unfold KV at r
 induction r with
 |nil=>rfl
 |cons h t ih=>rw[any_cons,any_cons,ih,h.1]
theorem KV.SV {kvs:List (κ×V)}{vs:List (κ×Value)}(r:KV kvs vs)(k:κ){y:V}{u:Value}(ry:RelV y u):
  KV (kvs.map λkv=>if kv.1=k then(kv.1,y)else kv) (vs.map λkv=>if kv.1=k then(kv.1,u)else kv):=by
 unfold KV at r⊢
 induction r with
 |nil=>exact .nil
 | @cons p q ps qs h t ih=>
  rw[map_cons,map_cons]
  refine .cons ?_ ih
  obtain⟨h1,h2⟩:=h
  by_cases e:p.1=k
  ·rw[if_pos e,if_pos (h1.symm.trans e)];exact⟨h1,ry⟩
  ·rw[if_neg e,if_neg (λz=>e (h1.trans z))];exact⟨h1,h2⟩
theorem KV.put {kvs:List (κ×V)}{vs:List (κ×Value)}(r:KV kvs vs)(k:κ){y:V}{u:Value}(ry:RelV y u):KV (putK kvs k y) (stored vs k u):=by
 unfold putK stored
 rw[r.any k]
 by_cases e:(vs.any λkv=>decide (kv.1=k))=true
 ·rw[if_pos e,if_pos e];exact r.SV k ry
 ·rw[if_neg e,if_neg e];exact Paired.snoc r ⟨rfl,ry⟩
theorem KV.length {kvs:List (κ×V)}{vs:List (κ×Value)}(r:KV kvs vs):kvs.length=vs.length:=Paired.length r
end
theorem Bl{P:Program}{w:World}{k:Key}{u:Value}(r:RelV (kV k) u):(dJ P w).is k u=true:=by
 cases k with
 |inl i=>obtain⟨t,e⟩:=(show∃t,u=Value.int i t from r);subst e;exact A8 P w i t
 |inr x=>obtain⟨t,e⟩:=(show∃t,u=Value.str x t from r);subst e;exact A9 P w x t
theorem zb{P:Program}{w:World}:∀{ks:List Key}{us:List Value},Vals (ks.map kV) us->ItemsAre (dJ P w) ks us
 |[],_,r=>by rw[map_nil]at r;cases r;exact .nil
 |k::ks,_,r=>by
  rw[map_cons]at r
  cases r with
  |cons h t=>exact .cons (Bl h) (zb t)
abbrev KT(H:Hp):List (List Key×V)->List (List Key×Addr×Value)->Prop:=Paired λp q=>p.1=q.1/\H q.2.1=some (.tup (p.1.map kV))/\RelV p.2 q.2.2
theorem KT.val {H:Hp}{kvs:List (List Key×V)}{xs:List (List Key×Addr×Value)}(r:KT H kvs xs)(k:List Key):pe (dQ kvs k) ((atKey xs k).map (·.2)):=by
 induction r with
 |nil=>exact True.intro
 | @cons p q ps qs h t ih=>
  obtain⟨h1,_,h2⟩:=h
  by_cases e:p.1=k
  ·have e':q.1=k:=h1.symm.trans e
   have b:atKey (q::qs) k=some q.2:=by simp[atKey,find?_cons,e']
   rw[fH e,b];exact h2
  ·have e':¬q.1=k:=λz=>e (h1.trans z)
   have b:atKey (q::qs) k=atKey qs k:=by simp[atKey,find?_cons,e']
   rw[fJ e,b];exact ih
theorem KT.SV {H:Hp}{kvs:List (List Key×V)}{xs:List (List Key×Addr×Value)}(r:KT H kvs xs)(k:List Key){y:V}{u:Value}(ry:RelV y u):
  KT H (kvs.map λkv=>if kv.1=k then(kv.1,y)else kv) (xs.map (putAt k u)):=by
 induction r with
 |nil=>exact .nil
 | @cons p q ps qs h t ih=>
  rw[map_cons,map_cons]
  refine .cons ?_ ih
  obtain⟨h1,h2,h3⟩:=h
  unfold putAt
  by_cases e:p.1=k
  ·rw[if_pos e,if_pos (h1.symm.trans e)];exact⟨h1,h2,ry⟩
  ·rw[if_neg e,if_neg (λz=>e (h1.trans z))];exact⟨h1,h2,h3⟩
theorem KT.put {H:Hp}{kvs:List (List Key×V)}{xs:List (List Key×Addr×Value)}(r:KT H kvs xs)(k:List Key){b:Addr}{y:V}{u:Value}(hb:H b=some (.tup (k.map kV)))(ry:RelV y u):
  KT H (putK kvs k y) (storedH xs k b u):=by
 have e:(kvs.any λkv=>decide (kv.1=k))=(atKey xs k).isSome:=by
  rw[rW,(r.val k).uq,isSome_map]
 unfold putK storedH
 rw[e]
 by_cases q:(atKey xs k).isSome=true
 ·rw[if_pos q,if_pos q];exact r.SV k ry
 ·rw[if_neg q,if_neg q];exact Paired.snoc r ⟨rfl,hb,ry⟩
theorem KT.keeps {H H':Hp}{kvs:List (List Key×V)}{xs:List (List Key×Addr×Value)}(r:KT H kvs xs)(ht:∀b ys,H b=some (.tup ys)->H' b=some (.tup ys)):KT H' kvs xs:=
 Paired.R5 r λ_ _ z=>⟨z.1,ht _ _ z.2.1,z.2.2⟩
section
variable{P:Program}{w:World}{H:Hp}{h:Heap}{a:Addr}
theorem Qg{u:HO}(ok:qR P w H h)(e:Rd H a u):dF P w H h a u:=e.ok ok
theorem zc{kvs:List (Key×V)}(ok:qR P w H h)(e:Rd H a (.dK kvs)):kvs.length<=sizeLine/\(a==sysModules)=false/\∃vs,KV kvs vs/\h.DictOf (dJ P w) a vs:=
 show dF P w H h a (.dK kvs)from Qg ok e
theorem Ww{kvs:List (Key×V)}(ok:qR P w H h)(e:H a=some (.dK kvs)):kvs.length<=sizeLine/\(a==sysModules)=false/\∃vs,KV kvs vs/\h.DictOf (dJ P w) a vs:=zc ok (.inl e)
theorem xh{ks:List Key}(ok:qR P w H h)(e:H a=some (.tup (ks.map kV))):(tupleKind (dJ P w)).is h ks a:=by
 obtain⟨_,its,r,o,h1,h2,n,h3⟩:=(show dF P w H h a (.tup (ks.map kV))from ok a _ e)
 exact⟨o,its.toArray,n,h1,h2,h3,by simpa using zb r⟩
theorem xj{kvs:List (List Key×V)}(ok:qR P w H h)(e:Rd H a (.dT kvs)):kvs.length<=sizeLine/\(a==sysModules)=false/\
  ∃xs,KT H kvs xs/\h.DictOfH (tupleKind (dJ P w)) a xs:=by
 obtain⟨z,y,xs,r,o,es,ep,h1,h2,h3,h4,h5⟩:=(show dF P w H h a (.dT kvs)from Qg ok e)
 refine⟨z,y,xs,r,o,es,ep,h1,h2,h3,h4,λx hx=>?_,h5⟩
 have all:∀{l:List (List Key×V)}{m:List (List Key×Addr×Value)},KT H l m->∀x∈m,(tupleKind (dJ P w)).is h x.1 x.2.1:=by
  intro l m q
  induction q with
  |nil=>intro x hx;exact nomatch hx
  | @cons p q ps qs hq t ih=>
   intro x hx
   rcases mem_cons.mp hx with e|hx
   ·subst e
    exact xh ok (by rw[<-hq.1];exact hq.2.1)
   ·exact ih x hx
 exact all r x hx
theorem Wx{kvs:List (List Key×V)}(ok:qR P w H h)(e:H a=some (.dT kvs)):kvs.length<=sizeLine/\(a==sysModules)=false/\
  ∃xs,KT H kvs xs/\h.DictOfH (tupleKind (dJ P w)) a xs:=xj ok (.inl e)
end
def nT(H:Hp)(a:Addr)(y:V)(r:Option V):Prop:=
 (∃kvs k,Rd H a (.dK kvs)/\y=kV k/\r=dQ kvs k)\/∃kvs k b,Rd H a (.dT kvs)/\y=.ref b/\H b=some (.tup (k.map kV))/\r=dQ kvs k
def Bm(H:Hp)(a:Addr)(y v:V)(H':Hp):Prop:=
 (∃kvs k,H a=some (.dK kvs)/\y=kV k/\kvs.length<sizeLine/\H'=upd H a (.dK (putK kvs k v)))\/
 ∃kvs k b,H a=some (.dT kvs)/\y=.ref b/\H b=some (.tup (k.map kV))/\kvs.length<sizeLine/\H'=upd H a (.dT (putK kvs k v))
theorem nT.t {H:Hp}{a b:Addr}{kvs:List (List Key×V)}{k:List Key}(e:H a=some (.dT kvs))(eb:H b=some (.tup (k.map kV))):nT H a (.ref b) (dQ kvs k):=.inr ⟨kvs,k,b,.inl e,rfl,eb,rfl⟩
theorem Bm.t {H:Hp}{a b:Addr}{kvs:List (List Key×V)}{k:List Key}{v:V}(e:H a=some (.dT kvs))(eb:H b=some (.tup (k.map kV)))(hl:kvs.length<sizeLine):
  Bm H a (.ref b) v (upd H a (.dT (putK kvs k v))):=.inr ⟨kvs,k,b,e,rfl,eb,hl,rfl⟩
section
variable{X:Cx}{pins:List (Addr×Obj)}{σ:St}{H:Hp}{s:Shared}{a:Addr}{y v:V}{u r:Value}{o:Option V}{A:Around}{E:Value->Shared->Prop}
theorem Inv.big (I:Inv X pins σ H s):sysModules<s.heap.objs.size:=by
 have h:mainGlobals<s.heap.objs.size:=(I.mod.glob.keeps I.bk).lt
 exact Nat.lt_trans (by decide) h
theorem GZ{Q:Value->Shared->Prop}(hu:A.units+1<cLine)(I:Inv X pins σ H s)(g:nT H a y (some v))(ry:RelV y u)(h:∀w' s',Inv X pins σ H s'->RelV v w'->Q w' s'):
  wpAny (model X.prog X.w) A (getItem (.ref a) u) Q E s:=by
 rcases g with⟨kvs,k,e,ey,l⟩|⟨kvs,k,b,e,ey,eb,l⟩
 ·subst ey
  obtain⟨z,hd,vs,rel,dd⟩:=zc I.hok e
  obtain⟨w',hw,oU⟩:=pe.some_of (v:=v) (o:=valueAt vs k) (by rw[l];exact rel.val k)
  exact wpAny_getItem_of (Bl ry) dd.mapOf hw (h w' _ (I.tok _) oU)
 ·subst ey
  cases (show u=Value.ref b from ry)
  obtain⟨z,hd,xs,rel,dd⟩:=xj I.hok e
  obtain⟨w',hw,oU⟩:=pe.some_of (v:=v) (o:=(atKey xs k).map (·.2)) (by rw[l];exact rel.val k)
  obtain⟨p,hp,YK⟩:=Option.map_eq_some_iff.mp hw
  refine wpAny_getItem_heap (tupleKind_room_in1 hu) (xh I.hok eb) dd hp ?_
  rw[YK]
  exact h w' _ (I.tok _) oU
theorem ND{Q:Value->Shared->Prop}(hu:A.units+1<cLine)(I:Inv X pins σ H s)(g:nT H a y o)(ry:RelV y u)(h:∀s',Inv X pins σ H s'->Q (.bool (!o.isSome)) s'):
  wpAny (model X.prog X.w) A (compareOp .NotIn u (.ref a)) Q E s:=by
 rcases g with⟨kvs,k,e,ey,l⟩|⟨kvs,k,b,e,ey,eb,l⟩
 ·subst ey
  obtain⟨z,hd,vs,rel,dd⟩:=zc I.hok e
  refine wpAny_notIn_of (Bl ry) hd dd.mapOf ?_
  rw[<-(rel.val k).uq,<-l]
  exact h _ (I.tok _)
 ·subst ey
  cases (show u=Value.ref b from ry)
  obtain⟨z,hd,xs,rel,dd⟩:=xj I.hok e
  refine wpAny_notIn_heap (tupleKind_room_in1 hu) (xh I.hok eb) hd dd ?_
  have q:=(rel.val k).uq
  rw[isSome_map]at q
  rw[<-q,<-l]
  exact h _ (I.tok _)
theorem Ey{h':Heap}{t':Nat}{ob:HO}(I:Inv X pins σ H s)(mu:VS (H a))(hs:Heap.SameBut a s.heap h')(he:∃q,h'.get? a=some q)(new:dF X.prog X.w (upd H a ob) h' a ob):
  Inv X pins σ (upd H a ob) {s with heap:=h',toks:=t'}:=
 I.write (x:=a) (e:=a) mu (.inl rfl) (λb q hb z=>(hs.2 b hb).trans z) he new
theorem SW{P:Program}{w:World}{H':Hp}{h':Heap}{kvs:List (Key×V)}{vs:List (Key×Value)}(z:kvs.length<=sizeLine)(hd:(a==sysModules)=false)(rel:KV kvs vs)(dd:h'.DictOf (dJ P w) a vs):
  dF P w H' h' a (.dK kvs):=⟨z,hd,vs,rel,dd⟩
theorem G0{H':Hp}{Q:Unit->Shared->Prop}(hu:A.units+1<cLine)(I:Inv X pins σ H s)(g:Bm H a y v H')(ry:RelV y u)(rv:RelV v r)(h:∀s',Inv X pins σ H' s'->Q () s'):
  wpAny (model X.prog X.w) A (setItem (.ref a) u r) Q E s:=by
 rcases g with⟨kvs,k,e,ey,l,eH⟩|⟨kvs,k,b,e,ey,eb,l,eH⟩
 ·subst ey eH
  obtain⟨z,hd,vs,rel,dd⟩:=Ww I.hok e
  have hz:vs.length<=sizeLine:=by rw[<-rel.length];exact z
  have hl:(putK kvs k v).length<=sizeLine:=by have:=g5 kvs k v;lia
  refine wpAny_setItem_pairs (hsz:=hz) (Bl ry) dd λh' YL hs=>h _ ?_
  have he:∃q,h'.get? a=some q:=let⟨q,_,_,hq,_⟩:=YL;⟨q,hq⟩
  exact Ey I (by rw[e];exact True.intro) hs he (SW hl hd (rel.put k rv) YL)
 ·subst ey eH
  cases (show u=Value.ref b from ry)
  obtain⟨z,hd,xs,rel,dd⟩:=Wx I.hok e
  have hz:xs.length<=sizeLine:=by rw[<-Paired.length rel];exact z
  have hl:(putK kvs k v).length<=sizeLine:=by have:=g5 kvs k v;lia
  refine wpAny_setItem_heap (hsz:=hz) (tupleKind_room_in1 hu) (xh I.hok eb) dd λh' YL hs=>h _ ?_
  obtain⟨q,es,ep,hq,h2,h3,h4,_,h5⟩:=YL
  refine Ey I (by rw[e];exact True.intro) hs ⟨q,hq⟩ ⟨hl,hd,_,(rel.put k eb rv).keeps λc ys ec=>?_,q,es,ep,hq,h2,h3,h4,h5⟩
  rw[aj (bX ec e (λz=>nomatch z))]
  exact ec
end
def Wy(i:Expr):Prop:=∀ov iv,subscripted i false ov iv=operate [ov,iv] (getItem ov iv)
theorem NF{prog:Program}{w:World}{A:Around}{E:Value->Shared->Prop}{s:Shared}{env:Env}{value slice:Expr}{pos:Pos}{T id:String}{Q:Value->Shared->Prop}
  (hl:typeLookup (.type T) "__getitem__"=pure (some (.builtin id)))(hs:Wy slice)
  (h:wpAny (model prog w) A (eval value env) (λo s₁=>wpAny (model prog w) A (eval slice env) (λi s₂=>s₂.TypeIs o T/\wpAny (model prog w) A (getItem o i) Q E s₂) E s₁) E s):
  wpAny (model prog w) A (eval (.Subscript value slice pos) env) Q E s:=by
 refine Subscript_ (wpAny_mono h (λo s₁ h₁=>wpAny_mono h₁ (λi s₂ h₂=>?_) λ_ _ x=>x) λ_ _ x=>x)
 obtain⟨hT,h₂⟩:=h₂
 unfold subscriptTail
 refine wpAny_bind ?_
 rw[getitemInPython_of_ne hT.not_modules]
 refine wpAny_bind (wpAny_specialOf hT hl ?_)
 have fin:wpAny (model prog w) A (subscripted slice false o i) (λr s₃=>wpAny (model prog w) A (letTemporaryGo value o r>>=λ_=>pure r) Q E s₃) E s₂:=by
  rw[hs o i]
  exact wpAny_operating (wpAny_mono h₂ (λr s₃ h₃=>wpAny_bind (wpAny_letTemporaryGo (wpAny_pure h₃))) λ_ _ x=>x)
 first
  |exact wpAny_pure (wpAny_bind fin)
  |exact wpAny_bind (wpAny_pure (wpAny_bind fin))
  |exact wpAny_bind fin
theorem Bo{X:Cx}{pins:List (Addr×Obj)}{σ:St}{H:Hp}{s:Shared}{a:Addr}{y:V}{o:Option V}(I:Inv X pins σ H s)(g:nT H a y o):s.TypeIs (.ref a) "dict":=by
 rcases g with⟨kvs,k,e,_,_⟩|⟨kvs,k,b,e,_,_,_⟩
 ·obtain⟨_,_,vs,_,dd⟩:=zc I.hok e
  exact dd.typeIs
 ·obtain⟨_,_,xs,_,dd⟩:=xj I.hok e
  exact dd.typeIs
def Wz(td ty:TE):TE:=λσ H Q=>td σ H λx H1=>ty σ H1 λy H2=>∃a v,x=.ref a/\nT H2 a y (some v)/\Q v H2
def NG(ty td:TE):TE:=λσ H Q=>ty σ H λy H1=>td σ H1 λx H2=>∃a o,x=.ref a/\nT H2 a y o/\Q (.bl (!o.isSome)) H2
def WA(td ty tv:TE):TS:=λD σ H=>tv σ H λv H1=>td σ H1 λx H2=>ty σ H2 λy H3=>∃a H4,x=.ref a/\Bm H3 a y v H4/\D.nx σ H4
section
variable{X:Cx}{o i e value:Expr}{pos pos' ZM:Pos}{td ty tv:TE}
theorem z0(hu:X.A.units+1<cLine)(ho:PE X o td)(hi:PE X i ty)(hs:Wy i):PE X (.Subscript o i pos) (Wz td ty):=by
 intro pins s σ H Q I h
 refine NF PySem.F.slot_dict_getitem.lookup hs (cM (ho pins s σ H _ I h) λu s1 ⟨x,H1,I1,rx,q1⟩=>cM (hi pins s1 σ H1 _ I1 q1) λiv s2 ⟨y,H2,I2,ry,a,v,ex,g,q2⟩=>?_)
 subst ex
 obtain rfl:u=Value.ref a:=rx
 exact⟨Bo I2 g,GZ hu I2 g ry λw' s3 I3 oU=>⟨v,H2,I3,oU,q2⟩⟩
theorem ur(hu:X.A.units+1<cLine)(hi:PE X i ty)(ho:PE X o td):PC X .NotIn i o (NG ty td):=by
 intro pins s σ H Q I h
 refine cM (hi pins s σ H _ I h) λiv s1 ⟨y,H1,I1,ry,q1⟩=>cM (ho pins s1 σ H1 _ I1 q1) λu s2 ⟨x,H2,I2,rx,a,ov,ex,g,q2⟩=>?_
 subst ex
 obtain rfl:u=Value.ref a:=rx
 exact ND hu I2 g ry λs3 I3=>⟨.bl (!ov.isSome),H2,I3,rfl,q2⟩
theorem wm(hu:X.A.units+1<cLine)(ho:PE X o td)(hi:PE X i ty)(hv:PE X value tv)(hs:swapsWith value (some (.Subscript o i pos')) pos.line X.env=pure false):
  PS X (.Assign [.Subscript o i pos'] value pos) (WA td ty tv):=by
 intro pins s σ H D I h
 refine wpAny_Assign_Subscript (cM (hv pins s σ H _ I h) λr s1 ⟨v,H1,I1,rv,q1⟩=>cM (ho pins s1 σ H1 _ I1 q1) λu s2 ⟨x,H2,I2,rx,q2⟩=>cM (hi pins s2 σ H2 _ I2 q2) λiv s3 ⟨y,H3,I3,ry,a,H4,ex,g,q3⟩=>?_) hs
 subst ex
 obtain rfl:u=Value.ref a:=rx
 exact G0 hu I3 g ry rv λs4 I4=>⟨σ,H4,I4,q3⟩
end
theorem I0{P:Program}{w:World}{H:Hp}(h:Heap)(hb:sysModules<h.objs.size):dF P w H (h.push {cls:=.type "dict",data:=.dict #[]}) h.objs.size (.dT []):=
 ⟨zero_le _,beq_eq_false_iff_ne.mpr (Ne.symm (ne_of_lt hb)),[],.nil,_,#[],0,Heap.get?_push_size _ rfl,⟨rfl,rfl,rfl⟩,rfl,rfl,List.nodup_nil⟩
def SX:TE:=λ_ H Q=>∀p,H p=none->Q (.ref p) (upd H p (.dT []))
section
variable{X:Cx}{pos:Pos}
theorem rX:PE X (.Dict [] [] pos) SX:=λpins s σ H Q I h=>
 wpAny_Dict_empty ⟨.ref s.heap.objs.size,_,I.laid (a:=s.heap.objs.size) (o:=.dT []) (t':=s.toks) (λ_ _ q=>Heap.get?_push_of_some _ q) (Nat.le_refl _) (I0 s.heap I.big),rfl,h _ (I.hok.fresh (Nat.le_refl _))⟩
end
end L2
namespace L2
open PySem PySem.Spec PyProof.Rows
variable{X:Cx}
structure M1(X:Cx)(o:Expr)(m:Str)(apos:Pos)(e:Expr)(bV:Pos):Prop where
 base:attributeBase o m X.env (eval o X.env)=eval o X.env
 few:((backTo bV (starEach [e] X.env)).all (λx=> !x.1)&&(backToKw bV (keywordEach [] X.env)).all (λx=>x.1.isSome)
  &&decide (([e]:List Expr).length+([]:List Keyword).length+(if([]:List Keyword).isEmpty then 0 else 1)<30))=true
 line:(apos.endLine==bV.line)=true
 trees:backTo bV (starEach [e] X.env)=[(false,eval e X.env)]
def IsD(H:Hp)(a:Addr):Prop:=(∃kvs,Rd H a (.dK kvs))\/∃kvs,Rd H a (.dT kvs)
theorem SY{X:Cx}{pins:List (Addr×Obj)}{σ:St}{H:Hp}{s:Shared}{a:Addr}(I:Inv X pins σ H s)(d:IsD H a):
  s.TypeIs (.ref a) "dict"/\(∀b,Value.ref a=.ref b->∃ob,s.heap.get? b=some ob/\ob.dict=none)/\(a==sysModules)=false:=by
 rcases d with⟨kvs,e⟩|⟨kvs,e⟩
 ·obtain⟨_,hd,vs,_,dd⟩:=zc I.hok e
  refine⟨dd.typeIs,λb q=>?_,hd⟩
  cases q
  obtain⟨ob,_,_,h1,h2,_⟩:=dd
  exact⟨ob,h1,h2.2.1⟩
 ·obtain⟨_,hd,xs,_,dd⟩:=xj I.hok e
  refine⟨dd.typeIs,λb q=>?_,hd⟩
  cases q
  obtain⟨ob,_,_,h1,h2,_⟩:=dd
  exact⟨ob,h1,h2.2.1⟩
section
variable{X:Cx}{pins:List (Addr×Obj)}{σ:St}{H:Hp}{s:Shared}{a:Addr}{y d:V}{u r:Value}{o:Option V}{A:Around}{E:Value->Shared->Prop}
theorem S2{Q:Value->Shared->Prop}(hu:A.units+1<cLine)(I:Inv X pins σ H s)(g:nT H a y o)(ry:RelV y u)(h:∀w' s',Inv X pins σ H s'->RelV (o.getD .non) w'->Q w' s'):
  wpAny (model X.prog X.w) A (call (.builtin "dict.get") [.ref a,u]) Q E s:=by
 rcases g with⟨kvs,k,e,ey,l⟩|⟨kvs,k,b,e,ey,eb,l⟩
 ·subst ey
  obtain⟨z,hd,vs,rel,dd⟩:=zc I.hok e
  refine call_meetsIn slot_dict_get dd.typeIs entry_dict_get (PySem.F.args_dict_get_2 _ _) (meets_dict_get (dJ X.prog X.w) a (Bl ry) hd) ⟨_,dd.mapOf,h _ _ (I.tok _) ?_⟩
  rw[l]
  exact(rel.val k).getD rfl
 ·subst ey
  cases (show u=Value.ref b from ry)
  obtain⟨z,hd,xs,rel,dd⟩:=xj I.hok e
  refine call_meetsIn slot_dict_get dd.typeIs entry_dict_get (PySem.F.args_dict_get_2 _ _) (meetsH_dict_get (tupleKind (dJ X.prog X.w)) a b hd) ⟨tupleKind_room_in1 hu,k,xs,xh I.hok eb,dd,h _ _ (I.tok _) ?_⟩
  rw[l]
  exact(rel.val k).getD rfl
end
def S3(td ty:TE):TE:=λσ H Q=>td σ H λx H1=>∃a,x=.ref a/\IsD H1 a/\ty σ H1 λy H2=>∃o,nT H2 a y o/\Q (o.getD .non) H2
section
variable{X:Cx}{o e f:Expr}{apos bV:Pos}{td ty tx:TE}
theorem I8(hu:X.A.units+1<cLine)(ho:PE X o td)(he:PE X e ty)(m:M1 X o "get" apos e bV):PE X (.Call (.Attribute o "get" apos) [e] [] bV) (S3 td ty):=by
 intro pins s σ H Q I h
 refine wpAny_Call_method m.base m.few m.line PySem.F.plainAttrs_dict slot_dict_get PySem.F.type_dict_get (cM (ho pins s σ H _ I h) λu s1 ⟨x,H1,I1,rx,a,ex,d,q1⟩=>?_)
 subst ex
 obtain rfl:u=Value.ref a:=rx
 obtain⟨t1,t2,_⟩:=SY I1 d
 refine⟨t1,t2,?_⟩
 rw[m.trees]
 refine Calls.callWith_builtin rfl (Calls.evalArgs_plain (Calls.spliced_cons (cM (he pins s1 σ H1 _ I1 q1) λiv s2 ⟨y,H2,I2,ry,ov,g,q2⟩=>Calls.spliced_nil ?_)))
 exact S2 hu I2 g ry λw' s3 I3 oU=>⟨_,H2,I3,oU,q2⟩
end
end L2
namespace DL
open PySem PySem.Spec PyProof.Rows L2
abbrev St:=L2.St
inductive D where
 |non|bl (b:Bool)|int (i:Int)|str (x:Str)|lst (xs:List D)|tup (xs:List D)|exc (n:Str)|fn (n:Str)
 deriving Inhabited
inductive R (α:Type) where
 |ok (a:α)|err (c:Str)|bad
def R.bind {α β:Type}(r:R α)(f:α->R β):R β:=match r with
 |.ok a=>f a
 |.err c=>.err c
 |.bad=>.bad
def R.of {α:Type}:Option α->R α
 |some a=>.ok a
 |none=>.bad
theorem R.bO {α β:Type}(a:α)(f:α->R β):(R.ok a).bind f=f a:=rfl
theorem R.lP {α:Type}(a:α):R.of (some a)=.ok a:=rfl
def Good{α:Type}(E:Str->Hp->Prop)(H₀:Hp)(r:R α)(post:α->Prop):Prop:=match r with
 |.ok a=>post a
 |.err c=>∀H',aO H₀ H'->E c H'
 |.bad=>False
theorem Good.bind {α β:Type}{E:Str->Hp->Prop}{H₀:Hp}{r:R α}{k:α->R β}{post:β->Prop}(h:Good E H₀ (r.bind k) post):Good E H₀ r (λa=>Good E H₀ (k a) post):=by
 cases r with
 |ok a=>exact h
 |err c=>exact h
 |bad=>exact h
theorem Good.mono {α:Type}{E:Str->Hp->Prop}{H₀:Hp}{r:R α}{p q:α->Prop}(h:Good E H₀ r p)(w:∀a,r=.ok a->p a->q a):Good E H₀ r q:=by
 cases r with
 |ok a=>exact w a rfl h
 |err c=>exact h
 |bad=>exact h
theorem Good.Ez {α β:Type}{E:Str->Hp->Prop}{H₀:Hp}{r:R α}{k:α->R β}{p:α->Prop}{q:β->Prop}(h:Good E H₀ r p)(w:∀a,r=.ok a->p a->Good E H₀ (k a) q):Good E H₀ (r.bind k) q:=by
 cases r with
 |ok a=>exact w a rfl h
 |err c=>exact h
 |bad=>exact h
theorem Good.of {α:Type}{E:Str->Hp->Prop}{H₀:Hp}{o:Option α}{p:α->Prop}(h:Good E H₀ (R.of o) p):∃a,o=some a/\p a:=by
 cases o with
 |none=>exact False.elim h
 |some a=>exact⟨a,rfl,h⟩
def KL(K:PySem.W.Frag)(a:Addr)(xs:List V):Prop:=∃(o:Obj)(its:Array Value)(n:Nat),K.lookup a=some o/\o.cls=.type "list"/\o.dict=none/\o.data=.seq its n/\its.size<=sizeLine/\Vals xs its.toList
def KT(K:PySem.W.Frag)(a:Addr)(xs:List V):Prop:=∃(o:Obj)(its:Array Value)(n:Nat),K.lookup a=some o/\o.cls=.type "tuple"/\o.data=.seq its n/\its.size<=sizeLine/\Vals xs its.toList
def vK(K:PySem.W.Frag)(P:Addr->Prop)(H:Hp)(a:Addr)(vs:List V):Prop:=(P a/\Rd H a (.lst vs))\/KL K a vs
def G1(K:PySem.W.Frag)(P:Addr->Prop)(H:Hp)(a:Addr)(vs:List V):Prop:=(P a/\Rd H a (.tup vs))\/KT K a vs
theorem vK.sq {K:PySem.W.Frag}{P:Addr->Prop}{H:Hp}{a:Addr}{vs:List V}(h:vK K P H a vs):dG K H a vs:=h.elim (λz=>.inl z.2) .inr
theorem G1.sq {K:PySem.W.Frag}{P:Addr->Prop}{H:Hp}{a:Addr}{vs:List V}(h:G1 K P H a vs):Bc K H a vs:=h.elim (λz=>.inl z.2) .inr
theorem vK.any {K:PySem.W.Frag}{H:Hp}{a:Addr}{vs:List V}(h:dG K H a vs):vK K (λ_=>True) H a vs:=h.elim (λz=>.inl ⟨trivial,z⟩) .inr
def Z5(a C:Addr):Heap->Prop:=λh=>∃vs,h.get? a=some {cls:=.ref C,data:=.fields vs}
noncomputable def Is(K:PySem.W.Frag)(P:Addr->Prop)(H:Hp):D->V->Prop
 |.non,v=>v=.non
 |.bl b,v=>v=.bl b
 |.int i,v=>v=.int i
 |.str x,v=>v=.str x
 |.lst ds,v=>∃a vs,v=.ref a/\vK K P H a vs/\IsL ds vs
 |.tup ds,v=>∃a vs,v=.ref a/\G1 K P H a vs/\IsL ds vs
 |.exc n,v=>∃a C,v=.ref a/\P a/\nsIn K mainGlobals n=some (some (.ref C))/\H a=some (.ext (Z5 a C))
 |.fn n,v=>∃a,v=.ref a/\nsIn K mainGlobals n=some (some (.ref a))
where
 IsL:List D->List V->Prop
 |[],vs=>vs=[]
 |d::ds,vs=>∃v r,vs=v::r/\Is K P H d v/\IsL ds r
abbrev IsL(K:PySem.W.Frag)(P:Addr->Prop)(H:Hp):List D->List V->Prop:=Is.IsL K P H
section
variable{K:PySem.W.Frag}{P P':Addr->Prop}{H H':Hp}
structure Ext(P P':Addr->Prop)(H H':Hp):Prop where
 p:∀a o,P a->H a=some o->P' a
 h:∀a o,P a->H a=some o->H' a=some o
theorem Ext.rd (e:Ext P P' H H'){a:Addr}{u:HO}(p:P a)(r:Rd H a u):P' a/\Rd H' a u:=by
 rcases r with r|⟨o,r⟩
 ·exact⟨e.p a _ p r,.inl (e.h a _ p r)⟩
 ·exact⟨e.p a _ p r,.inr ⟨o,e.h a _ p r⟩⟩
theorem vK.ext (e:Ext P P' H H'){a:Addr}{vs:List V}(h:vK K P H a vs):vK K P' H' a vs:=h.elim (λz=>.inl (e.rd z.1 z.2)) .inr
theorem G1.ext (e:Ext P P' H H'){a:Addr}{vs:List V}(h:G1 K P H a vs):G1 K P' H' a vs:=h.elim (λz=>.inl (e.rd z.1 z.2)) .inr
mutual
theorem Is.ext (e:Ext P P' H H'):∀(d:D)(v:V),Is K P H d v->Is K P' H' d v
 |.non,_,h=>h
 |.bl _,_,h=>h
 |.int _,_,h=>h
 |.str _,_,h=>h
 |.lst ds,_,⟨a,vs,e1,l,q⟩=>⟨a,vs,e1,l.ext e,IsL.ext e ds vs q⟩
 |.tup ds,_,⟨a,vs,e1,l,q⟩=>⟨a,vs,e1,l.ext e,IsL.ext e ds vs q⟩
 |.exc n,_,⟨a,C,e1,p,c,q⟩=>⟨a,C,e1,e.p a _ p q,c,e.h a _ p q⟩
 |.fn _,_,h=>h
theorem IsL.ext (e:Ext P P' H H'):∀(ds:List D)(vs:List V),IsL K P H ds vs->IsL K P' H' ds vs
 |[],_,h=>h
 |d::ds,_,⟨v,r,e1,p,q⟩=>⟨v,r,e1,Is.ext e d v p,IsL.ext e ds r q⟩
end
theorem Ext.same (s:aO H H'):Ext P P H H':=⟨λ_ _ p _=>p,λa o _ h=>s a o h⟩
theorem Is.same (s:aO H H'){d:D}{v:V}(h:Is K P H d v):Is K P H' d v:=Is.ext (.same s) d v h
theorem IsL.same (s:aO H H'){d:List D}{v:List V}(h:IsL K P H d v):IsL K P H' d v:=IsL.ext (.same s) d v h
theorem Is.weak {d:D}{v:V}(h:Is K P H d v):Is K (λ_=>True) H d v:=Is.ext ⟨λ_ _ _ _=>trivial,λ_ _ _ q=>q⟩ d v h
theorem IsL.weak {d:List D}{v:List V}(h:IsL K P H d v):IsL K (λ_=>True) H d v:=IsL.ext ⟨λ_ _ _ _=>trivial,λ_ _ _ q=>q⟩ d v h
def toV:D->Option V
 |.non=>some .non
 |.bl b=>some (.bl b)
 |.int i=>some (.int i)
 |.str x=>some (.str x)
 |_=>none
theorem Is.sc {d:D}{z:V}(h:toV d=some z):Is K P H d z:=by
 cases d with
 |non=>cases h;rfl
 |bl b=>cases h;rfl
 |int b=>cases h;rfl
 |str b=>cases h;rfl
 |lst b=>cases h
 |exc _=>cases h
 |fn _=>cases h
 |tup b=>cases h
theorem Is.Qh {d:D}{z v:V}(h:toV d=some z)(i:Is K P H d v):v=z:=by
 cases d with
 |non=>cases h;exact i
 |bl b=>cases h;exact i
 |int b=>cases h;exact i
 |str b=>cases h;exact i
 |lst b=>cases h
 |exc _=>cases h
 |fn _=>cases h
 |tup b=>cases h
theorem IsL.length:∀{ds:List D}{vs:List V},IsL K P H ds vs->vs.length=ds.length
 |[],_,h=>by subst h;rfl
 |d::ds,_,⟨v,r,e,_,q⟩=>by subst e;simp[IsL.length q]
theorem IsL.get:∀{ds:List D}{vs:List V}{i:Nat}{d:D},IsL K P H ds vs->ds[i]?=some d->∃v,vs[i]?=some v/\Is K P H d v
 |[],_,_,_,_,e=>by simp at e
 |d::ds,_,0,_,⟨v,r,e,p,q⟩,e2=>by subst e;simp at e2;subst e2;exact⟨v,rfl,p⟩
 |d::ds,_,i+1,_,⟨v,r,e,p,q⟩,e2=>by
  subst e
  obtain⟨v',h1,h2⟩:=IsL.get (i:=i) q (by simpa using e2)
  exact⟨v',by simpa using h1,h2⟩
theorem IsL.app:∀{ds es:List D}{vs ws:List V},IsL K P H ds vs->IsL K P H es ws->IsL K P H (ds++es) (vs++ws)
 |[],_,_,_,h,q=>by
  have h':_=[]:=h
  subst h';exact q
 |d::ds,_,_,_,⟨v,r,e,p,q⟩,q2=>by subst e;exact⟨v,_,rfl,p,IsL.app q q2⟩
theorem IsL.one {d:D}{v:V}(h:Is K P H d v):IsL K P H [d] [v]:=⟨v,[],rfl,h,rfl⟩
theorem IsL.cons {d:D}{v:V}{ds:List D}{vs:List V}(h:Is K P H d v)(q:IsL K P H ds vs):IsL K P H (d::ds) (v::vs):=⟨v,vs,rfl,h,q⟩
theorem IsL.drop:∀{ds:List D}{vs:List V}(n:Nat),IsL K P H ds vs->IsL K P H (ds.drop n) (vs.drop n)
 |_,_,0,h=>h
 |[],_,n+1,h=>by
  have h':_=[]:=h
  subst h';exact rfl
 |d::ds,_,n+1,⟨v,r,e,p,q⟩=>by subst e;exact IsL.drop n q
theorem IsL.take:∀{ds:List D}{vs:List V}(n:Nat),IsL K P H ds vs->IsL K P H (ds.take n) (vs.take n)
 |_,_,0,_=>rfl
 |[],_,n+1,h=>by
  have h':_=[]:=h
  subst h';exact rfl
 |d::ds,_,n+1,⟨v,r,e,p,q⟩=>by subst e;exact⟨v,_,rfl,p,IsL.take n q⟩
theorem IsL.set:∀{ds:List D}{vs:List V}{d:D}{v:V}(i:Nat),IsL K P H ds vs->Is K P H d v->IsL K P H (ds.set i d) (vs.set i v)
 |[],_,_,_,_,h,_=>by
  have h':_=[]:=h
  subst h';exact rfl
 |d::ds,_,_,_,0,⟨v,r,e,p,q⟩,h=>by subst e;exact⟨_,_,rfl,h,q⟩
 |d::ds,_,_,_,i+1,⟨v,r,e,p,q⟩,h=>by subst e;exact⟨v,_,rfl,p,IsL.set i q h⟩
end
abbrev NH:=Int×Int×List Int
inductive Ct where
 |ls (nss:List (List Int))|tp (nss:List (List Int))|dk (ks:List Int)|tq (n:Int) (ns:List Int)|tr (ts:List NH)
instance:Coe (List (List Int)) Ct:=⟨Ct.ls⟩
inductive Sl where
 |no|val (d:D)|own (xs:List D)|raw (v:V)|deep (c:Ct)
abbrev DE:=List Sl
structure Gh where
 P₀:Addr->Prop
 H₀:Hp
def Gh.P (g:Gh)(os:List Addr)(a:Addr):Prop:=(g.P₀ a\/g.H₀ a=none)/\a∉os
structure AR(hd:List V->HO)(H:Hp)(os:List Addr)(a:Addr)(as:List Addr)(nss:List (List Int)):Prop where
 ma:a∈os
 ha:H a=some (hd (as.map V.ref))
 len:as.length=nss.length
 nd:(a::as).Nodup
 it:∀(k:Nat)(b:Addr)(ns:List Int),as[k]?=some b->nss[k]?=some ns->b∈os/\H b=some (.lst (ns.map V.int))
theorem AR.mem {hd:List V->HO}{H:Hp}{os:List Addr}{a:Addr}{as:List Addr}{nss:List (List Int)}(d:AR hd H os a as nss):∀x∈a::as,x∈os/\∃o,H x=some o:=λx hx=>by
 rcases mem_cons.mp hx with rfl|hx
 ·exact⟨d.ma,_,d.ha⟩
 ·obtain⟨k,hk,rfl⟩:=getElem_of_mem hx
  have NI:k<nss.length:=by rw[<-d.len];exact hk
  have q:=d.it k _ _ (getElem?_eq_getElem hk) (getElem?_eq_getElem NI)
  exact⟨q.1,_,q.2⟩
theorem AR.to {hd:List V->HO}{H H':Hp}{os jN:List Addr}{a:Addr}{as:List Addr}{nss:List (List Int)}(d:AR hd H os a as nss)(h:∀x∈a::as,x∈jN/\H' x=H x):AR hd H' jN a as nss:=
 ⟨(h a (by simp)).1,by rw[(h a (by simp)).2];exact d.ha,d.len,d.nd,λk b ns e1 e2=>by
  have q:=d.it k b ns e1 e2
  have hb:=h b (mem_cons_of_mem _ (mem_of_getElem? e1))
  exact⟨hb.1,by rw[hb.2];exact q.2⟩⟩
def WB(H:Hp)(as:List Addr)(t:NH)(v:V):Prop:=∃b c,v=.ref b/\b∈as/\c∈as/\H b=some (.tup [.int t.1,.int t.2.1,.ref c])/\H c=some (.lst (t.2.2.map V.int))
structure S4(H:Hp)(os:List Addr)(a:Addr)(as:List Addr)(ts:List NH):Prop where
 ma:a∈os
 na:a∉as
 mem:∀x∈as,x∈os/\∃o,H x=some o
 at_:∃vs,H a=some (.lst vs)/\vs.length=ts.length/\∀(k:Nat)(t:NH)(v:V),ts[k]?=some t->vs[k]?=some v->WB H as t v
theorem WB.to {H H':Hp}{as as':List Addr}{t:NH}{v:V}(d:WB H as t v)(h:∀x∈as,x∈as'/\H' x=H x):WB H' as' t v:=by
 obtain⟨b,c,e,h1,h2,h3,h4⟩:=d
 exact⟨b,c,e,(h b h1).1,(h c h2).1,by rw[(h b h1).2];exact h3,by rw[(h c h2).2];exact h4⟩
theorem S4.to {H H':Hp}{os jN:List Addr}{a:Addr}{as:List Addr}{ts:List NH}(d:S4 H os a as ts)(h:∀x∈a::as,x∈jN/\H' x=H x):S4 H' jN a as ts:=by
 obtain⟨vs,h1,h2,h3⟩:=d.at_
 refine⟨(h a (by simp)).1,d.na,λx hx=>?_,vs,by rw[(h a (by simp)).2];exact h1,h2,λk t v e1 e2=>(h3 k t v e1 e2).to λx hx=>⟨hx,(h x (mem_cons_of_mem _ hx)).2⟩⟩
 obtain⟨q1,o,q2⟩:=d.mem x hx
 have q:=h x (mem_cons_of_mem _ hx)
 exact⟨q.1,o,by rw[q.2];exact q2⟩
def kvT(ks:List Int):List (Key×V):=ks.map λk=>(Sum.inl k,V.bl true)
abbrev Dp(H:Hp)(os:List Addr)(a:Addr)(as:List Addr)(c:Ct):Prop:=match c with
 |.ls nss=>AR HO.lst H os a as nss
 |.tp nss=>AR HO.tup H os a as nss
 |.dk ks=>a∈os/\as=[]/\H a=some (.dK (kvT ks))
 |.tq n ns=>∃b,as=[b]/\a∈os/\b∈os/\a≠b/\H a=some (.tup [.int n,.ref b])/\H b=some (.lst (ns.map V.int))
 |.tr ts=>S4 H os a as ts
theorem Dp.mem {H:Hp}{os:List Addr}{a:Addr}{as:List Addr}{c:Ct}(d:Dp H os a as c):∀x∈a::as,x∈os/\∃o,H x=some o:=by
 cases c with
 |ls nss=>exact AR.mem d
 |tp nss=>exact AR.mem d
 |dk ks=>
  obtain⟨h1,rfl,h2⟩:=d
  intro x hx
  rcases mem_cons.mp hx with rfl|hx
  ·exact⟨h1,_,h2⟩
  ·cases hx
 |tq n ns=>
  obtain⟨b,rfl,h1,h2,h3,h4,h5⟩:=d
  intro x hx
  rcases mem_cons.mp hx with rfl|hx
  ·exact⟨h1,_,h4⟩
  ·rcases mem_cons.mp hx with rfl|hx
   ·exact⟨h2,_,h5⟩
   ·cases hx
 |tr ts=>
  have d':S4 H os a as ts:=d
  intro x hx
  rcases mem_cons.mp hx with rfl|hx
  ·obtain⟨vs,h1,_⟩:=d'.at_
   exact⟨d'.ma,_,h1⟩
  ·exact d'.mem x hx
theorem Dp.to {H H':Hp}{os jN:List Addr}{a:Addr}{as:List Addr}{c:Ct}(d:Dp H os a as c)(h:∀x∈a::as,x∈jN/\H' x=H x):Dp H' jN a as c:=by
 cases c with
 |ls nss=>exact AR.to d h
 |tp nss=>exact AR.to d h
 |dk ks=>
  obtain⟨h1,rfl,h2⟩:=d
  exact⟨(h a (by simp)).1,rfl,by rw[(h a (by simp)).2];exact h2⟩
 |tq n ns=>
  obtain⟨b,rfl,h1,h2,h3,h4,h5⟩:=d
  exact⟨b,rfl,(h a (by simp)).1,(h b (by simp)).1,h3,by rw[(h a (by simp)).2];exact h4,by rw[(h b (by simp)).2];exact h5⟩
 |tr ts=>exact S4.to d h
theorem Dp.ma {H:Hp}{os:List Addr}{a:Addr}{as:List Addr}{nss:List (List Int)}(d:Dp H os a as (.ls nss)):a∈os:=AR.ma d
theorem Dp.ha {H:Hp}{os:List Addr}{a:Addr}{as:List Addr}{nss:List (List Int)}(d:Dp H os a as (.ls nss)):H a=some (.lst (as.map V.ref)):=AR.ha d
theorem Dp.len {H:Hp}{os:List Addr}{a:Addr}{as:List Addr}{nss:List (List Int)}(d:Dp H os a as (.ls nss)):as.length=nss.length:=AR.len d
theorem Dp.nd {H:Hp}{os:List Addr}{a:Addr}{as:List Addr}{nss:List (List Int)}(d:Dp H os a as (.ls nss)):(a::as).Nodup:=AR.nd d
theorem Dp.it {H:Hp}{os:List Addr}{a:Addr}{as:List Addr}{nss:List (List Int)}(d:Dp H os a as (.ls nss)):∀(k:Nat)(b:Addr)(ns:List Int),as[k]?=some b->nss[k]?=some ns->b∈os/\H b=some (.lst (ns.map V.int)):=AR.it d
structure Vs(A:Nat->List Addr)(env:DE)(σ:St)(H:Hp)(os:List Addr):Prop where
 dp:∀(i:Nat)(nss:Ct),env[i]?=some (.deep nss)->∃a as,A i=a::as/\σ[i]?=some (some (.ref a))/\Dp H os a as nss
 ow:∀(i:Nat)(nss:Ct)(j:Nat)(xs:List D)(b:Addr),env[i]?=some (.deep nss)->env[j]?=some (.own xs)->σ[j]?=some (some (.ref b))->b∉A i
 dj:∀(i j:Nat)(nss rf:Ct),i≠j->env[i]?=some (.deep nss)->env[j]?=some (.deep rf)->∀x∈A i,x∉A j
theorem Vs.mem {A:Nat->List Addr}{env:DE}{σ:St}{H:Hp}{os:List Addr}(d:Vs A env σ H os){i:Nat}{nss:Ct}(e:env[i]?=some (.deep nss)):∀x∈A i,x∈os/\∃o,H x=some o:=λx hx=>by
 obtain⟨a,as,h1,_,h3⟩:=d.dp i nss e
 rw[h1]at hx
 exact h3.mem x hx
theorem Vs.to {A:Nat->List Addr}{env yF:DE}{σ σ':St}{H H':Hp}{os jN:List Addr}(d:Vs A env σ H os)
  (hd:∀(j:Nat)(nss:Ct),yF[j]?=some (.deep nss)->env[j]?=some (.deep nss)/\σ'[j]?=σ[j]?)
  (ho:∀(j:Nat)(xs:List D)(b:Addr),yF[j]?=some (.own xs)->σ'[j]?=some (some (.ref b))->(∃ys,env[j]?=some (.own ys)/\σ[j]?=some (some (.ref b)))\/b∉os)
  (hH:∀(i:Nat)(nss:Ct),env[i]?=some (.deep nss)->∀x∈A i,x∈jN/\H' x=H x):Vs A yF σ' H' jN where
 dp i nss e:=by
  obtain⟨e',q⟩:=hd i nss e
  obtain⟨a,as,h1,h2,h3⟩:=d.dp i nss e'
  exact⟨a,as,h1,by rw[q];exact h2,h3.to λx hx=>hH i nss e' x (by rw[h1];exact hx)⟩
 ow i nss j xs b e1 e2 e3:=by
  obtain⟨NJ,_⟩:=hd i nss e1
  rcases ho j xs b e2 e3 with⟨ys,q1,q2⟩|q
  ·exact d.ow i nss j ys b NJ q1 q2
  ·exact λz=>q (d.mem NJ b z).1
 dj i j nss rf hij e1 e2:=d.dj i j nss rf hij (hd i nss e1).1 (hd j rf e2).1
def Di(env:DE)(σ:St)(H:Hp)(os:List Addr):Prop:=∃A,Vs A env σ H os
theorem Di.none {env:DE}{σ:St}{H:Hp}{os:List Addr}(h:∀(i:Nat)(nss:Ct),env[i]?≠some (.deep nss)):Di env σ H os:=
 ⟨λ_=>[],λi nss e=>(h i nss e).elim,λi nss _ _ _ e=>(h i nss e).elim,λi _ nss _ _ e=>(h i nss e).elim⟩
structure Rel(K:PySem.W.Frag)(g:Gh)(env:DE)(σ:St)(H:Hp)(os:List Addr):Prop where
 len:σ.length=env.length
 ext:aO g.H₀ H
 val:∀(i:Nat)(d:D),env[i]?=some (.val d)->∃v,σ[i]?=some (some v)/\Is K (g.P os) H d v
 own:∀(i:Nat)(xs:List D),env[i]?=some (.own xs)->∃a vs,σ[i]?=some (some (.ref a))/\a∈os/\H a=some (.lst vs)/\IsL K (g.P os) H xs vs
 inj:∀(i j:Nat)(xs ys:List D)(a:Addr),env[i]?=some (.own xs)->env[j]?=some (.own ys)->σ[i]?=some (some (.ref a))->σ[j]?=some (some (.ref a))->i=j
 new:∀a∈os,g.H₀ a=none/\∃o,H a=some o
 raw:∀(i:Nat)(v:V),env[i]?=some (.raw v)->σ[i]?=some (some v)
 I9:Di env σ H os
section
variable{K:PySem.W.Frag}{g:Gh}{env:DE}{σ:St}{H H':Hp}{os:List Addr}
theorem Rel.same (r:Rel K g env σ H os)(s:aO H H'):Rel K g env σ H' os:=
 ⟨r.len,r.ext.trans s,λi d e=>let⟨v,h1,h2⟩:=r.val i d e;⟨v,h1,h2.same s⟩,
  λi xs e=>let⟨a,vs,h1,h2,h3,h4⟩:=r.own i xs e;⟨a,vs,h1,h2,s a _ h3,h4.same s⟩,r.inj,λa ha=>⟨(r.new a ha).1,let⟨o,h⟩:=(r.new a ha).2;⟨o,s a o h⟩⟩,r.raw,by
  obtain⟨A,d⟩:=r.I9
  exact⟨A,d.to (λj nss e=>⟨e,rfl⟩) (λj xs b e q=>.inl ⟨xs,e,q⟩) λi nss e x hx=>by
   obtain⟨q1,o,q2⟩:=d.mem e x hx
   exact⟨q1,by rw[s x o q2,q2]⟩⟩⟩
theorem Rel.fresh (r:Rel K g env σ H os){a:Addr}(h:H a=none):g.P os a:=by
 refine⟨.inr (r.ext.free h),λhm=>?_⟩
 obtain⟨o,e⟩:=(r.new a hm).2
 rw[h]at e;cases e
theorem aQ{p:Addr}(h:H p=none)(o:HO):aO H (upd H p o):=λb u q=>by rw[aj (aA q h)];exact q
theorem Rel.set (r:Rel K g env σ H os)(i:Nat){d:D}{v:V}(h:Is K (g.P os) H d v):Rel K g (env.set i (.val d)) (σ.set i (some v)) H os:=by
 refine⟨by simp[r.len],r.ext,λj d' e=>?_,λj xs e=>?_,λj k xs ys a e1 e2 e3 e4=>?_,r.new,λj w e=>?_,?_⟩
 ·by_cases hj:i=j
  ·subst hj
   have hi:i<env.length:=by
    have:=(List.getElem?_eq_some_iff.mp e).1
    simpa using this
   rw[getElem?_set_self hi]at e
   cases e
   exact⟨v,by rw[getElem?_set_self (by rw[r.len];exact hi)],h⟩
  ·rw[getElem?_set_ne hj]at e
   obtain⟨v',h1,h2⟩:=r.val j d' e
   exact⟨v',by rw[getElem?_set_ne hj];exact h1,h2⟩
 ·by_cases hj:i=j
  ·subst hj
   have hi:i<env.length:=by
    have:=(List.getElem?_eq_some_iff.mp e).1
    simpa using this
   rw[getElem?_set_self hi]at e
   cases e
  ·rw[getElem?_set_ne hj]at e
   obtain⟨a,vs,h1,h2⟩:=r.own j xs e
   exact⟨a,vs,by rw[getElem?_set_ne hj];exact h1,h2⟩
 ·have f:∀(j:Nat)(xs:List D),(env.set i (Sl.val d))[j]?=some (.own xs)->i≠j:=λj xs e hj=>by
   subst hj
   have hi:i<env.length:=by
    have:=(List.getElem?_eq_some_iff.mp e).1
    simpa using this
   rw[getElem?_set_self hi]at e
   cases e
  have hj:=f j xs e1
  have hk:=f k ys e2
  rw[getElem?_set_ne hj]at e1 e3
  rw[getElem?_set_ne hk]at e2 e4
  exact r.inj j k xs ys a e1 e2 e3 e4
 ·by_cases hj:i=j
  ·subst hj
   have hi:i<env.length:=by
    have:=(List.getElem?_eq_some_iff.mp e).1
    simpa using this
   rw[getElem?_set_self hi]at e
   cases e
  ·rw[getElem?_set_ne hj]at e⊢
   exact r.raw j w e
 ·obtain⟨A,dd⟩:=r.I9
  have f:∀(j:Nat)(sl:Sl),(env.set i (Sl.val d))[j]?=some sl->(∀d',sl≠.val d')->i≠j/\env[j]?=some sl:=λj sl q hn=>by
   by_cases hj:i=j
   ·subst hj
    have hi:i<env.length:=by
     have:=(List.getElem?_eq_some_iff.mp q).1
     simpa using this
    rw[getElem?_set_self hi]at q
    exact(hn d (Option.some.inj q).symm).elim
   ·rw[getElem?_set_ne hj]at q
    exact⟨hj,q⟩
  refine⟨A,dd.to (λj nss q=>?_) (λj xs b q z=>?_) λj nss q x hx=>⟨(dd.mem q x hx).1,rfl⟩⟩
  ·obtain⟨hj,q⟩:=f j _ q (λ_ z=>nomatch z)
   exact⟨q,by rw[getElem?_set_ne hj]⟩
  ·obtain⟨hj,q⟩:=f j _ q (λ_ z=>nomatch z)
   rw[getElem?_set_ne hj]at z
   exact .inl ⟨xs,q,z⟩
theorem Rel.apart (r:Rel K g env σ H os){a:Addr}(s:aO H H')(hn:H a=none):Ext (g.P os) (g.P (a::os)) H H':=
 ⟨λb o p e=>⟨p.1,λhm=>by
  rcases mem_cons.mp hm with z|z
  ·rw[z,hn]at e;cases e
  ·exact p.2 z⟩,λb o _ e=>s b o e⟩
theorem bz{α:Type}{l:List α}{i:Nat}{x y:α}(e:(l.set i x)[i]?=some y):y=x:=by
 have hi:i<l.length:=by
  have:=(List.getElem?_eq_some_iff.mp e).1
  simpa using this
 rw[getElem?_set_self hi]at e
 cases e;rfl
theorem zd{α:Type}{l:List α}{i j:Nat}{x y:α}(e:(l.set i x)[j]?=some y):j<l.length:=by
 have:=(List.getElem?_eq_some_iff.mp e).1
 simpa using this
theorem Rel.WC (r:Rel K g env σ H os)(s:aO H H')(i:Nat){xs:List D}{vs:List V}{a:Addr}(hn:H a=none)(hH:H' a=some (.lst vs))(h:IsL K (g.P (a::os)) H' xs vs):
  Rel K g (env.set i (.own xs)) (σ.set i (some (.ref a))) H' (a::os):=by
 have ap:=r.apart s hn
 have old:∀(j:Nat)(ys:List D),env[j]?=some (.own ys)->σ[j]?=some (some (.ref a))->False:=λj ys e q=>by
  obtain⟨b,ws,h1,h2,h3,_⟩:=r.own j ys e
  rw[q]at h1
  cases h1
  rw[hn]at h3;cases h3
 refine⟨by simp[r.len],r.ext.trans s,λj d' e=>?_,λj ys e=>?_,λj k ys zs b e1 e2 e3 e4=>?_,λb hb=>?_,λj w e=>?_,?_⟩
 ·by_cases hj:i=j
  ·subst hj
   exact nomatch bz e
  ·rw[getElem?_set_ne hj]at e
   obtain⟨v,h1,h2⟩:=r.val j d' e
   exact⟨v,by rw[getElem?_set_ne hj];exact h1,Is.ext ap _ _ h2⟩
 ·by_cases hj:i=j
  ·subst hj
   have hi:=zd e
   have e':=bz e
   cases e'
   exact⟨a,vs,by rw[getElem?_set_self (by rw[r.len];exact hi)],by simp,hH,h⟩
  ·rw[getElem?_set_ne hj]at e
   obtain⟨b,ws,h1,h2,h3,h4⟩:=r.own j ys e
   exact⟨b,ws,by rw[getElem?_set_ne hj];exact h1,mem_cons_of_mem _ h2,s _ _ h3,IsL.ext ap _ _ h4⟩
 ·by_cases hj:i=j
  ·subst hj
   by_cases hk:i=k
   ·exact hk
   ·have e3':=bz e3
    cases e3'
    rw[getElem?_set_ne hk]at e2 e4
    exact(old k zs e2 e4).elim
  ·by_cases hk:i=k
   ·subst hk
    have e4':=bz e4
    cases e4'
    rw[getElem?_set_ne hj]at e1 e3
    exact(old j ys e1 e3).elim
   ·rw[getElem?_set_ne hj]at e1 e3
    rw[getElem?_set_ne hk]at e2 e4
    exact r.inj j k ys zs b e1 e2 e3 e4
 ·rcases mem_cons.mp hb with rfl|hb
  ·exact⟨r.ext.free hn,_,hH⟩
  ·obtain⟨h1,o,h2⟩:=r.new b hb
   exact⟨h1,o,s _ _ h2⟩
 ·by_cases hj:i=j
  ·subst hj
   exact nomatch bz e
  ·rw[getElem?_set_ne hj]at e⊢
   exact r.raw j w e
 ·obtain⟨A,dd⟩:=r.I9
  have f:∀(j:Nat)(sl:Sl),(env.set i (Sl.own xs))[j]?=some sl->i≠j->env[j]?=some sl:=λj sl q hj=>by
   rwa [getElem?_set_ne hj]at q
  refine⟨A,dd.to (λj nss q=>?_) (λj ys b q z=>?_) λj nss q x hx=>?_⟩
  ·by_cases hj:i=j
   ·subst hj
    exact nomatch bz q
   ·exact⟨f j _ q hj,by rw[getElem?_set_ne hj]⟩
  ·by_cases hj:i=j
   ·subst hj
    have z':=bz z
    cases z'
    exact .inr λhm=>by
     obtain⟨o,ho⟩:=(r.new a hm).2
     rw[hn]at ho
     cases ho
   ·rw[getElem?_set_ne hj]at z
    exact .inl ⟨ys,f j _ q hj,z⟩
  ·obtain⟨q1,o,q2⟩:=dd.mem q x hx
   exact⟨mem_cons_of_mem _ q1,by rw[s x o q2,q2]⟩
theorem Rel.mut (r:Rel K g env σ H os){i:Nat}{xs Z6:List D}{EA:List V}{a:Addr}(e:env[i]?=some (.own xs))(hσ:σ[i]?=some (some (.ref a)))(ha:a∈os)(h:IsL K (g.P os) H Z6 EA):
  Rel K g (env.set i (.own Z6)) σ (upd H a (.lst EA)) os:=by
 have ex:Ext (g.P os) (g.P os) H (upd H a (.lst EA)):=⟨λ_ _ p _=>p,λb o p q=>by rw[aj (λz=>p.2 (by rw[z];exact ha))];exact q⟩
 refine⟨by simp[r.len],λb o q=>?_,λj d' e'=>?_,λj ys e'=>?_,λj k ys zs b e1 e2 e3 e4=>?_,λb hb=>?_,λj w e'=>?_,?_⟩
 ·rw[aj (λz=>by rw[z,(r.new a ha).1]at q;cases q)]
  exact r.ext b o q
 ·by_cases hj:i=j
  ·subst hj
   exact nomatch bz e'
  ·rw[getElem?_set_ne hj]at e'
   obtain⟨v,h1,h2⟩:=r.val j d' e'
   exact⟨v,h1,Is.ext ex _ _ h2⟩
 ·by_cases hj:i=j
  ·subst hj
   have e2:=bz e'
   cases e2
   exact⟨a,EA,hσ,ha,au,IsL.ext ex _ _ h⟩
  ·rw[getElem?_set_ne hj]at e'
   obtain⟨b,ws,h1,h2,h3,h4⟩:=r.own j ys e'
   have hb:b≠a:=λz=>by
    subst z
    exact hj (r.inj i j xs ys b e e' hσ h1)
   exact⟨b,ws,h1,h2,by rw[aj hb];exact h3,IsL.ext ex _ _ h4⟩
 ·have f:∀(j:Nat)(ys:List D),(env.set i (Sl.own Z6))[j]?=some (.own ys)->∃ys',env[j]?=some (.own ys'):=λj ys q=>by
   by_cases hj:i=j
   ·subst hj;exact⟨xs,e⟩
   ·rw[getElem?_set_ne hj]at q;exact⟨ys,q⟩
  obtain⟨y1,f1⟩:=f j ys e1
  obtain⟨y2,f2⟩:=f k zs e2
  exact r.inj j k y1 y2 b f1 f2 e3 e4
 ·obtain⟨h1,o,h2⟩:=r.new b hb
  refine⟨h1,?_⟩
  by_cases z:b=a
  ·exact⟨_,by rw[z];exact au⟩
  ·exact⟨o,by rw[aj z];exact h2⟩
 ·by_cases hj:i=j
  ·subst hj
   exact nomatch bz e'
  ·rw[getElem?_set_ne hj]at e'
   exact r.raw j w e'
 ·obtain⟨A,dd⟩:=r.I9
  refine⟨A,dd.to (λj nss q=>?_) (λj ys b q z=>?_) λj nss q x hx=>⟨(dd.mem q x hx).1,?_⟩⟩
  ·by_cases hj:i=j
   ·subst hj
    exact nomatch bz q
   ·rw[getElem?_set_ne hj]at q
    exact⟨q,rfl⟩
  ·by_cases hj:i=j
   ·subst hj
    exact .inl ⟨xs,e,z⟩
   ·rw[getElem?_set_ne hj]at q
    exact .inl ⟨ys,q,z⟩
  ·have hxa:x≠a:=λz=>dd.ow j nss i xs a q e hσ (by rw[<-z];exact hx)
   rw[aj hxa]
end
section
variable(K:PySem.W.Frag)(E:Str->Hp->Prop)
def tD(f:DE->R D):TE:=λσ H Q=>∃g env os,Rel K g env σ H os/\Good E g.H₀ (f env) λd=>∀v H',aO H H'->Is K (g.P os) H' d v->Q v H'
def tB(f:DE->R D):TE:=λσ H Q=>∃g env os,Rel K g env σ H os/\Good E g.H₀ (f env) λd=>∀v H',aO H H'->Is K (λ_=>True) H' d v->Q v H'
def tF(f:DE->R (List D)):TE:=λσ H Q=>∃g env os,Rel K g env σ H os/\Good E g.H₀ (f env) λxs=>∀a vs H',aO H H'->H a=none->H' a=some (.lst vs)->IsL K (g.P (a::os)) H' xs vs->Q (.ref a) H'
def tL(f:DE->R (List D)):TE:=λσ H Q=>∃g env os,Rel K g env σ H os/\Good E g.H₀ (f env) λxs=>∀a vs H',aO H H'->dG K H' a vs->IsL K (g.P os) H' xs vs->Q (.ref a) H'
def tT(f:DE->R Bool):TT:=λσ H Q=>∃g env os,Rel K g env σ H os/\Good E g.H₀ (f env) λb=>∀H',aO H H'->Q b H'
def Ih(f:DE->R (List D)):TA:=λσ H Q=>∃g env os,Rel K g env σ H os/\Good E g.H₀ (f env) λds=>∀vs H',aO H H'->IsL K (g.P os) H' ds vs->Q vs H'
def uu(f:DE->R (List D)):TA:=λσ H Q=>∃g env os,Rel K g env σ H os/\Good E g.H₀ (f env) λds=>∀vs H',aO H H'->IsL K (λ_=>True) H' ds vs->Q vs H'
end
inductive Out where
 |nx (e:DE)|bk (e:DE)|ct (e:DE)|rt (d:D)|ph (xs:List D)|EB (nss:List (List Int))|MI (nss:List (List Int))|NK (q:Int×List Int)|NN (c:Ct)
structure uv(H:Hp)(os:List Addr)(H':Hp)(jN:List Addr):Prop where
 own:∀a∈jN,a∈os\/H a=none
 grow:∀a,H' a=none->H a=none
 keep:∀a o,a∉os->H a=some o->H' a=some o
theorem uv.refl (H:Hp)(os:List Addr):uv H os H os:=⟨λ_ h=>.inl h,λ_ h=>h,λ_ _ _ h=>h⟩
theorem uv.same {H H':Hp}(s:aO H H')(os:List Addr):uv H os H' os:=⟨λ_ h=>.inl h,λ_ h=>s.free h,λ_ _ _ h=>s _ _ h⟩
theorem uv.trans {H H1 H2:Hp}{os WD Vt:List Addr}(a:uv H os H1 WD)(b:uv H1 WD H2 Vt):uv H os H2 Vt where
 own:=λx h=>(b.own x h).elim (λz=>a.own x z) λz=>.inr (a.grow x z)
 grow:=λx h=>a.grow x (b.grow x h)
 keep:=λx o hn h=>b.keep x o (λz=>(a.own x z).elim hn λq=>by rw[h]at q;cases q) (a.keep x o hn h)
theorem uv.ext {g:Gh}{H H':Hp}{os jN:List Addr}(s:uv H os H' jN):Ext (g.P os) (g.P jN) H H':=
 ⟨λa o p h=>⟨p.1,λz=>(s.own a z).elim p.2 λq=>by rw[h]at q;cases q⟩,λa o p h=>s.keep a o p.2 h⟩
structure Ja(hd:List V->HO)(H₀ H:Hp)(a:Addr)(as:List Addr)(nss:List (List Int)):Prop where
 fr:∀b∈a::as,H₀ b=none
 nd:(a::as).Nodup
 len:as.length=nss.length
 ha:H a=some (hd (as.map V.ref))
 it:∀(k:Nat)(b:Addr)(ns:List Int),as[k]?=some b->nss[k]?=some ns->H b=some (.lst (ns.map V.int))
theorem Ja.back {hd:List V->HO}{H₀ H1 H:Hp}{a:Addr}{as:List Addr}{nss:List (List Int)}(d:Ja hd H1 H a as nss)(s:aO H₀ H1):Ja hd H₀ H a as nss:=⟨λb hb=>s.free (d.fr b hb),d.nd,d.len,d.ha,d.it⟩
abbrev S5:=Ja HO.lst
abbrev Z7:=Ja HO.tup
structure Z8(H₀ H:Hp)(a b:Addr)(q:Int×List Int):Prop where
 fa:H₀ a=none
 fb:H₀ b=none
 ne:a≠b
 ha:H a=some (.tup [.int q.1,.ref b])
 hb:H b=some (.lst (q.2.map V.int))
def Z9(H₀ H:Hp)(a:Addr)(c:Ct):Prop:=∃as,(∀x∈a::as,H₀ x=none)/\Dp H (a::as) a as c
noncomputable def i9(K:PySem.W.Frag)(g:Gh)(H:Hp)(os:List Addr)(De:Ends):Out->Prop
 |.nx e=>∀σ' H' jN,Rel K g e σ' H' jN->uv H os H' jN->De.nx σ' H'
 |.bk e=>∀σ' H' jN,Rel K g e σ' H' jN->uv H os H' jN->De.bk σ' H'
 |.ct e=>∀σ' H' jN,Rel K g e σ' H' jN->uv H os H' jN->De.ct σ' H'
 |.rt d=>∀v H',aO g.H₀ H'->Is K (g.P []) H' d v->De.rt v H'
 |.ph xs=>∀a vs H',aO g.H₀ H'->g.H₀ a=none->H' a=some (.lst vs)->IsL K (g.P [a]) H' xs vs->De.rt (.ref a) H'
 |.MI nss=>∀(a:Addr)(as:List Addr)(H':Hp),aO g.H₀ H'->Z7 g.H₀ H' a as nss->De.rt (.ref a) H'
 |.NK q=>∀(a b:Addr)(H':Hp),aO g.H₀ H'->Z8 g.H₀ H' a b q->De.rt (.ref a) H'
 |.EB nss=>∀(a:Addr)(as:List Addr)(H':Hp),aO g.H₀ H'->S5 g.H₀ H' a as nss->De.rt (.ref a) H'
 |.NN c=>∀(a:Addr)(H':Hp),aO g.H₀ H'->Z9 g.H₀ H' a c->De.rt (.ref a) H'
theorem i9.step {K:PySem.W.Frag}{g:Gh}{H H1:Hp}{os WD:List Addr}{De:Ends}(s:uv H os H1 WD):∀{o:Out},i9 K g H os De o->i9 K g H1 WD De o
 |.nx e,h=>λσ' H' jN r z=>h σ' H' jN r (s.trans z)
 |.bk e,h=>λσ' H' jN r z=>h σ' H' jN r (s.trans z)
 |.ct e,h=>λσ' H' jN r z=>h σ' H' jN r (s.trans z)
 |.rt d,h=>h
 |.ph xs,h=>h
 |.MI xs,h=>h
 |.NK xs,h=>h
 |.EB xs,h=>h
 |.NN xs,h=>h
def tS(K:PySem.W.Frag)(E:Str->Hp->Prop)(f:DE->R Out):TS:=λDe σ H=>∃g env os,Rel K g env σ H os/\Good E g.H₀ (f env) (i9 K g H os De)
section
variable{X:Cx}{E:Str->Hp->Prop}{pos:Pos}
theorem imp{e:Expr}{t t':TE}(h:PE X e t)(w:∀σ H Q,t' σ H Q->t σ H Q):PE X e t':=λpins s σ H Q I q=>h pins s σ H Q I (w σ H Q q)
theorem S6{e:Expr}{t t':TT}(h:PT X e t)(w:∀σ H Q,t' σ H Q->t σ H Q):PT X e t':=λpins s σ H Q I q=>h pins s σ H Q I (w σ H Q q)
theorem WE{e:Expr}{t t':TT}(h:PW X e t)(w:∀σ H Q,t' σ H Q->t σ H Q):PW X e t':=λwh pins s σ H Q I q=>h wh pins s σ H Q I (w σ H Q q)
theorem Jb{e:List Expr}{t t':TA}(h:PA X e t)(w:∀σ H Q,t' σ H Q->t σ H Q):PA X e t':=λpos pins s σ H Q I q=>h pos pins s σ H Q I (w σ H Q q)
theorem pK{e:Stmt}{t t':TS}(h:PS X e t)(w:∀De σ H,t' De σ H->t De σ H):PS X e t':=λpins s σ H Q I q=>h pins s σ H Q I (w Q σ H q)
theorem Qi{e:List Stmt}{t t':TS}(h:q8 X e t)(w:∀De σ H,t' De σ H->t De σ H):q8 X e t':=λpins s σ H Q I q=>h pins s σ H Q I (w Q σ H q)
def bH(i:Nat)(env:DE):R D:=match env[i]? with
 |some (.val d)=>.ok d
 |_=>.bad
def dT(t:NH):D:=.tup [.int t.1,.int t.2.1,.lst (t.2.2.map .int)]
noncomputable def aV(i:Nat)(env:DE):R D:=match env[i]? with
 |some (.val d)=>.ok d
 |some (.own xs)=>.ok (.lst xs)
 |some (.deep (.ls nss))=>.ok (.lst (nss.map λns=>.lst (ns.map .int)))
 |some (.deep (.tp nss))=>.ok (.tup (nss.map λns=>.lst (ns.map .int)))
 |some (.deep (.tq n ns))=>.ok (.tup [.int n,.lst (ns.map .int)])
 |some (.deep (.tr ts))=>.ok (.lst (ts.map dT))
 |_=>.bad
theorem cC{K:PySem.W.Frag}{P:Addr->Prop}{H:Hp}:∀(ns:List Int),IsL K P H (ns.map D.int) (ns.map V.int)
 |[]=>rfl
 |n::ns=>⟨_,_,rfl,rfl,cC ns⟩
theorem xm{K:PySem.W.Frag}{H:Hp}{os:List Addr}:∀{as:List Addr}{nss:List (List Int)},as.length=nss.length->(∀(k:Nat)(b:Addr)(ns:List Int),as[k]?=some b->nss[k]?=some ns->b∈os/\H b=some (.lst (ns.map V.int)))->IsL K (λ_=>True) H (nss.map λns=>.lst (ns.map D.int)) (as.map V.ref)
 |[],[],_,_=>rfl
 |[],_::_,h,_=>by simp at h
 |_::_,[],h,_=>by simp at h
 |a::as,ns::nss,h,hi=>⟨_,_,rfl,⟨a,_,rfl,.inl ⟨trivial,.inl (hi 0 a ns rfl rfl).2⟩,cC ns⟩,xm (by simpa using h) λk b ms e1 e2=>hi (k+1) b ms e1 e2⟩
theorem Bp{K:PySem.W.Frag}{P:Addr->Prop}{H:Hp}{as:List Addr}(hp:∀x∈as,P x):∀{ts:List NH}{vs:List V},vs.length=ts.length->(∀(k:Nat)(t:NH)(v:V),ts[k]?=some t->vs[k]?=some v->WB H as t v)->IsL K P H (ts.map dT) vs
 |[],[],_,_=>rfl
 |[],_::_,h,_=>by simp at h
 |_::_,[],h,_=>by simp at h
 |t::ts,v::vs,h,hi=>by
  obtain⟨b,c,rfl,h1,h2,h3,h4⟩:=hi 0 t v rfl rfl
  exact⟨_,_,rfl,⟨b,_,rfl,.inl ⟨hp b h1,.inl h3⟩,⟨_,_,rfl,rfl,⟨_,_,rfl,rfl,⟨_,_,rfl,⟨c,_,rfl,.inl ⟨hp c h2,.inl h4⟩,cC t.2.2⟩,rfl⟩⟩⟩⟩,Bp hp (by simpa using h) λk t v e1 e2=>hi (k+1) t v e1 e2⟩
def fY(i:Nat)(env:DE):R (List D):=match env[i]? with
 |some (.val (.lst xs))=>.ok xs
 |some (.own xs)=>.ok xs
 |_=>.bad
theorem nD(i:Nat){x:Str}(hN:X.N[i]?=some x:=by rfl)(hv:yZ X.env.scope x:=by first|exact Or.inl rfl|exact Or.inr (Or.inl rfl)|exact Or.inr (Or.inr rfl))(hd:(x==("__debug__":Str))=false:=by decide)
  (hcd:(x==("__classdict__":Str))=false:=by decide):PE X (.Name x pos) (tD X.K E (bH i)):=imp (jP hN hv hd hcd) λσ H Q ⟨g,env,os,r,m⟩=>by
 unfold bH at m
 cases e:env[i]? with
 |none=>rw[e]at m;exact m.elim
 |some sl=>
  cases sl with
  |no=>rw[e]at m;exact m.elim
  |raw _=>rw[e]at m;exact m.elim
  |deep _=>rw[e]at m;exact m.elim
  |own xs=>rw[e]at m;exact m.elim
  |val d=>
   rw[e]at m
   obtain⟨v,h1,h2⟩:=r.val i d e
   exact⟨v,h1,m v H (aO.refl H) h2⟩
theorem nB(i:Nat){x:Str}(hN:X.N[i]?=some x:=by rfl)(hv:yZ X.env.scope x:=by first|exact Or.inl rfl|exact Or.inr (Or.inl rfl)|exact Or.inr (Or.inr rfl))(hd:(x==("__debug__":Str))=false:=by decide)
  (hcd:(x==("__classdict__":Str))=false:=by decide):PE X (.Name x pos) (tB X.K E (aV i)):=imp (jP hN hv hd hcd) λσ H Q ⟨g,env,os,r,m⟩=>by
 unfold aV at m
 cases e:env[i]? with
 |none=>rw[e]at m;exact m.elim
 |some sl=>
  cases sl with
  |no=>rw[e]at m;exact m.elim
  |raw _=>rw[e]at m;exact m.elim
  |own xs=>
   rw[e]at m
   obtain⟨a,vs,h1,_,h3,h4⟩:=r.own i xs e
   exact⟨.ref a,h1,m _ H (aO.refl H) ⟨a,vs,rfl,.inl ⟨trivial,.inl h3⟩,h4.weak⟩⟩
  |deep c=>
   obtain⟨A,dd⟩:=r.I9
   obtain⟨a,as,_,h1,h3⟩:=dd.dp i c e
   cases c with
   |ls nss=>
    rw[e]at m
    exact⟨.ref a,h1,m _ H (aO.refl H) ⟨a,_,rfl,.inl ⟨trivial,.inl h3.ha⟩,xm h3.len h3.it⟩⟩
   |tp nss=>
    rw[e]at m
    have h4:AR HO.tup H os a as nss:=h3
    exact⟨.ref a,h1,m _ H (aO.refl H) ⟨a,_,rfl,.inl ⟨trivial,.inl h4.ha⟩,xm h4.len h4.it⟩⟩
   |dk ks=>rw[e]at m;exact m.elim
   |tq n ns=>
    rw[e]at m
    obtain⟨b,_,_,_,_,h4,h5⟩:=h3
    exact⟨.ref a,h1,m _ H (aO.refl H) ⟨a,_,rfl,.inl ⟨trivial,.inl h4⟩,⟨_,_,rfl,rfl,⟨_,_,rfl,⟨b,_,rfl,.inl ⟨trivial,.inl h5⟩,cC ns⟩,rfl⟩⟩⟩⟩
   |tr ts=>
    rw[e]at m
    have h4:S4 H os a as ts:=h3
    obtain⟨vs,q1,q2,q3⟩:=h4.at_
    exact⟨.ref a,h1,m _ H (aO.refl H) ⟨a,_,rfl,.inl ⟨trivial,.inl q1⟩,Bp (λ_ _=>trivial) q2 q3⟩⟩
  |val d=>
   rw[e]at m
   obtain⟨v,h1,h2⟩:=r.val i d e
   exact⟨v,h1,m v H (aO.refl H) h2.weak⟩
theorem nL(i:Nat){x:Str}(hN:X.N[i]?=some x:=by rfl)(hv:yZ X.env.scope x:=by first|exact Or.inl rfl|exact Or.inr (Or.inl rfl)|exact Or.inr (Or.inr rfl))(hd:(x==("__debug__":Str))=false:=by decide)
  (hcd:(x==("__classdict__":Str))=false:=by decide):PE X (.Name x pos) (tL X.K E (fY i)):=imp (jP hN hv hd hcd) λσ H Q ⟨g,env,os,r,m⟩=>by
 unfold fY at m
 cases e:env[i]? with
 |none=>rw[e]at m;exact m.elim
 |some sl=>
  cases sl with
  |no=>rw[e]at m;exact m.elim
  |raw _=>rw[e]at m;exact m.elim
  |deep _=>rw[e]at m;exact m.elim
  |own xs=>
   rw[e]at m
   obtain⟨a,vs,h1,_,h3,h4⟩:=r.own i xs e
   exact⟨.ref a,h1,m _ _ H (aO.refl H) (dG.of h3) h4⟩
  |val d=>
   cases d with
   |lst xs=>
    rw[e]at m
    obtain⟨v,h1,a,vs,rfl,h3,h4⟩:=r.val i _ e
    exact⟨_,h1,m _ _ H (aO.refl H) h3.sq h4⟩
   |non=>rw[e]at m;exact m.elim
   |bl _=>rw[e]at m;exact m.elim
   |int _=>rw[e]at m;exact m.elim
   |str _=>rw[e]at m;exact m.elim
   |exc _=>rw[e]at m;exact m.elim
   |fn _=>rw[e]at m;exact m.elim
   |tup _=>rw[e]at m;exact m.elim
theorem cI{i j}:PE X (.Constant (.int i) j pos) (tD X.K E λ_=>.ok (.int i)):=imp ig λσ H Q ⟨g,env,os,r,m⟩=>m _ H (aO.refl H) rfl
theorem cBl{i j}:PE X (.Constant (.bool i) j pos) (tD X.K E λ_=>.ok (.bl i)):=imp VZ λσ H Q ⟨g,env,os,r,m⟩=>m _ H (aO.refl H) rfl
theorem cN{j}:PE X (.Constant .none j pos) (tD X.K E λ_=>.ok .non):=imp Iu λσ H Q ⟨g,env,os,r,m⟩=>m _ H (aO.refl H) rfl
theorem cS{i j}:PE X (.Constant (.str i) j pos) (tD X.K E λ_=>.ok (.str i)):=imp Sd λσ H Q ⟨g,env,os,r,m⟩=>m _ H (aO.refl H) rfl
theorem PE.aB {e:Expr}{f:DE->R D}(h:PE X e (tD X.K E f)):PE X e (tB X.K E f):=imp h λσ H Q ⟨g,env,os,r,m⟩=>⟨g,env,os,r,m.mono λd _ q v H' s i=>q v H' s i.weak⟩
theorem PE.fg {e:Expr}{f:DE->R (List D)}(h:PE X e (tF X.K E f)):PE X e (tD X.K E λenv=>(f env).bind λxs=>.ok (.lst xs)):=imp h λσ H Q ⟨g,env,os,r,m⟩=>⟨g,env,os,r,m.bind.mono λd _ q a vs H' s hn hH i=>by
 refine q _ H' s ⟨a,vs,rfl,.inl ⟨r.fresh hn,.inl hH⟩,IsL.ext ⟨λb o p _=>⟨p.1,λz=>p.2 (mem_cons_of_mem _ z)⟩,λ_ _ _ q=>q⟩ _ _ i⟩⟩
theorem PE.ee {e:Expr}{f:DE->R (List D)}(h:PE X e (tF X.K E f)):PE X e (tL X.K E f):=imp h λσ H Q ⟨g,env,os,r,m⟩=>⟨g,env,os,r,m.mono λd _ q a vs H' s hn hH i=>
 q _ vs H' s (dG.of hH) (IsL.ext ⟨λb o p _=>⟨p.1,λz=>p.2 (mem_cons_of_mem _ z)⟩,λ_ _ _ q=>q⟩ _ _ i)⟩
def wo:D->R (List D)
 |.lst xs=>.ok xs
 |_=>.bad
theorem PE.aaa {e:Expr}{f:DE->R D}(h:PE X e (tD X.K E f)):PE X e (tL X.K E λenv=>(f env).bind wo):=imp h λσ H Q ⟨g,env,os,r,m⟩=>⟨g,env,os,r,m.bind.mono λd _ q v H' s i=>by
 cases d with
 |lst xs=>
  obtain⟨a,vs,rfl,h3,h4⟩:=i
  exact q a vs H' s h3.sq h4
 |non=>exact q.elim
 |bl _=>exact q.elim
 |int _=>exact q.elim
 |str _=>exact q.elim
 |exc _=>exact q.elim
 |fn _=>exact q.elim
 |tup _=>exact q.elim⟩
abbrev Tr:Addr->Prop:=λ_=>True
def pA(X:Cx)(r:R2)(k:D->D->Option D):Prop:=∀x y d,k x y=some d->∃z,toV d=some z/\∀H v w (Q:VK),Is X.K Tr H x v->Is X.K Tr H y w->Q z H->r v w H Q
theorem aT{op:Operator}{r:R2}{a b:Expr}{fa fb:DE->R D}{k:D->D->Option D}(ho:uh X (binaryOp op) r)(hk:pA X r k)(ha:PE X a (tB X.K E fa))(hb:PE X b (tB X.K E fb)):
  PE X (.BinOp a op b pos) (tD X.K E λenv=>(fa env).bind λx=>(fb env).bind λy=>R.of (k x y)):=
 imp (rT ho ha hb) λσ H Q ⟨g,env,os,r,m⟩=>⟨g,env,os,r,m.bind.mono λx _ m1 v H1 s1 i1=>⟨g,env,os,r.same s1,m1.bind.mono λy _ m2 w H2 s2 i2=>by
  obtain⟨d,e,q⟩:=m2.of
  obtain⟨z,hz,hk⟩:=hk x y d e
  exact hk H2 v w Q (i1.same s2) i2 (q z H2 (s1.trans s2) (Is.sc hz))⟩⟩
theorem G2{op:CmpOp}{r:R2}{a b:Expr}{fa fb:DE->R D}{k:D->D->Option D}(ho:uh X (compareOp op) r)(hk:pA X r k)(ha:PE X a (tB X.K E fa))(hb:PE X b (tB X.K E fb))(hm:behindInMarks op b=false):
  PE X (.Compare a [op] [b] pos) (tD X.K E λenv=>(fa env).bind λx=>(fb env).bind λy=>R.of (k x y)):=
 imp (Nq ho ha hb hm) λσ H Q ⟨g,env,os,r,m⟩=>⟨g,env,os,r,m.bind.mono λx _ m1 v H1 s1 i1=>⟨g,env,os,r.same s1,m1.bind.mono λy _ m2 w H2 s2 i2=>by
  obtain⟨d,e,q⟩:=m2.of
  obtain⟨z,hz,hk⟩:=hk x y d e
  exact hk H2 v w Q (i1.same s2) i2 (q z H2 (s1.trans s2) (Is.sc hz))⟩⟩
def ja:D->R Bool
 |.bl b=>.ok b
 |_=>.bad
theorem bf{op:CmpOp}{r:R2}{a b:Expr}{fa fb:DE->R D}{k:D->D->Option D}(ho:uh X (compareOp op) r)(hk:pA X r k)(ha:PE X a (tB X.K E fa))(hb:PE X b (tB X.K E fb))(hm:behindInMarks op b=false):
  PT X (.Compare a [op] [b] pos) (tT X.K E λenv=>(fa env).bind λx=>(fb env).bind λy=>(R.of (k x y)).bind ja):=
 S6 (j8 ho ha hb hm) λσ H Q ⟨g,env,os,r,m⟩=>⟨g,env,os,r,m.bind.mono λx _ m1 v H1 s1 i1=>⟨g,env,os,r.same s1,m1.bind.mono λy _ m2 w H2 s2 i2=>by
  obtain⟨d,e,q⟩:=m2.bind.of
  obtain⟨z,hz,hk⟩:=hk x y d e
  refine hk H2 v w _ (i1.same s2) i2 ?_
  cases d with
  |bl b=>
   cases hz
   exact⟨b,rfl,q H2 (s1.trans s2)⟩
  |non=>exact q.elim
  |lst _=>exact q.elim
  |int _=>exact q.elim
  |str _=>exact q.elim
  |exc _=>exact q.elim
  |fn _=>exact q.elim
  |tup _=>exact q.elim⟩⟩
def WG(X:Cx)(r:V->Hp->VK->Prop)(k:D->Option D):Prop:=∀x d,k x=some d->∃z,toV d=some z/\∀H v (Q:VK),Is X.K Tr H x v->Q z H->r v H Q
theorem yG{op:UnaryOp}{r:V->Hp->VK->Prop}{a:Expr}{fa:DE->R D}{k:D->Option D}(ho:Wa X (unaryOp op) r)(hk:WG X r k)(ha:PE X a (tB X.K E fa)):
  PE X (.UnaryOp op a pos) (tD X.K E λenv=>(fa env).bind λx=>R.of (k x)):=
 imp (Er ho ha) λσ H Q ⟨g,env,os,r,m⟩=>⟨g,env,os,r,m.bind.mono λx _ m1 v H1 s1 i1=>by
  obtain⟨d,e,q⟩:=m1.of
  obtain⟨z,hz,hk⟩:=hk x d e
  exact hk H1 v Q i1 (q z H1 s1 (Is.sc hz))⟩
def iA:D->D->Option D
 |.int i,.int j=>some (.int (i-j))
 |_,_=>none
def Dj:D->D->Option D
 |.int i,.int j=> @ite _ ((-(2^64)<i/\i<2^64)\/(-(2^64)<j/\j<2^64)) (propDecidable _) (some (.int (i*j))) (none)
 |_,_=>none
def vL:D->D->Option D
 |.int i,.int j=> @ite _ (0<j/\j<1073741824) (propDecidable _) (some (.int (i/j))) (none)
 |_,_=>none
def mE:D->D->Option D
 |.int i,.int j=> @ite _ (0<j) (propDecidable _) (some (.int (i%j))) (none)
 |_,_=>none
def Jc:D->D->Option D
 |.int i,.int j=> @ite _ (0<=j/\j<=1000000/\i.natAbs<2^64) (propDecidable _) (some (.int (i^j.toNat))) (none)
 |_,_=>none
def kg:D->Option D
 |.int i=>some (.int (-i))
 |_=>none
def NP:D->D->Option D
 |.int i,.int j=>some (.bl (decide (i<j)))
 |_,_=>none
def WH:D->D->Option D
 |.int i,.int j=>some (.bl (decide (i<=j)))
 |_,_=>none
def wq:D->D->Option D
 |.int i,.int j=>some (.bl (decide (j<i)))
 |_,_=>none
def kGe:D->D->Option D
 |.int i,.int j=>some (.bl (decide (j<=i)))
 |_,_=>none
theorem pL{g:Int->Int->V}{h:Int->Int->D}{k:D->D->Option D}(hg:∀i j,toV (h i j)=some (g i j))(hk:∀x y d,k x y=some d->∃i j,x=.int i/\y=.int j/\d=h i j):pA X (Ep g) k:=λx y d e=>by
 obtain⟨i,j,rfl,rfl,rfl⟩:=hk x y d e
 refine⟨g i j,hg i j,λH v w Q h1 h2 q=>⟨i,j,h1,h2,q⟩⟩
theorem rY{C:Int->Int->Prop}{g:Int->Int->V}{h:Int->Int->D}{k:D->D->Option D}(hg:∀i j,toV (h i j)=some (g i j))(hk:∀x y d,k x y=some d->∃i j,x=.int i/\y=.int j/\C i j/\d=h i j):pA X (rI C g) k:=λx y d e=>by
 obtain⟨i,j,rfl,rfl,c,rfl⟩:=hk x y d e
 refine⟨g i j,hg i j,λH v w Q h1 h2 q=>⟨i,j,h1,h2,c,q⟩⟩
theorem bA:pA X (Ep λi j=>.int (i-j)) iA:=pL (h:=λi j=>.int (i-j)) (λ_ _=>rfl) λx y d e=>by
 unfold iA at e
 split at e<;>cases e
 exact⟨_,_,rfl,rfl,rfl⟩
theorem uw:pA X (Ep λi j=>.bl (decide (i<j))) NP:=pL (h:=λi j=>.bl (decide (i<j))) (λ_ _=>rfl) λx y d e=>by
 unfold NP at e
 split at e<;>cases e
 exact⟨_,_,rfl,rfl,rfl⟩
theorem Jd:pA X (Ep λi j=>.bl (decide (i<=j))) WH:=pL (h:=λi j=>.bl (decide (i<=j))) (λ_ _=>rfl) λx y d e=>by
 unfold WH at e
 split at e<;>cases e
 exact⟨_,_,rfl,rfl,rfl⟩
theorem dD:pA X (Ep λi j=>.bl (decide (j<i))) wq:=pL (h:=λi j=>.bl (decide (j<i))) (λ_ _=>rfl) λx y d e=>by
 unfold wq at e
 split at e<;>cases e
 exact⟨_,_,rfl,rfl,rfl⟩
theorem wu:pA X (rI Nj λi j=>.int (i*j)) Dj:=rY (h:=λi j=>.int (i*j)) (λ_ _=>rfl) λx y d e=>by
 unfold Dj at e
 split at e
 ·split at e
  ·rename_i i j c
   cases e
   exact⟨i,j,rfl,rfl,c,rfl⟩
  ·cases e
 ·cases e
theorem kh:pA X (rI Wd λi j=>.int (i/j)) vL:=rY (h:=λi j=>.int (i/j)) (λ_ _=>rfl) λx y d e=>by
 unfold vL at e
 split at e
 ·split at e
  ·rename_i i j c
   cases e
   exact⟨i,j,rfl,rfl,c,rfl⟩
  ·cases e
 ·cases e
theorem cT:pA X (rI (λ_ j=>0<j) λi j=>.int (i%j)) mE:=rY (h:=λi j=>.int (i%j)) (λ_ _=>rfl) λx y d e=>by
 unfold mE at e
 split at e
 ·split at e
  ·rename_i i j c
   cases e
   exact⟨i,j,rfl,rfl,c,rfl⟩
  ·cases e
 ·cases e
theorem NQ:pA X (rI GR λi j=>.int (i^j.toNat)) Jc:=rY (h:=λi j=>.int (i^j.toNat)) (λ_ _=>rfl) λx y d e=>by
 unfold Jc at e
 split at e
 ·split at e
  ·rename_i i j c
   cases e
   exact⟨i,j,rfl,rfl,c,rfl⟩
  ·cases e
 ·cases e
theorem b8:WG X (rU λi=>.int (-i)) kg:=λx d e=>by
 unfold kg at e
 split at e<;>cases e
 exact⟨_,rfl,λH v Q h1 q=>⟨_,h1,q⟩⟩
theorem WI{a:Expr}{f:DE->R Bool}(h:PT X a (tT X.K E f)):PT X (.UnaryOp .Not a pos) (tT X.K E λenv=>(f env).bind λb=>.ok (!b)):=
 S6 (Sf h) λσ H Q ⟨g,env,os,r,m⟩=>⟨g,env,os,r,m.bind.mono λb _ q H' s=>q H' s⟩
theorem pM{a:Expr}{f:DE->R Bool}(h:PT X a (tT X.K E f)):PW X (.BoolOp .And [a] pos) (tT X.K E f):=pw_and1 h
theorem S7{a:Expr}{f:DE->R Bool}(h:PT X a (tT X.K E f)):PW X (.BoolOp .Or [a] pos) (tT X.K E f):=pw_or1 h
theorem jX{a b:Expr}{rest:List Expr}{f k:DE->R Bool}(h:PT X a (tT X.K E f))(h2:PW X (.BoolOp .And (b::rest) pos) (tT X.K E k)):PW X (.BoolOp .And (a::b::rest) pos) (tT X.K E λenv=>(f env).bind λt=>if t=true then k env else .ok false):=
 WE (pw_and h h2) λσ H Q ⟨g,env,os,r,m⟩=>⟨g,env,os,r,m.bind.mono λt _ q H' s=>by
  cases t with
  |true=>exact⟨g,env,os,r.same s,Good.mono (show Good E g.H₀ (k env) _ from q) λb _ q2 H2 s2=>q2 H2 (s.trans s2)⟩
  |false=>exact q H' s⟩
theorem Je{a b:Expr}{rest:List Expr}{f k:DE->R Bool}(h:PT X a (tT X.K E f))(h2:PW X (.BoolOp .Or (b::rest) pos) (tT X.K E k)):PW X (.BoolOp .Or (a::b::rest) pos) (tT X.K E λenv=>(f env).bind λt=>if t=true then .ok true else k env):=
 WE (pw_or h h2) λσ H Q ⟨g,env,os,r,m⟩=>⟨g,env,os,r,m.bind.mono λt _ q H' s=>by
  cases t with
  |false=>exact⟨g,env,os,r.same s,Good.mono (show Good E g.H₀ (k env) _ from q) λb _ q2 H2 s2=>q2 H2 (s.trans s2)⟩
  |true=>exact q H' s⟩
theorem aab{e:Expr}{f:DE->R D}(h:PE X e (tB X.K E f))(he:∀whole,isTrue e X.env whole=(do let v<-whole;standAt e.pos;holding [v] (truthy v)):=by intro _;rfl):PT X e (tT X.K E λenv=>(f env).bind ja):=
 S6 (Se h he) λσ H Q ⟨g,env,os,r,m⟩=>⟨g,env,os,r,m.bind.mono λd _ q v H' s i=>by
  cases d with
  |bl b=>exact⟨b,i,q H' s⟩
  |non=>exact q.elim
  |lst _=>exact q.elim
  |int _=>exact q.elim
  |str _=>exact q.elim
  |exc _=>exact q.elim
  |fn _=>exact q.elim
  |tup _=>exact q.elim⟩
theorem YM{c a b:Expr}{fc:DE->R Bool}{fa fb:DE->R D}(hc:PT X c (tT X.K E fc))(ha:PE X a (tD X.K E fa))(hb:PE X b (tD X.K E fb)):PE X (.IfExp c a b pos) (tD X.K E λenv=>(fc env).bind λt=>if t=true then fa env else fb env):=
 imp (Iz hc ha hb) λσ H Q ⟨g,env,os,r,m⟩=>⟨g,env,os,r,m.bind.mono λt _ q H' s=>by
  cases t with
  |true=>
   rw[if_pos rfl]
   exact⟨g,env,os,r.same s,Good.mono (show Good E g.H₀ (fa env) _ from q) λb _ q2 v2 H2 s2 i2=>q2 v2 H2 (s.trans s2) i2⟩
  |false=>
   rw[if_neg Bool.false_ne_true]
   exact⟨g,env,os,r.same s,Good.mono (show Good E g.H₀ (fb env) _ from q) λb _ q2 v2 H2 s2 i2=>q2 v2 H2 (s.trans s2) i2⟩⟩
theorem br:PA X [] (Ih X.K E λ_=>.ok []):=Jb aP λσ H Q ⟨g,env,os,r,m⟩=>m [] H (aO.refl H) rfl
theorem bx:PA X [] (uu X.K E λ_=>.ok []):=Jb aP λσ H Q ⟨g,env,os,r,m⟩=>m [] H (aO.refl H) rfl
theorem ao{e:Expr}{es:List Expr}{f:DE->R D}{k:DE->R (List D)}(ha:PE X e (tD X.K E f))(hr:PA X es (Ih X.K E k))(hs:starEach (e::es) X.env=(false,eval e X.env)::starEach es X.env:=by rfl):
  PA X (e::es) (Ih X.K E λenv=>(f env).bind λx=>(k env).bind λxs=>.ok (x::xs)):=
 Jb (aD ha hr hs) λσ H Q ⟨g,env,os,r,m⟩=>⟨g,env,os,r,m.bind.mono λx _ m1 v H1 s1 i1=>⟨g,env,os,r.same s1,m1.bind.mono λxs _ m2 vs H2 s2 i2=>m2 (v::vs) H2 (s1.trans s2) (.cons (i1.same s2) i2)⟩⟩
theorem aE{e:Expr}{es:List Expr}{f:DE->R D}{k:DE->R (List D)}(ha:PE X e (tB X.K E f))(hr:PA X es (uu X.K E k))(hs:starEach (e::es) X.env=(false,eval e X.env)::starEach es X.env:=by rfl):
  PA X (e::es) (uu X.K E λenv=>(f env).bind λx=>(k env).bind λxs=>.ok (x::xs)):=
 Jb (aD ha hr hs) λσ H Q ⟨g,env,os,r,m⟩=>⟨g,env,os,r,m.bind.mono λx _ m1 v H1 s1 i1=>⟨g,env,os,r.same s1,m1.bind.mono λxs _ m2 vs H2 s2 i2=>m2 (v::vs) H2 (s1.trans s2) (.cons (i1.same s2) i2)⟩⟩
def fit{α:Type}(xs:List α):R (List α):= @ite _ (xs.length<=sizeLine) (propDecidable _) (.ok xs) (.bad)
theorem Good.fit {α:Type}{H₀:Hp}{xs:List α}{p:List α->Prop}(h:Good E H₀ (fit xs) p):xs.length<=sizeLine/\p xs:=by
 unfold DL.fit at h
 split at h
 ·rename_i c
  exact⟨c,h⟩
 ·exact h.elim
theorem Jf{K:PySem.W.Frag}{g:Gh}{env:DE}{σ:St}{H H1:Hp}{os:List Addr}{ds:List D}{vs:List V}{p:Addr}(r:Rel K g env σ H os)(s1:aO H H1)(hp:H1 p=none)(i:IsL K (g.P os) H1 ds vs):
  aO H (upd H1 p (.lst vs))/\H p=none/\upd H1 p (.lst vs) p=some (.lst vs)/\IsL K (g.P (p::os)) (upd H1 p (.lst vs)) ds vs:=
 ⟨s1.trans (aQ hp _),s1.free hp,au,IsL.ext ((r.same s1).apart (aQ hp _) hp) _ _ i⟩
theorem mG{es:List Expr}{f:DE->R (List D)}(h:PA X es (Ih X.K E f)):PE X (.List es pos) (tF X.K E λenv=>(f env).bind fit):=
 imp (um h) λσ H Q ⟨g,env,os,r,m⟩=>⟨g,env,os,r,m.bind.mono λds _ m1 vs H1 s1 i1=>by
  obtain⟨z,q⟩:=m1.fit
  refine⟨by rw[i1.length];exact z,λp hp=>?_⟩
  obtain⟨a1,a2,a3,a4⟩:=Jf r s1 hp i1
  exact q p vs _ a1 a2 a3 a4⟩
theorem z4{es:List Expr}{x1}{f:DE->R (List D)}(h:PA X es (Ih X.K E f)):PE X (.Tuple es x1 pos) (tD X.K E λenv=>((f env).bind fit).bind λds=>.ok (.tup ds)):=
 imp (uk h) λσ H Q ⟨g,env,os,r,m⟩=>⟨g,env,os,r,m.bind.bind.mono λds _ m1 vs H1 s1 i1=>by
  obtain⟨z,q⟩:=m1.fit
  refine⟨by rw[i1.length];exact z,λp hp=>?_⟩
  exact q _ _ (s1.trans (aQ hp _)) ⟨p,vs,rfl,.inl ⟨(r.same s1).fresh hp,.inl au⟩,i1.same (aQ hp _)⟩⟩
end
section
variable{X:Cx}{E:Str->Hp->Prop}{pos:Pos}
def WK(K:PySem.W.Frag):R2:=λx y H Q=>∃l b xs zs,x=.ref l/\y=.ref b/\dG K H l xs/\dG K H b zs/\xs.length+zs.length<=sizeLine/\∀p,H p=none->Q (.ref p) (upd H p (.lst (xs++zs)))
theorem NR:uh X (binaryOp .Add) (WK X.K):=by
 intro pins s σ H x y v u Q I rx ry h
 obtain⟨l,b,xs,zs,rfl,rfl,hH,hB,hz,q⟩:=h
 cases rx
 cases ry
 obtain⟨its,r,p1,z1⟩:=I.list hH
 obtain⟨its2,r2,p2,z2⟩:=I.list hB
 have hl:=r.length
 have hl2:=r2.length
 obtain⟨o1,n1,e1,c1,d1,t1⟩:=p1
 obtain⟨o2,n2,e2,c2,d2,t2⟩:=p2
 obtain⟨oc,od,oda,Ig⟩:=o1
 obtain⟨oc2,od2,aac,aad⟩:=o2
 have c1':oc=_:=c1
 have d1':od=_:=d1
 have t1':oda=_:=t1
 have c2':oc2=_:=c2
 have d2':od2=_:=d2
 have t2':aac=_:=t2
 subst c1' d1' t1' c2' d2' t2'
 have ea:its.toArray++its2.toArray=(its++its2).toArray:=by simp
 refine concat_meets ⟨_,e1,rfl⟩ ⟨_,e2,rfl⟩ noFill_list_add seq_list_add PySem.F.slot_list_add PySem.F.entry_list_add (PySem.F.args_list_add_2 _ _) (list_addW l b its.toArray its2.toArray n1 n2 none none Ig aad (by rw[size_toArray,size_toArray];lia)) ⟨e1,e2,?_⟩
 rw[ea]
 exact⟨.ref _,_,I.Ws (t':=s.toks) (r.append r2) (by rw[length_append];lia),rfl,q _ I.fresh⟩
theorem mH{a b:Expr}{fa fb:DE->R (List D)}(ha:PE X a (tL X.K E fa))(hb:PE X b (tL X.K E fb)):PE X (.BinOp a .Add b pos) (tF X.K E λenv=>(fa env).bind λx=>(fb env).bind λy=>fit (x++y)):=
 imp (rT NR ha hb) λσ H Q ⟨g,env,os,r,m⟩=>⟨g,env,os,r,m.bind.mono λx _ m1 a1 v1 H1 s1 q1 i1=>⟨g,env,os,r.same s1,m1.bind.mono λy _ m2 a2 v2 H2 s2 q2 i2=>by
  obtain⟨z,q⟩:=m2.fit
  rw[length_append]at z
  refine⟨a1,a2,v1,v2,rfl,rfl,s2.seq q1,q2,by rw[i1.length,i2.length];exact z,λp hp=>?_⟩
  obtain⟨b1,b2,b3,b4⟩:=Jf r (s1.trans s2) hp ((i1.same s2).app i2)
  exact q p _ _ b1 b2 b3 b4⟩⟩
def tO(K:PySem.W.Frag)(E:Str->Hp->Prop)(f:DE->R (Option Int)):TO:=λσ H Q=>∃g env os,Rel K g env σ H os/\Good E g.H₀ (f env) λo=>∀H',aO H H'->Q o H'
theorem WL{e:Option Expr}{t t':TO}(h:L2.PO X e t)(w:∀σ H Q,t' σ H Q->t σ H Q):L2.PO X e t':=λpins s σ H Q I q=>h pins s σ H Q I (w σ H Q q)
theorem ze:L2.PO X none (tO X.K E λ_=>.ok none):=WL Es λσ H Q ⟨g,env,os,r,m⟩=>m H (aO.refl H)
def vj:D->R (Option Int)
 |.int i=>.ok (some i)
 |_=>.bad
theorem ki{e:Expr}{f:DE->R D}(h:PE X e (tB X.K E f)):L2.PO X (some e) (tO X.K E λenv=>(f env).bind vj):=WL (Et h) λσ H Q ⟨g,env,os,r,m⟩=>⟨g,env,os,r,m.bind.mono λd _ q v H' s i=>by
 cases d with
 |int k=>exact⟨k,i,q H' s⟩
 |non=>exact q.elim
 |bl _=>exact q.elim
 |lst _=>exact q.elim
 |str _=>exact q.elim
 |exc _=>exact q.elim
 |fn _=>exact q.elim
 |tup _=>exact q.elim⟩
def cut{α:Type}(xs:List α)(lo hi:Option Int):List α:=(xs.drop (HT.w9 xs.length 0 lo)).take (HT.w9 xs.length xs.length hi-HT.w9 xs.length 0 lo)
theorem IsL.cut {K:PySem.W.Frag}{P:Addr->Prop}{H:Hp}{ds:List D}{vs:List V}(h:IsL K P H ds vs)(lo hi:Option Int):IsL K P H (DL.cut ds lo hi) (yB vs lo hi):=by
 unfold DL.cut yB
 rw[h.length]
 exact(h.drop _).take _
theorem dh{e:Expr}{lo hi:Option Expr}{f:DE->R (List D)}{fl fh:DE->R (Option Int)}{p2:Pos}(he:PE X e (tL X.K E f))(hl:L2.PO X lo (tO X.K E fl))(hh:L2.PO X hi (tO X.K E fh)):
  PE X (.Subscript e (.Slice lo hi none p2) pos) (tF X.K E λenv=>(f env).bind λx=>(fl env).bind λl=>(fh env).bind λh=>.ok (cut x l h)):=
 imp (Bf Ew he hl hh) λσ H Q ⟨g,env,os,r,m⟩=>⟨g,env,os,r,m.bind.mono λx _ m1 a1 v1 H1 s1 q1 i1=>⟨g,env,os,r.same s1,m1.bind.mono λl _ m2 H2 s2=>⟨g,env,os,r.same (s1.trans s2),m2.bind.mono λh _ m3 H3 s3=>by
  refine⟨a1,v1,rfl,s3.seq (s2.seq q1),λp hp=>?_⟩
  obtain⟨b1,b2,b3,b4⟩:=Jf r (s1.trans (s2.trans s3)) hp (((i1.same s2).same s3).cut l h)
  exact m3 p _ _ b1 b2 b3 b4⟩⟩⟩
theorem IsL.i6 {K:PySem.W.Frag}{P:Addr->Prop}{H:Hp}{ds:List D}{vs:List V}{i:Int}{d:D}(h:IsL K P H ds vs)(e:L2.i6 ds i=some d):∃v,L2.i6 vs i=some v/\Is K P H d v:=by
 unfold L2.i6 at e⊢
 rw[h.length]
 cases q:rR ds.length i with
 |none=>rw[q]at e;cases e
 |some j=>
  rw[q]at e
  exact h.get e
def Bq:D->D->R D
 |.lst xs,.int i=>R.of (i6 xs i)
 |.tup xs,.int i=>R.of (i6 xs i)
 |_,_=>.bad
theorem G3{a b:Expr}{fa fb:DE->R D}(ha:PE X a (tD X.K E fa))(hb:PE X b (tB X.K E fb))(hs:wk b:=by exact λ_ _=>rfl):PE X (.Subscript a b pos) (tD X.K E λenv=>(fa env).bind λx=>(fb env).bind λy=>Bq x y):=
 imp (i7 SM ha hb hs) λσ H Q ⟨g,env,os,r,m⟩=>⟨g,env,os,r,m.bind.mono λx _ m1 v H1 s1 i1=>⟨g,env,os,r.same s1,m1.bind.mono λy _ m2 w H2 s2 i2=>by
  unfold Bq at m2
  split at m2
  ·rename_i xs i _ _
   obtain⟨d,e,q⟩:=m2.of
   have Vu:=i1.same s2
   obtain⟨a,vs,rfl,h1,h2⟩:=Vu
   obtain⟨z,e2,h3⟩:=IsL.i6 h2 e
   exact .inl ⟨a,vs,i,z,rfl,i2,h1.sq,e2,q z H2 (s1.trans s2) h3⟩
  ·rename_i xs i _ _
   obtain⟨d,e,q⟩:=m2.of
   have Vu:=i1.same s2
   obtain⟨a,vs,rfl,h1,h2⟩:=Vu
   obtain⟨z,e2,h3⟩:=IsL.i6 h2 e
   exact .inr (.inl ⟨a,vs,i,z,rfl,i2,h1.sq,e2,q z H2 (s1.trans s2) h3⟩)
  ·exact m2.elim⟩⟩
def oW(xs:List D):D->R D
 |.int i=>R.of (i6 xs i)
 |_=>.bad
theorem pN{a b:Expr}{fa:DE->R (List D)}{fb:DE->R D}(ha:PE X a (tL X.K E fa))(hb:PE X b (tB X.K E fb))(hs:wk b:=by exact λ_ _=>rfl):PE X (.Subscript a b pos) (tD X.K E λenv=>(fa env).bind λx=>(fb env).bind λy=>oW x y):=
 imp (i7 ed ha hb hs) λσ H Q ⟨g,env,os,r,m⟩=>⟨g,env,os,r,m.bind.mono λx _ m1 a1 v1 H1 s1 q1 i1=>⟨g,env,os,r.same s1,m1.bind.mono λy _ m2 w H2 s2 i2=>by
  unfold oW at m2
  split at m2
  ·rename_i i _
   obtain⟨d,e,q⟩:=m2.of
   obtain⟨z,e2,h3⟩:=(i1.same s2).i6 e
   exact⟨a1,v1,i,z,rfl,i2,s2.seq q1,e2,q z H2 (s1.trans s2) h3⟩
  ·exact m2.elim⟩⟩
def NS(X:Cx)(r:List V->Hp->VK->Prop)(k:List D->Option D):Prop:=∀ds d,k ds=some d->∃z,toV d=some z/\∀H vs (Q:VK),IsL X.K Tr H ds vs->Q z H->r vs H Q
theorem du{id:String}{x:Str}{p:Pos}{e:Expr}{es:List Expr}{f:DE->R (List D)}{r:List V->Hp->VK->Prop}{k:List D->Option D}(hc:q9 X (.builtin id) r)(hk:NS X r k)(hm:X.mg x=none)(hv:bootBuiltins x=some (.builtin id))(ha:PA X (e::es) (uu X.K E f))
  (hg:Gl X x:=by rfl)(hn:x≠"__name__":=by decide)(hdb:(x==("__debug__":Str))=false:=by decide)
  (he:starEach (e::es) X.env=(false,eval e X.env)::starEach es X.env:=by rfl)(hpl:(backTo pos (starEach es X.env)).any (·.1)=false:=by rfl):PE X (.Call (.Name x p) (e::es) [] pos) (tD X.K E λenv=>(f env).bind λds=>R.of (k ds)):=
 imp (kM hc hg hm hv ha hn hdb he hpl) λσ H Q ⟨g,env,os,r,m⟩=>⟨g,env,os,r,m.bind.mono λds _ m1 vs H1 s1 i1=>by
  obtain⟨d,e,q⟩:=m1.of
  obtain⟨z,hz,hk⟩:=hk ds d e
  exact hk H1 vs Q i1 (q z H1 s1 (Is.sc hz))⟩
theorem IsL.z5 {K:PySem.W.Frag}{P:Addr->Prop}{H:Hp}{d:D}{vs:List V}(h:IsL K P H [d] vs):∃v,vs=[v]/\Is K P H d v:=by
 obtain⟨v,r,rfl,p,q⟩:=h
 have q':r=[]:=q
 subst q'
 exact⟨v,rfl,p⟩
theorem IsL.NT {K:PySem.W.Frag}{P:Addr->Prop}{H:Hp}{d d2:D}{vs:List V}(h:IsL K P H [d,d2] vs):∃v w,vs=[v,w]/\Is K P H d v/\Is K P H d2 w:=by
 obtain⟨v,r,rfl,p,q⟩:=h
 obtain⟨w,rfl,p2⟩:=IsL.z5 q
 exact⟨v,w,rfl,p,p2⟩
def kO:List D->Option D
 |[.lst xs]=>some (.int xs.length)
 |[.tup xs]=>some (.int xs.length)
 |[.str x]=> @ite _ (x.length<=sizeLine) (propDecidable _) (some (.int x.length)) (none)
 |_=>none
theorem cF:NS X (λxs H Q=>∃x n,xs=[x]/\Wf X.K x H n/\Q (.int n) H) kO:=λds d e=>by
 unfold kO at e
 split at e
 ·rename_i xs
  cases e
  refine⟨_,rfl,λH vs Q i q=>?_⟩
  obtain⟨v,rfl,a,ws,rfl,h1,h2⟩:=IsL.z5 i
  exact⟨_,_,rfl,.inl ⟨ws,h1.sq,(IsL.length h2).symm⟩,q⟩
 ·rename_i xs
  cases e
  refine⟨_,rfl,λH vs Q i q=>?_⟩
  obtain⟨v,rfl,a,ws,rfl,h1,h2⟩:=IsL.z5 i
  exact⟨_,_,rfl,.inr ⟨ws,h1.sq,(IsL.length h2).symm⟩,q⟩
 ·split at e
  ·rename_i x c
   cases e
   refine⟨_,rfl,λH vs Q i q=>?_⟩
   obtain⟨v,rfl,i2⟩:=IsL.z5 i
   have i':v=.str x:=i2
   subst i'
   exact⟨_,_,rfl,⟨c,rfl⟩,q⟩
  ·cases e
 ·cases e
def xn:List D->Option D
 |[.int i]=>some (.int (if i<0 then-i else i))
 |_=>none
theorem lQ:NS X (λxs H Q=>∃i,xs=[.int i]/\Q (.int (if i<0 then-i else i)) H) xn:=λds d e=>by
 unfold xn at e
 split at e
 ·rename_i i
  cases e
  refine⟨_,rfl,λH vs Q h q=>?_⟩
  obtain⟨v,rfl,h1⟩:=IsL.z5 h
  have h':v=.int i:=h1
  subst h'
  exact⟨i,rfl,q⟩
 ·cases e
def Br:List D->Option D
 |[.int i,.int j]=>some (.int (if j>i then j else i))
 |_=>none
theorem Bt:NS X (λxs H Q=>∃i j,xs=[.int i,.int j]/\Q (.int (if j>i then j else i)) H) Br:=λds d e=>by
 unfold Br at e
 split at e
 ·rename_i i j
  cases e
  refine⟨_,rfl,λH vs Q h q=>?_⟩
  obtain⟨v,w,rfl,h1,h2⟩:=IsL.NT h
  have h':v=.int i:=h1
  have h2':w=.int j:=h2
  subst h' h2'
  exact⟨i,j,rfl,q⟩
 ·cases e
theorem Jg{p:Pos}{a:Expr}{f:DE->R (List D)}(hm:X.mg "list"=none)(ha:PE X a (tL X.K E f))(hg:Gl X "list":=by rfl)
  (he:starEach [a] X.env=(false,eval a X.env)::starEach [] X.env:=by rfl)(hpl:(backTo pos (starEach [] X.env)).any (·.1)=false:=by rfl):PE X (.Call (.Name "list" p) [a] [] pos) (tF X.K E f):=
 imp (qw nS hg hm (by decide +kernel) (aD ha aP he) (by decide) (by decide) he hpl) λσ H Q ⟨g,env,os,r,m⟩=>⟨g,env,os,r,m.mono λx _ m1 a1 v1 H1 s1 q1 i1=>
  ⟨a1,v1,rfl,.inl q1,λp hp=>by
   obtain⟨b1,b2,b3,b4⟩:=Jf r s1 hp i1
   exact m1 p _ _ b1 b2 b3 b4⟩⟩
def EC(K:PySem.W.Frag)(xc:Str->Value)(m:List D->R D):Sp:=λvs H Q E=>∃P ds,IsL K P H ds vs/\(match m ds with
 |.ok d=>∀v H',aO H H'->Is K (λa=>P a\/H a=none) H' d v->Q v H'
 |.err c=>∀H',aO H H'->E (xc c) none H'
 |.bad=>False)
noncomputable def MJ(K:PySem.W.Frag)(xc:Str->Value)(m:List D->R (List D)):Sp:=λvs H Q E=>∃P ds,IsL K P H ds vs/\(match m ds with
 |.ok xs=>∀a ws H',aO H H'->H a=none->H' a=some (.lst ws)->IsL K (λb=>(P b\/H b=none)/\b≠a) H' xs ws->Q (.ref a) H'
 |.err c=>∀H',aO H H'->E (xc c) none H'
 |.bad=>False)
def EX(xc:Str->Value)(E:Str->Hp->Prop):XK:=λc _ H'=>∃n,c=xc n/\E n H'
theorem lR{E:XK}:Passes lK X E:=λ_ _ _ _ _ _ _ h=>h.elim
variable{CX:Ie}{k:Nat}{fa:Addr}{fd:FuncData}{ps:List Str}{xc:Str->Value}{x:Str}{p:Pos}{e:Expr}{es:List Expr}{f:DE->R (List D)}
theorem fD{m:List D->R D}(F:cO X.prog X.w X.K X.mg X.base CX k fa fd ps (EC X.K xc m))(hm:X.mg x=some (.ref fa))(hk:keepIn X.K (.ref fa)=true)(hb:Binds X.K fd ps [])(hr:bh k X.A)(hx:Passes CX X (EX xc E))
  (ha:PA X (e::es) (Ih X.K E f))(hg:Gl X x:=by rfl)(hdb:(x==("__debug__":Str))=false:=by decide)(he:starEach (e::es) X.env=(false,eval e X.env)::starEach es X.env:=by rfl)(hpl:(backTo pos (starEach es X.env)).any (·.1)=false:=by rfl):
  PE X (.Call (.Name x p) (e::es) [] pos) (tD X.K E λenv=>(f env).bind m):=
 imp (fq F hr hg hm hk hb .nil hx ha hdb he hpl) λσ H Q ⟨g,env,os,r,q⟩=>⟨g,env,os,r,q.bind.mono λds _ q1 vs H1 s1 i1=>by
  show EC X.K xc m (vs++[]) H1 Q _
  rw[append_nil]
  refine⟨g.P os,ds,i1,?_⟩
  cases em:m ds with
  |ok d=>
   rw[em]at q1
   intro v H' s' i'
   exact q1 v H' (s1.trans s') (Is.ext ⟨λa o pa _=>pa.elim (λz=>z) λz=>(r.same s1).fresh z,λ_ _ _ z=>z⟩ _ _ i')
  |err c=>
   rw[em]at q1
   intro H' s'
   exact⟨c,rfl,q1 H' (r.ext.trans (s1.trans s'))⟩
  |bad=>rw[em]at q1;exact q1⟩
theorem fB{m:List D->R D}(F:cO X.prog X.w X.K X.mg X.base CX k fa fd ps (EC X.K xc m))(hsc:∀ds d,m ds=.ok d->∃z,toV d=some z)(hm:X.mg x=some (.ref fa))(hk:keepIn X.K (.ref fa)=true)(hb:Binds X.K fd ps [])(hr:bh k X.A)(hx:Passes CX X (EX xc E))
  (ha:PA X (e::es) (uu X.K E f))(hg:Gl X x:=by rfl)(hdb:(x==("__debug__":Str))=false:=by decide)(he:starEach (e::es) X.env=(false,eval e X.env)::starEach es X.env:=by rfl)(hpl:(backTo pos (starEach es X.env)).any (·.1)=false:=by rfl):
  PE X (.Call (.Name x p) (e::es) [] pos) (tD X.K E λenv=>(f env).bind m):=
 imp (fq F hr hg hm hk hb .nil hx ha hdb he hpl) λσ H Q ⟨g,env,os,r,q⟩=>⟨g,env,os,r,q.bind.mono λds _ q1 vs H1 s1 i1=>by
  show EC X.K xc m (vs++[]) H1 Q _
  rw[append_nil]
  refine⟨Tr,ds,i1,?_⟩
  cases em:m ds with
  |ok d=>
   rw[em]at q1
   intro v H' s' i'
   obtain⟨z,hz⟩:=hsc ds d em
   have e2:=Is.Qh hz i'
   subst e2
   exact q1 _ H' (s1.trans s') (Is.sc hz)
  |err c=>
   rw[em]at q1
   intro H' s'
   exact⟨c,rfl,q1 H' (r.ext.trans (s1.trans s'))⟩
  |bad=>rw[em]at q1;exact q1⟩
theorem fF{m:List D->R (List D)}(F:cO X.prog X.w X.K X.mg X.base CX k fa fd ps (MJ X.K xc m))(hm:X.mg x=some (.ref fa))(hk:keepIn X.K (.ref fa)=true)(hb:Binds X.K fd ps [])(hr:bh k X.A)(hx:Passes CX X (EX xc E))
  (ha:PA X (e::es) (Ih X.K E f))(hg:Gl X x:=by rfl)(hdb:(x==("__debug__":Str))=false:=by decide)(he:starEach (e::es) X.env=(false,eval e X.env)::starEach es X.env:=by rfl)(hpl:(backTo pos (starEach es X.env)).any (·.1)=false:=by rfl):
  PE X (.Call (.Name x p) (e::es) [] pos) (tF X.K E λenv=>(f env).bind m):=
 imp (fq F hr hg hm hk hb .nil hx ha hdb he hpl) λσ H Q ⟨g,env,os,r,q⟩=>⟨g,env,os,r,q.bind.mono λds _ q1 vs H1 s1 i1=>by
  show MJ X.K xc m (vs++[]) H1 Q _
  rw[append_nil]
  refine⟨g.P os,ds,i1,?_⟩
  cases em:m ds with
  |ok d=>
   rw[em]at q1
   intro a ws H' s' hn hH i'
   exact q1 a ws H' (s1.trans s') (s1.free hn) hH (IsL.ext ⟨λb o pb _=>by
    have z:g.P os b:=pb.1.elim (λz=>z) λz=>(r.same s1).fresh z
    exact⟨z.1,λhm=>(mem_cons.mp hm).elim pb.2 z.2⟩,λ_ _ _ z=>z⟩ _ _ i')
  |err c=>
   rw[em]at q1
   intro H' s'
   exact⟨c,rfl,q1 H' (r.ext.trans (s1.trans s'))⟩
  |bad=>rw[em]at q1;exact q1⟩
theorem scs{K:PySem.W.Frag}{P P':Addr->Prop}{H:Hp}:∀{ds:List D}{vs:List V},(∀d∈ds,∃z,toV d=some z)->IsL K P H ds vs->IsL K P' H ds vs
 |[],_,_,h=>h
 |d::ds,_,hs,⟨v,r,e,p,q⟩=>by
  obtain⟨z,hz⟩:=hs d (by simp)
  have e2:=Is.Qh hz p
  exact⟨v,r,e,by rw[e2];exact Is.sc hz,scs (λd hd=>hs d (by simp[hd])) q⟩
theorem fFB{m:List D->R (List D)}(F:cO X.prog X.w X.K X.mg X.base CX k fa fd ps (MJ X.K xc m))(hsc:∀ds xs,m ds=.ok xs->∀d∈xs,∃z,toV d=some z)(hm:X.mg x=some (.ref fa))(hk:keepIn X.K (.ref fa)=true)(hb:Binds X.K fd ps [])(hr:bh k X.A)(hx:Passes CX X (EX xc E))
  (ha:PA X (e::es) (uu X.K E f))(hg:Gl X x:=by rfl)(hdb:(x==("__debug__":Str))=false:=by decide)(he:starEach (e::es) X.env=(false,eval e X.env)::starEach es X.env:=by rfl)(hpl:(backTo pos (starEach es X.env)).any (·.1)=false:=by rfl):
  PE X (.Call (.Name x p) (e::es) [] pos) (tF X.K E λenv=>(f env).bind m):=
 imp (fq F hr hg hm hk hb .nil hx ha hdb he hpl) λσ H Q ⟨g,env,os,r,q⟩=>⟨g,env,os,r,q.bind.mono λds _ q1 vs H1 s1 i1=>by
  show MJ X.K xc m (vs++[]) H1 Q _
  rw[append_nil]
  refine⟨Tr,ds,i1,?_⟩
  cases em:m ds with
  |ok d=>
   rw[em]at q1
   intro a ws H' s' hn hH i'
   exact q1 a ws H' (s1.trans s') (s1.free hn) hH (scs (hsc ds d em) i')
  |err c=>
   rw[em]at q1
   intro H' s'
   exact⟨c,rfl,q1 H' (r.ext.trans (s1.trans s'))⟩
  |bad=>rw[em]at q1;exact q1⟩
end
def aX(r:R Out)(k:DE->R Out):R Out:=r.bind λo=>match o with
 |.nx e=>k e
 |o=>.ok o
noncomputable def iB(b:D->DE->R Out):List D->DE->R Out
 |[],e=>.ok (.nx e)
 |x::xs,e=>(b x e).bind λo=>match o with
  |.nx e'=>iB b xs e'
  |.ct e'=>iB b xs e'
  |.bk e'=>.ok (.nx e')
  |.rt d=>.ok (.rt d)
  |.ph ys=>.ok (.ph ys)
  |.NN ys=>.ok (.NN ys)
  |.MI ys=>.ok (.MI ys)
  |.NK ys=>.ok (.NK ys)
  |.EB ys=>.ok (.EB ys)
section
variable{X:Cx}{E:Str->Hp->Prop}{pos:Pos}
theorem kj:q8 X [] (tS X.K E λe=>.ok (.nx e)):=Qi lN λDe σ H ⟨g,env,os,r,m⟩=>m σ H os r (.refl H os)
theorem aL{st:Stmt}{rest:List Stmt}{f k:DE->R Out}(h1:PS X st (tS X.K E f))(h2:q8 X rest (tS X.K E k)):q8 X (st::rest) (tS X.K E λe=>aX (f e) k):=
 Qi (aK h1 h2) λDe σ H ⟨g,env,os,r,m⟩=>⟨g,env,os,r,(show Good E g.H₀ ((f env).bind _) _ from m).bind.mono λo _ q=>by
  cases o with
  |nx e'=>exact λσ' H' jN r' z=>⟨g,e',jN,r',Good.mono (show Good E g.H₀ (k e') _ from q) λo _ q=>i9.step z q⟩
  |bk e'=>exact q
  |ct e'=>exact q
  |rt d=>exact q
  |ph xs=>exact q
  |NN xs=>exact q
  |MI xs=>exact q
  |NK xs=>exact q
  |EB xs=>exact q⟩
theorem bg{st:Stmt}{f:DE->R Out}(h1:PS X st (tS X.K E f)):q8 X [st] (tS X.K E f):=cu h1
theorem WM{g:Gh}{os:List Addr}{K:PySem.W.Frag}{H:Hp}{d:D}{v:V}(h:Is K (g.P os) H d v):Is K (g.P []) H d v:=Is.ext ⟨λ_ _ p _=>⟨p.1,by simp⟩,λ_ _ _ q=>q⟩ _ _ h
theorem gu{e:Expr}{f:DE->R D}(he:PE X e (tD X.K E f)):PS X (.Return (some e) pos) (tS X.K E λenv=>(f env).bind λd=>.ok (.rt d)):=
 pK (mB he) λDe σ H ⟨g,env,os,r,m⟩=>⟨g,env,os,r,m.bind.mono λd _ q v H' s i=>q v H' (r.ext.trans s) (WM i)⟩
theorem jE{e:Expr}{f:DE->R (List D)}(he:PE X e (tF X.K E f)):PS X (.Return (some e) pos) (tS X.K E λenv=>(f env).bind λd=>.ok (.ph d)):=
 pK (mB he) λDe σ H ⟨g,env,os,r,m⟩=>⟨g,env,os,r,m.bind.mono λxs _ q a vs H' s hn hH i=>
  q a vs H' (r.ext.trans s) (r.ext.free hn) hH (IsL.ext ⟨λb o p _=>⟨p.1,λz=>p.2 (by simp at z;simp[z])⟩,λ_ _ _ q=>q⟩ _ _ i)⟩
def ownAt(i:Nat)(env:DE):R (List D):=match env[i]? with
 |some (.own xs)=>.ok xs
 |_=>.bad
theorem Good.own {H₀:Hp}{i:Nat}{env:DE}{p:List D->Prop}(h:Good E H₀ (ownAt i env) p):∃xs,env[i]?=some (.own xs)/\p xs:=by
 unfold ownAt at h
 split at h
 ·rename_i xs e
  exact⟨xs,e,h⟩
 ·exact h.elim
theorem Bu(i:Nat){x:Str}{p:Pos}(hN:X.N[i]?=some x:=by rfl)(hv:yZ X.env.scope x:=by first|exact Or.inl rfl|exact Or.inr (Or.inl rfl)|exact Or.inr (Or.inr rfl))(hd:(x==("__debug__":Str))=false:=by decide)
  (hcd:(x==("__classdict__":Str))=false:=by decide):PS X (.Return (some (.Name x p)) pos) (tS X.K E λenv=>(ownAt i env).bind λxs=>.ok (.ph xs)):=
 pK (mB (jP hN hv hd hcd)) λDe σ H ⟨g,env,os,r,m⟩=>by
  obtain⟨xs,e,q⟩:=m.bind.own
  obtain⟨a,vs,h1,h2,h3,h4⟩:=r.own i xs e
  exact⟨.ref a,h1,q a vs H r.ext (r.new a h2).1 h3 (IsL.ext ⟨λb o p _=>⟨p.1,λz=>p.2 (by simp at z;rw[z];exact h2)⟩,λ_ _ _ q=>q⟩ _ _ h4)⟩
theorem ux{c:Expr}{a b:List Stmt}{fc:DE->R Bool}{fa fb:DE->R Out}(hc:PT X c (tT X.K E fc))(ha:q8 X a (tS X.K E fa))(hb:q8 X b (tS X.K E fb)):PS X (.If c a b pos) (tS X.K E λenv=>(fc env).bind λt=>if t=true then fa env else fb env):=
 pK (vc hc ha hb) λDe σ H ⟨g,env,os,r,m⟩=>⟨g,env,os,r,m.bind.mono λt _ q H' s=>by
  cases t with
  |true=>
   rw[if_pos rfl]
   exact⟨g,env,os,r.same s,Good.mono (show Good E g.H₀ (fa env) _ from q) λo _ q2=>i9.step (.same s os) q2⟩
  |false=>
   rw[if_neg Bool.false_ne_true]
   exact⟨g,env,os,r.same s,Good.mono (show Good E g.H₀ (fb env) _ from q) λo _ q2=>i9.step (.same s os) q2⟩⟩
theorem gw(i:Nat){x:Str}{e:Expr}{f:DE->R D}{pos':Pos}(he:PE X e (tD X.K E f))(hN:X.N.Nodup)(hi:X.N[i]?=some x:=by rfl)(hx:Loc X.env.scope x:=by first|exact Or.inl rfl|exact Or.inr rfl)(hs:swapsWith e (some (.Name x pos')) pos.line X.env=pure false:=by rfl)
  (hf:X.fn x=true\/X.env.scope.names.lookup x=some .local:=by first|exact .inl rfl|exact .inr rfl|assumption):PS X (.Assign [.Name x pos'] e pos) (tS X.K E λenv=>(f env).bind λd=>.ok (.nx (env.set i (.val d)))):=
 pK (dO hN hi hx he hs hf) λDe σ H ⟨g,env,os,r,m⟩=>⟨g,env,os,r,m.bind.mono λd _ q v H' s h=>q _ H' os ((r.same s).set i h) (.same s os)⟩
theorem uv.new {H H':Hp}{os:List Addr}{a:Addr}(s:aO H H')(hn:H a=none):uv H os H' (a::os):=
 ⟨λb hb=>(mem_cons.mp hb).elim (λz=>.inr (by rw[z];exact hn)) .inl,λ_ h=>s.free h,λ_ _ _ h=>s _ _ h⟩
theorem xo(i:Nat){x:Str}{e:Expr}{f:DE->R (List D)}{pos':Pos}(he:PE X e (tF X.K E f))(hN:X.N.Nodup)(hi:X.N[i]?=some x:=by rfl)(hx:Loc X.env.scope x:=by first|exact Or.inl rfl|exact Or.inr rfl)(hs:swapsWith e (some (.Name x pos')) pos.line X.env=pure false:=by rfl)
  (hf:X.fn x=true\/X.env.scope.names.lookup x=some .local:=by first|exact .inl rfl|exact .inr rfl|assumption):PS X (.Assign [.Name x pos'] e pos) (tS X.K E λenv=>(f env).bind λd=>.ok (.nx (env.set i (.own d)))):=
 pK (dO hN hi hx he hs hf) λDe σ H ⟨g,env,os,r,m⟩=>⟨g,env,os,r,m.bind.mono λd _ q a vs H' s hn hH h=>q _ H' (a::os) (r.WC s i hn hH h) (.new s hn)⟩
theorem uv.mut {H:Hp}{os:List Addr}{a:Addr}{o:HO}(ha:a∈os):uv H os (upd H a o) os:=
 ⟨λb hb=>.inl hb,λb h=>by
  by_cases z:b=a
  ·subst z;rw[au]at h;cases h
  ·rw[aj z]at h;exact h,λb u hb h=>by rw[aj (λz=>hb (by rw[z];exact ha))];exact h⟩
def yx(i:Nat)(env:DE):DE:=match env[i]? with
 |some (.own xs)=>env.set i (.val (.lst xs))
 |_=>env
theorem aaf(i:Nat){x:Str}{e:Expr}{f:DE->R D}{p apos bV:Pos}(he:PE X e (tD X.K E f))(hN:X.N[i]?=some x:=by rfl)(hv:yZ X.env.scope x:=by first|exact Or.inl rfl|exact Or.inr (Or.inl rfl)|exact Or.inr (Or.inr rfl))(hd:(x==("__debug__":Str))=false:=by decide)
  (hcd:(x==("__classdict__":Str))=false:=by decide)
  (hbase:attributeBase (.Name x p) "append" X.env (eval (.Name x p) X.env)=eval (.Name x p) X.env:=by rfl)
  (hfew:((backTo bV (starEach [e] X.env)).all (λx=> !x.1)&&(backToKw bV (keywordEach [] X.env)).all (λx=>x.1.isSome)
   &&decide ([e].length+([]:List Keyword).length+(if([]:List Keyword).isEmpty then 0 else 1)<30))=true:=by rfl)
  (hline:(apos.endLine==bV.line)=true:=by rfl)(hst:starEach [e] X.env=(false,eval e X.env)::starEach [] X.env:=by rfl)(hplain:(backTo bV (starEach [] X.env)).any (·.1)=false:=by rfl)
  (hs:swapsWith (.Call (.Attribute (.Name x p) "append" apos) [e] [] bV) none pos.line X.env=pure false:=by rfl):
  PS X (.Expr (.Call (.Attribute (.Name x p) "append" apos) [e] [] bV) pos) (tS X.K E λenv=>(ownAt i env).bind λxs=>(f env).bind λd=> @ite _ (xs.length<sizeLine) (propDecidable _) (.ok (.nx (env.set i (.own (xs++[d]))))) (.bad)):=
 pK (ik (xg plainAttrs_list PySem.F.slot_list_append PySem.F.type_list_append fZ (jP hN hv hd hcd) (aD he aP hst) hbase hfew hline hst hplain) hs) λDe σ H ⟨g,env,os,r,m⟩=>by
  obtain⟨xs,e,m1⟩:=m.bind.own
  obtain⟨a,vs,h1,h2,h3,h4⟩:=r.own i xs e
  refine⟨.ref a,h1,.inl ⟨rfl,vs,dG.of h3⟩,g,env,os,r,m1.bind.mono λd _ q v H' s hi=>?_⟩
  split at q
  ·rename_i c
   refine⟨a,vs,v,rfl,rfl,s _ _ h3,by rw[h4.length];exact c,?_⟩
   exact q σ _ os ((r.same s).mut e h1 h2 ((h4.same s).app (.one hi))) ((uv.same s os).trans (.mut h2))
  ·exact q.elim
theorem aag(i:Nat){x:Str}{p apos bV:Pos}(hN:X.N[i]?=some x:=by rfl)(hv:yZ X.env.scope x:=by first|exact Or.inl rfl|exact Or.inr (Or.inl rfl)|exact Or.inr (Or.inr rfl))(hd:(x==("__debug__":Str))=false:=by decide)
  (hcd:(x==("__classdict__":Str))=false:=by decide)
  (hbase:attributeBase (.Name x p) "pop" X.env (eval (.Name x p) X.env)=eval (.Name x p) X.env:=by rfl)(hline:(apos.endLine==bV.line)=true:=by rfl)
  (hs:swapsWith (.Call (.Attribute (.Name x p) "pop" apos) [] [] bV) none pos.line X.env=pure false:=by rfl):
  PS X (.Expr (.Call (.Attribute (.Name x p) "pop" apos) [] [] bV) pos) (tS X.K E λenv=>(ownAt i env).bind λxs=>if 0<xs.length then .ok (.nx (env.set i (.own xs.dropLast)))else .bad):=
 pK (ik (zZ plainAttrs_list slot_list_pop type_list_pop IX (jP hN hv hd hcd) hbase hline) hs) λDe σ H ⟨g,env,os,r,m⟩=>by
  obtain⟨xs,e,m1⟩:=m.bind.own
  obtain⟨a,vs,h1,h2,h3,h4⟩:=r.own i xs e
  split at m1
  ·rename_i c
   have hl:=h4.length
   refine⟨.ref a,h1,.inl ⟨rfl,vs,dG.of h3⟩,a,vs,vs[vs.length-1],rfl,rfl,h3,by rw[getElem?_eq_getElem (by lia)],?_⟩
   refine m1 σ _ os (r.mut e h1 h2 ?_) (.mut h2)
   rw[dropLast_eq_take,dropLast_eq_take,hl]
   exact h4.take _
  ·exact m1.elim
theorem S8(i:Nat){x:Str}{ek e:Expr}{fk f:DE->R D}{p tp:Pos}(hk:PE X ek (tB X.K E fk))(he:PE X e (tD X.K E f))(hN:X.N[i]?=some x:=by rfl)(hv:yZ X.env.scope x:=by first|exact Or.inl rfl|exact Or.inr (Or.inl rfl)|exact Or.inr (Or.inr rfl))(hd:(x==("__debug__":Str))=false:=by decide)
  (hcd:(x==("__classdict__":Str))=false:=by decide)
  (ha:∀v,assign (.Subscript (.Name x p) ek tp) X.env v=(do
   let ov<-holding [v] (eval (.Name x p) X.env)
   let iv<-holding [v,ov] (eval ek X.env)
   standAt tp
   holding [v,ov,iv] (setItem ov iv v)
   release [v,ov,iv] []):=by intro _;rfl)
  (hs:swapsWithSole [.Subscript (.Name x p) ek tp] e pos.line X.env=pure false:=by rfl)(hw:swappedStores [.Subscript (.Name x p) ek tp] e X.env=pure none:=by rfl)
  (h1:(assignEach [.Subscript (.Name x p) ek tp] X.env).map (·.2)=[assign (.Subscript (.Name x p) ek tp) X.env]:=by rfl):
  PS X (.Assign [.Subscript (.Name x p) ek tp] e pos) (tS X.K E λenv=>(f env).bind λd=>(ownAt i env).bind λxs=>(fk env).bind λkd=>match kd with
   |.int j=>(match rR xs.length j with
    |some n=>.ok (.nx (env.set i (.own (xs.set n d))))
    |none=>.bad)
   |_=>.bad):=
 pK (CW he (CV (jP hN hv hd hcd) hk set_list ha) hs hw h1) λDe σ H ⟨g,env,os,r,m⟩=>⟨g,env,os,r,m.bind.mono λd _ m1 v H1 s1 i1=>by
  obtain⟨xs,e,m2⟩:=m1.bind.own
  obtain⟨a,vs,h1,h2,h3,h4⟩:=(r.same s1).own i xs e
  refine⟨.ref a,h1,g,env,os,r.same s1,m2.bind.mono λkd _ m3 w H2 s2 i2=>?_⟩
  cases kd with
  |int j=>
   cases q:rR xs.length j with
   |none=>
    simp only [q]at m3
    exact m3.elim
   |some n=>
    simp only [q]at m3
    refine⟨a,vs,j,n,rfl,i2,s2 _ _ h3,by rw[h4.length];exact q,?_⟩
    exact m3 σ _ os ((r.same (s1.trans s2)).mut e h1 h2 ((h4.same s2).set n (i1.same s2))) ((uv.same (s1.trans s2) os).trans (.mut h2))
  |non=>exact m3.elim
  |bl _=>exact m3.elim
  |lst _=>exact m3.elim
  |str _=>exact m3.elim
  |exc _=>exact m3.elim
  |fn _=>exact m3.elim
  |tup _=>exact m3.elim⟩
theorem aah(i:Nat){x:Str}{e:Expr}{op:Operator}{h:Int->Int->Int}{f:DE->R D}{pos':Pos}(ho:Vr X op (V5 h))(he:PE X e (tB X.K E f))(hN:X.N.Nodup)(hi:X.N[i]?=some x:=by rfl)(hx:Loc X.env.scope x:=by first|exact Or.inl rfl|exact Or.inr rfl)
  (hf:X.fn x=true\/X.env.scope.names.lookup x=some .local:=by first|exact .inl rfl|exact .inr rfl|assumption):
  PS X (.AugAssign (.Name x pos') op e pos) (tS X.K E λenv=>(bH i env).bind λa=>(f env).bind λb=>match a,b with
   |.int u,.int w=>.ok (.nx (env.set i (.val (.int (h u w)))))
   |_,_=>.bad):=
 pK (CZ hN hi hx he ho hf) λDe σ H ⟨g,env,os,r,m⟩=>by
  dsimp only [bH]at m
  cases q:env[i]? with
  |none=>rw[q]at m;exact m.elim
  |some sl=>
   cases sl with
   |no=>rw[q]at m;exact m.elim
   |raw _=>rw[q]at m;exact m.elim
   |deep _=>rw[q]at m;exact m.elim
   |own _=>rw[q]at m;exact m.elim
   |val a=>
    rw[q]at m
    obtain⟨v,h1,h2⟩:=r.val i a q
    have m':Good E g.H₀ ((f env).bind _) _:=m
    refine⟨v,h1,g,env,os,r,m'.bind.mono λb _ m2 w H' s i2=>?_⟩
    cases a with
    |int u=>
     cases b with
     |int w'=>exact⟨u,w',h2,i2,m2 _ H' os ((r.same s).set i rfl) (.same s os)⟩
     |non=>exact m2.elim
     |bl _=>exact m2.elim
     |lst _=>exact m2.elim
     |str _=>exact m2.elim
     |exc _=>exact m2.elim
     |fn _=>exact m2.elim
     |tup _=>exact m2.elim
    |non=>exact m2.elim
    |bl _=>exact m2.elim
    |lst _=>exact m2.elim
    |str _=>exact m2.elim
    |exc _=>exact m2.elim
    |fn _=>exact m2.elim
    |tup _=>exact m2.elim
def Yl(K:PySem.W.Frag)(P:Addr->Prop)(J:It)(H:Hp)(xs:List D):Prop:=
 ∀(i:Nat)(H':Hp)(P':Addr->Prop),Ext P P' H H'->(∀d,xs[i]?=some d->J.go i H'/\∀x S9,J.V6 i H' x S9->aO H' S9/\Is K (λa=>P' a\/H' a=none) S9 d x)/\(xs.length=i->J.stop i H')
def tI(K:PySem.W.Frag)(E:Str->Hp->Prop)(f:DE->R (List D)):TI:=λσ H Rr=>∃g env os,Rel K g env σ H os/\Good E g.H₀ (f env) λxs=>∀J H1,aO H H1->Yl K (g.P os) J H1 xs->Rr J H1
theorem Jh{tg e:Expr}{t t':TI}(h:PI X tg e t)(w:∀σ H Q,t' σ H Q->t σ H Q):PI X tg e t':=λpins s σ H Q I q=>h pins s σ H Q I (w σ H Q q)
def Yls(K:PySem.W.Frag)(P:Addr->Prop)(J:It)(H:Hp)(xs:List D):Prop:=
 ∀(i:Nat)(H':Hp)(P':Addr->Prop),aO H H'->Ext P P' H H'->(∀d,xs[i]?=some d->J.go i H'/\∀x S9,J.V6 i H' x S9->aO H' S9/\Is K (λa=>P' a\/H' a=none) S9 d x)/\(xs.length=i->J.stop i H')
def WN(K:PySem.W.Frag)(E:Str->Hp->Prop)(f:DE->R (List D)):TI:=λσ H Rr=>∃g env os,Rel K g env σ H os/\Good E g.H₀ (f env) λxs=>∀J H1,aO H H1->Yls K (g.P os) J H1 xs->Rr J H1
theorem Bv{tg e:Expr}{f:DE->R (List D)}(h:PI X tg e (tI X.K E f)):PI X tg e (WN X.K E f):=Jh h λσ H Q ⟨g,env,os,r,m⟩=>⟨g,env,os,r,m.mono λxs _ q J H1 s1 yl=>q J H1 s1 λi H' P' _ ex=>yl i H' P' ex⟩
theorem iLS{tg e:Expr}{f:DE->R (List D)}(he:PE X e (tL X.K E f)):PI X tg e (WN X.K E f):=
 Jh (wg he) λσ H Q ⟨g,env,os,r,m⟩=>⟨g,env,os,r,m.mono λxs _ q a vs H' s h1 h2=>by
  refine⟨a,rfl,⟨vs,h1⟩,q _ H' s λj H2 P' ss ex=>⟨λd hd=>?_,λhj=>?_⟩⟩
  ·obtain⟨x,hx,hi⟩:=(IsL.ext ex _ _ h2).get hd
   refine⟨⟨vs,x,ss.seq h1,hx⟩,λy H3 hy=>?_⟩
   obtain⟨rfl,hy⟩:=hy
   have e2:=hy vs (ss.seq h1)
   rw[hx]at e2
   cases e2
   exact⟨aO.refl _,Is.ext ⟨λ_ _ p _=>.inl p,λ_ _ _ z=>z⟩ _ _ hi⟩
  ·exact⟨vs,ss.seq h1,by rw[IsL.length h2];exact le_of_eq hj⟩⟩
theorem iL{tg e:Expr}{f:DE->R D}(he:PE X e (tD X.K E f)):PI X tg e (tI X.K E λenv=>(f env).bind wo):=
 Jh (wg he) λσ H Q ⟨g,env,os,r,m⟩=>⟨g,env,os,r,m.bind.mono λd _ q v H' s i=>by
  cases d with
  |lst xs=>
   obtain⟨a,vs,rfl,h1,h2⟩:=i
   refine⟨a,rfl,⟨vs,h1.sq⟩,q _ H' s λj H2 P' ex=>⟨λd hd=>?_,λhj=>?_⟩⟩
   ·obtain⟨x,hx,hi⟩:=(IsL.ext ex _ _ h2).get hd
    refine⟨⟨vs,x,(h1.ext ex).sq,hx⟩,λy H3 hy=>?_⟩
    obtain⟨rfl,hy⟩:=hy
    have e2:=hy vs (h1.ext ex).sq
    rw[hx]at e2
    cases e2
    exact⟨aO.refl _,Is.ext ⟨λ_ _ p _=>.inl p,λ_ _ _ z=>z⟩ _ _ hi⟩
   ·exact⟨vs,(h1.ext ex).sq,by rw[IsL.length h2];exact le_of_eq hj⟩
  |non=>exact q.elim
  |bl _=>exact q.elim
  |int _=>exact q.elim
  |str _=>exact q.elim
  |exc _=>exact q.elim
  |fn _=>exact q.elim
  |tup _=>exact q.elim⟩
def rD(lo:Int)(n:Nat):List D:=(range n).map λi=>.int (lo+(i:Nat))
def NU:List D->R (List D)
 |[.int j]=> @ite _ (-(2^62)<=j/\j<2^62) (propDecidable _) (.ok (rD 0 j.toNat)) (.bad)
 |_=>.bad
def Ji:List D->R (List D)
 |[.int i,.int j]=> @ite _ (-(2^62)<=i/\i<2^62/\ -(2^62)<=j/\j<2^62) (propDecidable _) (.ok (rD i (j-i).toNat)) (.bad)
 |_=>.bad
theorem Jj{K:PySem.W.Frag}{P:Addr->Prop}{H:Hp}(lo:Int)(n:Nat):Yl K P (V7 lo n) H (rD lo n):=λi H' P' ex=>⟨λd hd=>by
 unfold rD at hd
 rw[getElem?_map]at hd
 have hi:i<n:=by
  cases q:(range n)[i]? with
  |none=>rw[q]at hd;cases hd
  |some j=>simpa using(List.getElem?_eq_some_iff.mp q).1
 rw[List.getElem?_range hi]at hd
 cases hd
 refine⟨hi,λx H2 hy=>?_⟩
 obtain⟨rfl,rfl⟩:=hy
 exact⟨aO.refl _,rfl⟩,λh=>by
 unfold rD at h
 exact le_of_eq (by simpa using h)⟩
theorem iR1{tg a:Expr}{p:Pos}{f:DE->R (List D)}(hm:X.mg "range"=none)(ha:PA X [a] (uu X.K E f))(hg:Gl X "range":=by rfl)(hs:starEach [a] X.env=[(false,eval a X.env)]:=by rfl):
  PI X tg (.Call (.Name "range" p) [a] [] pos) (tI X.K E λenv=>(f env).bind NU):=
 Jh (GK hg hm ha hs) λσ H Q ⟨g,env,os,r,m⟩=>⟨g,env,os,r,m.bind.mono λds _ q vs H' s i=>by
  unfold NU at q
  split at q
  ·rename_i j _
   split at q
   ·rename_i c
    obtain⟨v,rfl,h1⟩:=IsL.z5 i
    have h':v=.int j:=h1
    subst h'
    exact⟨j,rfl,c.1,c.2,q _ H' s (Jj 0 _)⟩
   ·exact q.elim
  ·exact q.elim⟩
theorem iR2{tg a b:Expr}{p:Pos}{f:DE->R (List D)}(hm:X.mg "range"=none)(ha:PA X [a,b] (uu X.K E f))(hg:Gl X "range":=by rfl)(hs:starEach [a,b] X.env=[(false,eval a X.env),(false,eval b X.env)]:=by rfl)(hs2:starEach [b] X.env=[(false,eval b X.env)]:=by rfl):
  PI X tg (.Call (.Name "range" p) [a,b] [] pos) (tI X.K E λenv=>(f env).bind Ji):=
 Jh (GO hg hm ha hs hs2) λσ H Q ⟨g,env,os,r,m⟩=>⟨g,env,os,r,m.bind.mono λds _ q vs H' s i=>by
  unfold Ji at q
  split at q
  ·rename_i u j _
   split at q
   ·rename_i c
    obtain⟨v,w,rfl,h1,h2⟩:=IsL.NT i
    have h':v=.int u:=h1
    have h2':w=.int j:=h2
    subst h' h2'
    exact⟨u,j,rfl,c,q _ H' s (Jj u _)⟩
   ·exact q.elim
  ·exact q.elim⟩
def tG(K:PySem.W.Frag)(E:Str->Hp->Prop)(b:D->DE->R DE):TG:=λv σ H Q=>∃g env os d,Rel K g env σ H os/\Is K (g.P os) H d v/\Good E g.H₀ (b d env) λe'=>∀σ',Rel K g e' σ' H os->Q σ' H
def Qj(K:PySem.W.Frag)(E:Str->Hp->Prop)(b:List D->DE->R DE):Nd:=λvs σ H Q=>∃g env os ds,Rel K g env σ H os/\IsL K (g.P os) H ds vs/\Good E g.H₀ (b ds env) λe'=>∀σ',Rel K g e' σ' H os->Q σ' H
theorem WO{e:Expr}{t t':TG}(h:PG X e t)(w:∀v σ H Q,t' v σ H Q->t v σ H Q):PG X e t':=λpins s σ H v u Q I r q=>h pins s σ H v u Q I r (w v σ H Q q)
theorem Qk{e:List Expr}{t t':Nd}(h:Eo X e t)(w:∀v σ H Q,t' v σ H Q->t v σ H Q):Eo X e t':=λpins s σ H v u Q I r q=>h pins s σ H v u Q I r (w v σ H Q q)
theorem gN(i:Nat){x:Str}(hN:X.N.Nodup)(hi:X.N[i]?=some x:=by rfl)(hx:Loc X.env.scope x:=by first|exact Or.inl rfl|exact Or.inr rfl)(hf:X.fn x=true\/X.env.scope.names.lookup x=some .local:=by first|exact .inl rfl|exact .inr rfl|assumption):
  PG X (.Name x pos) (tG X.K E λd env=>.ok (env.set i (.val d))):=WO (we hN hi hx hf) λv σ H Q ⟨g,env,os,d,r,h,m⟩=>m _ (r.set i h)
theorem WQ:Eo X [] (Qj X.K E λds env=>match ds with
  |[]=>.ok env
  |_=>.bad):=Qk Ng λvs σ H Q ⟨g,env,os,ds,r,h,m⟩=>by
 cases ds with
 |nil=>exact⟨h,m σ r⟩
 |cons _ _=>exact m.elim
theorem Tc{e:Expr}{es:List Expr}{b:D->DE->R DE}{k:List D->DE->R DE}(h1:PG X e (tG X.K E b))(h2:Eo X es (Qj X.K E k))(hs:(assignEach (e::es) X.env).map (·.2)=assign e X.env::(assignEach es X.env).map (·.2):=by rfl):
  Eo X (e::es) (Qj X.K E λds env=>match ds with
   |d::r=>(b d env).bind λe'=>k r e'
   |_=>.bad):=Qk (IC h1 h2 hs) λvs σ H Q ⟨g,env,os,ds,r,h,m⟩=>by
 cases ds with
 |nil=>exact m.elim
 |cons d rest=>
  obtain⟨v,vr,rfl,p,q⟩:=h
  have m':Good E g.H₀ ((b d env).bind λe'=>k rest e') _:=m
  exact⟨v,vr,rfl,g,env,os,d,r,p,m'.bind.mono λe' _ m2 σ' r'=>⟨g,e',os,rest,r',q,m2⟩⟩
theorem gT{es:List Expr}{kk:Nat}{b:List D->DE->R DE}{n:Nat}(hc:X.calm=true)(h:Eo X es (Qj X.K E b))(hn:(assignEach es X.env).length=n:=by rfl)(hst:(assignEach es X.env).findIdx? (·.1)=none:=by rfl):
  PG X (.Tuple es kk pos) (tG X.K E λd env=>match d with
   |.tup ds=>if ds.length=n then b ds env else .bad
   |_=>.bad):=WO (Si hc h hn hst) λv σ H Q ⟨g,env,os,d,r,h,m⟩=>by
 cases d with
 |tup ds=>
  obtain⟨a,vs,rfl,h1,h2⟩:=h
  have m':Good E g.H₀ (if ds.length=n then b ds env else .bad) _:=m
  split at m'
  ·rename_i c
   exact⟨a,vs,rfl,h1.sq,by rw[IsL.length h2];exact c,g,env,os,ds,r,h2,m'⟩
  ·exact m'.elim
 |non=>exact m.elim
 |bl _=>exact m.elim
 |int _=>exact m.elim
 |str _=>exact m.elim
 |lst _=>exact m.elim
 |exc _=>exact m.elim
 |fn _=>exact m.elim
theorem yH{tg iter:Expr}{body:List Stmt}{f:DE->R (List D)}{b:D->DE->R DE}{k:DE->R Out}(hp:PassesOwn (model X.prog X.w) X.A X.env X.xe)(hc:X.calm=true)(hi:PI X tg iter (tI X.K E f))(hg:PG X tg (tG X.K E b))(hb:q8 X body (tS X.K E k))
  (hs:∀x,foldedSetIterable iter X.env x=pure x:=by intro _;rfl):PS X (.For tg iter body [] pos) (tS X.K E λenv=>(f env).bind λxs=>iB (λd e=>(b d e).bind k) xs env):=
 pK (IG hp hc hi hg hb hs) λDe σ H ⟨g,env,os,r,m⟩=>⟨g,env,os,r,m.bind.mono λxs _ m1 J H1 s1 yl=>by
  refine⟨λi n σ' H'=>n=xs.length-i/\i<=xs.length/\∃yF jN,Rel X.K g yF σ' H' jN/\uv H1 os H' jN/\Good E g.H₀ (iB (λd e=>(b d e).bind k) (xs.drop i) yF) (i9 X.K g H' jN De),
   ⟨xs.length,by simp,zero_le _,env,os,r.same s1,.refl _ _,by rw[drop_zero];exact m1.mono λo _ q=>i9.step (.same s1 os) q⟩,?_⟩
  rintro i n σ' H' ⟨rfl,hi,yF,jN,r',st,m2⟩
  obtain⟨y1,y2⟩:=yl i H' (g.P jN) st.ext
  by_cases hlt:i<xs.length
  ·have hx:xs[i]?=some xs[i]:=getElem?_eq_getElem hlt
   obtain⟨go,y3⟩:=y1 _ hx
   rw[drop_eq_getElem_cons hlt]at m2
   refine .inr ⟨go,λσ2 H2=>∃WR Vt,Rel X.K g WR σ2 H2 Vt/\uv H1 os H2 Vt/\Good E g.H₀ (iB (λd e=>(b d e).bind k) (xs.drop (i+1)) WR) (i9 X.K g H2 Vt De),λσ2 H2 ⟨e2,o2,r2,t2,g2⟩=>⟨xs.length-(i+1),by lia,rfl,hlt,e2,o2,r2,t2,g2⟩,λx H2 hy=>?_⟩
   obtain⟨s2,WS⟩:=y3 x H2 hy
   have r2:=r'.same s2
   have ix:Is X.K (g.P jN) H2 xs[i] x:=Is.ext ⟨λa o p _=>p.elim (λz=>z) λz=>r'.fresh z,λ_ _ _ z=>z⟩ _ _ WS
   have m3:Good E g.H₀ (((b xs[i] yF).bind k).bind _) _:=m2
   refine⟨g,yF,jN,xs[i],r2,ix,m3.bind.bind.mono λe3 _ m4 σ3 r3=>⟨g,e3,jN,r3,Good.mono m4 λo _ q=>?_⟩⟩
   have MG:=st.trans (uv.same s2 jN)
   cases o with
   |nx e4=>exact λσ4 H4 WT r4 z=>⟨e4,WT,r4,MG.trans z,Good.mono (show Good E g.H₀ (iB _ _ e4) _ from q) λo _ q=>i9.step ((uv.same s2 jN).trans z) q⟩
   |ct e4=>exact λσ4 H4 WT r4 z=>⟨e4,WT,r4,MG.trans z,Good.mono (show Good E g.H₀ (iB _ _ e4) _ from q) λo _ q=>i9.step ((uv.same s2 jN).trans z) q⟩
   |bk e4=>exact λσ4 H4 WT r4 z=>(show i9 X.K g H' jN De (.nx e4)from q) σ4 H4 WT r4 ((uv.same s2 jN).trans z)
   |rt d=>exact q
   |ph ys=>exact q
   |NN ys=>exact q
   |MI ys=>exact q
   |NK ys=>exact q
   |EB ys=>exact q
  ·have e:i=xs.length:=by lia
   subst e
   rw[drop_length]at m2
   exact .inl ⟨y2 rfl,(show i9 X.K g H' jN De (.nx yF)from m2) σ' H' jN r' (.refl _ _)⟩⟩
end
def aN(n:Nat)(ds:List D):DE:=ds.map .val++replicate (n-ds.length) .no
theorem uy{K:PySem.W.Frag}{N:List Str}{P:Addr->Prop}{H:Hp}{ds:List D}{vs:List V}(h:IsL K P H ds vs):Rel K ⟨P,H⟩ (aN N.length ds) (L2.start N vs) H []:=by
 have hl:=h.length
 refine⟨by simp[aN,L2.start,hl],aO.refl H,λi d e=>?_,λi xs e=>?_,λi j xs ys a e=>?_,(λa ha=>nomatch ha),λi v e=>?_,Di.none λi v e=>?_⟩
 ·unfold aN at e
  by_cases hi:i<ds.length
  ·rw[getElem?_append_left (by simpa using hi),getElem?_map,getElem?_eq_getElem hi]at e
   have e':Sl.val ds[i]=Sl.val d:=Option.some.inj e
   cases e'
   obtain⟨v,h1,h2⟩:=h.get (getElem?_eq_getElem hi)
   refine⟨v,?_,Is.ext ⟨λa o p _=>⟨.inl p,by simp⟩,λ_ _ _ z=>z⟩ _ _ h2⟩
   unfold L2.start
   rw[getElem?_append_left (by simp;lia),getElem?_map,h1]<;>rfl
  ·rw[getElem?_append_right (by simp;lia)]at e
   have:=getElem?_replicate (n:=N.length-ds.length) (a:=Sl.no) (i:=i-(ds.map Sl.val).length)
   rw[this]at e
   split at e<;>cases e
 ·exfalso
  unfold aN at e
  by_cases hi:i<ds.length
  ·rw[getElem?_append_left (by simpa using hi),getElem?_map,getElem?_eq_getElem hi]at e
   cases e
  ·rw[getElem?_append_right (by simp;lia)]at e
   have:=getElem?_replicate (n:=N.length-ds.length) (a:=Sl.no) (i:=i-(ds.map Sl.val).length)
   rw[this]at e
   split at e<;>cases e
 ·exfalso
  unfold aN at e
  by_cases hi:i<ds.length
  ·rw[getElem?_append_left (by simpa using hi),getElem?_map,getElem?_eq_getElem hi]at e
   cases e
  ·rw[getElem?_append_right (by simp;lia)]at e
   have:=getElem?_replicate (n:=N.length-ds.length) (a:=Sl.no) (i:=i-(ds.map Sl.val).length)
   rw[this]at e
   split at e<;>cases e
 ·exfalso
  unfold aN at e
  by_cases hi:i<ds.length
  ·rw[getElem?_append_left (by simpa using hi),getElem?_map,getElem?_eq_getElem hi]at e
   cases e
  ·rw[getElem?_append_right (by simp;lia)]at e
   have:=getElem?_replicate (n:=N.length-ds.length) (a:=Sl.no) (i:=i-(ds.map Sl.val).length)
   rw[this]at e
   split at e<;>cases e
 ·exfalso
  unfold aN at e
  by_cases hi:i<ds.length
  ·rw[getElem?_append_left (by simpa using hi),getElem?_map,getElem?_eq_getElem hi]at e
   cases e
  ·rw[getElem?_append_right (by simp;lia)]at e
   have:=getElem?_replicate (n:=N.length-ds.length) (a:=Sl.no) (i:=i-(ds.map Sl.val).length)
   rw[this]at e
   split at e<;>cases e
def ah:Out->R D
 |.rt d=>.ok d
 |.ph xs=>.ok (.lst xs)
 |.nx _=>.ok .non
 |_=>.bad
def ai:Out->R (List D)
 |.ph xs=>.ok xs
 |_=>.bad
abbrev EN:Str->Hp->Prop:=λ_ _=>False
section
variable{P:Program}{w:World}{K:PySem.W.Frag}{mg:Str->Option Value}{base:Heap}
theorem Is.P0 {Q:Addr->Prop}{H H':Hp}{d:D}{v:V}(h:Is K ((⟨Q,H⟩:Gh).P []) H' d v):Is K (λa=>Q a\/H a=none) H' d v:=Is.ext ⟨λ_ _ p _=>p.1,λ_ _ _ z=>z⟩ _ _ h
theorem aai{x qual:Str}{st:Stmt}{f:Addr}{fd:FuncData}{N ps:List Str}{k:Nat}{xc:Str->Value}{m:List D->R D}{b:DE->R Out}(F:Bj K x qual st f fd)(S:aC N ps (ae st))
  (hm:∀ds d,m ds=.ok d->ds.length=ps.length/\(b (aN N.length ds)).bind ah=.ok d)(hne:∀ds c,m ds≠.err c)
  (hb:∀(cdv:Value)(A:Around)(outer:List Env)(s:Shared)(H:Hp)(E:XK),bh k (A.deeper (envOfC qual (ae st) s.heap.objs.size f cdv))->q8 (qT lK P w K mg base N qual (ae st) f cdv A outer s H E).GG (bM st) (tS K EN b)):
  cO P w K mg base lK (k+1) f fd ps (EC K xc m):=by
 refine F.ok S (λvs H Q E h=>?_) (λcdv A outer s H vs Q E hr h=>?_)
 ·obtain⟨Pa,ds,i,h⟩:=h
  cases e:m ds with
  |ok d=>rw[i.length];exact(hm ds d e).1
  |err c=>exact(hne ds c e).elim
  |bad=>rw[e]at h;exact h.elim
 ·obtain⟨Pa,ds,i,h⟩:=h
  refine⟨_,hb cdv A outer s H E hr,⟨⟨Pa,H⟩,aN N.length ds,[],uy i,?_⟩⟩
  cases e:m ds with
  |err c=>exact(hne ds c e).elim
  |bad=>rw[e]at h;exact h.elim
  |ok d=>
   rw[e]at h
   obtain⟨_,q⟩:=hm ds d e
   cases eb:b (aN N.length ds)with
   |bad=>rw[eb]at q;cases q
   |err c=>rw[eb]at q;cases q
   |ok o=>
    rw[eb]at q
    cases o with
    |rt d'=>
     cases q
     exact λv H' s' i'=>h v H' s' i'.P0
    |ph xs=>
     cases q
     intro a EA H' s' hn hH i'
     exact h _ H' s' ⟨a,EA,rfl,.inl ⟨.inr hn,.inl hH⟩,IsL.ext ⟨λb o p _=>p.1,λ_ _ _ z=>z⟩ _ _ i'⟩
    |nx e'=>
     cases q
     exact λσ' H' jN r' _=>h _ H' r'.ext rfl
    |NN _=>cases q
    |MI _=>cases q
    |NK _=>cases q
    |EB _=>cases q
    |bk _=>cases q
    |ct _=>cases q
theorem aaj{x qual:Str}{st:Stmt}{f:Addr}{fd:FuncData}{N ps:List Str}{k:Nat}{xc:Str->Value}{m:List D->R (List D)}{b:DE->R Out}(F:Bj K x qual st f fd)(S:aC N ps (ae st))
  (hm:∀ds d,m ds=.ok d->ds.length=ps.length/\(b (aN N.length ds)).bind ai=.ok d)(hne:∀ds c,m ds≠.err c)
  (hb:∀(cdv:Value)(A:Around)(outer:List Env)(s:Shared)(H:Hp)(E:XK),bh k (A.deeper (envOfC qual (ae st) s.heap.objs.size f cdv))->q8 (qT lK P w K mg base N qual (ae st) f cdv A outer s H E).GG (bM st) (tS K EN b)):
  cO P w K mg base lK (k+1) f fd ps (MJ K xc m):=by
 refine F.ok S (λvs H Q E h=>?_) (λcdv A outer s H vs Q E hr h=>?_)
 ·obtain⟨Pa,ds,i,h⟩:=h
  cases e:m ds with
  |ok d=>rw[i.length];exact(hm ds d e).1
  |err c=>exact(hne ds c e).elim
  |bad=>rw[e]at h;exact h.elim
 ·obtain⟨Pa,ds,i,h⟩:=h
  refine⟨_,hb cdv A outer s H E hr,⟨⟨Pa,H⟩,aN N.length ds,[],uy i,?_⟩⟩
  cases e:m ds with
  |err c=>exact(hne ds c e).elim
  |bad=>rw[e]at h;exact h.elim
  |ok d=>
   rw[e]at h
   obtain⟨_,q⟩:=hm ds d e
   cases eb:b (aN N.length ds)with
   |bad=>rw[eb]at q;cases q
   |err c=>rw[eb]at q;cases q
   |ok o=>
    rw[eb]at q
    cases o with
    |rt d'=>cases q
    |ph xs=>
     cases q
     intro a EA H' s' hn hH i'
     exact h a EA H' s' hn hH (IsL.ext ⟨λb o p _=>⟨p.1,λz=>p.2 (by simp[z])⟩,λ_ _ _ z=>z⟩ _ _ i')
    |nx e'=>cases q
    |NN _=>cases q
    |MI _=>cases q
    |NK _=>cases q
    |EB _=>cases q
    |bk _=>cases q
    |ct _=>cases q
end
def AS(cells:List (Str×Addr)):List (Str×NameKind)->List (Str×Addr)->List (Str×Addr)
 |[],acc=>acc
 |(n,k)::r,acc=>if(k==NameKind.free)=true then AS cells r ((n,(cells.lookup n).getD 0)::acc)else AS cells r acc
theorem rg{scope:Scope}{env:Env}(h:∀y∈scope.names,y.2=.free->∃c,env.cells.lookup y.1=some c):closureFor scope env=pure (AS env.cells scope.names []):=by
 have gen:∀(l:List (Str×NameKind))(acc:List (Str×Addr)),(∀y∈l,y.2=.free->∃c,env.cells.lookup y.1=some c)->
   (forIn l acc λ(x:Str×NameKind)(r:List (Str×Addr))=>(if(x.2==NameKind.free)=true then(do let a<-cellOf env x.1;pure (ForInStep.yield ((x.1,a)::r)))else pure (ForInStep.yield r):Sem (ForInStep (List (Str×Addr)))))=pure (AS env.cells l acc):=by
  intro l
  induction l with
  |nil=>intro acc _;rfl
  |cons y r ih=>
   intro acc hy
   obtain⟨n,k⟩:=y
   rw[List.forIn_cons]
   have hr:∀y∈r,y.2=.free->∃c,env.cells.lookup y.1=some c:=λy h=>hy y (mem_cons_of_mem _ h)
   by_cases hk:(k==NameKind.free)=true
   ·obtain⟨c,hc⟩:=hy (n,k) mem_cons_self (by simpa using hk)
    have Ir:env.cells.lookup n=some c:=hc
    simp only [hk,if_true,AS,cellOf,Ir,getD_some]
    exact ih _ hr
   ·simp only [hk,AS]
    exact ih _ hr
 show((forIn scope.names ([]:List (Str×Addr)) λ(x:Str×NameKind)(r:List (Str×Addr))=>(if(x.2==NameKind.free)=true then(do let a<-cellOf env x.1;pure (ForInStep.yield ((x.1,a)::r)))else pure (ForInStep.yield r):Sem (ForInStep (List (Str×Addr)))))>>=λs=>pure s)=_
 rw[gen scope.names [] h]
 rfl
theorem rE{cells:List (Str×Addr)}{x:Str}:∀(l:List (Str×NameKind))(acc:List (Str×Addr)),(∀y∈l,y.2=.free->∃c,cells.lookup y.1=some c)->(∀c,acc.lookup x=some c->cells.lookup x=some c)->
  ∀c,(AS cells l acc).lookup x=some c->cells.lookup x=some c
 |[],acc,_,h,c,e=>h c e
 |(n,k)::r,acc,hy,h,c,e=>by
  unfold AS at e
  have hr:∀y∈r,y.2=.free->∃c,cells.lookup y.1=some c:=λy h=>hy y (mem_cons_of_mem _ h)
  split at e
  ·rename_i hk
   refine rE r _ hr (λc' e'=>?_) c e
   rw[lookup_cons]at e'
   obtain⟨c0,hc0⟩:=hy (n,k) mem_cons_self (by simpa using hk)
   have WU:cells.lookup n=some c0:=hc0
   cases hx:x==n with
   |true=>
    rw[hx]at e'
    have ex:x=n:=by simpa using hx
    rw[WU]at e'
    cases e'
    rw[ex];exact WU
   |false=>
    rw[hx]at e'
    exact h c' e'
  ·exact rE r _ hr h c e
theorem wx{cells:List (Str×Addr)}{x:Str}:∀(l:List (Str×NameKind))(acc:List (Str×Addr)),((∃c,acc.lookup x=some c)\/(x,NameKind.free)∈l)->∃c,(AS cells l acc).lookup x=some c
 |[],acc,h=>h.elim (λz=>z) λz=>nomatch z
 |(n,k)::r,acc,h=>by
  unfold AS
  split
  ·rename_i hk
   refine wx r _ ?_
   by_cases hx:x=n
   ·exact .inl ⟨_,by rw[lookup_cons,beq_iff_eq.mpr hx]⟩
   ·rcases h with⟨c,h⟩|h
    ·refine .inl ⟨c,?_⟩
     rw[lookup_cons,beq_eq_false_iff_ne.mpr hx];exact h
    ·rcases mem_cons.mp h with z|z
     ·cases z;exact absurd rfl hx
     ·exact .inr z
  ·rename_i hk
   refine wx r _ ?_
   rcases h with h|h
   ·exact .inl h
   ·rcases mem_cons.mp h with z|z
    ·cases z;exact absurd (by simp) hk
    ·exact .inr z
noncomputable def qU(X:Cx)(scope:Scope)(N:List Str)(s:Shared)(H:Hp)(fp:List Addr)(C:Addr)(pl:List (Addr×Obj)):Cx where
 prog:=X.prog
 w:=X.w
 K:=X.K
 mg:=X.mg
 base:=X.base
 A:=X.A
 N:=N
 s₀:=s
 H₀:=H
 env:=compEnvC scope (AS X.env.cells scope.names []) C X.env
 outer:=X.stack
 stack:=X.stack
 ex:=fp
 fn:=λ_=>false
 calm:=X.calm
 pn:=pl
 xe:=λ_ _=>False
structure iC(X:Cx)(scope:Scope)(N:List Str)(nt:Nat)(caps:List Nat):Prop where
 kind:scope.kind=.function
 cell:∀y∈scope.names,y.2≠.cell
 names:∀y∈scope.names,y.2=.local->scope.names.lookup y.1=some .local
 free:∀y∈scope.names,y.2=.free->X.env.kindOf y.1=some .cell\/X.env.kindOf y.1=some .free
 len:N.length=nt+caps.length
 nd:N.Nodup
 caps:∀(j i:Nat),caps[j]?=some i->∃x,N[nt+j]?=some x/\X.N[i]?=some x/\scope.names.lookup x=some .free/\yZ X.env.scope x
theorem gR{scope:Scope}{env:Env}{x:Str}{k:NameKind}(h:(relabel scope env).names.lookup x=some k):∃k',scope.names.lookup x=some k'/\(k=k'\/(k'=.free/\k=.cell)):=by
 unfold relabel at h
 dsimp only at h
 generalize scope.names=l at h
 induction l with
 |nil=>cases h
 |cons y r ih=>
  obtain⟨n,kk⟩:=y
  rw[map_cons]at h
  by_cases hc:(kk==NameKind.free&&env.scope.kind==.function&&env.kindOf n==some .cell)=true
  ·simp only [hc,if_true]at h
   rw[lookup_cons]at h⊢
   cases hx:x==n with
   |true=>
    rw[hx]at h
    cases h
    simp only [and_eq_true]at hc
    exact⟨kk,rfl,.inr ⟨by simpa using hc.1.1,rfl⟩⟩
   |false=>
    rw[hx]at h
    exact ih h
  ·simp only [hc,false_eq_true,if_false]at h
   rw[lookup_cons]at h⊢
   cases hx:x==n with
   |true=>
    rw[hx]at h
    exact⟨kk,rfl,.inl (Option.some.inj h).symm⟩
   |false=>
    rw[hx]at h
    exact ih h
theorem mem_of_lookup{α:Type}{l:List (Str×α)}{x:Str}{k:α}(h:l.lookup x=some k):(x,k)∈l:=by
 induction l with
 |nil=>cases h
 |cons y r ih=>
  obtain⟨n,kk⟩:=y
  rw[lookup_cons]at h
  cases hx:x==n with
  |true=>
   rw[hx]at h
   cases h
   have ex:x=n:=by simpa using hx
   rw[ex];exact mem_cons_self
  |false=>
   rw[hx]at h
   exact mem_cons_of_mem _ (ih h)
section
variable{X:Cx}{scope:Scope}{N:List Str}{nt:Nat}{caps:List Nat}{pins:List (Addr×Obj)}{σ:St}{H:Hp}{s:Shared}
theorem iC.cells (S:iC X scope N nt caps)(I:Inv X pins σ H s):∀y∈scope.names,y.2=.free->∃c,X.env.cells.lookup y.1=some c:=λy hy hf=>I.ok.has y.1 (S.free y hy hf)
theorem iC.lk (S:iC X scope N nt caps)(I:Inv X pins σ H s){x:Str}{c:Addr}(h:(AS X.env.cells scope.names []).lookup x=some c):X.env.cells.lookup x=some c:=
 rE scope.names [] (S.cells I) (λc e=>by cases e) c h
theorem iC.start (S:iC X scope N nt caps)(I:Inv X pins σ H s){fp:List Addr}(hf:∀b∈fp,nQ X pins H b){C:Addr}{h':Heap}{m:Str->Option Value}{t':Nat}(hC:s.heap.objs.size<=C)(hn:h'.Ns C m)(k:∀b o,s.heap.get? b=some o->h'.get? b=some o)
  (hpin:∀b∈fp,∃o,s.heap.get? b=some o)
  {vs:List V}(hv:vs.length=caps.length)(hvs:∀(j i:Nat)(v:V),caps[j]?=some i->vs[j]?=some v->σ[i]?=some (some v))(σ':St)(hσ:σ'=replicate nt none++vs.map some):
  Inv (qU X scope N s H fp C (X.pn++pins)) [] σ' H {s with heap:=h',toks:=t'}:=by
 subst hσ
 have hH:∀b,s.heap.objs.size<=b->H b=none:=λb hb=>I.hok.fresh hb
 have lk:=λ{x c}(h:(AS X.env.cells scope.names []).lookup x=some c)=>S.lk I h
 have ok:(qU X scope N s H fp C (X.pn++pins)).Ok:={
  mod:=I.ok.mod
  kind:=S.kind
  glob:=I.ok.glob
  blt:=I.ok.blt
  above:=hC
  inj:=λx y c h1 h2=>I.ok.inj x y c (lk h1) (lk h2)
  has:=λx h=>by
   have h':(relabel scope X.env).names.lookup x=some .cell\/(relabel scope X.env).names.lookup x=some .free:=h
   have hfree:scope.names.lookup x=some .free:=by
    rcases h' with h'|h'
    ·obtain⟨k',e,q⟩:=gR h'
     rcases q with rfl|⟨rfl,_⟩
     ·exact absurd rfl (S.cell _ (mem_of_lookup e))
     ·exact e
    ·obtain⟨k',e,q⟩:=gR h'
     rcases q with rfl|⟨rfl,q⟩
     ·exact e
     ·exact e
   exact wx scope.names [] (.inr (mem_of_lookup hfree))
  P8:=λx c h=>nomatch h
  hd:=I.ok.hd
  frames:=I.ok.frames
  VW:=.inl rfl
  VX:=λb hb=>by
   obtain⟨o,e⟩:=hpin b hb
   exact⟨λz=>absurd (lt_of_lt_of_le (Heap.lt_size e) (by rw[z];exact hC)) (Nat.lt_irrefl _),λx c h=>(hf b hb).2.2.2.2.1 x c (lk h)⟩
  bs:=I.bs
  MF:=le_trans I.ok.MF I.sz
  GC:=λb o e hb=>by
   rcases(hf b hb).2.2.2.1 with z|z
   ·exact I.ok.GC b o e z
   ·exact absurd (lt_of_lt_of_le (Heap.lt_size e) (le_trans I.ok.MF z)) (Nat.lt_irrefl _)
  CT:=λb hb z=>by
   rcases mem_cons.mp (I.zT b z)with q|q
   ·exact(hf b hb).2.1 q
   ·exact(hf b hb).2.2.1 q
  ud:=I.stack
  P9:=I.Em}
 refine⟨ok,rfl,I.bare,Un.kept k,⟨m,hn,λi x v e1 e2 e3=>?_⟩,λx c e=>?_,hH C hC,λx c e=>I.qZ x c (lk e),λp hp=>?_,I.hok.kept k,?_⟩
 ·have hi:nt<=i:=by
   refine Nat.le_of_not_lt λz=>?_
   rw[getElem?_append_left (by simpa using z),getElem?_replicate]at e2
   split at e2<;>cases e2
  rw[getElem?_append_right (by simpa using hi),getElem?_map]at e2
  have Vv:(vs[i-nt]?).map some=some (some v):=by simpa using e2
  cases q:vs[i-nt]? with
  |none=>rw[q]at Vv;cases Vv
  |some v'=>
   rw[q]at Vv
   cases Vv
   have hj:i-nt<caps.length:=by rw[<-hv];exact(List.getElem?_eq_some_iff.mp q).1
   obtain⟨x',h1,h2,h3,h4⟩:=S.caps (i-nt) caps[i-nt] (getElem?_eq_getElem hj)
   have ex:x'=x:=by
    have NJ:N[i]?=some x:=e1
    rw[show nt+(i-nt)=i by lia,NJ]at h1
    exact(Option.some.inj h1).symm
   subst ex
   have hs:=hvs (i-nt) _ v (getElem?_eq_getElem hj) q
   obtain⟨m0,hn0,hl0⟩:=I.loc
   obtain⟨u,r,l⟩:=hl0 _ x' v h2 hs h4
   refine⟨u,r,?_⟩
   have hkx:=S.free _ (mem_of_lookup h3) rfl
   rcases l with⟨k1,_⟩|⟨k1,c,hc,hcell⟩
   ·have YN:X.env.kindOf x'=some .local:=k1
    rcases hkx with z|z
    ·have z':X.env.kindOf x'=some .cell:=z
     rw[YN]at z';cases z'
    ·have z':X.env.kindOf x'=some .free:=z
     rw[YN]at z';cases z'
   ·obtain⟨c',Ir⟩:=wx (cells:=X.env.cells) (x:=x') scope.names [] (.inr (mem_of_lookup h3))
    have:=lk Ir
    rw[hc]at this
    cases this
    refine .inr ⟨?_,c,Ir,let⟨o,ho,hd⟩:=hcell;⟨o,k _ o ho,hd⟩⟩
    rcases e3 with z|z|z
    ·exfalso
     obtain⟨k',e,q⟩:=gR (show(relabel scope X.env).names.lookup x'=some .local from z)
     rcases q with rfl|⟨_,q⟩
     ·rw[h3]at e;cases e
     ·cases q
    ·exact .inl z
    ·exact .inr z
 ·obtain⟨v,z⟩:=I.cell x c (lk e)
  exact⟨v,let⟨o,ho,hd⟩:=z;⟨o,k _ o ho,hd⟩⟩
 ·have Vw:p∈X.pn++pins:=by simpa[qU]using hp
  obtain⟨e,n,ne,nf,d⟩:=I.pin p Vw
  refine⟨k _ _ e,n,λz=>absurd (lt_of_lt_of_le (Heap.lt_size e) (by rw[z];exact hC)) (Nat.lt_irrefl _),λz=>?_,d⟩
  rcases mem_cons.mp (I.zT _ z)with q|q
  ·exact ne q
  ·exact nf q
 ·show(replicate nt none++vs.map some).length=N.length
  rw[S.len];simp[hv]
end
section
variable{prog:Program}{w:World}{A:Around}{E:Value->Shared->Prop}{R:Result->Shared->Prop}{s:Shared}
theorem vk{elt target iter:Expr}{ifs:List Expr}{scope:Scope}{pos:Pos}{it acc:Value}{env:Env}(I:Nat->Shared->Prop)
  (turn:∀n s,I n s->wpAny (model prog w) A (pyNext it) (λr s₁=>match r with
   |none=>R (.ok .next) s₁
   |some v=>wpAny (model prog w) A (letOwnedTupleGo target it v) (λ_ s₁'=>wpAny (model prog w) A (assign target env v) (λ_ s₂=>
     wpAny (model prog w) A (forIn ifs true λc r=>if r=true then do let ok<-isTrue c env (eval c env);pure (ForInStep.yield ok)else pure (ForInStep.yield r)) (λok s₃=>
      if ok=true then wpAny (model prog w) A (eval elt env) (λx s₄=>
       wpAny (model prog w) A (call (.builtin "list.append") [acc,x]) (λ_ s₅=>∃m,m<n/\I m s₅) (λ_ _=>False) s₄) (λ_ _=>False) s₃
      else∃m,m<n/\I m s₃) (λ_ _=>False) s₂) (λ_ _=>False) s₁') (λ_ _=>False) s₁) (λ_ _=>False) s)
  (n:Nat)(h:I n s):
  codeAny (model prog w) A (.compLoop (.ListComp elt [⟨target,iter,ifs,0⟩] scope pos) 0 it acc env) R s:=by
 refine codeAny_loop rfl I (λn s hI=>?_) n h
 show wpAny _ A ((compTurn (.ListComp elt [⟨target,iter,ifs,0⟩] scope pos) 0 it acc env).onRaise (λx=>do noteFrame x env;theTreesLotGoes x)) _ _ s
 refine wpAny_noted ?_
 rw[compTurn_list]
 refine wpAny_bind (wpAny_standAt (wpAny_bind (wpAny_mono (turn n s hI) (λr s₁ h₁=>?_) λ_ _ h'=>h'.elim)))
 cases r with
 |none=>exact wpAny_pure h₁
 |some v=>
  refine wpAny_bind (wpAny_mono h₁ (λ_ s₁' h₁'=>?_) λ_ _ h'=>h'.elim)
  refine wpAny_bind (wpAny_mono h₁' (λ_ s₂ h₂=>wpAny_bind (wpAny_mono h₂ (λok s₃ h₃=>?_) λ_ _ h'=>h'.elim)) λ_ _ h'=>h'.elim)
  cases ok with
  |false=>exact wpAny_pure ⟨rfl,h₃⟩
  |true=>
   exact wpAny_bind (wpAny_bind (wpAny_mono h₃ (λx s₄ h₄=>wpAny_bind (wpAny_mono h₄ (λ_ s₅ h₅=>wpAny_pure (wpAny_pure ⟨rfl,h₅⟩)) λ_ _ h'=>h'.elim)) λ_ _ h'=>h'.elim))
end
noncomputable def WV(X:Cx)(ifs:List Expr)(t:TT):Prop:=
 ∀(pins:List (Addr×Obj))(s:Shared)(σ:St)(H:Hp)(Q:Bool->Hp->Prop),Inv X pins σ H s->t σ H Q->
  wpAny (model X.prog X.w) X.A (forIn ifs true λc r=>if r=true then do let ok<-isTrue c X.env (eval c X.env);pure (ForInStep.yield ok)else pure (ForInStep.yield r)) (TP X pins σ Q) X.xe s
theorem Ql{X:Cx}{E:Str->Hp->Prop}:WV X [] (tT X.K E λ_=>.ok true):=λpins s σ H Q I ⟨g,env,os,r,m⟩=>wpAny_tests_nil ⟨H,I,m H (aO.refl H)⟩
theorem ts1{X:Cx}{E:Str->Hp->Prop}{c:Expr}{f:DE->R Bool}(h:PT X c (tT X.K E f)):WV X [c] (tT X.K E f):=λpins s σ H Q I q=>wpAny_tests_one (h pins s σ H Q I q)
def cY(b:D->DE->R DE)(ct:DE->R Bool)(fe:DE->R D)(e₀:DE):List D->R (List D)
 |[]=>.ok []
 |x::xs=>(b x e₀).bind λe=>(ct e).bind λt=>if t=true then(fe e).bind λd=>(cY b ct fe e₀ xs).bind λds=>.ok (d::ds)else cY b ct fe e₀ xs
def iZ(env:DE):List Nat->R (List D)
 |[]=>.ok []
 |i::r=>(bH i env).bind λd=>(iZ env r).bind λds=>.ok (d::ds)
theorem Good.iZ {K:PySem.W.Frag}{E:Str->Hp->Prop}{H₀ H:Hp}{g:Gh}{σ:St}{os:List Addr}{env:DE}(r:Rel K g env σ H os):∀{caps:List Nat}{p:List D->Prop},Good E H₀ (iZ env caps) p->
  ∃ds vs,p ds/\vs.length=caps.length/\ds.length=caps.length/\IsL K (g.P os) H ds vs/\∀(j i:Nat)(v:V),caps[j]?=some i->vs[j]?=some v->σ[i]?=some (some v)
 |[],p,h=>⟨[],[],h,rfl,rfl,rfl,λj i v e=>by simp at e⟩
 |i::rest,p,h=>by
  have h1:=h.bind
  unfold bH at h1
  split at h1
  ·rename_i d e
   have h2:Good E H₀ ((DL.iZ env rest).bind λds=>.ok (d::ds)) p:=h1
   obtain⟨ds,vs,q1,q2,q3,q4,q5⟩:=Good.iZ r h2.bind
   obtain⟨v,s1,s2⟩:=r.val i d e
   refine⟨d::ds,v::vs,q1,by simp[q2],by simp[q3],.cons s2 q4,λj i' v' e1 e2=>?_⟩
   cases j with
   |zero=>simp at e1 e2;subst e1 e2;exact s1
   |succ j=>exact q5 j i' v' (by simpa using e1) (by simpa using e2)
  ·exact h1.elim
def jY(nt:Nat)(ds:List D):DE:=replicate nt Sl.no++ds.map .val
theorem ED{nt:Nat}{ds:List D}{i:Nat}{d:D}(h:(jY nt ds)[i]?=some (.val d)):nt<=i/\ds[i-nt]?=some d:=by
 unfold jY at h
 have hi:nt<=i:=by
  refine Nat.le_of_not_lt λz=>?_
  rw[getElem?_append_left (by simpa using z),getElem?_replicate]at h
  split at h<;>cases h
 rw[getElem?_append_right (by simpa using hi),getElem?_map]at h
 refine⟨hi,?_⟩
 simp only [length_replicate]at h
 cases q:ds[i-nt]? with
 |none=>rw[q]at h;cases h
 |some d'=>rw[q]at h;cases h;rfl
theorem wy{nt:Nat}{ds:List D}{i:Nat}{xs:List D}(h:(jY nt ds)[i]?=some (.own xs)):False:=by
 unfold jY at h
 by_cases hi:i<nt
 ·rw[getElem?_append_left (by simpa using hi),getElem?_replicate]at h
  split at h<;>cases h
 ·rw[getElem?_append_right (by simp;lia),getElem?_map]at h
  cases q:ds[i-(replicate nt Sl.no).length]? with
  |none=>rw[q]at h;cases h
  |some d'=>rw[q]at h;cases h
theorem Bw{nt:Nat}{ds:List D}{i:Nat}{w:Ct}(h:(jY nt ds)[i]?=some (.deep w)):False:=by
 unfold jY at h
 by_cases hi:i<nt
 ·rw[getElem?_append_left (by simpa using hi),getElem?_replicate]at h
  split at h<;>cases h
 ·rw[getElem?_append_right (by simp;lia),getElem?_map]at h
  cases q:ds[i-(replicate nt Sl.no).length]? with
  |none=>rw[q]at h;cases h
  |some d'=>rw[q]at h;cases h
theorem EE{nt:Nat}{ds:List D}{i:Nat}{w:V}(h:(jY nt ds)[i]?=some (.raw w)):False:=by
 unfold jY at h
 by_cases hi:i<nt
 ·rw[getElem?_append_left (by simpa using hi),getElem?_replicate]at h
  split at h<;>cases h
 ·rw[getElem?_append_right (by simp;lia),getElem?_map]at h
  cases q:ds[i-(replicate nt Sl.no).length]? with
  |none=>rw[q]at h;cases h
  |some d'=>rw[q]at h;cases h
section
variable{X:Cx}{pins:List (Addr×Obj)}{σ:St}{H:Hp}{s:Shared}{h':Heap}
theorem zf{fp:List Addr}{t':Nat}(I:Inv X pins σ H s)(hf:∀b∈fp,nQ X pins H b)(k:∀b u,b∉fp->s.heap.get? b=some u->h'.get? b=some u):Inv X pins σ H {s with heap:=h',toks:=t'}:=by
 have WW:∀b u,H b=some u->b∉fp:=λb u e z=>by rw[(hf b z).1]at e;cases e
 refine I.step (g':=s.gens) (d':=s.drawn) (ch:=fp) (λb hb=>⟨(hf b hb).2.2.2.1,(hf b hb).2.1,(hf b hb).2.2.2.2.1,(hf b hb).2.2.2.2.2⟩) (λb u _ _ hc e _=>k b u hc e) (λb u _ _ hc e _=>⟨u.slots,k b u hc e⟩)
  (λb u _ e n=>n) (λb u hc e=>⟨u,k b u hc e⟩) (λb xs e=>e) (λb u xs e=>e) (λb ps e=>⟨#[],by rw[e];simp⟩) (λm hm=>?_) (λb u e=>?_) I.bare
 ·obtain⟨ob,es,ep,ho,r⟩:=hm
  exact⟨ob,es,ep,k _ ob (λz=>(hf _ z).2.1 rfl) ho,r⟩
 ·refine(I.hok b u e).CS (λc v hc q=>k c v ?_ q) (λc q=>q) λc xs q=>q
  rcases hc with z|z
  ·rw[z];exact WW b u e
  ·exact WW c _ z
end
def R.ne {α:Type}:R α->R α
 |.ok a=>.ok a
 |_=>.bad
theorem R.Jk {α:Type}(a:α):(R.ok a).ne=.ok a:=rfl
theorem R.fx {α β:Type}{r:R α}{k:α->R β}{y:β}(h:r.bind k=.ok y):∃a,r=.ok a/\k a=.ok y:=by
 cases r with
 |ok a=>exact⟨a,rfl,h⟩
 |err c=>cases h
 |bad=>cases h
theorem wz{α:Type}{E:Str->Hp->Prop}{H₀:Hp}{r:R α}{a:α}{p:α->Prop}(e:r=.ok a)(h:p a):Good E H₀ r p:=by rw[e];exact h
section
variable{X:Cx}{E:Str->Hp->Prop}{pos:Pos}{scope:Scope}{N:List Str}{nt:Nat}{caps:List Nat}
theorem EF{K:PySem.W.Frag}{g:Gh}{e:DE}{σ:St}{H H':Hp}{a:Addr}{ds:List D}{ts:DE}(r:Rel K g e σ H [a])(he:e=ts++ds.map .val)(hl:ts.length=nt)(x:Ext (g.P [a]) (g.P [a]) H H')(s:aO g.H₀ H')(hn:∃o,H' a=some o):
  Rel K g (jY nt ds) σ H' [a]:=by
 subst he
 refine⟨by rw[r.len];simp[jY,hl],s,λi d e=>?_,λi xs e=>(wy e).elim,λi j xs ys b e=>(wy e).elim,λb hb=>?_,λi w e=>(EE e).elim,Di.none λi w e=>Bw e⟩
 ·obtain⟨h1,h2⟩:=ED e
  obtain⟨v,q1,q2⟩:=r.val i d (by rw[getElem?_append_right (by lia),hl,getElem?_map,h2];rfl)
  exact⟨v,q1,Is.ext x _ _ q2⟩
 ·have e:b=a:=by simpa using hb
  subst e
  exact⟨(r.new b hb).1,hn⟩
noncomputable def aak(X:Cx)(pins:List (Addr×Obj))(σ:St)(g:Gh)(os:List Addr)(H:Hp)(use:Option (Value->Sem Unit))(Qv:Value->Shared->Prop)(ys:List D):Prop:=
 ∀(Dd C:Addr)(acc:List V)(Hx:Hp)(s6:Shared),Inv X pins σ Hx s6->(∃m,s6.heap.Ns C m)->nQ X pins Hx C->aO H Hx->H Dd=none->Hx Dd=some (.lst acc)->IsL X.K (g.P (Dd::os)) Hx ys acc->
  compPost (model X.prog X.w) X.A X.xe use Qv (.ref Dd) C (.ok .next) s6
theorem EG{elt tg iter:Expr}{ifs:List Expr}{fi:DE->R (List D)}{b:D->DE->R DE}{ct:DE->R Bool}{fe:DE->R D}(S:iC X scope N nt caps)(xp:X.calm=true)(hi:PI X tg iter (WN X.K E fi))
  (hb1:∀ds d e,b d (jY nt ds)=.ok e->∃ts,e=ts++ds.map .val/\ts.length=nt)
  (hg:∀s H fp C pl,PG (qU X scope N s H fp C pl) tg (tG X.K EN b))(ht:∀s H fp C pl,WV (qU X scope N s H fp C pl) ifs (tT X.K EN ct))(he:∀s H fp C pl,PE (qU X scope N s H fp C pl) elt (tD X.K EN fe))
  (hs:∀x,foldedSetIterable iter X.env x=pure x){use:Option (Value->Sem Unit)}{Qv:Value->Shared->Prop}{pins:List (Addr×Obj)}{s:Shared}{σ:St}{H:Hp}{env:DE}{os:List Addr}{g:Gh}(I:Inv X pins σ H s)(r:Rel X.K g env σ H os)
  (m:Good E g.H₀ ((fi env).bind λxs=>(iZ env caps).bind λds=>(cY b ct fe (jY nt ds) xs).ne.bind fit) (aak X pins σ g os H use Qv)){ps:Pos}:
  wpAny (model X.prog X.w) X.A (comprehension (.ListComp elt [⟨tg,iter,ifs,0⟩] scope pos) scope X.env ps (newList []) false (eval iter X.env) use) Qv X.xe s:=by
 refine wpAny_comprehension_free (use:=use) rfl hs (rg (S.cells I)) S.kind S.names ?_
 refine cM (hi pins s σ H (λJ H1=>∃xs,aO H H1/\Yls X.K (g.P os) J H1 xs/\Good E g.H₀ ((iZ env caps).bind λds=>(cY b ct fe (jY nt ds) xs).ne.bind fit) _) I ⟨g,env,os,r,m.bind.mono λxs _ m1 J H1 s1 yl=>⟨xs,s1,yl,m1⟩⟩) λv s1 h1=>cM h1 λitv s2 h2=>?_
 obtain⟨it,fp,tn,J,H2,rfl,I2,T,MG,f2,xs,NV,yl,m1⟩:=h2
 have r2:=r.same NV
 obtain⟨ds,vs,m2,WX,YQ,hds,hvs⟩:=m1.bind.iZ r2
 cases ec:cY b ct fe (jY nt ds) xs with
 |bad=>rw[ec]at m2;exact m2.elim
 |err c=>rw[ec]at m2;exact m2.elim
 |ok ys=>
 rw[ec]at m2
 obtain⟨hz,q⟩:=(show Good E g.H₀ (fit ys) _ from m2).fit
 refine wpAny_newObj_type (wpAny_newFunctionEnv S.cell (by intro y hy;simp at hy) (λh₁ Dk hsb₁=>?_) S.kind)
 dsimp only at Dk hsb₁⊢
 have Td:H2 s2.heap.objs.size=none:=I2.hok.fresh (Nat.le_refl _)
 have I3:Inv X pins σ (upd H2 s2.heap.objs.size (.lst [])) {s2 with heap:=s2.heap.push {cls:=.type "list",dict:=none,data:=.seq ([]:List Value).toArray}}:=
  I2.laid (t':=s2.toks) (λb u e=>Heap.get?_push_of_some _ e) (Nat.le_refl _) ⟨zero_le _,[],0,.nil,Heap.get?_push_size _ rfl⟩
 generalize WY:({s2 with heap:=s2.heap.push {cls:=.type "list",dict:=none,data:=.seq ([]:List Value).toArray}}:Shared)=s3 at I3
 have Te:s3.heap=s2.heap.push {cls:=.type "list",dict:=none,data:=.seq ([]:List Value).toArray}:=by rw[<-WY]
 rw[<-Te]at Dk hsb₁⊢
 generalize hDd:s2.heap.objs.size=Dd at*
 have k3:∀b o,s3.heap.get? b=some o->h₁.get? b=some o:=λb o e=>hsb₁.extBut b o (ne_of_lt (Heap.lt_size e)) (Heap.get?_push_of_some _ e)
 have Jl:∀b∈fp,∃o,s2.heap.get? b=some o:=λb hb=>let⟨o,e,_⟩:=T.obj 0 _ MG b hb;⟨o,e⟩
 have Tf:∀b∈fp,∃o,s3.heap.get? b=some o:=λb hb=>let⟨o,e⟩:=Jl b hb;⟨o,by rw[Te];exact Heap.get?_push_of_some _ e⟩
 have hfD:∀b∈fp,b≠Dd:=λb hb=>let⟨o,e⟩:=Jl b hb;by rw[<-hDd];exact ne_of_lt (Heap.lt_size e)
 have f3:∀b∈fp,nQ X pins (upd H2 Dd (.lst [])) b:=λb hb=>⟨by rw[aj (hfD b hb)];exact(f2 b hb).1,(f2 b hb).2⟩
 have sD:aO H2 (upd H2 Dd (.lst [])):=aQ Td _
 have I4:=S.start (t':=s2.toks+([]:List (Str×Value)).length) I3 f3 (Nat.le_refl _) Dk k3 Tf WX (λj i v e1 e2=>hvs j i v e1 e2) _ rfl
 generalize hX:qU X scope N s3 (upd H2 Dd (.lst [])) fp s3.heap.objs.size (X.pn++pins)=X' at I4
 have WZ:=hg s3 (upd H2 Dd (.lst [])) fp s3.heap.objs.size (X.pn++pins)
 have Ii:=ht s3 (upd H2 Dd (.lst [])) fp s3.heap.objs.size (X.pn++pins)
 have W0:=he s3 (upd H2 Dd (.lst [])) fp s3.heap.objs.size (X.pn++pins)
 rw[hX]at WZ Ii W0
 have eK:X'.K=X.K:=by rw[<-hX];rfl
 have eP:X'.prog=X.prog:=by rw[<-hX];rfl
 have eW:X'.w=X.w:=by rw[<-hX];rfl
 have eA:X'.A=X.A:=by rw[<-hX];rfl
 have eE:X'.xe=λ_ _=>False:=by rw[<-hX];rfl
 have eC:X'.calm=true:=by rw[<-hX];exact xp
 have eL:X'.env.locals=s3.heap.objs.size:=by rw[<-hX];rfl
 have eS:X'.s₀=s3:=by rw[<-hX];rfl
 have eX:X'.ex=fp:=by rw[<-hX];rfl
 have eF:X'.fs=CL X.stack:=by rw[<-hX];rfl
 have eN:X'.pn=X.pn++pins:=by rw[<-hX];rfl
 have eH:X'.H₀=upd H2 Dd (.lst []):=by rw[<-hX];rfl
 have eV:X'.env=compEnvC scope (AS X.env.cells scope.names []) s3.heap.objs.size X.env:=by rw[<-hX];rfl
 have Tg:∀{Hx:Hp},(∀b∈fp,Hx b=none)->∀b∈fp,nQ X' [] Hx b:=λ{Hx} hn b hb=>by
  obtain⟨_,c1,c2,c3,c4,c5⟩:=f3 b hb
  have q:=I4.ok.VX b (by rw[eX];exact hb)
  refine⟨hn b hb,q.1,I4.ok.CT b (by rw[eX];exact hb),.inl (by rw[eX];exact hb),q.2,λp hp=>?_⟩
  rw[eN,append_nil]at hp
  exact c5 p hp
 let g':Gh:=⟨g.P os,H2⟩
 have exP:∀{Hx:Hp},aO H2 Hx->Ext (g.P os) (g'.P [Dd]) H2 Hx:=λsx=>⟨λa o p e=>⟨.inl p,λz=>by
  have z':a=Dd:=by simpa using z
  rw[z',Td]at e;cases e⟩,λa o _ e=>sx a o e⟩
 have aan:Rel X.K g' (jY nt ds) (replicate nt none++vs.map some) (upd H2 Dd (.lst [])) [Dd]:=by
  refine⟨by simp[jY,WX,YQ],sD,λi d e=>?_,λi xs e=>(wy e).elim,λi j xs ys b e=>(wy e).elim,λb hb=>?_,λi w e=>(EE e).elim,Di.none λi w e=>Bw e⟩
  ·obtain⟨h1,h2⟩:=ED e
   obtain⟨v,q1,q2⟩:=hds.get h2
   refine⟨v,?_,Is.ext (exP sD) _ _ q2⟩
   rw[getElem?_append_right (by simpa using h1),getElem?_map,length_replicate,q1]<;>rfl
  ·have e:b=Dd:=by simpa using hb
   subst e
   exact⟨Td,_,au⟩
 have loop:∀s4:Shared,Inv X' [] (replicate nt none++vs.map some) (upd H2 Dd (.lst [])) s4->tn 0 s4.heap->
   codeAny (model X.prog X.w) X.A (.compLoop (.ListComp elt [⟨tg,iter,ifs,0⟩] scope pos) 0 (.ref it) (.ref Dd) (compEnvC scope (AS X.env.cells scope.names []) s3.heap.objs.size X.env))
    (compPost (model X.prog X.w) X.A X.xe use Qv (.ref Dd) s3.heap.objs.size) s4:=by
  intro s4 J4 Jm
  refine vk (λn s'=>∃i acc as rest Hx σ',n=xs.length-i/\i<=xs.length/\Inv X' [] σ' Hx s'/\tn i s'.heap/\(∀b∈fp,Hx b=none)/\Hx Dd=some (.lst acc)/\IsL X.K (g'.P [Dd]) Hx as acc/\
   cY b ct fe (jY nt ds) (xs.drop i)=.ok rest/\as++rest=ys/\Rel X.K g' (jY nt ds) σ' Hx [Dd]) ?_ xs.length
   ⟨0,[],[],ys,_,_,by simp,zero_le _,J4,Jm,λb hb=>(f3 b hb).1,au,rfl,by rw[drop_zero];exact ec,rfl,aan⟩
  rintro n s5 ⟨i,acc,as,rest,Hx,σ5,rfl,hi5,J5,Ni,MH,W2,ia5,c5,e5,r5⟩
  obtain⟨y1,y2⟩:=yl i Hx (g'.P [Dd]) r5.ext (exP r5.ext)
  by_cases hlt:i<xs.length
  ·have hx:xs[i]?=some xs[i]:=getElem?_eq_getElem hlt
   obtain⟨go,y3⟩:=y1 _ hx
   rw[drop_eq_getElem_cons hlt]at c5
   obtain⟨e1,YR,c6⟩:=R.fx (show(b xs[i] (jY nt ds)).bind _=.ok rest from c5)
   obtain⟨t,YS,c7⟩:=R.fx c6
   have TI:=T.item X' eP eW eK eC i [] s5 σ5 Hx (λ_ _=>False) J5 (Tg MH) Ni go
   rw[eA]at TI
   refine cM TI λr s6 h6=>?_
   obtain⟨u,rfl,h6⟩:=h6
   refine cM h6 λ_ s7 h7=>?_
   obtain⟨x,H7,J7,rx,hy,Th,fr7⟩:=h7
   obtain⟨Vx,hix⟩:=y3 x H7 hy
   have ix:Is X.K (g'.P [Dd]) H7 xs[i] x:=Is.ext ⟨λa o p _=>p.elim (λz=>z) λz=>r5.fresh z,λ_ _ _ z=>z⟩ _ _ hix
   have J7':=J7.pinned (Tg fr7) (T.obj _ _ Th)
   have TG:=WZ _ s7 σ5 H7 x u (λσ8 H8=>∃e8,b xs[i] (jY nt ds)=.ok e8/\Rel X.K g' e8 σ8 H8 [Dd]/\H8=H7) J7' rx ⟨g',jY nt ds,[Dd],xs[i],r5.same Vx,ix,wz YR λσ8 r8=>⟨e1,YR,r8,rfl⟩⟩
   rw[eP,eW,eA,eE,eV]at TG
   refine cM TG λ_ s8 h8=>?_
   obtain⟨σ8,H8,J8,e8,hb8,r8,hH8⟩:=h8
   rw[hH8]at J8 r8
   rw[YR]at hb8
   cases hb8
   have TT:=Ii _ s8 σ8 H7 (λt' H9=>t'=t/\aO H7 H9) J8 ⟨g',e1,[Dd],r8,wz YS λH9 s9=>⟨rfl,s9⟩⟩
   rw[eP,eW,eA,eE,eV]at TT
   refine cM TT λok s9 h9=>?_
   obtain⟨H9,J9,rfl,MK⟩:=h9
   obtain⟨ts,hts,YT⟩:=hb1 ds _ _ YR
   have EH:∀{σx:St}{Hy:Hp}{sx:Shared},Inv X' ([]++uf fp s7.heap) σx Hy sx->tn (i+1) sx.heap/\∀b∈fp,Hy b=none:=λ{σx Hy sx} Jx=>
    ⟨T.keep _ _ _ Th λb hb o e=>(Jx.pin (b,o) (mem_append_right _ (mem_append_right _ (gQ hb e)))).1,λb hb=>by
     obtain⟨o,e,d⟩:=T.obj _ _ Th b hb
     exact(Jx.pin (b,o) (mem_append_right _ (mem_append_right _ (gQ hb e)))).2.1⟩
   cases ok with
   |false=>
    rw[if_neg Bool.false_ne_true]
    have c8:cY b ct fe (jY nt ds) (xs.drop (i+1))=.ok rest:=c7
    obtain⟨k1,k2⟩:=EH J9
    exact⟨xs.length-(i+1),by lia,i+1,acc,as,rest,H9,σ8,rfl,hlt,J9.kK,k1,k2,MK _ _ (Vx _ _ W2),(ia5.same Vx).same MK,c8,e5,
     EF r8 hts YT (.same MK) (r8.ext.trans MK) ⟨_,MK _ _ (Vx _ _ W2)⟩⟩
   |true=>
    rw[if_pos rfl]
    obtain⟨d,he5,c8⟩:=R.fx (show(fe e1).bind _=.ok rest from c7)
    obtain⟨Jo,hr5,c9⟩:=R.fx c8
    have c9':rest=d::Jo:=by cases c9;rfl
    subst c9'
    have TE:=W0 _ s9 σ8 H9 (λv Bx=>aO H9 Bx/\Is X.K (g'.P [Dd]) Bx d v) J9 ⟨g',e1,[Dd],r8.same MK,wz he5 λv Bx W3 i10=>⟨W3,i10⟩⟩
    rw[eP,eW,eA,eE,eV]at TE
    refine cM TE λy W3 h10=>?_
    obtain⟨v,Bx,J10,rv,NW,iv⟩:=h10
    have Ti:Bx Dd=some (.lst acc):=NW _ _ (MK _ _ (Vx _ _ W2))
    have W4:IsL X.K (g'.P [Dd]) Bx as acc:=((ia5.same Vx).same MK).same NW
    have TM:=fZ (X:=X') _ W3 σ8 Bx (.ref Dd) [v] (.ref Dd) [y] (λ_ Vy=>Vy=upd Bx Dd (.lst (acc++[v]))) J10 rfl (.cons rv .nil) ⟨Dd,acc,v,rfl,rfl,Ti,by
     rw[W4.length]
     have:(as++d::Jo).length<=sizeLine:=by rw[e5];exact hz
     rw[length_append,length_cons]at this
     lia,rfl⟩
    rw[eP,eW,eA,eE]at TM
    refine cM TM λ_ s11 h11=>?_
    obtain⟨v',Vy,W5,_,rfl⟩:=h11
    obtain⟨k1,k2⟩:=EH W5
    have exD:Ext (g'.P [Dd]) (g'.P [Dd]) Bx (upd Bx Dd (.lst (acc++[v]))):=⟨λ_ _ p _=>p,λa o p e=>by rw[aj (λz=>p.2 (by simp[z]))];exact e⟩
    have aat:aO H2 Bx:=(r8.ext.trans MK).trans NW
    refine⟨xs.length-(i+1),by lia,i+1,acc++[v],as++[d],Jo,_,σ8,rfl,hlt,W5.kK,k1,k2,au,IsL.ext exD _ _ (W4.app (.one iv)),hr5,by rw[List.append_assoc];exact e5,?_⟩
    exact EF (r8.same (MK.trans NW)) hts YT exD (λa o e=>by rw[aj (aA (show H2 a=some o from e) Td)];exact aat a o e) ⟨_,au⟩
  ·have e:i=xs.length:=by lia
   subst e
   rw[drop_length]at c5
   have c5':rest=[]:=by cases c5;rfl
   subst c5'
   rw[append_nil]at e5
   subst e5
   have TD:=T.done X' eP eW eK eC xs.length [] s5 σ5 Hx (λ_ _=>False) J5 (Tg MH) Ni (y2 rfl)
   rw[eA]at TD
   refine cM TD λr s6 h6=>?_
   obtain⟨rfl,J6⟩:=h6
   obtain⟨m6,Tj,_⟩:=J6.loc
   rw[eL]at Tj
   have un6:Un (CL X.stack) fp (upd H2 Dd (.lst [])) Hx s3.heap s6.heap:=by
    have u:=J6.base
    rw[eF,eX,eH,eS]at u
    exact u
   have hxC:Hx s3.heap.objs.size=none:=by have:=J6.free;rw[eL]at this;exact this
   have Tn:qR X.prog X.w Hx s6.heap:=by
    have z:=J6.hok
    rw[eP,eW]at z
    exact z
   have os6:s6.os=s3.os:=by have:=J6.os;rw[eS]at this;exact this
   have I6:Inv X pins σ Hx s6:=I3.Qc (s':=s6) os6 un6 Tn J6.bare λb hb=>by
    obtain⟨_,c1,c2,c3,c4,c5⟩:=f3 b hb
    exact⟨c3,c1,c4,c5⟩
   have fC:nQ X pins Hx s3.heap.objs.size:=⟨hxC,(I3.GH (Nat.le_refl _) (I3.hok.fresh (Nat.le_refl _))).2⟩
   refine q Dd s3.heap.objs.size acc Hx s6 I6 ⟨m6,Tj⟩ fC (NV.trans r5.ext) (NV.free Td) W2 (IsL.ext ⟨λa o p _=>?_,λ_ _ _ z=>z⟩ _ _ ia5)
   have z:g.P os a:=p.1.elim (λz=>z) λz=>r2.fresh z
   exact⟨z.1,λhm=>(mem_cons.mp hm).elim (λz=>p.2 (by simp[z])) z.2⟩
 have Jm:tn 0 h₁:=T.keep _ _ _ MG λb hb o e=>k3 b o (by rw[Te];exact Heap.get?_push_of_some _ e)
 have eG:({heap:=h₁,gens:=s3.gens,drawn:=s3.drawn,toks:=s2.toks+([]:List (Str×Value)).length,os:=s3.os}:Shared)={heap:=h₁,gens:=s2.gens,drawn:=s2.drawn,toks:=s2.toks+([]:List (Str×Value)).length,os:=s2.os}:=by rw[<-WY]
 rw[eG]at I4
 exact codeAny_compStart_list (loop _ I4 Jm) (T.self _ 0 _ _ _ Jm (loop _ I4 Jm))
variable{elt tg iter:Expr}{ifs:List Expr}{fi:DE->R (List D)}{b:D->DE->R DE}{ct:DE->R Bool}{fe:DE->R D}
theorem vm(S:iC X scope N nt caps)(xp:X.calm=true)(hi:PI X tg iter (WN X.K E fi))
  (hb1:∀ds d e,b d (jY nt ds)=.ok e->∃ts,e=ts++ds.map .val/\ts.length=nt)
  (hg:∀s H fp C pl,PG (qU X scope N s H fp C pl) tg (tG X.K EN b))(ht:∀s H fp C pl,WV (qU X scope N s H fp C pl) ifs (tT X.K EN ct))(he:∀s H fp C pl,PE (qU X scope N s H fp C pl) elt (tD X.K EN fe))
  (hs:∀x,foldedSetIterable iter X.env x=pure x:=by intro _;rfl):
  PE X (.ListComp elt [⟨tg,iter,ifs,0⟩] scope pos) (tF X.K E λenv=>(fi env).bind λxs=>(iZ env caps).bind λds=>(cY b ct fe (jY nt ds) xs).ne.bind fit):=by
 intro pins s σ H Q I h
 obtain⟨g,env,os,r,m⟩:=h
 rw[eval_ListComp]
 refine EG S xp hi hb1 hg ht he hs I r (m.mono λys _ q Dd C acc Hx s6 I6 hn fC sm hD hx ia=>?_)
 obtain⟨m6,Tj⟩:=hn
 refine⟨m6,Tj,λh7 hs7=>⟨.ref Dd,Hx,zf (fp:=[C]) (t':=s6.toks) I6 (λb hb=>by
  have z:b=C:=by simpa using hb
  rw[z];exact fC) (λb u hb e=>(hs7.2 b (λz=>hb (by simp[z]))).trans e),rfl,q Dd acc Hx sm hD hx ia⟩⟩
theorem W6(i:Nat){x:Str}{pos' p:Pos}(S:iC X scope N nt caps)(xp:X.calm=true)(hi:PI X tg iter (WN X.K E fi))
  (hb1:∀ds d e,b d (jY nt ds)=.ok e->∃ts,e=ts++ds.map .val/\ts.length=nt)
  (hg:∀s H fp C pl,PG (qU X scope N s H fp C pl) tg (tG X.K EN b))(ht:∀s H fp C pl,WV (qU X scope N s H fp C pl) ifs (tT X.K EN ct))(he:∀s H fp C pl,PE (qU X scope N s H fp C pl) elt (tD X.K EN fe))(hN:X.N.Nodup)
  (hs:∀x,foldedSetIterable iter X.env x=pure x:=by intro _;rfl)(Qm:X.N[i]?=some x:=by rfl)(hx:Loc X.env.scope x:=by first|exact Or.inl rfl|exact Or.inr rfl)
  (hf:X.fn x=true\/X.env.scope.names.lookup x=some .local:=by first|exact .inl rfl|exact .inr rfl|assumption)
  (hsw:swapsWith (.ListComp elt [⟨tg,iter,ifs,0⟩] scope p) (some (.Name x pos')) pos.line X.env=pure true:=by rfl):
  PS X (.Assign [.Name x pos'] (.ListComp elt [⟨tg,iter,ifs,0⟩] scope p) pos) (tS X.K E λenv=>((fi env).bind λxs=>(iZ env caps).bind λds=>(cY b ct fe (jY nt ds) xs).ne.bind fit).bind λys=>.ok (.nx (env.set i (.own ys)))):=by
 intro pins s σ H De I h
 obtain⟨g,env,os,r,m⟩:=h
 rw[exec_Assign_Name_used _ _ _ _ hsw,arm_evalThenUse_ListComp]
 refine wpAny_bind (wpAny_standAt (wpAny_bind (wpAny_bind ?_)))
 refine EG (use:=some (assign (.Name x pos') X.env)) S xp hi hb1 hg ht he hs I r (m.bind.mono λys _ q Dd C acc Hx s6 I6 hn fC sm hD CY ia=>?_)
 obtain⟨m6,o6,es6,ep6,ho6,hd6,hk6⟩:=hn
 have fC':∀b∈[C],nQ X pins Hx b:=λb hb=>by
  have z:b=C:=by simpa using hb
  rw[z];exact fC
 have J6:=I6.pinned fC' λb hb=>by
  have z:b=C:=by simpa using hb
  subst z
  exact⟨o6,ho6,λv z=>by rw[hd6]at z;cases z⟩
 have TG:=we (pos:=pos') hN Qm hx hf _ s6 σ Hx (.ref Dd) (.ref Dd) (λσ7 H7=>σ7=σ.set i (some (.ref Dd))/\H7=Hx) J6 rfl ⟨rfl,rfl⟩
 refine cM TG λ_ s7 h7=>?_
 obtain⟨σ7,H7,J7,rfl,rfl⟩:=h7
 have e7:s7.heap.get? C=some o6:=(J7.pin (C,o6) (mem_append_right _ (mem_append_right _ (gQ (by simp) ho6)))).1
 refine⟨m6,⟨o6,es6,ep6,e7,hd6,hk6⟩,λh8 hs8=>wpAny_pure (wpAny_pure ?_)⟩
 refine⟨_,H7,zf (fp:=[C]) (t':=s7.toks) J7.kK fC' (λb u hb e=>(hs8.2 b (λz=>hb (by simp[z]))).trans e),?_⟩
 exact q _ H7 (Dd::os) (r.WC sm i hD CY ia) (.new sm hD)
end
section
variable{X:Cx}{pins:List (Addr×Obj)}{σ:St}{H:Hp}{s:Shared}{h':Heap}
theorem NX{fp:List Addr}{t:Addr}{o:HO}{t':Nat}(I:Inv X pins σ H s)(hf:∀b∈fp,nQ X pins H b)(k:∀b u,b∉fp->s.heap.get? b=some u->h'.get? b=some u)(hex:∀b∈fp,∀u,s.heap.get? b=some u->∃u',h'.get? b=some u')(ht:s.heap.objs.size<=t)
  (new:dF X.prog X.w (upd H t o) h' t o):Inv X pins σ (upd H t o) {s with heap:=h',toks:=t'}:=by
 have hn:H t=none:=I.hok.fresh ht
 have WW:∀b u,H b=some u->b∉fp:=λb u e z=>by rw[(hf b z).1]at e;cases e
 refine I.step (g':=s.gens) (d':=s.drawn) (ch:=fp) (λb hb=>⟨(hf b hb).2.2.2.1,(hf b hb).2.1,(hf b hb).2.2.2.2.1,(hf b hb).2.2.2.2.2⟩) (λb u _ _ hc e _=>k b u hc e) (λb u _ _ hc e _=>⟨u.slots,k b u hc e⟩)
  (λb u _ e n=>by rw[aj (ne_of_lt (lt_of_lt_of_le (Heap.lt_size e) ht))];exact n) (λb u hc e=>⟨u,k b u hc e⟩)
  (λb xs e=>by rw[aj (aA e hn)];exact e) (λb u xs e=>by rw[aj (aA e hn)];exact e) (λb ps e=>⟨#[],by rw[aj (aA e hn),e];simp⟩)
  (λm hm=>?_) (λb u e=>?_) I.bare
 ·obtain⟨ob,es,ep,ho,r⟩:=hm
  exact⟨ob,es,ep,k _ ob (λz=>(hf _ z).2.1 rfl) ho,r⟩
 ·by_cases hb:b=t
  ·subst hb;rw[au]at e;cases e;exact new
  ·rw[aj hb]at e
   refine(I.hok b u e).CS (λc v hc q=>k c v ?_ q) (λc q=>by rw[aj (aA q hn)];exact q) λc xs q=>by rw[aj (aA q hn)];exact q
   rcases hc with z|z
   ·rw[z];exact WW b u e
   ·exact WW c _ z
end
def Ite(K:PySem.W.Frag)(l:Addr):It:=
 ⟨λi H=>∃xs x,dG K H l xs/\xs[i]?=some x,λi H x H'=>∃t y,H t=none/\H'=upd H t (.tup [.int (i:Nat),y])/\x=.ref t/\∀xs,dG K H l xs->xs[i]?=some y,λi H=>∃xs,dG K H l xs/\xs.length<=i⟩
theorem G4{P:Program}{w:World}{K:PySem.W.Frag}{elts:List Expr}{kk:Nat}{pp:Pos}(l e it:Addr)(hei:e≠it):
  Turn P w K (.Tuple elts kk pp) (Ite K l) [e,it] e (λi h=>(∃old,IsEnum h e it (i:Nat) old)/\h.IsListIter it l i) where
 mem:=by simp
 obj:=λi h st b hb=>by
  obtain⟨⟨old,he⟩,o,e2,c,d⟩:=st
  rcases mem_cons.mp hb with rfl|hb
  ·exact⟨_,he,λv z=>by cases z⟩
  ·have z:b=it:=by simpa using hb
   subst z
   exact⟨o,e2,λv z=>by rw[d]at z;cases z⟩
 keep:=λi h h' st k=>by
  obtain⟨⟨old,he⟩,hit⟩:=st
  exact⟨⟨old,k e (by simp) _ he⟩,hit.at λo q=>k it (by simp) o q⟩
 item:=by
  intro X hP hw hK hc i pins s σ H E I hf st hg
  subst hP hw hK
  obtain⟨xs,x,hq,hx⟩:=hg
  obtain⟨its,rv,p,hz⟩:=I.list hq
  obtain⟨u,hu,ru⟩:=rv.get hx
  obtain⟨⟨old,he⟩,hit⟩:=st
  refine wpAny_pyNext_enum_item he hit p.isList (x:=u) (by simpa using hu) hei λh' ho W7 hT hsz hk=>?_
  refine⟨_,rfl,wpAny_letOwnedTupleGo_enum ho λh'' W8 NY=>?_⟩
  have hlt:e<s.heap.objs.size:=Heap.lt_size he
  have aax:it<s.heap.objs.size:=by obtain⟨_,z,_⟩:=hit;exact Heap.lt_size z
  have kk:∀b o,b∉[e,it]->s.heap.get? b=some o->h''.get? b=some o:=λb o hb q=>by
   have h1:b≠e:=λz=>hb (by simp[z])
   have h2:b≠it:=λz=>hb (by simp[z])
   exact(NY.2 b h1).trans (hk b o h1 h2 q)
  have aay:h''.get? s.heap.objs.size=some {cls:=.type "tuple",data:=.seq #[.int i s.toks,u]}:=(NY.2 _ (ne_of_gt hlt)).trans hT
  have hn:H s.heap.objs.size=none:=I.hok.fresh (Nat.le_refl _)
  refine⟨.ref s.heap.objs.size,upd H s.heap.objs.size (.tup [.int (i:Nat),x]),?_,rfl,⟨_,x,hn,rfl,rfl,λys hy=>by rw[I.rS hy hq];exact hx⟩,⟨⟨u,by simpa using W8⟩,W7.at λo q=>(NY.2 it hei.symm).trans q⟩,λb hb=>?_⟩
  ·refine NX (s:=s) I hf kk (λb hb u hu=>?_) (Nat.le_refl _) ⟨(by show 2<=sizeLine;decide),[.int i s.toks,u],.cons ⟨_,rfl⟩ (.cons ru .nil),⟨_,aay,rfl,_,rfl⟩⟩
   rcases mem_cons.mp hb with rfl|hb
   ·exact⟨_,W8⟩
   ·have z:b=it:=by simpa using hb
    subst z
    obtain⟨o,q,_⟩:=W7
    exact⟨o,(NY.2 b hei.symm).trans q⟩
  ·rw[aj]
   ·exact(hf b hb).1
   ·rcases mem_cons.mp hb with rfl|hb
    ·exact ne_of_lt hlt
    ·have z:b=it:=by simpa using hb
     subst z
     exact ne_of_lt aax
 done:=by
  intro X hP hw hK hc i pins s σ H E I hf st hg
  subst hP hw hK
  obtain⟨xs,hq,hx⟩:=hg
  obtain⟨its,rv,p,hz⟩:=I.list hq
  obtain⟨⟨old,he⟩,hit⟩:=st
  have hl:=rv.length
  refine wpAny_pyNext_enum_end (I.ok.hd hc) he hit p.isList (by simp;lia) λh' eb=>⟨rfl,?_⟩
  exact zf (fp:=[e,it]) (t':=s.toks) I hf λb o hb q=>eb b o (λz=>hb (by simp[z])) q
 self:=λ_ _ _ _ _ st h=>by
  obtain⟨⟨old,he⟩,_⟩:=st
  exact wpAny_pyIter_enum he h
def Itv(K:PySem.W.Frag)(l:Addr)(n:Nat):It:=
 ⟨λi H=>i<n/\∃xs x,dG K H l xs/\xs.length=n/\xs[n-1-i]?=some x,λi H x H'=>H'=H/\∀xs,dG K H l xs->xs[n-1-i]?=some x,λi H=>i=n/\∃xs,dG K H l xs⟩
theorem Jp{P:Program}{w:World}{K:PySem.W.Frag}{tg:Expr}(l it:Addr)(n:Nat):Turn P w K tg (Itv K l n) [it] it (λi h=>h.IsRevIter it l ((n:Int)-1-(i:Nat))) where
 mem:=by simp
 obj:=λi h st b hb=>by
  have z:b=it:=by simpa using hb
  subst z
  obtain⟨o,e,c,d⟩:=st
  exact⟨o,e,λv z=>by rw[d]at z;cases z⟩
 keep:=λi h h' st k=>st.at λo e=>k it (by simp) o e
 item:=by
  intro X hP hw hK hc i pins s σ H E I hf st hg
  subst hP hw hK
  obtain⟨hin,xs,x,hq,hl,hx⟩:=hg
  obtain⟨its,rv,p,hz⟩:=I.list hq
  obtain⟨u,hu,ru⟩:=rv.get hx
  have e1:(n:Int)-1-(i:Nat)=((n-1-i:Nat):Int):=by lia
  rw[e1]at st
  refine wpAny_pyNext_rev_item st p.isList (x:=u) (by simpa using hu) λh' Nh sb=>?_
  have I1:Inv X pins σ H {s with heap:=h'}:=zf (fp:=[it]) (t':=s.toks) I hf λb o hb q=>(sb.2 b (λz=>hb (by simp[z]))).trans q
  obtain⟨o,e,c,d⟩:=id Nh
  have e2:((n-1-i:Nat):Int)-1=(n:Int)-1-((i+1:Nat):Int):=by lia
  rw[e2]at Nh
  exact⟨u,rfl,IE (s:={s with heap:=h'}) e c d (by decide) ⟨x,H,I1,ru,⟨rfl,λys hy=>by rw[I.rS hy hq];exact hx⟩,Nh,λb hb=>(hf b hb).1⟩⟩
 done:=by
  intro X hP hw hK hc i pins s σ H E I hf st hg
  subst hP hw hK
  obtain⟨rfl,xs,hq⟩:=hg
  have e1:(i:Int)-1-(i:Nat)= -1:=by lia
  rw[e1]at st
  exact wpAny_pyNext_rev_end (I.ok.hd hc) st λh' eb=>⟨rfl,zf (fp:=[it]) (t':=s.toks) I hf λb o hb q=>eb b o (λz=>hb (by simp[z])) q⟩
 self:=λ_ _ _ _ _ st h=>wpAny_pyIter_revIter st h
section
variable{X:Cx}{E:Str->Hp->Prop}{pos:Pos}
def eI(xs:List D):List D:=xs.zipIdx.map λp=>.tup [.int (p.2:Nat),p.1]
theorem uz{xs:List D}{i:Nat}{d:D}(h:(eI xs)[i]?=some d):∃x,xs[i]?=some x/\d=.tup [.int (i:Nat),x]:=by
 unfold eI at h
 rw[getElem?_map,List.getElem?_zipIdx]at h
 cases q:xs[i]? with
 |none=>rw[q]at h;cases h
 |some x=>
  rw[q]at h
  refine⟨x,rfl,?_⟩
  have h':some (D.tup [.int ((0+i:Nat):Int),x])=some d:=h
  rw[Nat.zero_add]at h'
  exact(Option.some.inj h').symm
theorem iE{a:Expr}{elts:List Expr}{kk:Nat}{pp p:Pos}{f:DE->R D}(hm:X.mg "enumerate"=none)(ha:PE X a (tD X.K E f))(hg:Gl X "enumerate":=by rfl)(hs:starEach [a] X.env=[(false,eval a X.env)]:=by rfl):
  PI X (.Tuple elts kk pp) (.Call (.Name "enumerate" p) [a] [] pos) (tI X.K E λenv=>(f env).bind λd=>(wo d).bind λxs=>.ok (eI xs)):=by
 intro pins s σ H Rr I h
 obtain⟨g,env,os,r,m⟩:=h
 have hpa:PA X [a] (Ih X.K E λenv=>(f env).bind λx=>(R.ok []).bind λxs=>.ok (x::xs)):=ao ha br hs
 refine Call_ (kJ I hg hm boot_enumerate (PyProof.Rows.callWith_type1 (cM (hpa pos pins s σ H (λvs H1=>aO H H1/\∃d,f env=.ok d/\∃v,vs=[v]/\Is X.K (g.P os) H1 d v/\Good E g.H₀ ((wo d).bind λxs=>.ok (eI xs)) (λxs=>∀J H1,aO H H1->Yl X.K (g.P os) J H1 xs->Rr J H1)) I
  ⟨g,env,os,r,?_⟩) λus s1 ⟨vs,H1,I1,r1,q1⟩=>?_) hs rfl))
 ·exact Good.Ez m.bind (λd e q=>by
   show Good E g.H₀ (R.ok [d]) _
   exact λvs H' s' i'=>by
    obtain⟨v,rfl,iv⟩:=IsL.z5 i'
    exact⟨s',d,e,v,rfl,iv,q⟩)
 ·obtain⟨s1',d,_,v,rfl,iv,q⟩:=q1
  cases d with
  |lst xs=>
   obtain⟨l,ws,rfl,h1,h2⟩:=iv
   obtain⟨u,rfl,ru⟩:=vals1 r1
   cases ru
   obtain⟨its,rv,pl,hz⟩:=I1.list h1.sq
   refine call_enumerate_list pl.isList λh' he hit hsz hk=>?_
   refine wpAny_pyIter_enum he ?_
   have I2:Inv X pins σ H1 {s1 with heap:=h'}:=I1.kept (t':=s1.toks) hk
   have f1:∀b∈[s1.heap.objs.size+1,s1.heap.objs.size],nQ X pins H1 b:=λb hb=>by
    have ML:s1.heap.objs.size<=b:=by
     simp only [mem_cons,not_mem_nil,or_false]at hb
     rcases hb with rfl|rfl<;>lia
    exact I1.GH ML (I1.hok.fresh ML)
   refine⟨s1.heap.objs.size+1,[s1.heap.objs.size+1,s1.heap.objs.size],_,Ite X.K l,H1,rfl,I2,G4 l _ _ (ne_of_gt (Nat.lt_succ_self _)),⟨⟨_,he⟩,hit⟩,f1,?_⟩
   refine(show∀J H1,aO H H1->Yl X.K (g.P os) J H1 (eI xs)->Rr J H1 from q) _ H1 s1' λi H' P' ex=>⟨λd hd=>?_,λhi=>?_⟩
   ·obtain⟨x,hx,rfl⟩:=uz hd
    obtain⟨y,hy,iy⟩:=(IsL.ext ex _ _ h2).get hx
    refine⟨⟨ws,y,(h1.ext ex).sq,hy⟩,λz H2 hyl=>?_⟩
    obtain⟨t,y',ht,rfl,rfl,hall⟩:=hyl
    have e2:=hall ws (h1.ext ex).sq
    rw[hy]at e2
    cases e2
    refine⟨aQ ht _,t,_,rfl,.inl ⟨.inr ht,.inl au⟩,IsL.cons rfl (IsL.one (Is.ext ⟨λ_ _ p _=>.inl p,λa o _ e=>aQ ht _ a o e⟩ _ _ iy))⟩
   ·refine⟨ws,(h1.ext ex).sq,?_⟩
    rw[IsL.length h2]
    refine le_of_eq ?_
    have:(eI xs).length=xs.length:=by simp[eI]
    lia
  |non=>exact q.elim
  |bl _=>exact q.elim
  |int _=>exact q.elim
  |str _=>exact q.elim
  |exc _=>exact q.elim
  |fn _=>exact q.elim
  |tup _=>exact q.elim
theorem By:bootBuiltins "reversed"=some (.type "reversed"):=by decide +kernel
theorem iV{a tg:Expr}{p:Pos}{f:DE->R D}(hm:X.mg "reversed"=none)(ha:PE X a (tD X.K E f))(hg:Gl X "reversed":=by rfl)(hs:starEach [a] X.env=[(false,eval a X.env)]:=by rfl):
  PI X tg (.Call (.Name "reversed" p) [a] [] pos) (tI X.K E λenv=>(f env).bind λd=>(wo d).bind λxs=>.ok xs.reverse):=by
 intro pins s σ H Rr I h
 obtain⟨g,env,os,r,m⟩:=h
 have hpa:PA X [a] (Ih X.K E λenv=>(f env).bind λx=>(R.ok []).bind λxs=>.ok (x::xs)):=ao ha br hs
 refine Call_ (kJ I hg hm By (PyProof.Rows.callWith_type1 (cM (hpa pos pins s σ H (λvs H1=>aO H H1/\∃d,f env=.ok d/\∃v,vs=[v]/\Is X.K (g.P os) H1 d v/\Good E g.H₀ ((wo d).bind λxs=>.ok xs.reverse) (λxs=>∀J H1,aO H H1->Yl X.K (g.P os) J H1 xs->Rr J H1)) I
  ⟨g,env,os,r,?_⟩) λus s1 ⟨vs,H1,I1,r1,q1⟩=>?_) hs rfl))
 ·exact Good.Ez m.bind (λd e q=>by
   show Good E g.H₀ (R.ok [d]) _
   exact λvs H' s' i'=>by
    obtain⟨v,rfl,iv⟩:=IsL.z5 i'
    exact⟨s',d,e,v,rfl,iv,q⟩)
 ·obtain⟨s1',d,_,v,rfl,iv,q⟩:=q1
  cases d with
  |lst xs=>
   obtain⟨l,ws,rfl,h1,h2⟩:=iv
   obtain⟨u,rfl,ru⟩:=vals1 r1
   cases ru
   obtain⟨its,rv,pl,hz⟩:=I1.list h1.sq
   have hl:=rv.length
   have hl2:ws.length=xs.length:=IsL.length h2
   refine call_reversed_list pl.isList ?_
   have e0:((its.toArray.size:Nat):Int)-1=(xs.length:Int)-1:=by rw[size_toArray];lia
   rw[e0]
   have hit:({s1 with heap:=s1.heap.push (PySem.revObj l ((xs.length:Int)-1))}:Shared).heap.IsRevIter s1.heap.objs.size l ((xs.length:Int)-1):=⟨_,Heap.get?_push_size _ rfl,rfl,rfl⟩
   refine wpAny_pyIter_revIter hit ?_
   have I2:Inv X pins σ H1 {s1 with heap:=s1.heap.push (PySem.revObj l ((xs.length:Int)-1))}:=I1.kept (t':=s1.toks) λb o e=>Heap.get?_push_of_some _ e
   have f1:∀b∈[s1.heap.objs.size],nQ X pins H1 b:=λb hb=>by
    have z:b=s1.heap.objs.size:=by simpa using hb
    subst z
    exact I1.GH (Nat.le_refl _) (I1.hok.fresh (Nat.le_refl _))
   refine⟨_,[s1.heap.objs.size],_,Itv X.K l xs.length,H1,rfl,I2,Jp l _ xs.length,?_,f1,?_⟩
   ·have e1:(xs.length:Int)-1-((0:Nat):Int)=(xs.length:Int)-1:=by lia
    rw[e1];exact hit
   refine(show∀J H1,aO H H1->Yl X.K (g.P os) J H1 xs.reverse->Rr J H1 from q) _ H1 s1' λi H' P' ex=>⟨λd hd=>?_,λhi=>?_⟩
   ·have hi:i<xs.length:=by
     have:=(List.getElem?_eq_some_iff.mp hd).1
     simpa using this
    rw[getElem?_reverse hi]at hd
    obtain⟨y,hy,iy⟩:=(IsL.ext ex _ _ h2).get hd
    refine⟨⟨hi,ws,y,(h1.ext ex).sq,hl2,hy⟩,λz H2 hyl=>?_⟩
    obtain⟨rfl,hall⟩:=hyl
    have e2:=hall ws (h1.ext ex).sq
    rw[hy]at e2
    cases e2
    exact⟨aO.refl _,Is.ext ⟨λ_ _ p _=>.inl p,λ_ _ _ e=>e⟩ _ _ iy⟩
   ·exact⟨by simpa using hi.symm,ws,(h1.ext ex).sq⟩
  |non=>exact q.elim
  |bl _=>exact q.elim
  |int _=>exact q.elim
  |str _=>exact q.elim
  |exc _=>exact q.elim
  |fn _=>exact q.elim
  |tup _=>exact q.elim
end
def Dl:D->String
 |.non=>"NoneType"
 |.bl _=>"bool"
 |.int _=>"int"
 |.str _=>"str"
 |.lst _=>"list"
 |.tup _=>"tuple"
 |.exc _=>"tuple"
 |.fn _=>"tuple"
def nU(t T:String):Bool:=t==T||(t=="bool"&&T=="int")
def BA(t T:String):Option Bool:=if((Value.type t)==(Value.type T))=true then some true else if PySem.W.kitMeta T=true then(fastBuiltinMro t).map (·.contains (.type T))else none
theorem NZ(K:PySem.W.Frag)(t T:String):kitOne K (.type t) (.type T)=BA t T:=rfl
def N3(T:String):Prop:=∀d:D,BA (Dl d) T=some (nU (Dl d) T)
theorem N4{T:String}(h:BA "NoneType" T=some (nU "NoneType" T)/\BA "bool" T=some (nU "bool" T)/\BA "int" T=some (nU "int" T)/\BA "str" T=some (nU "str" T)/\BA "list" T=some (nU "list" T)/\BA "tuple" T=some (nU "tuple" T)):N3 T:=λd=>by
 cases d with
 |non=>exact h.1
 |bl _=>exact h.2.1
 |int _=>exact h.2.2.1
 |str _=>exact h.2.2.2.1
 |lst _=>exact h.2.2.2.2.1
 |tup _=>exact h.2.2.2.2.2
 |exc _=>exact h.2.2.2.2.2
 |fn _=>exact h.2.2.2.2.2
theorem N5:N3 "bool":=N4 (by decide +kernel)
section
variable{X:Cx}{E:Str->Hp->Prop}{pos:Pos}
theorem To{pins:List (Addr×Obj)}{σ:St}{H:Hp}{s:Shared}{A:Around}{E:Value->Shared->Prop}{Q:Value->Shared->Prop}{d:D}{x:V}{u:Value}{T:String}{P:Addr->Prop}(I:Inv X pins σ H s)(rx:RelV x u)(hd:Is X.K P H d x)(hne:∀n,d≠.exc n/\d≠.fn n)(kt:N3 T)(h:∀tk,Q (.bool (nU (Dl d) T)) {s with toks:=tk}):
  wpAny (model X.prog X.w) A (call (.builtin "isinstance") [u,.type T]) Q E s:=by
 have e:kitOne X.K (.type (Dl d)) (.type T)=some (nU (Dl d) T):=(NZ _ _ _).trans (kt d)
 cases d with
 |non=>cases hd;exact qv I rx .non e h
 |bl b=>cases hd;exact qv I rx (.bl b) e h
 |int b=>cases hd;exact qv I rx (.int b) e h
 |str b=>cases hd;exact qv I rx (.str b) e h
 |lst ds=>
  obtain⟨a,vs,rfl,h1,h2⟩:=hd
  cases rx
  obtain⟨its,rv,⟨o,n,e1,c1,d1,t1⟩,hz⟩:=I.list h1.sq
  exact kia_one kitx_list I.ue ⟨o,e1,c1⟩ e (λz=>nomatch z) h
 |tup ds=>
  obtain⟨a,vs,rfl,h1,h2⟩:=hd
  cases rx
  obtain⟨its,rv,⟨o,e1,c1,d1⟩,hz⟩:=I.tuple h1.sq
  exact kia_one kitx_tuple I.ue ⟨o,e1,c1⟩ e (λz=>nomatch z) h
 |exc n=>exact((hne n).1 rfl).elim
 |fn n=>exact((hne n).2 rfl).elim
def N6(T:String)(d:D):R D:=match d with
 |.exc _=>.bad
 |.fn _=>.bad
 |d=>.ok (.bl (nU (Dl d) T))
theorem Tp{T:String}{d:D}(h:∀n,d≠.exc n/\d≠.fn n):N6 T d=.ok (.bl (nU (Dl d) T)):=by
 cases d with
 |exc n=>exact((h n).1 rfl).elim
 |fn n=>exact((h n).2 rfl).elim
 |_=>rfl
theorem yI:bootBuiltins "isinstance"=some (.builtin "isinstance"):=by decide +kernel
theorem N7:bootBuiltins "bool"=some (.type "bool"):=by decide +kernel
theorem wA:bootBuiltins "list"=some (.type "list"):=by decide +kernel
theorem Jq:bootBuiltins "tuple"=some (.type "tuple"):=by decide +kernel
theorem cP:bootBuiltins "len"=some (.builtin "len"):=by decide +kernel
theorem pO:bootBuiltins "abs"=some (.builtin "abs"):=by decide +kernel
theorem Jr:bootBuiltins "max"=some (.builtin "max"):=by decide +kernel
theorem aaC{T:String}{x:Str}{p p2:Pos}{a:Expr}{f:DE->R D}(kt:N3 T)(hv:bootBuiltins x=some (.type T))(hm:X.mg "isinstance"=none)(hmt:X.mg x=none)(ha:PE X a (tB X.K E f))(hg:Gl X "isinstance":=by rfl)(hgt:Gl X x:=by rfl)
  (hn:x≠"__name__":=by decide)(hdb:(x==("__debug__":Str))=false:=by decide)
  (hs:starEach [a,.Name x p2] X.env=(false,eval a X.env)::starEach [.Name x p2] X.env:=by rfl)(hpl:(backTo pos (starEach [.Name x p2] X.env)).any (·.1)=false:=by rfl)(hs2:starEach [.Name x p2] X.env=(false,eval (.Name x p2) X.env)::starEach [] X.env:=by rfl):
  PE X (.Call (.Name "isinstance" p) [a,.Name x p2] [] pos) (tD X.K E λenv=>(f env).bind (N6 T)):=by
 have hty:PE X (.Name x p2) (tC (.ty T)):=Nc hgt hmt hv rfl hn hdb
 refine imp (kM (r:=λxs H Q=>∃d v,xs=[v,.ty T]/\(∀n,d≠.exc n/\d≠.fn n)/\Is X.K Tr H d v/\Q (.bl (nU (Dl d) T)) H) ?_ hg hm yI (aD ha (aD hty aP hs2) hs) (by decide) (by decide) hs hpl) λσ H Q ⟨g,env,os,r,m⟩=>⟨g,env,os,r,m.bind.mono λd _ q v H' s i=>?_⟩
 ·intro pins s σ H xs us Q I r h
  obtain⟨d,v,rfl,hne,hd,q⟩:=h
  obtain⟨u,w,rfl,ru,oU⟩:=vals2 r
  have e:w=.type T:=oU
  subst e
  exact To I ru hd hne kt λtk=>⟨.bl _,H,I.tok _,rfl,q⟩
 ·by_cases hne:∀n,d≠.exc n/\d≠.fn n
  ·rw[Tp hne]at q
   exact⟨d,v,rfl,hne,i,q _ H' s rfl⟩
  ·cases d with
   |exc n=>exact q.elim
   |fn n=>exact q.elim
   |_=>exact(hne λn=>⟨λz=>(nomatch z),λz=>(nomatch z)⟩).elim
def bools:List D->Option (List Bool)
 |[]=>some []
 |.bl b::r=>(bools r).map (b::·)
 |_::_=>none
end
noncomputable def Vz:D->D->Option Bool
 |.non,.non=>some true
 |.bl a,.bl b=>some (a==b)
 |.int a,.int b=>some (a==b)
 |.str a,.str b=>some (a==b)
 |.bl a,.int b=>some ((if a then 1 else 0)==b)
 |.int a,.bl b=>some (a==(if b then 1 else 0))
 |.non,.bl _=>some false
 |.non,.int _=>some false
 |.non,.str _=>some false
 |.bl _,.non=>some false
 |.bl _,.str _=>some false
 |.int _,.non=>some false
 |.int _,.str _=>some false
 |.str _,.non=>some false
 |.str _,.bl _=>some false
 |.str _,.int _=>some false
 |_,_=>none
def pB(f:D->D->Option Bool):List D->List D->Option Bool
 |x::xs,y::ys=>(f x y).bind λb=>(pB f xs ys).map (b&&·)
 |_,_=>some true
def qx:Nat->D->D->Option Bool
 |0,x,y=>Vz x y
 |n+1,x,y=>match x,y with
  |.lst xs,.lst ys=>if xs.length=ys.length then pB (qx n) xs ys else some false
  |.tup xs,.tup ys=>(pB (qx n) xs ys).map (·&&xs.length==ys.length)
  |x,y=>Vz x y
def Tq(f:D->D->Option Bool)(xs ys:List D)(j:Nat):Bool:=((xs[j]?).bind λx=>(ys[j]?).bind λy=>f x y).getD false
theorem xq(n:Nat)(e:Nat->Bool):(range (n+1)).all e=(e 0&&(range n).all λj=>e (j+1)):=by
 rw[List.range_succ_eq_map,List.all_cons,List.all_map]
 rfl
theorem uA{f:D->D->Option Bool}:∀{xs ys:List D}{b:Bool},pB f xs ys=some b->(∀(j:Nat)(x y:D),xs[j]?=some x->ys[j]?=some y->f x y=some (Tq f xs ys j))/\b=(range (min xs.length ys.length)).all (Tq f xs ys)
 |[],ys,b,h=>by
  have h':some true=some b:=by cases ys<;>exact h
  cases h'
  exact⟨λj x y e=>by simp at e,by simp⟩
 |x::xs,[],b,h=>by
  cases h
  exact⟨λj x y _ e=>by simp at e,by simp⟩
 |x::xs,y::ys,b,h=>by
  unfold pB at h
  cases e1:f x y with
  |none=>rw[e1]at h;cases h
  |some c=>
   cases e2:pB f xs ys with
   |none=>rw[e1,e2]at h;cases h
   |some d=>
    rw[e1,e2]at h
    have h':(c&&d)=b:=Option.some.inj h
    obtain⟨q1,q2⟩:=uA e2
    refine⟨λj x' y' h1 h2=>?_,?_⟩
    ·cases j with
     |zero=>
      simp at h1 h2
      subst h1 h2
      show f x y=some (((some x).bind λx=>(some y).bind λy=>f x y).getD false)
      simp[e1]
     |succ j=>exact q1 j x' y' (by simpa using h1) (by simpa using h2)
    ·have e3:min (x::xs).length (y::ys).length=min xs.length ys.length+1:=by simp[Nat.succ_min_succ]
     rw[e3,xq,<-h',q2]
     have e4:Tq f (x::xs) (y::ys) 0=c:=by
      show(((some x).bind λx=>(some y).bind λy=>f x y).getD false)=c
      simp[e1]
     rw[e4];rfl
section
variable{X:Cx}{pins:List (Addr×Obj)}{σ:St}{H:Hp}{s:Shared}
theorem Js{A:Around}{P:Addr->Prop}{x y:D}{v w:V}{u u':Value}{b:Bool}(hx:Is X.K P H x v)(hy:Is X.K P H y w)(rv:RelV v u)(oU:RelV w u')(e:Vz x y=some b):SeqAt.EqAt A s u u' b/\SeqAt.RcAt A s u u' b/\SeqAt.RcNeAt A s u u' (!b):=by
 unfold Vz at e
 split at e<;>first|cases e|skip
 ·cases hx;cases hy;cases rv;cases oU;exact⟨.same _,.none_none,.none_none⟩
 ·cases hx;cases hy;cases rv;cases oU;exact⟨.bool_bool _ _,.bool_bool _ _,.bool_bool _ _⟩
 ·cases hx;cases hy;obtain⟨t,rfl⟩:=rv;obtain⟨t',rfl⟩:=oU;exact⟨.int_int _ _ _ _,.int_int _ _ _ _,.int_int _ _ _ _⟩
 ·cases hx;cases hy;obtain⟨t,rfl⟩:=rv;obtain⟨t',rfl⟩:=oU;exact⟨.str_str _ _ _ _,.str_str _ _ _ _,.str_str _ _ _ _⟩
 ·cases hx;cases hy;cases rv;obtain⟨t',rfl⟩:=oU;exact⟨.bool_int _ _ _,.bool_int _ _ _,.bool_int _ _ _⟩
 ·cases hx;cases hy;obtain⟨t,rfl⟩:=rv;cases oU;exact⟨.int_bool _ _ _,.int_bool _ _ _,.int_bool _ _ _⟩
 ·cases hx;cases hy;cases rv;cases oU;exact⟨.none_bool _,.none_bool _,.none_bool _⟩
 ·cases hx;cases hy;cases rv;obtain⟨t',rfl⟩:=oU;exact⟨.none_int _ _,.none_int _ _,.none_int _ _⟩
 ·cases hx;cases hy;cases rv;obtain⟨t',rfl⟩:=oU;exact⟨.none_str _ _,.none_str _ _,.none_str _ _⟩
 ·cases hx;cases hy;cases rv;cases oU;exact⟨.bool_none _,.bool_none _,.bool_none _⟩
 ·cases hx;cases hy;cases rv;obtain⟨t',rfl⟩:=oU;exact⟨.bool_str _ _ _,.bool_str _ _ _,.bool_str _ _ _⟩
 ·cases hx;cases hy;obtain⟨t,rfl⟩:=rv;cases oU;exact⟨.int_none _ _,.int_none _ _,.int_none _ _⟩
 ·cases hx;cases hy;obtain⟨t,rfl⟩:=rv;obtain⟨t',rfl⟩:=oU;exact⟨.int_str _ _ _ _,.int_str _ _ _ _,.int_str _ _ _ _⟩
 ·cases hx;cases hy;obtain⟨t,rfl⟩:=rv;cases oU;exact⟨.str_none _ _,.str_none _ _,.str_none _ _⟩
 ·cases hx;cases hy;obtain⟨t,rfl⟩:=rv;cases oU;exact⟨.str_bool _ _ _,.str_bool _ _ _,.str_bool _ _ _⟩
 ·cases hx;cases hy;obtain⟨t,rfl⟩:=rv;obtain⟨t',rfl⟩:=oU;exact⟨.str_int _ _ _ _,.str_int _ _ _ _,.str_int _ _ _ _⟩
theorem BC{P:Addr->Prop}{x y:D}{v:V}{b:Bool}(hx:Is X.K P H x v)(hy:Is X.K P H y v)(e:Vz x y=some b):b=true:=by
 unfold Vz at e
 split at e<;>first|cases e|skip
 all_goals cases hx
 all_goals cases hy
 all_goals simp
theorem xr{P:Addr->Prop}{f:D->D->Option Bool}:∀{xs ys:List D}{vs:List V}{b:Bool},(∀x y v b,Is X.K P H x v->Is X.K P H y v->f x y=some b->b=true)->IsL X.K P H xs vs->IsL X.K P H ys vs->pB f xs ys=some b->b=true/\xs.length=ys.length
 |[],ys,vs,b,_,hx,hy,e=>by
  have e':vs=[]:=hx
  subst e'
  have:=IsL.length hy
  cases ys with
  |nil=>cases e;exact⟨rfl,rfl⟩
  |cons _ _=>simp at this
 |x::xs,[],vs,b,_,hx,hy,e=>by
  have:=IsL.length hx
  have e':vs=[]:=hy
  subst e'
  simp at this
 |x::xs,y::ys,vs,b,hf,⟨v,r,e1,p1,q1⟩,⟨v',r',e2,p2,q2⟩,e=>by
  subst e1
  cases e2
  unfold pB at e
  cases h1:f x y with
  |none=>rw[h1]at e;cases e
  |some c=>
   cases h2:pB f xs ys with
   |none=>rw[h1,h2]at e;cases e
   |some d=>
    rw[h1,h2]at e
    have e':(c&&d)=b:=Option.some.inj e
    obtain⟨z1,z2⟩:=xr hf q1 q2 h2
    have z3:=hf x y v c p1 p2 h1
    subst z1 z3 e'
    exact⟨rfl,by simp[z2]⟩
theorem rZ(I:Inv X pins σ H s){P:Addr->Prop}:∀(n:Nat)(x y:D)(v:V)(b:Bool),Is X.K P H x v->Is X.K P H y v->qx n x y=some b->b=true
 |0,x,y,v,b,hx,hy,e=>BC hx hy e
 |n+1,x,y,v,b,hx,hy,e=>by
  unfold qx at e
  split at e
  ·rename_i xs ys
   obtain⟨a,vs,rfl,h1,h2⟩:=hx
   obtain⟨a',EA,ea,h3,h4⟩:=hy
   cases ea
   have ev:=I.rS h1.sq h3.sq
   subst ev
   split at e
   ·exact(xr (rZ I n) h2 h4 e).1
   ·rename_i c
    exact absurd ((IsL.length h2).symm.trans (IsL.length h4)) c
  ·rename_i xs ys
   obtain⟨a,vs,rfl,h1,h2⟩:=hx
   obtain⟨a',EA,ea,h3,h4⟩:=hy
   cases ea
   have ev:=I.GF h1.sq h3.sq
   subst ev
   cases ez:pB (qx n) xs ys with
   |none=>rw[ez]at e;cases e
   |some c=>
    rw[ez]at e
    obtain⟨z1,z2⟩:=xr (rZ I n) h2 h4 ez
    subst z1
    have e':(true&&(xs.length==ys.length))=b:=Option.some.inj e
    rw[<-e',z2];simp
  ·exact BC hx hy e
theorem in1_units(A:Around):A.in1.units=A.units+1:=rfl
theorem EI(I:Inv X pins σ H s){P:Addr->Prop}:∀(n:Nat)(A:Around)(x y:D)(v w:V)(u u':Value)(b:Bool),A.units+n<cLine->Is X.K P H x v->Is X.K P H y w->RelV v u->RelV w u'->qx n x y=some b->SeqAt.EqAt A s u u' b/\SeqAt.RcAt A s u u' b/\SeqAt.RcNeAt A s u u' (!b)
 |0,A,x,y,v,w,u,u',b,hu,hx,hy,rv,oU,e=>Js hx hy rv oU e
 |n+1,A,x,y,v,w,u,u',b,hu,hx,hy,rv,oU,e=>by
  have e0:=e
  unfold qx at e
  have hu1:A.in1.units+n<cLine:=by rw[in1_units];lia
  have VA:A.units<cLine:=by lia
  split at e
  ·rename_i xs ys
   have hx0:=hx
   have hy0:=hy
   obtain⟨a,vs,rfl,h1,h2⟩:=hx
   obtain⟨a',EA,rfl,h3,h4⟩:=hy
   cases rv
   cases oU
   obtain⟨its,W9,pl,hz⟩:=I.list h1.sq
   obtain⟨its',Jt,Tt,VB⟩:=I.list h3.sq
   have l1:=W9.length
   have l2:=Jt.length
   have l3:vs.length=xs.length:=IsL.length h2
   have l4:EA.length=ys.length:=IsL.length h4
   have main:SeqAt.RcAt A s (.ref a) (.ref a') b/\SeqAt.RcNeAt A s (.ref a) (.ref a') (!b):=by
    split at e
    ·rename_i c
     obtain⟨q1,q2⟩:=uA e
     have hsz:its.toArray.size=its'.toArray.size:=by simp;lia
     have aaF:min xs.length ys.length=its.toArray.size:=by simp;lia
     rw[aaF]at q2
     subst q2
     have he:∀j (g1:j<its.toArray.size)(g2:j<its'.toArray.size),SeqAt.EqAt A.in1 s its.toArray[j] its'.toArray[j] (Tq (qx n) xs ys j):=λj g1 g2=>by
      have j1:j<xs.length:=by simp at g1;lia
      have j2:j<ys.length:=by simp at g2;lia
      have f:=q1 j _ _ (getElem?_eq_getElem j1) (getElem?_eq_getElem j2)
      obtain⟨v1,hv1,MM⟩:=IsL.get h2 (getElem?_eq_getElem j1)
      obtain⟨v2,hv2,MN⟩:=IsL.get h4 (getElem?_eq_getElem j2)
      obtain⟨u1,Tu,ru1⟩:=W9.get hv1
      obtain⟨u2,Tv,ru2⟩:=Jt.get hv2
      have E1:its.toArray[j]=u1:=by
       have:=List.getElem?_eq_some_iff.mp Tu
       obtain⟨_,h⟩:=this
       simpa using h
      have E2:its'.toArray[j]=u2:=by
       have:=List.getElem?_eq_some_iff.mp Tv
       obtain⟨_,h⟩:=this
       simpa using h
      rw[E1,E2]
      exact(EI I n A.in1 _ _ _ _ _ _ _ hu1 MM MN ru1 ru2 f).1
     exact⟨SeqAt.RcAt.lists pl.isList Tt.isList hsz VA he,SeqAt.RcNeAt.lists pl.isList Tt.isList hsz VA he⟩
    ·rename_i c
     cases e
     have hsz:(its.toArray.size !=its'.toArray.size)=true:=by simp;lia
     exact⟨SeqAt.RcAt.lists_lengths pl.isList Tt.isList hsz VA,SeqAt.RcNeAt.lists_lengths pl.isList Tt.isList hsz VA⟩
   refine⟨?_,main⟩
   by_cases ha:a=a'
   ·subst ha
    have:=rZ I (n+1) _ _ _ _ hx0 hy0 e0
    subst this
    exact .same _
   ·exact .of_refs ha main.1
  ·rename_i xs ys
   have hx0:=hx
   have hy0:=hy
   obtain⟨a,vs,rfl,h1,h2⟩:=hx
   obtain⟨a',EA,rfl,h3,h4⟩:=hy
   cases rv
   cases oU
   obtain⟨its,W9,pl,hz⟩:=I.tuple h1.sq
   obtain⟨its',Jt,Tt,VB⟩:=I.tuple h3.sq
   have l1:=W9.length
   have l2:=Jt.length
   have l3:vs.length=xs.length:=IsL.length h2
   have l4:EA.length=ys.length:=IsL.length h4
   have main:SeqAt.RcAt A s (.ref a) (.ref a') b/\SeqAt.RcNeAt A s (.ref a) (.ref a') (!b):=by
    cases ez:pB (qx n) xs ys with
    |none=>rw[ez]at e;cases e
    |some c=>
     rw[ez]at e
     obtain⟨q1,q2⟩:=uA ez
     have s1:xs.length=its.toArray.size:=by simp;lia
     have s2:ys.length=its'.toArray.size:=by simp;lia
     have e':(c&&(xs.length==ys.length))=b:=Option.some.inj e
     rw[q2]at e'
     have he:∀j (g1:j<its.toArray.size)(g2:j<its'.toArray.size),SeqAt.EqAt A.in1 s its.toArray[j] its'.toArray[j] (Tq (qx n) xs ys j):=λj g1 g2=>by
      have j1:j<xs.length:=by simp at g1;lia
      have j2:j<ys.length:=by simp at g2;lia
      have f:=q1 j _ _ (getElem?_eq_getElem j1) (getElem?_eq_getElem j2)
      obtain⟨v1,hv1,MM⟩:=IsL.get h2 (getElem?_eq_getElem j1)
      obtain⟨v2,hv2,MN⟩:=IsL.get h4 (getElem?_eq_getElem j2)
      obtain⟨u1,Tu,ru1⟩:=W9.get hv1
      obtain⟨u2,Tv,ru2⟩:=Jt.get hv2
      have E1:its.toArray[j]=u1:=by
       have:=List.getElem?_eq_some_iff.mp Tu
       obtain⟨_,h⟩:=this
       simpa using h
      have E2:its'.toArray[j]=u2:=by
       have:=List.getElem?_eq_some_iff.mp Tv
       obtain⟨_,h⟩:=this
       simpa using h
      rw[E1,E2]
      exact(EI I n A.in1 _ _ _ _ _ _ _ hu1 MM MN ru1 ru2 f).1
     subst e'
     have R1:=SeqAt.RcAt.tuples (A:=A) (e:=Tq (qx n) xs ys) pl Tt VA he
     have R2:=SeqAt.RcNeAt.tuples (A:=A) (e:=Tq (qx n) xs ys) pl Tt VA he
     rw[<-s1,<-s2]at R1 R2
     exact⟨R1,R2⟩
   refine⟨?_,main⟩
   by_cases ha:a=a'
   ·subst ha
    have:=rZ I (n+1) _ _ _ _ hx0 hy0 e0
    subst this
    exact .same _
   ·exact .of_refs ha main.1
  ·exact Js hx hy rv oU e
end
section
variable{X:Cx}{E:Str->Hp->Prop}{pos:Pos}
def N8(K:PySem.W.Frag)(ne:Bool):R2:=λv w H Q=>∃x y b,Is K Tr H x v/\Is K Tr H y w/\qx 6 x y=some b/\Q (.bl (if ne=true then !b else b)) H
theorem di(hu:X.A.units+6<cLine):uh X (compareOp .Eq) (N8 X.K false):=by
 intro pins s σ H v w u u' Q I rx ry h
 obtain⟨x,y,b,hx,hy,e,q⟩:=h
 exact(EI I 6 X.A x y v w u u' b hu hx hy rx ry e).2.1 X.prog X.w _ _ ⟨.bl b,H,I,rfl,q⟩
theorem uB(hu:X.A.units+6<cLine):uh X (compareOp .NotEq) (N8 X.K true):=by
 intro pins s σ H v w u u' Q I rx ry h
 obtain⟨x,y,b,hx,hy,e,q⟩:=h
 exact(EI I 6 X.A x y v w u u' b hu hx hy rx ry e).2.2 X.prog X.w _ _ ⟨.bl (!b),H,I,rfl,q⟩
def rF(x y:D):Option D:=(qx 6 x y).map .bl
def AU(x y:D):Option D:=(qx 6 x y).map λb=>.bl (!b)
theorem bW:pA X (N8 X.K false) rF:=λx y d e=>by
 unfold rF at e
 cases h:qx 6 x y with
 |none=>rw[h]at e;cases e
 |some b=>
  rw[h]at e;cases e
  exact⟨_,rfl,λH v w Q i1 i2 q=>⟨x,y,b,i1,i2,h,q⟩⟩
theorem qy:pA X (N8 X.K true) AU:=λx y d e=>by
 unfold AU at e
 cases h:qx 6 x y with
 |none=>rw[h]at e;cases e
 |some b=>
  rw[h]at e;cases e
  exact⟨_,rfl,λH v w Q i1 i2 q=>⟨x,y,b,i1,i2,h,q⟩⟩
theorem bh.u6 {k:Nat}{A:Around}(r:bh k A):A.units+6<cLine:=by have:=r.un;lia
end
def Kp(nt:Nat)(b:D->DE->R DE):Prop:=∀(d:D)(r ts e':DE),ts.length=nt->b d (ts++r)=.ok e'->∃Xa,e'=Xa++r/\Xa.length=nt
def Qn(nt:Nat)(b:List D->DE->R DE):Prop:=∀(d:List D)(r ts e':DE),ts.length=nt->b d (ts++r)=.ok e'->∃Xa,e'=Xa++r/\Xa.length=nt
theorem kpN{nt:Nat}(i:Nat)(hi:i<nt:=by decide):Kp nt λd env=>.ok (env.set i (.val d)):=λd r ts e' hl h=>by
 cases h
 exact⟨ts.set i (.val d),by rw[List.set_append_left _ _ (by lia)],by simp[hl]⟩
theorem Xb{nt:Nat}:Qn nt λds env=>match ds with
  |[]=>.ok env
  |_=>.bad:=λd r ts e' hl h=>by
 cases d with
 |nil=>cases h;exact⟨ts,rfl,hl⟩
 |cons _ _=>cases h
theorem Tw{nt:Nat}{b:D->DE->R DE}{k:List D->DE->R DE}(hb:Kp nt b)(hk:Qn nt k):Qn nt λds env=>match ds with
   |d::r=>(b d env).bind λe'=>k r e'
   |_=>.bad:=λd r ts e' hl h=>by
 cases d with
 |nil=>cases h
 |cons x xs=>
  obtain⟨e1,h1,h2⟩:=R.fx (show(b x (ts++r)).bind (λe'=>k xs e')=.ok e' from h)
  obtain⟨t1,rfl,l1⟩:=hb x r ts e1 hl h1
  exact hk xs r t1 e' l1 h2
theorem kpT{nt n:Nat}{b:List D->DE->R DE}(hb:Qn nt b):Kp nt λd env=>match d with
   |.tup ds=>if ds.length=n then b ds env else .bad
   |_=>.bad:=λd r ts e' hl h=>by
 cases d with
 |tup ds=>
  have h':(if ds.length=n then b ds (ts++r)else .bad)=.ok e':=h
  split at h'
  ·exact hb ds r ts e' hl h'
  ·cases h'
 |non=>cases h
 |bl _=>cases h
 |int _=>cases h
 |str _=>cases h
 |lst _=>cases h
 |exc _=>cases h
 |fn _=>cases h
theorem Kp.ok {nt:Nat}{b:D->DE->R DE}(h:Kp nt b):∀ds d e,b d (jY nt ds)=.ok e->∃ts,e=ts++ds.map Sl.val/\ts.length=nt:=λds d e q=>h d _ _ e (by simp) q
structure Df(K:PySem.W.Frag)(mg:Str->Option Value)(x:Str)(st:Stmt)(ps:List Str)(f:Addr)(fd:FuncData):Prop where
 F:Bj K x x st f fd
 b:Binds K fd ps []
 m:mg x=some (.ref f)
 ns:nsIn K mainGlobals x=some (some (.ref f))
abbrev Ij:Str->Value:=λ_=>.none
section
variable{X:Cx}{E:Str->Hp->Prop}{pos:Pos}{k:Nat}{fa:Addr}{fd:FuncData}{st:Stmt}{ps:List Str}{x:Str}{p:Pos}{e:Expr}{es:List Expr}{f:DE->R (List D)}
theorem G5{m:List D->R D}(d:Df X.K X.mg x st ps fa fd)(F:cO X.prog X.w X.K X.mg X.base lK k fa fd ps (EC X.K Ij m))(hr:bh k X.A)
  (ha:PA X (e::es) (Ih X.K E f))(hg:Gl X x:=by rfl)(hdb:(x==("__debug__":Str))=false:=by decide)(he:starEach (e::es) X.env=(false,eval e X.env)::starEach es X.env:=by rfl)(hpl:(backTo pos (starEach es X.env)).any (·.1)=false:=by rfl):
  PE X (.Call (.Name x p) (e::es) [] pos) (tD X.K E λenv=>(f env).bind m):=fD F d.m d.F.kp d.b hr lR ha hg hdb he hpl
def ScD(m:List D->R D):Prop:=∀ds d,m ds=.ok d->∃z,toV d=some z
def ScL(m:List D->R (List D)):Prop:=∀ds xs,m ds=.ok xs->∀d∈xs,∃z,toV d=some z
theorem MO{m:List D->R D}(hsc:ScD m)(d:Df X.K X.mg x st ps fa fd)(F:cO X.prog X.w X.K X.mg X.base lK k fa fd ps (EC X.K Ij m))(hr:bh k X.A)
  (ha:PA X (e::es) (uu X.K E f))(hg:Gl X x:=by rfl)(hdb:(x==("__debug__":Str))=false:=by decide)(he:starEach (e::es) X.env=(false,eval e X.env)::starEach es X.env:=by rfl)(hpl:(backTo pos (starEach es X.env)).any (·.1)=false:=by rfl):
  PE X (.Call (.Name x p) (e::es) [] pos) (tD X.K E λenv=>(f env).bind m):=fB F hsc d.m d.F.kp d.b hr lR ha hg hdb he hpl
theorem wB{m:List D->R (List D)}(d:Df X.K X.mg x st ps fa fd)(F:cO X.prog X.w X.K X.mg X.base lK k fa fd ps (MJ X.K Ij m))(hr:bh k X.A)
  (ha:PA X (e::es) (Ih X.K E f))(hg:Gl X x:=by rfl)(hdb:(x==("__debug__":Str))=false:=by decide)(he:starEach (e::es) X.env=(false,eval e X.env)::starEach es X.env:=by rfl)(hpl:(backTo pos (starEach es X.env)).any (·.1)=false:=by rfl):
  PE X (.Call (.Name x p) (e::es) [] pos) (tF X.K E λenv=>(f env).bind m):=fF F d.m d.F.kp d.b hr lR ha hg hdb he hpl
theorem aaI{m:List D->R (List D)}(hsc:ScL m)(d:Df X.K X.mg x st ps fa fd)(F:cO X.prog X.w X.K X.mg X.base lK k fa fd ps (MJ X.K Ij m))(hr:bh k X.A)
  (ha:PA X (e::es) (uu X.K E f))(hg:Gl X x:=by rfl)(hdb:(x==("__debug__":Str))=false:=by decide)(he:starEach (e::es) X.env=(false,eval e X.env)::starEach es X.env:=by rfl)(hpl:(backTo pos (starEach es X.env)).any (·.1)=false:=by rfl):
  PE X (.Call (.Name x p) (e::es) [] pos) (tF X.K E λenv=>(f env).bind m):=fFB F hsc d.m d.F.kp d.b hr lR ha hg hdb he hpl
end
abbrev Ok(P:Program)(w:World)(K:PySem.W.Frag)(mg:Str->Option Value)(base:Heap)(k:Nat)(f:Addr)(fd:FuncData)(ps:List Str)(m:List D->R D):Prop:=cO P w K mg base lK k f fd ps (EC K Ij m)
abbrev lI(P:Program)(w:World)(K:PySem.W.Frag)(mg:Str->Option Value)(base:Heap)(k:Nat)(f:Addr)(fd:FuncData)(ps:List Str)(m:List D->R (List D)):Prop:=cO P w K mg base lK k f fd ps (MJ K Ij m)
section
variable{P:Program}{w:World}{K:PySem.W.Frag}{mg:Str->Option Value}{base:Heap}
theorem mkD{x:Str}{st:Stmt}{f:Addr}{fd:FuncData}{N ps:List Str}{k:Nat}{m:List D->R D}{b:DE->R Out}(S:aC N ps (ae st))(d:Df K mg x st ps f fd)
  (hb:∀(cdv:Value)(A:Around)(outer:List Env)(s:Shared)(H:Hp)(E:XK),bh k (A.deeper (envOfC x (ae st) s.heap.objs.size f cdv))->q8 (qT lK P w K mg base N x (ae st) f cdv A outer s H E).GG (bM st) (tS K EN b))
  (hm:∀ds d,m ds=.ok d->ds.length=ps.length/\(b (aN N.length ds)).bind ah=.ok d)(hne:∀ds c,m ds≠.err c):
  Ok P w K mg base (k+1) f fd ps m:=aai d.F S hm hne hb
theorem mkF{x:Str}{st:Stmt}{f:Addr}{fd:FuncData}{N ps:List Str}{k:Nat}{m:List D->R (List D)}{b:DE->R Out}(S:aC N ps (ae st))(d:Df K mg x st ps f fd)
  (hb:∀(cdv:Value)(A:Around)(outer:List Env)(s:Shared)(H:Hp)(E:XK),bh k (A.deeper (envOfC x (ae st) s.heap.objs.size f cdv))->q8 (qT lK P w K mg base N x (ae st) f cdv A outer s H E).GG (bM st) (tS K EN b))
  (hm:∀ds d,m ds=.ok d->ds.length=ps.length/\(b (aN N.length ds)).bind ai=.ok d)(hne:∀ds c,m ds≠.err c):
  lI P w K mg base (k+1) f fd ps m:=aaj d.F S hm hne hb
end
section
variable{X:Cx}{E:Str->Hp->Prop}{pos:Pos}
def BD(x y:D):Option D:=match y with
 |.non=>some (.bl (match x with
  |.non=>false
  |_=>true))
 |_=>none
theorem N9{K:PySem.W.Frag}{P:Addr->Prop}{H:Hp}{x:D}{v:V}(h:Is K P H x v):decide (v=V.non)=(match x with
  |.non=>true
  |_=>false):=by
 cases x with
 |non=>cases h;rfl
 |bl _=>cases h;rfl
 |int _=>cases h;rfl
 |str _=>cases h;rfl
 |lst _=>obtain⟨a,vs,rfl,_⟩:=h;rfl
 |tup _=>obtain⟨a,vs,rfl,_⟩:=h;rfl
 |exc _=>obtain⟨a,vs,rfl,_⟩:=h;rfl
 |fn _=>obtain⟨a,rfl,_⟩:=h;rfl
theorem Ju:pA X (λx y H Q=>y=.non/\Q (.bl (!decide (x=.non))) H) BD:=λx y d e=>by
 unfold BD at e
 split at e
 ·cases e
  refine⟨_,rfl,λH v w Q h1 h2 q=>⟨h2,?_⟩⟩
  rw[N9 h1]
  cases x<;>exact q
 ·cases e
def Oa(xs:List D):D->R (List D)
 |.int k=> @ite _ (-(2^63)<=k/\k<2^63/\xs.length*k.toNat<=sizeLine) (propDecidable _) (.ok (replicate k.toNat xs).flatten) .bad
 |_=>.bad
theorem IsL.rep {K:PySem.W.Frag}{P:Addr->Prop}{H:Hp}{ds:List D}{vs:List V}(h:IsL K P H ds vs):∀n:Nat,IsL K P H (replicate n ds).flatten (replicate n vs).flatten
 |0=>rfl
 |n+1=>by
  rw[replicate_succ,replicate_succ,flatten_cons,flatten_cons]
  exact h.app (IsL.rep h n)
theorem aaJ{a b:Expr}{fa:DE->R (List D)}{fb:DE->R D}(ha:PE X a (tF X.K E fa))(hb:PE X b (tB X.K E fb)):PE X (.BinOp a .Mult b pos) (tF X.K E λenv=>(fa env).bind λx=>(fb env).bind λy=>Oa x y):=
 imp (rT SR ha hb) λσ H Q ⟨g,env,os,r,m⟩=>⟨g,env,os,r,m.bind.mono λx _ m1 a1 v1 H1 s1 hn hH i1=>⟨g,env,os,r.same s1,m1.bind.mono λy _ m2 w H2 s2 i2=>by
  unfold Oa at m2
  split at m2
  ·rename_i k _
   split at m2
   ·rename_i c
    have Vu:IsL X.K (g.P os) H1 x v1:=IsL.ext ⟨λb o p _=>⟨p.1,λz=>p.2 (mem_cons_of_mem _ z)⟩,λ_ _ _ q=>q⟩ _ _ i1
    refine⟨a1,k,v1,rfl,i2,s2 _ _ hH,c.1,c.2.1,by rw[Vu.length];exact c.2.2,λp hp=>?_⟩
    obtain⟨b1,b2,b3,b4⟩:=Jf r (s1.trans s2) hp ((Vu.same s2).rep k.toNat)
    exact m2 p _ _ b1 b2 b3 b4
   ·exact m2.elim
  ·exact m2.elim⟩⟩
theorem BE:bootBuiltins "range"=some (.type "range"):=by decide +kernel
def r6:List D->R (List D)
 |[.int j]=> @ite _ (0<=j/\j<=1000000) (propDecidable _) (.ok (rD 0 j.toNat)) .bad
 |_=>.bad
theorem Ob{K:PySem.W.Frag}{P:Addr->Prop}{H:Hp}{n:Nat}:IsL K P H (rD 0 n) ((range n).map λi=>V.int (0+(i:Nat))):=by
 unfold rD
 induction (range n)with
 |nil=>rfl
 |cons x r ih=>exact⟨_,_,rfl,rfl,ih⟩
theorem yJ{acc:List Value}{n:Nat}(h1:acc.length=n)(h2:∀(j:Nat)(v:Value),acc[j]?=some v->∃t,v=.int (0+(j:Nat)) t):Vals ((range n).map λi=>V.int (0+(i:Nat))) acc:=by
 have gen:∀(l:List Value)(k:Nat),(∀(j:Nat)(v:Value),l[j]?=some v->∃t,v=.int (0+((k+j:Nat):Int)) t)->Vals ((range' k l.length).map λi=>V.int (0+(i:Nat))) l:=by
  intro l
  induction l with
  |nil=>intro k _;exact .nil
  |cons x r ih=>
   intro k hk
   rw[length_cons,List.range'_succ,map_cons]
   refine .cons ?_ (ih (k+1) λj v e=>?_)
   ·obtain⟨t,e⟩:=hk 0 x (by simp)
    exact⟨t,e⟩
   ·obtain⟨t,e⟩:=hk (j+1) v (by simpa using e)
    exact⟨t,by rw[e];congr 2;lia⟩
 subst h1
 rw[List.range_eq_range']
 exact gen acc 0 λj v e=>by
  obtain⟨t,q⟩:=h2 j v e
  exact⟨t,by rw[q];congr 2;lia⟩
theorem Tz{a:Expr}{p p2 yK:Pos}{f:DE->R (List D)}(hc:X.calm=true)(Oc:X.mg "list"=none)(hmr:X.mg "range"=none)(ha:PA X [a] (uu X.K E f))(hgl:Gl X "list":=by rfl)(hgr:Gl X "range":=by rfl)
  (hs:starEach [a] X.env=[(false,eval a X.env)]:=by rfl)(he:starEach [.Call (.Name "range" p2) [a] [] yK] X.env=(false,eval (.Call (.Name "range" p2) [a] [] yK) X.env)::starEach [] X.env:=by rfl)(hpl:(backTo pos (starEach [] X.env)).any (·.1)=false:=by rfl):
  PE X (.Call (.Name "list" p) [.Call (.Name "range" p2) [a] [] yK] [] pos) (tF X.K E λenv=>(f env).bind r6):=by
 intro pins s σ H Q I h
 obtain⟨g,env,os,r,m⟩:=h
 refine wpAny_Call_Name_kw (kJ I hgl Oc wA ?_)
 refine PyProof.Rows.callWith_type1 ?_ he hpl
 rw[he]
 refine Calls.spliced_cons ?_
 refine Call_ (kJ I hgr hmr BE (PyProof.Rows.callWith_type1 (cM (ha yK pins s σ H _ I ⟨g,env,os,r,m.bind.mono λds _ q vs H1 s1 i1=>(⟨ds,s1,i1,q⟩:∃ds,aO H H1/\IsL X.K Tr H1 ds vs/\Good E g.H₀ (r6 ds) _)⟩) λus s1 ⟨vs,H1,I1,r1,ds,sm,i1,q⟩=>?_) hs rfl))
 unfold r6 at q
 split at q
 ·rename_i j
  split at q
  ·rename_i c
   obtain⟨v,rfl,iv⟩:=IsL.z5 i1
   have iv':v=.int j:=iv
   subst iv'
   obtain⟨u,rfl,t,rfl⟩:=vals1 r1
   refine call_range_1 ?_
   have I2:Inv X pins σ H1 {s1 with heap:=s1.heap.push {cls:=.type "range",data:=.fields #[.int 0 s1.toks,.int j t,.int 1 (s1.toks+1)]},toks:=s1.toks+1+1}:=I1.kept λb o e=>Heap.get?_push_of_some _ e
   refine Calls.spliced_nil ?_
   have hd:X.A.handled=none:=I.ok.hd hc
   have hsz:Builtin.Range.rangeSize 0 j 1=(j.toNat:Nat):=by rw[rangeSize_one];split<;>lia
   refine call_list_range hd (IsRange.new ..) (small_one (by lia) (by lia) (by lia) (by lia)) hsz (by lia) λh' tk Jv c' hk hl hit=>?_
   obtain⟨hi1,hi2⟩:=hit
   have hv:Vals ((range j.toNat).map λi=>V.int (0+(i:Nat))) Jv.toList:=yJ (by simpa using hi1) λi v e=>by
    obtain⟨t,q⟩:=hi2 i v (by simpa using e)
    exact⟨t,by rw[q];congr 1;lia⟩
   have hlen:((range j.toNat).map λi=>V.int (0+(i:Nat))).length<=sizeLine:=by
    rw[length_map,length_range]
    exact le_trans (show j.toNat<=1000000 by lia) (by decide)
   refine⟨.ref _,upd H1 _ (.lst ((range j.toNat).map λi=>V.int (0+(i:Nat)))),I2.laid (a:=_) hk (Nat.le_refl _) ⟨hlen,Jv.toList,c',hv,by simpa using hl⟩,rfl,?_⟩
   have hn:H1 (s1.heap.push {cls:=.type "range",data:=.fields #[.int 0 s1.toks,.int j t,.int 1 (s1.toks+1)]}).objs.size=none:=I2.hok.fresh (Nat.le_refl _)
   exact q _ _ _ (sm.trans (aQ hn _)) (sm.free hn) au Ob
  ·exact q.elim
 ·exact q.elim
end
def cD:D->D->Option D
 |.int i,.int j=>some (.int (i+j))
 |_,_=>none
theorem aS{X:Cx}:pA X (Ep λi j=>.int (i+j)) cD:=pL (h:=λi j=>.int (i+j)) (λ_ _=>rfl) λx y d e=>by
 unfold cD at e
 split at e<;>cases e
 exact⟨_,_,rfl,rfl,rfl⟩
noncomputable def Qo(Qp sc:Scope)(XN N:List Str)(nt:Nat)(caps:List Nat):Bool:=
 sc.kind==.function&&sc.names.all (λy=>y.2 !=.cell&&(y.2 !=.local||sc.names.lookup y.1==some .local)&&(y.2 !=.free||Qp.names.lookup y.1==some .cell||Qp.names.lookup y.1==some .free))&&
 N.length==nt+caps.length&&decide N.Nodup&&(range caps.length).all λj=>match caps[j]?,N[nt+j]? with
  |some i,some x=>XN[i]?==some x&&sc.names.lookup x==some .free&&(Qp.names.lookup x==some .local||Qp.names.lookup x==some .cell||Qp.names.lookup x==some .free)
  |_,_=>false
theorem MP{X:Cx}{sc:Scope}{N:List Str}{nt:Nat}{caps:List Nat}(Qp:Scope)(XN:List Str)(h:Qo Qp sc XN N nt caps=true)(hsc:X.env.scope=Qp:=by rfl)(hN:X.N=XN:=by rfl):iC X sc N nt caps:=by
 subst hsc hN
 unfold Qo at h
 simp only [and_eq_true,all_eq_true,or_eq_true,decide_eq_true_eq,beq_iff_eq,bne_iff_ne,ne_eq]at h
 obtain⟨⟨⟨⟨h1,h2⟩,h3⟩,h4⟩,h5⟩:=h
 refine⟨by simpa using h1,λy hy=>(h2 y hy).1.1,λy hy e=>?_,λy hy e=>?_,h3,h4,λj i e=>?_⟩
 ·rcases(h2 y hy).1.2 with q|q
  ·exact absurd e q
  ·exact q
 ·rcases(h2 y hy).2 with(q|q)|q
  ·exact absurd e q
  ·exact .inl q
  ·exact .inr q
 ·have hj:j<caps.length:=(List.getElem?_eq_some_iff.mp e).1
  have q:=h5 j (by simpa using hj)
  rw[e]at q
  cases hx:N[nt+j]? with
  |none=>rw[hx]at q;exact absurd q (by simp)
  |some x=>
   rw[hx]at q
   simp only [and_eq_true,or_eq_true,beq_iff_eq]at q
   obtain⟨⟨q1,q2⟩,q3⟩:=q
   refine⟨x,rfl,q1,q2,?_⟩
   rcases q3 with(q3|q3)|q3
   ·exact .inl q3
   ·exact .inr (.inl q3)
   ·exact .inr (.inr q3)
def aaN(i:Nat):Out->R Out
 |.nx e=>.ok (.nx (yx i e))
 |o=>.ok o
theorem z6(i j:Int):cD (.int i) (.int j)=some (.int (i+j)):=rfl
theorem Jw(i j:Int):iA (.int i) (.int j)=some (.int (i-j)):=rfl
theorem Jy(i:Int):kg (.int i)=some (.int (-i)):=rfl
theorem Qq(i j:Int):NP (.int i) (.int j)=some (.bl (decide (i<j))):=rfl
theorem Qs(i j:Int):WH (.int i) (.int j)=some (.bl (decide (i<=j))):=rfl
theorem Qt(i j:Int):wq (.int i) (.int j)=some (.bl (decide (j<i))):=rfl
theorem Qu(i j:Int):kGe (.int i) (.int j)=some (.bl (decide (j<=i))):=rfl
theorem Qw(i j:Int):rF (.int i) (.int j)=some (.bl (i==j)):=rfl
theorem Qx(i j:Int):AU (.int i) (.int j)=some (.bl (!(i==j))):=rfl
theorem Qy(i j:Str):rF (.str i) (.str j)=some (.bl (i==j)):=rfl
theorem Qz(i j:Str):AU (.str i) (.str j)=some (.bl (!(i==j))):=rfl
theorem z7(i j:Int)(h:(-(2^64)<i/\i<2^64)\/(-(2^64)<j/\j<2^64)):Dj (.int i) (.int j)=some (.int (i*j)):=if_pos h
theorem nV(i j:Int)(h:0<j/\j<1073741824):vL (.int i) (.int j)=some (.int (i/j)):=if_pos h
theorem fK(i j:Int)(h:0<j):mE (.int i) (.int j)=some (.int (i%j)):=if_pos h
theorem TF(i j:Int)(h:0<=j/\j<=1000000/\i.natAbs<2^64):Jc (.int i) (.int j)=some (.int (i^j.toNat)):=if_pos h
theorem aaO:(10:Int)^(9:Nat)=1000000000:=by
 rw[show(10:Int)=((10:Nat):Int)from rfl,<-Int.natCast_pow]
 rfl
theorem Xc:(10:Int)^(9:Int).toNat=1000000000:=aaO
theorem Jz:Jc (.int 10) (.int 9)=some (.int 1000000000):=(TF 10 9 (by decide)).trans (by rw[Xc])
theorem JA(i:Int):xn [.int i]=some (.int (if i<0 then-i else i)):=rfl
theorem EJ(i j:Int):Br [.int i,.int j]=some (.int (if j>i then j else i)):=rfl
theorem JB(xs:List D):kO [.lst xs]=some (.int xs.length):=rfl
theorem JC(xs:List D):kO [.tup xs]=some (.int xs.length):=rfl
theorem QA(b:Bool):ja (.bl b)=.ok b:=rfl
theorem QB(xs:List D):wo (.lst xs)=.ok xs:=rfl
theorem QC(i:Int):vj (.int i)=.ok (some i):=rfl
theorem QD(xs:List D)(i:Int):oW xs (.int i)=R.of (i6 xs i):=rfl
theorem QE(xs:List D)(i:Int):Bq (.lst xs) (.int i)=R.of (i6 xs i):=rfl
theorem QF(xs:List D)(i:Int):Bq (.tup xs) (.int i)=R.of (i6 xs i):=rfl
theorem nW{α:Type}{xs:List α}(h:xs.length<=sizeLine):fit xs=.ok xs:=if_pos h
theorem big{n:Nat}(h:n<=1000000):n<=sizeLine:=le_trans h (by decide)
theorem Xd{α:Type}:fit ([]:List α)=.ok []:=nW (big (by simp))
theorem Xe{α:Type}(a:α):fit [a]=.ok [a]:=nW (big (by simp))
theorem Xf{α:Type}(a b:α):fit [a,b]=.ok [a,b]:=nW (big (by simp))
theorem Xg{α:Type}(a b c:α):fit [a,b,c]=.ok [a,b,c]:=nW (big (by simp))
theorem Xh{α:Type}(a b c d:α):fit [a,b,c,d]=.ok [a,b,c,d]:=nW (big (by simp))
theorem TH(j:Int)(h: -(2^62)<=j/\j<2^62):NU [.int j]=.ok (rD 0 j.toNat):=if_pos h
theorem TJ(i j:Int)(h: -(2^62)<=i/\i<2^62/\ -(2^62)<=j/\j<2^62):Ji [.int i,.int j]=.ok (rD i (j-i).toNat):=if_pos h
theorem G6(j:Int)(h:0<=j/\j<=1000000):r6 [.int j]=.ok (rD 0 j.toNat):=if_pos h
theorem TN(xs:List D)(k:Int)(h: -(2^63)<=k/\k<2^63/\xs.length*k.toNat<=sizeLine):Oa xs (.int k)=.ok (replicate k.toNat xs).flatten:=if_pos h
theorem EK(e:DE)(k:DE->R Out):aX (.ok (.nx e)) k=k e:=rfl
theorem EL(d:D)(k:DE->R Out):aX (.ok (.rt d)) k=.ok (.rt d):=rfl
theorem BF(d:List D)(k:DE->R Out):aX (.ok (.ph d)) k=.ok (.ph d):=rfl
theorem EO(i:Nat)(e:DE):aaN i (.nx e)=.ok (.nx (yx i e)):=rfl
theorem rG{S:Type}{b:D->DE->R Out}(J:Nat->S->Prop)(Ev:S->DE):∀(xs:List D)(i:Nat)(s:S),J i s->(∀(j:Nat)(s:S)(x:D),J (i+j) s->xs[j]?=some x->∃s',b x (Ev s)=.ok (.nx (Ev s'))/\J (i+j+1) s')->∃s',iB b xs (Ev s)=.ok (.nx (Ev s'))/\J (i+xs.length) s'
 |[],i,s,hI,h=>⟨s,rfl,hI⟩
 |x::xs,i,s,hI,h=>by
  obtain⟨s1,h1,h2⟩:=h 0 s x hI rfl
  obtain⟨s2,h3,h4⟩:=rG J Ev xs (i+1) s1 (by simpa using h2) λj s y hs hy=>by
   have e:i+1+j=i+(j+1):=by lia
   rw[e]at hs⊢
   exact h (j+1) s y hs (by simpa using hy)
  refine⟨s2,?_,by rw[length_cons,show i+(xs.length+1)=i+1+xs.length by lia];exact h4⟩
  unfold iB
  rw[h1]
  exact h3
theorem qz{b:D->DE->R DE}{ct:DE->R Bool}{fe:DE->R D}{e₀:DE}(g:D->D):∀(xs:List D),(∀x∈xs,∃e,b x e₀=.ok e/\ct e=.ok true/\fe e=.ok (g x))->cY b ct fe e₀ xs=.ok (xs.map g)
 |[],_=>rfl
 |x::xs,h=>by
  obtain⟨e,h1,h2,h3⟩:=h x (by simp)
  have ih:=qz g xs λy hy=>h y (by simp[hy])
  unfold cY
  rw[h1,R.bO,h2,R.bO,if_pos rfl,h3,R.bO,ih]
  rfl
def aM(ns:List Int):List D:=ns.map .int
theorem aW(ns:List Int):(aM ns).length=ns.length:=length_map _
def Ik:List D->Option (List Int)
 |[]=>some []
 |.int i::r=>(Ik r).map (i::·)
 |_::_=>none
theorem Dm(ns:List Int):Ik (aM ns)=some ns:=by
 induction ns with
 |nil=>rfl
 |cons x r ih=>show(Ik (aM r)).map (x::·)=_;rw[ih];rfl
theorem Dn:∀{xs:List D}{ns:List Int},Ik xs=some ns->xs=aM ns
 |[],ns,h=>by cases h;rfl
 |.int i::r,ns,h=>by
  unfold Ik at h
  cases e:Ik r with
  |none=>rw[e]at h;cases h
  |some ms=>rw[e]at h;cases h;rw[Dn e];rfl
 |.non::r,_,h=>by cases h
 |.bl _::r,_,h=>by cases h
 |.str _::r,_,h=>by cases h
 |.lst _::r,_,h=>by cases h
 |.tup _::r,_,h=>by cases h
theorem zg(n:Nat):∀(a b:List Int),a.length=b.length->pB (qx n) (aM a) (aM b)=some (decide (a=b))
 |[],[],_=>rfl
 |[],_::_,h=>by simp at h
 |_::_,[],h=>by simp at h
 |x::a,y::b,h=>by
  have ih:=zg n a b (by simpa using h)
  show(qx n (.int x) (.int y)).bind _=_
  have e:qx n (.int x) (.int y)=some (x==y):=by cases n<;>rfl
  rw[e]
  show(pB (qx n) (aM a) (aM b)).map ((x==y)&&·)=_
  rw[ih]
  show some ((x==y)&&decide (a=b))=some (decide (x::a=y::b))
  congr 1
  rw[Bool.eq_iff_iff]
  simp
theorem r9(n:Nat)(a b:List Int):qx (n+1) (.lst (aM a)) (.lst (aM b))=some (decide (a=b)):=by
 show(if(aM a).length=(aM b).length then pB (qx n) (aM a) (aM b)else some false)=_
 split
 ·rename_i h
  exact zg n a b (by simpa[aW]using h)
 ·rename_i h
  congr 1
  symm
  rw[decide_eq_false_iff_not]
  rintro rfl
  exact h rfl
theorem QG(a b:List Int):AU (.lst (aM a)) (.lst (aM b))=some (.bl (!decide (a=b))):=by unfold AU;rw[r9];rfl
theorem nX(ns:List Int)(i:Int):i6 (aM ns) i=(i6 ns i).map .int:=by
 unfold L2.i6
 rw[aW]
 cases rR ns.length i with
 |none=>rfl
 |some j=>exact getElem?_map
theorem dw(ns:List Int)(lo hi:Option Int):cut (aM ns) lo hi=aM (cut ns lo hi):=by
 unfold cut
 rw[aW]
 simp only [aM,List.map_take,map_drop]
theorem z8(lo:Int)(n:Nat):rD lo n=aM ((range n).map λi=>lo+(i:Nat)):=by
 unfold rD aM
 rw[map_map];rfl
def bN(i:Nat)(d:D)(env:DE):R DE:=.ok (env.set i (.val d))
def yL:List D->DE->R DE
 |[],env=>.ok env
 |_::_,_=>.bad
def jZ(b:D->DE->R DE)(k:List D->DE->R DE):List D->DE->R DE
 |d::r,env=>(b d env).bind λe'=>k r e'
 |[],_=>.bad
def bT(n:Nat)(b:List D->DE->R DE):D->DE->R DE
 |.tup ds,env=>if ds.length=n then b ds env else .bad
 |_,_=>.bad
def Oe(i:Nat)(env:DE)(xs:List D)(d:D):R Out:= @ite _ (xs.length<sizeLine) (propDecidable _) (.ok (.nx (env.set i (.own (xs++[d]))))) (.bad)
def Og(i:Nat)(env:DE)(xs:List D):R Out:=if 0<xs.length then .ok (.nx (env.set i (.own xs.dropLast)))else .bad
def vM(i:Nat)(env:DE)(d:D)(xs:List D):D->R Out
 |.int j=>(match rR xs.length j with
  |some n=>.ok (.nx (env.set i (.own (xs.set n d))))
  |none=>.bad)
 |_=>.bad
def G7(h:Int->Int->Int)(i:Nat)(env:DE):D->D->R Out
 |.int u,.int w=>.ok (.nx (env.set i (.val (.int (h u w)))))
 |_,_=>.bad
section
variable{X:Cx}{E:Str->Hp->Prop}{pos:Pos}
theorem xt(i:Nat){x:Str}(hN:X.N.Nodup)(hi:X.N[i]?=some x:=by rfl)(hx:Loc X.env.scope x:=by first|exact Or.inl rfl|exact Or.inr rfl)(hf:X.fn x=true\/X.env.scope.names.lookup x=some .local:=by first|exact .inl rfl|exact .inr rfl|assumption):
  PG X (.Name x pos) (tG X.K E (bN i)):=gN i hN hi hx hf
theorem z9:Eo X [] (Qj X.K E yL):=by
 have e:yL=λds env=>match ds with
  |[]=>.ok env
  |_=>.bad:=by funext ds env;cases ds<;>rfl
 rw[e];exact WQ
theorem lS{e:Expr}{es:List Expr}{b:D->DE->R DE}{k:List D->DE->R DE}(h1:PG X e (tG X.K E b))(h2:Eo X es (Qj X.K E k))(hs:(assignEach (e::es) X.env).map (·.2)=assign e X.env::(assignEach es X.env).map (·.2):=by rfl):
  Eo X (e::es) (Qj X.K E (jZ b k)):=by
 have e':jZ b k=λds env=>match ds with
   |d::r=>(b d env).bind λe'=>k r e'
   |_=>.bad:=by funext ds env;cases ds<;>rfl
 rw[e'];exact Tc h1 h2 hs
theorem YU{es:List Expr}{kk:Nat}{b:List D->DE->R DE}(n:Nat)(hc:X.calm=true)(h:Eo X es (Qj X.K E b))(hn:(assignEach es X.env).length=n:=by rfl)(hst:(assignEach es X.env).findIdx? (·.1)=none:=by rfl):
  PG X (.Tuple es kk pos) (tG X.K E (bT n b)):=by
 have e':bT n b=λd env=>match d with
   |.tup ds=>if ds.length=n then b ds env else .bad
   |_=>.bad:=by funext d env;cases d<;>rfl
 rw[e'];exact gT hc h hn hst
theorem yM{nt:Nat}(i:Nat)(hi:i<nt:=by decide):Kp nt (bN i):=kpN i hi
theorem TQ{nt:Nat}:Qn nt yL:=by
 have e:yL=λds env=>match ds with
  |[]=>.ok env
  |_=>.bad:=by funext ds env;cases ds<;>rfl
 rw[e];exact Xb
theorem ER{nt:Nat}{b:D->DE->R DE}{k:List D->DE->R DE}(hb:Kp nt b)(hk:Qn nt k):Qn nt (jZ b k):=by
 have e':jZ b k=λds env=>match ds with
   |d::r=>(b d env).bind λe'=>k r e'
   |_=>.bad:=by funext ds env;cases ds<;>rfl
 rw[e'];exact Tw hb hk
theorem aaP{nt:Nat}{b:List D->DE->R DE}(n:Nat)(hb:Qn nt b):Kp nt (bT n b):=by
 have e':bT n b=λd env=>match d with
   |.tup ds=>if ds.length=n then b ds env else .bad
   |_=>.bad:=by funext d env;cases d<;>rfl
 rw[e'];exact kpT hb
theorem QH(i:Nat){x:Str}{e:Expr}{f:DE->R D}{p apos bV:Pos}(he:PE X e (tD X.K E f))(hN:X.N[i]?=some x:=by rfl)(hv:yZ X.env.scope x:=by first|exact Or.inl rfl|exact Or.inr (Or.inl rfl)|exact Or.inr (Or.inr rfl))(hd:(x==("__debug__":Str))=false:=by decide)
  (hcd:(x==("__classdict__":Str))=false:=by decide)
  (hbase:attributeBase (.Name x p) "append" X.env (eval (.Name x p) X.env)=eval (.Name x p) X.env:=by rfl)
  (hfew:((backTo bV (starEach [e] X.env)).all (λx=> !x.1)&&(backToKw bV (keywordEach [] X.env)).all (λx=>x.1.isSome)
   &&decide ([e].length+([]:List Keyword).length+(if([]:List Keyword).isEmpty then 0 else 1)<30))=true:=by rfl)
  (hline:(apos.endLine==bV.line)=true:=by rfl)(hst:starEach [e] X.env=(false,eval e X.env)::starEach [] X.env:=by rfl)(hplain:(backTo bV (starEach [] X.env)).any (·.1)=false:=by rfl)
  (hs:swapsWith (.Call (.Attribute (.Name x p) "append" apos) [e] [] bV) none pos.line X.env=pure false:=by rfl):
  PS X (.Expr (.Call (.Attribute (.Name x p) "append" apos) [e] [] bV) pos) (tS X.K E λenv=>(ownAt i env).bind λxs=>(f env).bind λd=>Oe i env xs d):=aaf i he hN hv hd hcd hbase hfew hline hst hplain hs
theorem QI(i:Nat){x:Str}{p apos bV:Pos}(hN:X.N[i]?=some x:=by rfl)(hv:yZ X.env.scope x:=by first|exact Or.inl rfl|exact Or.inr (Or.inl rfl)|exact Or.inr (Or.inr rfl))(hd:(x==("__debug__":Str))=false:=by decide)
  (hcd:(x==("__classdict__":Str))=false:=by decide)
  (hbase:attributeBase (.Name x p) "pop" X.env (eval (.Name x p) X.env)=eval (.Name x p) X.env:=by rfl)(hline:(apos.endLine==bV.line)=true:=by rfl)
  (hs:swapsWith (.Call (.Attribute (.Name x p) "pop" apos) [] [] bV) none pos.line X.env=pure false:=by rfl):
  PS X (.Expr (.Call (.Attribute (.Name x p) "pop" apos) [] [] bV) pos) (tS X.K E λenv=>(ownAt i env).bind λxs=>Og i env xs):=aag i hN hv hd hcd hbase hline hs
theorem nY(i:Nat){x:Str}{ek e:Expr}{fk f:DE->R D}{p tp:Pos}(hk:PE X ek (tB X.K E fk))(he:PE X e (tD X.K E f))(hN:X.N[i]?=some x:=by rfl)(hv:yZ X.env.scope x:=by first|exact Or.inl rfl|exact Or.inr (Or.inl rfl)|exact Or.inr (Or.inr rfl))(hd:(x==("__debug__":Str))=false:=by decide)
  (hcd:(x==("__classdict__":Str))=false:=by decide)
  (ha:∀v,assign (.Subscript (.Name x p) ek tp) X.env v=(do
   let ov<-holding [v] (eval (.Name x p) X.env)
   let iv<-holding [v,ov] (eval ek X.env)
   standAt tp
   holding [v,ov,iv] (setItem ov iv v)
   release [v,ov,iv] []):=by intro _;rfl)
  (hs:swapsWithSole [.Subscript (.Name x p) ek tp] e pos.line X.env=pure false:=by rfl)(hw:swappedStores [.Subscript (.Name x p) ek tp] e X.env=pure none:=by rfl)
  (h1:(assignEach [.Subscript (.Name x p) ek tp] X.env).map (·.2)=[assign (.Subscript (.Name x p) ek tp) X.env]:=by rfl):
  PS X (.Assign [.Subscript (.Name x p) ek tp] e pos) (tS X.K E λenv=>(f env).bind λd=>(ownAt i env).bind λxs=>(fk env).bind λkd=>vM i env d xs kd):=by
 have h:=S8 (pos:=pos) i hk he hN hv hd hcd ha hs hw h1
 have e':(λenv:DE=>(f env).bind λd=>(ownAt i env).bind λxs=>(fk env).bind λkd=>vM i env d xs kd)=(λenv=>(f env).bind λd=>(ownAt i env).bind λxs=>(fk env).bind λkd=>match kd with
   |.int j=>(match rR xs.length j with
    |some n=>.ok (.nx (env.set i (.own (xs.set n d))))
    |none=>.bad)
   |_=>.bad):=by
  funext env
  refine congrArg (R.bind (f env)) (funext λd=>congrArg (R.bind _) (funext λxs=>congrArg (R.bind _) (funext λkd=>?_)))
  cases kd<;>rfl
 rw[e'];exact h
theorem QJ(i:Nat){x:Str}{e:Expr}{op:Operator}{h:Int->Int->Int}{f:DE->R D}{pos':Pos}(ho:Vr X op (V5 h))(he:PE X e (tB X.K E f))(hN:X.N.Nodup)(hi:X.N[i]?=some x:=by rfl)(hx:Loc X.env.scope x:=by first|exact Or.inl rfl|exact Or.inr rfl)
  (hf:X.fn x=true\/X.env.scope.names.lookup x=some .local:=by first|exact .inl rfl|exact .inr rfl|assumption):
  PS X (.AugAssign (.Name x pos') op e pos) (tS X.K E λenv=>(bH i env).bind λa=>(f env).bind λb=>G7 h i env a b):=by
 have h':=aah (pos:=pos) (pos':=pos') i ho he hN hi hx hf
 have e':(λenv:DE=>(bH i env).bind λa=>(f env).bind λb=>G7 h i env a b)=(λenv=>(bH i env).bind λa=>(f env).bind λb=>match a,b with
   |.int u,.int w=>.ok (.nx (env.set i (.val (.int (h u w)))))
   |_,_=>.bad):=by
  funext env
  refine congrArg (R.bind _) (funext λa=>congrArg (R.bind _) (funext λb=>?_))
  cases a<;>cases b<;>rfl
 rw[e'];exact h'
end
def Oh(d:D):R D:=match toV d with
 |some _=>.ok d
 |none=>.bad
theorem Dq{x d:D}(h:Oh x=.ok d):x=d/\∃z,toV d=some z:=by
 unfold Oh at h
 cases e:toV x with
 |none=>rw[e]at h;cases h
 |some z=>rw[e]at h;cases h;exact⟨rfl,z,e⟩
def VC:List D->R (List D)
 |[]=>.ok []
 |x::r=>(Oh x).bind λy=>(VC r).bind λys=>.ok (y::ys)
theorem Dr:∀{xs ys:List D},VC xs=.ok ys->xs=ys/\∀d∈ys,∃z,toV d=some z
 |[],ys,h=>by cases h;exact⟨rfl,λd hd=>nomatch hd⟩
 |x::r,ys,h=>by
  unfold VC at h
  obtain⟨y,h1,h2⟩:=R.fx h
  obtain⟨zs,h3,h4⟩:=R.fx h2
  cases h4
  obtain⟨rfl,hz⟩:=Dq h1
  obtain⟨rfl,hs⟩:=Dr h3
  exact⟨rfl,λd hd=>(mem_cons.mp hd).elim (λe=>by rw[e];exact hz) (hs d)⟩
theorem QK(i:Int):Oh (.int i)=.ok (.int i):=rfl
theorem QL(i:Bool):Oh (.bl i)=.ok (.bl i):=rfl
theorem QM(i:Str):Oh (.str i)=.ok (.str i):=rfl
theorem QN:Oh .non=.ok .non:=rfl
theorem gx(ns:List Int):VC (aM ns)=.ok (aM ns):=by
 induction ns with
 |nil=>rfl
 |cons x r ih=>show(Oh (.int x)).bind (λy=>(VC (aM r)).bind λys=>.ok (y::ys))=_;rw[ih];rfl
def mD(n N:Nat)(b:DE->R Out)(ds:List D):R D:=if ds.length=n then((b (aN N ds)).bind ah).ne else .bad
def mS(n N:Nat)(b:DE->R Out)(ds:List D):R D:=if ds.length=n then(((b (aN N ds)).bind ah).bind Oh).ne else .bad
def mF(n N:Nat)(b:DE->R Out)(ds:List D):R (List D):=if ds.length=n then((b (aN N ds)).bind ai).ne else .bad
def gp(n N:Nat)(b:DE->R Out)(ds:List D):R (List D):=if ds.length=n then(((b (aN N ds)).bind ai).bind VC).ne else .bad
theorem R.bX {α:Type}{r:R α}{a:α}(h:r.ne=.ok a):r=.ok a:=by
 cases r with
 |ok b=>exact h
 |err c=>cases h
 |bad=>cases h
theorem R.ES {α:Type}{r:R α}{c:Str}:r.ne≠.err c:=by
 cases r<;>intro h<;>cases h
theorem MQ{n N:Nat}{b:DE->R Out}:ScD (mS n N b):=λds d h=>by
 unfold mS at h
 split at h
 ·obtain⟨x,_,h2⟩:=R.fx (R.bX h)
  exact(Dq h2).2
 ·cases h
theorem scl{n N:Nat}{b:DE->R Out}:ScL (gp n N b):=λds d h=>by
 unfold gp at h
 split at h
 ·obtain⟨x,_,h2⟩:=R.fx (R.bX h)
  exact(Dr h2).2
 ·cases h
section
variable{P:Program}{w:World}{K:PySem.W.Frag}{mg:Str->Option Value}{base:Heap}
variable{x:Str}{st:Stmt}{f:Addr}{fd:FuncData}{N ps:List Str}{k:Nat}{b:DE->R Out}
theorem Oi(S:aC N ps (ae st))(d:Df K mg x st ps f fd)
  (hb:∀(cdv:Value)(A:Around)(outer:List Env)(s:Shared)(H:Hp)(E:XK),bh k (A.deeper (envOfC x (ae st) s.heap.objs.size f cdv))->q8 (qT lK P w K mg base N x (ae st) f cdv A outer s H E).GG (bM st) (tS K EN b)):
  Ok P w K mg base (k+1) f fd ps (mD ps.length N.length b):=mkD S d hb (λds e h=>by
 unfold mD at h
 split at h
 ·rename_i c
  exact⟨c,R.bX h⟩
 ·cases h) λds c h=>by
 unfold mD at h
 split at h
 ·exact R.ES h
 ·cases h
theorem TR(S:aC N ps (ae st))(d:Df K mg x st ps f fd)
  (hb:∀(cdv:Value)(A:Around)(outer:List Env)(s:Shared)(H:Hp)(E:XK),bh k (A.deeper (envOfC x (ae st) s.heap.objs.size f cdv))->q8 (qT lK P w K mg base N x (ae st) f cdv A outer s H E).GG (bM st) (tS K EN b)):
  Ok P w K mg base (k+1) f fd ps (mS ps.length N.length b):=mkD S d hb (λds e h=>by
 unfold mS at h
 split at h
 ·rename_i c
  obtain⟨y,h1,h2⟩:=R.fx (R.bX h)
  obtain⟨rfl,_⟩:=Dq h2
  exact⟨c,h1⟩
 ·cases h) λds c h=>by
 unfold mS at h
 split at h
 ·exact R.ES h
 ·cases h
theorem okF(S:aC N ps (ae st))(d:Df K mg x st ps f fd)
  (hb:∀(cdv:Value)(A:Around)(outer:List Env)(s:Shared)(H:Hp)(E:XK),bh k (A.deeper (envOfC x (ae st) s.heap.objs.size f cdv))->q8 (qT lK P w K mg base N x (ae st) f cdv A outer s H E).GG (bM st) (tS K EN b)):
  lI P w K mg base (k+1) f fd ps (mF ps.length N.length b):=mkF S d hb (λds e h=>by
 unfold mF at h
 split at h
 ·rename_i c
  exact⟨c,R.bX h⟩
 ·cases h) λds c h=>by
 unfold mF at h
 split at h
 ·exact R.ES h
 ·cases h
theorem pP(S:aC N ps (ae st))(d:Df K mg x st ps f fd)
  (hb:∀(cdv:Value)(A:Around)(outer:List Env)(s:Shared)(H:Hp)(E:XK),bh k (A.deeper (envOfC x (ae st) s.heap.objs.size f cdv))->q8 (qT lK P w K mg base N x (ae st) f cdv A outer s H E).GG (bM st) (tS K EN b)):
  lI P w K mg base (k+1) f fd ps (gp ps.length N.length b):=mkF S d hb (λds e h=>by
 unfold gp at h
 split at h
 ·rename_i c
  obtain⟨y,h1,h2⟩:=R.fx (R.bX h)
  obtain⟨rfl,_⟩:=Dr h2
  exact⟨c,h1⟩
 ·cases h) λds c h=>by
 unfold gp at h
 split at h
 ·exact R.ES h
 ·cases h
end
section
variable{d:D}{xs:List D}{r:DE}{a:Sl}{i:Nat}
theorem QO:bH 0 (.val d::r)=.ok d:=rfl
theorem QP:bH (i+1) (a::r)=bH i r:=rfl
theorem QQ:aV 0 (.val d::r)=.ok d:=rfl
theorem JD:aV 0 (.own xs::r)=.ok (.lst xs):=rfl
theorem QR:aV (i+1) (a::r)=aV i r:=rfl
theorem QS:fY 0 (.val (.lst xs)::r)=.ok xs:=rfl
theorem JE:fY 0 (.own xs::r)=.ok xs:=rfl
theorem QT:fY (i+1) (a::r)=fY i r:=rfl
theorem QU:ownAt 0 (.own xs::r)=.ok xs:=rfl
theorem QV:ownAt (i+1) (a::r)=ownAt i r:=rfl
theorem QW:yx 0 (.own xs::r)=.val (.lst xs)::r:=rfl
theorem QX:yx (i+1) (a::r)=a::yx i r:=by
 unfold yx
 rw[List.getElem?_cons_succ]
 cases e:r[i]? with
 |none=>rfl
 |some sl=>cases sl<;>rfl
end
theorem bT2(i j:Nat)(a b:D)(env:DE):bT 2 (jZ (bN i) (jZ (bN j) yL)) (.tup [a,b]) env=.ok ((env.set i (.val a)).set j (.val b)):=rfl
theorem j0(i:Nat)(a:D)(env:DE):bN i a env=.ok (env.set i (.val a)):=rfl
theorem bj{ns:List Int}(h:ns.length<=1000000):fit (aM ns)=.ok (aM ns):=nW (by rw[aW];exact big h)
theorem b9(a b:List Int):aM a++aM b=aM (a++b):=(map_append ..).symm
theorem pJ(n d:Nat):HT.w9 n d none=d:=rfl
theorem j9(n d:Nat)(i:Int)(h:0<=i):HT.w9 n d (some i)=min i.toNat n:=by
 unfold HT.w9
 dsimp only
 split<;>lia
theorem kP{α:Type}(xs:List α)(m:Int)(h:0<=m):cut xs none (some m)=xs.take m.toNat:=by
 unfold cut
 rw[pJ,j9 _ _ _ h,drop_zero,sub_zero]
 rcases le_total m.toNat xs.length with q|q
 ·rw[min_eq_left q]
 ·rw[min_eq_right q,take_length,take_of_length_le q]
theorem iD{α:Type}(xs:List α)(m:Int)(h:0<=m):cut xs (some m) none=xs.drop m.toNat:=by
 unfold cut
 rw[pJ,j9 _ _ _ h]
 rcases le_total m.toNat xs.length with q|q
 ·rw[min_eq_left q,take_of_length_le (by rw[length_drop];exact Nat.le_refl _)]
 ·rw[min_eq_right q,sub_self,List.take_zero,List.drop_eq_nil_of_le q]
theorem TU{α:Type}(xs:List α)(a b:Int)(h:0<=a)(h2:0<=b):cut xs (some a) (some b)=(xs.drop a.toNat).take (b.toNat-a.toNat):=by
 unfold cut
 rw[j9 _ _ _ h,j9 _ _ _ h2]
 rcases le_total a.toNat xs.length with q|q
 ·rw[min_eq_left q]
  rcases le_total b.toNat xs.length with q2|q2
  ·rw[min_eq_left q2]
  ·rw[min_eq_right q2,take_of_length_le (by rw[length_drop];exact Nat.le_refl _),take_of_length_le (by rw[length_drop];lia)]
 ·rw[min_eq_right q,List.drop_eq_nil_of_le (Nat.le_refl _),List.drop_eq_nil_of_le q,take_nil,take_nil]
theorem uC{cells:List Int}{j:Nat}{x:D}(h:(eI (aM cells))[j]?=some x):∃c,cells[j]?=some c/\x=.tup [.int (j:Nat),.int c]:=by
 obtain⟨d,hd,rfl⟩:=uz h
 unfold aM at hd
 rw[getElem?_map]at hd
 cases q:cells[j]? with
 |none=>rw[q]at hd;cases hd
 |some c=>rw[q]at hd;cases hd;exact⟨c,rfl,rfl⟩
theorem G8(xs:List D):(eI xs).length=xs.length:=by simp[eI]
theorem wC{i:Nat}{env:DE}{xs:List D}{d:D}(h:xs.length<1000000):Oe i env xs d=.ok (.nx (env.set i (.own (xs++[d])))):=if_pos (lt_of_lt_of_le h (by decide))
theorem ET{i:Nat}{env:DE}{xs:List D}(h:0<xs.length):Og i env xs=.ok (.nx (env.set i (.own xs.dropLast))):=if_pos h
theorem ni{i:Nat}{env:DE}{d:D}{xs:List D}{j:Int}(h:0<=j)(h2:j<xs.length):vM i env d xs (.int j)=.ok (.nx (env.set i (.own (xs.set j.toNat d)))):=by
 unfold vM
 have:rR xs.length j=some j.toNat:=by unfold L2.rR;rw[if_pos h,if_pos h2]
 simp only [this]
theorem qA{α:Type}{xs:List α}{j:Int}(h:0<=j):i6 xs j=xs[j.toNat]?:=by
 unfold L2.i6 L2.rR
 rw[if_pos h]
 split
 ·rfl
 ·rename_i c
  symm
  show _=none
  rw[List.getElem?_eq_none_iff]
  lia
theorem Oj(ns:List Int)(j:Nat)(x:Int):(aM ns).set j (.int x)=aM (ns.set j x):=map_set.symm
theorem Ol(ns:List Int)(j:Nat):(aM ns)[j]?=(ns[j]?).map .int:=getElem?_map
theorem Aa(ns:List Int):(aM ns).reverse=aM ns.reverse:=map_reverse.symm
theorem nj(a:Int)(ns:List Int):D.int a::aM ns=aM (a::ns):=rfl
theorem QY(T:String)(i:Int):N6 T (.int i)=.ok (.bl (nU (Dl (.int i)) T)):=rfl
theorem QZ(T:String)(i:Bool):N6 T (.bl i)=.ok (.bl (nU (Dl (.bl i)) T)):=rfl
theorem Q0(T:String)(i:Str):N6 T (.str i)=.ok (.bl (nU (Dl (.str i)) T)):=rfl
theorem Q1(T:String):N6 T .non=.ok (.bl (nU (Dl .non) T)):=rfl
theorem Q2(T:String)(i:List D):N6 T (.lst i)=.ok (.bl (nU (Dl (.lst i)) T)):=rfl
theorem Q3(T:String)(i:List D):N6 T (.tup i)=.ok (.bl (nU (Dl (.tup i)) T)):=rfl
theorem aG:(type_of% @length_cons.{0})/\(type_of% @length_nil.{0})/\(type_of% @map_cons.{0,0})/\(type_of% @map_nil.{0,0})/\(type_of% @cons_append.{0})/\(type_of% @nil_append.{0})/\(type_of% @replicate_zero.{0})/\(type_of% @replicate_succ.{0})/\(type_of% @if_true.{1})/\(type_of% @ite_true.{1})/\(type_of% @false_eq_true)/\(type_of% @Bool.true_eq_false)/\(type_of% @QO)/\(type_of% @QP)/\(type_of% @QQ)/\(type_of% @JD)/\(type_of% @QR)/\(type_of% @QS)/\(type_of% @JE)/\(type_of% @QT):=⟨@length_cons.{0},@length_nil.{0},@map_cons.{0,0},@map_nil.{0,0},@cons_append.{0},@nil_append.{0},@replicate_zero.{0},@replicate_succ.{0},@if_true.{1},@ite_true.{1},@false_eq_true,@Bool.true_eq_false,@QO,@QP,@QQ,@JD,@QR,@QS,@JE,@QT⟩
theorem aH:(type_of% @QU)/\(type_of% @QV)/\(type_of% @QW)/\(type_of% @QX)/\(type_of% @List.set_cons_zero.{0})/\(type_of% @List.set_cons_succ.{0})/\(type_of% @R.bO)/\(type_of% @R.lP)/\(type_of% @R.Jk)/\(type_of% @QA)/\(type_of% @QB)/\(type_of% @QC)/\(type_of% @z6)/\(type_of% @Jw)/\(type_of% @Jy)/\(type_of% @Qq)/\(type_of% @Qs)/\(type_of% @Qt)/\(type_of% @Qu)/\(type_of% @Qw):=⟨@QU,@QV,@QW,@QX,@List.set_cons_zero.{0},@List.set_cons_succ.{0},@R.bO,@R.lP,@R.Jk,@QA,@QB,@QC,@z6,@Jw,@Jy,@Qq,@Qs,@Qt,@Qu,@Qw⟩
theorem aI:(type_of% @Qx)/\(type_of% @Qy)/\(type_of% @Qz)/\(type_of% @JA)/\(type_of% @EJ)/\(type_of% @JB)/\(type_of% @JC)/\(type_of% @QD)/\(type_of% @QE)/\(type_of% @QF)/\(type_of% @Xd)/\(type_of% @Xe)/\(type_of% @Xf)/\(type_of% @Xg)/\(type_of% @Xh)/\(type_of% @EK)/\(type_of% @EL)/\(type_of% @BF)/\(type_of% @QK)/\(type_of% @QL):=⟨@Qx,@Qy,@Qz,@JA,@EJ,@JB,@JC,@QD,@QE,@QF,@Xd,@Xe,@Xf,@Xg,@Xh,@EK,@EL,@BF,@QK,@QL⟩
theorem aJ:(type_of% @QM)/\(type_of% @QN)/\(type_of% @EO)/\(type_of% @QY)/\(type_of% @QZ)/\(type_of% @Q0)/\(type_of% @Q1)/\(type_of% @Q2)/\(type_of% @Q3):=⟨@QM,@QN,@EO,@QY,@QZ,@Q0,@Q1,@Q2,@Q3⟩
section
variable{X:Cx}{E:Str->Hp->Prop}{pos:Pos}
theorem Xi{st:Stmt}:PS X st (tS X.K E λ_=>.bad):=λpins s σ H De I ⟨g,env,os,r,m⟩=>m.elim
end
theorem Om:BD .non .non=some (.bl false):=rfl
def Kep(fs xs:List Addr)(h h':Heap):Prop:=∀b o,h.get? b=some o->b∉xs->(b∉fs->h'.get? b=some o)/\∃sl,h'.get? b=some {o with slots:=sl}
structure Exc(h:Heap)(e T C:Addr)(fl:Value):Prop where
 at_:∃vs,h.get? e=some {cls:=.ref C,data:=.fields vs}/\vs[1]?=some (.ref T)
 ne:T≠e
 tb:∃oT ts,h.get? T=some oT/\oT.data=.fields ts/\ts[3]?=some fl
section
variable{P:Program}{w:World}{H H':Hp}{h h1 h2:Heap}{fs fs' xs:List Addr}
noncomputable def CXF(P:Program)(w:World):Ie:=λouter H s E ev s'=>∃e T C H',ev=.ref e/\Exc s'.heap e T C .none/\s.heap.get? e=none/\s.heap.get? T=none/\H' e=none/\H' T=none/\s'.os=s.os/\AllBare s'.gens/\
 Un (CL outer) [] H H' s.heap s'.heap/\qR P w H' s'.heap/\E (.ref C) none H'
end
def xcK(K:PySem.W.Frag)(n:Str):Value:=match nsIn K mainGlobals n with
 |some (some v)=>v
 |_=>.none
section
variable{P:Program}{w:World}{K:PySem.W.Frag}{mg:Str->Option Value}{base:Heap}{N:List Str}{qual:Str}{scope:Scope}{f:Addr}{cd:Value}{A:Around}{outer:List Env}{s:Shared}{H:Hp}{E:XK}
abbrev EW(K:PySem.W.Frag)(E:XK):Str->Hp->Prop:=λn H'=>E (xcK K n) none H'
end
abbrev OkX(P:Program)(w:World)(K:PySem.W.Frag)(mg:Str->Option Value)(base:Heap)(k:Nat)(f:Addr)(fd:FuncData)(ps:List Str)(m:List D->R D):Prop:=cO P w K mg base (CXF P w) k f fd ps (EC K (xcK K) m)
abbrev afr(P:Program)(w:World)(K:PySem.W.Frag)(mg:Str->Option Value)(base:Heap)(k:Nat)(f:Addr)(fd:FuncData)(ps:List Str)(m:List D->R (List D)):Prop:=cO P w K mg base (CXF P w) k f fd ps (MJ K (xcK K) m)
section
variable{P:Program}{w:World}{K:PySem.W.Frag}{mg:Str->Option Value}{base:Heap}
variable{x:Str}{st:Stmt}{f:Addr}{fd:FuncData}{N ps:List Str}{k:Nat}{b:DE->R Out}
variable(S:aC N ps (ae st))(d:Df K mg x st ps f fd)
  (hb:∀(cdv:Value)(A:Around)(outer:List Env)(s:Shared)(H:Hp)(E:XK),bh k (A.deeper (envOfC x (ae st) s.heap.objs.size f cdv))->q8 (qT (CXF P w) P w K mg base N x (ae st) f cdv A outer s H E) (bM st) (tS K (EW K E) b))
include S d hb
end
abbrev YQ(X:Cx)(e:Addr):Cx:={X with A:=X.A.mark (some (.ref e)),calm:=false,xe:=λ_ _=>False}
section
variable{X:Cx}{E:Str->Hp->Prop}{pos:Pos}
def Oo(i j:Nat)(env:DE):List D->R Out
 |[a,b]=>.ok (.nx ((env.set i (.val a)).set j (.val b)))
 |_=>.bad
theorem aaT(i j:Nat){x y:Str}{a b:Expr}{f:DE->R (List D)}{px py pt:Pos}{kt k2 So}(hc:X.calm=true)(hN:X.N.Nodup)(ha:PA X [a,b] (Ih X.K E f))(hi:X.N[i]?=some x:=by rfl)(hj:X.N[j]?=some y:=by rfl)(hij:i≠j:=by decide)
  (hx:X.env.scope.names.lookup x=some .local:=by rfl)(hy:X.env.scope.names.lookup y=some .local:=by rfl)
  (hw:swappedStores [.Tuple [.Name x px,.Name y py] kt pt] (.Tuple [a,b] k2 So) X.env=pure (some [x,y]):=by rfl)
  (hs:swapsWithSole [.Tuple [.Name x px,.Name y py] kt pt] (.Tuple [a,b] k2 So) pos.line X.env=pure false:=by rfl):
  PS X (.Assign [.Tuple [.Name x px,.Name y py] kt pt] (.Tuple [a,b] k2 So) pos) (tS X.K E λenv=>(f env).bind (Oo i j env)):=
 pK (Sn hc hN hi hj hij hx hy ha hw hs) λDe σ H ⟨g,env,os,r,m⟩=>⟨g,env,os,r,m.bind.mono λds _ q vs H' s h=>by
  unfold Oo at q
  split at q
  ·rename_i a b
   obtain⟨v,w,rfl,h1,h2⟩:=IsL.NT h
   exact⟨v,w,rfl,q _ H' os (((r.same s).set i h1).set j h2) (.same s os)⟩
  ·exact q.elim⟩
end
theorem jn{K:PySem.W.Frag}{P:Addr->Prop}{H:Hp}:∀{ns:List Int}{vs:List V},IsL K P H (aM ns) vs->vs=ns.map V.int
 |[],_,h=>h
 |n::ns,_,⟨v,r,e,p,q⟩=>by
  have p':v=.int n:=p
  rw[e,p',jn q];rfl
def zh(xs:List D):Option D:=(Ik xs).map λns=>.int ns.sum
theorem TV:bootBuiltins "sum"=some (.builtin "sum"):=by decide +kernel
section
variable{X:Cx}{E:Str->Hp->Prop}{pos:Pos}
theorem Xj{p:Pos}{a:Expr}{f:DE->R (List D)}(hc:X.calm=true)(hm:X.mg "sum"=none)(ha:PE X a (tL X.K E f))(hg:Gl X "sum":=by rfl)
  (he:starEach [a] X.env=(false,eval a X.env)::starEach [] X.env:=by rfl)(hpl:(backTo pos (starEach [] X.env)).any (·.1)=false:=by rfl):PE X (.Call (.Name "sum" p) [a] [] pos) (tD X.K E λenv=>(f env).bind λxs=>R.of (zh xs)):=by
 refine imp (kM (r:=λxs H Q=>∃(l:Addr)(ns:List Int),xs=[.ref l]/\dG X.K H l (ns.map V.int)/\Q (.int ns.sum) H) ?_ hg hm TV (aD ha aP he) (by decide) (by decide) he hpl) λσ H Q ⟨g,env,os,r,m⟩=>⟨g,env,os,r,m.bind.mono λxs _ q l vs H' s hl i=>?_⟩
 ·intro pins s σ H xs us Q I r h
  obtain⟨l,ns,rfl,hl,q⟩:=h
  obtain⟨u,rfl,ru⟩:=vals1 r
  have e:u=.ref l:=ru
  subst e
  obtain⟨its,rv,pl,hz⟩:=I.list hl
  have ia:=intsAre_of rv
  obtain⟨ys,hx⟩:=ia.allInts.items
  have JF:s.heap.IsList l (intItems ys):=hx▸pl.isList
  have hh:X.A.handled=none:=I.ok.hd hc
  have e1:ns=ys.toList.map (·.1):=by
   rw[<-nums_intItems,<-hx]
   exact(show numsOf its.toArray.toList=ns from ia.numsOf).symm
  refine sum_intListG hh JF λh' tk t' hk=>?_
  have e2:preSum (numAt ys) ys.size=ns.sum:=by
   rw[preSum_eq,take_of_length_le (by simp),e1]
  rw[e2]
  exact⟨.int _,H,I.kept (s:=s) (t':=tk) hk,⟨_,rfl⟩,q⟩
 ·obtain⟨d,e,q2⟩:=q.of
  unfold zh at e
  cases z:Ik xs with
  |none=>rw[z]at e;cases e
  |some ns=>
   rw[z]at e
   have ex:=Dn z
   subst ex
   have ev:=jn i
   subst ev
   cases e
   exact⟨l,ns,rfl,hl,q2 _ H' s rfl⟩
end
def JG(lo c:Int)(n:Nat):List D:=(range n).map λi=>.int (lo+(i:Nat)*c)
abbrev RC(a b c:Int):Prop:= -1000000<=a/\a<=1000000/\ -1000000<=b/\b<=1000000/\c≠0/\ -1000000<=c/\c<=1000000
def JH:List D->R (List D)
 |[.int a,.int b,.int c]=> @ite _ (RC a b c) (propDecidable _) (.ok (JG a c (Builtin.Range.rangeSize a b c).toNat)) .bad
 |_=>.bad
theorem se{a b c:Int}(h:RC a b c):0<=Builtin.Range.rangeSize a b c/\Builtin.Range.rangeSize a b c<=2000000:=by
 unfold Builtin.Range.rangeSize
 have e:∀x y:Int,0<=x->x<2000000->1<=y->0<=x/y/\x/y<2000000:=λx y h1 h2 h3=>⟨Int.ediv_nonneg h1 (by lia),Int.lt_of_le_of_lt (Int.ediv_le_self _ h1) h2⟩
 split
 ·split
  ·have:=e (b-a-1) c (by lia) (by lia) (by lia)
   lia
  ·lia
 ·split
  ·have:=e (a-b-1) (-c) (by lia) (by lia) (by lia)
   lia
  ·lia
theorem Oq{a b c:Int}(h:RC a b c):Builtin.Range.small a b c=true:=by
 have hs:=se h
 unfold Builtin.Range.small
 simp only [Builtin.Range.rangeFitsLong,and_eq_true,or_eq_true,decide_eq_true_eq,beq_iff_eq]
 refine⟨by lia,.inr ?_⟩
 split<;>simp only [and_eq_true,decide_eq_true_eq]<;>lia
section
variable{X:Cx}{E:Str->Hp->Prop}{pos:Pos}{tg:Expr}
theorem IsL.TX {K:PySem.W.Frag}{P:Addr->Prop}{H:Hp}{d d2 d3:D}{vs:List V}(h:IsL K P H [d,d2,d3] vs):∃v w z,vs=[v,w,z]/\Is K P H d v/\Is K P H d2 w/\Is K P H d3 z:=by
 obtain⟨v,r,rfl,p,q⟩:=h
 obtain⟨w,z,rfl,p2,p3⟩:=IsL.NT q
 exact⟨v,w,z,rfl,p,p2,p3⟩
theorem vals3{x y z:V}{us:List Value}(r:Vals [x,y,z] us):∃u v w,us=[u,v,w]/\RelV x u/\RelV y v/\RelV z w:=by
 cases r with
 |cons p q=>
  obtain⟨v,w,rfl,p2,p3⟩:=vals2 q
  exact⟨_,v,w,rfl,p,p2,p3⟩
theorem Ot{K:PySem.W.Frag}{P:Addr->Prop}{H:Hp}{lo c:Int}{n:Nat}:IsL K P H (JG lo c n) ((range n).map λi=>V.int (lo+(i:Nat)*c)):=by
 unfold JG
 induction (range n)with
 |nil=>rfl
 |cons x r ih=>exact⟨_,_,rfl,rfl,ih⟩
theorem xu{acc:List Value}{lo c:Int}{n:Nat}(h1:acc.length=n)(h2:∀(j:Nat)(v:Value),acc[j]?=some v->∃t,v=.int (lo+(j:Nat)*c) t):Vals ((range n).map λi=>V.int (lo+(i:Nat)*c)) acc:=by
 have gen:∀(l:List Value)(k:Nat),(∀(j:Nat)(v:Value),l[j]?=some v->∃t,v=.int (lo+((k+j:Nat):Int)*c) t)->Vals ((range' k l.length).map λi=>V.int (lo+(i:Nat)*c)) l:=by
  intro l
  induction l with
  |nil=>intro k _;exact .nil
  |cons x r ih=>
   intro k hk
   rw[length_cons,List.range'_succ,map_cons]
   refine .cons ?_ (ih (k+1) λj v e=>?_)
   ·obtain⟨t,e⟩:=hk 0 x (by simp)
    exact⟨t,e⟩
   ·obtain⟨t,e⟩:=hk (j+1) v (by simpa using e)
    exact⟨t,by rw[e,show k+(j+1)=k+1+j by lia]⟩
 subst h1
 rw[List.range_eq_range']
 exact gen acc 0 λj v e=>by
  obtain⟨t,q⟩:=h2 j v e
  exact⟨t,by rw[q,Nat.zero_add]⟩
theorem Ou{a b c:Expr}{p p2 yK:Pos}{f:DE->R (List D)}(hc:X.calm=true)(Oc:X.mg "list"=none)(hmr:X.mg "range"=none)(ha:PA X [a,b,c] (uu X.K E f))(hgl:Gl X "list":=by rfl)(hgr:Gl X "range":=by rfl)
  (hs:starEach [a,b,c] X.env=(false,eval a X.env)::starEach [b,c] X.env:=by rfl)(aaU:(backTo yK (starEach [b,c] X.env)).any (·.1)=false:=by rfl)(he:starEach [.Call (.Name "range" p2) [a,b,c] [] yK] X.env=(false,eval (.Call (.Name "range" p2) [a,b,c] [] yK) X.env)::starEach [] X.env:=by rfl)(hpl:(backTo pos (starEach [] X.env)).any (·.1)=false:=by rfl):
  PE X (.Call (.Name "list" p) [.Call (.Name "range" p2) [a,b,c] [] yK] [] pos) (tF X.K E λenv=>(f env).bind JH):=by
 intro pins s σ H Q I h
 obtain⟨g,env,os,r,m⟩:=h
 refine wpAny_Call_Name_kw (kJ I hgl Oc wA ?_)
 refine PyProof.Rows.callWith_type1 ?_ he hpl
 rw[he]
 refine Calls.spliced_cons ?_
 refine Call_ (kJ I hgr hmr BE (PyProof.Rows.callWith_type1 (cM (ha yK pins s σ H _ I ⟨g,env,os,r,m.bind.mono λds _ q vs H1 s1 i1=>(⟨ds,s1,i1,q⟩:∃ds,aO H H1/\IsL X.K Tr H1 ds vs/\Good E g.H₀ (JH ds) _)⟩) λus s1 ⟨vs,H1,I1,r1,ds,sm,i1,q⟩=>?_) hs aaU))
 unfold JH at q
 split at q
 ·rename_i x y z
  split at q
  ·rename_i h
   obtain⟨v1,v2,v3,rfl,k1,k2,k3⟩:=IsL.TX i1
   have YN:v1=.int x:=k1
   have k2':v2=.int y:=k2
   have k3':v3=.int z:=k3
   subst YN k2' k3'
   obtain⟨u1,u2,u3,rfl,⟨t1,rfl⟩,⟨t2,rfl⟩,⟨t3,rfl⟩⟩:=vals3 r1
   refine call_range_3 h.2.2.2.2.1 ?_ (.inl (PyProof.noPylong_small (by lia)))
   have I2:Inv X pins σ H1 {s1 with heap:=s1.heap.push {cls:=.type "range",data:=.fields #[.int x t1,.int y t2,.int z t3]},toks:=s1.toks}:=I1.kept λb o e=>Heap.get?_push_of_some _ e
   refine Calls.spliced_nil ?_
   have hd:X.A.handled=none:=I.ok.hd hc
   have hn2:=se h
   have hsz:Builtin.Range.rangeSize x y z=((Builtin.Range.rangeSize x y z).toNat:Nat):=by lia
   refine call_list_range hd (IsRange.new ..) (Oq h) hsz (by lia) λh' tk Jv c' hk hl hit=>?_
   obtain⟨hi1,hi2⟩:=hit
   have hv:Vals ((range (Builtin.Range.rangeSize x y z).toNat).map λi=>V.int (x+(i:Nat)*z)) Jv.toList:=xu (by simpa using hi1) λi v e=>hi2 i v (by simpa using e)
   have hlen:((range (Builtin.Range.rangeSize x y z).toNat).map λi=>V.int (x+(i:Nat)*z)).length<=sizeLine:=by
    rw[length_map,length_range]
    exact le_trans (show(Builtin.Range.rangeSize x y z).toNat<=2000000 by lia) (by decide)
   refine⟨.ref _,upd H1 _ (.lst ((range (Builtin.Range.rangeSize x y z).toNat).map λi=>V.int (x+(i:Nat)*z))),I2.laid (a:=_) hk (Nat.le_refl _) ⟨hlen,Jv.toList,c',hv,by simpa using hl⟩,rfl,?_⟩
   have hn:H1 (s1.heap.push {cls:=.type "range",data:=.fields #[.int x t1,.int y t2,.int z t3]}).objs.size=none:=I2.hok.fresh (Nat.le_refl _)
   exact q _ _ _ (sm.trans (aQ hn _)) (sm.free hn) au Ot
  ·exact q.elim
 ·exact q.elim
end
def cl2(X:Cx)(scope:Scope)(C:Addr):List (Str×Addr):=cellsFrom (C+1) scope.names (AS X.env.cells scope.names [])
noncomputable def adk(X:Cx)(scope:Scope)(N:List Str)(s:Shared)(H:Hp)(fp:List Addr)(C:Addr)(pl:List (Addr×Obj)):Cx where
 prog:=X.prog
 w:=X.w
 K:=X.K
 mg:=X.mg
 base:=X.base
 A:=X.A
 N:=N
 s₀:=s
 H₀:=H
 env:=compEnvC scope (cl2 X scope C) C X.env
 outer:=X.stack
 stack:=X.stack
 ex:=fp
 fn:=λx=>scope.names.lookup x==some NameKind.cell
 calm:=X.calm
 pn:=pl
 xe:=λ_ _=>False
structure Xk(X:Cx)(scope:Scope)(N:List Str)(nt:Nat)(caps:List Nat):Prop where
 kind:scope.kind=.function
 apart:∀x,scope.names.lookup x=some .free->(x,NameKind.cell)∉scope.names
 names:∀y∈scope.names,y.2=.local->scope.names.lookup y.1=some .local
 free:∀y∈scope.names,y.2=.free->X.env.kindOf y.1=some .cell\/X.env.kindOf y.1=some .free
 len:N.length=nt+caps.length
 nd:N.Nodup
 caps:∀(j i:Nat),caps[j]?=some i->∃x,N[nt+j]?=some x/\X.N[i]?=some x/\scope.names.lookup x=some .free/\yZ X.env.scope x
section
variable{K:PySem.W.Frag}{g:Gh}{env:DE}{σ:St}{H H':Hp}{os:List Addr}
theorem lT{α:Type}{l:List α}{i j:Nat}{x y:α}(e:(l.set i x)[j]?=some y)(h:y≠x):i≠j/\l[j]?=some y:=by
 by_cases hj:i=j
 ·subst hj
  exact(h (bz e)).elim
 ·rw[getElem?_set_ne hj]at e
  exact⟨hj,e⟩
theorem lU:∀{a b:List Addr},a.map V.ref=b.map V.ref->a=b
 |[],[],_=>rfl
 |[],_::_,h=>by cases h
 |_::_,[],h=>by cases h
 |x::a,y::b,h=>by
  injection h with h1 h2
  injection h1 with h1
  rw[h1,lU h2]
theorem Rel.TY (r:Rel K g env σ H os){l:List Addr}(s:aO H H')(hn:∀a∈l,H a=none):Ext (g.P os) (g.P (l++os)) H H':=
 ⟨λb o p e=>⟨p.1,λhm=>by
  rcases mem_append.mp hm with z|z
  ·rw[hn b z]at e;cases e
  ·exact p.2 z⟩,λb o _ e=>s b o e⟩
theorem Rel.aaV (r:Rel K g env σ H os)(s:aO H H')(i:Nat){nss:List (List Int)}{a:Addr}{as:List Addr}(hn:∀b∈a::as,H b=none)(nd:(a::as).Nodup)(hl:as.length=nss.length)(hH:H' a=some (.lst (as.map V.ref)))
  (hi:∀(k:Nat)(b:Addr)(ns:List Int),as[k]?=some b->nss[k]?=some ns->H' b=some (.lst (ns.map V.int))):
  Rel K g (env.set i (.deep nss)) (σ.set i (some (.ref a))) H' ((a::as)++os):=by
 have ap:=r.TY s hn
 have f:∀(j:Nat)(sl:Sl),(env.set i (Sl.deep nss))[j]?=some sl->sl≠.deep nss->i≠j/\env[j]?=some sl:=λj sl q hn=>lT q hn
 have dp:Dp H' ((a::as)++os) a as nss:=⟨by simp,hH,hl,nd,λk b ns e1 e2=>⟨mem_append_left _ (mem_cons_of_mem _ (mem_of_getElem? e1)),hi k b ns e1 e2⟩⟩
 have hnew:∀x∈a::as,x∉os:=λx hx hm=>by
  obtain⟨o,ho⟩:=(r.new x hm).2
  rw[hn x hx]at ho
  cases ho
 refine⟨by simp[r.len],r.ext.trans s,λj d q=>?_,λj xs q=>?_,λj k xs ys b q1 q2 q3 q4=>?_,λb hb=>?_,λj v q=>?_,?_⟩
 ·obtain⟨hj,q⟩:=f j _ q (λz=>nomatch z)
  obtain⟨v,h1,h2⟩:=r.val j d q
  exact⟨v,by rw[getElem?_set_ne hj];exact h1,Is.ext ap _ _ h2⟩
 ·obtain⟨hj,q⟩:=f j _ q (λz=>nomatch z)
  obtain⟨b,vs,h1,h2,h3,h4⟩:=r.own j xs q
  exact⟨b,vs,by rw[getElem?_set_ne hj];exact h1,mem_append_right _ h2,s _ _ h3,IsL.ext ap _ _ h4⟩
 ·obtain⟨hj,q1⟩:=f j _ q1 (λz=>nomatch z)
  obtain⟨hk,q2⟩:=f k _ q2 (λz=>nomatch z)
  rw[getElem?_set_ne hj]at q3
  rw[getElem?_set_ne hk]at q4
  exact r.inj j k xs ys b q1 q2 q3 q4
 ·rcases mem_append.mp hb with z|z
  ·exact⟨r.ext.free (hn b z),(dp.mem b z).2⟩
  ·obtain⟨h1,o,h2⟩:=r.new b z
   exact⟨h1,o,s _ _ h2⟩
 ·obtain⟨hj,q⟩:=f j _ q (λz=>nomatch z)
  rw[getElem?_set_ne hj]
  exact r.raw j v q
 ·obtain⟨A,dd⟩:=r.I9
  refine⟨λj=>if j=i then a::as else A j,λj rf q=>?_,λj rf k xs b q1 q2 q3=>?_,λj k rf TZ hjk q1 q2 x hx=>?_⟩
  ·by_cases hj:j=i
   ·subst hj
    have z:=bz q
    cases z
    exact⟨a,as,if_pos rfl,by rw[getElem?_set_self (by rw[r.len];exact zd q)],dp⟩
   ·have q':=q
    rw[getElem?_set_ne (Ne.symm hj)]at q'
    obtain⟨b,bs,h1,h2,h3⟩:=dd.dp j rf q'
    refine⟨b,bs,by rw[if_neg hj];exact h1,by rw[getElem?_set_ne (Ne.symm hj)];exact h2,h3.to λx hx=>?_⟩
    obtain⟨z1,o,z2⟩:=h3.mem x hx
    exact⟨mem_append_right _ z1,by rw[s x o z2,z2]⟩
  ·obtain⟨hk,q2⟩:=f k _ q2 (λz=>nomatch z)
   rw[getElem?_set_ne hk]at q3
   show b∉if j=i then a::as else A j
   by_cases hj:j=i
   ·rw[if_pos hj]
    obtain⟨c,vs,h1,h2,_⟩:=r.own k xs q2
    rw[q3]at h1
    cases h1
    exact λz=>hnew b z h2
   ·rw[if_neg hj]
    rw[getElem?_set_ne (Ne.symm hj)]at q1
    exact dd.ow j rf k xs b q1 q2 q3
  ·show x∉if k=i then a::as else A k
   have CY:x∈if j=i then a::as else A j:=hx
   by_cases hj:j=i
   ·have hk:k≠i:=λz=>hjk (by rw[hj,z])
    rw[if_pos hj]at CY
    rw[if_neg hk]
    rw[getElem?_set_ne (Ne.symm hk)]at q2
    exact λz=>hnew x CY (dd.mem q2 x z).1
   ·rw[if_neg hj]at CY
    rw[getElem?_set_ne (Ne.symm hj)]at q1
    by_cases hk:k=i
    ·rw[if_pos hk]
     exact λz=>hnew x z (dd.mem q1 x CY).1
    ·rw[if_neg hk]
     rw[getElem?_set_ne (Ne.symm hk)]at q2
     exact dd.dj j k rf TZ hjk q1 q2 x CY
theorem Rel.aaW (r:Rel K g env σ H os){i:Nat}{nss:List (List Int)}(e:env[i]?=some (.deep nss)){a:Addr}{as:List Addr}(hσ:σ[i]?=some (some (.ref a)))(ha:H a=some (.lst (as.map V.ref))){k:Nat}{b:Addr}{ns:List Int}(hk:as[k]?=some b)(hns:k<nss.length)(Xl:List Int):
  b∈os/\Rel K g (env.set i (.deep (nss.set k Xl))) σ (upd H b (.lst (Xl.map V.int))) os:=by
 obtain⟨A,dd⟩:=r.I9
 obtain⟨a0,yu,hA,h1,h3⟩:=dd.dp i nss e
 rw[hσ]at h1
 cases h1
 have has:yu=as:=by
  have z:=h3.ha
  rw[ha]at z
  have z2:as.map V.ref=yu.map V.ref:=by injection z with z;injection z
  exact(lU z2).symm
 subst has
 have rH:b∈os:=(h3.it k b nss[k] hk (getElem?_eq_getElem hns)).1
 have Xm:b∈A i:=by rw[hA];exact mem_cons_of_mem _ (mem_of_getElem? hk)
 refine⟨rH,?_⟩
 have ex:Ext (g.P os) (g.P os) H (upd H b (.lst (Xl.map V.int))):=⟨λ_ _ p _=>p,λc o p q=>by rw[aj (λz=>p.2 (by rw[z];exact rH))];exact q⟩
 have f:∀(j:Nat)(sl:Sl),(env.set i (Sl.deep (nss.set k Xl)))[j]?=some sl->sl≠.deep (nss.set k Xl)->i≠j/\env[j]?=some sl:=λj sl q hn=>lT q hn
 have hba:b≠a:=λz=>(nodup_cons.mp h3.nd).1 (by rw[<-z];exact mem_of_getElem? hk)
 refine⟨by simp[r.len],λc o q=>?_,λj d q=>?_,λj xs q=>?_,λj k xs ys c q1 q2 q3 q4=>?_,λc hc=>?_,λj v q=>?_,?_⟩
 ·rw[aj (λz=>by rw[z,(r.new b rH).1]at q;cases q)]
  exact r.ext c o q
 ·obtain⟨hj,q⟩:=f j _ q (λz=>nomatch z)
  obtain⟨v,h1,h2⟩:=r.val j d q
  exact⟨v,h1,Is.ext ex _ _ h2⟩
 ·obtain⟨hj,q⟩:=f j _ q (λz=>nomatch z)
  obtain⟨c,vs,h1,h2,Xn,h4⟩:=r.own j xs q
  have hcb:c≠b:=λz=>dd.ow i nss j xs c e q h1 (by rw[z];exact Xm)
  exact⟨c,vs,h1,h2,by rw[aj hcb];exact Xn,IsL.ext ex _ _ h4⟩
 ·obtain⟨hj,q1⟩:=f j _ q1 (λz=>nomatch z)
  obtain⟨hk,q2⟩:=f k _ q2 (λz=>nomatch z)
  exact r.inj j k xs ys c q1 q2 q3 q4
 ·obtain⟨z1,o,z2⟩:=r.new c hc
  refine⟨z1,?_⟩
  by_cases z:c=b
  ·exact⟨_,by rw[z];exact au⟩
  ·exact⟨o,by rw[aj z];exact z2⟩
 ·obtain⟨hj,q⟩:=f j _ q (λz=>nomatch z)
  exact r.raw j v q
 ·have h3k:∀(m:Nat),yu[m]?=some b->m=k:=λm hm=>by
   have aaZ:=(nodup_cons.mp h3.nd).2
   have hm1:=(List.getElem?_eq_some_iff.mp hm).1
   have hk1:=(List.getElem?_eq_some_iff.mp hk).1
   exact(List.getElem_inj aaZ).mp (by rw[(List.getElem?_eq_some_iff.mp hm).2,(List.getElem?_eq_some_iff.mp hk).2])
  refine⟨A,λj rf q=>?_,λj rf m xs c q1 q2 q3=>?_,λj m rf TZ VD q1 q2 x hx=>?_⟩
  ·by_cases hj:i=j
   ·subst hj
    have z:=bz q
    cases z
    refine⟨a,yu,hA,hσ,h3.ma,by rw[aj (Ne.symm hba)];exact h3.ha,by rw[length_set];exact h3.len,h3.nd,λm c ms e1 e2=>?_⟩
    by_cases hm:c=b
    ·subst hm
     have hmk:=h3k m e1
     subst hmk
     rw[getElem?_set_self hns]at e2
     cases e2
     exact⟨rH,au⟩
    ·have hmk:k≠m:=λz=>hm (by rw[z]at hk;rw[hk]at e1;cases e1;rfl)
     rw[getElem?_set_ne hmk]at e2
     rw[aj hm]
     exact h3.it m c ms e1 e2
   ·rw[getElem?_set_ne hj]at q
    obtain⟨c,cs,z1,z2,z3⟩:=dd.dp j rf q
    refine⟨c,cs,z1,z2,z3.to λx hx=>?_⟩
    have hxb:x≠b:=λz=>dd.dj i j nss rf hj e q b Xm (by rw[z1,<-z];exact hx)
    exact⟨(z3.mem x hx).1,aj hxb⟩
  ·obtain⟨_,q2⟩:=f m _ q2 (λz=>nomatch z)
   by_cases hj:i=j
   ·subst hj
    exact dd.ow i nss m xs c e q2 q3
   ·rw[getElem?_set_ne hj]at q1
    exact dd.ow j rf m xs c q1 q2 q3
  ·have p1:∃ms,env[j]?=some (.deep ms):=by
    by_cases hj:i=j
    ·subst hj;exact⟨nss,e⟩
    ·rw[getElem?_set_ne hj]at q1;exact⟨rf,q1⟩
   have p2:∃ms,env[m]?=some (.deep ms):=by
    by_cases hj:i=m
    ·subst hj;exact⟨nss,e⟩
    ·rw[getElem?_set_ne hj]at q2;exact⟨TZ,q2⟩
   obtain⟨m1,p1⟩:=p1
   obtain⟨m2,p2⟩:=p2
   exact dd.dj j m m1 m2 VD p1 p2 x hx
end
section
variable{X:Cx}{E:Str->Hp->Prop}{pos:Pos}
noncomputable def tFr(K:PySem.W.Frag)(E:Str->Hp->Prop)(f:DE->R (List (List Int))):TA:=λσ H Q=>∃g env os,Rel K g env σ H os/\Good E g.H₀ (f env) λnss=>∀(as:List Addr)(H':Hp),aO H H'->(∀b∈as,H b=none)->as.Nodup->as.length=nss.length->
 (∀(k:Nat)(b:Addr)(ns:List Int),as[k]?=some b->nss[k]?=some ns->H' b=some (.lst (ns.map V.int)))->Q (as.map V.ref) H'
theorem Q4:PA X [] (tFr X.K E λ_=>.ok []):=Jb aP λσ H Q ⟨g,env,os,r,m⟩=>m [] H (aO.refl H) (λ_ z=>nomatch z) .nil rfl (λ_ _ _ z=>by simp at z)
theorem Q5(i:Nat){x:Str}{es:List Expr}{f:DE->R (List (List Int))}{pos' p:Pos}(he:PA X es (tFr X.K E f))(hN:X.N.Nodup)(hi:X.N[i]?=some x:=by rfl)(hx:Loc X.env.scope x:=by first|exact Or.inl rfl|exact Or.inr rfl)(hs:swapsWith (.List es p) (some (.Name x pos')) pos.line X.env=pure false:=by rfl)
  (hf:X.fn x=true\/X.env.scope.names.lookup x=some .local:=by first|exact .inl rfl|exact .inr rfl|assumption):PS X (.Assign [.Name x pos'] (.List es p) pos) (tS X.K E λenv=>(f env).bind λnss=>(fit nss).bind λnss=>.ok (.nx (env.set i (.deep nss)))):=
 pK (dO hN hi hx (um he) hs hf) λDe σ H ⟨g,env,os,r,m⟩=>⟨g,env,os,r,m.bind.mono λnss _ m1 as H1 s1 hn nd hl hc=>by
  obtain⟨hz,q⟩:=m1.bind.fit
  refine⟨by rw[length_map,hl];exact hz,λp hp=>?_⟩
  have aa1:p∉as:=λz=>by
   obtain⟨k,hk,rfl⟩:=getElem_of_mem z
   have:=hc k _ _ (getElem?_eq_getElem hk) (getElem?_eq_getElem (by rw[<-hl];exact hk))
   rw[hp]at this
   cases this
  have sp:=aQ hp (.lst (as.map V.ref))
  have hnew:∀b∈p::as,H b=none:=λb hb=>by
   rcases mem_cons.mp hb with rfl|hb
   ·exact s1.free hp
   ·exact hn b hb
  have s2:=s1.trans sp
  refine q _ _ ((p::as)++os) (r.aaV s2 i hnew (nodup_cons.mpr ⟨aa1,nd⟩) hl au λk b ns e1 e2=>sp _ _ (hc k b ns e1 e2)) ⟨λb hb=>?_,λb hb=>s2.free hb,λb o _ hb=>s2 b o hb⟩
  rcases mem_append.mp hb with z|z
  ·exact .inr (hnew b z)
  ·exact .inl z⟩
end
def JI:Out->R (List (List Int))
 |.EB nss=>.ok nss
 |_=>.bad
def spT(K:PySem.W.Frag)(m:List D->R (List (List Int))):Sp:=λvs H Q E=>∃P ds,IsL K P H ds vs/\(match m ds with
 |.ok nss=>∀(a:Addr)(as:List Addr)(H':Hp),aO H H'->S5 H H' a as nss->Q (.ref a) H'
 |_=>False)
def mT(n N:Nat)(b:DE->R Out)(ds:List D):R (List (List Int)):=if ds.length=n then((b (aN N ds)).bind JI).ne else .bad
abbrev VE(P:Program)(w:World)(K:PySem.W.Frag)(mg:Str->Option Value)(base:Heap)(k:Nat)(f:Addr)(fd:FuncData)(ps:List Str)(m:List D->R (List (List Int))):Prop:=cO P w K mg base lK k f fd ps (spT K m)
section
variable{P:Program}{w:World}{K:PySem.W.Frag}{mg:Str->Option Value}{base:Heap}
theorem okT{x:Str}{st:Stmt}{f:Addr}{fd:FuncData}{N ps:List Str}{k:Nat}{b:DE->R Out}(S:aC N ps (ae st))(d:Df K mg x st ps f fd)
  (hb:∀(cdv:Value)(A:Around)(outer:List Env)(s:Shared)(H:Hp)(E:XK),bh k (A.deeper (envOfC x (ae st) s.heap.objs.size f cdv))->q8 (qT lK P w K mg base N x (ae st) f cdv A outer s H E).GG (bM st) (tS K EN b)):
  VE P w K mg base (k+1) f fd ps (mT ps.length N.length b):=by
 refine d.F.ok S (λvs H Q E h=>?_) (λcdv A outer s H vs Q E hr h=>?_)
 ·obtain⟨Pa,ds,i,h⟩:=h
  cases e:mT ps.length N.length b ds with
  |ok nss=>
   rw[i.length]
   unfold mT at e
   split at e
   ·assumption
   ·cases e
  |err c=>rw[e]at h;exact h.elim
  |bad=>rw[e]at h;exact h.elim
 ·obtain⟨Pa,ds,i,h⟩:=h
  refine⟨_,hb cdv A outer s H E hr,⟨⟨Pa,H⟩,aN N.length ds,[],uy i,?_⟩⟩
  cases e:mT ps.length N.length b ds with
  |err c=>rw[e]at h;exact h.elim
  |bad=>rw[e]at h;exact h.elim
  |ok nss=>
   rw[e]at h
   unfold mT at e
   split at e
   ·have q:=R.bX e
    cases eb:b (aN N.length ds)with
    |bad=>rw[eb]at q;cases q
    |err c=>rw[eb]at q;cases q
    |ok o=>
     rw[eb]at q
     cases o with
     |EB rf=>
      cases q
      exact λa as H' s' nd=>h a as H' s' nd
     |NN _=>cases q
     |MI _=>cases q
     |NK _=>cases q
     |ph _=>cases q
     |rt _=>cases q
     |nx _=>cases q
     |bk _=>cases q
     |ct _=>cases q
   ·cases e
end
section
variable{X:Cx}{E:Str->Hp->Prop}{pos:Pos}
def tDp(K:PySem.W.Frag)(E:Str->Hp->Prop)(f:DE->R (List (List Int))):TE:=λσ H Q=>∃g env os,Rel K g env σ H os/\Good E g.H₀ (f env) λnss=>∀(a:Addr)(as:List Addr)(H':Hp),aO H H'->S5 H H' a as nss->Q (.ref a) H'
theorem fT1{x:Str}{st:Stmt}{ps:List Str}{fa:Addr}{fd:FuncData}{k:Nat}{p:Pos}{e:Expr}{es:List Expr}{f:DE->R (List D)}{m:List D->R (List (List Int))}(d:Df X.K X.mg x st ps fa fd)(F:VE X.prog X.w X.K X.mg X.base k fa fd ps m)(hr:bh k X.A)
  (ha:PA X (e::es) (uu X.K E f))(hg:Gl X x:=by rfl)(hdb:(x==("__debug__":Str))=false:=by decide)(he:starEach (e::es) X.env=(false,eval e X.env)::starEach es X.env:=by rfl)(hpl:(backTo pos (starEach es X.env)).any (·.1)=false:=by rfl):
  PE X (.Call (.Name x p) (e::es) [] pos) (tDp X.K E λenv=>((f env).bind m).ne):=
 imp (fq (E:=λ_ _ _=>False) F hr hg d.m d.F.kp d.b .nil lR ha hdb he hpl) λσ H Q ⟨g,env,os,r,q⟩=>⟨g,env,os,r,by
  dsimp only at q
  cases ef:f env with
  |bad=>rw[ef]at q;exact q.elim
  |err c=>rw[ef]at q;exact q.elim
  |ok ds=>
   rw[ef]at q
   cases em:m ds with
   |bad=>rw[show((R.ok ds).bind m)=m ds from rfl,em]at q;exact q.elim
   |err c=>rw[show((R.ok ds).bind m)=m ds from rfl,em]at q;exact q.elim
   |ok nss=>
    rw[show((R.ok ds).bind m)=m ds from rfl,em]at q
    intro vs H1 s1 i1
    show spT X.K m (vs++[]) H1 Q _
    rw[append_nil]
    refine⟨_,ds,i1,?_⟩
    rw[em]
    exact λa as H' s' nd=>q a as H' (s1.trans s') (nd.back s1)⟩
def gS(i:Nat)(env:DE):R (List (List Int)):=match env[i]? with
 |some (.deep (.ls nss))=>.ok nss
 |_=>.bad
theorem Good.deep {H₀:Hp}{i:Nat}{env:DE}{p:List (List Int)->Prop}(h:Good E H₀ (gS i env) p):∃nss:List (List Int),env[i]?=some (.deep nss)/\p nss:=by
 unfold gS at h
 split at h
 ·rename_i nss e
  exact⟨nss,e,h⟩
 ·exact h.elim
theorem Q6(i:Nat){x:Str}{p:Pos}(hN:X.N[i]?=some x:=by rfl)(hv:yZ X.env.scope x:=by first|exact Or.inl rfl|exact Or.inr (Or.inl rfl)|exact Or.inr (Or.inr rfl))(hd:(x==("__debug__":Str))=false:=by decide)
  (hcd:(x==("__classdict__":Str))=false:=by decide):PS X (.Return (some (.Name x p)) pos) (tS X.K E λenv=>(gS i env).bind λnss=>.ok (.EB nss)):=
 pK (mB (jP hN hv hd hcd)) λDe σ H ⟨g,env,os,r,m⟩=>by
  obtain⟨nss,e,q⟩:=m.bind.deep
  obtain⟨A,dd⟩:=r.I9
  obtain⟨a,as,hA,h1,h3⟩:=dd.dp i nss e
  exact⟨.ref a,h1,(show i9 X.K g H os De (.EB nss)from q) a as H r.ext ⟨λb hb=>(r.new b (h3.mem b hb).1).1,h3.nd,h3.len,h3.ha,λk b ns e1 e2=>(h3.it k b ns e1 e2).2⟩⟩
end
section
variable{X:Cx}{E:Str->Hp->Prop}{pos:Pos}
theorem Rel.Ab {K:PySem.W.Frag}{g:Gh}{env:DE}{σ:St}{H:Hp}{os:List Addr}(r:Rel K g env σ H os){ix:Nat}{nss:List (List Int)}(e:env[ix]?=some (.deep nss)):∃(a:Addr)(as:List Addr),σ[ix]?=some (some (.ref a))/\H a=some (.lst (as.map V.ref))/\as.length=nss.length/\∀(k:Nat)(ns:List Int),nss[k]?=some ns->∃b,as[k]?=some b/\H b=some (.lst (ns.map V.int)):=by
 obtain⟨A,dd⟩:=r.I9
 obtain⟨a,as,_,h1,h3⟩:=dd.dp ix nss e
 refine⟨a,as,h1,h3.ha,h3.len,λk ns hk=>?_⟩
 have hl:k<as.length:=by rw[h3.len];exact(List.getElem?_eq_some_iff.mp hk).1
 exact⟨as[k],getElem?_eq_getElem hl,(h3.it k _ ns (getElem?_eq_getElem hl) hk).2⟩
def BG(nss:List (List Int)):D->R (Nat×List Int)
 |.int i=>(match rR nss.length i with
  |some k=>(match nss[k]? with
   |some ns=>.ok (k,ns)
   |none=>.bad)
  |none=>.bad)
 |_=>.bad
theorem Good.BG {H₀:Hp}{nss:List (List Int)}{a:D}{p:Nat×List Int->Prop}(h:Good E H₀ (BG nss a) p):∃i k ns,a=.int i/\rR nss.length i=some k/\nss[k]?=some ns/\p (k,ns):=by
 unfold DL.BG at h
 split at h
 ·rename_i i
  split at h
  ·rename_i k hk
   split at h
   ·rename_i ns hns
    exact⟨i,k,ns,rfl,hk,hns,h⟩
   ·exact h.elim
  ·exact h.elim
 ·exact h.elim
theorem T3{α:Type}{xs:List α}{i:Int}{k:Nat}{x:α}(h:rR xs.length i=some k)(hx:xs[k]?=some x):i6 xs i=some x:=by
 unfold L2.i6
 rw[h]
 exact hx
end
section
variable{K:PySem.W.Frag}{g:Gh}{env:DE}{σ:St}{H H1:Hp}{os:List Addr}
theorem Rel.Xo (r:Rel K g env σ H os)(s:aO H H1){i:Nat}{nss:List (List Int)}(e:env[i]?=some (.deep nss)){a b:Addr}{as:List Addr}{ns:List Int}(hσ:σ[i]?=some (some (.ref a)))(ha:H a=some (.lst (as.map V.ref)))(hn:H b=none)(hb:H1 b=some (.lst (ns.map V.int))):
  a∈os/\Rel K g (env.set i (.deep (nss++[ns]))) σ (upd H1 a (.lst (as.map V.ref++[.ref b]))) (b::os):=by
 obtain⟨A,dd⟩:=r.I9
 obtain⟨a0,yu,hA,h1,h3⟩:=dd.dp i nss e
 rw[hσ]at h1
 cases h1
 have has:yu=as:=by
  have z:=h3.ha
  rw[ha]at z
  have z2:as.map V.ref=yu.map V.ref:=by injection z with z;injection z
  exact(lU z2).symm
 subst has
 have rH:a∈os:=h3.ma
 have hnew:b∉os:=λhm=>by
  obtain⟨o,ho⟩:=(r.new b hm).2
  rw[hn]at ho
  cases ho
 have hab:b≠a:=λz=>hnew (by rw[z];exact rH)
 refine⟨rH,?_⟩
 have ex:Ext (g.P os) (g.P (b::os)) H (upd H1 a (.lst (yu.map V.ref++[.ref b]))):=⟨λc o p q=>⟨p.1,λhm=>by
  rcases mem_cons.mp hm with z|z
  ·rw[z,hn]at q;cases q
  ·exact p.2 z⟩,λc o p q=>by rw[aj (λz=>p.2 (by rw[z];exact rH))];exact s c o q⟩
 have f:∀(j:Nat)(sl:Sl),(env.set i (Sl.deep (nss++[ns])))[j]?=some sl->sl≠.deep (nss++[ns])->i≠j/\env[j]?=some sl:=λj sl q hn=>lT q hn
 have keep:∀c∈os,c≠a->∀o,H c=some o->(upd H1 a (.lst (yu.map V.ref++[.ref b]))) c=some o:=λc _ hc o ho=>by rw[aj hc];exact s c o ho
 refine⟨by simp[r.len],λc o q=>?_,λj d q=>?_,λj xs q=>?_,λj k xs ys c q1 q2 q3 q4=>?_,λc hc=>?_,λj v q=>?_,?_⟩
 ·rw[aj (λz=>by rw[z,(r.new a rH).1]at q;cases q)]
  exact s _ _ (r.ext c o q)
 ·obtain⟨hj,q⟩:=f j _ q (λz=>nomatch z)
  obtain⟨v,h1,h2⟩:=r.val j d q
  exact⟨v,h1,Is.ext ex _ _ h2⟩
 ·obtain⟨hj,q⟩:=f j _ q (λz=>nomatch z)
  obtain⟨c,vs,h1,h2,Xn,h4⟩:=r.own j xs q
  have hca:c≠a:=λz=>dd.ow i nss j xs c e q h1 (by rw[z,hA];exact mem_cons_self)
  exact⟨c,vs,h1,mem_cons_of_mem _ h2,keep c h2 hca _ Xn,IsL.ext ex _ _ h4⟩
 ·obtain⟨hj,q1⟩:=f j _ q1 (λz=>nomatch z)
  obtain⟨hk,q2⟩:=f k _ q2 (λz=>nomatch z)
  exact r.inj j k xs ys c q1 q2 q3 q4
 ·rcases mem_cons.mp hc with z|z
  ·rw[z]
   exact⟨r.ext.free hn,_,by rw[aj hab];exact hb⟩
  ·obtain⟨z1,o,z2⟩:=r.new c z
   refine⟨z1,?_⟩
   by_cases w:c=a
   ·exact⟨_,by rw[w];exact au⟩
   ·exact⟨o,keep c z w o z2⟩
 ·obtain⟨hj,q⟩:=f j _ q (λz=>nomatch z)
  exact r.raw j v q
 ·have sub:∀(j':Nat)(y:Addr),(y∈if j'=i then a::(yu++[b])else A j')->y∈A j'\/(j'=i/\y=b):=λj' y hy=>by
   by_cases hj:j'=i
   ·rw[if_pos hj]at hy
    rw[hj,hA]
    rcases mem_cons.mp hy with w|w
    ·rw[w];exact .inl mem_cons_self
    ·rcases mem_append.mp w with w|w
     ·exact .inl (mem_cons_of_mem _ w)
     ·exact .inr ⟨rfl,by simpa using w⟩
   ·rw[if_neg hj]at hy
    exact .inl hy
  have p1:∀(j:Nat)(ms:Ct),(env.set i (Sl.deep (nss++[ns])))[j]?=some (.deep ms)->∃T4,env[j]?=some (.deep T4):=λj ms q=>by
   by_cases hj:i=j
   ·subst hj;exact⟨nss,e⟩
   ·rw[getElem?_set_ne hj]at q;exact⟨ms,q⟩
  refine⟨λj=>if j=i then a::(yu++[b])else A j,λj rf q=>?_,λj rf m xs c q1 q2 q3 hx=>?_,λj m rf TZ VD q1 q2 x hx WS=>?_⟩
  ·by_cases hj:j=i
   ·have q':=q
    rw[hj]at q'
    have z:=bz q'
    cases z
    refine⟨a,yu++[b],if_pos hj,by rw[hj];exact hσ,mem_cons_of_mem _ h3.ma,by rw[map_append];exact au,by rw[length_append,length_append,h3.len];rfl,?_,λm c ms e1 e2=>?_⟩
    ·have aa2:b∉yu:=λz=>hnew (h3.mem b (mem_cons_of_mem _ z)).1
     have nd:=nodup_cons.mp h3.nd
     refine nodup_cons.mpr ⟨λz=>?_,?_⟩
     ·rcases mem_append.mp z with w|w
      ·exact nd.1 w
      ·have:a=b:=by simpa using w
       exact hab this.symm
     ·rw[List.nodup_append]
      refine⟨nd.2,by simp,λx hx y hy=>?_⟩
      have ZY:y=b:=by simpa using hy
      rw[ZY]
      exact λz=>aa2 (by rw[<-z];exact hx)
    ·by_cases hm:m<yu.length
     ·rw[getElem?_append_left hm]at e1
      rw[getElem?_append_left (by rw[<-h3.len];exact hm)]at e2
      obtain⟨w1,w2⟩:=h3.it m c ms e1 e2
      have hca:c≠a:=λz=>(nodup_cons.mp h3.nd).1 (by rw[<-z];exact mem_of_getElem? e1)
      exact⟨mem_cons_of_mem _ w1,keep c w1 hca _ w2⟩
     ·have hk2:m=yu.length:=by
       have:=(List.getElem?_eq_some_iff.mp e1).1
       rw[length_append]at this
       simp at this
       lia
      subst hk2
      have z1':b=c:=by simpa using e1
      rw[h3.len]at e2
      have z2':ns=ms:=by simpa using e2
      subst z1' z2'
      exact⟨mem_cons_self,by rw[aj hab];exact hb⟩
   ·rw[getElem?_set_ne (Ne.symm hj)]at q
    obtain⟨c,cs,z1,z2,z3⟩:=dd.dp j rf q
    refine⟨c,cs,by rw[if_neg hj];exact z1,z2,z3.to λx hx=>?_⟩
    have hxa:x≠a:=λz=>dd.dj i j nss rf (Ne.symm hj) e q a (by rw[hA];exact mem_cons_self) (by rw[z1,<-z];exact hx)
    obtain⟨w1,o,w2⟩:=z3.mem x hx
    exact⟨mem_cons_of_mem _ w1,by rw[keep x w1 hxa o w2,w2]⟩
  ·have YV:=(f m _ q2 (λz=>nomatch z)).2
   obtain⟨T4,p⟩:=p1 j rf q1
   rcases sub j c hx with w|⟨_,w⟩
   ·exact dd.ow j T4 m xs c p YV q3 w
   ·obtain⟨c',vs,w1,w2,_⟩:=r.own m xs YV
    rw[q3]at w1
    cases w1
    exact hnew (by rw[<-w];exact w2)
  ·obtain⟨m1,w1⟩:=p1 j rf q1
   obtain⟨m2,w2⟩:=p1 m TZ q2
   rcases sub j x hx with u|⟨u1,u⟩<;>rcases sub m x WS with v|⟨v1,v⟩
   ·exact dd.dj j m m1 m2 VD w1 w2 x u v
   ·exact hnew (by rw[<-v];exact(dd.mem w1 x u).1)
   ·exact hnew (by rw[<-u];exact(dd.mem w2 x v).1)
   ·exact VD (by rw[u1,v1])
end
section
variable{X:Cx}{E:Str->Hp->Prop}{pos:Pos}
def Ds(ix:Nat)(env:DE)(nss:List (List Int))(kn:Nat×List Int):D->R Out
 |.int v=> @ite _ (kn.2.length<sizeLine) (propDecidable _) (.ok (.nx (env.set ix (.deep (nss.set kn.1 (kn.2++[v])))))) .bad
 |_=>.bad
theorem Good.Ds {H₀:Hp}{ix:Nat}{env:DE}{nss:List (List Int)}{kn:Nat×List Int}{d:D}{p:Out->Prop}(h:Good E H₀ (Ds ix env nss kn d) p):∃v,d=.int v/\kn.2.length<sizeLine/\p (.nx (env.set ix (.deep (nss.set kn.1 (kn.2++[v]))))):=by
 unfold DL.Ds at h
 split at h
 ·split at h
  ·rename_i c
   exact⟨_,rfl,c,h⟩
  ·exact h.elim
 ·exact h.elim
theorem T5(ix:Nat){x:Str}{ei e:Expr}{fi f:DE->R D}{p Xp apos bV:Pos}(hi:PE X ei (tB X.K E fi))(he:PE X e (tB X.K E f))(hN:X.N[ix]?=some x:=by rfl)(hv:yZ X.env.scope x:=by first|exact Or.inl rfl|exact Or.inr (Or.inl rfl)|exact Or.inr (Or.inr rfl))(hd:(x==("__debug__":Str))=false:=by decide)
  (hcd:(x==("__classdict__":Str))=false:=by decide)(hpi:wk ei:=by exact λ_ _=>rfl)
  (hbase:attributeBase (.Subscript (.Name x p) ei Xp) "append" X.env (eval (.Subscript (.Name x p) ei Xp) X.env)=eval (.Subscript (.Name x p) ei Xp) X.env:=by rfl)
  (hfew:((backTo bV (starEach [e] X.env)).all (λx=> !x.1)&&(backToKw bV (keywordEach [] X.env)).all (λx=>x.1.isSome)
   &&decide ([e].length+([]:List Keyword).length+(if([]:List Keyword).isEmpty then 0 else 1)<30))=true:=by rfl)
  (hline:(apos.endLine==bV.line)=true:=by rfl)(hst:starEach [e] X.env=(false,eval e X.env)::starEach [] X.env:=by rfl)(hplain:(backTo bV (starEach [] X.env)).any (·.1)=false:=by rfl)
  (hs:swapsWith (.Call (.Attribute (.Subscript (.Name x p) ei Xp) "append" apos) [e] [] bV) none pos.line X.env=pure false:=by rfl):
  PS X (.Expr (.Call (.Attribute (.Subscript (.Name x p) ei Xp) "append" apos) [e] [] bV) pos) (tS X.K E λenv=>(gS ix env).bind λnss=>(fi env).bind λa=>(BG nss a).bind λkn=>(f env).bind λd=>Ds ix env nss kn d):=
 pK (ik (xg plainAttrs_list PySem.F.slot_list_append PySem.F.type_list_append fZ (i7 ed (jP hN hv hd hcd) hi hpi) (aD he aP hst) hbase hfew hline hst hplain) hs) λDe σ H ⟨g,env,os,r,m⟩=>by
  obtain⟨nss,e1,m2⟩:=m.bind.deep
  obtain⟨a,as,q1,q2,q3,q4⟩:=r.Ab e1
  refine⟨.ref a,q1,g,env,os,r,m2.bind.mono λda _ m3 w H2 s2 i2=>?_⟩
  obtain⟨i,k,ns,rfl,hk,hns,m4⟩:=m3.bind.BG
  obtain⟨b,hb1,hb2⟩:=q4 k ns hns
  refine⟨a,as.map V.ref,i,.ref b,rfl,i2,dG.of (s2 _ _ q2),T3 (by rw[length_map,q3];exact hk) (by rw[getElem?_map,hb1];rfl),.inl ⟨rfl,_,dG.of (s2 _ _ hb2)⟩,g,env,os,r.same s2,m4.bind.mono λd _ m5 v H3 s3 i3=>?_⟩
  obtain⟨u,rfl,hl,m6⟩:=m5.Ds
  have iu:v=.int u:=i3
  subst iu
  have r3:=r.same (s2.trans s3)
  have hb3:=s3 _ _ (s2 _ _ hb2)
  obtain⟨rH,r4⟩:=r3.aaW (ns:=ns) e1 q1 (s3 _ _ (s2 _ _ q2)) hb1 (List.getElem?_eq_some_iff.mp hns).1 (ns++[u])
  refine⟨b,ns.map V.int,.int u,rfl,rfl,hb3,by rw[length_map];exact hl,?_⟩
  rw[map_append]at r4
  exact(show i9 X.K g H os De (.nx _)from m6) σ _ os r4 ((uv.same (s2.trans s3) os).trans (.mut rH))
def JJ(ix:Nat)(env:DE)(nss:List (List Int))(ns:List Int):R Out:= @ite _ (nss.length<sizeLine) (propDecidable _) (.ok (.nx (env.set ix (.deep (nss++[ns]))))) .bad
theorem Q7(ix:Nat){x:Str}{e:Expr}{f:DE->R (List D)}{p apos bV:Pos}(he:PE X e (tF X.K E f))(hN:X.N[ix]?=some x:=by rfl)(hv:yZ X.env.scope x:=by first|exact Or.inl rfl|exact Or.inr (Or.inl rfl)|exact Or.inr (Or.inr rfl))(hd:(x==("__debug__":Str))=false:=by decide)
  (hcd:(x==("__classdict__":Str))=false:=by decide)
  (hbase:attributeBase (.Name x p) "append" X.env (eval (.Name x p) X.env)=eval (.Name x p) X.env:=by rfl)
  (hfew:((backTo bV (starEach [e] X.env)).all (λx=> !x.1)&&(backToKw bV (keywordEach [] X.env)).all (λx=>x.1.isSome)
   &&decide ([e].length+([]:List Keyword).length+(if([]:List Keyword).isEmpty then 0 else 1)<30))=true:=by rfl)
  (hline:(apos.endLine==bV.line)=true:=by rfl)(hst:starEach [e] X.env=(false,eval e X.env)::starEach [] X.env:=by rfl)(hplain:(backTo bV (starEach [] X.env)).any (·.1)=false:=by rfl)
  (hs:swapsWith (.Call (.Attribute (.Name x p) "append" apos) [e] [] bV) none pos.line X.env=pure false:=by rfl):
  PS X (.Expr (.Call (.Attribute (.Name x p) "append" apos) [e] [] bV) pos) (tS X.K E λenv=>(gS ix env).bind λnss=>(f env).bind λxs=>(R.of (Ik xs)).bind λns=>JJ ix env nss ns):=
 pK (ik (xg plainAttrs_list PySem.F.slot_list_append PySem.F.type_list_append fZ (jP hN hv hd hcd) (aD he aP hst) hbase hfew hline hst hplain) hs) λDe σ H ⟨g,env,os,r,m⟩=>by
  obtain⟨nss,e1,m2⟩:=m.bind.deep
  obtain⟨a,as,q1,q2,q3,q4⟩:=r.Ab e1
  refine⟨.ref a,q1,.inl ⟨rfl,_,dG.of q2⟩,g,env,os,r,m2.bind.mono λxs _ m3 b vs H1 s1 hn hH i1=>?_⟩
  obtain⟨ns,e2,m4⟩:=m3.bind.of
  have e3:=Dn e2
  subst e3
  have e4:=jn i1
  subst e4
  unfold JJ at m4
  split at m4
  ·rename_i c
   obtain⟨hos,r2⟩:=r.Xo s1 e1 q1 q2 hn hH
   refine⟨a,as.map V.ref,.ref b,rfl,rfl,s1 _ _ q2,by rw[length_map,q3];exact c,?_⟩
   refine(show i9 X.K g H os De (.nx _)from m4) σ _ (b::os) r2 ⟨λy hy=>?_,λy hy=>?_,λy o hy ho=>?_⟩
   ·rcases mem_cons.mp hy with z|z
    ·rw[z];exact .inr hn
    ·exact .inl z
   ·by_cases z:y=a
    ·rw[z,au]at hy;cases hy
    ·rw[aj z]at hy;exact s1.free hy
   ·rw[aj (λz=>hy (by rw[z];exact hos))];exact s1 _ _ ho
  ·exact m4.elim
end
section
variable{X:Cx}{E:Str->Hp->Prop}{pos:Pos}{k:Nat}{fa:Addr}{fd:FuncData}{st:Stmt}{ps:List Str}{x:Str}{p:Pos}{e:Expr}{es:List Expr}{f:DE->R (List D)}
abbrev aa4:=List (Str×(List D->R (List D)))
def FnR(X:Cx)(n:Str)(m:List D->R (List D)):Prop:=∃st ps fa fd k,Df X.K X.mg n st ps fa fd/\cO X.prog X.w X.K X.mg X.base lK k fa fd ps (MJ X.K Ij m)/\bh k X.A
def FnT(X:Cx)(tab:aa4):Prop:=∀n m,tab.lookup n=some m->FnR X n m
end
def adp:D->R Int
 |.int i=>.ok i
 |_=>.bad
def aa5:Out->R (List (List Int))
 |.MI nss=>.ok nss
 |_=>.bad
def mP(n N:Nat)(b:DE->R Out)(ds:List D):R (List (List Int)):=if ds.length=n then((b (aN N ds)).bind aa5).ne else .bad
section
variable{X:Cx}{E:Str->Hp->Prop}{pos:Pos}
def adq:D->R Str
 |.str i=>.ok i
 |_=>.bad
theorem si{K:PySem.W.Frag}{P:Addr->Prop}{H:Hp}:∀{as:List Addr}{nss:List (List Int)},as.length=nss.length->(∀b∈as,P b)->(∀(k:Nat)(b:Addr)(ns:List Int),as[k]?=some b->nss[k]?=some ns->H b=some (.lst (ns.map V.int)))->IsL K P H (nss.map λns=>D.lst (ns.map D.int)) (as.map V.ref)
 |[],[],_,_,_=>rfl
 |[],_::_,h,_,_=>by simp at h
 |_::_,[],h,_,_=>by simp at h
 |a::as,ns::nss,h,hp,hi=>⟨_,_,rfl,⟨a,_,rfl,.inl ⟨hp a (by simp),.inl (hi 0 a ns rfl rfl)⟩,cC ns⟩,si (by simpa using h) (λb hb=>hp b (by simp[hb])) λk b ms e1 e2=>hi (k+1) b ms e1 e2⟩
theorem PE.aa6 {e:Expr}{f:DE->R (List (List Int))}(h:PE X e (tDp X.K E f)):PE X e (tL X.K E λenv=>(f env).bind λnss=>.ok (nss.map λns=>D.lst (ns.map D.int))):=
 imp h λσ H Q ⟨g,env,os,r,m⟩=>⟨g,env,os,r,m.bind.mono λnss _ q a as H' s nd=>q a _ H' s (dG.of nd.ha) (si nd.len (λb hb=>r.fresh (nd.fr b (mem_cons_of_mem _ hb))) nd.it)⟩
end
section
variable{X:Cx}{E:Str->Hp->Prop}{pos:Pos}
def aa7(T:List (Str×Int)):List (Str×PyData):=T.map λp=>(p.1,PyData.int p.2)
def adt(K:PySem.W.Frag)(a:Addr)(T:List (Str×Int)):Prop:=KTD.tabLook KTD.flatLooks (λb=>K.lookup b) a (aa7 T)=true
end
section
variable{X:Cx}{E:Str->Hp->Prop}{pos:Pos}
def adu:D->R Unit
 |.int 1=>.ok ()
 |_=>.bad
end
section
variable{X:Cx}{E:Str->Hp->Prop}{pos:Pos}
def adv:D->R Unit
 |.int 2=>.ok ()
 |_=>.bad
end
section
variable{X:Cx}{E:Str->Hp->Prop}{pos:Pos}
def adw:D->R Unit
 |.int 0=>.ok ()
 |_=>.bad
end
def Ov:D->D->Option D
 |.int i,.int j=> @ite _ (GR i j) (propDecidable _) (some (.int (i*2^j.toNat))) none
 |_,_=>none
section
variable{X:Cx}{E:Str->Hp->Prop}{pos:Pos}
theorem Ow:pA X (rI GR λi j=>.int (i*2^j.toNat)) Ov:=rY (h:=λi j=>.int (i*2^j.toNat)) (λ_ _=>rfl) λx y d e=>by
 unfold Ov at e
 split at e
 ·split at e
  ·rename_i i j c
   cases e
   exact⟨i,j,rfl,rfl,c,rfl⟩
  ·cases e
 ·cases e
theorem Xq:Vr X .BitOr (V5 λi j=>Builtin.bitOr i j):=by
 intro pins s σ H x y v u Q I r1 r2 h
 obtain⟨i,j,rfl,rfl,q⟩:=h
 obtain⟨t,rfl⟩:=r1
 obtain⟨t',rfl⟩:=r2
 exact ior_int ⟨.int _,H,I.tok _,⟨_,rfl⟩,q⟩
end
section
variable{K:PySem.W.Frag}{g:Gh}{env:DE}{σ:St}{H H1:Hp}{os:List Addr}
theorem Rel.Xs (r:Rel K g env σ H os){i:Nat}{c c':Ct}(e:env[i]?=some (.deep c)){a:Addr}(hσ:σ[i]?=some (some (.ref a))){o:HO}{as':List Addr}
  (hd:∀as,Dp H os a as c->(∀x,x∈as'↔x∈as)/\Dp (upd H a o) os a as' c'):a∈os/\Rel K g (env.set i (.deep c')) σ (upd H a o) os:=by
 obtain⟨A,dd⟩:=r.I9
 obtain⟨a0,yu,hA,h1,h3⟩:=dd.dp i c e
 rw[hσ]at h1
 cases h1
 obtain⟨hm,M9⟩:=hd yu h3
 have rH:a∈os:=(h3.mem a (by simp)).1
 have Xm:a∈A i:=by rw[hA];simp
 refine⟨rH,?_⟩
 have ex:Ext (g.P os) (g.P os) H (upd H a o):=⟨λ_ _ p _=>p,λc o p q=>by rw[aj (λz=>p.2 (by rw[z];exact rH))];exact q⟩
 have f:∀(j:Nat)(sl:Sl),(env.set i (Sl.deep c'))[j]?=some sl->sl≠.deep c'->i≠j/\env[j]?=some sl:=λj sl q hn=>lT q hn
 refine⟨by simp[r.len],λb o' q=>?_,λj d q=>?_,λj xs q=>?_,λj k xs ys b q1 q2 q3 q4=>?_,λb hc=>?_,λj v q=>?_,?_⟩
 ·rw[aj (λz=>by rw[z,(r.new a rH).1]at q;cases q)]
  exact r.ext b o' q
 ·obtain⟨hj,q⟩:=f j _ q (λz=>nomatch z)
  obtain⟨v,h1,h2⟩:=r.val j d q
  exact⟨v,h1,Is.ext ex _ _ h2⟩
 ·obtain⟨hj,q⟩:=f j _ q (λz=>nomatch z)
  obtain⟨b,vs,h1,h2,Xn,h4⟩:=r.own j xs q
  have hcb:b≠a:=λz=>dd.ow i c j xs b e q h1 (by rw[z];exact Xm)
  exact⟨b,vs,h1,h2,by rw[aj hcb];exact Xn,IsL.ext ex _ _ h4⟩
 ·obtain⟨hj,q1⟩:=f j _ q1 (λz=>nomatch z)
  obtain⟨hk,q2⟩:=f k _ q2 (λz=>nomatch z)
  exact r.inj j k xs ys b q1 q2 q3 q4
 ·obtain⟨z1,o',z2⟩:=r.new b hc
  refine⟨z1,?_⟩
  by_cases z:b=a
  ·exact⟨_,by rw[z];exact au⟩
  ·exact⟨o',by rw[aj z];exact z2⟩
 ·obtain⟨hj,q⟩:=f j _ q (λz=>nomatch z)
  exact r.raw j v q
 ·have sub:∀(j:Nat)(y:Addr),(y∈if j=i then a::as' else A j)->y∈A j:=λj y hy=>by
   by_cases hj:j=i
   ·rw[if_pos hj]at hy
    rw[hj,hA]
    rcases mem_cons.mp hy with w|w
    ·rw[w];exact mem_cons_self
    ·exact mem_cons_of_mem _ ((hm y).mp w)
   ·rw[if_neg hj]at hy
    exact hy
  have p1:∀(j:Nat)(ms:Ct),(env.set i (Sl.deep c'))[j]?=some (.deep ms)->∃T4,env[j]?=some (.deep T4):=λj ms q=>by
   by_cases hj:i=j
   ·subst hj;exact⟨c,e⟩
   ·rw[getElem?_set_ne hj]at q;exact⟨ms,q⟩
  refine⟨λj=>if j=i then a::as' else A j,λj rf q=>?_,λj rf m xs b q1 q2 q3 hx=>?_,λj m rf TZ VD q1 q2 x hx WS=>?_⟩
  ·by_cases hj:j=i
   ·have q':=q
    rw[hj]at q'
    have z:=bz q'
    cases z
    exact⟨a,as',if_pos hj,by rw[hj];exact hσ,M9⟩
   ·rw[getElem?_set_ne (Ne.symm hj)]at q
    obtain⟨b,cs,z1,z2,z3⟩:=dd.dp j rf q
    refine⟨b,cs,by rw[if_neg hj];exact z1,z2,z3.to λx hx=>?_⟩
    have hxb:x≠a:=λz=>dd.dj i j c rf (Ne.symm hj) e q a Xm (by rw[z1,<-z];exact hx)
    exact⟨(z3.mem x hx).1,aj hxb⟩
  ·have YV:=(f m _ q2 (λz=>nomatch z)).2
   obtain⟨T4,p⟩:=p1 j rf q1
   exact dd.ow j T4 m xs b p YV q3 (sub j b hx)
  ·obtain⟨m1,w1⟩:=p1 j rf q1
   obtain⟨m2,w2⟩:=p1 m TZ q2
   exact dd.dj j m m1 m2 VD w1 w2 x (sub j x hx) (sub m x WS)
end
section
variable{X:Cx}{E:Str->Hp->Prop}{pos:Pos}
theorem Xu(ix:Nat){x:Str}{p apos bV:Pos}(hN:X.N[ix]?=some x:=by rfl)(hv:yZ X.env.scope x:=by first|exact Or.inl rfl|exact Or.inr (Or.inl rfl)|exact Or.inr (Or.inr rfl))(hd:(x==("__debug__":Str))=false:=by decide)
  (hcd:(x==("__classdict__":Str))=false:=by decide)
  (hbase:attributeBase (.Name x p) "reverse" X.env (eval (.Name x p) X.env)=eval (.Name x p) X.env:=by rfl)(hline:(apos.endLine==bV.line)=true:=by rfl)
  (hs:swapsWith (.Call (.Attribute (.Name x p) "reverse" apos) [] [] bV) none pos.line X.env=pure false:=by rfl):
  PS X (.Expr (.Call (.Attribute (.Name x p) "reverse" apos) [] [] bV) pos) (tS X.K E λenv=>(gS ix env).bind λnss=>.ok (.nx (env.set ix (.deep (.ls nss.reverse))))):=
 pK (ik (zZ plainAttrs_list PySem.F.slot_list_reverse PySem.F.type_list_reverse Dg (jP hN hv hd hcd) hbase hline) hs) λDe σ H ⟨g,env,os,r,m⟩=>by
  obtain⟨nss,e1,m2⟩:=m.bind.deep
  obtain⟨a,as,q1,q2,q3,q4⟩:=r.Ab e1
  refine⟨.ref a,q1,.inl ⟨rfl,_,dG.of q2⟩,a,as.map V.ref,rfl,rfl,q2,?_⟩
  obtain⟨hos,r2⟩:=r.Xs (c':=.ls nss.reverse) (o:=.lst (as.map V.ref).reverse) (as':=as.reverse) e1 q1 (λyu dp=>by
   have d:AR HO.lst H os a yu nss:=dp
   have has:yu=as:=by
    have z:=d.ha
    rw[q2]at z
    have z2:as.map V.ref=yu.map V.ref:=by injection z with z;injection z
    exact(lU z2).symm
   subst has
   refine⟨λx=>mem_reverse,d.ma,by rw[<-map_reverse];exact au,by rw[length_reverse,length_reverse];exact d.len,?_,λk b ns e1 e2=>?_⟩
   ·have nd:=nodup_cons.mp d.nd
    exact nodup_cons.mpr ⟨λz=>nd.1 (mem_reverse.mp z),(reverse_perm yu).nodup_iff.mpr nd.2⟩
   ·have hk:=(List.getElem?_eq_some_iff.mp e1).1
    rw[length_reverse]at hk
    rw[getElem?_reverse hk]at e1
    rw[getElem?_reverse (by rw[<-d.len];exact hk),<-d.len]at e2
    obtain⟨w1,w2⟩:=d.it _ b ns e1 e2
    have hba:b≠a:=λz=>(nodup_cons.mp d.nd).1 (by rw[<-z];exact mem_of_getElem? e1)
    exact⟨w1,by rw[aj hba];exact w2⟩)
  exact(show i9 X.K g H os De (.nx _)from m2) σ _ os r2 (.mut hos)
end
theorem dfm{K:PySem.W.Frag}{h:Heap}{mg:Str->Option Value}{x:Str}{st:Stmt}{ps:List Str}{f:Addr}{oc:Value}{od an:Option Addr}{Ig:Array (Option Value)}{kV doc pm cdv ct:Value}(X:K.In h)(G:h.Ns mainGlobals mg)(a:nsIn K mainGlobals x=some (some (.ref f)))
  (l:K.lookup f=some ⟨oc,od,.func (PySem.W.fnOf x x (fu st) (bM st) (ae st) .none kV doc pm an cdv ct),Ig⟩)(c:codeIn K cdv x=true)(k:keepIn K (.ref f)=true)
  (hb:∀(kV doc pm:Value)(an:Option Addr)(cdv ct:Value)(us:List Value),us.length=ps.length->bindArgs (PySem.W.fnOf x x (fu st) (bM st) (ae st) .none kV doc pm an cdv ct) ⟨us,[]⟩=pure (ps.zip us)):
  Df K mg x st ps f (PySem.W.fnOf x x (fu st) (bM st) (ae st) .none kV doc pm an cdv ct):=⟨Dh l c k,(Dh l c k).binds hb,mg_of X G a,a⟩
theorem pC{N P:List Str}{sc:Scope}(h1:sc.kind=.function:=by rfl)(h2:sc.isCoroutine=false:=by rfl)(h3:sc.isGenerator=false:=by rfl)(h4:N.Nodup:=by decide +kernel)(h5:N.take P.length=P:=by rfl)
  (h6:∀x∈P,sc.names.lookup x=some .local\/sc.names.lookup x=some .cell:=by decide +kernel)(h7:∀y∈sc.names,y.2≠.free:=by decide +kernel):aC N P sc:=⟨h1,h2,h3,h4,h5,h6,h7⟩
noncomputable def xw(env:DE):R Out:=
 ((((((((aV 0 env>=>λgy=>R.ok (D.int 1000003)>=>λkQ=>R.of (mE gy kQ))>=>λlL=>R.ok (D.int 7)>=>λiW=>R.of (Dj lL iW))>=>λv10=>(aV 1 env>=>λmJ=>aV 1 env>=>λmK=>R.of (Dj mJ mK))>=>λv11=>R.of (cD v10 v11))>=>λv8=>R.ok (D.int 1)>=>λv9=>R.of (cD v8 v9))>=>λv6=>aV 2 env>=>λv7=>R.of (Dj v6 v7))>=>λv4=>R.ok (D.int 2147483647)>=>λv5=>R.of (mE v4 v5))>=>λv2=>R.ok (D.int 16)>=>λv3=>R.of (vL v2 v3))>=>λv1=>R.ok (Out.rt v1))
def cA:=mS 3 3 xw
noncomputable def pQ(env:DE):R Out:=
 (aX (((aV 1 env>=>λv4=>R.ok (D.int 1)>=>λv5=>R.of (rF v4 v5)>=>ja)>=>λv3=>if v3=true then((aV 0 env>=>λv8=>R.ok (D.int 13)>=>λv9=>R.of (mE v8 v9))>=>λv6=>R.ok (D.int 5)>=>λv7=>R.of (rF v6 v7)>=>ja)else R.ok false)>=>λv2=>if v2=true then(R.ok (D.int 1)>=>λv10=>R.ok (Out.rt v10))else(R.ok (Out.nx env))) λv1=>
 (aX (((R.ok (D.int 2)>=>λgy=>(aV 1 v1>=>λmJ=>R.ok []>=>λmK=>R.ok (mJ::mK))>=>λkQ=>R.ok (gy::kQ))>=>λiW=>R.of (Br iW))>=>λlL=>R.ok (Out.nx (List.set v1 1 (Sl.val lL)))) λv11=>
 ((aV 1 v11>=>λje=>((aV 0 v11>=>λoX=>R.ok (D.int 13)>=>λrJ=>R.of (vL oX rJ))>=>λqV=>((aV 2 v11>=>λvN=>aV 1 v11>=>λyN=>R.of (iA vN yN))>=>λsj=>R.ok (D.int 1)>=>λuD=>R.of (cD sj uD))>=>λjf=>R.of (mE qV jf))>=>λv20=>R.of (cD je v20))>=>λjO=>R.ok (Out.rt jO))))
def fM:=mS 3 3 pQ
noncomputable def oY(env:DE):R Out:=
 (aX ((R.ok (D.int 1)>=>λv3=>(aV 0 env>=>λv5=>(aV 1 env>=>λv7=>R.ok (D.int 1)>=>λv8=>R.of (iA v7 v8))>=>λv6=>R.of (mE v5 v6))>=>λv4=>R.of (cD v3 v4))>=>λv2=>R.ok (Out.nx (List.set env 2 (Sl.val v2)))) λv1=>
 (aX ((((aV 0 v1>=>λkQ=>R.ok (D.int 8)>=>λmJ=>R.of (vL kQ mJ))>=>λiW=>R.ok (D.int 2)>=>λgy=>R.of (mE iW gy))>=>λv11=>R.ok (D.int 1)>=>λlL=>R.of (rF v11 lL)>=>ja)>=>λv10=>if v10=true then((aV 2 v1>=>λjO=>R.of (kg jO))>=>λmK=>R.ok (Out.rt mK))else(R.ok (Out.nx v1))) λv9=>
 (bH 2 v9>=>λje=>R.ok (Out.rt je))))
def cB:=mS 2 3 oY
noncomputable def sy(env:DE):R Out:=
 (aX (((aV 0 env>=>λv3=>(aV 1 env>=>λv5=>R.ok []>=>λv6=>R.ok (v5::v6))>=>λv4=>R.ok (v3::v4))>=>cB)>=>λv2=>R.ok (Out.nx (List.set env 2 (Sl.val v2)))) λv1=>
 (aX (((((aV 0 v1>=>λgy=>R.ok (D.int 16)>=>λkQ=>R.of (vL gy kQ))>=>λlL=>R.ok (D.int 4)>=>λiW=>R.of (mE lL iW))>=>λv10=>R.ok (D.int 0)>=>λv11=>R.of (wq v10 v11)>=>ja)>=>λv9=>if v9=true then R.ok true else(aV 1 v1>=>λmJ=>R.ok (D.int 3)>=>λmK=>R.of (NP mJ mK)>=>ja))>=>λv8=>if v8=true then((((bH 2 v1>=>λv20=>R.ok []>=>λqV=>R.ok (v20::qV))>=>fit)>=>λje=>R.ok (D.lst je))>=>λjO=>R.ok (Out.rt jO))else(R.ok (Out.nx v1))) λv7=>
 (aX (((((((aV 2 v7>=>λBH=>R.ok (D.int 1)>=>λBI=>R.of (cD BH BI))>=>λvo=>R.ok []>=>λv30=>R.ok (vo::v30))>=>λyN=>R.of (xn yN))>=>λuD=>aV 1 v7>=>λvN=>R.of (NP uD vN)>=>ja)>=>λsj=>if sj=true then((aV 2 v7>=>λDt=>R.ok (D.int 1)>=>λAV=>R.of (cD Dt AV))>=>λDu=>R.ok (D.int 0)>=>λDv=>R.of (AU Du Dv)>=>ja)else R.ok false)>=>λrJ=>if rJ=true then(aV 2 v7>=>λDw=>R.ok (D.int 1)>=>λDy=>R.of (cD Dw Dy))else(aV 2 v7>=>λAW=>R.ok (D.int 1)>=>λCM=>R.of (iA AW CM)))>=>λoX=>R.ok (Out.nx (List.set v7 3 (Sl.val oX)))) λjf=>
 (((((((bH 2 jf>=>λDz=>(bH 3 jf>=>λDA=>(bH 2 jf>=>λBJ=>R.ok []>=>λCN=>R.ok (BJ::CN))>=>λDB=>R.ok (DA::DB))>=>λwD=>R.ok (Dz::wD))>=>fit)>=>λDC=>R.ok (D.lst DC))>=>λCO=>((((bH 2 jf>=>λAX=>(bH 3 jf>=>λAY=>R.ok []>=>λG9=>R.ok (AY::G9))>=>λBK=>R.ok (AX::BK))>=>fit)>=>λHa=>R.ok (D.lst Ha))>=>λDD=>((((bH 2 jf>=>λHb=>(bH 2 jf>=>λHc=>R.ok []>=>λHd=>R.ok (Hc::Hd))>=>λHe=>R.ok (Hb::He))>=>fit)>=>λHf=>R.ok (D.lst Hf))>=>λHg=>((((bH 2 jf>=>λHh=>((aV 3 jf>=>λHi=>R.of (kg Hi))>=>λHj=>(bH 2 jf>=>λJK=>R.ok []>=>λJL=>R.ok (JK::JL))>=>λHk=>R.ok (Hj::Hk))>=>λHl=>R.ok (Hh::Hl))>=>fit)>=>λHm=>R.ok (D.lst Hm))>=>λHn=>R.ok []>=>λHo=>R.ok (Hn::Ho))>=>λzj=>R.ok (Hg::zj))>=>λHq=>R.ok (DD::Hq))>=>λxx=>R.ok (CO::xx))>=>fit)>=>λDF=>((aV 0 jf>=>λJM=>R.ok (D.int 64)>=>λOx=>R.of (vL JM Ox))>=>λHr=>R.ok (D.int 4)>=>λJN=>R.of (mE Hr JN))>=>λAc=>oW DF Ac)>=>λDG=>R.ok (Out.rt DG)))))
def iF:=mD 2 4 sy
noncomputable def jQ(d:D)(env:DE):R Out:=
 (bT 2 (jZ (bN 4) (jZ (bN 5) yL))) d env>=>λv8=>
  ((aV 1 v8>=>λv10=>R.ok (D.int 1)>=>λv11=>R.of (wq v10 v11)>=>ja)>=>λv9=>if v9=true then(((fY 3 v8>=>λgy=>(((((aV 5 v8>=>λjO=>(aV 4 v8>=>λv20=>(R.ok (D.int 48271)>=>λjf=>R.ok []>=>λoX=>R.ok (jf::oX))>=>λqV=>R.ok (v20::qV))>=>λje=>R.ok (jO::je))>=>cA)>=>λmJ=>(bH 1 v8>=>λrJ=>R.ok []>=>λsj=>R.ok (rJ::sj))>=>λmK=>R.ok (mJ::mK))>=>iF)>=>wo)>=>λkQ=>fit (gy++kQ))>=>λiW=>R.ok (D.lst iW))>=>λlL=>R.ok (Out.nx (List.set v8 3 (Sl.val lL))))else(R.ok (Out.nx v8)))
noncomputable def sA(env:DE):R Out:=
 (aX (((R.ok []>=>fit)>=>λv3=>R.ok (D.lst v3))>=>λv2=>R.ok (Out.nx (List.set env 3 (Sl.val v2)))) λv1=>
 (aX ((bH 0 v1>=>λuD=>wo uD>=>λxs=>R.ok (eI xs))>=>λv5=>iB jQ v5 v1) λv4=>
 ((fY 3 v4>=>λyN=>R.ok none>=>λvo=>(aV 2 v4>=>vj)>=>λv30=>R.ok (cut yN vo v30))>=>λvN=>R.ok (Out.ph vN))))
def iG:=gp 3 6 sA
def sC(c k f:Int):Int:=(c%1000003*7+k*k+1)*f%2147483647/16
theorem xy(c k f:Int)(hk:0<=k/\k<1000000)(hf:0<=f/\f<2147483647):cA [.int c,.int k,.int f]=.ok (.int (sC c k f)):=by
 have h1:=emod_nonneg c (show(1000003:Int)≠0 by decide)
 have h2:=emod_lt_of_pos c (show(0:Int)<1000003 by decide)
 unfold cA xw
 simp_all
 rw[fK c 1000003 (by decide)]
 simp_all only [R.lP,R.bO]
 rw[z7 _ 7 (.inr (by decide))]
 simp_all only [R.lP,R.bO]
 rw[z7 k k (.inl (by lia))]
 simp_all only [R.lP,R.bO,z6]
 rw[z7 _ f (.inr (by lia))]
 simp_all only [R.lP,R.bO]
 rw[fK _ 2147483647 (by decide)]
 simp_all only [R.lP,R.bO]
 rw[nV _ 16 (by decide)]
 rfl
theorem xA(c k f:Int):0<=sC c k f:=by
 unfold sC
 have h1:=emod_nonneg ((c%1000003*7+k*k+1)*f) (show(2147483647:Int)≠0 by decide)
 exact Int.ediv_nonneg h1 (by decide)
def dR(x n:Int):Int:=if x/8%2=1 then-(1+x%(n-1))else 1+x%(n-1)
theorem BL(x n:Int)(h:2<=n):cB [.int x,.int n]=.ok (.int (dR x n)):=by
 unfold cB oY dR
 simp_all
 rw[fK x (n-1) (by lia)]
 dsimp
 rw[nV x 8 (by decide)]
 dsimp
 rw[fK _ 2 (by decide)]
 dsimp
 by_cases hc:x/8%2=1
 ·simp_all only [hc,beq_self_eq_true,reduceIte,ah,ai,aG,aH,aI,aJ]
 ·have Ir:(x/8%2==1)=false:=beq_false_of_ne hc
  simp_all only [hc,Ir,reduceIte,ah,ai,aG,aH,aI,aJ]
def bC(n k:Int):Prop:=k≠0/\ -n<k/\k<n
theorem BN(x n:Int)(h:2<=n):bC n (dR x n):=by
 unfold dR bC
 have h1:=emod_nonneg x (show n-1≠0 by lia)
 have h2:=emod_lt_of_pos x (show 0<n-1 by lia)
 split<;>lia
def uE(k n:Int):Int:=if(if k+1<0 then-(k+1)else k+1)<n/\k+1≠0 then k+1 else k-1
def pR(x n:Int):List Int:=
 if x/16%4>0\/n<3 then[dR x n]else
  let k:=dR x n
  let o:=uE k n
  if x/64%4=0 then[k,o,k]else if x/64%4=1 then[k,o]else if x/64%4=2 then[k,k]else[k,-o,k]
theorem JO{k n:Int}(h:3<=n)(hk:bC n k):bC n (uE k n):=by
 unfold uE bC at*
 split<;>split at* <;>lia
theorem JP{x n:Int}(h:2<=n):∀k∈pR x n,bC n k:=by
 have h1:=BN x n h
 unfold pR
 split
 ·simp[h1]
 ·rename_i hc
  have h2:=JO (n:=n) (by lia) h1
  have h3:bC n (-uE (dR x n) n):=by unfold bC at*;lia
  dsimp only
  split
  ·simp[h1,h2]
  ·split
   ·simp[h1,h2]
   ·split<;>simp[h1,h3]
theorem zk(x n:Int):(pR x n).length<=3:=by
 unfold pR
 split
 ·simp
 ·dsimp only
  split
  ·simp
  ·split
   ·simp
   ·split<;>simp
theorem JQ(x n:Int)(h:2<=n):iF [.int x,.int n]=.ok (.lst (aM (pR x n))):=by
 unfold iF sy pR
 simp_all
 rw[BL x n h]
 dsimp
 rw[nV x 16 (by decide)]
 dsimp
 rw[fK _ 4 (by decide)]
 dsimp
 by_cases h1:0<x/16%4
 ·have Xv:x/16%4>0\/n<3:=.inl h1
  rw[if_pos Xv]
  simp_all only [h1,decide_true,reduceIte,ah,ai,aG,aH,aI,aJ]
  rfl
 ·by_cases h2:n<3
  ·have Xv:x/16%4>0\/n<3:=.inr h2
   rw[if_pos Xv]
   simp_all only [h1,h2,decide_true,decide_false,reduceIte,ah,ai,aG,aH,aI,aJ]
   rfl
  ·have Xv:¬(x/16%4>0\/n<3):=by lia
   rw[if_neg Xv]
   simp_all only [h1,h2,decide_false,reduceIte,ah,ai,aG,aH,aI,aJ]
   have ho:((if decide ((if dR x n+1<0 then-(dR x n+1)else dR x n+1)<n)=true then R.ok (!(dR x n+1==0))else R.ok false)>=>λt=>if t=true then R.ok (D.int (dR x n+1))else R.ok (D.int (dR x n-1)))=R.ok (D.int (uE (dR x n) n)):=by
    unfold uE
    by_cases c1:(if dR x n+1<0 then-(dR x n+1)else dR x n+1)<n
    ·by_cases c2:dR x n+1=0
     ·simp[c1,c2,R.bO]
     ·simp[c1,c2,R.bO]
    ·simp[c1,R.bO]
   rw[ho]
   dsimp
   rw[nV x 64 (by decide)]
   dsimp
   rw[fK _ 4 (by decide)]
   dsimp
   have h5:=emod_nonneg (x/64) (show(4:Int)≠0 by decide)
   have h6:=emod_lt_of_pos (x/64) (show(0:Int)<4 by decide)
   have h7:x/64%4=0\/x/64%4=1\/x/64%4=2\/x/64%4=3:=by lia
   rcases h7 with q|q|q|q<;>simp[q,L2.i6,L2.rR,R.lP,R.bO,R.Jk,ah,aM]
def jR(n:Int)(cells:List Int)(i:Nat):List Int:=((range i).map λk=>match cells[k]? with
 |some c=>pR (sC c k 48271) n
 |none=>[]).flatten
theorem JR{n:Int}{cells:List Int}{i:Nat}{c:Int}(h:cells[i]?=some c):jR n cells (i+1)=jR n cells i++pR (sC c i 48271) n:=by
 unfold jR
 rw[range_succ,map_append,flatten_append]
 simp[h]
theorem EU(n:Int)(cells:List Int):∀i:Nat,(jR n cells i).length<=3*i
 |0=>by simp[jR]
 |i+1=>by
  unfold jR
  rw[range_succ,map_append,flatten_append,length_append]
  have ih:=EU n cells i
  unfold jR at ih
  cases h:cells[i]? with
  |none=>simp_all only [h,map_cons,map_nil,flatten_cons,List.flatten_nil,length_append,length_nil];lia
  |some c=>
   have:=zk (sC c i 48271) n
   simp_all only [h,map_cons,map_nil,flatten_cons,List.flatten_nil,length_append,length_nil];lia
theorem T6{n:Int}(hn:2<=n)(cells:List Int)(i:Nat):∀k∈jR n cells i,bC n k:=by
 intro k hk
 unfold jR at hk
 rw[List.mem_flatten]at hk
 obtain⟨l,hl,hk⟩:=hk
 rw[mem_map]at hl
 obtain⟨j,_,rfl⟩:=hl
 cases h:cells[j]? with
 |none=>rw[h]at hk;cases hk
 |some c=>rw[h]at hk;exact JP hn k hk
def Ae(cells:List Int)(n most:Int):List Int:=(if 1<n then jR n cells cells.length else[]).take most.toNat
theorem JS{cells:List Int}{n most:Int}:∀k∈Ae cells n most,bC n k:=by
 intro k hk
 unfold Ae at hk
 have:=mem_of_mem_take hk
 split at this
 ·exact T6 (by lia) _ _ k this
 ·cases this
theorem JT(cells:List Int)(n most:Int)(hc:cells.length<=1000)(hn:1<=n)(hm:0<=most):iG [.lst (aM cells),.int n,.int most]=.ok (aM (Ae cells n most)):=by
 unfold iG sA
 simp_all
 obtain⟨s',e,hj⟩:=rG (S:=List Int×Sl×Sl) (b:=jQ)
  (λi s=>s.1=if 1<n then jR n cells i else[]) (λs=>[.val (.lst (aM cells)),.val (.int n),.val (.int most),.val (.lst (aM s.1)),s.2.1,s.2.2]) (eI (aM cells)) 0 ([],.no,.no) (by simp[jR]) (by
   rintro j ⟨wd,s4,s5⟩ x hs hx
   obtain⟨c,YW,rfl⟩:=uC hx
   have hj:j<cells.length:=(List.getElem?_eq_some_iff.mp YW).1
   rw[Nat.zero_add]at hs⊢
   have T7:wd=if 1<n then jR n cells j else[]:=hs
   unfold jQ
   simp_all only [bT2,reduceIte,ah,ai,aG,aH,aI,aJ]
   by_cases h1:1<n
   ·rw[if_pos h1]at T7
    subst T7
    have hl:=EU n cells j
    have hl2:=zk (sC c j 48271) n
    refine⟨(jR n cells (j+1),.val (.int (j:Nat)),.val (.int c)),?_,by simp[h1]⟩
    simp_all only [h1,decide_true,reduceIte,ah,ai,aG,aH,aI,aJ]
    rw[xy c j 48271 (by lia) (by decide)]
    dsimp
    rw[JQ _ n (by lia)]
    dsimp [b9]
    rw[bj (by rw[length_append];lia)]
    dsimp [JR YW]
   ·rw[if_neg h1]at T7
    subst T7
    exact⟨([],.val (.int (j:Nat)),.val (.int c)),by simp_all only [h1,decide_false,reduceIte,ah,ai,aG,aH,aI,aJ],by simp[h1]⟩)
 obtain⟨wd,s4,s5⟩:=s'
 have DH:wd=if 1<n then jR n cells (0+(eI (aM cells)).length)else[]:=hj
 have he:(eI (aM cells)).length=cells.length:=by rw[G8,aW]
 rw[Nat.zero_add,he]at DH
 rw[show aM []=[]from rfl]at e
 rw[e]
 dsimp [dw]
 rw[kP _ _ hm,gx]
 dsimp [DH]
 rfl
theorem EV{w:List Int}{j:Nat}{x:D}(h:(aM w)[j]?=some x):∃k,w[j]?=some k/\x=.int k:=by
 rw[Ol]at h
 cases q:w[j]? with
 |none=>rw[q]at h;cases h
 |some k=>rw[q]at h;cases h;exact⟨k,rfl,rfl⟩
theorem BO{α:Type}{w:List α}{j:Nat}{k:α}(h:w[j]?=some k):w.take (j+1)=w.take j++[k]:=by
 rw[take_succ,h];rfl
theorem Xw{K:PySem.W.Frag}{H:Hp}{a:Addr}{m:List D->R D}{ns:List Int}(h:m [.lst (aM ns)]=.ok (.bl true))(hS:dG K H a (ns.map V.int)):EC K Ij m [.ref a] H (λv _=>v=.bl true) λ_ _ _=>False:=by
 refine⟨Tr,[.lst (aM ns)],IsL.one ⟨a,_,rfl,vK.any hS,?_⟩,?_⟩
 ·clear h hS
  induction ns with
  |nil=>rfl
  |cons x r ih=>exact⟨_,_,rfl,rfl,ih⟩
 ·rw[h]
  intro v H' _ i
  exact i
def BP(env:DE):R Bool:=
 R.ok true
def BQ(env:DE):R D:=
 (aV 0 env>=>λv6=>R.of (kg v6))
def BR(env:DE):R Out:=
 (((bH 0 env>=>λv7=>wo v7>=>λxs=>R.ok (reverse xs))>=>λv2=>iZ env []>=>λv3=>R.ne (cY (bN 0) BP BQ (jY 1 v3) v2)>=>fit)>=>λv1=>R.ok (Out.ph v1))
def pS:=gp 1 1 BR
noncomputable def nZ(d:D)(env:DE):R Out:=
 (bN 2) d env>=>λv7=>
  (((((aV 1 v7>=>λiW=>R.ok []>=>λgy=>R.ok (iW::gy))>=>λlL=>R.of (kO lL))>=>λv10=>R.ok (D.int 0)>=>λv11=>R.of (wq v10 v11)>=>ja)>=>λv9=>if v9=true then((fY 1 v7>=>λmK=>(R.ok (D.int 1)>=>λje=>R.of (kg je))>=>λjO=>oW mK jO)>=>λkQ=>(aV 2 v7>=>λv20=>R.of (kg v20))>=>λmJ=>R.of (rF kQ mJ)>=>ja)else R.ok false)>=>λv8=>if v8=true then(ownAt 1 v7>=>λqV=>Og 1 v7 qV)else(ownAt 1 v7>=>λjf=>bH 2 v7>=>λoX=>Oe 1 v7 jf oX))
def zm(env:DE):R Out:=
 (aX ((R.ok []>=>fit)>=>λv2=>R.ok (Out.nx (List.set env 1 (Sl.own v2)))) λv1=>
 (aX ((bH 0 v1>=>wo)>=>λv4=>iB nZ v4 v1) λv3=>
 (ownAt 1 v3>=>λrJ=>R.ok (Out.ph rJ))))
def nk:=gp 1 3 zm
def xB(env:DE):R Out:=
 (((aV 0 env>=>λv2=>R.ok []>=>λv3=>R.ok (v2::v3))>=>r6)>=>λv1=>R.ok (Out.ph v1))
def dE:=gp 1 1 xB
noncomputable def JU(env:DE):R Out:=
 ((((aV 0 env>=>λv4=>R.ok (D.int 1)>=>λv5=>R.of (iA v4 v5))>=>λv2=>((R.ok (D.int 1)>=>λv8=>R.of (kg v8))>=>λv6=>((R.ok (D.int 1)>=>λv11=>R.of (kg v11))>=>λv9=>R.ok []>=>λv10=>R.ok (v9::v10))>=>λv7=>R.ok (v6::v7))>=>λv3=>R.ok (v2::v3))>=>JH)>=>λv1=>R.ok (Out.ph v1))
def xC:=gp 1 1 JU
def kR(d:D)(env:DE):R Out:=
 (bT 2 (jZ (bN 2) (jZ (bN 3) yL))) d env>=>λgy=>
  (bH 2 gy>=>λkQ=>ownAt 1 gy>=>λmJ=>aV 3 gy>=>λmK=>vM 1 gy kQ mJ mK)
noncomputable def vp(env:DE):R Out:=
 (aX ((((R.ok (D.int 0)>=>λv5=>R.ok []>=>λv6=>R.ok (v5::v6))>=>fit)>=>λv3=>((aV 0 env>=>λv8=>R.ok []>=>λv9=>R.ok (v8::v9))>=>λv7=>R.of (kO v7))>=>λv4=>Oa v3 v4)>=>λv2=>R.ok (Out.nx (List.set env 1 (Sl.own v2)))) λv1=>
 (aX ((bH 0 v1>=>λjO=>wo jO>=>λxs=>R.ok (eI xs))>=>λv11=>iB kR v11 v1) λv10=>
 (ownAt 1 v10>=>λje=>R.ok (Out.ph je))))
def cJ:=gp 1 4 vp
def xD(env:DE):R Bool:=
 ((fY 1 env>=>λv8=>(aV 0 env>=>λv10=>R.ok (D.int 1)>=>λv11=>R.of (iA v10 v11))>=>λv9=>oW v8 v9)>=>λv6=>(fY 1 env>=>λlL=>aV 0 env>=>λiW=>oW lL iW)>=>λv7=>R.of (wq v6 v7)>=>ja)
def xE(env:DE):R D:=
 (bH 0 env)
noncomputable def EY(env:DE):R Out:=
 ((((R.ok (D.int 1)>=>λgy=>(((aV 0 env>=>λje=>R.ok []>=>λv20=>R.ok (je::v20))>=>λjO=>R.of (kO jO))>=>λmJ=>R.ok []>=>λmK=>R.ok (mJ::mK))>=>λkQ=>R.ok (gy::kQ))>=>Ji)>=>λv2=>iZ env [0]>=>λv3=>R.ne (cY (bN 0) xD xE (jY 1 v3) v2)>=>fit)>=>λv1=>R.ok (Out.ph v1))
def qB:=gp 1 1 EY
noncomputable def iH(env:DE):R Out:=
 ((((fY 0 env>=>λv6=>R.ok none>=>λv7=>((aV 1 env>=>λv9=>R.ok (D.int 1)>=>λv10=>R.of (iA v9 v10))>=>vj)>=>λv8=>R.ok (cut v6 v7 v8))>=>λv4=>(((fY 0 env>=>λiW=>aV 1 env>=>λgy=>oW iW gy)>=>λv11=>((fY 0 env>=>λmK=>(aV 1 env>=>λje=>R.ok (D.int 1)>=>λv20=>R.of (iA je v20))>=>λjO=>oW mK jO)>=>λkQ=>R.ok []>=>λmJ=>R.ok (kQ::mJ))>=>λlL=>R.ok (v11::lL))>=>fit)>=>λv5=>fit (v4++v5))>=>λv2=>(fY 0 env>=>λqV=>((aV 1 env>=>λrJ=>R.ok (D.int 1)>=>λsj=>R.of (cD rJ sj))>=>vj)>=>λjf=>R.ok none>=>λoX=>R.ok (cut qV jf oX))>=>λv3=>fit (v2++v3))>=>λv1=>R.ok (Out.ph v1))
def aU:=gp 2 2 iH
def uF(env:DE):R Bool:=
 R.ok true
def nq(env:DE):R D:=
 ((((aV 1 env>=>λv11=>R.ok []>=>λlL=>R.ok (v11::lL))>=>λv10=>R.of (kO v10))>=>λv8=>R.ok (D.int 1)>=>λv9=>R.of (iA v8 v9))>=>λv6=>aV 0 env>=>λv7=>R.of (iA v6 v7))
def rh(env:DE):R Out:=
 (((bH 0 env>=>λiW=>wo iW>=>λxs=>R.ok (reverse xs))>=>λv2=>iZ env [0]>=>λv3=>R.ne (cY (bN 0) uF nq (jY 1 v3) v2)>=>fit)>=>λv1=>R.ok (Out.ph v1))
def gz:=gp 1 1 rh
def km(d:D)(env:DE):R Out:=
 (bN 2) d env>=>λv7=>
  (bH 1 v7>=>λv8=>(R.ok (D.int 1)>=>λv10=>(aV 2 v7>=>λlL=>R.ok (D.int 1)>=>λiW=>R.of (iA lL iW))>=>λv11=>R.of (Ov v10 v11))>=>λv9=>G7 (λi j=>PySem.Builtin.bitOr i j) 1 v7 v8 v9)
def zo(env:DE):R Out:=
 (aX (R.ok (D.int 0)>=>λv2=>R.ok (Out.nx (List.set env 1 (Sl.val v2)))) λv1=>
 (aX ((bH 0 v1>=>wo)>=>λv4=>iB km v4 v1) λv3=>
 (bH 1 v3>=>λgy=>R.ok (Out.rt gy))))
def nv:=mS 1 3 zo
noncomputable def pT(env:DE):R Out:=
 (aX ((aV 1 env>=>λv3=>((aV 0 env>=>λv6=>R.ok []>=>λv7=>R.ok (v6::v7))>=>λv5=>R.of (kO v5))>=>λv4=>R.of (NP v3 v4)>=>ja)>=>λv2=>if v2=true then((fY 0 env>=>λv9=>aV 1 env>=>λv10=>oW v9 v10)>=>λv8=>R.ok (Out.rt v8))else(R.ok (Out.nx env))) λv1=>
 (R.ok (D.int 0)>=>λv11=>R.ok (Out.rt v11)))
def dS:=mS 2 2 pT
noncomputable def vq(env:DE):R Out:=
 (aX ((bH 1 env>=>λv3=>R.ok (D.int 1)>=>λv4=>Bq v3 v4)>=>λv2=>R.ok (Out.nx (List.set env 2 (Sl.val v2)))) λv1=>
 (aX (((bH 1 v1>=>λv9=>R.ok (D.int 0)>=>λv10=>Bq v9 v10)>=>λv7=>R.ok (D.str "out")>=>λv8=>R.of (rF v7 v8)>=>ja)>=>λv6=>if v6=true then(((fY 0 v1>=>λgy=>R.ok none>=>λkQ=>(aV 2 v1>=>vj)>=>λmJ=>R.ok (cut gy kQ mJ))>=>λlL=>(fY 0 v1>=>λmK=>((aV 2 v1>=>λv20=>R.ok (D.int 2)>=>λqV=>R.of (cD v20 qV))>=>vj)>=>λjO=>R.ok none>=>λje=>R.ok (cut mK jO je))>=>λiW=>fit (lL++iW))>=>λv11=>R.ok (Out.ph v11))else(R.ok (Out.nx v1))) λv5=>
 (aX (((bH 1 v5>=>λuD=>R.ok (D.int 0)>=>λvN=>Bq uD vN)>=>λrJ=>R.ok (D.str "in")>=>λsj=>R.of (rF rJ sj)>=>ja)>=>λoX=>if oX=true then((((fY 0 v5>=>λDu=>R.ok none>=>λDv=>(aV 2 v5>=>vj)>=>λDt=>R.ok (cut Du Dv Dt))>=>λBH=>(((bH 1 v5>=>λDy=>R.ok (D.int 2)>=>λAW=>Bq Dy AW)>=>λAV=>(((bH 1 v5>=>λAc=>R.ok (D.int 2)>=>λCO=>Bq Ac CO)>=>λDF=>R.of (kg DF))>=>λCM=>R.ok []>=>λDG=>R.ok (CM::DG))>=>λDw=>R.ok (AV::Dw))>=>fit)>=>λBI=>fit (BH++BI))>=>λvo=>(fY 0 v5>=>λxx=>(aV 2 v5>=>vj)>=>λDC=>R.ok none>=>λDz=>R.ok (cut xx DC Dz))>=>λv30=>fit (vo++v30))>=>λyN=>R.ok (Out.ph yN))else(R.ok (Out.nx v5))) λjf=>
 (aX (((bH 1 jf>=>λCN=>R.ok (D.int 0)>=>λDD=>Bq CN DD)>=>λDB=>R.ok (D.str "far")>=>λBJ=>R.of (rF DB BJ)>=>ja)>=>λDA=>if DA=true then((((fY 0 jf>=>λG9=>R.ok none>=>λHg=>(aV 2 jf>=>vj)>=>λzj=>R.ok (cut G9 Hg zj))>=>λBK=>(((fY 0 jf>=>λHe=>(aV 2 jf>=>λHd=>R.ok (D.int 1)>=>λHn=>R.of (cD Hd Hn))>=>λHc=>oW He Hc)>=>λHf=>((fY 0 jf>=>λHh=>aV 2 jf>=>λHl=>oW Hh Hl)>=>λHo=>R.ok []>=>λHm=>R.ok (Ho::Hm))>=>λHb=>R.ok (Hf::Hb))>=>fit)>=>λAY=>fit (BK++AY))>=>λHa=>(fY 0 jf>=>λHj=>((aV 2 jf>=>λJK=>R.ok (D.int 2)>=>λJL=>R.of (cD JK JL))>=>vj)>=>λHk=>R.ok none>=>λHi=>R.ok (cut Hj Hk Hi))>=>λAX=>fit (Ha++AX))>=>λHq=>R.ok (Out.ph Hq))else(R.ok (Out.nx jf))) λwD=>
 ((((fY 0 wD>=>λHs=>R.ok none>=>λHt=>(aV 2 wD>=>vj)>=>λT8=>R.ok (cut Hs Ht T8))>=>λOx=>(((fY 0 wD>=>λT9=>(aV 2 wD>=>λUa=>R.ok (D.int 1)>=>λUb=>R.of (cD Ua Ub))>=>λUc=>oW T9 Uc)>=>λUd=>((fY 0 wD>=>λUe=>aV 2 wD>=>λUg=>oW Ue Ug)>=>λMR=>((fY 0 wD>=>λUh=>(aV 2 wD>=>λHu=>R.ok (D.int 1)>=>λDI=>R.of (cD Hu DI))>=>λUi=>oW Uh Ui)>=>λUj=>R.ok []>=>λUk=>R.ok (Uj::Uk))>=>λUl=>R.ok (MR::Ul))>=>λUm=>R.ok (Ud::Um))>=>fit)>=>λUo=>fit (Ox++Uo))>=>λJN=>(fY 0 wD>=>λDJ=>((aV 2 wD>=>λDK=>R.ok (D.int 3)>=>λDM=>R.of (cD DK DM))>=>vj)>=>λDN=>R.ok none>=>λDP=>R.ok (cut DJ DN DP))>=>λJM=>fit (JN++JM))>=>λHr=>R.ok (Out.ph Hr))))))
def jF:=gp 2 3 vq
def xF(env:DE):R Bool:=
 R.ok true
def pU(env:DE):R D:=
 (aV 0 env>=>λv6=>R.of (kg v6))
def vv(env:DE):R Out:=
 (((bH 0 env>=>λv7=>wo v7>=>λxs=>R.ok (reverse xs))>=>λv2=>iZ env []>=>λv3=>R.ne (cY (bN 0) xF pU (jY 1 v3) v2)>=>fit)>=>λv1=>R.ok (Out.ph v1))
def g6:=gp 1 1 vv
noncomputable def dM(d:D)(env:DE):R Out:=
 (bN 2) d env>=>λv7=>
  (((aV 1 v7>=>λv10=>((R.ok []>=>fit)>=>λlL=>R.ok (D.lst lL))>=>λv11=>R.of (AU v10 v11)>=>ja)>=>λv9=>if v9=true then((fY 1 v7>=>λkQ=>(R.ok (D.int 1)>=>λmK=>R.of (kg mK))>=>λmJ=>oW kQ mJ)>=>λiW=>(aV 2 v7>=>λjO=>R.of (kg jO))>=>λgy=>R.of (rF iW gy)>=>ja)else R.ok false)>=>λv8=>if v8=true then(ownAt 1 v7>=>λje=>Og 1 v7 je)else(ownAt 1 v7>=>λv20=>bH 2 v7>=>λqV=>Oe 1 v7 v20 qV))
def nz(env:DE):R Out:=
 (aX ((R.ok []>=>fit)>=>λv2=>R.ok (Out.nx (List.set env 1 (Sl.own v2)))) λv1=>
 (aX ((bH 0 v1>=>wo)>=>λv4=>iB dM v4 v1) λv3=>
 (ownAt 1 v3>=>λjf=>R.ok (Out.ph jf))))
def cL:=gp 1 3 nz
noncomputable def pV(env:DE):R Out:=
 (aX ((aV 3 env>=>λv3=>((R.ok (D.int 1)>=>λv6=>(((aV 0 env>=>λv11=>R.ok []>=>λlL=>R.ok (v11::lL))>=>λv10=>R.of (kO v10))>=>λv8=>R.ok []>=>λv9=>R.ok (v8::v9))>=>λv7=>R.ok (v6::v7))>=>λv5=>R.of (Br v5))>=>λv4=>R.of (mE v3 v4))>=>λv2=>R.ok (Out.nx (List.set env 4 (Sl.val v2)))) λv1=>
 (aX (((aV 2 v1>=>λmJ=>R.ok (D.int 1)>=>λmK=>R.of (rF mJ mK)>=>ja)>=>λkQ=>if kQ=true then(((aV 0 v1>=>λqV=>R.ok []>=>λjf=>R.ok (qV::jf))>=>λv20=>R.of (kO v20))>=>λjO=>R.ok (D.int 1)>=>λje=>R.of (wq jO je)>=>ja)else R.ok false)>=>λgy=>if gy=true then(aX ((aV 4 v1>=>λsj=>(((aV 0 v1>=>λv30=>R.ok []>=>λBH=>R.ok (v30::BH))>=>λvo=>R.of (kO vo))>=>λvN=>R.ok (D.int 1)>=>λyN=>R.of (iA vN yN))>=>λuD=>R.of (mE sj uD))>=>λrJ=>R.ok (Out.nx (List.set v1 4 (Sl.val rJ)))) λoX=>
 (((((fY 0 oX>=>λDy=>R.ok none>=>λAW=>(aV 4 oX>=>vj)>=>λCM=>R.ok (cut Dy AW CM))>=>λAV=>(((fY 0 oX>=>λAc=>(aV 4 oX>=>λxx=>R.ok (D.int 1)>=>λDC=>R.of (cD xx DC))>=>λCO=>oW Ac CO)>=>λDG=>((fY 0 oX>=>λDA=>aV 4 oX>=>λDB=>oW DA DB)>=>λDz=>R.ok []>=>λwD=>R.ok (Dz::wD))>=>λDF=>R.ok (DG::DF))>=>fit)>=>λDw=>fit (AV++Dw))>=>λDv=>(fY 0 oX>=>λBJ=>((aV 4 oX>=>λHq=>R.ok (D.int 2)>=>λHa=>R.of (cD Hq Ha))>=>vj)>=>λCN=>R.ok none>=>λDD=>R.ok (cut BJ CN DD))>=>λDt=>fit (Dv++Dt))>=>λDu=>R.ok (D.lst Du))>=>λBI=>R.ok (Out.rt BI)))else(R.ok (Out.nx v1))) λiW=>
 (aX (((aV 2 iW>=>λG9=>R.ok (D.int 2)>=>λHg=>R.of (rF G9 Hg)>=>ja)>=>λAY=>if AY=true then(aV 0 iW>=>λzj=>((R.ok []>=>fit)>=>λHb=>R.ok (D.lst Hb))>=>λHf=>R.of (AU zj Hf)>=>ja)else R.ok false)>=>λBK=>if BK=true then(((((fY 0 iW>=>λHh=>R.ok none>=>λHl=>(aV 4 iW>=>vj)>=>λHj=>R.ok (cut Hh Hl Hj))>=>λHo=>((((fY 0 iW>=>λJL=>aV 4 iW>=>λHr=>oW JL Hr)>=>λJK=>R.of (kg JK))>=>λHk=>R.ok []>=>λHi=>R.ok (Hk::Hi))>=>fit)>=>λHm=>fit (Ho++Hm))>=>λHd=>(fY 0 iW>=>λJN=>((aV 4 iW>=>λUo=>R.ok (D.int 1)>=>λHs=>R.of (cD Uo Hs))>=>vj)>=>λJM=>R.ok none>=>λOx=>R.ok (cut JN JM Ox))>=>λHn=>fit (Hd++Hn))>=>λHc=>R.ok (D.lst Hc))>=>λHe=>R.ok (Out.rt He))else(R.ok (Out.nx iW))) λAX=>
 (aX ((aV 2 AX>=>λUd=>R.ok (D.int 3)>=>λUm=>R.of (rF Ud Um)>=>ja)>=>λT8=>if T8=true then((((fY 0 AX>=>λMR=>R.ok none>=>λUl=>(aV 4 AX>=>vj)>=>λUe=>R.ok (cut MR Ul Ue))>=>λUa=>(fY 0 AX>=>λUg=>((aV 4 AX>=>λUh=>R.ok (D.int 1)>=>λUi=>R.of (cD Uh Ui))>=>vj)>=>λUj=>R.ok none>=>λUk=>R.ok (cut Ug Uj Uk))>=>λUb=>fit (Ua++Ub))>=>λUc=>R.ok (D.lst Uc))>=>λT9=>R.ok (Out.rt T9))else(R.ok (Out.nx AX))) λHt=>
 (aX (((aV 2 Ht>=>λDN=>R.ok (D.int 4)>=>λDP=>R.of (rF DN DP)>=>ja)>=>λDJ=>if DJ=true then((aV 1 Ht>=>λDM=>R.ok (D.int 2)>=>λJV=>R.of (wq DM JV)>=>ja)>=>λDK=>if DK=true then(((aV 0 Ht>=>λJW=>R.ok []>=>λAf=>R.ok (JW::Af))>=>λJX=>R.of (kO JX))>=>λJY=>R.ok (D.int 3)>=>λJZ=>R.of (NP JY JZ)>=>ja)else R.ok false)else R.ok false)>=>λDI=>if DI=true then(aX ((R.ok (D.int 1)>=>λJ0=>((aV 3 Ht>=>λJ1=>R.ok (D.int 8)>=>λJ2=>R.of (vL J1 J2))>=>λJ3=>(aV 1 Ht>=>λKa=>R.ok (D.int 2)>=>λKb=>R.of (iA Ka Kb))>=>λKc=>R.of (mE J3 Kc))>=>λKd=>R.of (cD J0 Kd))>=>λKe=>R.ok (Out.nx (List.set Ht 5 (Sl.val Ke)))) λqW=>
 (((((fY 0 qW>=>λKf=>R.ok none>=>λKg=>(aV 4 qW>=>vj)>=>λKh=>R.ok (cut Kf Kg Kh))>=>λKj=>((bH 5 qW>=>λKl=>(bH 5 qW>=>λKm=>((aV 5 qW>=>λKn=>R.ok (D.int 1)>=>λKo=>R.of (cD Kn Ko))>=>λKq=>((aV 5 qW>=>λUp=>R.ok (D.int 1)>=>λUq=>R.of (cD Up Uq))>=>λUr=>((aV 5 qW>=>λUs=>R.of (kg Us))>=>λUt=>((aV 5 qW>=>λaa8=>R.of (kg aa8))>=>λUu=>(((aV 5 qW>=>λaa9=>R.of (kg aa9))>=>λaba=>R.ok (D.int 1)>=>λabb=>R.of (iA aba abb))>=>λabd=>(((aV 5 qW>=>λabe=>R.of (kg abe))>=>λabf=>R.ok (D.int 1)>=>λabg=>R.of (iA abf abg))>=>λabh=>R.ok []>=>λabi=>R.ok (abh::abi))>=>λabj=>R.ok (abd::abj))>=>λUv=>R.ok (Uu::Uv))>=>λUw=>R.ok (Ut::Uw))>=>λUx=>R.ok (Ur::Ux))>=>λKr=>R.ok (Kq::Kr))>=>λKs=>R.ok (Km::Ks))>=>λKu=>R.ok (Kl::Ku))>=>fit)>=>λKv=>fit (Kj++Kv))>=>λKx=>(fY 0 qW>=>λabk=>(aV 4 qW>=>vj)>=>λabl=>R.ok none>=>λabm=>R.ok (cut abk abl abm))>=>λKy=>fit (Kx++Ky))>=>λKz=>R.ok (D.lst Kz))>=>λOz=>R.ok (Out.rt Oz)))else(R.ok (Out.nx Ht))) λHu=>
 (bH 0 Hu>=>λabn=>R.ok (Out.rt abn)))))))
def fO:=mD 4 6 pV
def BU(env:DE):R Out:=
 ((((((bH 0 env>=>λv5=>R.ok []>=>λv6=>R.ok (v5::v6))>=>cJ)>=>λv4=>R.ok (D.lst v4))>=>λv2=>R.ok []>=>λv3=>R.ok (v2::v3))>=>qB)>=>λv1=>R.ok (Out.ph v1))
def sE:=gp 1 1 BU
noncomputable def jb(env:DE):R Out:=
 (((((((((bH 0 env>=>λv8=>R.ok []>=>λv9=>R.ok (v8::v9))>=>cJ)>=>λv7=>R.ok (D.lst v7))>=>λv5=>(bH 1 env>=>λv10=>R.ok []>=>λv11=>R.ok (v10::v11))>=>λv6=>R.ok (v5::v6))>=>aU)>=>λv4=>R.ok (D.lst v4))>=>λv2=>R.ok []>=>λv3=>R.ok (v2::v3))>=>cJ)>=>λv1=>R.ok (Out.ph v1))
def cU:=gp 2 2 jb
noncomputable def lV(d:D)(env:DE):R Out:=
 (bN 3) d env>=>λv9=>
  (aX ((aV 3 v9>=>λlL=>R.ok (D.int 0)>=>λiW=>R.of (NP lL iW)>=>ja)>=>λv11=>if v11=true then(R.bad:R Out)else(R.ok (Out.nx v9))) λv10=>
 (aX (((fY 2 v10>=>λjO=>(aV 3 v10>=>λv20=>R.ok (D.int 1)>=>λqV=>R.of (iA v20 qV))>=>λje=>oW jO je)>=>λmJ=>(fY 2 v10>=>λjf=>aV 3 v10>=>λoX=>oW jf oX)>=>λmK=>R.of (wq mJ mK)>=>ja)>=>λkQ=>if kQ=true then(R.bad:R Out)else(R.ok (Out.nx v10))) λgy=>
 (((aV 2 gy>=>λsj=>(aV 3 gy>=>λvN=>R.ok []>=>λyN=>R.ok (vN::yN))>=>λuD=>R.ok (sj::uD))>=>aU)>=>λrJ=>R.ok (Out.nx (List.set gy 2 (Sl.own rJ))))))
def BV(env:DE):R Out:=
 (aX (((bH 0 env>=>λv3=>R.ok []>=>λv4=>R.ok (v3::v4))>=>dE)>=>λv2=>R.ok (Out.nx (List.set env 2 (Sl.own v2)))) λv1=>
 (aX ((bH 1 v1>=>wo)>=>λv6=>iB lV v6 v1) λv5=>
 (ownAt 2 v5>=>λvo=>R.ok (Out.ph vo))))
def nA:=gp 2 4 BV
def DQ(env:DE):R Bool:=
 R.ok true
def xG(env:DE):R D:=
 ((((aV 1 env>=>λv11=>R.ok []>=>λlL=>R.ok (v11::lL))>=>λv10=>R.of (kO v10))>=>λv8=>R.ok (D.int 1)>=>λv9=>R.of (iA v8 v9))>=>λv6=>aV 0 env>=>λv7=>R.of (iA v6 v7))
def EZ(env:DE):R Out:=
 ((((((bH 0 env>=>λgy=>R.ok []>=>λkQ=>R.ok (gy::kQ))>=>cJ)>=>λiW=>R.ok (D.lst iW))>=>wo)>=>λv2=>iZ env [0]>=>λv3=>R.ne (cY (bN 0) DQ xG (jY 1 v3) v2)>=>fit)>=>λv1=>R.ok (Out.ph v1))
def sF:=gp 1 1 EZ
noncomputable def pW(d:D)(env:DE):R Out:=
 (bN 5) d env>=>λiW=>
  (aX (((aV 5 iW>=>λmK=>R.ok []>=>λjO=>R.ok (mK::jO))>=>λmJ=>R.of (xn mJ))>=>λkQ=>R.ok (Out.nx (List.set iW 6 (Sl.val kQ)))) λgy=>
 (aX (((((aV 2 gy>=>λsj=>R.ok []>=>λuD=>R.ok (sj::uD))>=>λrJ=>R.of (kO rJ))>=>λjf=>R.ok (D.int 0)>=>λoX=>R.of (rF jf oX)>=>ja)>=>λqV=>if qV=true then R.ok true else((aV 4 gy>=>λyN=>(aV 5 gy>=>λv30=>R.ok (D.int 0)>=>λBH=>R.of (wq v30 BH))>=>λvo=>R.of (AU yN vo)>=>ja)>=>λvN=>if vN=true then R.ok true else((fY 3 gy>=>λDv=>(aV 6 gy>=>λAV=>R.ok (D.int 1)>=>λDw=>R.of (iA AV Dw))>=>λDt=>oW Dv Dt)>=>λBI=>(fY 3 gy>=>λDy=>aV 6 gy>=>λAW=>oW Dy AW)>=>λDu=>R.of (wq BI Du)>=>ja)))>=>λv20=>if v20=true then(aX (gS 2 gy>=>λDG=>(R.ok []>=>fit)>=>λDF=>R.of (Ik DF)>=>λAc=>JJ 2 gy DG Ac) λCM=>
 (aX (((bH 0 CM>=>λDC=>R.ok []>=>λDz=>R.ok (DC::Dz))>=>dE)>=>λxx=>R.ok (Out.nx (List.set CM 3 (Sl.own xx)))) λCO=>
 ((aV 5 CO>=>λDA=>R.ok (D.int 0)>=>λDB=>R.of (wq DA DB))>=>λwD=>R.ok (Out.nx (List.set CO 4 (Sl.val wD))))))else(R.ok (Out.nx gy))) λje=>
 (aX (gS 2 je>=>λCN=>(R.ok (D.int 1)>=>λAX=>R.of (kg AX))>=>λDD=>BG CN DD>=>λHq=>aV 5 je>=>λHa=>Ds 2 je CN Hq Ha) λBJ=>
 (aX ((fY 3 BJ>=>λG9=>aV 6 BJ>=>λHg=>oW G9 Hg)>=>λAY=>R.ok (Out.nx (List.set BJ 7 (Sl.val AY)))) λBK=>
 (aX ((fY 3 BK>=>λHc=>(aV 6 BK>=>λHn=>R.ok (D.int 1)>=>λHo=>R.of (iA Hn Ho))>=>λHd=>oW Hc Hd)>=>λHf=>ownAt 3 BK>=>λHb=>aV 6 BK>=>λHe=>vM 3 BK Hf Hb He) λzj=>
 (bH 7 zj>=>λHm=>ownAt 3 zj>=>λHh=>(aV 6 zj>=>λHj=>R.ok (D.int 1)>=>λHk=>R.of (iA Hj Hk))>=>λHl=>vM 3 zj Hm Hh Hl))))))
noncomputable def Q8(env:DE):R Out:=
 (aX (R.ok ([]:List (List Int))>=>λv2=>(fit v2>=>λy=>R.ok (Out.nx (List.set env 2 (Sl.deep (Ct.ls y)))))) λv1=>
 (aX (((bH 0 v1>=>λv5=>R.ok []>=>λv6=>R.ok (v5::v6))>=>dE)>=>λv4=>R.ok (Out.nx (List.set v1 3 (Sl.own v4)))) λv3=>
 (aX (R.ok (D.bl false)>=>λv8=>R.ok (Out.nx (List.set v3 4 (Sl.val v8)))) λv7=>
 (aX ((bH 1 v7>=>wo)>=>λv10=>iB pW v10 v7) λv9=>
 (gS 2 v9>=>λHi=>R.ok (Out.EB Hi))))))
def BW:=mT 2 8 Q8
noncomputable def rn(env:DE):R Out:=
 (aX (((aV 0 env>=>λv5=>R.ok (D.int 2)>=>λv6=>R.of (mE v5 v6))>=>λv3=>R.ok (D.int 0)>=>λv4=>R.of (rF v3 v4)>=>ja)>=>λv2=>if v2=true then(fY 1 env>=>λv7=>R.ok (Out.ph v7))else(R.ok (Out.nx env))) λv1=>
 (((bH 1 v1>=>λv9=>R.ok []>=>λv10=>R.ok (v9::v10))>=>gz)>=>λv8=>R.ok (Out.ph v8)))
def gA:=gp 2 2 rn
noncomputable def vx(env:DE):R Out:=
 (aX ((aV 2 env>=>λv3=>(((aV 0 env>=>λv8=>R.ok []>=>λv9=>R.ok (v8::v9))>=>λv7=>R.of (kO v7))>=>λv5=>R.ok (D.int 1)>=>λv6=>R.of (cD v5 v6))>=>λv4=>R.of (mE v3 v4))>=>λv2=>R.ok (Out.nx (List.set env 4 (Sl.val v2)))) λv1=>
 (aX (((fY 0 v1>=>λiW=>(aV 4 v1>=>vj)>=>λgy=>((aV 4 v1>=>λmJ=>R.ok (D.int 3)>=>λmK=>R.of (cD mJ mK))>=>vj)>=>λkQ=>R.ok (cut iW gy kQ))>=>λlL=>R.ok (D.lst lL))>=>λv11=>R.ok (Out.nx (List.set v1 5 (Sl.val v11)))) λv10=>
 (aX (((((aV 5 v10>=>λrJ=>R.ok []>=>λsj=>R.ok (rJ::sj))>=>λoX=>R.of (kO oX))>=>λqV=>R.ok (D.int 1)>=>λjf=>R.of (wq qV jf)>=>ja)>=>λv20=>if v20=true then(((fY 5 v10>=>λvo=>R.ok (D.int 0)>=>λv30=>oW vo v30)>=>λvN=>((fY 5 v10>=>λBI=>R.ok (D.int 1)>=>λDu=>oW BI Du)>=>λBH=>R.of (kg BH))>=>λyN=>R.of (rF vN yN)>=>ja)>=>λuD=>if uD=true then(((aV 2 v10>=>λDy=>R.ok (D.int 128)>=>λAW=>R.of (vL Dy AW))>=>λAV=>R.ok (D.int 3)>=>λDw=>R.of (mE AV Dw))>=>λDv=>R.ok (D.int 0)>=>λDt=>R.of (wq Dv Dt)>=>ja)else R.ok false)else R.ok false)>=>λje=>if je=true then((((R.ok (D.str "out")>=>λDG=>(bH 4 v10>=>λAc=>R.ok []>=>λCO=>R.ok (Ac::CO))>=>λDF=>R.ok (DG::DF))>=>fit)>=>λds=>R.ok (D.tup ds))>=>λCM=>R.ok (Out.rt CM))else(R.ok (Out.nx v10))) λjO=>
 (aX (((((aV 5 jO>=>λBJ=>R.ok []>=>λCN=>R.ok (BJ::CN))>=>λDB=>R.of (kO DB))>=>λwD=>R.ok (D.int 1)>=>λDA=>R.of (wq wD DA)>=>ja)>=>λDz=>if Dz=true then((((((((fY 5 jO>=>λHe=>R.ok (D.int 0)>=>λHc=>oW He Hc)>=>λHf=>R.ok []>=>λHb=>R.ok (Hf::Hb))>=>λzj=>R.of (xn zj))>=>λG9=>(((fY 5 jO>=>λHm=>R.ok (D.int 1)>=>λHh=>oW Hm Hh)>=>λHn=>R.ok []>=>λHo=>R.ok (Hn::Ho))>=>λHd=>R.of (xn Hd))>=>λHg=>R.of (iA G9 Hg))>=>λBK=>R.ok []>=>λAY=>R.ok (BK::AY))>=>λAX=>R.of (xn AX))>=>λHq=>R.ok (D.int 1)>=>λHa=>R.of (wq Hq Ha)>=>ja)>=>λDD=>if DD=true then(((aV 2 jO>=>λJK=>R.ok (D.int 128)>=>λJL=>R.of (vL JK JL))>=>λHk=>R.ok (D.int 5)>=>λHi=>R.of (mE Hk Hi))>=>λHl=>R.ok (D.int 0)>=>λHj=>R.of (wq Hl Hj)>=>ja)else R.ok false)else R.ok false)>=>λDC=>if DC=true then((((R.ok (D.str "far")>=>λJN=>(bH 4 jO>=>λOx=>R.ok []>=>λUo=>R.ok (Ox::Uo))>=>λJM=>R.ok (JN::JM))>=>fit)>=>λds=>R.ok (D.tup ds))>=>λHr=>R.ok (Out.rt Hr))else(R.ok (Out.nx jO))) λxx=>
 (aX (((((aV 5 xx>=>λUc=>R.ok []>=>λUa=>R.ok (Uc::Ua))>=>λT9=>R.of (kO T9))>=>λUd=>R.ok (D.int 2)>=>λUm=>R.of (wq Ud Um)>=>ja)>=>λT8=>if T8=true then(((fY 5 xx>=>λUe=>R.ok (D.int 0)>=>λUg=>oW Ue Ug)>=>λMR=>(fY 5 xx>=>λUj=>R.ok (D.int 2)>=>λUk=>oW Uj Uk)>=>λUl=>R.of (rF MR Ul)>=>ja)>=>λUb=>if Ub=true then((((fY 5 xx>=>λDN=>R.ok (D.int 0)>=>λDP=>oW DN DP)>=>λDI=>(fY 5 xx>=>λDK=>R.ok (D.int 1)>=>λDM=>oW DK DM)>=>λDJ=>R.of (Dj DI DJ))>=>λUi=>R.ok (D.int 0)>=>λHu=>R.of (wq Ui Hu)>=>ja)>=>λUh=>if Uh=true then(((((fY 5 xx>=>λKe=>R.ok (D.int 0)>=>λJ0=>oW Ke J0)>=>λAf=>(fY 5 xx>=>λKd=>R.ok (D.int 1)>=>λJ3=>oW Kd J3)>=>λqW=>R.of (iA Af qW))>=>λJX=>R.ok []>=>λJW=>R.ok (JX::JW))>=>λJZ=>R.of (xn JZ))>=>λJV=>R.ok (D.int 1)>=>λJY=>R.of (rF JV JY)>=>ja)else R.ok false)else R.ok false)else R.ok false)>=>λHt=>if Ht=true then((((R.ok (D.str "near")>=>λJ1=>(bH 4 xx>=>λKa=>R.ok []>=>λKb=>R.ok (Ka::Kb))>=>λJ2=>R.ok (J1::J2))>=>fit)>=>λds=>R.ok (D.tup ds))>=>λKc=>R.ok (Out.rt Kc))else(R.ok (Out.nx xx))) λHs=>
 (aX (((aV 1 Hs>=>λKy=>R.ok (D.int 1)>=>λKj=>R.of (wq Ky Kj)>=>ja)>=>λKx=>if Kx=true then((((aV 0 Hs>=>λKu=>R.ok []>=>λKm=>R.ok (Ku::Km))>=>λKl=>R.of (kO Kl))>=>λKg=>R.ok (D.int 2)>=>λKh=>R.of (cD Kg Kh))>=>λKv=>aV 3 Hs>=>λKf=>R.of (WH Kv Kf)>=>ja)else R.ok false)>=>λKz=>if Kz=true then((((R.ok (D.str "in")>=>λKq=>(bH 4 Hs>=>λKn=>((((aV 2 Hs>=>λUt=>R.ok (D.int 1024)>=>λUw=>R.of (vL Ut Uw))>=>λUp=>(aV 1 Hs>=>λUs=>R.ok []>=>λUu=>R.ok (Us::Uu))>=>λUq=>R.ok (Up::Uq))>=>cB)>=>λUr=>R.ok []>=>λUx=>R.ok (Ur::Ux))>=>λKo=>R.ok (Kn::Ko))>=>λKr=>R.ok (Kq::Kr))>=>fit)>=>λds=>R.ok (D.tup ds))>=>λKs=>R.ok (Out.rt Ks))else(R.ok (Out.nx Hs))) λOz=>
 (R.ok D.non>=>λUv=>R.ok (Out.rt Uv))))))))
def jG:=mD 4 6 vx
def gD(env:DE):R Bool:=
 R.ok true
def eJ(env:DE):R D:=
 ((((aV 0 env>=>λv10=>R.ok (D.int 1)>=>λv11=>R.of (cD v10 v11))>=>λv8=>R.ok []>=>λv9=>R.ok (v8::v9))>=>fit)>=>λv7=>R.ok (D.lst v7))
noncomputable def gE(d:D)(env:DE):R Out:=
 (bN 3) d env>=>λjO=>
  (aX (R.bind ((fY 2 jO>=>λjf=>(((aV 3 jO>=>λvN=>R.ok []>=>λyN=>R.ok (vN::yN))>=>λuD=>R.of (xn uD))>=>λrJ=>R.ok (D.int 1)>=>λsj=>R.of (iA rJ sj))>=>λoX=>oW jf oX)>=>λv20=>((fY 2 jO>=>λBH=>((aV 3 jO>=>λDv=>R.ok []>=>λDt=>R.ok (Dv::Dt))>=>λDu=>R.of (xn Du))>=>λBI=>oW BH BI)>=>λvo=>R.ok []>=>λv30=>R.ok (vo::v30))>=>λqV=>R.ok (v20::qV)) (Oo 4 5 jO)) λje=>
 ((aV 3 je>=>λDw=>R.ok (D.int 0)>=>λDy=>R.of (wq Dw Dy)>=>ja)>=>λAV=>if AV=true then(aX (((((((fY 4 je>=>λDA=>fY 5 je>=>λDB=>fit (DA++DB))>=>λDz=>((bH 4 je>=>λBJ=>R.ok []>=>λCN=>R.ok (BJ::CN))>=>g6)>=>λwD=>fit (Dz++wD))>=>λDC=>R.ok (D.lst DC))>=>λCO=>R.ok []>=>λxx=>R.ok (CO::xx))>=>cL)>=>λAc=>R.ok (D.lst Ac))>=>λCM=>ownAt 2 je>=>λDG=>(aV 3 je>=>λDD=>R.ok (D.int 1)>=>λHq=>R.of (iA DD Hq))>=>λDF=>vM 2 je CM DG DF) λAW=>
 (bH 4 AW>=>λHa=>ownAt 2 AW>=>λAX=>aV 3 AW>=>λBK=>vM 2 AW Ha AX BK))else(aX (bH 5 je>=>λG9=>ownAt 2 je>=>λHg=>((aV 3 je>=>λHe=>R.of (kg He))>=>λHf=>R.ok (D.int 1)>=>λHb=>R.of (iA Hf Hb))>=>λzj=>vM 2 je G9 Hg zj) λAY=>
 (((((((((bH 5 AY>=>λJL=>R.ok []>=>λHr=>R.ok (JL::Hr))>=>g6)>=>λHi=>fY 4 AY>=>λJK=>fit (Hi++JK))>=>λHj=>fY 5 AY>=>λHk=>fit (Hj++Hk))>=>λHl=>R.ok (D.lst Hl))>=>λHm=>R.ok []>=>λHh=>R.ok (Hm::Hh))>=>cL)>=>λHo=>R.ok (D.lst Ho))>=>λHc=>ownAt 2 AY>=>λHd=>(aV 3 AY>=>λJN=>R.of (kg JN))>=>λHn=>vM 2 AY Hc Hd Hn))))
noncomputable def sG(env:DE):R Out:=
 (aX ((((aV 0 env>=>λlL=>R.ok []>=>λiW=>R.ok (lL::iW))>=>NU)>=>λv3=>iZ env []>=>λv4=>R.ne (cY (bN 0) gD eJ (jY 1 v4) v3)>=>fit)>=>λv2=>R.ok (Out.nx (List.set env 2 (Sl.own v2)))) λv1=>
 (aX ((bH 1 v1>=>wo)>=>λkQ=>iB gE kQ v1) λgy=>
 (ownAt 2 gy>=>λJM=>R.ok (Out.ph JM))))
def f9:=mF 2 6 sG
noncomputable def rq(env:DE):R Out:=
 (((((R.ok (D.int 1)>=>λv4=>R.of (kg v4))>=>λv2=>((((bH 0 env>=>λv8=>R.ok []>=>λv9=>R.ok (v8::v9))>=>sF)>=>λv7=>R.ok (D.lst v7))>=>λv5=>R.ok []>=>λv6=>R.ok (v5::v6))>=>λv3=>R.ok (v2::v3))>=>fit)>=>λds=>R.ok (D.tup ds))>=>λv1=>R.ok (Out.rt v1))
def jo:=mD 1 1 rq
noncomputable def dU(d:D)(env:DE):R Out:=
 (bN 3) d env>=>λv9=>
  (aX (gS 1 v9>=>λv11=>((bH 2 v9>=>λgy=>((bH 3 v9>=>λjO=>R.ok (D.int 1)>=>λje=>Bq jO je)>=>λmJ=>R.ok []>=>λmK=>R.ok (mJ::mK))>=>λkQ=>R.ok (gy::kQ))>=>gA)>=>λlL=>R.of (Ik lL)>=>λiW=>JJ 1 v9 v11 iW) λv10=>
 (bH 2 v10>=>λv20=>(bH 3 v10>=>λjf=>R.ok (D.int 0)>=>λoX=>Bq jf oX)>=>λqV=>G7 (λi j=>i+j) 2 v10 v20 qV))
noncomputable def jH(env:DE):R Out:=
 (aX (R.ok ([]:List (List Int))>=>λv2=>(fit v2>=>λy=>R.ok (Out.nx (List.set env 1 (Sl.deep (Ct.ls y)))))) λv1=>
 (aX (R.ok (D.int 0)>=>λv4=>R.ok (Out.nx (List.set v1 2 (Sl.val v4)))) λv3=>
 (aX ((bH 0 v3>=>λrJ=>wo rJ>=>λxs=>R.ok (reverse xs))>=>λv6=>iB dU v6 v3) λv5=>
 (aX (gS 1 v5>=>λuD=>R.ok (Out.nx (List.set v5 1 (Sl.deep (Ct.ls (reverse uD)))))) λsj=>
 (gS 1 sj>=>λvN=>R.ok (Out.EB vN))))))
def bp:=mT 1 4 jH
noncomputable def iI(d:D)(env:DE):R Out:=
 (bT 2 (jZ (bN 4) (jZ (bN 5) yL))) d env>=>λv5=>
  (aX (((bH 0 v5>=>λv8=>(bH 1 v5>=>λv10=>(((aV 5 v5>=>λgy=>(aV 4 v5>=>λmJ=>(R.ok (D.int 69621)>=>λjO=>R.ok []>=>λje=>R.ok (jO::je))>=>λmK=>R.ok (mJ::mK))>=>λkQ=>R.ok (gy::kQ))>=>cA)>=>λlL=>(bH 3 v5>=>λv20=>R.ok []>=>λqV=>R.ok (v20::qV))>=>λiW=>R.ok (lL::iW))>=>λv11=>R.ok (v10::v11))>=>λv9=>R.ok (v8::v9))>=>jG)>=>λv7=>R.ok (Out.nx (List.set v5 6 (Sl.val v7)))) λv6=>
 ((aV 6 v6>=>λoX=>R.ok D.non>=>λrJ=>R.of (BD oX rJ)>=>ja)>=>λjf=>if jf=true then((((bH 0 v6>=>λvN=>(bH 6 v6>=>λvo=>R.ok []>=>λv30=>R.ok (vo::v30))>=>λyN=>R.ok (vN::yN))>=>jF)>=>λuD=>R.ok (D.lst uD))>=>λsj=>R.ok (Out.nx (List.set v6 0 (Sl.val sj))))else(R.ok (Out.nx v6))))
def pX(env:DE):R Out:=
 (aX ((bH 2 env>=>λBH=>wo BH>=>λxs=>R.ok (eI xs))>=>λv2=>iB iI v2 env) λv1=>
 (bH 0 v1>=>λBI=>R.ok (Out.rt BI)))
def fQ:=mD 4 7 pX
noncomputable def zp(env:DE):R Out:=
 (aX (((fY 1 env>=>λv5=>R.ok (D.int 0)>=>λv6=>oW v5 v6)>=>λv3=>R.ok (D.int 0)>=>λv4=>R.of (wq v3 v4)>=>ja)>=>λv2=>if v2=true then((((R.ok (D.int 0)>=>λv8=>((((bH 0 env>=>λiW=>(bH 1 env>=>λkQ=>R.ok []>=>λmJ=>R.ok (kQ::mJ))>=>λgy=>R.ok (iW::gy))>=>nA)>=>λlL=>R.ok (D.lst lL))>=>λv10=>R.ok []>=>λv11=>R.ok (v10::v11))>=>λv9=>R.ok (v8::v9))>=>fit)>=>λds=>R.ok (D.tup ds))>=>λv7=>R.ok (Out.rt v7))else(R.ok (Out.nx env))) λv1=>
 ((((((bH 0 v1>=>λqV=>((((bH 1 v1>=>λuD=>R.ok []>=>λvN=>R.ok (uD::vN))>=>pS)>=>λsj=>R.ok (D.lst sj))>=>λoX=>R.ok []>=>λrJ=>R.ok (oX::rJ))>=>λjf=>R.ok (qV::jf))>=>nA)>=>λv20=>R.ok (D.lst v20))>=>λjO=>R.ok []>=>λje=>R.ok (jO::je))>=>jo)>=>λmK=>R.ok (Out.rt mK)))
def nC:=mD 2 2 zp
def pY(env:DE):R Bool:=
 R.ok true
def kT(env:DE):R D:=
 ((aV 1 env>=>λvo=>(aV 0 env>=>λBH=>(R.ok (D.int 16807)>=>λDu=>R.ok []>=>λDv=>R.ok (Du::Dv))>=>λBI=>R.ok (BH::BI))>=>λv30=>R.ok (vo::v30))>=>cA)
noncomputable def vz(env:DE):R Out:=
 (aX ((((((fY 0 env>=>λv7=>R.ok none>=>λv8=>(R.ok (D.int 63)>=>vj)>=>λv9=>R.ok (cut v7 v8 v9))>=>λv6=>R.ok (D.lst v6))>=>λv4=>(bH 1 env>=>λv10=>(R.ok (D.int 189)>=>λlL=>R.ok []>=>λiW=>R.ok (lL::iW))>=>λv11=>R.ok (v10::v11))>=>λv5=>R.ok (v4::v5))>=>iG)>=>λv3=>R.ok (D.lst v3))>=>λv2=>R.ok (Out.nx (List.set env 3 (Sl.val v2)))) λv1=>
 (aX ((((aV 3 v1>=>λje=>R.ok []>=>λv20=>R.ok (je::v20))>=>λjO=>R.of (kO jO))>=>λmJ=>aV 2 v1>=>λmK=>R.of (WH mJ mK)>=>ja)>=>λkQ=>if kQ=true then(bH 3 v1>=>λqV=>R.ok (Out.rt qV))else(R.ok (Out.nx v1))) λgy=>
 (aX ((((bH 0 gy>=>λDt=>wo Dt>=>λxs=>R.ok (eI xs))>=>λsj=>iZ gy []>=>λuD=>R.ne (cY (bT 2 (jZ (bN 0) (jZ (bN 1) yL))) pY kT (jY 2 uD) sj)>=>fit)>=>λrJ=>R.of (zh rJ))>=>λoX=>R.ok (Out.nx (List.set gy 4 (Sl.val oX)))) λjf=>
 (aX ((aV 4 jf>=>λDy=>((((aV 3 jf>=>λxx=>R.ok []>=>λDC=>R.ok (xx::DC))>=>λCO=>R.of (kO CO))>=>λDF=>aV 2 jf>=>λAc=>R.of (iA DF Ac))>=>λCM=>R.ok (D.int 1)>=>λDG=>R.of (cD CM DG))>=>λAW=>R.of (mE Dy AW))>=>λDw=>R.ok (Out.nx (List.set jf 5 (Sl.val Dw)))) λAV=>
 (((fY 3 AV>=>λDA=>(aV 5 AV>=>vj)>=>λDB=>((aV 5 AV>=>λCN=>aV 2 AV>=>λDD=>R.of (cD CN DD))>=>vj)>=>λBJ=>R.ok (cut DA DB BJ))>=>λwD=>R.ok (D.lst wD))>=>λDz=>R.ok (Out.rt Dz))))))
def jI:=mD 3 6 vz
def gU(env:DE):R Bool:=
 R.ok true
def cQ(env:DE):R D:=
 ((bH 1 env>=>λv7=>(bH 0 env>=>λv9=>R.ok []>=>λv10=>R.ok (v9::v10))>=>λv8=>R.ok (v7::v8))>=>nC)
noncomputable def oZ(env:DE):R Out:=
 (((((R.ne ((aV 0 env>=>λlL=>((((bH 1 env>=>λmK=>R.ok []>=>λjO=>R.ok (mK::jO))>=>nk)>=>λmJ=>R.ok (D.lst mJ))>=>λgy=>R.ok []>=>λkQ=>R.ok (gy::kQ))>=>λiW=>R.ok (lL::iW))>=>BW))>=>λv11=>R.ok (map (λns=>D.lst (map D.int ns)) v11))>=>λv3=>iZ env [0]>=>λv4=>R.ne (cY (bN 0) gU cQ (jY 1 v4) v3)>=>fit)>=>λv2=>R.ok (D.lst v2))>=>λv1=>R.ok (Out.rt v1))
def eM:=mD 2 2 oZ
section
variable{X:Cx}
theorem KA{A:Around}{E:Value->Shared->Prop}{s:Shared}{d:Addr}{xs:List (List Key×Addr×Value)}{Q:Value->Shared->Prop}(hd:(d==sysModules)=false)
  (m:Heap.DictOfH (tupleKind (dJ X.prog X.w)) s.heap d xs)(z:xs.length<=sizeLine)(q:Q (.int xs.length (s.toks+1)) {s with toks:=s.toks+1+1}):wpAny (model X.prog X.w) A (call (.builtin "len") [.ref d]) Q E s:=by
 have z':xs.length<=16777216:=z
 have inner:∀A,wpAny (model X.prog X.w) A (call (.builtin "dict.__len__") [.ref d]) (λr s'=>r=.int xs.length s.toks/\s'={s with toks:=s.toks+1}) E s:=λA=>by
  refine call_meetsIn (S:=λ_ R s'=>s'=s/\R (.ok (.ret (.int xs.length s.toks))) {s with toks:=s.toks+1}) slot_dict_len m.typeIs PySem.F.entry_dict_len (PySem.F.args_dict_len_1 _) (.of_wp λA R s' h=>?_) ⟨rfl,rfl,rfl⟩
  obtain⟨rfl,h⟩:=h
  obtain⟨o,es,ep,h1,h2,h3,h4,_⟩:=m
  show wpAny _ _ (dictSize d>>=λn=>_) _ _ _
  unfold dictSize
  refine wpAny_bind (wpAny_bind (wpAny_dictEntries h1 h3 (wpAny_pure (wpAny_bind (wpAny_pendingCount_other hd (wpAny_ret_mkInt ?_))))))
  rw[size_of_entries h4]
  exact h
 refine Calls.call_function_entry kind_len plain_len entry_len (args_len1 _) ?_
 unfold Builtin.«len»
 refine wpAny_bind (wpAny_pure (wpAny_bind (wpAny_callSpecial?_slot (name:=Str.ofString "__len__") m.typeIs slot_dict_len (cM (inner _) λr s' h=>?_))))
 obtain⟨rfl,rfl⟩:=h
 refine wpAny_bind (wpAny_holding (wpAny_pure (wpAny_bind (wpAny_letGo ?_))))
 show wpAny _ _ (if((xs.length:Nat):Int)<0 then _ else _) _ _ _
 rw[if_neg (by lia)]
 show wpAny _ _ (if 2^63<=((xs.length:Nat):Int)then _ else _) _ _ _
 rw[if_neg (by lia)]
 exact wpAny_bind (wpAny_mkInt (wpAny_pure ⟨_,rfl,q⟩))
theorem Hv:q9 X (.builtin "len") (λxs H Q=>∃a kvs,xs=[V.ref a]/\H a=some (.dT kvs)/\Q (.int kvs.length) H):=by
 intro pins s σ H xs us Q I r h
 obtain⟨a,kvs,rfl,ha,q⟩:=h
 obtain⟨u,rfl,ru⟩:=vals1 r
 cases ru
 obtain⟨z,hd,ys,rel,dd⟩:=xj I.hok (.inl ha)
 have e:kvs.length=ys.length:=Paired.length rel
 exact KA hd dd (by lia) ⟨.int kvs.length,H,I.tok _,⟨_,by rw[e]⟩,q⟩
theorem OA:ZR X "int.bit_length" (λx vs H Q=>∃i,x=.int i/\vs=[]/\Q (.int (Builtin.Int.intBits i)) H):=by
 intro pins s σ H x xs v us Q I r rs h
 obtain⟨i,rfl,rfl,q⟩:=h
 obtain⟨t,rfl⟩:=r
 have e:=rs.zero
 subst e
 exact call_int_bit_length ⟨.int _,H,I.tok _,⟨_,rfl⟩,q⟩
end
theorem R.n8 {α:Type}(a:α):(R.ok a).ne=.ok a:=rfl
theorem n9{b:D->DE->R DE}{ct:DE->R Bool}{fe:DE->R D}{e₀:DE}(g:Int->Int)(w:List Int)(h:∀k∈w,∃e,b (.int k) e₀=.ok e/\ct e=.ok true/\fe e=.ok (.int (g k))):cY b ct fe e₀ (aM w)=.ok (aM (w.map g)):=by
 rw[qz (λd=>match d with
  |.int k=>.int (g k)
  |_=>.non) _ λx hx=>by
   obtain⟨k,hk,rfl⟩:=mem_map.mp hx
   exact h k hk]
 unfold aM
 rw[map_map,map_map]
 rfl
def upTo(n:Nat):List Int:=(range n).map λi=>((i:Nat):Int)
theorem ak(n:Nat):(upTo n).length=n:=by simp[upTo]
theorem pZ(n j:Nat)(h:j<n):(upTo n)[j]?=some (j:Int):=by simp[upTo,h]
theorem mem_upTo{n:Nat}{x:Int}:x∈upTo n↔0<=x/\x<n:=by
 simp_all only [upTo,mem_map,mem_range]
 constructor
 ·rintro⟨i,h,rfl⟩;lia
 ·rintro⟨h1,h2⟩;exact⟨x.toNat,by lia,by lia⟩
theorem Hw(n:Nat):rD 0 n=aM (upTo n):=by
 rw[z8];congr 1;simp[upTo]
theorem xH(n:Nat):(upTo n).Nodup:=by
 unfold upTo
 unfold Nodup
 rw[List.pairwise_map]
 exact List.pairwise_lt_range.imp λh=>by lia
def bF(n:Nat)(r:List Int):Prop:=r.Perm (upTo n)
theorem bF.len {n:Nat}{r:List Int}(h:bF n r):r.length=n:=by rw[h.length_eq,ak]
theorem bF.nd {n:Nat}{r:List Int}(h:bF n r):r.Nodup:=h.nodup_iff.mpr (xH n)
theorem bF.mem {n:Nat}{r:List Int}(h:bF n r){x:Int}:x∈r↔0<=x/\x<n:=h.mem_iff.trans mem_upTo
theorem bF.get {n:Nat}{r:List Int}(h:bF n r){j:Nat}{x:Int}(e:r[j]?=some x):0<=x/\x<n:=h.mem.mp (mem_of_getElem? e)
def aa(ns:List Int)(k:Nat):Int:=(ns[k]?).getD 0
theorem dz{l:List Int}{j:Nat}(h:j<l.length):l[j]?=some (aa l j):=by
 unfold aa
 rw[getElem?_eq_getElem h]
 rfl
theorem aY{a b:List Int}(hl:a.length=b.length)(h:∀j,j<a.length->aa a j=aa b j):a=b:=by
 refine List.ext_getElem? λj=>?_
 by_cases hj:j<a.length
 ·rw[dz hj,dz (hl▸hj),h j hj]
 ·rw[getElem?_eq_none (by lia),getElem?_eq_none (by lia)]
theorem ar{n j:Nat}(h:j<n):aa (upTo n) j=j:=by unfold aa;rw[pZ n j h];rfl
theorem xJ{l:List Int}{j i:Nat}{x:Int}(h:j<l.length):aa (l.set i x) j=if i=j then x else aa l j:=by
 unfold aa
 rw[List.getElem?_set]
 split
 ·subst_vars
  rw[if_pos h]
  rfl
 ·rfl
def cZ:List Int->Nat->List Int
 |x::y::l,0=>y::x::l
 |x::l,a+1=>x::cZ l a
 |l,_=>l
theorem rz(x:Int)(l:List Int)(a:Nat):cZ (x::l) (a+1)=x::cZ l a:=by cases l<;>rfl
theorem bQ:∀(l:List Int)(a:Nat),(cZ l a).length=l.length
 |[],a=>by cases a<;>rfl
 |[x],0=>rfl
 |x::y::l,0=>rfl
 |x::l,a+1=>by rw[rz,length_cons,length_cons,bQ l a]
theorem bB:∀(l:List Int)(a:Nat),a+1<l.length->∀j,aa (cZ l a) j=if j=a then aa l (a+1)else if j=a+1 then aa l a else aa l j
 |[],a,h,j=>by simp at h
 |[x],a,h,j=>by simp at h
 |x::y::l,0,h,j=>by
  match j with
  |0=>rfl
  |1=>rfl
  |j+2=>rw[if_neg (by lia),if_neg (by lia)];rfl
 |x::y::l,a+1,h,j=>by
  rw[rz]
  match j with
  |0=>rw[if_neg (by lia),if_neg (by lia)];rfl
  |j+1=>
   show aa (cZ (y::l) a) j=if j+1=a+1 then aa (y::l) (a+1)else if j+1=a+1+1 then aa (y::l) a else aa (y::l) j
   rw[bB (y::l) a (by simpa using h) j]
   repeat' split
   all_goals first|rfl|lia
theorem E3:∀(l:List Int)(a:Nat),a+1<l.length->l.take a++[aa l (a+1),aa l a]++l.drop (a+2)=cZ l a
 |[],a,h=>by simp at h
 |[x],a,h=>by simp at h
 |x::y::l,0,h=>rfl
 |x::y::l,a+1,h=>by
  rw[rz,<-E3 (y::l) a (by simpa using h)]
  rfl
def sg(a:Nat)(x:Int):Int:=if x=a then(a:Int)+1 else if x=(a:Int)+1 then a else x
def rK(r:List Int)(a:Nat):List Int:=r.map (sg a)
theorem wF(r:List Int)(a:Nat):(rK r a).length=r.length:=length_map _
theorem bq{r:List Int}{a p:Nat}(h:p<r.length):aa (rK r a) p=sg a (aa r p):=by
 have:=dz h
 unfold rK
 conv=>lhs;unfold aa
 rw[getElem?_map,this]
 rfl
structure Iv(n:Nat)(r s:List Int):Prop where
 lr:r.length=n
 ls:s.length=n
 rs:∀p,p<n->0<=aa r p/\aa r p<n/\aa s (aa r p).toNat=p
 sr:∀v,v<n->0<=aa s v/\aa s v<n/\aa r (aa s v).toNat=v
theorem Iv.symm {n:Nat}{r s:List Int}(h:Iv n r s):Iv n s r:=⟨h.ls,h.lr,h.sr,h.rs⟩
theorem Iv.step {n:Nat}{r s:List Int}(h:Iv n r s){a:Nat}(ha:a+1<n):Iv n (rK r a) (cZ s a):=by
 refine⟨by rw[wF,h.lr],by rw[bQ,h.ls],λp hp=>?_,λv hv=>?_⟩
 ·obtain⟨h1,h2,h3⟩:=h.rs p hp
  rw[bq (h.lr.symm▸hp),bB _ _ (h.ls.symm▸ha)]
  generalize aa r p=v at h1 h2 h3
  unfold sg
  by_cases e1:v=a
  ·rw[if_pos e1]
   refine⟨by lia,by lia,?_⟩
   rw[if_neg (by lia),if_pos (by lia),<-h3,show v.toNat=a by lia]
  ·rw[if_neg e1]
   by_cases e2:v=(a:Int)+1
   ·rw[if_pos e2]
    refine⟨by lia,by lia,?_⟩
    rw[if_pos (by lia),<-h3,show v.toNat=a+1 by lia]
   ·rw[if_neg e2]
    refine⟨h1,h2,?_⟩
    rw[if_neg (by lia),if_neg (by lia),h3]
 ·rw[bB _ _ (h.ls.symm▸ha)]
  by_cases e1:v=a
  ·obtain⟨h1,h2,h3⟩:=h.sr (a+1) ha
   rw[if_pos e1]
   refine⟨h1,h2,?_⟩
   rw[bq (by rw[h.lr];lia),h3]
   unfold sg
   rw[if_neg (by lia),if_pos (by lia),e1]
  ·rw[if_neg e1]
   by_cases e2:v=a+1
   ·obtain⟨h1,h2,h3⟩:=h.sr a (by lia)
    rw[if_pos e2]
    refine⟨h1,h2,?_⟩
    rw[bq (by rw[h.lr];lia),h3]
    unfold sg
    rw[if_pos rfl,e2]
    lia
   ·obtain⟨h1,h2,h3⟩:=h.sr v hv
    rw[if_neg e2]
    refine⟨h1,h2,?_⟩
    rw[bq (by rw[h.lr];lia),h3]
    unfold sg
    rw[if_neg (by lia),if_neg (by lia)]
theorem Iv.Il {n:Nat}{r s:List Int}(h:Iv n r s){v w:Nat}(hv:v<n)(hw:w<n)(e:aa s v=aa s w):v=w:=by
 have h1:=(h.sr v hv).2.2
 have h2:=(h.sr w hw).2.2
 rw[e]at h1
 lia
theorem Uy{n:Nat}{r:List Int}(h:bF n r):∃s,Iv n r s:=by
 have hc:∀v,v<n->aa ((upTo n).map λv=>((r.idxOf v:Nat):Int)) v=(r.idxOf ((v:Nat):Int):Nat):=λv hv=>by
  unfold aa
  rw[getElem?_map,pZ n v hv]
  rfl
 refine⟨(upTo n).map λv=>((r.idxOf v:Nat):Int),h.len,by rw[length_map,ak],λp hp=>?_,λv hv=>?_⟩
 ·have Vw:p<r.length:=by rw[h.len];exact hp
  have hg:=h.get (dz Vw)
  refine⟨hg.1,hg.2,?_⟩
  rw[hc _ (by lia),show(((aa r p).toNat:Nat):Int)=aa r p by lia]
  have e:aa r p=r[p]:=by
   have:=dz Vw
   rw[getElem?_eq_getElem Vw]at this
   exact(Option.some.inj this).symm
  rw[e,h.nd.idxOf_getElem p Vw]
 ·have hm:(v:Int)∈r:=h.mem.mpr (by lia)
  have hl:=List.idxOf_lt_length_of_mem hm
  rw[hc v hv]
  have JF:=hl
  rw[h.len]at JF
  refine⟨by lia,by lia,?_⟩
  rw[toNat_natCast]
  have:=dz hl
  rw[getElem?_eq_getElem hl,List.getElem_idxOf hl]at this
  exact(Option.some.inj this).symm
theorem Iv.idx {n:Nat}{r s:List Int}(h:Iv n r s){v:Nat}(hv:v<n):(v:Int)∈r/\((r.idxOf (v:Int):Nat):Int)=aa s v:=by
 obtain⟨h1,h2,h3⟩:=h.sr v hv
 have hm:(v:Int)∈r:=by
  have:=dz (l:=r) (j:=(aa s v).toNat) (by rw[h.lr];lia)
  rw[h3]at this
  exact mem_of_getElem? this
 refine⟨hm,?_⟩
 have hl:=List.idxOf_lt_length_of_mem hm
 have:=dz hl
 rw[getElem?_eq_getElem hl,List.getElem_idxOf hl]at this
 have e:=Option.some.inj this
 have JF:=hl
 rw[h.lr]at JF
 have h4:=(h.rs _ JF).2.2
 rw[<-e,toNat_natCast]at h4
 exact h4.symm
def AZ(l:List Int):List Int:=((range (l.length-1)).map λi=>1+((i:Nat):Int)).filter λk=>decide (aa l k.toNat<aa l (k-1).toNat)
theorem sH{l:List Int}{k:Int}:k∈AZ l↔∃a:Nat,k=(a:Int)+1/\a+1<l.length/\aa l (a+1)<aa l a:=by
 unfold AZ
 rw[mem_filter,mem_map]
 constructor
 ·rintro⟨⟨i,hi,rfl⟩,h⟩
  rw[mem_range]at hi
  rw[decide_eq_true_eq,show(1+(i:Int)).toNat=i+1 by lia,show(1+(i:Int)-1).toNat=i by lia]at h
  exact⟨i,by lia,by lia,h⟩
 ·rintro⟨a,rfl,h1,h2⟩
  refine⟨⟨a,mem_range.mpr (by lia),by lia⟩,?_⟩
  rw[decide_eq_true_eq,show((a:Int)+1).toNat=a+1 by lia,show((a:Int)+1-1).toNat=a by lia]
  exact h2
theorem OB(l:List Int):(AZ l).length<=l.length:=by
 have h:=List.length_filter_le (λk=>decide (aa l k.toNat<aa l (k-1).toNat)) ((range (l.length-1)).map λi=>1+((i:Nat):Int))
 unfold AZ
 rw[length_map,length_range]at h
 lia
theorem OC{n:Nat}{r s:List Int}(h:Iv n r s)(hd:∀a,a+1<n->¬aa s (a+1)<aa s a):r=upTo n:=by
 have hlt:∀a,a+1<n->aa s a<aa s (a+1):=λa ha=>by
  have h1:=hd a ha
  have h2:aa s a≠aa s (a+1):=λz=>by
   have:=h.Il (by lia) ha z
   lia
  lia
 have hge:∀a,a<n->(a:Int)<=aa s a:=λa=>by
  induction a with
  |zero=>intro ha;exact(h.sr 0 ha).1
  |succ a ih=>
   intro ha
   have h1:=ih (by lia)
   have h2:=hlt a ha
   lia
 have hle:∀d a,a+d+1=n->aa s a<=a:=λd=>by
  induction d with
  |zero=>
   intro a ha
   have:=(h.sr a (by lia)).2.1
   lia
  |succ d ih=>
   intro a ha
   have h1:=ih (a+1) (by lia)
   have h2:=hlt a (by lia)
   lia
 have hs:∀a,a<n->aa s a=a:=λa ha=>by
  have h1:=hge a ha
  have h2:=hle (n-1-a) a (by lia)
  lia
 refine aY (by rw[h.lr,ak]) λp hp=>?_
 rw[h.lr]at hp
 obtain⟨h1,h2,h3⟩:=h.rs p hp
 rw[hs _ (by lia)]at h3
 rw[ar hp]
 lia
structure Od(n:Nat)(o r z:List Int):Prop where
 lo:o.length=n
 lz:z.length=n
 at_:∀p,p<n->aa o (aa r p).toNat=aa z p
 cr:∀p q,p<q->q<n->aa r q<aa r p->aa z q<aa z p
def S(n:Nat)(f:Nat->Nat):Nat:=((range n).map f).sum
theorem Uz(f:Nat->Nat):S 0 f=0:=rfl
theorem jS(n:Nat)(f:Nat->Nat):S (n+1) f=S n f+f n:=by
 unfold S
 rw[range_succ,map_append,sum_append]
 simp
theorem E4(n:Nat)(f:Nat->Nat):S (n+1) f=f 0+S n λi=>f (i+1):=by
 unfold S
 rw[List.range_succ_eq_map,map_cons,sum_cons,map_map]
 rfl
theorem gF{n:Nat}{f g:Nat->Nat}(h:∀i,i<n->f i=g i):S n f=S n g:=by
 induction n with
 |zero=>rfl
 |succ n ih=>rw[jS,jS,ih λi hi=>h i (by lia),h n (by lia)]
theorem BX(n:Nat)(f g:Nat->Nat):S n (λi=>f i+g i)=S n f+S n g:=by
 induction n with
 |zero=>rfl
 |succ n ih=>rw[jS,jS,jS,ih];lia
theorem OD(n c:Nat):S n (λ_=>c)=n*c:=by
 induction n with
 |zero=>rw[Nat.zero_mul];rfl
 |succ n ih=>rw[jS,ih,Nat.succ_mul]
theorem KC(n m:Nat)(f:Nat->Nat->Nat):S n (λi=>S m λj=>f i j)=S m λj=>S n λi=>f i j:=by
 induction n with
 |zero=>
  rw[Uz,show(λj=>S 0 λi=>f i j)=λ_=>0 from rfl,OD,Nat.mul_zero]
 |succ n ih=>
  rw[jS,ih,<-BX]
  exact gF λj _=>(jS n λi=>f i j).symm
theorem UA(n q:Nat)(g:Nat->Nat):S n (λp=>if p<q then g p else 0)=S (min n q) g:=by
 induction n with
 |zero=>rw[Nat.zero_min];rfl
 |succ n ih=>
  rw[jS,ih]
  by_cases h:n<q
  ·rw[if_pos h,show min n q=n by lia,show min (n+1) q=n+1 by lia,jS]
  ·rw[if_neg h,show min n q=q by lia,show min (n+1) q=q by lia]
   rfl
theorem KD{n:Nat}{r s:List Int}(h:Iv n r s)(f:Nat->Nat):S n (λv=>f (aa s v).toNat)=S n f:=by
 unfold S
 have p:((range n).map λv=>(aa s v).toNat).Perm (range n):=by
  refine(List.perm_ext_iff_of_nodup ?_ List.nodup_range).mpr λx=>?_
  ·unfold Nodup
   rw[List.pairwise_map]
   refine Pairwise.imp_of_mem ?_ List.nodup_range
   intro a b ha hb hab e
   rw[mem_range]at ha hb
   have h1:=h.sr a ha
   have h2:=h.sr b hb
   exact hab (h.Il ha hb (by lia))
  ·rw[mem_map]
   constructor
   ·rintro⟨v,hv,rfl⟩
    rw[mem_range]at hv⊢
    have:=h.sr v hv
    lia
   ·intro hx
    rw[mem_range]at hx
    obtain⟨h1,h2,h3⟩:=h.rs x hx
    exact⟨(aa r x).toNat,mem_range.mpr (by lia),by rw[h3,toNat_natCast]⟩
 have:=(p.map f).sum_nat
 rw[map_map]at this
 exact this
def yO(x:Int)(pre:List Int):Nat:=(pre.filter λs=>decide (x<s)).length
theorem DR(x y:Int)(pre:List Int):yO x (pre++[y])=yO x pre+if x<y then 1 else 0:=by
 unfold yO
 rw[List.filter_append,length_append]
 congr 1
 rw[List.filter_cons]
 by_cases h:x<y
 ·rw[if_pos (decide_eq_true h),if_pos h];rfl
 ·rw[if_neg (by rw[decide_eq_true_eq];exact h),if_neg h];rfl
theorem OE{x:Int}{a b:List Int}(p:a.Perm b):yO x a=yO x b:=(p.filter _).length_eq
def A0:List Int->List Int->Nat
 |_,[]=>0
 |pre,x::l=>yO x pre+A0 (pre++[x]) l
theorem BZ:∀(l:List Int){a b:List Int},a.Perm b->A0 a l=A0 b l
 |[],a,b,p=>rfl
 |x::l,a,b,p=>by
  unfold A0
  rw[OE p,BZ l (p.append_right [x])]
theorem wG:∀(l:List Int)(a:Nat)(pre:List Int),a+1<l.length->A0 pre (cZ l a)+(if aa l (a+1)<aa l a then 1 else 0)=A0 pre l+(if aa l a<aa l (a+1)then 1 else 0)
 |[],a,pre,h=>by simp at h
 |[x],a,pre,h=>by simp at h
 |x::y::l,0,pre,h=>by
  show yO y pre+(yO x (pre++[y])+A0 (pre++[y]++[x]) l)+(if y<x then 1 else 0)=yO x pre+(yO y (pre++[x])+A0 (pre++[x]++[y]) l)+(if x<y then 1 else 0)
  rw[DR,DR,BZ l (show(pre++[y]++[x]).Perm (pre++[x]++[y])by
   rw[List.append_assoc,List.append_assoc]
   exact Perm.append_left pre (Perm.swap x y []))]
  lia
 |x::y::l,a+1,pre,h=>by
  rw[rz]
  show yO x pre+A0 (pre++[x]) (cZ (y::l) a)+(if aa (y::l) (a+1)<aa (y::l) a then 1 else 0)=yO x pre+A0 (pre++[x]) (y::l)+(if aa (y::l) a<aa (y::l) (a+1)then 1 else 0)
  have:=wG (y::l) a (pre++[x]) (by simpa using h)
  lia
theorem Q9:∀(l pre:List Int),A0 pre l=S l.length λj=>yO (aa l j) (pre++l.take j)
 |[],pre=>rfl
 |x::l,pre=>by
  rw[length_cons,E4]
  show yO x pre+A0 (pre++[x]) l=_
  rw[Q9 l (pre++[x]),show yO (aa (x::l) 0) (pre++(x::l).take 0)=yO x pre by rw[List.take_zero,append_nil];rfl]
  congr 1
  refine gF λi _=>?_
  show yO (aa l i) (pre++[x]++l.take i)=yO (aa l i) (pre++x::l.take i)
  rw[List.append_assoc]
  rfl
theorem Xx(x:Int)(l:List Int):∀q,q<=l.length->yO x (l.take q)=S q λp=>if x<aa l p then 1 else 0
 |0,_=>rfl
 |q+1,h=>by
  have hq:q<l.length:=by lia
  have e:l.take (q+1)=l.take q++[aa l q]:=by
   rw[take_succ,dz hq]
   rfl
  rw[e,DR,Xx x l q (by lia),jS]
def gG(l:List Int):Nat:=A0 [] l
theorem zq(l:List Int):gG l=S l.length λq=>S l.length λp=>if p<q then(if aa l q<aa l p then 1 else 0)else 0:=by
 unfold gG
 rw[Q9]
 refine gF λq hq=>?_
 rw[nil_append,Xx _ _ q (by lia),UA,show min l.length q=q by lia]
theorem xK{n:Nat}{r s:List Int}(h:Iv n r s):gG r=gG s:=by
 rw[zq,zq,h.lr,h.ls,<-KD h (λq=>S n λp=>if p<q then(if aa r q<aa r p then 1 else 0)else 0),KC n n λq p=>if p<q then(if aa s q<aa s p then 1 else 0)else 0]
 refine gF λw hw=>?_
 rw[<-KD h (λp=>if p<(aa s w).toNat then(if aa r (aa s w).toNat<aa r p then 1 else 0)else 0)]
 refine gF λv hv=>?_
 obtain⟨h1,h2,h3⟩:=h.sr w hw
 obtain⟨g1,g2,g3⟩:=h.sr v hv
 rw[h3,g3]
 repeat' split
 all_goals first|rfl|lia
theorem jq{l:List Int}{i:Int}(h:0<=i)(h2:i<l.length):i6 (aM l) i=some (.int (aa l i.toNat)):=by
 rw[nX,qA h,dz (by lia)]
 rfl
theorem xM{b:D->DE->R DE}{ct:DE->R Bool}{fe:DE->R D}{e₀:DE}(P:Int->Bool):∀(w:List Int),(∀k∈w,∃e,b (.int k) e₀=.ok e/\ct e=.ok (P k)/\fe e=.ok (.int k))->cY b ct fe e₀ (aM w)=.ok (aM (w.filter P))
 |[],_=>rfl
 |k::w,h=>by
  obtain⟨e,h1,h2,h3⟩:=h k (by simp)
  have ih:=xM P w λx hx=>h x (by simp[hx])
  rw[<-nj]
  unfold cY
  rw[h1,R.bO,h2,R.bO,List.filter_cons]
  by_cases hp:P k=true
  ·rw[if_pos hp,if_pos hp,h3,R.bO,ih]
   rfl
  ·rw[if_neg hp,if_neg hp,ih]
theorem OG(n:Nat)(h:n<=7):Ji [.int 1,.int n]=.ok (aM ((range (n-1)).map λi=>1+((i:Nat):Int))):=by
 rw[TJ 1 n (by lia),show((n:Int)-1).toNat=n-1 by lia,z8]
theorem OH{n:Nat}{k:Int}(h:k∈(range (n-1)).map λi=>1+((i:Nat):Int)):∃a:Nat,k=(a:Int)+1/\a+1<n:=by
 obtain⟨i,hi,rfl⟩:=mem_map.mp h
 rw[mem_range]at hi
 exact⟨i,by lia,by lia⟩
theorem B0:∀n:Nat,(replicate n [D.int 0]).flatten=aM (replicate n 0)
 |0=>rfl
 |n+1=>by
  rw[replicate_succ,flatten_cons,B0 n]
  rfl
theorem qC{n:Nat}{r s:List Int}(h:Iv n r s)(hn:n<=7):cJ [.lst (aM r)]=.ok (aM s):=by
 unfold cJ vp
 simp_all [aW,h.lr]
 rw[TN _ _ ⟨by lia,by lia,big (by rw[toNat_natCast,length_cons,length_nil];lia)⟩,toNat_natCast]
 have e0:=B0 n
 rw[e0]
 dsimp
 obtain⟨t,e,hj⟩:=rG (S:=List Int×Sl×Sl) (b:=kR) (λi t=>t.1.length=n/\∀p,p<i->p<n->aa t.1 (aa r p).toNat=p) (λt=>[.val (.lst (aM r)),.own (aM t.1),t.2.1,t.2.2]) (eI (aM r)) 0 (replicate n 0,.no,.no) ⟨length_replicate,λp hp=>by lia⟩ (by
  rintro j ⟨l,s2,s3⟩ x ⟨hl,hs⟩ hx
  obtain⟨c,hc,rfl⟩:=uC hx
  rw[Nat.zero_add]at hs⊢
  have hjn:j<n:=by
   have:=(List.getElem?_eq_some_iff.mp hc).1
   rwa [h.lr]at this
  rw[dz (by rw[h.lr];exact hjn)]at hc
  have Ir:=Option.some.inj hc
  obtain⟨h1,h2,h3⟩:=h.rs j hjn
  unfold kR
  simp_all only [bT2,reduceIte,ah,ai,aG,aH,aI,aJ]
  rw[ni (by lia) (by rw[aW];have:l.length=n:=hl;lia),Oj,<-Ir]
  refine⟨(l.set (aa r j).toNat j,_,_),rfl,by rw[length_set];exact hl,λp hp hpn=>?_⟩
  obtain⟨p1,p2,p3⟩:=h.rs p hpn
  have YX:l.length=n:=hl
  show aa (l.set (aa r j).toNat j) (aa r p).toNat=p
  rw[xJ (by lia)]
  by_cases ep:p=j
  ·subst ep
   rw[if_pos rfl]
  ·rw[if_neg λz=>by rw[<-z,h3]at p3;lia]
   exact hs p (by lia) hpn)
 obtain⟨l,s2,s3⟩:=t
 obtain⟨hl,hs⟩:=hj
 dsimp only at e
 rw[e]
 have el:l=s:=by
  have JF:l.length=n:=hl
  refine aY (by rw[JF,h.ls]) λv hv=>?_
  rw[JF]at hv
  obtain⟨h1,h2,h3⟩:=h.sr v hv
  have:=hs (aa s v).toNat (by rw[Nat.zero_add];unfold eI;rw[length_map,length_zipIdx,aW,h.lr];lia) (by lia)
  rw[h3,toNat_natCast]at this
  dsimp only at this
  lia
 rw[el]
 dsimp [gx]
theorem B1(l:List Int)(hn:l.length<=7):qB [.lst (aM l)]=.ok (aM (AZ l)):=by
 unfold qB EY
 simp_all [aW]
 rw[OG _ hn]
 dsimp [iZ]
 rw[xM (λk=>decide (aa l k.toNat<aa l (k-1).toNat)) _ λk hk=>⟨_,j0 _ _ _,by
  obtain⟨a,rfl,ha⟩:=OH hk
  unfold xD jY
  dsimp
  rw[jq (by lia) (by lia),jq (by lia) (by lia)]
  dsimp,by
  unfold xE jY
  dsimp⟩]
 dsimp [R.n8]
 have hd:=OB l
 rw[show List.filter _ _=AZ l from rfl,bj (by lia)]
 dsimp [gx]
theorem Hz{n:Nat}{r s:List Int}(h:Iv n r s)(hn:n<=7):sE [.lst (aM r)]=.ok (aM (AZ s)):=by
 unfold sE BU
 simp_all
 rw[qC h hn]
 dsimp
 rw[B1 s (by rw[h.ls];exact hn)]
 dsimp [gx]
theorem uG{l:List Int}(hn:l.length<=7){a:Nat}(ha:a+1<l.length):aU [.lst (aM l),.int ((a:Int)+1)]=.ok (aM (cZ l a)):=by
 unfold aU iH
 simp_all [dw]
 rw[kP _ _ (by lia),iD _ _ (by lia),jq (by lia) (by lia),jq (by lia) (by lia),show((a:Int)+1-1).toNat=a by lia,show((a:Int)+1+1).toNat=a+2 by lia,show((a:Int)+1).toNat=a+1 by lia]
 dsimp
 rw[show[D.int (aa l (a+1)),D.int (aa l a)]=aM [aa l (a+1),aa l a]from rfl,b9,bj (by simp_all only [length_append,length_take,length_cons,length_nil];lia)]
 dsimp
 rw[b9,E3 l a ha,bj (by rw[bQ];lia)]
 dsimp [gx]
theorem KG{n:Nat}{r s:List Int}(h:Iv n r s)(hn:n<=7){a:Nat}(ha:a+1<n):cU [.lst (aM r),.int ((a:Int)+1)]=.ok (aM (rK r a)):=by
 unfold cU jb
 simp_all
 rw[qC h hn]
 dsimp
 rw[uG (by rw[h.ls];exact hn) (by rw[h.ls];exact ha)]
 dsimp
 rw[qC (h.step ha).symm hn]
 dsimp [gx]
abbrev RP:=List Int×List Int
structure Ad where
 dx:Addr
 kn:Addr
 nu:Addr
 fi:Addr
 la:Addr
 sh:Addr
 lo:Addr
 ke:Addr
 li:Addr
 ks:List Addr
def Ad.hd (A:Ad):List Addr:=[A.dx,A.kn,A.nu,A.fi,A.la,A.sh,A.lo,A.ke,A.li]
def Ad.all (A:Ad):List Addr:=A.hd++A.ks
def vO(A:Ad):List (Str×V):=[("known",.ref A.kn),("numbers",.ref A.nu),("firsts",.ref A.fi),("lasts",.ref A.la),("shorter",.ref A.sh),("longer",.ref A.lo),("kept",.ref A.ke),("line",.ref A.li)]
def kk(r:List Int):List Key:=r.map Sum.inl
theorem abo(r:List Int):(kk r).map kV=r.map V.int:=by unfold kk;rw[map_map];rfl
theorem KH{r s:List Int}(h:kk r=kk s):r=s:=by
 unfold kk at h
 exact(List.map_inj_right (λx y e=>Sum.inl.inj e)).mp h
def DS(ks:List Int):Int:=ks.foldl (λb k=>Builtin.bitOr b (1*2^(k-1).toNat)) 0
def vP(l:List Int):Int:=DS (AZ l)
def o4(p:RP)(a:Nat):RP:=(cZ p.1 a,rK p.2 a)
def rL(p:RP)(a:Nat):RP:=(rK p.1 a,cZ p.2 a)
def mO(p q:RP):List Int:=(AZ q.2).filter λk=> !decide (k∈AZ p.1)
def cX:Nat->RP->RP->RP×RP
 |0,p,q=>(p,q)
 |f+1,p,q=>match (mO p q).getLast? with
  |none=>(p,q)
  |some k=>cX f (o4 p (k-1).toNat) (rL q (k-1).toNat)
theorem Iv.uniq {n:Nat}{r r' s:List Int}(h:Iv n r s)(g:Iv n r' s):r=r':=by
 refine aY (by rw[h.lr,g.lr]) λj hj=>?_
 obtain⟨a1,a2,a3⟩:=h.rs j (by rw[h.lr]at hj;exact hj)
 obtain⟨b1,b2,b3⟩:=g.sr (aa r j).toNat (by lia)
 rw[a3,toNat_natCast]at b3
 lia
theorem jJ{n:Nat}{p q:RP}(h:Iv n p.1 p.2)(g:Iv n q.1 q.2)(e:p.1=q.1):p=q:=by
 have h':=h.symm
 rw[e]at h'
 exact Prod.ext e (Iv.uniq h' g.symm)
structure iX(C:Addr)(H:Hp)(a:Addr)(A:Ad)(ex:List (Str×V))(n:Nat)(kn:List RP)(ln:List Int)(B:Nat)(nu sh lo ke:List (List Key×V)):Prop where
 ob:H a=some (.ins C A.dx (vO A++ex))
 dx:∃o,H A.dx=some o
 nd:(a::A.all).Nodup
 hkn:H A.kn=some (.lst (A.ks.map V.ref))
 B3:A.ks.length=kn.length
 hks:∀(i:Nat)(b:Addr)(p:RP),A.ks[i]?=some b->kn[i]?=some p->H b=some (.lst (p.1.map V.int))
 yP:H A.nu=some (.dT nu)
 yv:H A.fi=some (.lst (kn.map λp=>V.int (vP p.2)))
 hla:H A.la=some (.lst (kn.map λp=>V.int (vP p.1)))
 hsh:H A.sh=some (.dT sh)
 hlo:H A.lo=some (.dT lo)
 hke:H A.ke=some (.dT ke)
 hli:H A.li=some (.lst (ln.map V.int))
 rw:∀p∈kn,Iv n p.1 p.2
 n1:∀(i:Nat)(p:RP),kn[i]?=some p->dQ nu (kk p.1)=some (.int i)
 n2:∀r:List Int,(∀p∈kn,p.1≠r)->dQ nu (kk r)=none
 s1:∀(i:Nat)(k:Int)(v:V),dQ sh [.inl (i:Int),.inl k]=some v->∃(j:Nat)(p:RP),kn[i]?=some p/\kn[j]?=some (rL p (k-1).toNat)/\v=.int j
 l1:∀(i:Nat)(k:Int)(v:V),dQ lo [.inl (i:Int),.inl k]=some v->∃(j:Nat)(p:RP),kn[i]?=some p/\kn[j]?=some (o4 p (k-1).toNat)/\v=.int j
 k1:∀(i j:Nat)(v:V),dQ ke [.inl (i:Int),.inl (j:Int)]=some v->∃(t:Addr)(i' j':Nat)(p q:RP),kn[i]?=some p/\kn[j]?=some q/\v=.ref t/\H t=some (.tup [.int i',.int j'])/\kn[i']?=some (cX 50 p q).1/\kn[j']?=some (cX 50 p q).2
 z:kn.length<=B/\nu.length<=B/\sh.length<=B/\lo.length<=B/\ke.length<=B
 li:∀m∈ln,0<=m/\m<kn.length
theorem iX.same {C:Addr}{H H':Hp}{a:Addr}{A:Ad}{ex:List (Str×V)}{n:Nat}{kn:List RP}{ln:List Int}{B:Nat}{nu sh lo ke:List (List Key×V)}(c:iX C H a A ex n kn ln B nu sh lo ke)(s:aO H H'):iX C H' a A ex n kn ln B nu sh lo ke:=
 ⟨s _ _ c.ob,let⟨o,h⟩:=c.dx;⟨o,s _ _ h⟩,c.nd,s _ _ c.hkn,c.B3,λi b p e1 e2=>s _ _ (c.hks i b p e1 e2),s _ _ c.yP,s _ _ c.yv,s _ _ c.hla,s _ _ c.hsh,s _ _ c.hlo,s _ _ c.hke,s _ _ c.hli,c.rw,c.n1,c.n2,c.s1,c.l1,
  λi j v e=>by
   obtain⟨t,i',j',p,q,h1,h2,h3,h4,h5⟩:=c.k1 i j v e
   exact⟨t,i',j',p,q,h1,h2,h3,s _ _ h4,h5⟩,c.z,c.li⟩
theorem iX.more {C:Addr}{H:Hp}{a:Addr}{A:Ad}{ex:List (Str×V)}{n:Nat}{kn:List RP}{ln:List Int}{B B':Nat}{nu sh lo ke:List (List Key×V)}(c:iX C H a A ex n kn ln B nu sh lo ke)(h:B<=B'):iX C H a A ex n kn ln B' nu sh lo ke:=
 {c with z:=by have:=c.z;lia}
theorem iX.UB {C:Addr}{H:Hp}{a:Addr}{A:Ad}{ex:List (Str×V)}{n:Nat}{kn:List RP}{ln:List Int}{B:Nat}{nu sh lo ke:List (List Key×V)}(c:iX C H a A ex n kn ln B nu sh lo ke):
  (A.kn≠A.fi/\A.kn≠A.la/\A.kn≠A.li/\A.fi≠A.la/\A.fi≠A.li/\A.la≠A.li)/\(A.nu≠A.sh/\A.nu≠A.lo/\A.nu≠A.ke/\A.sh≠A.lo/\A.sh≠A.ke/\A.lo≠A.ke)/\
  (∀b∈A.ks,b≠A.kn/\b≠A.fi/\b≠A.la/\b≠A.li)/\(A.dx≠A.kn/\A.dx≠A.nu/\A.dx≠A.fi/\A.dx≠A.la/\A.dx≠A.sh/\A.dx≠A.lo/\A.dx≠A.ke/\A.dx≠A.li/\a≠A.dx)/\(∀b∈A.ks,b≠A.dx):=by
 have nd:=c.nd
 unfold Ad.all Ad.hd at nd
 simp only [cons_append,nil_append,nodup_cons,mem_cons,not_or]at nd
 obtain⟨⟨a1,a2⟩,⟨d1,d2,d3,d4,d5,d6,d7,d8,d9⟩,⟨k1,k2,k3,k4,k5,k6,k7,k8⟩,⟨n1,n2,n3,n4,n5,n6,n7⟩,⟨f1,f2,f3,f4,f5,f6⟩,⟨l1,l2,l3,l4,l5⟩,⟨s1,s2,s3,s4⟩,⟨o1,o2,o3⟩,⟨e1,e2⟩,i1,_⟩:=nd
 refine⟨⟨k2,k3,k7,f1,f5,l4⟩,⟨n3,n4,n5,s1,s2,o1⟩,λb hb=>⟨λz=>k8 (z▸hb),λz=>f6 (z▸hb),λz=>l5 (z▸hb),λz=>i1 (z▸hb)⟩,⟨d1,d2,d3,d4,d5,d6,d7,d8,a1⟩,λb hb z=>d9 (z▸hb)⟩
structure iY(H H':Hp)(F F':List Addr):Prop where
 kp:∀x o,x∉F->H x=some o->H' x=some o
 nw:∀x∈F',x∈F\/H x=none
 gr:∀x,H' x=none->H x=none
theorem iY.refl (H:Hp)(F:List Addr):iY H H F F:=⟨λ_ _ _ h=>h,λ_ h=>.inl h,λ_ h=>h⟩
theorem iY.trans {H H1 H2:Hp}{F F1 F2:List Addr}(a:iY H H1 F F1)(b:iY H1 H2 F1 F2):iY H H2 F F2:=
 ⟨λx o hx h=>b.kp x o (λz=>(a.nw x z).elim hx λq=>by rw[h]at q;cases q) (a.kp x o hx h),λx hx=>(b.nw x hx).elim (λz=>a.nw x z) λz=>.inr (a.gr x z),λx hx=>a.gr x (b.gr x hx)⟩
theorem iY.same {H H1:Hp}(s:aO H H1)(F:List Addr):iY H H1 F F:=⟨λx o _ h=>s x o h,λ_ h=>.inl h,λ_ h=>s.free h⟩
theorem iY.upd {H:Hp}{F:List Addr}{x:Addr}(hx:x∈F)(o:HO):iY H (upd H x o) F F:=⟨λy o' hy h=>by rw[aj (λz=>hy (by rw[z];exact hx))];exact h,λ_ h=>.inl h,λy hy=>by
 by_cases z:y=x
 ·rw[z,au]at hy;cases hy
 ·rw[aj z]at hy;exact hy⟩
theorem iX.there {C:Addr}{H:Hp}{a:Addr}{A:Ad}{ex:List (Str×V)}{n:Nat}{kn:List RP}{ln:List Int}{B:Nat}{nu sh lo ke:List (List Key×V)}(c:iX C H a A ex n kn ln B nu sh lo ke){x:Addr}(hx:x∈a::A.all):∃o,H x=some o:=by
 rcases mem_cons.mp hx with rfl|hx
 ·exact⟨_,c.ob⟩
 ·rcases mem_append.mp hx with hx|hx
  ·unfold Ad.hd at hx
   simp only [mem_cons,not_mem_nil,or_false]at hx
   rcases hx with rfl|rfl|rfl|rfl|rfl|rfl|rfl|rfl|rfl
   ·exact c.dx
   ·exact⟨_,c.hkn⟩
   ·exact⟨_,c.yP⟩
   ·exact⟨_,c.yv⟩
   ·exact⟨_,c.hla⟩
   ·exact⟨_,c.hsh⟩
   ·exact⟨_,c.hlo⟩
   ·exact⟨_,c.hke⟩
   ·exact⟨_,c.hli⟩
  ·obtain⟨i,hi,ei⟩:=getElem_of_mem hx
   exact⟨_,c.hks i x (kn[i]'(by rw[<-c.B3];exact hi)) (by rw[getElem?_eq_getElem hi,ei]) (getElem?_eq_getElem (by rw[<-c.B3];exact hi))⟩
theorem p4{α:Type}{l:List α}{x y:α}{i:Nat}(e:(l++[x])[i]?=some y)(h:¬i<l.length):i=l.length/\x=y:=by
 have h1:=(List.getElem?_eq_some_iff.mp e).1
 rw[length_append,length_singleton]at h1
 have h2:i=l.length:=by lia
 subst h2
 exact⟨rfl,by simpa using e⟩
theorem cy{α:Type}{l m:List α}{x:α}{i:Nat}(e:l[i]?=some x):(l++m)[i]?=some x:=by
 rw[getElem?_append_left (List.getElem?_eq_some_iff.mp e).1]
 exact e
theorem iX.add {C:Addr}{H H9:Hp}{a:Addr}{A:Ad}{ex:List (Str×V)}{n:Nat}{kn:List RP}{ln:List Int}{B:Nat}{nu sh lo ke:List (List Key×V)}(c:iX C H a A ex n kn ln B nu sh lo ke){p:RP}(hm:¬∃q∈kn,q.1=p.1)(iv:Iv n p.1 p.2){l2:Addr}(VF:H l2=none)
  (YY:H9 a=some (.ins C A.dx (vO A++ex)))(YZ:H9 A.nu=some (.dT (putK nu (kk p.1) (.int (kn.length:Int)))))(kn9:H9 A.kn=some (.lst (A.ks.map V.ref++[.ref l2])))
  (fi9:H9 A.fi=some (.lst ((kn.map λp=>V.int (vP p.2))++[V.int (vP p.2)])))(la9:H9 A.la=some (.lst ((kn.map λp=>V.int (vP p.1))++[V.int (vP p.1)])))(l29:H9 l2=some (.lst (p.1.map V.int)))
  (keep:∀x o,x≠A.nu->x≠A.kn->x≠A.fi->x≠A.la->H x=some o->H9 x=some o):iX C H9 a {A with ks:=A.ks++[l2]} ex n (kn++[p]) ln (B+1) (putK nu (kk p.1) (.int (kn.length:Int))) sh lo ke:=by
 have yQ:∀j,dQ (putK nu (kk p.1) (.int (kn.length:Int))) j=if j=kk p.1 then some (.int (kn.length:Int))else dQ nu j:=λj=>kN nu (kk p.1) j _
 have hz:(kn++[p]).length<=B+1/\(putK nu (kk p.1) (.int (kn.length:Int))).length<=B+1/\sh.length<=B+1/\lo.length<=B+1/\ke.length<=B+1:=by
  have h0:=c.z
  have h1:=g5 nu (kk p.1) (.int (kn.length:Int))
  rw[length_append,length_singleton]
  lia
 have hli:∀m∈ln,0<=m/\m<((kn++[p]).length:Int):=λm hm'=>by
  have:=c.li m hm'
  rw[length_append]
  lia
 have nl:∀{x y:Addr}{xs:List V}{kv:List (List Key×V)},H x=some (.lst xs)->H y=some (.dT kv)->x≠y:=λh1 h2=>bX h1 h2 (by intro z;cases z)
 obtain⟨⟨n1,n2,n3,n4,n5,n6⟩,⟨m1,m2,m3,m4,m5,m6⟩,UC,⟨d1,d2,d3,d4,d5,d6,d7,d8,d9⟩,Xy⟩:=c.UB
 refine⟨YY,?_,?_,by rw[map_append];exact kn9,by rw[length_append,length_append,c.B3];rfl,λi b' q' e1 e2=>?_,YZ,by rw[map_append];exact fi9,by rw[map_append];exact la9,
  keep _ _ (Ne.symm m1) (Ne.symm (nl c.hkn c.hsh)) (Ne.symm (nl c.yv c.hsh)) (Ne.symm (nl c.hla c.hsh)) c.hsh,
  keep _ _ (Ne.symm m2) (Ne.symm (nl c.hkn c.hlo)) (Ne.symm (nl c.yv c.hlo)) (Ne.symm (nl c.hla c.hlo)) c.hlo,
  keep _ _ (Ne.symm m3) (Ne.symm (nl c.hkn c.hke)) (Ne.symm (nl c.yv c.hke)) (Ne.symm (nl c.hla c.hke)) c.hke,
  keep _ _ (nl c.hli c.yP) (Ne.symm n3) (Ne.symm n5) (Ne.symm n6) c.hli,λq' C8=>?_,λi q' e=>?_,λr hr'=>?_,λi k' v e=>?_,λi k' v e=>?_,λi j v e=>?_,hz,hli⟩
 ·obtain⟨o,ho⟩:=c.dx
  exact⟨o,keep _ _ d2 d1 d3 d4 ho⟩
 ·show(a::(A.hd++(A.ks++[l2]))).Nodup
  rw[<-List.append_assoc,<-cons_append,List.nodup_append]
  refine⟨c.nd,by simp,λx hx y hy=>?_⟩
  have ey:y=l2:=by simpa using hy
  rw[ey]
  intro z
  obtain⟨o,ho⟩:=c.there hx
  rw[z,VF]at ho
  cases ho
 ·have NJ:(A.ks++[l2])[i]?=some b':=e1
  by_cases hi:i<kn.length
  ·rw[getElem?_append_left (by rw[c.B3];exact hi)]at NJ
   rw[getElem?_append_left hi]at e2
   have ML:=UC b' (mem_of_getElem? NJ)
   have hbH:=c.hks i b' q' NJ e2
   exact keep _ _ (nl hbH c.yP) ML.1 ML.2.1 ML.2.2.1 hbH
  ·obtain⟨_,z2⟩:=p4 e2 hi
   obtain⟨_,z1⟩:=p4 NJ (by rw[c.B3];exact hi)
   rw[<-z1,<-z2]
   exact l29
 ·rcases mem_append.mp C8 with h|h
  ·exact c.rw q' h
  ·have:q'=p:=by simpa using h
   rw[this];exact iv
 ·rw[yQ]
  by_cases hi:i<kn.length
  ·rw[getElem?_append_left hi]at e
   have hne:¬kk q'.1=kk p.1:=λz=>hm ⟨q',mem_of_getElem? e,KH z⟩
   rw[if_neg hne]
   exact c.n1 i q' e
  ·obtain⟨z1,z2⟩:=p4 e hi
   rw[<-z2,if_pos rfl,z1]
 ·rw[yQ,if_neg (λz=>hr' p (by simp) (KH z).symm)]
  exact c.n2 r λq' C8=>hr' q' (by simp[C8])
 ·obtain⟨j,p',h1,h2,h3⟩:=c.s1 i k' v e
  exact⟨j,p',cy h1,cy h2,h3⟩
 ·obtain⟨j,p',h1,h2,h3⟩:=c.l1 i k' v e
  exact⟨j,p',cy h1,cy h2,h3⟩
 ·obtain⟨t',i',j',p',q',h1,h2,h3,h4,h5,h6⟩:=c.k1 i j v e
  have nt:∀{y:Addr}{xs:List V},H y=some (.lst xs)->t'≠y:=λh=>bX h4 h (by intro z;cases z)
  exact⟨t',i',j',p',q',cy h1,cy h2,h3,keep _ _ (bX h4 c.yP (by intro z;cases z)) (nt c.hkn) (nt c.yv) (nt c.hla) h4,cy h5,cy h6⟩
theorem iX.UD {C:Addr}{H:Hp}{a:Addr}{A:Ad}{ex:List (Str×V)}{n:Nat}{kn:List RP}{ln:List Int}{B:Nat}{nu sh lo ke:List (List Key×V)}(c:iX C H a A ex n kn ln B nu sh lo ke){i j:Nat}{k:Int}{p:RP}(hi:kn[i]?=some p)(hj:kn[j]?=some (rL p (k-1).toNat)):
  iX C (upd H A.sh (.dT (putK sh [.inl (i:Int),.inl k] (.int j)))) a A ex n kn ln (B+1) nu (putK sh [.inl (i:Int),.inl k] (.int j)) lo ke:=by
 have hz:kn.length<=B+1/\nu.length<=B+1/\(putK sh ([.inl (i:Int),.inl k]:List Key) (.int j)).length<=B+1/\lo.length<=B+1/\ke.length<=B+1:=by
  have h0:=c.z
  have h1:=g5 sh ([.inl (i:Int),.inl k]:List Key) (.int j)
  lia
 have yQ:∀x,dQ (putK sh ([.inl (i:Int),.inl k]:List Key) (.int j)) x=if x=[.inl (i:Int),.inl k]then some (.int j)else dQ sh x:=λx=>kN sh _ x _
 have nl:∀{x:Addr}{xs:List V},H x=some (.lst xs)->x≠A.sh:=λh1=>bX h1 c.hsh (by intro z;cases z)
 obtain⟨_,⟨m1,m2,m3,m4,m5,m6⟩,UC,⟨d1,d2,d3,d4,d5,d6,d7,d8,d9⟩,Xy⟩:=c.UB
 have kp:∀x o,x≠A.sh->H x=some o->(upd H A.sh (.dT (putK sh [.inl (i:Int),.inl k] (.int j)))) x=some o:=λx o hx h=>by rw[aj hx];exact h
 have sem:∀(i':Nat)(k':Int)(v:V),dQ (putK sh ([.inl (i:Int),.inl k]:List Key) (.int j)) [.inl (i':Int),.inl k']=some v->∃(j:Nat)(p:RP),kn[i']?=some p/\kn[j]?=some (rL p (k'-1).toNat)/\v=.int j:=λi' k' v e=>by
  rw[yQ]at e
  split at e
  ·rename_i z
   injection z with z1 z2
   injection z2 with z2 _
   have q1:(i':Int)=i:=Sum.inl.inj z1
   have q2:k'=k:=Sum.inl.inj z2
   have q3:i'=i:=by lia
   subst q2 q3
   cases e
   exact⟨j,p,hi,hj,rfl⟩
  ·exact c.s1 i' k' v e
 refine⟨kp _ _ (bX c.ob c.hsh (by intro z;cases z)) c.ob,?_,c.nd,kp _ _ (nl c.hkn) c.hkn,c.B3,λi b p e1 e2=>kp _ _ (nl (c.hks i b p e1 e2)) (c.hks i b p e1 e2),kp _ _ m1 c.yP,kp _ _ (nl c.yv) c.yv,kp _ _ (nl c.hla) c.hla,au,kp _ _ (Ne.symm m4) c.hlo,kp _ _ (Ne.symm m5) c.hke,kp _ _ (nl c.hli) c.hli,c.rw,c.n1,c.n2,sem,c.l1,λi j v e=>?_,hz,c.li⟩
 ·obtain⟨o,h⟩:=c.dx
  exact⟨o,kp _ _ d5 h⟩
 ·obtain⟨t,i',j',p,q,h1,h2,h3,h4,h5⟩:=c.k1 i j v e
  exact⟨t,i',j',p,q,h1,h2,h3,kp _ _ (bX h4 c.hsh (by intro z;cases z)) h4,h5⟩
theorem iX.UE {C:Addr}{H:Hp}{a:Addr}{A:Ad}{ex:List (Str×V)}{n:Nat}{kn:List RP}{ln:List Int}{B:Nat}{nu sh lo ke:List (List Key×V)}(c:iX C H a A ex n kn ln B nu sh lo ke){i j:Nat}{k:Int}{p:RP}(hi:kn[i]?=some p)(hj:kn[j]?=some (o4 p (k-1).toNat)):
  iX C (upd H A.lo (.dT (putK lo [.inl (i:Int),.inl k] (.int j)))) a A ex n kn ln (B+1) nu sh (putK lo [.inl (i:Int),.inl k] (.int j)) ke:=by
 have hz:kn.length<=B+1/\nu.length<=B+1/\sh.length<=B+1/\(putK lo ([.inl (i:Int),.inl k]:List Key) (.int j)).length<=B+1/\ke.length<=B+1:=by
  have h0:=c.z
  have h1:=g5 lo ([.inl (i:Int),.inl k]:List Key) (.int j)
  lia
 have yQ:∀x,dQ (putK lo ([.inl (i:Int),.inl k]:List Key) (.int j)) x=if x=[.inl (i:Int),.inl k]then some (.int j)else dQ lo x:=λx=>kN lo _ x _
 have nl:∀{x:Addr}{xs:List V},H x=some (.lst xs)->x≠A.lo:=λh1=>bX h1 c.hlo (by intro z;cases z)
 obtain⟨_,⟨m1,m2,m3,m4,m5,m6⟩,UC,⟨d1,d2,d3,d4,d5,d6,d7,d8,d9⟩,Xy⟩:=c.UB
 have kp:∀x o,x≠A.lo->H x=some o->(upd H A.lo (.dT (putK lo [.inl (i:Int),.inl k] (.int j)))) x=some o:=λx o hx h=>by rw[aj hx];exact h
 have sem:∀(i':Nat)(k':Int)(v:V),dQ (putK lo ([.inl (i:Int),.inl k]:List Key) (.int j)) [.inl (i':Int),.inl k']=some v->∃(j:Nat)(p:RP),kn[i']?=some p/\kn[j]?=some (o4 p (k'-1).toNat)/\v=.int j:=λi' k' v e=>by
  rw[yQ]at e
  split at e
  ·rename_i z
   injection z with z1 z2
   injection z2 with z2 _
   have q1:(i':Int)=i:=Sum.inl.inj z1
   have q2:k'=k:=Sum.inl.inj z2
   have q3:i'=i:=by lia
   subst q2 q3
   cases e
   exact⟨j,p,hi,hj,rfl⟩
  ·exact c.l1 i' k' v e
 refine⟨kp _ _ (bX c.ob c.hlo (by intro z;cases z)) c.ob,?_,c.nd,kp _ _ (nl c.hkn) c.hkn,c.B3,λi b p e1 e2=>kp _ _ (nl (c.hks i b p e1 e2)) (c.hks i b p e1 e2),kp _ _ m2 c.yP,kp _ _ (nl c.yv) c.yv,kp _ _ (nl c.hla) c.hla,kp _ _ m4 c.hsh,au,kp _ _ (Ne.symm m6) c.hke,kp _ _ (nl c.hli) c.hli,c.rw,c.n1,c.n2,c.s1,sem,λi j v e=>?_,hz,c.li⟩
 ·obtain⟨o,h⟩:=c.dx
  exact⟨o,kp _ _ d6 h⟩
 ·obtain⟨t,i',j',p,q,h1,h2,h3,h4,h5⟩:=c.k1 i j v e
  exact⟨t,i',j',p,q,h1,h2,h3,kp _ _ (bX h4 c.hlo (by intro z;cases z)) h4,h5⟩
theorem iX.UG {C:Addr}{H:Hp}{a:Addr}{A:Ad}{ex:List (Str×V)}{n:Nat}{kn:List RP}{ln:List Int}{B:Nat}{nu sh lo ke:List (List Key×V)}(c:iX C H a A ex n kn ln B nu sh lo ke){i j i' j':Nat}{p q:RP}{t:Addr}(hi:kn[i]?=some p)(hj:kn[j]?=some q)(ht:H t=some (.tup [.int i',.int j']))(yR:kn[i']?=some (cX 50 p q).1)(DH:kn[j']?=some (cX 50 p q).2):
  iX C (upd H A.ke (.dT (putK ke [.inl (i:Int),.inl (j:Int)] (.ref t)))) a A ex n kn ln (B+1) nu sh lo (putK ke [.inl (i:Int),.inl (j:Int)] (.ref t)):=by
 have hz:kn.length<=B+1/\nu.length<=B+1/\sh.length<=B+1/\lo.length<=B+1/\(putK ke ([.inl (i:Int),.inl (j:Int)]:List Key) (.ref t)).length<=B+1:=by
  have h0:=c.z
  have h1:=g5 ke ([.inl (i:Int),.inl (j:Int)]:List Key) (.ref t)
  lia
 have yQ:∀x,dQ (putK ke ([.inl (i:Int),.inl (j:Int)]:List Key) (.ref t)) x=if x=[.inl (i:Int),.inl (j:Int)]then some (.ref t)else dQ ke x:=λx=>kN ke _ x _
 have nl:∀{x:Addr}{xs:List V},H x=some (.lst xs)->x≠A.ke:=λh1=>bX h1 c.hke (by intro z;cases z)
 have nt:∀{x:Addr}{xs:List V},H x=some (.tup xs)->x≠A.ke:=λh1=>bX h1 c.hke (by intro z;cases z)
 obtain⟨_,⟨m1,m2,m3,m4,m5,m6⟩,UC,⟨d1,d2,d3,d4,d5,d6,d7,d8,d9⟩,Xy⟩:=c.UB
 have kp:∀x o,x≠A.ke->H x=some o->(upd H A.ke (.dT (putK ke [.inl (i:Int),.inl (j:Int)] (.ref t)))) x=some o:=λx o hx h=>by rw[aj hx];exact h
 refine⟨kp _ _ (bX c.ob c.hke (by intro z;cases z)) c.ob,?_,c.nd,kp _ _ (nl c.hkn) c.hkn,c.B3,λi b p e1 e2=>kp _ _ (nl (c.hks i b p e1 e2)) (c.hks i b p e1 e2),kp _ _ m3 c.yP,kp _ _ (nl c.yv) c.yv,kp _ _ (nl c.hla) c.hla,kp _ _ m5 c.hsh,kp _ _ m6 c.hlo,au,kp _ _ (nl c.hli) c.hli,c.rw,c.n1,c.n2,c.s1,c.l1,λx y v e=>?_,hz,c.li⟩
 ·obtain⟨o,h⟩:=c.dx
  exact⟨o,kp _ _ d7 h⟩
 ·rw[yQ]at e
  split at e
  ·rename_i z
   injection z with z1 z2
   injection z2 with z2 _
   have q1:(x:Int)=i:=Sum.inl.inj z1
   have q2:(y:Int)=j:=Sum.inl.inj z2
   have q3:x=i:=by lia
   have q4:y=j:=by lia
   subst q3 q4
   cases e
   exact⟨t,i',j',p,q,hi,hj,rfl,kp _ _ (nt ht) ht,yR,DH⟩
  ·obtain⟨t,i',j',p,q,h1,h2,h3,h4,h5⟩:=c.k1 x y v e
   exact⟨t,i',j',p,q,h1,h2,h3,kp _ _ (nt h4) h4,h5⟩
section
variable{A:Ad}{ex:List (Str×V)}
theorem zr:(vO A++ex).lookup ("known":Str)=some (.ref A.kn):=rfl
theorem E5:(vO A++ex).lookup ("numbers":Str)=some (.ref A.nu):=rfl
theorem KI:(vO A++ex).lookup ("firsts":Str)=some (.ref A.fi):=rfl
theorem KJ:(vO A++ex).lookup ("lasts":Str)=some (.ref A.la):=rfl
theorem E6:(vO A++ex).lookup ("shorter":Str)=some (.ref A.sh):=rfl
theorem E7:(vO A++ex).lookup ("longer":Str)=some (.ref A.lo):=rfl
theorem KN:(vO A++ex).lookup ("kept":Str)=some (.ref A.ke):=rfl
theorem B4:(vO A++ex).lookup ("line":Str)=some (.ref A.li):=rfl
end
def vA(z w:Int):List (Str×V):=[("none",.int z),("whole",.int w)]
theorem Ra{A:Ad}{z w:Int}:(vO A++vA z w).lookup ("none":Str)=some (.int z):=rfl
theorem Xz{A:Ad}{z w:Int}:(vO A++vA z w).lookup ("whole":Str)=some (.int w):=rfl
abbrev six:List Int:=[1,2,3,4,5,6]
def UH(l:List (Int×Bool)):List Int:=(l.filter (·.2)).map (·.1)
def sel(b1 b2 b3 b4 b5 b6:Bool):List Int:=UH [(1,b1),(2,b2),(3,b3),(4,b4),(5,b5),(6,b6)]
theorem xN(f:Int->Bool):∀l:List Int,l.filter f=UH (l.map λk=>(k,f k))
 |[]=>rfl
 |k::l=>by
  have ih:=xN f l
  unfold UH at ih⊢
  rw[map_cons]
  cases h:f k with
  |true=>rw[List.filter_cons_of_pos h,List.filter_cons_of_pos (by rfl),map_cons,ih]
  |false=>rw[List.filter_cons_of_neg (by rw[h];decide),List.filter_cons_of_neg (by simp),ih]
theorem sI(f:Int->Bool):six.filter f=sel (f 1) (f 2) (f 3) (f 4) (f 5) (f 6):=xN f six
theorem OI(f:Int->Bool):∀m:Nat,m<=7->((range (m-1)).map λi=>1+((i:Nat):Int)).filter f=six.filter λk=>decide (k.toNat<m)&&f k
 |0,_=>rfl
 |1,_=>rfl
 |2,_=>rfl
 |3,_=>rfl
 |4,_=>rfl
 |5,_=>rfl
 |6,_=>rfl
 |7,_=>rfl
 |m+8,h=>by lia
def XA(l:List Int)(k:Int):Bool:=decide (k.toNat<l.length)&&decide (aa l k.toNat<aa l (k-1).toNat)
theorem wH{l:List Int}(h:l.length<=7):AZ l=six.filter (XA l):=OI _ l.length h
theorem KO:∀b1 b2 b3 b4 b5 b6 c1 c2 c3 c4 c5 c6:Bool,Builtin.bitAnd (DS (sel b1 b2 b3 b4 b5 b6)) (Builtin.bitNot (DS (sel c1 c2 c3 c4 c5 c6)))=DS (sel (b1&& !c1) (b2&& !c2) (b3&& !c3) (b4&& !c4) (b5&& !c5) (b6&& !c6)):=by decide +kernel
theorem B5:∀b1 b2 b3 b4 b5 b6:Bool,decide (0<DS (sel b1 b2 b3 b4 b5 b6))=(sel b1 b2 b3 b4 b5 b6).getLast?.isSome/\∀k∈(sel b1 b2 b3 b4 b5 b6).getLast?,((Builtin.Int.intBits (DS (sel b1 b2 b3 b4 b5 b6)):Nat):Int)=k:=by decide +kernel
theorem Ag{p q:RP}(hp:p.1.length<=7)(hq:q.2.length<=7):mO p q=six.filter λk=>XA q.2 k&& !XA p.1 k:=by
 unfold mO
 rw[wH hq,wH hp,List.filter_filter]
 refine List.filter_congr λk hk=>?_
 have:decide (k∈six.filter (XA p.1))=XA p.1 k:=by
  rw[Bool.eq_iff_iff,decide_eq_true_iff,mem_filter]
  exact⟨λh=>h.2,λh=>⟨hk,h⟩⟩
 rw[this,Bool.and_comm]
theorem E8{p q:RP}(hp:p.1.length<=7)(hq:q.2.length<=7):Builtin.bitAnd (vP q.2) (Builtin.bitNot (vP p.1))=DS (mO p q):=by
 unfold vP
 rw[wH hq,wH hp,Ag hp hq,sI,sI,sI]
 exact KO ..
theorem KP{p q:RP}(hp:p.1.length<=7)(hq:q.2.length<=7):decide (0<DS (mO p q))=(mO p q).getLast?.isSome:=by
 rw[Ag hp hq,sI]
 exact(B5 ..).1
theorem KQ{p q:RP}(hp:p.1.length<=7)(hq:q.2.length<=7){k:Int}(h:(mO p q).getLast?=some k):((Builtin.Int.intBits (DS (mO p q)):Nat):Int)=k:=by
 rw[Ag hp hq,sI]at h⊢
 exact(B5 ..).2 k h
theorem zu:∀(l pre:List Int),A0 pre l<=l.length*(pre.length+l.length)
 |[],pre=>by simp[A0]
 |x::l,pre=>by
  have h1:yO x pre<=pre.length:=List.length_filter_le _ _
  have h2:=zu l (pre++[x])
  rw[length_append,length_singleton]at h2
  show yO x pre+A0 (pre++[x]) l<=(l.length+1)*(pre.length+(l.length+1))
  rw[Nat.add_mul,show pre.length+(l.length+1)=pre.length+1+l.length by lia]
  lia
theorem uH{n:Nat}{p:RP}(hn:n<=7)(h:Iv n p.1 p.2):gG p.1<=49:=by
 have h1:=zu p.1 []
 rw[h.lr,length_nil,Nat.zero_add]at h1
 have h2:n*n<=7*7:=Nat.mul_le_mul hn hn
 unfold gG
 lia
theorem og{n:Nat}{p q:RP}(hp:Iv n p.1 p.2)(hq:Iv n q.1 q.2){k:Int}(h:k∈mO p q):∃j:Nat,k=(j:Int)+1/\j+1<n/\aa p.1 j<aa p.1 (j+1)/\aa q.2 (j+1)<aa q.2 j:=by
 unfold mO at h
 obtain⟨h1,h2⟩:=mem_filter.mp h
 obtain⟨j,e,h3,h4⟩:=sH.mp h1
 rw[hq.ls]at h3
 have h5:k∉AZ p.1:=by simpa using h2
 have h6:¬aa p.1 (j+1)<aa p.1 j:=λz=>h5 (sH.mpr ⟨j,e,by rw[hp.lr];exact h3,z⟩)
 have h7:aa p.1 j≠aa p.1 (j+1):=λz=>by
  have:=hp.symm.Il (v:=j) (w:=j+1) (by lia) h3 z
  lia
 exact⟨j,e,h3,by lia,h4⟩
theorem cg{n:Nat}{p:RP}(h:Iv n p.1 p.2){j:Nat}(hj:j+1<n):Iv n (o4 p j).1 (o4 p j).2:=(h.symm.step hj).symm
theorem fj{n:Nat}{p:RP}(h:Iv n p.1 p.2){j:Nat}(hj:j+1<n):Iv n (rL p j).1 (rL p j).2:=h.step hj
theorem nE{p q:RP}{k:Int}(f:Nat)(h:(mO p q).getLast?=some k):cX (f+1) p q=cX f (o4 p (k-1).toNat) (rL q (k-1).toNat):=by
 show(match (mO p q).getLast? with
  |none=>(p,q)
  |some k=>cX f (o4 p (k-1).toNat) (rL q (k-1).toNat))=_
 rw[h]
theorem nG{p q:RP}(f:Nat)(h:(mO p q).getLast?=none):cX f p q=(p,q):=by
 cases f with
 |zero=>rfl
 |succ f=>
  show(match (mO p q).getLast? with
   |none=>(p,q)
   |some k=>cX f (o4 p (k-1).toNat) (rL q (k-1).toNat))=_
  rw[h]
theorem KR{n:Nat}{p:RP}(h:Iv n p.1 p.2){j:Nat}(hj:j+1<n)(hl:aa p.1 j<aa p.1 (j+1)):gG p.1<gG (o4 p j).1:=by
 have e:=wG p.1 j [] (by rw[h.lr];exact hj)
 show A0 [] p.1<A0 [] (cZ p.1 j)
 rw[if_pos hl,if_neg (by lia)]at e
 lia
def nI(ls:List Nat):List Int:=ls.map λ(m:Nat)=>(m:Int)
def dA(kn:List RP)(ls:List Nat)(R:List RP):Prop:=ls.map (λm=>kn[m]?)=R.map some
theorem dA.len {kn:List RP}{ls:List Nat}{R:List RP}(h:dA kn ls R):ls.length=R.length:=by
 have:=congrArg length h
 simpa using this
theorem dA.at {kn:List RP}{ls:List Nat}{R:List RP}(h:dA kn ls R){i:Nat}{r:RP}(e:R[i]?=some r):∃m,ls[i]?=some m/\kn[m]?=some r:=by
 have h1:(ls.map λm=>kn[m]?)[i]?=(R.map some)[i]?:=by rw[show ls.map (λm=>kn[m]?)=R.map some from h]
 rw[getElem?_map,getElem?_map,e]at h1
 cases h2:ls[i]? with
 |none=>rw[h2]at h1;cases h1
 |some m=>rw[h2]at h1;exact⟨m,rfl,Option.some.inj h1⟩
theorem dA.mem {kn:List RP}{ls:List Nat}{R:List RP}(h:dA kn ls R){m:Nat}(hm:m∈ls):m<kn.length:=by
 have:kn[m]?∈R.map some:=by rw[<-show ls.map (λm=>kn[m]?)=R.map some from h];exact mem_map.mpr ⟨m,hm,rfl⟩
 obtain⟨r,_,e⟩:=mem_map.mp this
 exact(List.getElem?_eq_some_iff.mp e.symm).1
theorem dA.li {kn:List RP}{ls:List Nat}{R:List RP}(h:dA kn ls R):∀m∈nI ls,0<=m/\m<kn.length:=λm hm=>by
 obtain⟨x,hx,rfl⟩:=mem_map.mp hm
 have:=h.mem hx
 lia
theorem dA.pre {kn mo:List RP}{ls:List Nat}{R:List RP}(h:dA kn ls R):dA (kn++mo) ls R:=by
 unfold dA
 rw[<-show ls.map (λm=>kn[m]?)=R.map some from h]
 refine map_congr_left λm hm=>?_
 rw[getElem?_append_left (h.mem hm)]
theorem dA.app {kn:List RP}{ls:List Nat}{R:List RP}(h:dA kn ls R){m:Nat}{r:RP}(e:kn[m]?=some r):dA kn (ls++[m]) (R++[r]):=by
 unfold dA
 rw[map_append,map_append,show ls.map (λm=>kn[m]?)=R.map some from h]
 simp[e]
theorem dA.set {kn:List RP}{ls:List Nat}{R:List RP}(h:dA kn ls R)(i:Nat){m:Nat}{r:RP}(e:kn[m]?=some r):dA kn (ls.set i m) (R.set i r):=by
 unfold dA
 rw[map_set,map_set,show ls.map (λm=>kn[m]?)=R.map some from h,e]
theorem dA.drop {kn:List RP}{ls:List Nat}{R:List RP}(h:dA kn ls R):dA kn ls.dropLast R.dropLast:=by
 unfold dA
 rw[map_dropLast,map_dropLast,show ls.map (λm=>kn[m]?)=R.map some from h]
theorem mQ(ls:List Nat):(nI ls).length=ls.length:=length_map _
def vQ:List RP->RP->List RP
 |[],c=>[c]
 |p::ps,c=>if(cX 50 p c).1=p then c::p::ps else(cX 50 p c).2::vQ ps (cX 50 p c).1
def sJ(R:List RP)(p:RP):List RP:=(vQ R.reverse p).reverse
def fA(n:Nat)(R:List RP)(p:RP):List RP:=if(sJ R p).getLast?=some (upTo n,upTo n)then(sJ R p).dropLast else sJ R p
theorem E9:∀(R:List RP)(p:RP),(vQ R p).length=R.length+1
 |[],p=>rfl
 |r::R,p=>by
  unfold vQ
  split
  ·rfl
  ·rw[length_cons,E9 R,length_cons]
theorem wI(R:List RP)(p:RP):(sJ R p).length=R.length+1:=by unfold sJ;rw[length_reverse,E9,length_reverse]
theorem iX.B6 {C:Addr}{H:Hp}{a:Addr}{A:Ad}{ex:List (Str×V)}{n:Nat}{kn:List RP}{ln:List Int}{B:Nat}{nu sh lo ke:List (List Key×V)}(c:iX C H a A ex n kn ln B nu sh lo ke){Y0:List Int}(h:∀m∈Y0,0<=m/\m<kn.length):
  iX C (upd H A.li (.lst (Y0.map V.int))) a A ex n kn Y0 B nu sh lo ke:=by
 have nd:∀{x:Addr}{xs:List (List Key×V)},H x=some (.dT xs)->x≠A.li:=λh1=>bX h1 c.hli (by intro z;cases z)
 have nt:∀{x:Addr}{xs:List V},H x=some (.tup xs)->x≠A.li:=λh1=>bX h1 c.hli (by intro z;cases z)
 obtain⟨⟨n1,n2,n3,n4,n5,n6⟩,_,UC,⟨d1,d2,d3,d4,d5,d6,d7,d8,d9⟩,Xy⟩:=c.UB
 have kp:∀x o,x≠A.li->H x=some o->(upd H A.li (.lst (Y0.map V.int))) x=some o:=λx o hx h=>by rw[aj hx];exact h
 refine⟨kp _ _ (bX c.ob c.hli (by intro z;cases z)) c.ob,?_,c.nd,kp _ _ n3 c.hkn,c.B3,λi b p e1 e2=>kp _ _ (UC b (mem_of_getElem? e1)).2.2.2 (c.hks i b p e1 e2),kp _ _ (nd c.yP) c.yP,kp _ _ n5 c.yv,kp _ _ n6 c.hla,kp _ _ (nd c.hsh) c.hsh,kp _ _ (nd c.hlo) c.hlo,kp _ _ (nd c.hke) c.hke,au,c.rw,c.n1,c.n2,c.s1,c.l1,λi j v e=>?_,c.z,h⟩
 ·obtain⟨o,h⟩:=c.dx
  exact⟨o,kp _ _ d8 h⟩
 ·obtain⟨t,i',j',p,q,h1,h2,h3,h4,h5⟩:=c.k1 i j v e
  exact⟨t,i',j',p,q,h1,h2,h3,kp _ _ (nt h4) h4,h5⟩
theorem iX.inj {C:Addr}{H:Hp}{a:Addr}{A:Ad}{ex:List (Str×V)}{n:Nat}{kn:List RP}{ln:List Int}{B:Nat}{nu sh lo ke:List (List Key×V)}(c:iX C H a A ex n kn ln B nu sh lo ke){i j:Nat}{p q:RP}(hi:kn[i]?=some p)(hj:kn[j]?=some q):((i:Int)=j↔p=q):=by
 constructor
 ·intro e
  have:i=j:=by lia
  subst this
  rw[hi]at hj
  exact Option.some.inj hj
 ·rintro rfl
  have h1:=c.n1 i p hi
  rw[c.n1 j p hj]at h1
  injection h1 with h1
  injection h1 with h1
  exact h1.symm
theorem iX.xO {n:Nat}:∀(f:Nat){p q:RP},Iv n p.1 p.2->Iv n q.1 q.2->Iv n (cX f p q).1.1 (cX f p q).1.2/\Iv n (cX f p q).2.1 (cX f p q).2.2
 |0,p,q,h1,h2=>⟨h1,h2⟩
 |f+1,p,q,h1,h2=>by
  cases hl:(mO p q).getLast? with
  |none=>rw[nG _ hl];exact⟨h1,h2⟩
  |some k=>
   rw[nE f hl]
   obtain⟨j,rfl,hj,_⟩:=og h1 h2 (mem_of_getLast? hl)
   rw[show((j:Int)+1-1).toNat=j by lia]
   exact iX.xO f (cg h1 hj) (fj h2 hj)
theorem xf{α:Type}{l:List α}{x:α}(h:l.getLast?=some x):i6 l (-1)=some x:=by
 obtain⟨ys,rfl⟩:=List.getLast?_eq_some_iff.mp h
 unfold L2.i6 L2.rR
 rw[if_neg (by decide),length_append,length_singleton,if_pos (by lia)]
 simp
 rw[show(-1+((ys.length:Int)+1)).toNat=ys.length by lia]
 simp
theorem Fb{α:Type}{l:List α}{x:α}(h:l.getLast?=some x):l[l.length-1]?=some x:=by
 obtain⟨ys,rfl⟩:=List.getLast?_eq_some_iff.mp h
 simp
theorem dA.last {kn:List RP}{ls:List Nat}{R:List RP}(h:dA kn ls R)(hp:0<R.length):∃m r,ls.getLast?=some m/\R.getLast?=some r/\kn[m]?=some r:=by
 have e:R[R.length-1]?=some (R[R.length-1]'(by lia)):=getElem?_eq_getElem (by lia)
 obtain⟨m,h1,h2⟩:=h.at e
 refine⟨m,_,?_,?_,h2⟩
 ·rw[List.getLast?_eq_getElem?,h.len];exact h1
 ·rw[List.getLast?_eq_getElem?];exact e
theorem UI(ls:List Nat)(m:Nat):(nI (ls++[m])).map V.int=(nI ls).map V.int++[V.int m]:=by unfold nI;simp
theorem uI{ls:List Nat}{i m:Nat}(h:ls[i]?=some m):((nI ls).map V.int)[i]?=some (V.int m):=by unfold nI;rw[getElem?_map,getElem?_map,h];rfl
theorem KS(ls:List Nat)(i m:Nat):((nI ls).map V.int).set i (V.int m)=(nI (ls.set i m)).map V.int:=by unfold nI;rw[map_set,map_set]
theorem Fc(ls:List Nat):((nI ls).map V.int).dropLast=(nI ls.dropLast).map V.int:=by unfold nI;rw[map_dropLast,map_dropLast]
theorem wJ{ls:List Nat}{m:Nat}(h:ls.getLast?=some m):((nI ls).map V.int).getLast?=some (V.int m):=by unfold nI;rw[List.getLast?_map,List.getLast?_map,h];rfl
theorem KU{R:List RP}{t:Nat}{r c:RP}(h:R[t]?=some r):vQ (R.take (t+1)).reverse c=if(cX 50 r c).1=r then c::(R.take (t+1)).reverse else(cX 50 r c).2::vQ (R.take t).reverse (cX 50 r c).1:=by
 have e:R.take (t+1)=R.take t++[r]:=by rw[take_succ,h];rfl
 rw[e,reverse_append]
 rfl
theorem iX.Rb {C:Addr}{H:Hp}{a:Addr}{A:Ad}{ex:List (Str×V)}{n:Nat}{kn:List RP}{ln:List Int}{B:Nat}{nu sh lo ke:List (List Key×V)}(c:iX C H a A ex n kn ln B nu sh lo ke)(YC:List (Str×V)):
  iX C (upd H a (.ins C A.dx (vO A++YC))) a A YC n kn ln B nu sh lo ke:=by
 have nl:∀{x:Addr}{xs:List V},H x=some (.lst xs)->x≠a:=λh1=>bX h1 c.ob (by intro z;cases z)
 have nd:∀{x:Addr}{xs:List (List Key×V)},H x=some (.dT xs)->x≠a:=λh1=>bX h1 c.ob (by intro z;cases z)
 have nt:∀{x:Addr}{xs:List V},H x=some (.tup xs)->x≠a:=λh1=>bX h1 c.ob (by intro z;cases z)
 obtain⟨_,_,_,⟨d1,d2,d3,d4,d5,d6,d7,d8,d9⟩,_⟩:=c.UB
 have kp:∀x o,x≠a->H x=some o->(upd H a (.ins C A.dx (vO A++YC))) x=some o:=λx o hx h=>by rw[aj hx];exact h
 refine⟨au,?_,c.nd,kp _ _ (nl c.hkn) c.hkn,c.B3,λi b p e1 e2=>kp _ _ (nl (c.hks i b p e1 e2)) (c.hks i b p e1 e2),kp _ _ (nd c.yP) c.yP,kp _ _ (nl c.yv) c.yv,kp _ _ (nl c.hla) c.hla,kp _ _ (nd c.hsh) c.hsh,kp _ _ (nd c.hlo) c.hlo,kp _ _ (nd c.hke) c.hke,kp _ _ (nl c.hli) c.hli,c.rw,c.n1,c.n2,c.s1,c.l1,λi j v e=>?_,c.z,c.li⟩
 ·obtain⟨o,h⟩:=c.dx
  exact⟨o,kp _ _ (Ne.symm d9) h⟩
 ·obtain⟨t,i',j',p,q,h1,h2,h3,h4,h5⟩:=c.k1 i j v e
  exact⟨t,i',j',p,q,h1,h2,h3,kp _ _ (nt h4) h4,h5⟩
theorem jK{H:Hp}{a C dx:Addr}{fs:List (Str×V)}(hob:H a=some (.ins C dx fs)){l:Addr}(hl:H l=none)(o:HO)(f:Str):
  l≠a/\(upd H l o) a=some (.ins C dx fs)/\(upd (upd H l o) a (.ins C dx (kL f (.ref l) fs))) a=some (.ins C dx (kL f (.ref l) fs))/\(upd (upd H l o) a (.ins C dx (kL f (.ref l) fs))) l=some o/\(∀x u,x≠a->H x=some u->(upd (upd H l o) a (.ins C dx (kL f (.ref l) fs))) x=some u)/\∀x,(upd (upd H l o) a (.ins C dx (kL f (.ref l) fs))) x=none->H x=none:=by
 have hla:l≠a:=λz=>by rw[z,hob]at hl;cases hl
 refine⟨hla,by rw[aj (Ne.symm hla)];exact hob,au,by rw[aj hla];exact au,λx u hx h=>?_,λx hx=>?_⟩
 ·rw[aj hx,aj (λz=>by rw[z,hl]at h;cases h)]
  exact h
 ·by_cases z:x=a
  ·rw[z,au]at hx;cases hx
  ·rw[aj z]at hx
   by_cases z2:x=l
   ·rw[z2];exact hl
   ·rw[aj z2]at hx;exact hx
def eB(n:Nat):RP:=((upTo n).reverse,(upTo n).reverse)
def eg(n:Nat)(R:List RP):Nat:=(R.takeWhile λr=>decide (r=eB n)).length
def vB(n:Nat)(R:List RP):D:=.tup [.int (eg n R),.lst ((R.drop (eg n R)).map λp=>D.lst (aM p.1))]
theorem B7{n:Nat}{R:List RP}{i:Nat}(h:∀j<i,R[j]?=some (eB n))(hs:R[i]?≠some (eB n)):eg n R=i:=by
 induction R generalizing i with
 |nil=>
  cases i with
  |zero=>rfl
  |succ i=>have:=h 0 (by lia);simp at this
 |cons r R ih=>
  unfold eg
  cases i with
  |zero=>
   have hr:¬r=eB n:=λe=>hs (by rw[e];rfl)
   rw[List.takeWhile_cons_of_neg (by simp[hr])]
   rfl
  |succ i=>
   have hr:r=eB n:=by have:=h 0 (by lia);simpa using this
   rw[List.takeWhile_cons_of_pos (by simp[hr]),length_cons]
   have:=ih (i:=i) (λj hj=>by have:=h (j+1) (by lia);simpa using this) (by simpa using hs)
   unfold eg at this
   rw[this]
theorem KW(n:Nat)(R:List RP)(p:RP):(fA n R p).length<=R.length+1:=by
 unfold fA
 split
 ·rw[length_dropLast,wI];lia
 ·rw[wI];lia
def wK(r:List Int):List Int:=(upTo r.length).map λv=>((r.idxOf v:Nat):Int)
theorem p6{n:Nat}{r:List Int}(h:bF n r):Iv n r (wK r):=by
 obtain⟨s,iv⟩:=Uy h
 have e:wK r=s:=by
  refine aY (by unfold wK;rw[length_map,ak,iv.lr,iv.ls]) λj hj=>?_
  have DH:j<n:=by unfold wK at hj;rwa [length_map,ak,iv.lr]at hj
  have hg:(wK r)[j]?=some ((r.idxOf (j:Int):Nat):Int):=by
   unfold wK
   rw[getElem?_map,pZ _ j (by rw[iv.lr];exact DH)]
   rfl
  rw[<-(iv.idx DH).2]
  unfold aa
  rw[hg]
  rfl
 rw[e]
 exact iv
def gB(n:Nat)(rs:List (List Int)):List RP:=rs.foldl (λR r=>fA n R (r,wK r)) []
theorem HA{n:Nat}{rs:List (List Int)}{i:Nat}{r:List Int}(h:rs[i]?=some r):gB n (rs.take (i+1))=fA n (gB n (rs.take i)) (r,wK r):=by
 unfold gB
 rw[take_succ,h,foldl_append]
 rfl
theorem sL(n:Nat):∀(rs:List (List Int))(R:List RP),(rs.foldl (λR r=>fA n R (r,wK r)) R).length<=R.length+rs.length
 |[],R=>Nat.le_refl _
 |r::rs,R=>by
  have h:=sL n rs (fA n R (r,wK r))
  have h2:=KW n R (r,wK r)
  rw[foldl_cons,length_cons]
  lia
def Rf(n:Nat)(p y:RP):Prop:=∀i j,i<j->j<n->aa y.2 j<aa y.2 i->aa p.1 i<aa p.1 j
def Rg(n:Nat)(w q x:RP):Prop:=∀t,t<n->aa w.2 t=aa x.2 (aa q.2 t).toNat
structure vR(n:Nat)(p0 q0 p q y:RP):Prop where
 iy:Iv n y.1 y.2
 pp:Rg n p p0 y
 pq:Rg n q0 y q
 ap:Rf n p0 y
 aq:Rf n y q
 pl:∀t,t<n->aa p.1 t=aa p0.1 (aa y.1 t).toNat
def sw(a t:Nat):Nat:=if t=a then a+1 else if t=a+1 then a else t
theorem xP{a t n:Nat}(ha:a+1<n)(ht:t<n):sw a t<n:=by
 unfold sw
 repeat' split
 all_goals lia
theorem KY(a:Nat){x:Int}(h:0<=x):sw a (sg a x).toNat=x.toNat:=by
 unfold sg sw
 repeat' split
 all_goals lia
theorem dN{l:List Int}{a:Nat}(h:a+1<l.length)(t:Nat):aa (cZ l a) t=aa l (sw a t):=by
 rw[bB _ _ h]
 unfold sw
 repeat' split
 all_goals rfl
theorem vR.start {n:Nat}{p q:RP}(ip:Iv n p.1 p.2)(hi:Iv n (upTo n) (upTo n)):vR n p q p q (upTo n,upTo n):=by
 have c:∀t,t<n->(aa (upTo n) t).toNat=t:=λt ht=>by rw[ar ht];exact toNat_natCast t
 refine⟨hi,λt ht=>?_,λt ht=>?_,λi j hij hj h=>?_,λi j hij hj h=>?_,λt ht=>?_⟩
 ·obtain⟨h1,h2,_⟩:=ip.sr t ht
  show _=aa (upTo n) (aa p.2 t).toNat
  rw[ar (by lia)]
  lia
 ·show _=aa q.2 (aa (upTo n) t).toNat
  rw[c t ht]
 ·dsimp only at h
  rw[ar hj,ar (by lia)]at h
  lia
 ·dsimp only
  rw[ar hj,ar (by lia)]
  lia
 ·show _=aa p.1 (aa (upTo n) t).toNat
  rw[c t ht]
theorem vR.step {n:Nat}{p0 q0 p q y:RP}(o:vR n p0 q0 p q y)(A5:Iv n p0.1 p0.2)(ip:Iv n p.1 p.2)(iq:Iv n q.1 q.2){j:Nat}(hj:j+1<n)(hup:aa p.1 j<aa p.1 (j+1))(hdn:aa q.2 (j+1)<aa q.2 j):vR n p0 q0 (o4 p j) (rL q j) (o4 y j):=by
 have iy:=o.iy
 refine⟨cg iy hj,λt ht=>?_,λt ht=>?_,λi i' Qm yR h=>?_,λi i' Qm yR h=>?_,λt ht=>?_⟩
 ·obtain⟨h1,h2,_⟩:=A5.sr t ht
  show aa (rK p.2 j) t=aa (rK y.2 j) (aa p0.2 t).toNat
  rw[bq (by rw[ip.ls];exact ht),bq (by rw[iy.ls];lia),o.pp t ht]
 ·obtain⟨h1,h2,_⟩:=iy.sr t ht
  show aa q0.2 t=aa (cZ q.2 j) (aa (rK y.2 j) t).toNat
  rw[bq (by rw[iy.ls];exact ht),dN (by rw[iq.ls];exact hj),KY j h1,o.pq t ht]
 ·have h':aa (rK y.2 j) i'<aa (rK y.2 j) i:=h
  rw[bq (by rw[iy.ls];exact yR),bq (by rw[iy.ls];lia)]at h'
  by_cases hb:aa y.2 i'<aa y.2 i
  ·exact o.ap i i' Qm yR hb
  ·obtain⟨a1,a2,a3⟩:=iy.sr i (by lia)
   obtain⟨b1,b2,b3⟩:=iy.sr i' yR
   have hne:aa y.2 i≠aa y.2 i':=λe=>by
    have:=iy.Il (v:=i) (w:=i') (by lia) yR e
    lia
   have hab:aa y.2 i=j/\aa y.2 i'=j+1:=by
    unfold sg at h'
    repeat' split at h'
    all_goals lia
   have e1:=o.pl j (by lia)
   have e2:=o.pl (j+1) hj
   rw[hab.1,toNat_natCast]at a3
   rw[hab.2,show((j:Int)+1).toNat=j+1 by lia]at b3
   rw[a3,toNat_natCast]at e1
   rw[b3,toNat_natCast]at e2
   lia
 ·have h':aa (cZ q.2 j) i'<aa (cZ q.2 j) i:=h
  show aa (cZ y.1 j) i<aa (cZ y.1 j) i'
  rw[dN (by rw[iq.ls];exact hj),dN (by rw[iq.ls];exact hj)]at h'
  rw[dN (by rw[iy.lr];exact hj),dN (by rw[iy.lr];exact hj)]
  by_cases hc:i=j/\i'=j+1
  ·obtain⟨rfl,rfl⟩:=hc
   unfold sw at h'
   rw[if_pos rfl,if_neg (by lia),if_pos rfl]at h'
   lia
  ·refine o.aq (sw j i) (sw j i') ?_ (xP hj yR) h'
   unfold sw
   repeat' split
   all_goals lia
 ·obtain⟨h1,h2,_⟩:=iy.rs (sw j t) (xP hj ht)
  show aa (cZ p.1 j) t=aa p0.1 (aa (cZ y.1 j) t).toNat
  rw[dN (by rw[ip.lr];exact hj),dN (by rw[iy.lr];exact hj),o.pl _ (xP hj ht)]
theorem Fd{n:Nat}{p0 q0:RP}(A5:Iv n p0.1 p0.2):∀(f:Nat)(p q y:RP),Iv n p.1 p.2->Iv n q.1 q.2->vR n p0 q0 p q y->∃y',vR n p0 q0 (cX f p q).1 (cX f p q).2 y'
 |0,p,q,y,_,_,o=>⟨y,o⟩
 |f+1,p,q,y,ip,iq,o=>by
  cases h:(mO p q).getLast? with
  |none=>rw[nG _ h];exact⟨y,o⟩
  |some k=>
   obtain⟨j,rfl,hj,h1,h2⟩:=og ip iq (mem_of_getLast? h)
   rw[nE f h,show((j:Int)+1-1).toNat=j by lia]
   exact Fd A5 f _ _ _ (cg ip hj) (fj iq hj) (o.step A5 ip iq hj h1 h2)
theorem wL{n:Nat}(hn:n<=7):∀(f:Nat)(p q:RP),Iv n p.1 p.2->Iv n q.1 q.2->49<f+gG p.1->mO (cX f p q).1 (cX f p q).2=[]
 |0,p,q,ip,iq,h=>by have:=uH hn ip;lia
 |f+1,p,q,ip,iq,h=>by
  cases hk:(mO p q).getLast? with
  |none=>
   rw[nG _ hk]
   exact List.getLast?_eq_none_iff.mp hk
  |some k=>
   obtain⟨j,rfl,hj,h1,h2⟩:=og ip iq (mem_of_getLast? hk)
   rw[nE f hk,show((j:Int)+1-1).toNat=j by lia]
   have:=KR ip hj h1
   exact wL hn f _ _ (cg ip hj) (fj iq hj) (by lia)
theorem Rg.calm {n:Nat}{w q x:RP}(hp:Rg n w q x)(iq:Iv n q.1 q.2)(ix:Iv n x.1 x.2)(ad:Rf n q x){i j:Nat}(hij:i<=j)(hj:j<n)(h:aa w.2 i<=aa w.2 j):aa q.2 i<=aa q.2 j:=by
 refine byContradiction λhc=>?_
 obtain⟨a1,a2,a3⟩:=iq.sr i (by lia)
 obtain⟨b1,b2,b3⟩:=iq.sr j hj
 rw[hp i (by lia),hp j hj]at h
 have hne:(aa q.2 j).toNat<(aa q.2 i).toNat:=by lia
 have hx:aa x.2 (aa q.2 i).toNat≠aa x.2 (aa q.2 j).toNat:=λe=>by
  have:=ix.Il (v:=(aa q.2 i).toNat) (w:=(aa q.2 j).toNat) (by lia) (by lia) e
  lia
 have:=ad (aa q.2 j).toNat (aa q.2 i).toNat hne (by lia) (by lia)
 rw[a3,b3]at this
 lia
theorem dW{p q:RP}{n:Nat}(ip:Iv n p.1 p.2)(iq:Iv n q.1 q.2):mO p q=[]↔∀j,j+1<n->aa q.2 (j+1)<aa q.2 j->aa p.1 (j+1)<aa p.1 j:=by
 constructor
 ·intro h j hj hd
  refine byContradiction λhc=>?_
  have hm:((j:Int)+1)∈mO p q:=by
   unfold mO
   rw[mem_filter]
   refine⟨sH.mpr ⟨j,rfl,by rw[iq.ls];exact hj,hd⟩,?_⟩
   have:((j:Int)+1)∉AZ p.1:=λz=>by
    obtain⟨a,e,_,h2⟩:=sH.mp z
    have:a=j:=by lia
    subst this
    exact hc h2
   rw[decide_eq_false this]
   rfl
  rw[h]at hm
  cases hm
 ·intro h
  cases e:mO p q with
  |nil=>rfl
  |cons k t=>
   obtain⟨j,_,hj,h1,h2⟩:=og ip iq (k:=k) (by rw[e];exact mem_cons_self)
   have:=h j hj h2
   lia
theorem switch(f:Nat->Bool):∀(d u:Nat),f u=false->f (u+d)=true->∃i,u<=i/\i<u+d/\f i=false/\f (i+1)=true
 |0,u,h1,h2=>by rw[Nat.add_zero,h1]at h2;cases h2
 |d+1,u,h1,h2=>by
  cases h:f (u+d)with
  |true=>
   obtain⟨i,a,b,c,e⟩:=switch f d u h1 h
   exact⟨i,a,by lia,c,e⟩
  |false=>exact⟨u+d,by lia,by lia,h,h2⟩
theorem UJ{n:Nat}{r q x s' w y w2 s:RP}(ir:Iv n r.1 r.2)(iq:Iv n q.1 q.2)(ix:Iv n x.1 x.2)(is':Iv n s'.1 s'.2)(iw:Iv n w.1 w.2)(iy:Iv n y.1 y.2)(OJ:Iv n w2.1 w2.2)
  (hrq:mO r q=[])(hws:mO w s'=[])(hw:Rg n w q x)(aqx:Rf n q x)(axs:Rf n x s')(Rh:Rg n w y w2)(ayw:Rf n y w2)(ary:Rf n r y):mO w2 s'=[]:=by
 refine(dW OJ is').mpr λj hj hd=>byContradiction λhc=>?_
 have hstop:=(dW iw is').mp hws j hj hd
 obtain⟨v0,v1,v2⟩:=iw.rs j (by lia)
 obtain⟨u0,u1,u2⟩:=iw.rs (j+1) hj
 generalize hv:(aa w.1 j).toNat=v at*
 generalize hu:(aa w.1 (j+1)).toNat=u at*
 have huv:u<v:=by lia
 have hy:aa y.2 v<aa y.2 u:=by
  refine byContradiction λhz=>?_
  obtain⟨a1,a2,a3⟩:=iy.sr u (by lia)
  obtain⟨b1,b2,b3⟩:=iy.sr v (by lia)
  have e1:=Rh u (by lia)
  have e2:=Rh v (by lia)
  rw[u2]at e1
  rw[v2]at e2
  obtain⟨c1,c2,c3⟩:=OJ.sr (aa y.2 u).toNat (by lia)
  obtain⟨d1,d2,d3⟩:=OJ.sr (aa y.2 v).toNat (by lia)
  rw[<-e1,show(((j+1:Nat):Int)).toNat=j+1 by lia]at c3
  rw[<-e2,toNat_natCast]at d3
  have hne:aa y.2 u≠aa y.2 v:=λe=>by
   have:=iy.Il (v:=u) (w:=v) (by lia) (by lia) e
   lia
  lia
 have hq:aa q.2 v<aa q.2 u:=by
  refine byContradiction λhz=>?_
  obtain⟨a1,a2,a3⟩:=iq.sr u (by lia)
  obtain⟨b1,b2,b3⟩:=iq.sr v (by lia)
  have e1:=hw u (by lia)
  have e2:=hw v (by lia)
  rw[u2]at e1
  rw[v2]at e2
  have:=axs j (j+1) (by lia) hj hd
  obtain⟨c1,c2,c3⟩:=ix.sr (aa q.2 u).toNat (by lia)
  obtain⟨d1,d2,d3⟩:=ix.sr (aa q.2 v).toNat (by lia)
  rw[<-e1,show(((j+1:Nat):Int)).toNat=j+1 by lia]at c3
  rw[<-e2,toNat_natCast]at d3
  have hne:aa q.2 u≠aa q.2 v:=λe=>by
   have:=iq.Il (v:=u) (w:=v) (by lia) (by lia) e
   lia
  lia
 obtain⟨i,i1,i2,i3,i4⟩:=switch (λt=>decide (aa w.2 t<=j)) (v-u) u (by rw[decide_eq_false];lia) (by rw[show u+(v-u)=v by lia,decide_eq_true];lia)
 have i3':=of_decide_eq_false i3
 have i4':=of_decide_eq_true i4
 have y1:=Rh.calm iy OJ ayw (i:=u) (j:=i) i1 (by lia) (by lia)
 have y2:=Rh.calm iy OJ ayw (i:=i+1) (j:=v) (by lia) (by lia) (by lia)
 have q1:=hw.calm iq ix aqx (i:=u) (j:=i) i1 (by lia) (by lia)
 have q2:=hw.calm iq ix aqx (i:=i+1) (j:=v) (by lia) (by lia) (by lia)
 have hr:=(dW ir iq).mp hrq i (by lia) (by lia)
 have:=ary i (i+1) (by lia) (by lia) (by lia)
 lia
def vC:List RP->Prop
 |q::p::ps=>mO p q=[]/\vC (p::ps)
 |_=>True
def aR(n:Nat)(R:List RP):Prop:=∀x∈R,Iv n x.1 x.2
theorem vC.tail {q:RP}{R:List RP}(h:vC (q::R)):vC R:=by
 cases R with
 |nil=>trivial
 |cons p ps=>exact h.2
structure UK(n:Nat)(p c p' c':RP):Prop where
 ip:Iv n p'.1 p'.2
 ic:Iv n c'.1 c'.2
 fr:mO p' c'=[]
 ex:∃y,vR n p c p' c' y
theorem gH{n:Nat}(hn:n<=7){p c:RP}(ip:Iv n p.1 p.2)(ic:Iv n c.1 c.2)(hi:Iv n (upTo n) (upTo n)):UK n p c (cX 50 p c).1 (cX 50 p c).2:=
 ⟨(iX.xO 50 ip ic).1,(iX.xO 50 ip ic).2,wL hn 50 p c ip ic (by lia),Fd ip 50 p c _ ip ic (vR.start ip hi)⟩
theorem UK.none {n:Nat}{p c p' c':RP}(s:UK n p c p' c')(ic:Iv n c.1 c.2)(ip:Iv n p.1 p.2)(e:p'=p):c'=c:=by
 obtain⟨y,o⟩:=s.ex
 subst e
 have hy:∀t,t<n->aa y.2 t=t:=λt ht=>by
  have h1:=ip.rs t ht
  have:=o.pp (aa p'.1 t).toNat (by lia)
  rw[h1.2.2,toNat_natCast]at this
  exact this.symm
 refine jJ (n:=n) s.ic ic ?_
 refine Iv.uniq (n:=n) (s:=c.2) ?_ ic
 have:c'.2=c.2:=aY (by rw[s.ic.ls,ic.ls]) λt ht=>by
  rw[s.ic.ls]at ht
  rw[o.pq t ht,hy t ht,toNat_natCast]
 rw[<-this]
 exact s.ic
theorem KZ{n:Nat}(hn:n<=7)(hi:Iv n (upTo n) (upTo n)):∀(ps:List RP)(p c:RP),aR n (p::ps)->Iv n c.1 c.2->vC (p::ps)->vC ((cX 50 p c).2::vQ ps (cX 50 p c).1)
 |[],p,c,hI,ic,_=>by
  have s:=gH hn (hI p (by simp)) ic hi
  exact⟨s.fr,trivial⟩
 |r::ps,p,c,hI,ic,hL=>by
  have ip:=hI p (by simp)
  have ir:=hI r (by simp)
  have s:=gH hn ip ic hi
  have s2:=gH hn ir s.ip hi
  unfold vQ
  by_cases e:(cX 50 r (cX 50 p c).1).1=r
  ·rw[if_pos e]
   have e2:=s2.none s.ip ir e
   have f2:=s2.fr
   rw[e,e2]at f2
   exact⟨s.fr,f2,hL.2⟩
  ·rw[if_neg e]
   refine⟨?_,KZ hn hi ps r _ (λx hx=>hI x (mem_cons_of_mem _ hx)) s.ip hL.2⟩
   obtain⟨x,o⟩:=s.ex
   obtain⟨y,o2⟩:=s2.ex
   exact UJ (s:=c) ir ip o.iy s.ic s.ip o2.iy s2.ic hL.1 s.fr o.pp o.ap o.aq o2.pq o2.aq o2.ap
theorem UL{n:Nat}(hn:n<=7)(hi:Iv n (upTo n) (upTo n)){R:List RP}{c:RP}(hI:aR n R)(ic:Iv n c.1 c.2)(hL:vC R.reverse):vC (vQ R.reverse c):=by
 cases h:R.reverse with
 |nil=>exact trivial
 |cons p ps=>
  rw[h]at hL
  have MS:aR n (p::ps):=λx hx=>hI x (by rw[<-mem_reverse,h];exact hx)
  have s:=gH hn (MS p (by simp)) ic hi
  unfold vQ
  by_cases e:(cX 50 p c).1=p
  ·rw[if_pos e]
   have e2:=s.none ic (MS p (by simp)) e
   have f:=s.fr
   rw[e,e2]at f
   exact⟨f,hL⟩
  ·rw[if_neg e]
   exact KZ hn hi ps p c MS ic hL
def OO(n:Nat)(p:RP):Prop:=∃a,a+1<n/\aa p.2 (a+1)<aa p.2 a
theorem wM{n:Nat}{p:RP}(ip:Iv n p.1 p.2)(hi:Iv n (upTo n) (upTo n))(h:¬OO n p):p=(upTo n,upTo n):=
 jJ (n:=n) ip hi (OC ip λa ha hd=>h ⟨a,ha,hd⟩)
theorem UM{n:Nat}{p:RP}(h:OO n p):p≠(upTo n,upTo n):=λe=>by
 obtain⟨a,ha,hd⟩:=h
 rw[e]at hd
 dsimp only at hd
 rw[ar ha,ar (by lia)]at hd
 lia
theorem Rg.nst {n:Nat}{w q x:RP}(hp:Rg n w q x)(iq:Iv n q.1 q.2)(ix:Iv n x.1 x.2)(ad:Rf n q x){a:Nat}(ha:a+1<n)(h:aa q.2 (a+1)<aa q.2 a):aa w.2 (a+1)<aa w.2 a:=by
 refine byContradiction λhc=>?_
 have:=hp.calm iq ix ad (i:=a) (j:=a+1) (by lia) ha (by lia)
 lia
theorem K0{n:Nat}(hn:n<=7)(hi:Iv n (upTo n) (upTo n)):∀(ps:List RP)(p c:RP),aR n (p::ps)->Iv n c.1 c.2->vC (p::ps)->(∀x∈p::ps,OO n x)->∀x∈vQ ps (cX 50 p c).1,OO n x
 |[],p,c,hI,ic,_,hN,x,hx=>by
  have s:=gH hn (hI p (by simp)) ic hi
  obtain⟨y,o⟩:=s.ex
  obtain⟨a,ha,hd⟩:=hN p (by simp)
  rw[mem_singleton.mp hx]
  exact⟨a,ha,o.pp.nst (hI p (by simp)) o.iy o.ap ha hd⟩
 |r::ps,p,c,hI,ic,hL,hN,x,hx=>by
  have ip:=hI p (by simp)
  have ir:=hI r (by simp)
  have s:=gH hn ip ic hi
  have s2:=gH hn ir s.ip hi
  obtain⟨z,o⟩:=s.ex
  obtain⟨y,o2⟩:=s2.ex
  obtain⟨a,ha,hd⟩:=hN p (by simp)
  have M9:=o.pp.nst ip o.iy o.ap ha hd
  unfold vQ at hx
  by_cases e:(cX 50 r (cX 50 p c).1).1=r
  ·rw[if_pos e]at hx
   rcases mem_cons.mp hx with rfl|hx
   ·exact⟨a,ha,M9⟩
   ·exact hN x (mem_cons_of_mem _ hx)
  ·rw[if_neg e]at hx
   rcases mem_cons.mp hx with rfl|hx
   ·refine byContradiction λhc=>?_
    have e2:=wM s2.ic hi hc
    have hy:∀t,t<n->aa (cX 50 p c).1.2 t=aa y.2 t:=λt ht=>by
     have h1:=o2.iy.sr t ht
     have:=o2.pq t ht
     rw[e2]at this
     dsimp only at this
     rw[ar (by lia)]at this
     lia
    rw[hy _ ha,hy _ (by lia)]at M9
    have h1:=o2.ap a (a+1) (by lia) ha M9
    have h2:=(dW ir ip).mp hL.1 a ha hd
    lia
   ·exact K0 hn hi ps r _ (λx hx=>hI x (mem_cons_of_mem _ hx)) s.ip hL.2 (λx hx=>hN x (mem_cons_of_mem _ hx)) x hx
structure qX(n:Nat)(R:List RP):Prop where
 iv:aR n R
 lw:vC R.reverse
 ns:∀x∈R,OO n x
theorem Ah{n:Nat}:∀(R:List RP)(p:RP),(∀x∈R,Iv n x.1 x.2)->Iv n p.1 p.2->∀x∈vQ R p,Iv n x.1 x.2
 |[],p,_,hp,x,hx=>by rw[mem_singleton.mp hx];exact hp
 |r::R,p,hR,hp,x,hx=>by
  obtain⟨i1,i2⟩:=iX.xO 50 (hR r (by simp)) hp
  unfold vQ at hx
  split at hx
  ·rcases mem_cons.mp hx with rfl|hx
   ·exact hp
   ·exact hR x hx
  ·rcases mem_cons.mp hx with rfl|hx
   ·exact i2
   ·exact Ah R _ (λy hy=>hR y (by simp[hy])) i1 x hx
theorem K1{n:Nat}(hn:n<=7)(hi:Iv n (upTo n) (upTo n)){R:List RP}{c:RP}(h:qX n R)(ic:Iv n c.1 c.2):∃d T,vQ R.reverse c=d::T/\∀x∈T,OO n x:=by
 cases hr:R.reverse with
 |nil=>exact⟨c,[],rfl,λx hx=>nomatch hx⟩
 |cons p ps=>
  have MS:aR n (p::ps):=λx hx=>h.iv x (by rw[<-mem_reverse,hr];exact hx)
  have hN':∀x∈p::ps,OO n x:=λx hx=>h.ns x (by rw[<-mem_reverse,hr];exact hx)
  have hL:=h.lw
  rw[hr]at hL
  unfold vQ
  by_cases e:(cX 50 p c).1=p
  ·rw[if_pos e]
   exact⟨c,p::ps,rfl,hN'⟩
  ·rw[if_neg e]
   exact⟨_,_,rfl,K0 hn hi ps p c MS ic hL hN'⟩
theorem DT{n:Nat}(hn:n<=7)(hi:Iv n (upTo n) (upTo n)){R:List RP}{c:RP}(h:qX n R)(ic:Iv n c.1 c.2):qX n (fA n R c):=by
 have hlw:=UL hn hi h.iv ic h.lw
 have VG:=Ah R.reverse c (λx hx=>h.iv x (by simpa using hx)) ic
 obtain⟨d,T,e,hT⟩:=K1 hn hi h ic
 have XC:(sJ R c).getLast?=some d:=by unfold sJ;rw[e];simp
 have XD:(sJ R c).dropLast=T.reverse:=by unfold sJ;rw[e];simp
 unfold fA
 rw[XC]
 by_cases hd:some d=some (upTo n,upTo n)
 ·rw[if_pos hd,XD]
  rw[e]at hlw VG
  exact⟨λx hx=>VG x (mem_cons_of_mem _ (by simpa using hx)),by rw[reverse_reverse];exact hlw.tail,λx hx=>hT x (by simpa using hx)⟩
 ·rw[if_neg hd]
  unfold sJ
  refine⟨λx hx=>VG x (by simpa using hx),by rw[reverse_reverse];exact hlw,λx hx=>?_⟩
  rw[mem_reverse,e]at hx
  rcases mem_cons.mp hx with rfl|hx
  ·refine byContradiction λhc=>hd ?_
   rw[wM (VG x (by rw[e];exact mem_cons_self)) hi hc]
  ·exact hT x hx
theorem Fe{n:Nat}(hn:n<=7)(hi:Iv n (upTo n) (upTo n)):∀(rs:List (List Int))(R:List RP),(∀r∈rs,bF n r)->qX n R->qX n (rs.foldl (λR r=>fA n R (r,wK r)) R)
 |[],R,_,h=>h
 |r::rs,R,hr,h=>Fe hn hi rs _ (λx hx=>hr x (by simp[hx])) (DT hn hi h (p6 (hr r (by simp))))
theorem uJ{n:Nat}{r s:List Int}(h:Iv n r s)(hd:∀j,j+1<n->aa r (j+1)<aa r j):r=(upTo n).reverse:=by
 have up:∀j,j<n->aa r j<=(n:Int)-1-j:=λj=>by
  induction j with
  |zero=>intro h0;have:=(h.rs 0 h0).2.1;lia
  |succ j ih=>intro hj;have:=ih (by lia);have:=hd j hj;lia
 have dn:∀d j,j+d+1=n->(d:Int)<=aa r j:=λd=>by
  induction d with
  |zero=>intro j hj;exact(h.rs j (by lia)).1
  |succ d ih=>intro j hj;have:=ih (j+1) (by lia);have:=hd j (by lia);lia
 refine aY (by rw[h.lr,length_reverse,ak]) λj hj=>?_
 rw[h.lr]at hj
 have h1:=up j hj
 have h2:=dn (n-1-j) j (by lia)
 have h3:aa (upTo n).reverse j=((n-1-j:Nat):Int):=by
  unfold aa
  rw[getElem?_reverse (by rw[ak];exact hj),ak,pZ n _ (by lia)]
  rfl
 lia
theorem DU{n:Nat}{p:RP}(ip:Iv n p.1 p.2)(hh:Iv n (eB n).1 (eB n).2)(h:mO p (eB n)=[]):p=eB n:=by
 refine jJ (n:=n) ip hh (uJ ip λj hj=>(dW ip hh).mp h j hj ?_)
 have c:∀p,p<n->aa (upTo n).reverse p=((n-1-p:Nat):Int):=λp hp=>by
  unfold aa
  rw[getElem?_reverse (by rw[ak];exact hp),ak,pZ n _ (by lia)]
  rfl
 show aa (upTo n).reverse (j+1)<aa (upTo n).reverse j
 rw[c _ hj,c _ (by lia)]
 lia
theorem vC.at_:∀{l A B:List RP}{p q:RP},vC l->l=A++q::p::B->mO p q=[]
 |_,[],B,p,q,h,e=>by rw[e]at h;exact h.1
 |l,a::A,B,p,q,h,e=>by
  rw[e,cons_append]at h
  exact vC.at_ h.tail rfl
theorem qX.nb {n:Nat}{R A B:List RP}{p q:RP}(h:qX n R)(e:R=A++p::q::B):mO p q=[]:=
 h.lw.at_ (A:=B.reverse) (B:=A.reverse) (by rw[e];simp)
theorem Ff{n:Nat}(hh:Iv n (eB n).1 (eB n).2){R:List RP}(h:qX n R):∀(B A:List RP)(p:RP),R=A++p::B->p≠eB n->∀x∈p::B,x≠eB n
 |[],A,p,e,hp,x,hx=>by rw[mem_singleton.mp hx];exact hp
 |q::B,A,p,e,hp,x,hx=>by
  have ip:=h.iv p (by rw[e];simp)
  have hq:q≠eB n:=λz=>by
   have:=h.nb e
   rw[z]at this
   exact hp (DU ip hh this)
  rcases mem_cons.mp hx with rfl|hx
  ·exact hp
  ·exact Ff hh h B (A++[p]) q (by rw[e];simp) hq x hx
theorem xQ{n:Nat}(R:List RP):R=replicate (eg n R) (eB n)++R.drop (eg n R):=by
 unfold eg
 induction R with
 |nil=>rfl
 |cons p R ih=>
  by_cases h:p=eB n
  ·rw[List.takeWhile_cons_of_pos (by simpa using h),length_cons,replicate_succ,List.drop_succ_cons,cons_append,<-ih,h]
  ·rw[List.takeWhile_cons_of_neg (by simpa using h)]
   rfl
theorem B8{n:Nat}(R:List RP):∀p B,R.drop (eg n R)=p::B->p≠eB n:=by
 unfold eg
 induction R with
 |nil=>intro p B h;cases h
 |cons q R ih=>
  intro p B h
  by_cases hq:q=eB n
  ·rw[List.takeWhile_cons_of_pos (by simpa using hq),length_cons,List.drop_succ_cons]at h
   exact ih p B h
  ·rw[List.takeWhile_cons_of_neg (by simpa using hq)]at h
   have:q=p:=(List.cons.inj h).1
   rw[<-this];exact hq
theorem HB{n:Nat}(hh:Iv n (eB n).1 (eB n).2){R:List RP}(h:qX n R):∀x∈R.drop (eg n R),x≠eB n:=λx hx=>by
 cases e:R.drop (eg n R)with
 |nil=>rw[e]at hx;cases hx
 |cons p B=>
  rw[e]at hx
  exact Ff hh h B (replicate (eg n R) (eB n)) p (by rw[<-e];exact xQ R) (B8 R p B e) x hx
def cmp(o r:List Int):List Int:=r.map λs=>aa o s.toNat
def yS(o:List Int)(R:List (List Int)):List Int:=R.foldl cmp o
def kH(R:List (List Int)):Nat:=(R.map gG).sum
theorem dX{o r:List Int}{t:Nat}(h:t<r.length):aa (cmp o r) t=aa o (aa r t).toNat:=by
 unfold cmp
 have:=dz h
 unfold aa at this⊢
 rw[getElem?_map,this]
 rfl
theorem oh(o:List Int)(a b:List (List Int)):yS o (a++b)=yS (yS o a) b:=foldl_append
theorem sM(a b:List (List Int)):kH (a++b)=kH a+kH b:=by unfold kH;rw[map_append,sum_append]
theorem Fg{n:Nat}{o r q s:List Int}(iq:Iv n q s)(hr:r.length=n):cmp (cmp o r) q=cmp o (cmp r q):=by
 refine aY (by unfold cmp;simp) λt ht=>?_
 have Ii:t<q.length:=by unfold cmp at ht;simpa using ht
 have h1:=iq.rs t (by rw[<-iq.lr];exact Ii)
 rw[dX Ii,dX (by rw[hr];lia),dX (by unfold cmp;simpa using Ii),dX Ii]
theorem vR.prd {n:Nat}{p0 q0 p q y:RP}(o:vR n p0 q0 p q y)(HC:Iv n q0.1 q0.2)(A5:Iv n p0.1 p0.2)(ip:Iv n p.1 p.2)(iq:Iv n q.1 q.2):cmp p.1 q.1=cmp p0.1 q0.1:=by
 refine aY (by unfold cmp;simp[iq.lr,HC.lr]) λt ht=>?_
 have Ii:t<n:=by unfold cmp at ht;rw[length_map,iq.lr]at ht;exact ht
 rw[dX (by rw[iq.lr];exact Ii),dX (by rw[HC.lr];exact Ii)]
 obtain⟨a1,a2,a3⟩:=iq.rs t Ii
 obtain⟨b1,b2,b3⟩:=HC.rs t Ii
 obtain⟨c1,c2,c3⟩:=o.iy.rs (aa q.1 t).toNat (by lia)
 rw[o.pl _ (by lia)]
 have h1:=o.pq (aa y.1 (aa q.1 t).toNat).toNat (by lia)
 rw[c3,toNat_natCast,a3]at h1
 have:=HC.Il (v:=(aa y.1 (aa q.1 t).toNat).toNat) (w:=(aa q0.1 t).toNat) (by lia) (by lia) (by rw[h1,b3])
 rw[this]
theorem Ai{n:Nat}{o s:List Int}(h:Iv n o s){a:Nat}(ha:a+1<n):(aa o a<aa o (a+1)->gG (cZ o a)=gG o+1)/\(aa o (a+1)<aa o a->gG (cZ o a)+1=gG o):=by
 have e:=wG o a [] (by rw[h.lr];exact ha)
 unfold gG
 constructor
 ·intro c
  rw[if_neg (by lia),if_pos c]at e
  lia
 ·intro c
  rw[if_pos c,if_neg (by lia)]at e
  lia
theorem Fi{n:Nat}:∀(f:Nat)(p q:RP),Iv n p.1 p.2->Iv n q.1 q.2->gG (cX f p q).1.1+gG (cX f p q).2.1=gG p.1+gG q.1
 |0,p,q,_,_=>rfl
 |f+1,p,q,ip,iq=>by
  cases h:(mO p q).getLast? with
  |none=>rw[nG _ h]
  |some k=>
   obtain⟨j,rfl,hj,h1,h2⟩:=og ip iq (mem_of_getLast? h)
   rw[nE f h,show((j:Int)+1-1).toNat=j by lia,Fi f _ _ (cg ip hj) (fj iq hj)]
   have e1:=(Ai ip hj).1 h1
   have e2:=(Ai iq.symm hj).2 h2
   have e3:=xK iq
   have e4:=xK (fj iq hj)
   show gG (cZ p.1 j)+gG (rL q j).1=_
   have e5:gG (rL q j).2=gG (cZ q.2 j):=rfl
   lia
theorem K2{n:Nat}(hn:n<=7)(hi:Iv n (upTo n) (upTo n)){p c:RP}(ip:Iv n p.1 p.2)(ic:Iv n c.1 c.2):cmp (cX 50 p c).1.1 (cX 50 p c).2.1=cmp p.1 c.1:=by
 have s:=gH hn ip ic hi
 obtain⟨y,o⟩:=s.ex
 exact o.prd ic ip s.ip s.ic
def fwd(R:List RP):List (List Int):=(R.reverse).map (·.1)
theorem nH(p:RP)(R:List RP):fwd (p::R)=fwd R++[p.1]:=by unfold fwd;simp
theorem Fj{n:Nat}(hn:n<=7)(hi:Iv n (upTo n) (upTo n)):∀(R:List RP)(c:RP),aR n R->Iv n c.1 c.2->(∀o,yS o (fwd (vQ R c))=yS o (fwd R++[c.1]))/\kH (fwd (vQ R c))=kH (fwd R)+gG c.1
 |[],c,_,_=>⟨λo=>rfl,by unfold vQ kH fwd;simp⟩
 |p::ps,c,hI,ic=>by
  have ip:=hI p (by simp)
  have s:=gH hn ip ic hi
  unfold vQ
  by_cases e:(cX 50 p c).1=p
  ·rw[if_pos e]
   exact⟨λo=>by rw[nH],by rw[nH,sM];simp[kH]⟩
  ·rw[if_neg e]
   obtain⟨h1,h2⟩:=Fj hn hi ps (cX 50 p c).1 (λx hx=>hI x (by simp[hx])) s.ip
   refine⟨λo=>?_,?_⟩
   ·rw[nH,oh,h1 o,nH,List.append_assoc,oh,oh]
    show cmp (cmp (yS o (fwd ps)) (cX 50 p c).1.1) (cX 50 p c).2.1=cmp (cmp (yS o (fwd ps)) p.1) c.1
    rw[Fg s.ic s.ip.lr,K2 hn hi ip ic,<-Fg ic ip.lr]
   ·rw[nH,sM,h2,nH,sM]
    have:=Fi 50 p c ip ic
    have e1:∀r:List Int,kH [r]=gG r:=λr=>by simp[kH]
    rw[e1,e1]
    lia
theorem OP{n:Nat}(hn:n<=7)(hi:Iv n (upTo n) (upTo n))(c0:gG (upTo n)=0){R:List RP}{c:RP}(hI:aR n R)(ic:Iv n c.1 c.2):(∀o:List Int,o.length=n->yS o ((fA n R c).map (·.1))=yS o (R.map (·.1)++[c.1]))/\kH ((fA n R c).map (·.1))=kH (R.map (·.1))+gG c.1:=by
 have MS:aR n R.reverse:=λx hx=>hI x (by simpa using hx)
 obtain⟨h1,h2⟩:=Fj hn hi R.reverse c MS ic
 have ef:fwd (vQ R.reverse c)=(sJ R c).map (·.1):=rfl
 have er:fwd R.reverse=R.map (·.1):=by unfold fwd;rw[reverse_reverse]
 rw[ef,er]at h2
 unfold fA
 by_cases hd:(sJ R c).getLast?=some (upTo n,upTo n)
 ·rw[if_pos hd]
  have hne:sJ R c≠[]:=λz=>by rw[z]at hd;cases hd
  have yA:(sJ R c).dropLast++[(upTo n,upTo n)]=sJ R c:=by
   have:=List.dropLast_concat_getLast hne
   rw[List.getLast?_eq_some_getLast hne]at hd
   rw[Option.some.inj hd]at this
   exact this
  rw[<-yA,map_append,sM]at h2
  have e1:kH ([((upTo n,upTo n):RP)].map (·.1))=0:=by simp[kH,c0]
  rw[e1]at h2
  refine⟨λo ho=>?_,h2⟩
  have h3:=h1 o
  rw[ef,er,<-yA,map_append,oh]at h3
  rw[<-h3]
  show _=cmp (yS o ((sJ R c).dropLast.map (·.1))) (upTo n)
  have hl:(yS o ((sJ R c).dropLast.map (·.1))).length=n:=by
   have VG:=Ah R.reverse c (λx hx=>hI x (by simpa using hx)) ic
   have ha:∀x∈(sJ R c).dropLast,x.1.length=n:=λx hx=>by
    rw[dropLast_eq_take]at hx
    have:=mem_of_mem_take hx
    unfold sJ at this
    exact(VG x (by simpa using this)).lr
   generalize (sJ R c).dropLast=Z at ha
   clear yA h3 h2 h1
   induction Z generalizing o with
   |nil=>exact ho
   |cons z Z ih=>
    refine ih (cmp o z.1) ?_ λx hx=>ha x (by simp[hx])
    unfold cmp
    rw[length_map]
    exact ha z (by simp)
  refine aY (by unfold cmp;rw[length_map,hl,ak]) λt ht=>?_
  rw[hl]at ht
  rw[dX (by rw[ak];exact ht),ar ht,toNat_natCast]
 ·rw[if_neg hd]
  exact⟨λo _=>by have:=h1 o;rw[ef,er]at this;exact this,h2⟩
noncomputable def tCI(K:PySem.W.Frag)(caps:List Nat)(tl te:TE):TE:=λσ H Q=>IF K tl σ H λJ H1=>∃(l:Addr)(xs vs:List V),J=Su K l/\dG K H1 l xs/\vs.length=caps.length/\(∀(j i:Nat)(v:V),caps[j]?=some i->vs[j]?=some v->σ[i]?=some (some v))/\
 ∀Dd,H1 Dd=none->∃Pv:Nat->List V->Hp->Prop,Pv 0 [] (upd H1 Dd (.lst []))/\(∀i acc Hx,Pv i acc Hx->dG K Hx l xs/\Hx Dd=some (.lst acc))/\
  (∀i acc Hx x,Pv i acc Hx->xs[i]?=some x->te (some x::vs.map some) Hx λv H2=>H2 Dd=some (.lst acc)/\acc.length<sizeLine/\Pv (i+1) (acc++[v]) (upd H2 Dd (.lst (acc++[v]))))/\∀acc Hx,Pv xs.length acc Hx->Q (.ref Dd) Hx
section
variable{X:Cx}{pos:Pos}{scope:Scope}{N:List Str}{caps:List Nat}
theorem K3{elt tg iter:Expr}{tl te:TE}(S:iC X scope N 1 caps)(xp:X.calm=true)(hi:PI X tg iter (IF X.K tl))(hg:∀s H fp C pl,PG (qU X scope N s H fp C pl) tg (IB 0))(he:∀s H fp C pl,PE (qU X scope N s H fp C pl) elt te)
  (hs:∀x,foldedSetIterable iter X.env x=pure x:=by intro _;rfl):PE X (.ListComp elt [⟨tg,iter,[],0⟩] scope pos) (tCI X.K caps tl te):=by
 intro pins s σ H Q I h
 rw[eval_ListComp]
 refine wpAny_comprehension_free (use:=none) rfl hs (rg (S.cells I)) S.kind S.names ?_
 refine cM (hi pins s σ H (λJ H1=>∃(l:Addr)(xs vs:List V),J=Su X.K l/\dG X.K H1 l xs/\vs.length=caps.length/\(∀(j i:Nat)(v:V),caps[j]?=some i->vs[j]?=some v->σ[i]?=some (some v))/\
  ∀Dd,H1 Dd=none->∃Pv:Nat->List V->Hp->Prop,Pv 0 [] (upd H1 Dd (.lst []))/\(∀i acc Hx,Pv i acc Hx->dG X.K Hx l xs/\Hx Dd=some (.lst acc))/\
   (∀i acc Hx x,Pv i acc Hx->xs[i]?=some x->te (some x::vs.map some) Hx λv H2=>H2 Dd=some (.lst acc)/\acc.length<sizeLine/\Pv (i+1) (acc++[v]) (upd H2 Dd (.lst (acc++[v]))))/\∀acc Hx,Pv xs.length acc Hx->Q (.ref Dd) Hx) I ?_) λv s1 h1=>cM h1 λitv s2 h2=>?_
 ·exact h
 obtain⟨it,fp,tn,J,H2,rfl,I2,T,MG,f2,l,xs,vs,rfl,hq,WX,hvs,hinv⟩:=h2
 refine wpAny_newObj_type (wpAny_newFunctionEnv S.cell (by intro y hy;simp at hy) (λh₁ Dk hsb₁=>?_) S.kind)
 dsimp only at Dk hsb₁⊢
 have Td:H2 s2.heap.objs.size=none:=I2.hok.fresh (Nat.le_refl _)
 have I3:Inv X pins σ (upd H2 s2.heap.objs.size (.lst [])) {s2 with heap:=s2.heap.push {cls:=.type "list",dict:=none,data:=.seq ([]:List Value).toArray}}:=
  I2.laid (t':=s2.toks) (λb u e=>Heap.get?_push_of_some _ e) (Nat.le_refl _) ⟨zero_le _,[],0,.nil,Heap.get?_push_size _ rfl⟩
 generalize WY:({s2 with heap:=s2.heap.push {cls:=.type "list",dict:=none,data:=.seq ([]:List Value).toArray}}:Shared)=s3 at I3
 have Te:s3.heap=s2.heap.push {cls:=.type "list",dict:=none,data:=.seq ([]:List Value).toArray}:=by rw[<-WY]
 rw[<-Te]at Dk hsb₁⊢
 generalize hDd:s2.heap.objs.size=Dd at*
 have k3:∀b o,s3.heap.get? b=some o->h₁.get? b=some o:=λb o e=>hsb₁.extBut b o (ne_of_lt (Heap.lt_size e)) (Heap.get?_push_of_some _ e)
 have Jl:∀b∈fp,∃o,s2.heap.get? b=some o:=λb hb=>let⟨o,e,_⟩:=T.obj 0 _ MG b hb;⟨o,e⟩
 have Tf:∀b∈fp,∃o,s3.heap.get? b=some o:=λb hb=>let⟨o,e⟩:=Jl b hb;⟨o,by rw[Te];exact Heap.get?_push_of_some _ e⟩
 have hfD:∀b∈fp,b≠Dd:=λb hb=>let⟨o,e⟩:=Jl b hb;by rw[<-hDd];exact ne_of_lt (Heap.lt_size e)
 have f3:∀b∈fp,nQ X pins (upd H2 Dd (.lst [])) b:=λb hb=>⟨by rw[aj (hfD b hb)];exact(f2 b hb).1,(f2 b hb).2⟩
 have I4:=S.start (t':=s2.toks+([]:List (Str×Value)).length) I3 f3 (Nat.le_refl _) Dk k3 Tf WX (λj i v e1 e2=>hvs j i v e1 e2) _ rfl
 generalize hX:qU X scope N s3 (upd H2 Dd (.lst [])) fp s3.heap.objs.size (X.pn++pins)=X' at I4
 have WZ:=hg s3 (upd H2 Dd (.lst [])) fp s3.heap.objs.size (X.pn++pins)
 have W0:=he s3 (upd H2 Dd (.lst [])) fp s3.heap.objs.size (X.pn++pins)
 rw[hX]at WZ W0
 have eK:X'.K=X.K:=by rw[<-hX];rfl
 have eP:X'.prog=X.prog:=by rw[<-hX];rfl
 have eW:X'.w=X.w:=by rw[<-hX];rfl
 have eA:X'.A=X.A:=by rw[<-hX];rfl
 have eE:X'.xe=λ_ _=>False:=by rw[<-hX];rfl
 have eC:X'.calm=true:=by rw[<-hX];exact xp
 have eL:X'.env.locals=s3.heap.objs.size:=by rw[<-hX];rfl
 have eS:X'.s₀=s3:=by rw[<-hX];rfl
 have eX:X'.ex=fp:=by rw[<-hX];rfl
 have eF:X'.fs=CL X.stack:=by rw[<-hX];rfl
 have eN:X'.pn=X.pn++pins:=by rw[<-hX];rfl
 have eH:X'.H₀=upd H2 Dd (.lst []):=by rw[<-hX];rfl
 have eV:X'.env=compEnvC scope (AS X.env.cells scope.names []) s3.heap.objs.size X.env:=by rw[<-hX];rfl
 have Tg:∀{Hx:Hp},(∀b∈fp,Hx b=none)->∀b∈fp,nQ X' [] Hx b:=λ{Hx} hn b hb=>by
  obtain⟨_,c1,c2,c3,c4,c5⟩:=f3 b hb
  have q:=I4.ok.VX b (by rw[eX];exact hb)
  refine⟨hn b hb,q.1,I4.ok.CT b (by rw[eX];exact hb),.inl (by rw[eX];exact hb),q.2,λp hp=>?_⟩
  rw[eN,append_nil]at hp
  exact c5 p hp
 obtain⟨Pv,pv0,pvl,pvs,pvd⟩:=hinv Dd Td
 have loop:∀s4:Shared,Inv X' [] (replicate 1 none++vs.map some) (upd H2 Dd (.lst [])) s4->tn 0 s4.heap->
   codeAny (model X.prog X.w) X.A (.compLoop (.ListComp elt [⟨tg,iter,[],0⟩] scope pos) 0 (.ref it) (.ref Dd) (compEnvC scope (AS X.env.cells scope.names []) s3.heap.objs.size X.env))
    (compPost (model X.prog X.w) X.A X.xe none (EP X pins σ Q) (.ref Dd) s3.heap.objs.size) s4:=by
  intro s4 J4 Jm
  refine vk (λn s'=>∃(i:Nat)(acc:List V)(Hx:Hp)(t0:Option V),n=xs.length-i/\i<=xs.length/\Inv X' [] (t0::vs.map some) Hx s'/\tn i s'.heap/\(∀b∈fp,Hx b=none)/\Pv i acc Hx) ?_ xs.length
   ⟨0,[],_,none,by simp,zero_le _,J4,Jm,λb hb=>(f3 b hb).1,pv0⟩
  rintro n s5 ⟨i,acc,Hx,t0,rfl,hi5,J5,Ni,MH,p5⟩
  obtain⟨hq5,W2⟩:=pvl i acc Hx p5
  by_cases hlt:i<xs.length
  ·have hx:xs[i]?=some xs[i]:=getElem?_eq_getElem hlt
   have TI:=T.item X' eP eW eK eC i [] s5 _ Hx (λ_ _=>False) J5 (Tg MH) Ni ⟨xs,xs[i],hq5,hx⟩
   rw[eA]at TI
   refine cM TI λr s6 h6=>?_
   obtain⟨u,rfl,h6⟩:=h6
   refine cM h6 λ_ s7 h7=>?_
   obtain⟨x,H7,J7,rx,⟨rfl,hy⟩,Th,fr7⟩:=h7
   have exi:=hy xs hq5
   have J7':=J7.pinned (Tg fr7) (T.obj _ _ Th)
   have TG:=WZ _ s7 _ H7 x u (λσ8 H8=>σ8=some x::vs.map some/\H8=H7) J7' rx ⟨rfl,rfl⟩
   rw[eP,eW,eA,eE,eV]at TG
   refine cM TG λ_ s8 h8=>?_
   obtain⟨σ8,H8,J8,rfl,rfl⟩:=h8
   refine cM (wpAny_tests_nil (Q:=λb s'=>b=true/\s'=s8) ⟨rfl,rfl⟩) λok s9 h9=>?_
   obtain⟨rfl,rfl⟩:=h9
   have EH:∀{σx:St}{Hy:Hp}{sx:Shared},Inv X' ([]++uf fp s7.heap) σx Hy sx->tn (i+1) sx.heap/\∀b∈fp,Hy b=none:=λ{σx Hy sx} Jx=>
    ⟨T.keep _ _ _ Th λb hb o e=>(Jx.pin (b,o) (mem_append_right _ (mem_append_right _ (gQ hb e)))).1,λb hb=>by
     obtain⟨o,e,d⟩:=T.obj _ _ Th b hb
     exact(Jx.pin (b,o) (mem_append_right _ (mem_append_right _ (gQ hb e)))).2.1⟩
   rw[if_pos rfl]
   have TE:=W0 _ s9 _ H8 _ J8 (pvs i acc H8 x p5 exi)
   rw[eP,eW,eA,eE,eV]at TE
   refine cM TE λy W3 h10=>?_
   obtain⟨v,Bx,J10,rv,Ti,hlen,p10⟩:=h10
   have TM:=fZ (X:=X') _ W3 _ Bx (.ref Dd) [v] (.ref Dd) [y] (λ_ Vy=>Vy=upd Bx Dd (.lst (acc++[v]))) J10 rfl (.cons rv .nil) ⟨Dd,acc,v,rfl,rfl,Ti,hlen,rfl⟩
   rw[eP,eW,eA,eE]at TM
   refine cM TM λ_ s11 h11=>?_
   obtain⟨v',Vy,W5,_,rfl⟩:=h11
   obtain⟨k1,k2⟩:=EH W5
   exact⟨xs.length-(i+1),by lia,i+1,acc++[v],_,some x,rfl,hlt,W5.kK,k1,k2,p10⟩
  ·have e:i=xs.length:=by lia
   subst e
   have TD:=T.done X' eP eW eK eC xs.length [] s5 _ Hx (λ_ _=>False) J5 (Tg MH) Ni ⟨xs,hq5,Nat.le_refl _⟩
   rw[eA]at TD
   refine cM TD λr s6 h6=>?_
   obtain⟨rfl,J6⟩:=h6
   obtain⟨m6,Tj,_⟩:=J6.loc
   rw[eL]at Tj
   have un6:Un (CL X.stack) fp (upd H2 Dd (.lst [])) Hx s3.heap s6.heap:=by
    have u:=J6.base
    rw[eF,eX,eH,eS]at u
    exact u
   have hxC:Hx s3.heap.objs.size=none:=by have:=J6.free;rw[eL]at this;exact this
   have Tn:qR X.prog X.w Hx s6.heap:=by
    have z:=J6.hok
    rw[eP,eW]at z
    exact z
   have os6:s6.os=s3.os:=by have:=J6.os;rw[eS]at this;exact this
   have I6:Inv X pins σ Hx s6:=I3.Qc (s':=s6) os6 un6 Tn J6.bare λb hb=>by
    obtain⟨_,c1,c2,c3,c4,c5⟩:=f3 b hb
    exact⟨c3,c1,c4,c5⟩
   have fC:nQ X pins Hx s3.heap.objs.size:=⟨hxC,(I3.GH (Nat.le_refl _) (I3.hok.fresh (Nat.le_refl _))).2⟩
   refine⟨m6,Tj,λh7 hs7=>⟨.ref Dd,Hx,zf (fp:=[s3.heap.objs.size]) (t':=s6.toks) I6 (λb hb=>by
    have z:b=s3.heap.objs.size:=by simpa using hb
    rw[z];exact fC) (λb u hb e=>(hs7.2 b (λz=>hb (by simp[z]))).trans e),rfl,pvd acc Hx p5⟩⟩
 have Jm:tn 0 h₁:=T.keep _ _ _ MG λb hb o e=>k3 b o (by rw[Te];exact Heap.get?_push_of_some _ e)
 have eG:({heap:=h₁,gens:=s3.gens,drawn:=s3.drawn,toks:=s2.toks+([]:List (Str×Value)).length,os:=s3.os}:Shared)={heap:=h₁,gens:=s2.gens,drawn:=s2.drawn,toks:=s2.toks+([]:List (Str×Value)).length,os:=s2.os}:=by rw[<-WY]
 rw[eG]at I4
 exact codeAny_compStart_list (loop _ I4 Jm) (T.self _ 0 _ _ _ Jm (loop _ I4 Jm))
end
def kU(env:DE):R Bool:=
 R.ok true
def kW(env:DE):R D:=
 (bH 0 env>=>λiW=>R.ok (D.int 0)>=>λgy=>Bq iW gy)
noncomputable def Fl(env:DE):R Out:=
 ((((((bH 4 env>=>λv6=>R.ok (D.int 0)>=>λv7=>Bq v6 v7)>=>λv4=>(((bH 1 env>=>wo)>=>λv9=>iZ env []>=>λv10=>R.ne (cY (bN 0) kU kW (jY 1 v10) v9)>=>fit)>=>λv8=>R.of (zh v8))>=>λv5=>R.of (cD v4 v5))>=>λv2=>((bH 4 env>=>λmK=>R.ok (D.int 1)>=>λjO=>Bq mK jO)>=>λkQ=>R.ok []>=>λmJ=>R.ok (kQ::mJ))>=>λv3=>R.ok (v2::v3))>=>fit)>=>λds=>R.ok (D.tup ds))>=>λv1=>R.ok (Out.rt v1))
def eO(ds:List D):R D:=match ds with
 |[.int n,d]=>R.ne (bp [d]>=>λrs=> @ite _ ((1<=n/\n<=7)/\rs.length<=40/\∀r∈rs,bF n.toNat r) (propDecidable _) (Fl [.val (.int n),.val d,.no,.no,.val (vB n.toNat (gB n.toNat rs))]>=>ah) .bad)
 |_=>.bad
def K4(env:DE):R Out:=
 (((bH 0 env>=>λv2=>(((bH 0 env>=>λv6=>(bH 1 env>=>λv8=>R.ok []>=>λv9=>R.ok (v8::v9))>=>λv7=>R.ok (v6::v7))>=>eM)>=>λv4=>R.ok []>=>λv5=>R.ok (v4::v5))>=>λv3=>R.ok (v2::v3))>=>eO)>=>λv1=>R.ok (Out.rt v1))
def jg:=mD 2 2 K4
noncomputable def K5(env:DE):R Out:=
 ((((bH 0 env>=>λv4=>(bH 1 env>=>λv6=>R.ok []>=>λv7=>R.ok (v6::v7))>=>λv5=>R.ok (v4::v5))>=>jg)>=>λv2=>((bH 0 env>=>λv8=>(bH 2 env>=>λv10=>R.ok []>=>λv11=>R.ok (v10::v11))>=>λv9=>R.ok (v8::v9))>=>jg)>=>λv3=>R.of (rF v2 v3))>=>λv1=>R.ok (Out.rt v1))
def xR:=mS 3 3 K5
noncomputable def Ri(env:DE):R Out:=
 (aX ((((aV 0 env>=>λv5=>(R.ok (D.int 0)>=>λv7=>R.ok []>=>λv8=>R.ok (v7::v8))>=>λv6=>R.ok (v5::v6))>=>dS)>=>λv3=>(R.ok (D.int 10)>=>λv9=>R.ok (D.int 9)>=>λv10=>R.of (Jc v9 v10))>=>λv4=>R.of (mE v3 v4))>=>λv2=>R.ok (Out.nx (List.set env 1 (Sl.val v2)))) λv1=>
 (aX (((aV 1 v1>=>λiW=>(R.ok (D.int 2)>=>λkQ=>(R.ok (D.int 7)>=>λmK=>R.ok []>=>λjO=>R.ok (mK::jO))>=>λmJ=>R.ok (kQ::mJ))>=>λgy=>R.ok (iW::gy))>=>fM)>=>λlL=>R.ok (Out.nx (List.set v1 2 (Sl.val lL)))) λv11=>
 (aX ((((aV 1 v11>=>λoX=>(R.ok (D.int 3)>=>λsj=>(R.ok (D.int 16807)>=>λvN=>R.ok []>=>λyN=>R.ok (vN::yN))>=>λuD=>R.ok (sj::uD))>=>λrJ=>R.ok (oX::rJ))>=>cA)>=>λqV=>R.ok (D.int 5)>=>λjf=>R.of (mE qV jf))>=>λv20=>R.ok (Out.nx (List.set v11 3 (Sl.val v20)))) λje=>
 (aX (((bH 0 je>=>λBH=>(bH 2 je>=>λDu=>(((aV 3 je>=>λDy=>R.ok (D.int 4)>=>λAW=>R.of (rF Dy AW)>=>ja)>=>λDw=>if Dw=true then(R.ok (D.int 2))else((aV 2 je>=>λDG=>R.ok (D.int 4)>=>λDF=>R.of (wq DG DF)>=>ja)>=>λCM=>if CM=true then(R.ok (D.int 5))else(R.ok (D.int 6))))>=>λDt=>R.ok []>=>λAV=>R.ok (Dt::AV))>=>λDv=>R.ok (Du::Dv))>=>λBI=>R.ok (BH::BI))>=>jI)>=>λv30=>R.ok (Out.nx (List.set je 4 (Sl.val v30)))) λvo=>
 (aX (((bH 4 vo>=>λxx=>(bH 2 vo>=>λDz=>(bH 0 vo>=>λDA=>(((aV 3 vo>=>λHq=>R.ok (D.int 4)>=>λHa=>R.of (NP Hq Ha)>=>ja)>=>λDD=>if DD=true then(((aV 4 vo>=>λG9=>R.ok []>=>λHg=>R.ok (G9::Hg))>=>λAY=>R.of (kO AY))>=>λAX=>R.ok (D.int 2)>=>λBK=>R.of (cD AX BK))else(R.ok (D.int 2)))>=>λBJ=>R.ok []>=>λCN=>R.ok (BJ::CN))>=>λDB=>R.ok (DA::DB))>=>λwD=>R.ok (Dz::wD))>=>λDC=>R.ok (xx::DC))>=>fQ)>=>λCO=>R.ok (Out.nx (List.set vo 5 (Sl.val CO)))) λAc=>
 (aX (((bH 5 Ac>=>λHb=>(bH 2 Ac>=>λHc=>(bH 3 Ac>=>λHn=>(((aV 1 Ac>=>λHl=>(R.ok (D.int 5)>=>λHk=>(R.ok (D.int 40692)>=>λJK=>R.ok []>=>λJL=>R.ok (JK::JL))>=>λHi=>R.ok (Hk::Hi))>=>λHj=>R.ok (Hl::Hj))>=>cA)>=>λHm=>R.ok []>=>λHh=>R.ok (Hm::Hh))>=>λHo=>R.ok (Hn::Ho))>=>λHd=>R.ok (Hc::Hd))>=>λHe=>R.ok (Hb::He))>=>fO)>=>λHf=>R.ok (Out.nx (List.set Ac 5 (Sl.val Hf)))) λzj=>
 (aX (((((bH 2 zj>=>λHs=>(bH 4 zj>=>λT8=>R.ok []>=>λUd=>R.ok (T8::Ud))>=>λHt=>R.ok (Hs::Ht))>=>f9)>=>λUo=>R.ok (D.lst Uo))>=>λJM=>(((bH 2 zj>=>λT9=>(bH 5 zj>=>λUa=>R.ok []>=>λUb=>R.ok (Ua::Ub))>=>λUc=>R.ok (T9::Uc))>=>f9)>=>λUm=>R.ok (D.lst Um))>=>λOx=>R.of (rF JM Ox))>=>λJN=>R.ok (Out.nx (List.set zj 6 (Sl.val JN)))) λHr=>
 (aX (((((fY 4 Hr>=>λUj=>R.ok (D.lst Uj))>=>λUe=>((fY 5 Hr>=>λUi=>R.ok (D.lst Ui))>=>λUk=>R.ok []>=>λUh=>R.ok (Uk::Uh))>=>λUg=>R.ok (Ue::Ug))>=>fit)>=>λds=>R.ok (D.tup ds))>=>λUl=>R.ok (Out.nx (List.set Hr 7 (Sl.val Ul)))) λMR=>
 (aX (((aV 2 MR>=>λDJ=>((bH 7 MR>=>λDM=>R.ok (D.int 0)>=>λJV=>Bq DM JV)>=>λDP=>((bH 7 MR>=>λJX=>R.ok (D.int 1)>=>λJW=>Bq JX JW)>=>λJY=>R.ok []>=>λJZ=>R.ok (JY::JZ))>=>λDK=>R.ok (DP::DK))>=>λDN=>R.ok (DJ::DN))>=>xR)>=>λDI=>R.ok (Out.nx (List.set MR 8 (Sl.val DI)))) λHu=>
 (aX (((((aV 8 Hu>=>λKd=>N6 "bool" Kd)>=>ja)>=>λJ0=>R.ok (!J0))>=>λKe=>if Ke=true then R.ok true else((aV 8 Hu>=>λKc=>aV 6 Hu>=>λJ1=>R.of (AU Kc J1)>=>ja)>=>λJ3=>if J3=true then R.ok true else(aV 7 Hu>=>λJ2=>(((bH 4 Hu>=>λKb=>(bH 5 Hu>=>λKz=>R.ok []>=>λKx=>R.ok (Kz::Kx))>=>λOz=>R.ok (Kb::Oz))>=>fit)>=>λds=>R.ok (D.tup ds))>=>λKa=>R.of (AU J2 Ka)>=>ja)))>=>λqW=>if qW=true then(R.ok (D.bl false)>=>λKy=>R.ok (Out.rt Ky))else(R.ok (Out.nx Hu))) λAf=>
 (((((bH 2 Af>=>λKl=>(bH 4 Af>=>λKm=>R.ok []>=>λKs=>R.ok (Km::Ks))>=>λKu=>R.ok (Kl::Ku))>=>jg)>=>λKg=>((bH 2 Af>=>λKq=>(bH 5 Af>=>λKn=>R.ok []>=>λKo=>R.ok (Kn::Ko))>=>λKr=>R.ok (Kq::Kr))>=>jg)>=>λKh=>R.of (rF Kg Kh))>=>λKv=>aV 6 Af>=>λKf=>R.of (rF Kv Kf))>=>λKj=>R.ok (Out.rt Kj))))))))))))
def xS:=mS 1 9 Ri
end DL
namespace DL.p7
open PySem PySem.Spec PyProof.Rows L2 DL
def top(i:Nat):Stmt:=PySem.Challenge.pw_braidcomb_k36_same_by_loops.main.body.getD i (.Pass ⟨0,0,0,0⟩)
abbrev uK:Stmt:=top 4
theorem DV:aC ["word"] ["word"] (ae uK):=pC
abbrev xT:Stmt:=top 5
theorem p8:aC ["word","left","k"] ["word"] (ae xT):=pC
abbrev vD:Stmt:=top 7
theorem Aj:aC ["n"] ["n"] (ae vD):=pC
abbrev Fo:Stmt:=top 8
theorem K6:aC ["n"] ["n"] (ae Fo):=pC
abbrev sN:Stmt:=top 9
theorem jr:aC ["row","places","place","string"] ["row"] (ae sN):=pC
abbrev xU:Stmt:=top 10
theorem HD:aC ["row"] ["row"] (ae xU):=pC
abbrev zw:Stmt:=top 11
theorem DW:aC ["row"] ["row"] (ae zw):=pC
abbrev g7:Stmt:=top 12
theorem mR:aC ["row","k"] ["row","k"] (ae g7):=pC
abbrev iJ:Stmt:=top 13
theorem nJ:aC ["row","k"] ["row","k"] (ae iJ):=pC
abbrev zy:Stmt:=top 14
theorem oi:aC ["n","word","row","k"] ["n","word"] (ae zy):=pC
abbrev xV:Stmt:=top 15
theorem HE:aC ["row"] ["row"] (ae xV):=pC
abbrev kX:Stmt:=top 16
theorem vU:aC ["row"] ["row"] (ae kX):=pC
abbrev xW:Stmt:=top 19
theorem lW:aC ["crossings","bits","k"] ["crossings"] (ae xW):=pC
abbrev K7:Stmt:=top 22
theorem ko:aC ["n","word","pieces","order","sign_above","k","place","held"] ["n","word"] (ae K7):=pC
abbrev p9:Stmt:=top 23
theorem vV:aC ["row"] ["row"] (ae p9):=pC
abbrev xX:Stmt:=top 24
theorem B9:aC ["n","piece"] ["n","piece"] (ae xX):=pC
abbrev qc:Stmt:=top 25
theorem vW:aC ["halves","row"] ["halves","row"] (ae qc):=pC
abbrev jc:Stmt:=top 26
theorem bR:aC ["steps","rows","halves","step"] ["steps"] (ae jc):=pC
abbrev jh:Stmt:=top 27
theorem fy:aC ["n","steps","comb","row","found"] ["n","steps"] (ae jh):=pC
abbrev ji:Stmt:=top 28
theorem sO:aC ["n","word"] ["n","word"] (ae ji):=pC
abbrev Fp:Stmt:=top 29
theorem K8:aC ["n","word"] ["n","word"] (ae Fp):=pC
abbrev Fq:Stmt:=top 30
theorem K9:aC ["n","one","other"] ["n","one","other"] (ae Fq):=pC
abbrev vE:Stmt:=top 32
theorem Ak:aC ["_law_cell","_law_k","_law_factor"] ["_law_cell","_law_k","_law_factor"] (ae vE):=pC
abbrev o5:Stmt:=top 33
theorem uL:aC ["_law_script","_law_k"] ["_law_script","_law_k"] (ae o5):=pC
abbrev o7:Stmt:=top 34
theorem nK:aC ["_law_seed","_law_least","_law_most"] ["_law_seed","_law_least","_law_most"] (ae o7):=pC
abbrev nM:Stmt:=top 35
theorem lX:aC ["_law_number","_law_n","_law_k"] ["_law_number","_law_n"] (ae nM):=pC
abbrev rA:Stmt:=top 36
theorem kY:aC ["_law_number","_law_n","_law_k","_law_other"] ["_law_number","_law_n"] (ae rA):=pC
abbrev rB:Stmt:=top 37
theorem fR:aC ["_law_cells","_law_n","_law_most","_law_word","_law_k","_law_cell"] ["_law_cells","_law_n","_law_most"] (ae rB):=pC
abbrev om:Stmt:=top 38
theorem jt:aC ["_law_cells","_law_n","_law_most","_law_word","_law_total","_law_at"] ["_law_cells","_law_n","_law_most"] (ae om):=pC
abbrev sP:Stmt:=top 39
theorem mU:aC ["_law_word","_law_n","_law_number","_law_room","_law_p","_law_here"] ["_law_word","_law_n","_law_number","_law_room"] (ae sP):=pC
abbrev sQ:Stmt:=top 40
theorem rC:aC ["_law_word","_law_deed_here","_law_p"] ["_law_word","_law_deed_here"] (ae sQ):=pC
abbrev o8:Stmt:=top 41
theorem dY:aC ["_law_word","_law_n","_law_cells","_law_room","_law_k","_law_cell","_law_deed_here"] ["_law_word","_law_n","_law_cells","_law_room"] (ae o8):=pC
abbrev ou:Stmt:=top 42
theorem yT:aC ["_law_word"] ["_law_word"] (ae ou):=pC
abbrev lY:Stmt:=top 43
theorem gV:aC ["_law_letters","_law_out","_law_x"] ["_law_letters"] (ae lY):=pC
abbrev mV:Stmt:=top 44
theorem iK:aC ["_law_n","_law_word","_law_loops_here","_law_k","_law_a","_law_b"] ["_law_n","_law_word"] (ae mV):=pC
abbrev o9:Stmt:=top 45
theorem gf:aC ["_law_word","_law_n","_law_how","_law_number","_law_at","_law_k"] ["_law_word","_law_n","_law_how","_law_number"] (ae o9):=pC
abbrev La:Stmt:=top 46
theorem ju:aC ["_law_script","_law_seed","_law_n","_law_how","_law_word","_law_other","_law_due","_law_handed","_law_found"] ["_law_script"] (ae La):=pC
set_option genInjectivity false
set_option genSizeOf false
structure Tb(K:PySem.W.Frag)(mg:Str->Option Value) where
 sS:Addr
 sU:FuncData
 xY:Df K mg "turned" uK ["word"] sS sU
 qD:Addr
 qE:FuncData
 uM:Df K mg "trimmed" xT ["word"] qD qE
 jj:Addr
 jk:FuncData
 fU:Df K mg "straight" vD ["n"] jj jk
 Al:Addr
 Am:FuncData
 xZ:Df K mg "half" Fo ["n"] Al Am
 g8:Addr
 g9:FuncData
 hU:Df K mg "places_of" sN ["row"] g8 g9
 sV:Addr
 sW:FuncData
 qF:Df K mg "stops" xU ["row"] sV sW
 sX:Addr
 sY:FuncData
 qd:Df K mg "starts" zw ["row"] sX sY
 bu:Addr
 bw:FuncData
 aZ:Df K mg "with_crossing_behind" g7 ["row","k"] bu bw
 cV:Addr
 cW:FuncData
 bY:Df K mg "with_crossing_ahead" iJ ["row","k"] cV cW
 sZ:Addr
 tj:FuncData
 tm:Df K mg "row_of" zy ["n","word"] sZ tj
 wN:Addr
 wO:FuncData
 An:Df K mg "ahead" xV ["row"] wN wO
 jv:Addr
 jw:FuncData
 mW:Df K mg "flipped_row" kX ["row"] jv jw
 qG:Addr
 qH:FuncData
 ie:Df K mg "as_bits" xW ["crossings"] qG qH
 Ft:Addr
 Fv:FuncData
 Lb:Df K mg "cut" K7 ["n","word"] Ft Fv
 jx:Addr
 jy:FuncData
 mX:Df K mg "turned_step" p9 ["row"] jx jy
 qI:Addr
 qJ:FuncData
 uN:Df K mg "step_of" xX ["n","piece"] qI qJ
 jz:Addr
 jA:FuncData
 mY:Df K mg "past_halves" qc ["halves","row"] jz jA
 dB:Addr
 dC:FuncData
 cj:Df K mg "rows_behind_halves" jc ["steps"] dB dC
 gJ:Addr
 gK:FuncData
 jT:Df K mg "form_of_steps" jh ["n","steps"] gJ gK
 gM:Addr
 gO:FuncData
 jU:Df K mg "steps_of_word" ji ["n","word"] gM gO
 x5:Addr
 x6:FuncData
 uO:Df K mg "form" Fp ["n","word"] x5 x6
 Ao:Addr
 Aq:FuncData
 DX:Df K mg "same" Fq ["n","one","other"] Ao Aq
 gW:Addr
 gX:FuncData
 gY:Df K mg "_law_mix" vE ["_law_cell","_law_k","_law_factor"] gW gX
 iM:Addr
 iN:FuncData
 kZ:Df K mg "_law_cell_at" o5 ["_law_script","_law_k"] iM iN
 iO:Addr
 iP:FuncData
 k9:Df K mg "_law_strings" o7 ["_law_seed","_law_least","_law_most"] iO iP
 eQ:Addr
 eR:FuncData
 gP:Df K mg "_law_crossing" nM ["_law_number","_law_n"] eQ eR
 kq:Addr
 kr:FuncData
 oy:Df K mg "_law_piece" rA ["_law_number","_law_n"] kq kr
 ky:Addr
 kB:FuncData
 oA:Df K mg "_law_drawn" rB ["_law_cells","_law_n","_law_most"] ky kB
 lZ:Addr
 l9:FuncData
 qe:Df K mg "_law_part" om ["_law_cells","_law_n","_law_most"] lZ l9
 mf:Addr
 mh:FuncData
 qg:Df K mg "_law_deed" sP ["_law_word","_law_n","_law_number","_law_room"] mf mh
 mj:Addr
 mm:FuncData
 qh:Df K mg "_law_done" sQ ["_law_word","_law_deed_here"] mj mm
 iQ:Addr
 iR:FuncData
 lg:Df K mg "_law_stirred" o8 ["_law_word","_law_n","_law_cells","_law_room"] iQ iR
 mq:Addr
 mr:FuncData
 mw:Df K mg "_law_back" ou ["_law_word"] mq mr
 gg:Addr
 gh:FuncData
 gj:Df K mg "_law_shortened" lY ["_law_letters"] gg gh
 kC:Addr
 kD:FuncData
 kE:Df K mg "_law_loops" mV ["_law_n","_law_word"] kC kD
 iS:Addr
 iT:FuncData
 lh:Df K mg "_law_changed" o9 ["_law_word","_law_n","_law_how","_law_number"] iS iT
 Lc:Addr
 Fx:FuncData
 Rj:Df K mg "law" La ["_law_script"] Lc Fx
 tw:mg "abs"=none
 Ld:mg "bool"=none
 jL:mg "enumerate"=none
 tE:mg "isinstance"=none
 gC:mg "len"=none
 rM:mg "list"=none
 Le:mg "max"=none
 tH:mg "range"=none
 lj:mg "reversed"=none
 Lf:mg "sum"=none
 Fy:mg "tuple"=none
 tJ:Tok
 tK:mg "MOST_KEPT"=some (.int 200000 tJ)
set_option genInjectivity true
set_option genSizeOf true
end DL.p7
namespace DL.H
open PySem PySem.W L2
noncomputable section
def vi(i:Int)(t:Nat):Value:=.int i t
def vs(s:String)(t:Nat):Value:=.str (Str.ofString s) t
def vr(a:Nat):Value:=.ref a
def vy(s:String):Value:=.type s
def vb(s:String):Value:=.builtin s
def vn:Value:=.none
def vt:Value:=.bool true
def vf:Value:=.bool false
def pl:Data:=.plain
def ob(c:Value)(d:Data)(s:List (Option Value)):Obj:=⟨c,none,d,⟨s⟩⟩
def en(P:Params)(x:String)(t:Nat)(v:Value):DictEntry:=⟨PyData.keyHash P (Str.ofString x),.str (Str.ofString x) t,v⟩
def cd(n:String)(b m:List Value)(s:Addr)(q:String)(hd:Bool)(sn:List Str)(su:List Value)(ab:Bool)(c:Option Bool)(de:Bool):ClassData:=⟨Str.ofString n,b,m,s,Str.ofString q,hd,sn,su,ab,c,de⟩
def E:Obj:=ob (vy "tuple") (.seq ⟨[]⟩ 0) []
def F:Obj:=ob vn (.fields ⟨[]⟩) []
def Z:String:="/claim/cut.py"
def nO(s:Stmt):Str:=match s with|.FunctionDef n _ _ _ _ _ _ _ _ _=>n|_=>Str.empty
def lO(s:Stmt):Nat:=match s with|.FunctionDef _ _ _ _ _ _ _ _ _ p=>p.line|_=>0
def tf(s:Stmt)(q:Str):Obj:=⟨.none,none,.func {name:=nO s,qualname:=q,params:=fu s,body:=.stmts (bM s),scope:=ae s,globals:=0,closure:=[],defaults:=.none,kwdefaults:=.none},⟨[]⟩⟩
def hf(n q:Str)(s:Stmt)(m:Value)(c:Nat):Obj:=⟨.type "function",none,.func (fnOf n q (fu s) (bM s) (ae s) .none .none .none m none (.ref c) .none),⟨[]⟩⟩
def cf(n q:Str)(t l k:Nat)(f:Value)(a b:Nat)(x y z:Value)(u:Nat):Obj:=ob (vy "code") (.fields ⟨[.str n t,.str q (t+1),vs Z (t+2),.int l 0,.int k 0,vi 0 0,vi 0 0,f,vr a,.bool (f !=vi 0 0),vi 181 0,vr b,vn,x,y,z,.int u 0,.int l 0,vs Z (u+1)]⟩) []
def tu:List String->Nat->List Value
 |[],_=>[]
 |x::l,t=>vs x t::tu l (t+1)
def Rk(s:Stmt)(q:Str)(a t:Nat)(m:Value)(ns:List String):List Obj:=[E,F,ob (vy "tuple") (.seq ⟨tu ns (t+3)⟩ 0) [],E,tf s q,cf (nO s) q t (lO s) (fu s).args.length (vi 3 0) a (a+1) (vr (a+2)) (vr (a+3)) (vr (a+4)) (t+3+ns.length),hf (nO s) q s m (a+5)]
def fb5(s:Stmt)(q:Str)(a t:Nat)(m:Value):List Obj:=[E,F,tf s q,cf (nO s) q t (lO s) (fu s).args.length (vi 3 0) a (a+1) vn vn (vr (a+2)) (t+3),hf (nO s) q s m (a+3)]
noncomputable def xb(P:Params)(n:String)(a t:Nat)(m:Value)(b:Nat)(l:Nat):List Obj:=
 [ob (vy "tuple") (.seq ⟨[vr b]⟩ 0) [],ob (vy "builtin_function_or_method") (.fields ⟨[vb "type.__prepare__",vy "type"]⟩) [],
  ob (vy "dict") (.dict ⟨[en P "__module__" (t+5) m,en P "__qualname__" (t+7) (vs n (t+6)),en P "__firstlineno__" (t+9) (.int l (t+8)),en P "__static_attributes__" (t+10) (vr (a+7))]⟩ 4) [],E,F,
  cf (Str.ofString n) (Str.ofString n) t l 0 (vi 0 0) (a+3) (a+4) vn vn vn (t+3),ob (vy "frame") pl [some (vr (a+5)),some (vr 3),some (vr (a+2)),none,some m,none,some (vr 0)],E,
  ob (vy "dict") (.dict ⟨[en P "__module__" (t+5) m,en P "__firstlineno__" (t+9) (.int l (t+8)),en P "__static_attributes__" (t+10) (vr (a+7)),en P "__doc__" (t+11) vn]⟩ 2) [],
  ob (vy "type") (.cls (cd n [vr b] [vr (a+9),vr b,vy "ValueError",vy "Exception",vy "BaseException",vy "object"] (a+8) n true [] [] false none false)) [some (vr a),none,some (vs n (t-2)),some (vs n (t+6)),some (vb "ValueError.__new__"),some vt],
  ob (vy "super") (.fields ⟨[vr (a+9),vr (a+9),vr (a+9)]⟩) [],ob (vy "builtin_function_or_method") (.fields ⟨[vb "object.__init_subclass__",vr (a+9)]⟩) []]
def sp:List Obj->List Obj×List Obj
 |[]=>([],[])
 |x::l=>(x::(sp l).2,(sp l).1)
def bt:Nat->List Obj->BT
 |0,_=>.nil
 |_+1,[]=>.nil
 |n+1,x::l=>.node x (bt n (sp l).1) (bt n (sp l).2)
end
end DL.H
namespace DL.p7.H
open PySem PySem.W DL.H L2
noncomputable section
abbrev pw:Program:=PySem.Challenge.pw_braidcomb_k36_same_by_loops
abbrev T(i:Nat):Stmt:=DL.p7.top i
def J(i j:Nat):Stmt:=match T i with|.ClassDef _ _ _ b _ _ _ _ _ _ _=>b.getD j (.Pass ⟨0,0,0,0⟩)|s=>s
noncomputable def M3(P:Params):List DictEntry:=[en P "__doc__" 166 vn,en P "__package__" 167 vn,en P "__loader__" 168 (vb "__main__.__loader__#opaque"),en P "__spec__" 169 vn,en P "__annotations__" 170 (vr 6),en P "__builtins__" 171 (vr 4),en P "__file__" 173 (vs "/claim/cut.py" 172),en P "__cached__" 174 vn,en P "BraidError" 206 (vr 24),en P "NoRow" 222 (vr 37),en P "turned" 230 (vr 44),en P "trimmed" 239 (vr 51),en P "straight" 248 (vr 58),en P "half" 255 (vr 65),en P "places_of" 265 (vr 72),en P "stops" 271 (vr 77),en P "starts" 278 (vr 84),en P "with_crossing_behind" 286 (vr 91),en P "with_crossing_ahead" 294 (vr 98),en P "row_of" 304 (vr 105),en P "ahead" 310 (vr 110),en P "flipped_row" 316 (vr 115),en P "MOST_KEPT" 320 (vi 200000 319),en P "as_bits" 329 (vr 122),en P "Comb" 435 (vr 186),en P "cut" 451 (vr 197),en P "turned_step" 458 (vr 204),en P "step_of" 466 (vr 211),en P "past_halves" 474 (vr 218),en P "rows_behind_halves" 484 (vr 225),en P "form_of_steps" 490 (vr 230),en P "steps_of_word" 496 (vr 235),en P "form" 504 (vr 242),en P "same" 513 (vr 249),en P "_law_mix" 524 (vr 256),en P "_law_cell_at" 532 (vr 263),en P "_law_strings" 541 (vr 270),en P "_law_crossing" 550 (vr 277),en P "_law_piece" 560 (vr 284),en P "_law_drawn" 572 (vr 291),en P "_law_part" 578 (vr 296),en P "_law_deed" 590 (vr 303),en P "_law_done" 599 (vr 310),en P "_law_stirred" 612 (vr 317),en P "_law_back" 618 (vr 322),en P "_law_shortened" 627 (vr 329),en P "_law_loops" 633 (vr 334),en P "_law_changed" 645 (vr 341),en P "law" 660 (vr 348)]
def m3(P:Params)(v:Value)(k e:Nat):Obj:=ob (vy "dict") (.dict ⟨en P "__name__" 165 v::(M3 P).take k⟩ e) []
noncomputable def L12:List (Nat×Nat):=[(2,20),(4,33),(7,43),(9,50),(18,57),(20,64),(22,71),(27,76),(29,83),(31,90),(33,97),(35,104),(44,109),(46,114),(50,121),(55,128),(128,196),(143,203),(145,210),(149,217),(153,224),(161,229),(167,234),(169,241),(171,248),(174,255),(176,262),(180,269),(185,276),(190,283),(196,290),(202,295),(209,302),(221,309),(230,316),(236,321),(238,328),(246,333),(257,340),(270,347)]
def VH(k:Nat):Obj:=ob vn (.fields ⟨(L12.take k).flatMap λx=>[.int x.1 0,vi 0 0,vr x.2]⟩) []
def w0:Value:=vs "braidcomb.errors" 187
def w1:Value:=vs "braidcomb.words" 223
def w2:Value:=vs "braidcomb.rows" 240
def w3:Value:=vs "braidcomb.sliding" 317
def w4:Value:=vs "braidcomb.forms" 436
def w5:Value:=vs "law_braidcomb_k36_same_by_loops" 514
def f7(i a t:Nat)(m:Value)(ns:List String):List Obj:=Rk (T i) (nO (T i)) a t m ns
def f5(i a t:Nat)(m:Value):List Obj:=fb5 (T i) (nO (T i)) a t m
noncomputable def FL(P:Params):List Obj:=[boot_o_0 P,boot_o_1 P,boot_o_2 P,m3 P w5 49 50,boot_o_4 P,boot_o_5 P,boot_o_6 P,boot_o_7 P,boot_o_8 P,boot_o_9 P,boot_o_10 P]
 ++[E,(VH 40),(ob (vy "code") (.fields ⟨[(vs "<module>" 182),(vs "<module>" 183),(vs "/claim/cut.py" 184),(vi 1 0),(vi 0 0),(vi 0 0),(vi 0 0),(vi 0 0),(vr 11),vf,(vi 181 0),(vr 12),vn,vn,vn,vn,(vi 185 0),(vi 1 0),(vs "/claim/cut.py" 186)]⟩) []),(ob (vy "frame") pl [(some (vr 13)),(some (vr 3)),(some (vr 3)),none,(some (vs "__main__" 164)),none,(some (vr 0))]),(ob (vy "tuple") (.seq ⟨[(vy "ValueError")]⟩ 0) []),(ob (vy "builtin_function_or_method") (.fields ⟨[(vb "type.__prepare__"),(vy "type")]⟩) []),(ob (vy "dict") (.dict ⟨[(en P "__module__" 196 (vs "braidcomb.errors" 187)),(en P "__qualname__" 198 (vs "BraidError" 197)),(en P "__firstlineno__" 200 (vi 2 199)),(en P "__static_attributes__" 201 (vr 22))]⟩ 4) []),E,F,(ob (vy "code") (.fields ⟨[(vs "BraidError" 191),(vs "BraidError" 192),(vs "/claim/cut.py" 193),(vi 2 0),(vi 0 0),(vi 0 0),(vi 0 0),(vi 0 0),(vr 18),vf,(vi 181 0),(vr 19),vn,vn,vn,vn,(vi 194 0),(vi 2 0),(vs "/claim/cut.py" 195)]⟩) []),(ob (vy "frame") pl [(some (vr 20)),(some (vr 3)),(some (vr 17)),none,(some (vs "braidcomb.errors" 187)),none,(some (vr 0))]),E,(ob (vy "dict") (.dict ⟨[(en P "__module__" 196 (vs "braidcomb.errors" 187)),(en P "__firstlineno__" 200 (vi 2 199)),(en P "__static_attributes__" 201 (vr 22)),(en P "__weakref__" 203 (vr 25)),(en P "__doc__" 204 vn)]⟩ 3) []),(ob (vy "type") (.cls (cd "BraidError" [(vy "ValueError")] [(vr 24),(vy "ValueError"),(vy "Exception"),(vy "BaseException"),(vy "object")] 23 "BraidError" true [] [(vr 37)] false none false)) [(some (vr 15)),none,(some (vs "BraidError" 189)),(some (vs "BraidError" 197)),(some (vb "ValueError.__new__")),(some vt)]),(ob (vy "getset_descriptor") (.fields ⟨[(vs "__weakref__" 202),(vr 24),(vb "ExceptionGroup.__weakref__"),vn]⟩) []),(ob (vy "super") (.fields ⟨[(vr 24),(vr 24),(vr 24)]⟩) []),(ob (vy "builtin_function_or_method") (.fields ⟨[(vb "object.__init_subclass__"),(vr 24)]⟩) [])]
 ++xb P "NoRow" 28 209 w0 24 4
 ++f5 4 40 225 w1
 ++f7 5 45 231 w1 ["word","left","k"]
 ++f7 7 52 242 w2 ["n"]
 ++f7 8 59 249 w2 ["n"]
 ++f7 9 66 256 w2 ["row","places","place","string"]
 ++f5 10 73 266 w2
 ++f7 11 78 272 w2 ["row"]
 ++f7 12 85 279 w2 ["row","k"]
 ++f7 13 92 287 w2 ["row","k"]
 ++f7 14 99 295 w2 ["n","word","row","k"]
 ++f5 15 106 305 w2
 ++f5 16 111 311 w2
 ++f7 19 116 321 w3 ["crossings","bits","k"]
 ++[E,(ob (vy "builtin_function_or_method") (.fields ⟨[(vb "type.__prepare__"),(vy "type")]⟩) []),(ob (vy "dict") (.dict ⟨[(en P "__module__" 337 w3),(en P "__qualname__" 339 (vs "Comb" 338)),(en P "__firstlineno__" 341 (vi 55 340)),(en P "__init__" 349 (vr 136)),(en P "number_of" 358 (vr 143)),(en P "without_first" 368 (vr 150)),(en P "with_last" 378 (vr 157)),(en P "slide" 389 (vr 164)),(en P "slide_kept" 400 (vr 171)),(en P "put" 411 (vr 178)),(en P "form_told" 417 (vr 183)),(en P "__static_attributes__" 428 (vr 184))]⟩ 12) []),E,(ob vn (.fields ⟨[(vi 57 0),(vi 4 0),(vr 135),(vi 69 0),(vi 4 0),(vr 142),(vi 78 0),(vi 4 0),(vr 149),(vi 84 0),(vi 4 0),(vr 156),(vi 90 0),(vi 4 0),(vr 163),(vi 99 0),(vi 4 0),(vr 170),(vi 108 0),(vi 4 0),(vr 177),(vi 122 0),(vi 4 0),(vr 182)]⟩) []),(ob (vy "code") (.fields ⟨[(vs "Comb" 332),(vs "Comb" 333),(vs "/claim/cut.py" 334),(vi 55 0),(vi 0 0),(vi 0 0),(vi 0 0),(vi 0 0),(vr 126),vf,(vi 181 0),(vr 127),vn,vn,vn,vn,(vi 335 0),(vi 55 0),(vs "/claim/cut.py" 336)]⟩) []),(ob (vy "frame") pl [(some (vr 128)),(some (vr 3)),(some (vr 125)),none,(some w3),none,(some (vr 0))])]
 ++Rk (J 20 0) "Comb.__init__" 130 342 w3 ["self","n"]
 ++Rk (J 20 1) "Comb.number_of" 137 350 w3 ["self","row","key"]
 ++Rk (J 20 2) "Comb.without_first" 144 359 w3 ["self","number","k","step"]
 ++Rk (J 20 3) "Comb.with_last" 151 369 w3 ["self","number","k","step"]
 ++Rk (J 20 4) "Comb.slide" 158 379 w3 ["self","one","other","free","k"]
 ++Rk (J 20 5) "Comb.slide_kept" 165 390 w3 ["self","one","other","pair","found"]
 ++Rk (J 20 6) "Comb.put" 172 401 w3 ["self","row","line","place","pair"]
 ++fb5 (J 20 7) "Comb.form_told" 179 412 w3
 ++[(ob (vy "tuple") (.seq ⟨[(vs "firsts" 418),(vs "kept" 419),(vs "known" 420),(vs "lasts" 421),(vs "line" 422),(vs "longer" 423),(vs "none" 424),(vs "numbers" 425),(vs "shorter" 426),(vs "whole" 427)]⟩ 0) []),(ob (vy "dict") (.dict ⟨[(en P "__module__" 337 w3),(en P "__firstlineno__" 341 (vi 55 340)),(en P "__init__" 349 (vr 136)),(en P "number_of" 358 (vr 143)),(en P "without_first" 368 (vr 150)),(en P "with_last" 378 (vr 157)),(en P "slide" 389 (vr 164)),(en P "slide_kept" 400 (vr 171)),(en P "put" 411 (vr 178)),(en P "form_told" 417 (vr 183)),(en P "__static_attributes__" 428 (vr 184)),(en P "__dict__" 430 (vr 187)),(en P "__weakref__" 432 (vr 188)),(en P "__doc__" 433 vn)]⟩ 4) []),(ob (vy "type") (.cls (cd "Comb" [(vy "object")] [(vr 186),(vy "object")] 185 "Comb" true [] [] false none false)) [none,none,(some (vs "Comb" 330)),(some (vs "Comb" 338)),(some (vb "object.__new__")),(some vt)]),(ob (vy "getset_descriptor") (.fields ⟨[(vs "__dict__" 429),(vr 186),(vb "function.__dict__"),(vb "function.__dict__#set")]⟩) []),(ob (vy "getset_descriptor") (.fields ⟨[(vs "__weakref__" 431),(vr 186),(vb "ExceptionGroup.__weakref__"),vn]⟩) []),(ob (vy "super") (.fields ⟨[(vr 186),(vr 186),(vr 186)]⟩) []),(ob (vy "builtin_function_or_method") (.fields ⟨[(vb "object.__init_subclass__"),(vr 186)]⟩) [])]
 ++f7 22 191 438 w4 ["n","word","pieces","order","sign_above","k","place","held"]
 ++f7 23 198 452 w4 ["row"]
 ++f7 24 205 459 w4 ["n","piece"]
 ++f7 25 212 467 w4 ["halves","row"]
 ++f7 26 219 475 w4 ["steps","rows","halves","step"]
 ++f5 27 226 485 w4
 ++f5 28 231 491 w4
 ++f7 29 236 497 w4 ["n","word"]
 ++f7 30 243 505 w4 ["n","one","other"]
 ++f7 32 250 516 w5 ["_law_cell","_law_k","_law_factor"]
 ++f7 33 257 525 w5 ["_law_script","_law_k"]
 ++f7 34 264 533 w5 ["_law_seed","_law_least","_law_most"]
 ++f7 35 271 542 w5 ["_law_number","_law_n","_law_k"]
 ++f7 36 278 551 w5 ["_law_number","_law_n","_law_k","_law_other"]
 ++f7 37 285 561 w5 ["_law_cells","_law_n","_law_most","_law_word","_law_k","_law_cell"]
 ++f5 38 292 573 w5
 ++f7 39 297 579 w5 ["_law_word","_law_n","_law_number","_law_room","_law_p","_law_here"]
 ++f7 40 304 591 w5 ["_law_word","_law_deed_here","_law_p"]
 ++f7 41 311 600 w5 ["_law_word","_law_n","_law_cells","_law_room","_law_k","_law_cell","_law_deed_here"]
 ++f5 42 318 613 w5
 ++f7 43 323 619 w5 ["_law_letters","_law_out","_law_x"]
 ++f5 44 330 628 w5
 ++f7 45 335 634 w5 ["_law_word","_law_n","_law_how","_law_number","_law_at","_law_k"]
 ++f7 46 342 646 w5 ["_law_script","_law_seed","_law_n","_law_how","_law_word","_law_other","_law_due","_law_handed","_law_found"]
def as:List Addr:=2::3::(range 338).map (·+11)
def K(P:Params):Frag:=as.map λa=>(a,(FL P).getD a E)
def q:Program:=view pw [1,2,4,5,7,8,9,10,11,12,13,14,15,16,18,19,20,22,23,24,25,26,27,28,29,30,32,33,34,35,36,37,38,39,40,41,42,43,44,45,46]
def env:Env:={scope:=pw.main.scope,locals:=mainNs,globals:=mainNs,cells:=[],code:=vr 13,frame:=some 14}
def bd:List Stmt:=behindTheImports pw
abbrev cE:Code:=.body bd env
abbrev fr:List Frame:=[topFrame ⟨0,0,0,0⟩]
abbrev an:Option Value:=(some (vr 6))
noncomputable def S(P:Params):Nat->List Obj
 |0=>(((FL P).take 15).set 12 (VH 0)).set 3 (boot_o_3 P)
 |1=>(((FL P).take 45).set 3 (m3 P w1 11 12)).set 12 (VH 3)
 |2=>(((FL P).take 123).set 3 (m3 P w3 24 25)).set 12 (VH 15)
 |3=>(((FL P).take 191).set 3 (m3 P w3 25 26)).set 12 (VH 16)
 |4=>(((FL P).take 285).set 3 (m3 P w5 39 40)).set 12 (VH 30)
 |5=>(FL P).take 349
 |_=>[]
abbrev st(i n t:Nat)(w:World)(os:OsState):SharedT:=⟨bt 12 (S w.params i),n,(boot_heap w.params).life,⟨[]⟩,boot_drawn,t,os⟩
theorem pre(w:World)(os:OsState):topGo treeTable pw w 11 an 12 ⟨boot_heap w.params,⟨[]⟩,boot_drawn,boot_toks,os⟩ (topStub pw)=some ((st 0 15 187 w os).abs,⟨denote treeTable cE,cE,⟨0,0,0,0⟩,fr⟩):=by kernel_rfl
theorem blk(w:World)(os:OsState):segRun treeTable pw w 11 an 1 1 (st 0 15 187 w os).abs (blockOf bd env cE ⟨0,0,0,0⟩ fr)=some (.next,(st 0 15 187 w os).abs,cE,⟨0,0,0,0⟩):=by kernel_rfl
abbrev Pc(N i n t d k:Nat)(p:Pos)(n2 t2:Nat)(p2:Pos)(w:World)(os:OsState):Prop:=segRunT treeTable pw w 11 an 1 N (st i n t w os) (piecesOf ((bd.drop d).take k) env cE p fr)=some (.next,st (i+1) n2 t2 w os,cE,p2)
theorem pc0(w:World)(os:OsState):Pc 444 0 15 187 0 5 ⟨0,0,0,0⟩ 45 231 ⟨7,0,8,39⟩ w os:=by kernel_rfl
theorem pc1(w:World)(os:OsState):Pc 379 1 45 231 5 15 ⟨7,0,8,39⟩ 123 330 ⟨50,0,54,15⟩ w os:=by kernel_rfl
theorem pc2(w:World)(os:OsState):Pc 466 2 123 330 20 1 ⟨50,0,54,15⟩ 191 436 ⟨55,0,126,80⟩ w os:=by kernel_rfl
theorem pc3(w:World)(os:OsState):Pc 444 3 191 436 21 16 ⟨55,0,126,80⟩ 285 561 ⟨190,0,195,135⟩ w os:=by kernel_rfl
theorem pc4(w:World)(os:OsState):Pc 315 4 285 561 37 10 ⟨190,0,195,135⟩ 349 661 ⟨270,0,282,76⟩ w os:=by kernel_rfl
theorem fin(w:World)(os:OsState):topRun treeTable pw w 11 an 2 (st 5 349 661 w os).abs (restOf [] env cE ⟨270,0,282,76⟩ fr)=some (st 5 349 661 w os).abs:=by kernel_rfl
theorem cut:bd=((bd.drop 0).take 5++((bd.drop 5).take 15++((bd.drop 20).take 1++((bd.drop 21).take 16++((bd.drop 37).take 10++[]))))):=by kernel_rfl
theorem rest{tb:String->Option Builtin}{p:Program}{w:World}{n₀ N:Nat}{ann:Option Value}{s r:Shared}{b b':List Stmt}{e:Env}{c:Code}{ps:Pos}{B:List Frame}(h:b=b')(k:topRun tb p w n₀ ann N s (restOf b' e c ps B)=some r):topRun tb p w n₀ ann N s (restOf b e c ps B)=some r:=h▸k
theorem run(w:World)(os:OsState):topRun treeTable pw w 11 an (12+(1+(444+(379+(466+(444+(315+2))))))) ⟨boot_heap w.params,⟨[]⟩,boot_drawn,boot_toks,os⟩ (topStub pw)=some (st 5 349 661 w os).abs:=go_top (pre w os) (piece_block (blk w os) (rest cut (piece_app (segRun_of (pc0 w os)) (piece_app (segRun_of (pc1 w os)) (piece_app (segRun_of (pc2 w os)) (piece_app (segRun_of (pc3 w os)) (piece_app (segRun_of (pc4 w os)) (fin w os))))))))
def lo:List Str:=[]
def hk:Hook:=kHook K as (λ_=>by kernel_rfl)
def Xt(s:Shared):Bool:=xlAt q [] s&&recOk (OpenLaw.row PySem.Challenge.rw_braidcomb_k36_same_by_loops).toRowW.records s
abbrev H1(P:Params):Heap:=absHeap (bt 12 (S P 5)) 349 (boot_heap P).life
theorem XE(w:World)(os:OsState):(staticsOk (importedModules pw.main.body) (boot_heap w.params) (H1 w.params)&&namesBound pw (H1 w.params)&&gensDone ⟨H1 w.params,⟨[]⟩,boot_drawn,661,os⟩&&laidKept (boot_heap w.params) (H1 w.params))=true:=by kernel_rfl
theorem XF(w:World)(os:OsState):(openSeen q lo (importedModules pw.main.body) Xt true ⟨H1 w.params,⟨[]⟩,boot_drawn,661,os⟩)=openGood q lo:=by kernel_rfl
theorem XG(w:World)(os:OsState):(hk.obs ⟨H1 w.params,⟨[]⟩,boot_drawn,661,os⟩)=hk.val w:=by kernel_rfl
theorem o1:opening pw=plainProg pw.main.scope.names:=by kernel_rfl
theorem o2(s:Shared):fenceModules? pw s=some s:=by kernel_rfl
theorem o3:ble 600 4212=true:=by kernel_rfl
theorem op(w:World):(fencedOpening treeTable pw w 4212).map (λs=>(s.heap,s.gens,s.drawn,s.toks))=some (boot_heap w.params,⟨[]⟩,boot_drawn,boot_toks):=boot_open o1 o3 o2 w
theorem sz(w:World):((boot_heap w.params).isNs mainGlobals&&(⟨[]⟩:Array GenState).size==0,(boot_heap w.params).objs.size,(boot_heap w.params).nsMap mainGlobals "__annotations__")=(true,11,an):=by kernel_rfl
theorem le:ble (12+(1+(444+(379+(466+(444+(315+2))))))) 4212=true:=by kernel_rfl
theorem ab(w:World)(os:OsState):some (st 5 349 661 w os).abs=some ⟨H1 w.params,⟨[]⟩,boot_drawn,661,os⟩:=by kernel_rfl
theorem run'(w:World)(os:OsState):topRun treeTable pw w 11 an (12+(1+(444+(379+(466+(444+(315+2))))))) ⟨boot_heap w.params,⟨[]⟩,boot_drawn,boot_toks,os⟩ (topStub pw)=some ⟨H1 w.params,⟨[]⟩,boot_drawn,661,os⟩:=Eq.trans (run w os) (ab w os)
theorem left:LeftO pw q lo Xt hk.obs hk.val 4212 true:=
 @LeftO.of_pieces pw q lo Xt hk.α hk.obs hk.val 4212 true boot_heap H1 ⟨[]⟩ ⟨[]⟩ boot_drawn boot_drawn boot_toks 661 11 an (12+(1+(444+(379+(466+(444+(315+2))))))) op sz run' le (λw=>funext λos=>Prod.ext (XE w os) (Prod.ext (XF w os) (XG w os)))
end
end DL.p7.H
namespace DL.p7
open PySem PySem.Spec PyProof.Rows L2 DL
abbrev Lg:Stmt:=inClass (top 20) 1
structure MT(K:PySem.W.Frag)(mg:Str->Option Value)(C:Addr):Prop where
 cl:IQ K C
 kn:gq K C "known"
 nu:gq K C "numbers"
 fi:gq K C "firsts"
 la:gq K C "lasts"
 sh:gq K C "shorter"
 lo:gq K C "longer"
 ke:gq K C "kept"
 li:gq K C "line"
 no:gq K C "none"
 wh:gq K C "whole"
 mgC:mg "Comb"=some (.ref C)
 mtu:mg "tuple"=none
 mli:mg "list"=none
 Y1:mg "len"=none
noncomputable def Ca(K:PySem.W.Frag)(C:Addr):Sp:=λvs H Q _=>∃(a:Addr)(A:Ad)(ex:List (Str×V))(n:Nat)(kn:List RP)(ln:List Int)(B:Nat)(nu sh lo ke:List (List Key×V))(p:RP)(v:V),
 vs=[.ref a,v]/\iX C H a A ex n kn ln B nu sh lo ke/\n<=7/\B<1000000/\Iv n p.1 p.2/\Is K (λx=>x∉a::A.all) H (.lst (aM p.1)) v/\
 ∀(i:Nat)(H':Hp)(A':Ad)(mo:List RP)(DY:List (List Key×V)),iX C H' a A' ex n (kn++mo) ln (B+1) DY sh lo ke->(kn++mo)[i]?=some p->iY H H' (a::A.all) (a::A'.all)->A'.li=A.li->Q (.int i) H'
section
variable{P:Program}{w:World}{K:PySem.W.Frag}{mg:Str->Option Value}{base:Heap}
theorem sc1:aC ["self","row","key"] ["self","row"] (ae Lg):=⟨rfl,rfl,rfl,by decide +kernel,rfl,by decide +kernel,by decide +kernel⟩
theorem UN{f C:Addr}{fd:FuncData}(F:Bj K "number_of" "Comb.number_of" Lg f fd)(T:MT K mg C)(t:Tb K mg)
  (x8:lI P w K mg base 2 t.sX t.sY ["row"] sE)(qK:lI P w K mg base 1 t.sV t.sW ["row"] qB)(Lh:Ok P w K mg base 1 t.qG t.qH ["crossings"] nv)
  (Rl:∀ks:List Int,(∀k∈ks,1<=k/\k<=7)->nv [.lst (aM ks)]=.ok (.int (DS ks))):cO P w K mg base lK 3 f fd ["self","row"] (Ca K C):=by
 refine F.ok sc1 (λvs H Q E h=>?_) (λcdv A outer s H vs Q E hr h=>?_)
 ·obtain⟨a,A,ex,n,kn,ln,B,nu,sh,lo,ke,p,v,rfl,_⟩:=h
  rfl
 ·obtain⟨a,A,ex,n,kn,ln,B,nu,sh,lo,ke,p,v,rfl,c,hn,hB,iv,MN,k⟩:=h
  have hu:=rV hr
  refine⟨_,aK (dO (i:=2) sc1.nd rfl (Or.inl rfl) (qw yE (by rfl) T.mtu Jq (aD (pv 1) aP)))
   (aK (vc (CU (ur hu (pv 2) (bK (pv 0) rfl)))
    (aK (wm hu (bK (pv 0) rfl) (pv 2) (kM nR (by rfl) T.Y1 cP (aD (bK (pv 0) rfl) aP)) rfl)
    (aK (ik (xg plainAttrs_list PySem.F.slot_list_append PySem.F.type_list_append fZ (bK (pv 0) rfl) (aD (qw nS (by rfl) T.mli wA (aD (pv 1) aP)) aP)) rfl)
    (aK (ik (xg plainAttrs_list PySem.F.slot_list_append PySem.F.type_list_append fZ (bK (pv 0) rfl) (aD (fq (E:=λ_ _ _=>False) Lh (hr.mono (by decide)) (by rfl) t.ie.m t.ie.F.kp t.ie.b .nil lR (aD (fq (E:=λ_ _ _=>False) x8 (hr.mono (by decide)) (by rfl) t.qd.m t.qd.F.kp t.qd.b .nil lR (aD (pv 1) aP)) aP)) aP)) rfl)
    (cu (ik (xg plainAttrs_list PySem.F.slot_list_append PySem.F.type_list_append fZ (bK (pv 0) rfl) (aD (fq (E:=λ_ _ _=>False) Lh (hr.mono (by decide)) (by rfl) t.ie.m t.ie.F.kp t.ie.b .nil lR (aD (fq (E:=λ_ _ _=>False) qK (hr.mono (by decide)) (by rfl) t.qF.m t.qF.F.kp t.qF.b .nil lR (aD (pv 1) aP)) aP)) aP)) rfl))))) lN)
   (cu (mB (z0 hu (bK (pv 0) rfl) (pv 2) (λ_ _=>rfl))))),?_⟩
  obtain⟨b,vs,rfl,lb,il⟩:=id MN
  have ev:=jn il
  subst ev
  refine⟨_,rfl,b,_,rfl,.inl ⟨lb.sq,λl hl=>?_⟩⟩
  have s1:aO H (upd H l (.tup (p.1.map V.int))):=aQ hl _
  have c1:=c.same s1
  have hkey:(upd H l (.tup (p.1.map V.int))) l=some (.tup ((kk p.1).map kV)):=by rw[abo];exact au
  have Ar:=iY.same s1 (a::A.all)
  generalize hH1:upd H l (.tup (p.1.map V.int))=H1 at s1 c1 hkey Ar
  refine⟨_,rfl,_,rfl,a,C,A.dx,_,_,rfl,c1.ob,T.cl,T.nu,E5,A.nu,_,rfl,nT.t c1.yP hkey,_,rfl,?_⟩
  by_cases hm:∃q∈kn,q.1=p.1
  ·obtain⟨q,hq,eq⟩:=hm
   have hqp:q=p:=jJ (c.rw q hq) iv eq
   subst hqp
   obtain⟨i,hi,ei⟩:=getElem_of_mem hq
   have yR:kn[i]?=some q:=by rw[getElem?_eq_getElem hi,ei]
   have hv:=c.n1 i q yR
   rw[hv]
   refine uo ?_
   refine⟨_,rfl,a,C,A.dx,_,_,rfl,c1.ob,T.cl,T.nu,E5,_,rfl,A.nu,.int i,rfl,?_,?_⟩
   ·have:=nT.t (k:=kk q.1) c1.yP hkey
    rw[hv]at this
    exact this
   ·exact k i H1 A [] nu (by rw[append_nil];exact c1.more (by lia)) (by rw[append_nil];exact yR) Ar rfl
  ·have hv:dQ nu (kk p.1)=none:=c.n2 p.1 λq hq e=>hm ⟨q,hq,e⟩
   rw[hv]
   refine vJ ?_
   have hz:=c.z
   obtain⟨⟨n1,n2,n3,n4,n5,n6⟩,⟨m1,m2,m3,m4,m5,m6⟩,UC,⟨d1,d2,d3,d4,d5,d6,d7,d8,d9⟩,Xy⟩:=c.UB
   have big:∀{x:Nat},x<=1000001->x<sizeLine:=λh=>Nat.lt_of_le_of_lt h (by decide)
   have OQ:∀x∈A.hd,x∈a::A.all:=λx hx=>mem_cons_of_mem _ (mem_append_left _ hx)
   refine⟨_,rfl,a,C,A.dx,_,_,rfl,c1.ob,T.cl,T.kn,zr,A.kn,_,rfl,.inl (dG.of c1.hkn),_,rfl,a,C,A.dx,_,_,rfl,c1.ob,T.cl,T.nu,E5,_,rfl,A.nu,_,rfl,Bm.t c1.yP hkey (big (by lia)),?_⟩
   rw[length_map,c.B3]
   have k1n:A.kn≠A.nu:=bX c.hkn c.yP (by intro z;cases z)
   have fin:A.fi≠A.nu:=bX c.yv c.yP (by intro z;cases z)
   have lan:A.la≠A.nu:=bX c.hla c.yP (by intro z;cases z)
   have an:a≠A.nu:=bX c.ob c.yP (by intro z;cases z)
   have akn:a≠A.kn:=bX c.ob c.hkn (by intro z;cases z)
   have afi:a≠A.fi:=bX c.ob c.yv (by intro z;cases z)
   have ala:a≠A.la:=bX c.ob c.hla (by intro z;cases z)
   have ln1:l≠A.nu:=λz=>by rw[z,c.yP]at hl;cases hl
   generalize hH2:upd H1 A.nu (.dT (putK nu (kk p.1) (.int (kn.length:Int))))=H2
   have XH:H2 a=some (.ins C A.dx (vO A++ex)):=by rw[<-hH2,aj an];exact c1.ob
   have Rm:H2 A.kn=some (.lst (A.ks.map V.ref)):=by rw[<-hH2,aj k1n];exact c1.hkn
   have DZ:iY H H2 (a::A.all) (a::A.all):=Ar.trans (by rw[<-hH2];exact iY.upd (OQ _ (by simp[Ad.hd])) _)
   have lb2:vK K (λ_=>True) H2 b (p.1.map V.int):=lb.ext ⟨λ_ _ _ _=>trivial,λx o px hx=>DZ.kp x o px hx⟩
   refine⟨_,rfl,a,C,A.dx,_,_,rfl,XH,T.cl,T.kn,zr,.inl ⟨rfl,_,dG.of Rm⟩,_,rfl,b,_,rfl,.inl lb2.sq,λl2 hl2=>?_⟩
   have VF:H l2=none:=DZ.gr l2 hl2
   have l2k:A.kn≠l2:=λz=>by rw[<-z,Rm]at hl2;cases hl2
   refine⟨A.kn,A.ks.map V.ref,.ref l2,rfl,rfl,by rw[aj l2k];exact Rm,by rw[length_map,c.B3];exact big (by lia),?_⟩
   generalize MU:upd (upd H2 l2 (.lst (p.1.map V.int))) A.kn (.lst (A.ks.map V.ref++[.ref l2]))=H3
   have ug:iY H H3 (a::A.all) (a::A.all):=by
    rw[<-MU]
    exact(DZ.trans (iY.same (aQ hl2 _) _)).trans (iY.upd (OQ _ (by simp[Ad.hd])) _)
   have XI:H3 a=some (.ins C A.dx (vO A++ex)):=by rw[<-MU,aj akn];exact aQ hl2 _ _ _ XH
   have fi3:H3 A.fi=some (.lst (kn.map λp=>V.int (vP p.2))):=by
    rw[<-MU,aj (Ne.symm n1)]
    refine aQ hl2 _ _ _ ?_
    rw[<-hH2,aj fin]
    exact c1.yv
   have lb3:vK K (λ_=>True) H3 b (p.1.map V.int):=lb.ext ⟨λ_ _ _ _=>trivial,λx o px hx=>ug.kp x o px hx⟩
   refine⟨_,rfl,a,C,A.dx,_,_,rfl,XI,T.cl,T.fi,KI,.inl ⟨rfl,_,dG.of fi3⟩,_,rfl,_,[.lst (aM p.1)],⟨.ref b,[],rfl,⟨b,_,rfl,lb3,cC p.1⟩,rfl⟩,?_⟩
   have hd7:∀(m:Nat)(x y:List Int),m<=7->Iv m x y->∀k∈AZ y,1<=k/\k<=7:=λm x y hm h k hk=>by
    obtain⟨a',e,h1,_⟩:=sH.mp hk
    rw[h.ls]at h1
    lia
   rw[Hz iv hn]
   intro q ws H4 s4 hq4 hw4 iw4
   have ew:=jn iw4
   subst ew
   refine⟨λ_=>True,[.lst (aM (AZ p.2))],⟨.ref q,[],rfl,⟨q,_,rfl,.inl ⟨trivial,.inl hw4⟩,cC _⟩,rfl⟩,?_⟩
   rw[Rl _ (hd7 n p.1 p.2 hn iv)]
   intro v5 H5 s5 i5
   have e5:v5=.int (DS (AZ p.2)):=i5
   subst e5
   have OS:=s4.trans s5
   refine⟨A.fi,_,.int (vP p.2),rfl,rfl,OS _ _ fi3,by rw[length_map];exact big (by lia),?_⟩
   generalize MV:upd H5 A.fi (.lst ((kn.map λp=>V.int (vP p.2))++[V.int (vP p.2)]))=H6
   have Y2:iY H H6 (a::A.all) (a::A.all):=by
    rw[<-MV]
    exact(ug.trans (iY.same OS _)).trans (iY.upd (OQ _ (by simp[Ad.hd])) _)
   have Y3:H6 a=some (.ins C A.dx (vO A++ex)):=by rw[<-MV,aj afi];exact OS _ _ XI
   have la6:H6 A.la=some (.lst (kn.map λp=>V.int (vP p.1))):=by
    rw[<-MV,aj (Ne.symm n4)]
    refine OS _ _ ?_
    rw[<-MU,aj (Ne.symm n2)]
    refine aQ hl2 _ _ _ ?_
    rw[<-hH2,aj lan]
    exact c1.hla
   have lb6:vK K (λ_=>True) H6 b (p.1.map V.int):=lb.ext ⟨λ_ _ _ _=>trivial,λx o px hx=>Y2.kp x o px hx⟩
   refine⟨_,rfl,a,C,A.dx,_,_,rfl,Y3,T.cl,T.la,KJ,.inl ⟨rfl,_,dG.of la6⟩,_,rfl,_,[.lst (aM p.1)],⟨.ref b,[],rfl,⟨b,_,rfl,lb6,cC p.1⟩,rfl⟩,?_⟩
   rw[B1 p.1 (by rw[iv.lr];exact hn)]
   intro q7 ws7 H7 s7 hq7 hw7 iw7
   have ew7:=jn iw7
   subst ew7
   refine⟨λ_=>True,[.lst (aM (AZ p.1))],⟨.ref q7,[],rfl,⟨q7,_,rfl,.inl ⟨trivial,.inl hw7⟩,cC _⟩,rfl⟩,?_⟩
   rw[Rl _ (hd7 n p.2 p.1 hn iv.symm)]
   intro v8 H8 s8 i8
   have e8:v8=.int (DS (AZ p.1)):=i8
   subst e8
   have Rn:=s7.trans s8
   refine⟨A.la,_,.int (vP p.1),rfl,rfl,Rn _ _ la6,by rw[length_map];exact big (by lia),?_⟩
   generalize Ro:upd H8 A.la (.lst ((kn.map λp=>V.int (vP p.1))++[V.int (vP p.1)]))=H9
   have fr9:iY H H9 (a::A.all) (a::A.all):=by
    rw[<-Ro]
    exact(Y2.trans (iY.same Rn _)).trans (iY.upd (OQ _ (by simp[Ad.hd])) _)
   have keep:∀x o,x≠A.nu->x≠A.kn->x≠A.fi->x≠A.la->H x=some o->H9 x=some o:=λx o x1 x2 x3 x4 hx=>by
    rw[<-Ro,aj x4]
    refine Rn _ _ ?_
    rw[<-MV,aj x3]
    refine OS _ _ ?_
    rw[<-MU,aj x2]
    refine aQ hl2 _ _ _ ?_
    rw[<-hH2,aj x1]
    exact s1 _ _ hx
   have YY:H9 a=some (.ins C A.dx (vO A++ex)):=keep a _ an akn afi ala c.ob
   have YZ:H9 A.nu=some (.dT (putK nu (kk p.1) (.int (kn.length:Int)))):=by
    rw[<-Ro,aj (Ne.symm lan)]
    refine Rn _ _ ?_
    rw[<-MV,aj (Ne.symm fin)]
    refine OS _ _ ?_
    rw[<-MU,aj (Ne.symm k1n)]
    refine aQ hl2 _ _ _ ?_
    rw[<-hH2]
    exact au
   have aby:H9 l=some (.tup ((kk p.1).map kV)):=by
    have lk:∀{x:Addr}{o:HO},H x=some o->l≠x:=λhx z=>by rw[z,hx]at hl;cases hl
    rw[<-Ro,aj (lk c.hla)]
    refine Rn _ _ ?_
    rw[<-MV,aj (lk c.yv)]
    refine OS _ _ ?_
    rw[<-MU,aj (lk c.hkn)]
    refine aQ hl2 _ _ _ ?_
    rw[<-hH2,aj (lk c.yP)]
    exact hkey
   have l29:H9 l2=some (.lst (p.1.map V.int)):=by
    have lk:∀{x:Addr}{o:HO},H x=some o->l2≠x:=λhx z=>by rw[z,hx]at VF;cases VF
    rw[<-Ro,aj (lk c.hla)]
    refine Rn _ _ ?_
    rw[<-MV,aj (lk c.yv)]
    refine OS _ _ ?_
    rw[<-MU,aj (lk c.hkn)]
    exact au
   have kn9:H9 A.kn=some (.lst (A.ks.map V.ref++[.ref l2])):=by
    rw[<-Ro,aj n2]
    refine Rn _ _ ?_
    rw[<-MV,aj n1]
    refine OS _ _ ?_
    rw[<-MU]
    exact au
   have fi9:H9 A.fi=some (.lst ((kn.map λp=>V.int (vP p.2))++[V.int (vP p.2)])):=by
    rw[<-Ro,aj n4]
    refine Rn _ _ ?_
    rw[<-MV]
    exact au
   have la9:H9 A.la=some (.lst ((kn.map λp=>V.int (vP p.1))++[V.int (vP p.1)])):=by
    rw[<-Ro]
    exact au
   have yQ:∀j,dQ (putK nu (kk p.1) (.int (kn.length:Int))) j=if j=kk p.1 then some (.int (kn.length:Int))else dQ nu j:=λj=>kN nu (kk p.1) j _
   have c9:=c.add hm iv VF YY YZ kn9 fi9 la9 l29 keep
   refine⟨_,rfl,a,C,A.dx,_,_,rfl,YY,T.cl,T.nu,E5,_,rfl,A.nu,.int (kn.length:Int),rfl,?_,?_⟩
   ·have:=nT.t (k:=kk p.1) YZ aby
    rw[yQ,if_pos rfl]at this
    exact this
   ·refine k kn.length H9 _ [p] _ c9 (by simp) ⟨fr9.kp,λx hx=>?_,fr9.gr⟩ rfl
    have CY:x∈a::(A.hd++(A.ks++[l2])):=hx
    rw[<-List.append_assoc,<-cons_append]at CY
    rcases mem_append.mp CY with h|h
    ·exact .inl h
    ·have:x=l2:=by simpa using h
     rw[this];exact .inr VF
end
end DL.p7
namespace DL.p7
open PySem PySem.Spec PyProof.Rows L2 DL
abbrev Li:Stmt:=inClass (top 20) 2
noncomputable def Rp(C:Addr):Sp:=λvs H Q _=>∃(a:Addr)(A:Ad)(z w:Int)(n:Nat)(kn:List RP)(ln:List Int)(B:Nat)(nu sh lo ke:List (List Key×V))(p:RP)(i j:Nat),
 vs=[.ref a,.int i,.int ((j:Int)+1)]/\iX C H a A (vA z w) n kn ln B nu sh lo ke/\n<=7/\B+1<1000000/\kn[i]?=some p/\j+1<n/\
 ∀(i':Nat)(H':Hp)(A':Ad)(mo:List RP)(DY UO:List (List Key×V)),iX C H' a A' (vA z w) n (kn++mo) ln (B+2) DY UO lo ke->(kn++mo)[i']?=some (rL p j)->iY H H' (a::A.all) (a::A'.all)->A'.li=A.li->Q (.int i') H'
section
variable{P:Program}{w:World}{K:PySem.W.Frag}{mg:Str->Option Value}{base:Heap}
theorem sc2:aC ["self","number","k","step"] ["self","number","k"] (ae Li):=⟨rfl,rfl,rfl,by decide +kernel,rfl,by decide +kernel,by decide +kernel⟩
theorem XJ{f C fN:Addr}{fd Lj:FuncData}(F:Bj K "without_first" "Comb.without_first" Li f fd)(T:MT K mg C)(t:Tb K mg)
  (mN:Meth K C "number_of" fN)(bN:Binds K Lj ["self","row"] [])(GN:cO P w K mg base lK 3 fN Lj ["self","row"] (Ca K C))
  (G_x:lI P w K mg base 2 t.cV t.cW ["row","k"] cU):cO P w K mg base lK 4 f fd ["self","number","k"] (Rp C):=by
 refine F.ok sc2 (λvs H Q E h=>?_) (λcdv A outer s H vs Q E hr h=>?_)
 ·obtain⟨a,A,z,w,n,kn,ln,B,nu,sh,lo,ke,p,i,j,rfl,_⟩:=h
  rfl
 ·obtain⟨a,A,z,w,n,kn,ln,B,nu,sh,lo,ke,p,i,j,rfl,c,hn,hB,hi,hj,k⟩:=h
  have hu:=rV hr
  refine⟨_,aK (dO (i:=3) sc2.nd rfl (Or.inl rfl) (uk (aD (pv 1) (aD (pv 2) aP))))
   (aK (vc (CU (ur hu (pv 3) (bK (pv 0) rfl)))
    (cu (wm hu (bK (pv 0) rfl) (pv 3) (jl (pv 0) T.cl mN GN (hr.mono (by decide)) bN .nil oV (aD (fq (E:=λ_ _ _=>False) G_x (hr.mono (by decide)) (by rfl) t.bY.m t.bY.F.kp t.bY.b .nil lR (aD (i7 ed (bK (pv 0) rfl) (pv 1) (λ_ _=>rfl)) (aD (pv 2) aP))) aP)) rfl)) lN)
   (cu (mB (z0 hu (bK (pv 0) rfl) (pv 3) (λ_ _=>rfl))))),?_⟩
  refine⟨_,rfl,_,rfl,(by show 2<=sizeLine;decide),λl hl=>?_⟩
  have s1:aO H (upd H l (.tup [.int i,.int ((j:Int)+1)])):=aQ hl _
  have c1:=c.same s1
  have hkey:(upd H l (.tup [.int i,.int ((j:Int)+1)])) l=some (.tup (([.inl (i:Int),.inl ((j:Int)+1)]:List Key).map kV)):=au
  have Ar:=iY.same s1 (a::A.all)
  have XM:l∉a::A.all:=λhx=>by
   obtain⟨o,ho⟩:=c.there hx
   rw[hl]at ho
   cases ho
  generalize hH1:upd H l (.tup [.int i,.int ((j:Int)+1)])=H1 at s1 c1 hkey Ar
  refine⟨_,rfl,_,rfl,a,C,A.dx,_,_,rfl,c1.ob,T.cl,T.sh,E6,A.sh,_,rfl,nT.t c1.hsh hkey,_,rfl,?_⟩
  have ej:((j:Int)+1-1).toNat=j:=by lia
  cases hv:dQ sh ([.inl (i:Int),.inl ((j:Int)+1)]:List Key)with
  |some v=>
   refine uo ?_
   obtain⟨j',p',h1,h2,rfl⟩:=c.s1 i ((j:Int)+1) v hv
   rw[hi]at h1
   cases h1
   rw[ej]at h2
   refine⟨_,rfl,a,C,A.dx,_,_,rfl,c1.ob,T.cl,T.sh,E6,_,rfl,A.sh,.int j',rfl,?_,?_⟩
   ·have:=nT.t (k:=[.inl (i:Int),.inl ((j:Int)+1)]) c1.hsh hkey
    rw[hv]at this
    exact this
   ·exact k j' H1 A [] nu sh (by rw[append_nil];exact c1.more (by lia)) (by rw[append_nil];exact h2) Ar rfl
  |none=>
   refine vJ ?_
   have iv:=c.rw p (mem_of_getElem? hi)
   have XO:i<A.ks.length:=by rw[c.B3];exact(List.getElem?_eq_some_iff.mp hi).1
   have hb1:=c1.hks i A.ks[i] p (getElem?_eq_getElem XO) hi
   refine⟨_,rfl,a,A.dx,_,rfl,c1.ob,rfl,_,rfl,a,C,A.dx,_,_,rfl,c1.ob,T.cl,T.kn,zr,_,rfl,A.kn,A.ks.map V.ref,i,.ref A.ks[i],rfl,rfl,dG.of c1.hkn,jm (by rw[getElem?_map,getElem?_eq_getElem XO];rfl),_,rfl,λ_=>True,[.lst (aM p.1),.int ((j:Int)+1)],⟨_,_,rfl,⟨_,_,rfl,.inl ⟨trivial,.inl hb1⟩,cC _⟩,⟨_,_,rfl,rfl,rfl⟩⟩,?_⟩
   rw[KG iv hn hj]
   intro q ws H2 s2 hq2 Rh OJ
   have ew:=jn OJ
   subst ew
   have c2:=c1.same s2
   have hqF:q∉a::A.all:=λhx=>by
    obtain⟨o,ho⟩:=c1.there hx
    rw[hq2]at ho
    cases ho
   refine⟨a,A,vA z w,n,kn,ln,B,nu,sh,lo,ke,rL p j,.ref q,rfl,c2,hn,by lia,iv.step hj,⟨q,_,rfl,.inl ⟨hqF,.inl Rh⟩,cC _⟩,λi' H3 A' mo DY c3 UQ ug eli=>?_⟩
   have tM:H3 l=some (.tup (([.inl (i:Int),.inl ((j:Int)+1)]:List Key).map kV)):=ug.kp l _ XM (s2 _ _ hkey)
   have hz:=c3.z
   refine⟨_,rfl,a,C,A'.dx,_,_,rfl,c3.ob,T.cl,T.sh,E6,_,rfl,A'.sh,_,rfl,Bm.t c3.hsh tM (Nat.lt_of_le_of_lt (show sh.length<=1000001 by lia) (by decide)),?_⟩
   have yR:(kn++mo)[i]?=some p:=cy hi
   have c4:=c3.UD (i:=i) (j:=i') (k:=(j:Int)+1) yR (by rw[ej];exact UQ)
   have hl4:A'.sh≠l:=λzz=>by rw[<-zz,c3.hsh]at tM;cases tM
   refine⟨_,rfl,a,C,A'.dx,_,_,rfl,c4.ob,T.cl,T.sh,E6,_,rfl,A'.sh,.int i',rfl,?_,?_⟩
   ·have hk4:(upd H3 A'.sh (.dT (putK sh [.inl (i:Int),.inl ((j:Int)+1)] (.int i')))) l=some (.tup (([.inl (i:Int),.inl ((j:Int)+1)]:List Key).map kV)):=by rw[aj (Ne.symm hl4)];exact tM
    have:=nT.t (k:=[.inl (i:Int),.inl ((j:Int)+1)]) c4.hsh hk4
    rw[kN,if_pos rfl]at this
    exact this
   ·refine k i' _ A' mo DY _ c4 UQ ?_ eli
    exact((Ar.trans (iY.same s2 _)).trans ug).trans (iY.upd (mem_cons_of_mem _ (mem_append_left _ (by simp[Ad.hd]))) _)
end
abbrev Ll:Stmt:=inClass (top 20) 3
noncomputable def Rq(C:Addr):Sp:=λvs H Q _=>∃(a:Addr)(A:Ad)(z w:Int)(n:Nat)(kn:List RP)(ln:List Int)(B:Nat)(nu sh lo ke:List (List Key×V))(p:RP)(i j:Nat),
 vs=[.ref a,.int i,.int ((j:Int)+1)]/\iX C H a A (vA z w) n kn ln B nu sh lo ke/\n<=7/\B+1<1000000/\kn[i]?=some p/\j+1<n/\
 ∀(i':Nat)(H':Hp)(A':Ad)(mo:List RP)(DY UR:List (List Key×V)),iX C H' a A' (vA z w) n (kn++mo) ln (B+2) DY sh UR ke->(kn++mo)[i']?=some (o4 p j)->iY H H' (a::A.all) (a::A'.all)->A'.li=A.li->Q (.int i') H'
section
variable{P:Program}{w:World}{K:PySem.W.Frag}{mg:Str->Option Value}{base:Heap}
theorem sc3:aC ["self","number","k","step"] ["self","number","k"] (ae Ll):=⟨rfl,rfl,rfl,by decide +kernel,rfl,by decide +kernel,by decide +kernel⟩
theorem XQ{f C fN:Addr}{fd Lj:FuncData}(F:Bj K "with_last" "Comb.with_last" Ll f fd)(T:MT K mg C)(t:Tb K mg)
  (mN:Meth K C "number_of" fN)(bN:Binds K Lj ["self","row"] [])(GN:cO P w K mg base lK 3 fN Lj ["self","row"] (Ca K C))
  (G_x:lI P w K mg base 1 t.bu t.bw ["row","k"] aU):cO P w K mg base lK 4 f fd ["self","number","k"] (Rq C):=by
 refine F.ok sc3 (λvs H Q E h=>?_) (λcdv A outer s H vs Q E hr h=>?_)
 ·obtain⟨a,A,z,w,n,kn,ln,B,nu,sh,lo,ke,p,i,j,rfl,_⟩:=h
  rfl
 ·obtain⟨a,A,z,w,n,kn,ln,B,nu,sh,lo,ke,p,i,j,rfl,c,hn,hB,hi,hj,k⟩:=h
  have hu:=rV hr
  refine⟨_,aK (dO (i:=3) sc3.nd rfl (Or.inl rfl) (uk (aD (pv 1) (aD (pv 2) aP))))
   (aK (vc (CU (ur hu (pv 3) (bK (pv 0) rfl)))
    (cu (wm hu (bK (pv 0) rfl) (pv 3) (jl (pv 0) T.cl mN GN (hr.mono (by decide)) bN .nil oV (aD (fq (E:=λ_ _ _=>False) G_x (hr.mono (by decide)) (by rfl) t.aZ.m t.aZ.F.kp t.aZ.b .nil lR (aD (i7 ed (bK (pv 0) rfl) (pv 1) (λ_ _=>rfl)) (aD (pv 2) aP))) aP)) rfl)) lN)
   (cu (mB (z0 hu (bK (pv 0) rfl) (pv 3) (λ_ _=>rfl))))),?_⟩
  refine⟨_,rfl,_,rfl,(by show 2<=sizeLine;decide),λl hl=>?_⟩
  have s1:aO H (upd H l (.tup [.int i,.int ((j:Int)+1)])):=aQ hl _
  have c1:=c.same s1
  have hkey:(upd H l (.tup [.int i,.int ((j:Int)+1)])) l=some (.tup (([.inl (i:Int),.inl ((j:Int)+1)]:List Key).map kV)):=au
  have Ar:=iY.same s1 (a::A.all)
  have XM:l∉a::A.all:=λhx=>by
   obtain⟨o,ho⟩:=c.there hx
   rw[hl]at ho
   cases ho
  generalize hH1:upd H l (.tup [.int i,.int ((j:Int)+1)])=H1 at s1 c1 hkey Ar
  refine⟨_,rfl,_,rfl,a,C,A.dx,_,_,rfl,c1.ob,T.cl,T.lo,E7,A.lo,_,rfl,nT.t c1.hlo hkey,_,rfl,?_⟩
  have ej:((j:Int)+1-1).toNat=j:=by lia
  cases hv:dQ lo ([.inl (i:Int),.inl ((j:Int)+1)]:List Key)with
  |some v=>
   refine uo ?_
   obtain⟨j',p',h1,h2,rfl⟩:=c.l1 i ((j:Int)+1) v hv
   rw[hi]at h1
   cases h1
   rw[ej]at h2
   refine⟨_,rfl,a,C,A.dx,_,_,rfl,c1.ob,T.cl,T.lo,E7,_,rfl,A.lo,.int j',rfl,?_,?_⟩
   ·have:=nT.t (k:=[.inl (i:Int),.inl ((j:Int)+1)]) c1.hlo hkey
    rw[hv]at this
    exact this
   ·exact k j' H1 A [] nu lo (by rw[append_nil];exact c1.more (by lia)) (by rw[append_nil];exact h2) Ar rfl
  |none=>
   refine vJ ?_
   have iv:=c.rw p (mem_of_getElem? hi)
   have XO:i<A.ks.length:=by rw[c.B3];exact(List.getElem?_eq_some_iff.mp hi).1
   have hb1:=c1.hks i A.ks[i] p (getElem?_eq_getElem XO) hi
   refine⟨_,rfl,a,A.dx,_,rfl,c1.ob,rfl,_,rfl,a,C,A.dx,_,_,rfl,c1.ob,T.cl,T.kn,zr,_,rfl,A.kn,A.ks.map V.ref,i,.ref A.ks[i],rfl,rfl,dG.of c1.hkn,jm (by rw[getElem?_map,getElem?_eq_getElem XO];rfl),_,rfl,λ_=>True,[.lst (aM p.1),.int ((j:Int)+1)],⟨_,_,rfl,⟨_,_,rfl,.inl ⟨trivial,.inl hb1⟩,cC _⟩,⟨_,_,rfl,rfl,rfl⟩⟩,?_⟩
   rw[uG (by rw[iv.lr];exact hn) (by rw[iv.lr];exact hj)]
   intro q ws H2 s2 hq2 Rh OJ
   have ew:=jn OJ
   subst ew
   have c2:=c1.same s2
   have hqF:q∉a::A.all:=λhx=>by
    obtain⟨o,ho⟩:=c1.there hx
    rw[hq2]at ho
    cases ho
   refine⟨a,A,vA z w,n,kn,ln,B,nu,sh,lo,ke,o4 p j,.ref q,rfl,c2,hn,by lia,(iv.symm.step hj).symm,⟨q,_,rfl,.inl ⟨hqF,.inl Rh⟩,cC _⟩,λi' H3 A' mo DY c3 UQ ug eli=>?_⟩
   have tM:H3 l=some (.tup (([.inl (i:Int),.inl ((j:Int)+1)]:List Key).map kV)):=ug.kp l _ XM (s2 _ _ hkey)
   have hz:=c3.z
   refine⟨_,rfl,a,C,A'.dx,_,_,rfl,c3.ob,T.cl,T.lo,E7,_,rfl,A'.lo,_,rfl,Bm.t c3.hlo tM (Nat.lt_of_le_of_lt (show lo.length<=1000001 by lia) (by decide)),?_⟩
   have yR:(kn++mo)[i]?=some p:=cy hi
   have c4:=c3.UE (i:=i) (j:=i') (k:=(j:Int)+1) yR (by rw[ej];exact UQ)
   have hl4:A'.lo≠l:=λzz=>by rw[<-zz,c3.hlo]at tM;cases tM
   refine⟨_,rfl,a,C,A'.dx,_,_,rfl,c4.ob,T.cl,T.lo,E7,_,rfl,A'.lo,.int i',rfl,?_,?_⟩
   ·have hk4:(upd H3 A'.lo (.dT (putK lo [.inl (i:Int),.inl ((j:Int)+1)] (.int i')))) l=some (.tup (([.inl (i:Int),.inl ((j:Int)+1)]:List Key).map kV)):=by rw[aj (Ne.symm hl4)];exact tM
    have:=nT.t (k:=[.inl (i:Int),.inl ((j:Int)+1)]) c4.hlo hk4
    rw[kN,if_pos rfl]at this
    exact this
   ·refine k i' _ A' mo DY _ c4 UQ ?_ eli
    exact((Ar.trans (iY.same s2 _)).trans ug).trans (iY.upd (mem_cons_of_mem _ (mem_append_left _ (by simp[Ad.hd]))) _)
end
end DL.p7
namespace DL.p7
open PySem PySem.Spec PyProof.Rows L2 DL
abbrev Ln:Stmt:=inClass (top 20) 4
noncomputable def Rt(C:Addr):Sp:=λvs H Q _=>∃(a:Addr)(A:Ad)(z w:Int)(n:Nat)(kn:List RP)(ln:List Int)(B:Nat)(nu sh lo ke:List (List Key×V))(p q:RP)(i j:Nat),
 vs=[.ref a,.int i,.int j]/\iX C H a A (vA z w) n kn ln B nu sh lo ke/\n<=7/\B+300<1000000/\kn[i]?=some p/\kn[j]?=some q/\
 ∀(t:Addr)(i' j':Nat)(H':Hp)(A':Ad)(mo:List RP)(DY UO UR:List (List Key×V)),iX C H' a A' (vA z w) n (kn++mo) ln (B+200) DY UO UR ke->(kn++mo)[i']?=some (cX 50 p q).1->(kn++mo)[j']?=some (cX 50 p q).2->
  H t=none->H' t=some (.tup [.int i',.int j'])->iY H H' (a::A.all) (a::A'.all)->A'.li=A.li->Q (.ref t) H'
section
variable{P:Program}{w:World}{K:PySem.W.Frag}{mg:Str->Option Value}{base:Heap}
theorem VI:aC ["self","one","other","free","k"] ["self","one","other"] (ae Ln):=⟨rfl,rfl,rfl,by decide +kernel,rfl,by decide +kernel,by decide +kernel⟩
theorem XR{f C fS fL:Addr}{fd Ru fdL:FuncData}(F:Bj K "slide" "Comb.slide" Ln f fd)(T:MT K mg C)
  (mS:Meth K C "without_first" fS)(bS:Binds K Ru ["self","number","k"] [])(GS:cO P w K mg base lK 4 fS Ru ["self","number","k"] (Rp C))
  (mL:Meth K C "with_last" fL)(bL:Binds K fdL ["self","number","k"] [])(GL:cO P w K mg base lK 4 fL fdL ["self","number","k"] (Rq C)):cO P w K mg base lK 5 f fd ["self","one","other"] (Rt C):=by
 refine F.ok VI (λvs H Q E h=>?_) (λcdv A outer s H vs Q E hr h=>?_)
 ·obtain⟨a,A,z,w,n,kn,ln,B,nu,sh,lo,ke,p,q,i,j,rfl,_⟩:=h
  rfl
 ·obtain⟨a,A,z,w,n,kn,ln,B,nu,sh,lo,ke,p,q,i,j,rfl,c,hn,hB,hi,hj,k⟩:=h
  have hu:=rV hr
  refine⟨_,aK (dO (i:=3) VI.nd rfl (Or.inl rfl) (rT IJ (i7 ed (bK (pv 0) rfl) (pv 2) (λ_ _=>rfl)) (Er IK (i7 ed (bK (pv 0) rfl) (pv 1) (λ_ _=>rfl)))))
   (aK (wZ PassesOwn.never (j8 fG (pv 3) ig (aF _))
    (aK (dO (i:=4) VI.nd rfl (Or.inl rfl) (zZ PySem.F.plainAttrs_int PySem.F.slot_int_bit_length PySem.F.type_int_bit_length OA (pv 3)))
    (aK (dO (i:=1) VI.nd rfl (Or.inl rfl) (jl (pv 0) T.cl mL GL (hr.mono (by decide)) bL .nil oV (aD (pv 1) (aD (pv 4) aP))))
    (aK (dO (i:=2) VI.nd rfl (Or.inl rfl) (jl (pv 0) T.cl mS GS (hr.mono (by decide)) bS .nil oV (aD (pv 2) (aD (pv 4) aP))))
    (cu (dO (i:=3) VI.nd rfl (Or.inl rfl) (rT IJ (i7 ed (bK (pv 0) rfl) (pv 2) (λ_ _=>rfl)) (Er IK (i7 ed (bK (pv 0) rfl) (pv 1) (λ_ _=>rfl))))))))))
   (cu (mB (uk (aD (pv 1) (aD (pv 2) aP)))))),?_⟩
  have Y4:∀{H2:Hp}{A2:Ad}{Rm:List RP}{B2:Nat}{wQ x9 lo2:List (List Key×V)}{i2:Nat}{p2:RP},iX C H2 a A2 (vA z w) n Rm ln B2 wQ x9 lo2 ke->Rm[i2]?=some p2->i6 (Rm.map λp=>V.int (vP p.2)) (i2:Int)=some (.int (vP p2.2))/\i6 (Rm.map λp=>V.int (vP p.1)) (i2:Int)=some (.int (vP p2.1)):=λc2 h2=>
   ⟨jm (by rw[getElem?_map,h2];rfl),jm (by rw[getElem?_map,h2];rfl)⟩
  have l7:∀{x:RP},Iv n x.1 x.2->x.1.length<=7/\x.2.length<=7:=λh=>⟨by rw[h.lr];exact hn,by rw[h.ls];exact hn⟩
  have ivp:=c.rw p (mem_of_getElem? hi)
  have ivq:=c.rw q (mem_of_getElem? hj)
  refine⟨_,rfl,a,C,A.dx,_,_,rfl,c.ob,T.cl,T.fi,KI,_,rfl,A.fi,_,j,_,rfl,rfl,dG.of c.yv,(Y4 c hj).1,_,rfl,a,C,A.dx,_,_,rfl,c.ob,T.cl,T.la,KJ,_,rfl,A.la,_,i,_,rfl,rfl,dG.of c.hla,(Y4 c hi).2,_,rfl,_,_,rfl,rfl,?_⟩
  dsimp only
  rw[E8 (l7 ivp).1 (l7 ivq).2]
  refine⟨λm σ H2=>∃(A2:Ad)(mo:List RP)(wQ x9 lo2:List (List Key×V))(i2 j2:Nat)(p2 q2:RP)(s:Nat)(kv:Option V),σ=[some (.ref a),some (.int i2),some (.int j2),some (.int (DS (mO p2 q2))),kv]/\iX C H2 a A2 (vA z w) n (kn++mo) ln (B+4*s) wQ x9 lo2 ke/\
    (kn++mo)[i2]?=some p2/\(kn++mo)[j2]?=some q2/\cX (50-s) p2 q2=cX 50 p q/\s<=gG p2.1/\m=50-s/\iY H H2 (a::A.all) (a::A2.all)/\A2.li=A.li,⟨50,A,[],nu,sh,lo,i,j,p,q,0,none,rfl,by rw[append_nil];exact c,by rw[append_nil];exact hi,by rw[append_nil];exact hj,rfl,zero_le _,rfl,iY.refl _ _,rfl⟩,?_⟩
  rintro m σ H2 ⟨A2,mo,wQ,x9,lo2,i2,j2,p2,q2,s,kv,rfl,c2,hi2,OT,hs,hsc,hm,DZ,VJ⟩
  have MM:=c2.rw p2 (mem_of_getElem? hi2)
  have MN:=c2.rw q2 (mem_of_getElem? OT)
  have af8:=uH hn MM
  refine⟨_,rfl,_,_,rfl,rfl,_,rfl,?_⟩
  dsimp only
  rw[KP (l7 MM).1 (l7 MN).2]
  cases hl:(mO p2 q2).getLast? with
  |none=>
   refine uo ?_
   rw[nG _ hl]at hs
   refine⟨_,rfl,_,rfl,(by show 2<=sizeLine;decide),λt ht=>?_⟩
   have st:=aQ ht (.tup [V.int i2,V.int j2])
   refine k t i2 j2 _ A2 mo wQ x9 lo2 ((c2.same st).more (by lia)) (by rw[<-hs];exact hi2) (by rw[<-hs];exact OT) (DZ.gr t ht) au (DZ.trans (iY.same st _)) VJ
  |some kk'=>
   refine vJ ?_
   obtain⟨j',rfl,DH,hlt,_⟩:=og MM MN (mem_of_getLast? hl)
   have hup:=KR MM DH hlt
   have ivu:=cg MM DH
   have af9:=uH hn ivu
   have hsl:cX (50-(s+1)) (o4 p2 j') (rL q2 j')=cX 50 p q:=by
    rw[<-hs,show 50-s=(50-(s+1))+1 by lia,nE _ hl,show((j':Int)+1-1).toNat=j' by lia]
   refine⟨λσ' H'=>∃m'<m,∃(A2:Ad)(mo:List RP)(wQ x9 lo2:List (List Key×V))(i2 j2:Nat)(p2 q2:RP)(s:Nat)(kv:Option V),σ'=[some (.ref a),some (.int i2),some (.int j2),some (.int (DS (mO p2 q2))),kv]/\iX C H' a A2 (vA z w) n (kn++mo) ln (B+4*s) wQ x9 lo2 ke/\
    (kn++mo)[i2]?=some p2/\(kn++mo)[j2]?=some q2/\cX (50-s) p2 q2=cX 50 p q/\s<=gG p2.1/\m'=50-s/\iY H H' (a::A.all) (a::A2.all)/\A2.li=A.li,λσ' H' h=>h,?_⟩
   refine⟨_,rfl,(by first|exact rfl|exact trivial),_,rfl,rfl,?_⟩
   dsimp only
   rw[KQ (l7 MM).1 (l7 MN).2 hl]
   refine⟨_,rfl,a,A2.dx,_,rfl,c2.ob,rfl,_,rfl,_,rfl,a,A2,z,w,n,kn++mo,ln,B+4*s,wQ,x9,lo2,ke,p2,i2,j',rfl,c2,hn,by lia,hi2,DH,λi3 H3 A3 Y5 nu3 Y6 c3 UQ ug XS=>?_⟩
   have hj3:(kn++mo++Y5)[j2]?=some q2:=cy OT
   refine⟨_,rfl,a,A3.dx,_,rfl,c3.ob,rfl,_,rfl,_,rfl,a,A3,z,w,n,kn++mo++Y5,ln,B+4*s+2,nu3,x9,Y6,ke,q2,j2,j',rfl,c3,hn,by lia,hj3,DH,λj4 H4 A4 FA XT XU c4 XW UT el4=>?_⟩
   have UU:(kn++mo++Y5++FA)[i3]?=some (o4 p2 j'):=cy UQ
   refine⟨_,rfl,a,C,A4.dx,_,_,rfl,c4.ob,T.cl,T.fi,KI,_,rfl,A4.fi,_,j4,_,rfl,rfl,dG.of c4.yv,(Y4 c4 XW).1,_,rfl,a,C,A4.dx,_,_,rfl,c4.ob,T.cl,T.la,KJ,_,rfl,A4.la,_,i3,_,rfl,rfl,dG.of c4.hla,(Y4 c4 UU).2,_,rfl,_,_,rfl,rfl,?_⟩
   have iva:=fj MN DH
   dsimp only
   rw[E8 (l7 ivu).1 (l7 iva).2]
   rw[List.append_assoc,List.append_assoc]at c4 UU XW
   refine⟨50-(s+1),by lia,A4,mo++(Y5++FA),XT,XU,Y6,i3,j4,o4 p2 j',rL q2 j',s+1,_,rfl,?_,UU,XW,hsl,by lia,rfl,(DZ.trans ug).trans UT,el4.trans (XS.trans VJ)⟩
   rw[show B+4*(s+1)=B+4*s+2+2 by lia]
   exact c4
end
end DL.p7
namespace DL.p7
open PySem PySem.Spec PyProof.Rows L2 DL
abbrev Lo:Stmt:=inClass (top 20) 5
noncomputable def Rv(C:Addr):Sp:=λvs H Q _=>∃(a:Addr)(A:Ad)(z w:Int)(n:Nat)(kn:List RP)(ln:List Int)(B:Nat)(nu sh lo ke:List (List Key×V))(p q:RP)(i j:Nat),
 vs=[.ref a,.int i,.int j]/\iX C H a A (vA z w) n kn ln B nu sh lo ke/\n<=7/\B+400<1000000/\kn[i]?=some p/\kn[j]?=some q/\
 ∀(t:Addr)(i' j':Nat)(H':Hp)(A':Ad)(mo:List RP)(DY UO UR ke':List (List Key×V)),iX C H' a A' (vA z w) n (kn++mo) ln (B+201) DY UO UR ke'->(kn++mo)[i']?=some (cX 50 p q).1->(kn++mo)[j']?=some (cX 50 p q).2->
  H' t=some (.tup [.int i',.int j'])->iY H H' (a::A.all) (a::A'.all)->A'.li=A.li->Q (.ref t) H'
section
variable{P:Program}{w:World}{K:PySem.W.Frag}{mg:Str->Option Value}{base:Heap}
theorem Y7:aC ["self","one","other","pair","found"] ["self","one","other"] (ae Lo):=⟨rfl,rfl,rfl,by decide +kernel,rfl,by decide +kernel,by decide +kernel⟩
theorem XX{f C fS:Addr}{fd Ru:FuncData}(F:Bj K "slide_kept" "Comb.slide_kept" Lo f fd)(T:MT K mg C)(t:Tb K mg)
  (mS:Meth K C "slide" fS)(bS:Binds K Ru ["self","one","other"] [])(GS:cO P w K mg base lK 5 fS Ru ["self","one","other"] (Rt C)):cO P w K mg base lK 6 f fd ["self","one","other"] (Rv C):=by
 refine F.ok Y7 (λvs H Q E h=>?_) (λcdv A outer s H vs Q E hr h=>?_)
 ·obtain⟨a,A,z,w,n,kn,ln,B,nu,sh,lo,ke,p,q,i,j,rfl,_⟩:=h
  rfl
 ·obtain⟨a,A,z,w,n,kn,ln,B,nu,sh,lo,ke,p,q,i,j,rfl,c,hn,hB,hi,hj,k⟩:=h
  have hu:=rV hr
  refine⟨_,aK (dO (i:=3) Y7.nd rfl (Or.inl rfl) (uk (aD (pv 1) (aD (pv 2) aP))))
   (aK (dO (i:=4) Y7.nd rfl (Or.inl rfl) (I8 hu (bK (pv 0) rfl) (pv 3) ⟨rfl,rfl,rfl,rfl⟩))
   (aK (vc (j8 SE (pv 4) Iu (aF _))
    (aK (dO (i:=4) Y7.nd rfl (Or.inl rfl) (jl (pv 0) T.cl mS GS (hr.mono (by decide)) bS .nil oV (aD (pv 1) (aD (pv 2) aP))))
    (cu (vc (j8 ve (kM Hv (by rfl) T.Y1 cP (aD (bK (pv 0) rfl) aP)) (Nb (by rfl) t.tK (v:=.int 200000) ⟨_,rfl⟩) (aF _))
     (cu (wm hu (bK (pv 0) rfl) (pv 3) (pv 4) rfl)) lN))) lN)
   (cu (mB (pv 4))))),?_⟩
  refine⟨_,rfl,_,rfl,(by show 2<=sizeLine;decide),λl hl=>?_⟩
  have s1:aO H (upd H l (.tup [.int i,.int j])):=aQ hl _
  have c1:=c.same s1
  have hkey:(upd H l (.tup [.int i,.int j])) l=some (.tup (([.inl (i:Int),.inl (j:Int)]:List Key).map kV)):=au
  have Ar:=iY.same s1 (a::A.all)
  have XM:l∉a::A.all:=λhx=>by
   obtain⟨o,ho⟩:=c.there hx
   rw[hl]at ho
   cases ho
  generalize hH1:upd H l (.tup [.int i,.int j])=H1 at s1 c1 hkey Ar
  refine⟨_,rfl,a,C,A.dx,_,_,rfl,c1.ob,T.cl,T.ke,KN,A.ke,rfl,.inr ⟨_,.inl c1.hke⟩,_,rfl,_,nT.t c1.hke hkey,?_⟩
  cases hv:dQ ke ([.inl (i:Int),.inl (j:Int)]:List Key)with
  |some v=>
   obtain⟨t',i',j',p',q',h1,h2,rfl,h4,h5,h6⟩:=c1.k1 i j v hv
   rw[hi]at h1
   rw[hj]at h2
   cases h1
   cases h2
   refine⟨_,rfl,rfl,_,rfl,?_⟩
   rw[decide_eq_false (show¬((some (V.ref t')).getD .non=.non)from λzz=>nomatch zz)]
   refine uo ?_
   exact⟨_,rfl,k t' i' j' H1 A [] nu sh lo ke (by rw[append_nil];exact c1.more (by lia)) (by rw[append_nil];exact h5) (by rw[append_nil];exact h6) h4 Ar rfl⟩
  |none=>
   refine⟨_,rfl,rfl,_,rfl,?_⟩
   rw[decide_eq_true (show((none:Option V).getD .non=.non)from rfl)]
   refine vJ ?_
   refine⟨_,rfl,a,A.dx,_,rfl,c1.ob,rfl,_,rfl,_,rfl,a,A,z,w,n,kn,ln,B,nu,sh,lo,ke,p,q,i,j,rfl,c1,hn,by lia,hi,hj,λt' i' j' H2 A2 mo wQ x9 lo2 c2 hi2 OT htn Y8 DZ VJ=>?_⟩
   have hz:=c2.z
   have XY:=Ar.trans DZ
   refine⟨_,rfl,a,C,A2.dx,_,_,rfl,c2.ob,T.cl,T.ke,KN,A2.ke,_,rfl,c2.hke,_,_,rfl,rfl,_,rfl,?_⟩
   generalize decide ((ke.length:Int)<200000)=bb
   cases bb with
   |true=>
    refine vJ ?_
    have X0:H2 l=some (.tup (([.inl (i:Int),.inl (j:Int)]:List Key).map kV)):=DZ.kp l _ XM hkey
    refine⟨_,rfl,_,rfl,a,C,A2.dx,_,_,rfl,c2.ob,T.cl,T.ke,KN,_,rfl,A2.ke,_,rfl,Bm.t c2.hke X0 (Nat.lt_of_le_of_lt (show ke.length<=1000001 by lia) (by decide)),?_⟩
    have c3:=c2.UG (cy hi) (cy hj) Y8 hi2 OT
    refine⟨_,rfl,k t' i' j' _ A2 mo wQ x9 lo2 _ c3 hi2 OT ?_ (XY.trans (iY.upd (mem_cons_of_mem _ (mem_append_left _ (by simp[Ad.hd]))) _)) VJ⟩
    rw[aj (bX Y8 c2.hke (by intro zz;cases zz))]
    exact Y8
   |false=>
    refine uo ?_
    exact⟨_,rfl,k t' i' j' H2 A2 mo wQ x9 lo2 ke (c2.more (by lia)) hi2 OT Y8 XY VJ⟩
end
end DL.p7
namespace DL.p7
open PySem PySem.Spec PyProof.Rows L2 DL
abbrev Lp:Stmt:=inClass (top 20) 6
noncomputable def Rw(K:PySem.W.Frag)(C:Addr):Sp:=λvs H Q _=>∃(a:Addr)(A:Ad)(zn:Nat)(w:Int)(n:Nat)(kn:List RP)(ls:List Nat)(R:List RP)(B:Nat)(nu sh lo ke:List (List Key×V))(p:RP)(v:V),
 vs=[.ref a,v]/\iX C H a A (vA zn w) n kn (nI ls) B nu sh lo ke/\dA kn ls R/\kn[zn]?=some (upTo n,upTo n)/\n<=7/\B+402*(R.length+1)<900000/\R.length<=1000/\Iv n p.1 p.2/\Is K (λx=>x∉a::A.all) H (.lst (aM p.1)) v/\
 ∀(H':Hp)(A':Ad)(mo:List RP)(ls':List Nat)(DY UO UR ke':List (List Key×V)),iX C H' a A' (vA zn w) n (kn++mo) (nI ls') (B+402*(R.length+1)) DY UO UR ke'->dA (kn++mo) ls' (fA n R p)->iY H H' (a::A.all) (a::A'.all)->Q .non H'
section
variable{P:Program}{w:World}{K:PySem.W.Frag}{mg:Str->Option Value}{base:Heap}
theorem X1:aC ["self","row","line","place","pair"] ["self","row"] (ae Lp):=⟨rfl,rfl,rfl,by decide +kernel,rfl,by decide +kernel,by decide +kernel⟩
theorem X2{f C fN fS:Addr}{fd Lj Ru:FuncData}(F:Bj K "put" "Comb.put" Lp f fd)(T:MT K mg C)
  (mN:Meth K C "number_of" fN)(bN:Binds K Lj ["self","row"] [])(GN:cO P w K mg base lK 3 fN Lj ["self","row"] (Ca K C))
  (mS:Meth K C "slide_kept" fS)(bS:Binds K Ru ["self","one","other"] [])(GS:cO P w K mg base lK 6 fS Ru ["self","one","other"] (Rv C)):cO P w K mg base lK 7 f fd ["self","row"] (Rw K C):=by
 refine F.ok X1 (λvs H Q E h=>?_) (λcdv A outer s H vs Q E hr h=>?_)
 ·obtain⟨a,A,zn,w,n,kn,ls,R,B,nu,sh,lo,ke,p,v,rfl,_⟩:=h
  rfl
 ·obtain⟨a,A,zn,w,n,kn,ls,R,B,nu,sh,lo,ke,p,v,rfl,c,hR,hzn,hn,hB,hRl,ivp,isr,k⟩:=h
  have hu:=rV hr
  refine⟨_,aK (dO (i:=2) X1.nd rfl (Or.inl rfl) (bK (pv 0) rfl))
   (aK (ik (xg plainAttrs_list PySem.F.slot_list_append PySem.F.type_list_append fZ (pv 2) (aD (jl (pv 0) T.cl mN GN (hr.mono (by decide)) bN .nil oV (aD (pv 1) aP)) aP)) rfl)
   (aK (dO (i:=3) X1.nd rfl (Or.inl rfl) (rT bE (kM nR (by rfl) T.Y1 cP (aD (pv 2) aP)) ig))
   (aK (wZ PassesOwn.never (j8 fG (pv 3) ig (aF _))
    (aK (dO (i:=4) X1.nd rfl (Or.inl rfl) (jl (pv 0) T.cl mS GS (hr.mono (by decide)) bS .nil oV (aD (i7 ed (pv 2) (rT bE (pv 3) ig) (λ_ _=>rfl)) (aD (i7 ed (pv 2) (pv 3) (λ_ _=>rfl)) aP))))
    (aK (vc (j8 IL (i7 zX (pv 4) ig (λ_ _=>rfl)) (i7 ed (pv 2) (rT bE (pv 3) ig) (λ_ _=>rfl)) (aF _)) (cu IA) lN)
    (aK (CW (i7 zX (pv 4) ig (λ_ _=>rfl)) (CV (pv 2) (rT bE (pv 3) ig) set_list (by intro _;rfl)) rfl rfl rfl)
    (aK (CW (i7 zX (pv 4) ig (λ_ _=>rfl)) (CV (pv 2) (pv 3) set_list (by intro _;rfl)) rfl rfl rfl)
    (cu (CZ (i:=3) X1.nd rfl (Or.inl rfl) ig Sq)))))))
   (cu (vc (j8 IL (i7 ed (pv 2) (Er dg ig) (λ_ _=>rfl)) (bK (pv 0) rfl) (aF _))
    (cu (ik (zZ plainAttrs_list slot_list_pop type_list_pop IX (pv 2)) rfl)) lN))))),?_⟩
  refine⟨_,rfl,a,C,A.dx,_,_,rfl,c.ob,T.cl,T.li,B4,?_⟩
  refine⟨_,rfl,.inl ⟨rfl,_,dG.of c.hli⟩,_,rfl,a,A.dx,_,rfl,c.ob,rfl,_,rfl,a,A,vA zn w,n,kn,nI ls,B,nu,sh,lo,ke,p,v,rfl,c,hn,by lia,ivp,isr,λi1 H1 A1 X3 X4 c1 hi1 Ar VL=>?_⟩
  have hz:=c1.z
  have YX:=hR.len
  have big:∀{x:Nat},x<=1000001->x<sizeLine:=λh=>Nat.lt_of_le_of_lt h (by decide)
  refine⟨A.li,(nI ls).map V.int,.int i1,rfl,rfl,by rw[<-VL];exact c1.hli,by rw[length_map,mQ];exact big (by lia),?_⟩
  have hR1:dA (kn++X3) (ls++[i1]) (R++[p]):=hR.pre.app hi1
  have c2:=c1.B6 hR1.li
  rw[UI,VL]at c2
  have DZ:iY H (upd H1 A.li (.lst ((nI ls).map V.int++[.int i1]))) (a::A.all) (a::A1.all):=Ar.trans (iY.upd (by rw[<-VL];exact mem_cons_of_mem _ (mem_append_left _ (by simp[Ad.hd]))) _)
  generalize upd H1 A.li (.lst ((nI ls).map V.int++[.int i1]))=H2 at c2 DZ
  have abJ:H2 A.li=some (.lst ((nI (ls++[i1])).map V.int)):=by rw[<-VL];exact c2.hli
  refine⟨_,rfl,A.li,_,rfl,.inl (dG.of abJ),_,_,rfl,rfl,?_⟩
  have epl:((((nI (ls++[i1])).map V.int).length:Nat):Int)-1=(R.length:Nat):=by
   rw[length_map,mQ,length_append,length_singleton]
   lia
  dsimp only
  rw[epl]
  refine⟨λm σ H2=>∃(A2:Ad)(mo:List RP)(wQ x9 lo2 MX:List (List Key×V))(X5:List Nat)(t:Nat)(cr:RP)(dn:List RP)(pr:Option V),σ=[some (.ref a),some v,some (.ref A.li),some (.int t),pr]/\iX C H2 a A2 (vA zn w) n (kn++mo) (nI X5) (B+1+201*(R.length-t)) wQ x9 lo2 MX/\
    dA (kn++mo) X5 (R.take t++cr::dn)/\t<=R.length/\(vQ (R.take t).reverse cr).reverse++dn=sJ R p/\m=t/\iY H H2 (a::A.all) (a::A2.all)/\A2.li=A.li,
   ⟨R.length,A1,X3,X4,sh,lo,ke,ls++[i1],R.length,p,[],none,rfl,by rw[sub_self];exact c2,by rw[take_length];exact hR1,Nat.le_refl _,by rw[take_length,append_nil];rfl,rfl,DZ,VL⟩,?_⟩
  rintro m σ H3 ⟨A3,mo,nu3,sh3,Y6,ke3,yw,t,cr,dn,pr,rfl,c3,hL,htR,hT,rfl,ug,XS⟩
  have hli:H3 A.li=some (.lst ((nI yw).map V.int)):=by rw[<-XS];exact c3.hli
  refine⟨_,rfl,_,_,rfl,rfl,_,rfl,?_⟩
  cases m with
  |zero=>
   rw[decide_eq_false (by lia)]
   refine uo ?_
   have Rx:dA (kn++mo) yw (sJ R p):=by
    rw[<-hT]
    exact hL
   obtain⟨m1,r1,hm1,hm2,VM⟩:=Rx.last (by rw[wI];lia)
   refine⟨_,rfl,_,rfl,A.li,_,-1,_,rfl,rfl,dG.of hli,xf (wJ hm1),_,rfl,a,C,A3.dx,_,_,rfl,c3.ob,T.cl,T.no,Ra,rfl,_,rfl,?_⟩
   have hz2:(kn++mo)[zn]?=some (upTo n,upTo n):=cy hzn
   by_cases hq:r1=(upTo n,upTo n)
   ·rw[decide_eq_true (show V.int (m1:Int)=V.int (zn:Int)from congrArg V.int ((c3.inj VM hz2).mpr hq))]
    refine vJ ?_
    refine⟨_,rfl,.inl ⟨rfl,_,dG.of hli⟩,A.li,_,_,rfl,rfl,hli,Fb (wJ hm1),?_⟩
    rw[Fc,<-XS]
    have hdr:dA (kn++mo) yw.dropLast (fA n R p):=by
     unfold fA
     rw[if_pos (by rw[hm2,hq])]
     exact Rx.drop
    exact k _ A3 mo yw.dropLast _ _ _ _ ((c3.B6 hdr.li).more (by lia)) hdr (ug.trans (iY.upd (mem_cons_of_mem _ (mem_append_left _ (by simp[Ad.hd]))) _))
   ·rw[decide_eq_false (show¬V.int (m1:Int)=V.int (zn:Int)from λe=>hq ((c3.inj VM hz2).mp (by injection e)))]
    refine uo ?_
    have hdr:dA (kn++mo) yw (fA n R p):=by
     unfold fA
     rw[if_neg (by rw[hm2];exact λe=>hq (Option.some.inj e))]
     exact Rx
    exact k _ A3 mo yw _ _ _ _ (c3.more (by lia)) hdr ug
  |succ t=>
   rw[decide_eq_true (by lia)]
   refine vJ ?_
   have hrt:R[t]?=some (R[t]'(by lia)):=getElem?_eq_getElem (by lia)
   generalize R[t]'(by lia)=r at hrt
   have etk:R.take (t+1)=R.take t++[r]:=by rw[take_succ,hrt];rfl
   have ltk:(R.take t).length=t:=by rw[length_take];lia
   have g1:(R.take (t+1)++cr::dn)[t]?=some r:=by
    rw[etk,List.append_assoc,getElem?_append_right (by lia),ltk,sub_self]
    rfl
   have g2:(R.take (t+1)++cr::dn)[t+1]?=some cr:=by
    rw[getElem?_append_right (by rw[length_take];lia),show t+1-(R.take (t+1)).length=0 by rw[length_take];lia]
    rfl
   obtain⟨ma,la,ka⟩:=hL.at g1
   obtain⟨mb,lb,kb⟩:=hL.at g2
   refine⟨λσ' H'=>∃m'<t+1,∃(A2:Ad)(mo:List RP)(wQ x9 lo2 MX:List (List Key×V))(X5:List Nat)(t:Nat)(cr:RP)(dn:List RP)(pr:Option V),σ'=[some (.ref a),some v,some (.ref A.li),some (.int t),pr]/\iX C H' a A2 (vA zn w) n (kn++mo) (nI X5) (B+1+201*(R.length-t)) wQ x9 lo2 MX/\
    dA (kn++mo) X5 (R.take t++cr::dn)/\t<=R.length/\(vQ (R.take t).reverse cr).reverse++dn=sJ R p/\m'=t/\iY H H' (a::A.all) (a::A2.all)/\A2.li=A.li,λσ' H' h=>h,?_⟩
   have Y9:((t+1:Nat):Int)-1=(t:Nat):=by lia
   refine⟨_,rfl,a,A3.dx,_,rfl,c3.ob,rfl,_,rfl,_,rfl,_,_,rfl,rfl,A.li,_,((t+1:Nat):Int)-1,.int ma,rfl,rfl,dG.of hli,by rw[Y9];exact jm (uI la),_,rfl,_,rfl,A.li,_,((t+1:Nat):Int),.int mb,rfl,rfl,dG.of hli,jm (uI lb),
    a,A3,zn,w,n,kn++mo,nI yw,_,nu3,sh3,Y6,ke3,r,cr,ma,mb,rfl,c3,hn,by lia,ka,kb,λtt i4 j4 H4 A4 FA XT XU lo4 ke4 c4 UU XW Za UT el4=>?_⟩
   have Cb:=el4.trans XS
   have OU:H4 A.li=some (.lst ((nI yw).map V.int)):=by rw[<-Cb];exact c4.hli
   refine⟨_,rfl,tt,_,0,_,rfl,rfl,Bc.of Za,rfl,_,rfl,_,rfl,_,_,rfl,rfl,A.li,_,((t+1:Nat):Int)-1,.int ma,rfl,rfl,dG.of OU,by rw[Y9];exact jm (uI la),rfl,_,rfl,?_⟩
   have kaX:(kn++mo++FA)[ma]?=some r:=cy ka
   have hsl:=KU (c:=cr) hrt
   by_cases Zb:(cX 50 r cr).1=r
   ·rw[decide_eq_true (show V.int (i4:Int)=V.int (ma:Int)from congrArg V.int ((c4.inj UU kaX).mpr Zb))]
    refine vJ ?_
    have Rx:dA (kn++mo++FA) yw (sJ R p):=by
     rw[<-hT,hsl,if_pos Zb,reverse_cons,reverse_reverse,show R.take (t+1)++[cr]++dn=R.take (t+1)++cr::dn by rw[List.append_assoc];rfl]
     exact hL.pre
    have hli:=OU
    obtain⟨m1,r1,hm1,hm2,VM⟩:=Rx.last (by rw[wI];lia)
    rw[List.append_assoc]at c4 VM Rx
    refine⟨_,rfl,_,rfl,A.li,_,-1,_,rfl,rfl,dG.of hli,xf (wJ hm1),_,rfl,a,C,A4.dx,_,_,rfl,c4.ob,T.cl,T.no,Ra,rfl,_,rfl,?_⟩
    have hz2:(kn++(mo++FA))[zn]?=some (upTo n,upTo n):=cy hzn
    by_cases hq:r1=(upTo n,upTo n)
    ·rw[decide_eq_true (show V.int (m1:Int)=V.int (zn:Int)from congrArg V.int ((c4.inj VM hz2).mpr hq))]
     refine vJ ?_
     refine⟨_,rfl,.inl ⟨rfl,_,dG.of hli⟩,A.li,_,_,rfl,rfl,hli,Fb (wJ hm1),?_⟩
     rw[Fc,<-Cb]
     have hdr:dA (kn++(mo++FA)) yw.dropLast (fA n R p):=by
      unfold fA
      rw[if_pos (by rw[hm2,hq])]
      exact Rx.drop
     exact k _ A4 (mo++FA) yw.dropLast _ _ _ _ ((c4.B6 hdr.li).more (by lia)) hdr ((ug.trans UT).trans (iY.upd (mem_cons_of_mem _ (mem_append_left _ (by simp[Ad.hd]))) _))
    ·rw[decide_eq_false (show¬V.int (m1:Int)=V.int (zn:Int)from λe=>hq ((c4.inj VM hz2).mp (by injection e)))]
     refine uo ?_
     have hdr:dA (kn++(mo++FA)) yw (fA n R p):=by
      unfold fA
      rw[if_neg (by rw[hm2];exact λe=>hq (Option.some.inj e))]
      exact Rx
     exact k _ A4 (mo++FA) yw _ _ _ _ (c4.more (by lia)) hdr (ug.trans UT)
   ·rw[decide_eq_false (show¬V.int (i4:Int)=V.int (ma:Int)from λe=>Zb ((c4.inj UU kaX).mp (by injection e)))]
    refine uo ?_
    have lt1:t+1<yw.length:=(List.getElem?_eq_some_iff.mp lb).1
    have ixa:rR ((nI yw).map V.int).length (((t+1:Nat):Int)-1)=some t:=by
     unfold L2.rR
     rw[Y9,if_pos (by lia),if_pos (by rw[length_map,mQ];lia),toNat_natCast]
    refine⟨_,rfl,tt,_,0,_,rfl,rfl,Bc.of Za,rfl,_,rfl,_,rfl,_,_,rfl,rfl,A.li,_,_,t,rfl,rfl,OU,ixa,?_⟩
    have hLa:dA (kn++mo++FA) (yw.set t i4) ((R.take (t+1)++cr::dn).set t (cX 50 r cr).1):=hL.pre.set t UU
    have c5:=c4.B6 hLa.li
    rw[Cb,<-KS]at c5
    have MH:iY H (upd H4 A.li (.lst (((nI yw).map V.int).set t (.int i4)))) (a::A.all) (a::A4.all):=(ug.trans UT).trans (iY.upd (by rw[<-Cb];exact mem_cons_of_mem _ (mem_append_left _ (by simp[Ad.hd]))) _)
    have YS:(upd H4 A.li (.lst (((nI yw).map V.int).set t (.int i4)))) tt=some (.tup [.int i4,.int j4]):=by rw[aj (bX Za OU (by intro zz;cases zz))];exact Za
    generalize upd H4 A.li (.lst (((nI yw).map V.int).set t (.int i4)))=H5 at c5 MH YS
    have abN:H5 A.li=some (.lst ((nI (yw.set t i4)).map V.int)):=by rw[<-Cb];exact c5.hli
    have ixb:rR ((nI (yw.set t i4)).map V.int).length ((t+1:Nat):Int)=some (t+1):=by
     unfold L2.rR
     rw[if_pos (by lia),if_pos (by rw[length_map,mQ,length_set];lia),toNat_natCast]
    refine⟨_,rfl,tt,_,1,_,rfl,rfl,Bc.of YS,rfl,_,rfl,_,rfl,A.li,_,_,t+1,rfl,rfl,abN,ixb,?_⟩
    have Zc:=hLa.set (t+1) XW
    have c6:=c5.B6 Zc.li
    rw[Cb,<-KS]at c6
    have Y2:iY H (upd H5 A.li (.lst (((nI (yw.set t i4)).map V.int).set (t+1) (.int j4)))) (a::A.all) (a::A4.all):=MH.trans (iY.upd (by rw[<-Cb];exact mem_cons_of_mem _ (mem_append_left _ (by simp[Ad.hd]))) _)
    refine⟨_,rfl,_,_,rfl,rfl,?_⟩
    have abO:((R.take (t+1)++cr::dn).set t (cX 50 r cr).1).set (t+1) (cX 50 r cr).2=R.take t++(cX 50 r cr).1::(cX 50 r cr).2::dn:=by
     rw[etk,List.append_assoc,List.set_append_right _ _ (by lia),List.set_append_right _ _ (by lia),ltk,sub_self,show t+1-t=1 by lia]
     rfl
    rw[abO]at Zc
    rw[List.append_assoc]at c6 Zc
    dsimp only
    rw[Y9]
    refine⟨t,by lia,A4,mo++FA,XT,XU,lo4,ke4,_,t,(cX 50 r cr).1,(cX 50 r cr).2::dn,_,rfl,c6.more (by lia),Zc,by lia,?_,rfl,Y2,Cb⟩
    rw[<-hT,hsl,if_neg Zb,reverse_cons,List.append_assoc]
    rfl
end
end DL.p7
namespace DL.p7
open PySem PySem.Spec PyProof.Rows L2 DL
abbrev FD:Stmt:=inClass (top 20) 7
def abP(K:PySem.W.Frag):TE:=ZQ (λxs H Q=>∃p ys,xs=[V.ref p]/\(dG K H p ys\/Bc K H p ys)/\∀l,H l=none->Q (.ref l) (upd H l (.lst ys))) (Qe (Wb (SJ K) (Wh K (Na 1) "known") (Na 0)) SG)
noncomputable def Ry(K:PySem.W.Frag)(C:Addr):Sp:=λvs H Q _=>∃(a:Addr)(A:Ad)(z:Int)(wn n:Nat)(kn:List RP)(ls:List Nat)(R:List RP)(B:Nat)(nu sh lo ke:List (List Key×V)),
 vs=[.ref a]/\iX C H a A (vA z wn) n kn (nI ls) B nu sh lo ke/\dA kn ls R/\kn[wn]?=some (eB n)/\R.length<=1000/\∀(v:V)(H':Hp),aO H H'->Is K (λx=>H x=none) H' (vB n R) v->Q v H'
section
variable{P:Program}{w:World}{K:PySem.W.Frag}{mg:Str->Option Value}{base:Heap}
theorem sc7:aC ["self","many"] ["self"] (ae FD):=⟨rfl,rfl,rfl,by decide +kernel,rfl,by decide +kernel,by decide +kernel⟩
theorem X6{f C:Addr}{fd:FuncData}(F:Bj K "form_told" "Comb.form_told" FD f fd)(T:MT K mg C):cO P w K mg base lK 1 f fd ["self"] (Ry K C):=by
 refine F.ok sc7 (λvs H Q E h=>?_) (λcdv A outer s H vs Q E hr h=>?_)
 ·obtain⟨a,A,z,wn,n,kn,ls,R,B,nu,sh,lo,ke,rfl,_⟩:=h
  rfl
 ·obtain⟨a,A,z,wn,n,kn,ls,R,B,nu,sh,lo,ke,rfl,c,hR,hwn,hRl,k⟩:=h
  have hu:=rV hr
  refine⟨_,aK (dO (i:=1) sc7.nd rfl (Or.inl rfl) ig)
   (aK (wZ PassesOwn.never (pw_and (j8 ve (pv 1) (kM nR (by rfl) T.Y1 cP (aD (bK (pv 0) rfl) aP)) (aF _)) (pw_and1 (j8 IL (i7 ed (bK (pv 0) rfl) (pv 1) (λ_ _=>rfl)) (bK (pv 0) rfl) (aF _)))).pt
    (cu (CZ (i:=1) sc7.nd rfl (Or.inl rfl) ig ID)))
   (cu (mB (uk (aD (pv 1) (aD (K3 (te:=abP K) (MP (N:=["number","self"]) (nt:=1) (caps:=[0]) (ae FD) ["self","many"] (by decide +kernel)) rfl (wg (Bf Ew (bK (pv 0) rfl) (Et (pv 1)) Es)) (λ_ _ _ _ _=>we (i:=0) (by show Nodup (["number","self"]:List Str);decide +kernel) rfl (Or.inl rfl)) (λ_ _ _ _ _=>by exact qw nS (by rfl) T.mli wA (aD (i7 ed (bK (pv 1) rfl) (pv 0) (λ_ _=>rfl)) aP))) aP)))))),?_⟩
  refine⟨λm σ H2=>∃i:Nat,σ=[some (.ref a),some (.int i)]/\H2=H/\i<=R.length/\(∀j<i,R[j]?=some (eB n))/\m=R.length-i,⟨R.length,0,rfl,rfl,zero_le _,λj hj=>absurd hj (Nat.not_lt_zero _),rfl⟩,?_⟩
  rintro m σ H2 ⟨i,rfl,rfl,hiR,hal,hm⟩
  refine⟨_,rfl,_,rfl,a,C,A.dx,_,_,rfl,c.ob,T.cl,T.li,B4,A.li,_,rfl,.inl (dG.of c.hli),_,_,rfl,rfl,_,rfl,?_⟩
  by_cases hlt:i<R.length
  ·rw[decide_eq_true (show(i:Int)<(((nI ls).map V.int).length:Nat)by rw[length_map,mQ,hR.len];lia)]
   refine vJ ?_
   obtain⟨mi,hm1,hm2⟩:=hR.at (getElem?_eq_getElem hlt)
   refine⟨_,rfl,a,C,A.dx,_,_,rfl,c.ob,T.cl,T.li,B4,_,rfl,A.li,_,i,.int mi,rfl,rfl,dG.of c.hli,jm (uI hm1),_,rfl,a,C,A.dx,_,_,rfl,c.ob,T.cl,T.wh,Xz,rfl,_,rfl,?_⟩
   by_cases he:R[i]=eB n
   ·rw[decide_eq_true (show V.int (mi:Int)=V.int (wn:Int)from congrArg V.int ((c.inj hm2 hwn).mpr he))]
    refine vJ ?_
    refine⟨λσ' H'=>∃m'<m,∃i:Nat,σ'=[some (.ref a),some (.int i)]/\H'=H2/\i<=R.length/\(∀j<i,R[j]?=some (eB n))/\m'=R.length-i,λ_ _ h=>h,_,rfl,_,_,rfl,rfl,R.length-(i+1),by lia,i+1,rfl,rfl,hlt,λj hj=>?_,rfl⟩
    by_cases hji:j<i
    ·exact hal j hji
    ·have:j=i:=by lia
     subst this
     rw[getElem?_eq_getElem hlt,he]
   ·rw[decide_eq_false (show¬V.int (mi:Int)=V.int (wn:Int)from λe=>he ((c.inj hm2 hwn).mp (by injection e)))]
    refine uo ?_
    have hcn:eg n R=i:=B7 hal (by rw[getElem?_eq_getElem hlt];exact λe=>he (Option.some.inj e))
    have UW:yB ((nI ls).map V.int) (some (i:Int)) none=(nI (ls.drop i)).map V.int:=by
     unfold yB nI
     rw[j9 _ _ _ (by lia),pJ,toNat_natCast,length_map,length_map,hR.len,min_eq_left hiR,map_drop,map_drop]
     refine take_of_length_le ?_
     rw[length_drop,length_map,length_map,hR.len]
     exact Nat.le_refl _
    refine⟨_,rfl,_,rfl,a,C,A.dx,_,_,rfl,c.ob,T.cl,T.li,B4,_,rfl,_,rfl,A.li,_,rfl,dG.of c.hli,λq hq=>?_⟩
    rw[UW]
    have s1:=aQ hq (.lst ((nI (ls.drop i)).map V.int))
    have hq1:(upd H2 q (.lst ((nI (ls.drop i)).map V.int))) q=some (.lst ((nI (ls.drop i)).map V.int)):=au
    generalize upd H2 q (.lst ((nI (ls.drop i)).map V.int))=H1 at s1 hq1
    have UX:dA kn (ls.drop i) (R.drop i):=by
     unfold dA
     rw[map_drop,map_drop,show ls.map (λm=>kn[m]?)=R.map some from hR]
    refine⟨q,rfl,⟨_,dG.of hq1⟩,q,_,[.ref a],rfl,dG.of hq1,rfl,λj i' v e1 e2=>?_,λDd hD=>?_⟩
    ·match j with
     |0=>
      have z1:0=i':=by simpa using e1
      have z2:V.ref a=v:=by simpa using e2
      subst z1 z2
      rfl
     |j+1=>simp at e1
    ·refine⟨λj acc Hx=>∃as:List Addr,acc=as.map V.ref/\as.length=j/\j<=(R.drop i).length/\aO H1 Hx/\Hx Dd=some (.lst acc)/\(∀b∈as,H1 b=none/\b≠Dd)/\∀(k:Nat)(b:Addr)(r:RP),as[k]?=some b->(R.drop i)[k]?=some r->Hx b=some (.lst (r.1.map V.int)),⟨[],rfl,rfl,zero_le _,aQ hD _,au,(λb hb=>nomatch hb),λk b r e=>by simp at e⟩,?_,?_,?_⟩
     ·rintro j acc Hx ⟨as,rfl,_,_,sx,HF,_⟩
      exact⟨dG.of (sx _ _ hq1),HF⟩
     ·rintro j acc Hx x ⟨as,rfl,hj,UY,sx,HF,hnew,hat⟩ hx
      have hjr:j<(ls.drop i).length:=by
       have:=(List.getElem?_eq_some_iff.mp hx).1
       rwa [length_map,mQ]at this
      have OV:j<(R.drop i).length:=by rw[<-UX.len];exact hjr
      obtain⟨m,hm1,hm2⟩:=UX.at (getElem?_eq_getElem OV)
      rw[uI hm1]at hx
      cases hx
      have cx:=c.same (s1.trans sx)
      have Oc:m<A.ks.length:=by rw[c.B3];exact(List.getElem?_eq_some_iff.mp hm2).1
      have hb:=cx.hks m A.ks[m] _ (getElem?_eq_getElem Oc) hm2
      refine⟨_,rfl,a,C,A.dx,_,_,rfl,cx.ob,T.cl,T.kn,zr,_,rfl,A.kn,A.ks.map V.ref,m,.ref A.ks[m],rfl,rfl,dG.of cx.hkn,jm (by rw[getElem?_map,getElem?_eq_getElem Oc];rfl),A.ks[m],_,rfl,.inl (dG.of hb),λl2 hl2=>?_⟩
      have UZ:Dd≠l2:=λzz=>by rw[<-zz,HF]at hl2;cases hl2
      have hl1:H1 l2=none:=sx.free hl2
      refine⟨by rw[aj UZ];exact HF,by rw[length_map,hj];exact lt_of_lt_of_le (show j<1000001 by rw[length_drop]at OV;lia) (by decide),as++[l2],by rw[map_append];rfl,by rw[length_append,hj];rfl,OV,?_,au,λb ML=>?_,λk' b r e1 e2=>?_⟩
      ·intro y o hy
       have hyD:y≠Dd:=λzz=>by rw[zz,hD]at hy;cases hy
       rw[aj hyD]
       exact aQ hl2 _ _ _ (sx _ _ hy)
      ·rcases mem_append.mp ML with h|h
       ·exact hnew b h
       ·have:b=l2:=by simpa using h
        rw[this];exact⟨hl1,Ne.symm UZ⟩
      ·by_cases hk:k'<as.length
       ·rw[getElem?_append_left hk]at e1
        have Wv:=hat k' b r e1 e2
        rw[aj (hnew b (mem_of_getElem? e1)).2]
        exact aQ hl2 _ _ _ Wv
       ·obtain⟨z1,z2⟩:=p4 e1 hk
        rw[hj]at z1
        rw[z1,getElem?_eq_getElem OV]at e2
        cases e2
        rw[<-z2,aj (Ne.symm UZ)]
        exact au
     ·rintro acc Hx ⟨as,rfl,hj,UY,sx,HF,hnew,hat⟩
      refine⟨(by show 2<=sizeLine;decide),λpt X7=>?_⟩
      have st:=aQ X7 (.tup [V.int i,V.ref Dd])
      have hlen:as.length=((R.drop i).map (·.1)).length:=by
       rw[hj,length_map,mQ,length_map]
       exact UX.len
      have hD0:H2 Dd=none:=s1.free hD
      refine k _ _ ((s1.trans sx).trans st) ?_
      unfold vB
      rw[hcn]
      refine⟨pt,_,rfl,.inl ⟨(s1.trans sx).free X7,.inl au⟩,_,_,rfl,rfl,_,_,rfl,⟨Dd,_,rfl,.inl ⟨hD0,.inl (st _ _ HF)⟩,?_⟩,rfl⟩
      have:=si (K:=K) (P:=λx=>H2 x=none) (H:=upd Hx pt (.tup [V.int i,V.ref Dd])) hlen (λb hb=>s1.free (hnew b hb).1) λk' b ns e1 e2=>by
       rw[getElem?_map]at e2
       cases hr:(R.drop i)[k']? with
       |none=>rw[hr]at e2;cases e2
       |some r=>
        rw[hr]at e2
        cases e2
        exact st _ _ (hat k' b r e1 hr)
      rw[map_map]at this
      exact this
  ·rw[decide_eq_false (show¬(i:Int)<(((nI ls).map V.int).length:Nat)by rw[length_map,mQ,hR.len];lia)]
   refine uo ?_
   refine uo ?_
   have hcn:eg n R=i:=B7 hal (by rw[getElem?_eq_none (by lia)];exact λe=>nomatch e)
   have UW:yB ((nI ls).map V.int) (some (i:Int)) none=(nI (ls.drop i)).map V.int:=by
    unfold yB nI
    rw[j9 _ _ _ (by lia),pJ,toNat_natCast,length_map,length_map,hR.len,min_eq_left hiR,map_drop,map_drop]
    refine take_of_length_le ?_
    rw[length_drop,length_map,length_map,hR.len]
    exact Nat.le_refl _
   refine⟨_,rfl,_,rfl,a,C,A.dx,_,_,rfl,c.ob,T.cl,T.li,B4,_,rfl,_,rfl,A.li,_,rfl,dG.of c.hli,λq hq=>?_⟩
   rw[UW]
   have s1:=aQ hq (.lst ((nI (ls.drop i)).map V.int))
   have hq1:(upd H2 q (.lst ((nI (ls.drop i)).map V.int))) q=some (.lst ((nI (ls.drop i)).map V.int)):=au
   generalize upd H2 q (.lst ((nI (ls.drop i)).map V.int))=H1 at s1 hq1
   have UX:dA kn (ls.drop i) (R.drop i):=by
    unfold dA
    rw[map_drop,map_drop,show ls.map (λm=>kn[m]?)=R.map some from hR]
   refine⟨q,rfl,⟨_,dG.of hq1⟩,q,_,[.ref a],rfl,dG.of hq1,rfl,λj i' v e1 e2=>?_,λDd hD=>?_⟩
   ·match j with
    |0=>
     have z1:0=i':=by simpa using e1
     have z2:V.ref a=v:=by simpa using e2
     subst z1 z2
     rfl
    |j+1=>simp at e1
   ·refine⟨λj acc Hx=>∃as:List Addr,acc=as.map V.ref/\as.length=j/\j<=(R.drop i).length/\aO H1 Hx/\Hx Dd=some (.lst acc)/\(∀b∈as,H1 b=none/\b≠Dd)/\∀(k:Nat)(b:Addr)(r:RP),as[k]?=some b->(R.drop i)[k]?=some r->Hx b=some (.lst (r.1.map V.int)),⟨[],rfl,rfl,zero_le _,aQ hD _,au,(λb hb=>nomatch hb),λk b r e=>by simp at e⟩,?_,?_,?_⟩
    ·rintro j acc Hx ⟨as,rfl,_,_,sx,HF,_⟩
     exact⟨dG.of (sx _ _ hq1),HF⟩
    ·rintro j acc Hx x ⟨as,rfl,hj,UY,sx,HF,hnew,hat⟩ hx
     have hjr:j<(ls.drop i).length:=by
      have:=(List.getElem?_eq_some_iff.mp hx).1
      rwa [length_map,mQ]at this
     have OV:j<(R.drop i).length:=by rw[<-UX.len];exact hjr
     obtain⟨m,hm1,hm2⟩:=UX.at (getElem?_eq_getElem OV)
     rw[uI hm1]at hx
     cases hx
     have cx:=c.same (s1.trans sx)
     have Oc:m<A.ks.length:=by rw[c.B3];exact(List.getElem?_eq_some_iff.mp hm2).1
     have hb:=cx.hks m A.ks[m] _ (getElem?_eq_getElem Oc) hm2
     refine⟨_,rfl,a,C,A.dx,_,_,rfl,cx.ob,T.cl,T.kn,zr,_,rfl,A.kn,A.ks.map V.ref,m,.ref A.ks[m],rfl,rfl,dG.of cx.hkn,jm (by rw[getElem?_map,getElem?_eq_getElem Oc];rfl),A.ks[m],_,rfl,.inl (dG.of hb),λl2 hl2=>?_⟩
     have UZ:Dd≠l2:=λzz=>by rw[<-zz,HF]at hl2;cases hl2
     have hl1:H1 l2=none:=sx.free hl2
     refine⟨by rw[aj UZ];exact HF,by rw[length_map,hj];exact lt_of_lt_of_le (show j<1000001 by rw[length_drop]at OV;lia) (by decide),as++[l2],by rw[map_append];rfl,by rw[length_append,hj];rfl,OV,?_,au,λb ML=>?_,λk' b r e1 e2=>?_⟩
     ·intro y o hy
      have hyD:y≠Dd:=λzz=>by rw[zz,hD]at hy;cases hy
      rw[aj hyD]
      exact aQ hl2 _ _ _ (sx _ _ hy)
     ·rcases mem_append.mp ML with h|h
      ·exact hnew b h
      ·have:b=l2:=by simpa using h
       rw[this];exact⟨hl1,Ne.symm UZ⟩
     ·by_cases hk:k'<as.length
      ·rw[getElem?_append_left hk]at e1
       have Wv:=hat k' b r e1 e2
       rw[aj (hnew b (mem_of_getElem? e1)).2]
       exact aQ hl2 _ _ _ Wv
      ·obtain⟨z1,z2⟩:=p4 e1 hk
       rw[hj]at z1
       rw[z1,getElem?_eq_getElem OV]at e2
       cases e2
       rw[<-z2,aj (Ne.symm UZ)]
       exact au
    ·rintro acc Hx ⟨as,rfl,hj,UY,sx,HF,hnew,hat⟩
     refine⟨(by show 2<=sizeLine;decide),λpt X7=>?_⟩
     have st:=aQ X7 (.tup [V.int i,V.ref Dd])
     have hlen:as.length=((R.drop i).map (·.1)).length:=by
      rw[hj,length_map,mQ,length_map]
      exact UX.len
     have hD0:H2 Dd=none:=s1.free hD
     refine k _ _ ((s1.trans sx).trans st) ?_
     unfold vB
     rw[hcn]
     refine⟨pt,_,rfl,.inl ⟨(s1.trans sx).free X7,.inl au⟩,_,_,rfl,rfl,_,_,rfl,⟨Dd,_,rfl,.inl ⟨hD0,.inl (st _ _ HF)⟩,?_⟩,rfl⟩
     have:=si (K:=K) (P:=λx=>H2 x=none) (H:=upd Hx pt (.tup [V.int i,V.ref Dd])) hlen (λb hb=>s1.free (hnew b hb).1) λk' b ns e1 e2=>by
      rw[getElem?_map]at e2
      cases hr:(R.drop i)[k']? with
      |none=>rw[hr]at e2;cases e2
      |some r=>
       rw[hr]at e2
       cases e2
       exact st _ _ (hat k' b r e1 hr)
     rw[map_map]at this
     exact this
end
end DL.p7
namespace DL.p7
open PySem PySem.Spec PyProof.Rows L2 DL
abbrev D0:Stmt:=inClass (top 20) 0
def VN(i:Int):List (Str×V):=[("none",.int i)]
noncomputable def Rz(K:PySem.W.Frag)(C:Addr):Sp:=λvs H Q _=>∃(a dx:Addr)(n:Nat),vs=[.ref a,.int n]/\(1<=n/\n<=7)/\H a=some (.ins C dx [])/\(∃o,H dx=some o)/\a≠dx/\
 ∀(H':Hp)(A':Ad)(kn:List RP)(zn wn:Nat)(nu:List (List Key×V)),iX C H' a A' (vA zn wn) n kn (nI []) 2 nu [] [] []->kn[zn]?=some (upTo n,upTo n)->kn[wn]?=some (eB n)->(∀x u,x≠a->H x=some u->x≠dx->H' x=some u)->(∀x∈A'.all,x=dx\/H x=none)->(∀x,H' x=none->H x=none)->Q .non H'
section
variable{P:Program}{w:World}{K:PySem.W.Frag}{mg:Str->Option Value}{base:Heap}
theorem sc0:aC ["self","n"] ["self","n"] (ae D0):=⟨rfl,rfl,rfl,by decide +kernel,rfl,by decide +kernel,by decide +kernel⟩
theorem X8{f C fN:Addr}{fd Lj:FuncData}(F:Bj K "__init__" "Comb.__init__" D0 f fd)(T:MT K mg C)(t:Tb K mg)
  (mN:Meth K C "number_of" fN)(bN:Binds K Lj ["self","row"] [])(GN:cO P w K mg base lK 3 fN Lj ["self","row"] (Ca K C))
  (G_s:lI P w K mg base 1 t.jj t.jk ["n"] dE)(G_h:lI P w K mg base 1 t.Al t.Am ["n"] xC)
  (es:∀n:Nat,n<=7->dE [.int n]=.ok (aM (upTo n)))(eh:∀n:Nat,1<=n/\n<=7->xC [.int n]=.ok (aM (upTo n).reverse))(ivh:∀n:Nat,Iv n (upTo n).reverse (upTo n).reverse)(ivs:∀n:Nat,Iv n (upTo n) (upTo n)):cO P w K mg base lK 4 f fd ["self","n"] (Rz K C):=by
 refine F.ok sc0 (λvs H Q E h=>?_) (λcdv A outer s H vs Q E hr h=>?_)
 ·obtain⟨a,dx,n,rfl,_⟩:=h
  rfl
 ·obtain⟨a,dx,n,rfl,hn,hob,hdx,hne,k⟩:=h
  have hu:=rV hr
  refine⟨_,(aK (mC (pv 0) (um aP) rfl) (aK (mC (pv 0) rX rfl) (aK (mC (pv 0) (um aP) rfl) (aK (mC (pv 0) (um aP) rfl) (aK (mC (pv 0) rX rfl) (aK (mC (pv 0) rX rfl) (aK (mC (pv 0) rX rfl) (aK (mC (pv 0) (um aP) rfl) (aK (mC (pv 0) (jl (pv 0) T.cl mN GN (hr.mono (by decide)) bN .nil oV (aD (fq (E:=λ_ _ _=>False) G_s (hr.mono (by decide)) (by rfl) t.fU.m t.fU.F.kp t.fU.b .nil lR (aD (pv 1) aP)) aP)) rfl) (cu (mC (pv 0) (jl (pv 0) T.cl mN GN (hr.mono (by decide)) bN .nil oV (aD (fq (E:=λ_ _ _=>False) G_h (hr.mono (by decide)) (by rfl) t.xZ.m t.xZ.F.kp t.xZ.b .nil lR (aD (pv 1) aP)) aP)) rfl))))))))))),?_⟩
  refine⟨(by show 0<=sizeLine;decide),λl1 h1=>?_⟩
  obtain⟨ne1,X9,ob1,at1,Zd,MY⟩:=jK hob h1 (.lst []) "known"
  refine⟨_,rfl,a,C,dx,_,rfl,X9,T.cl,T.kn,(by show 0<1000;decide),?_⟩
  generalize hH1:upd (upd H l1 (.lst [])) a _=H1 at ob1 at1 Zd MY
  intro l2 h2
  obtain⟨ne2,Yb,XH,at2,OW,RA⟩:=jK ob1 h2 (.dT []) "numbers"
  refine⟨_,rfl,a,C,dx,_,rfl,Yb,T.cl,T.nu,(by show 1<1000;decide),?_⟩
  generalize hH2:upd (upd H1 l2 (.dT [])) a _=H2 at XH at2 OW RA
  refine⟨(by show 0<=sizeLine;decide),λl3 h3=>?_⟩
  obtain⟨ne3,Yc,XI,U0,FE,U1⟩:=jK XH h3 (.lst []) "firsts"
  refine⟨_,rfl,a,C,dx,_,rfl,Yc,T.cl,T.fi,(by show 2<1000;decide),?_⟩
  generalize MU:upd (upd H2 l3 (.lst [])) a _=H3 at XI U0 FE U1
  refine⟨(by show 0<=sizeLine;decide),λl4 h4=>?_⟩
  obtain⟨ne4,Yd,ob4,VO,Cc,VP⟩:=jK XI h4 (.lst []) "lasts"
  refine⟨_,rfl,a,C,dx,_,rfl,Yd,T.cl,T.la,(by show 3<1000;decide),?_⟩
  generalize hH4:upd (upd H3 l4 (.lst [])) a _=H4 at ob4 VO Cc VP
  intro l5 h5
  obtain⟨ne5,Ye,ob5,Yg,A6,Yh⟩:=jK ob4 h5 (.dT []) "shorter"
  refine⟨_,rfl,a,C,dx,_,rfl,Ye,T.cl,T.sh,(by show 4<1000;decide),?_⟩
  generalize hH5:upd (upd H4 l5 (.dT [])) a _=H5 at ob5 Yg A6 Yh
  intro l6 h6
  obtain⟨Ze,Yi,Y3,Zf,Cd,Zg⟩:=jK ob5 h6 (.dT []) "longer"
  refine⟨_,rfl,a,C,dx,_,rfl,Yi,T.cl,T.lo,(by show 5<1000;decide),?_⟩
  generalize MV:upd (upd H5 l6 (.dT [])) a _=H6 at Y3 Zf Cd Zg
  intro l7 h7
  obtain⟨ne7,Yj,ob7,at7,FG,gr7⟩:=jK Y3 h7 (.dT []) "kept"
  refine⟨_,rfl,a,C,dx,_,rfl,Yj,T.cl,T.ke,(by show 6<1000;decide),?_⟩
  generalize hH7:upd (upd H6 l7 (.dT [])) a _=H7 at ob7 at7 FG gr7
  refine⟨(by show 0<=sizeLine;decide),λl8 h8=>?_⟩
  obtain⟨ne8,Yk,Zh,at8,OY,gr8⟩:=jK ob7 h8 (.lst []) "line"
  refine⟨_,rfl,a,C,dx,_,rfl,Yk,T.cl,T.li,(by show 7<1000;decide),?_⟩
  generalize hH8:upd (upd H7 l8 (.lst [])) a _=H8 at Zh at8 OY gr8
  have v1:H8 l1=some (.lst []):=(OY _ _ ne1 (FG _ _ ne1 (Cd _ _ ne1 (A6 _ _ ne1 (Cc _ _ ne1 (FE _ _ ne1 (OW _ _ ne1 at1)))))))
  have v2:H8 l2=some (.dT []):=(OY _ _ ne2 (FG _ _ ne2 (Cd _ _ ne2 (A6 _ _ ne2 (Cc _ _ ne2 (FE _ _ ne2 at2))))))
  have v3:H8 l3=some (.lst []):=(OY _ _ ne3 (FG _ _ ne3 (Cd _ _ ne3 (A6 _ _ ne3 (Cc _ _ ne3 U0)))))
  have v4:H8 l4=some (.lst []):=(OY _ _ ne4 (FG _ _ ne4 (Cd _ _ ne4 (A6 _ _ ne4 VO))))
  have v5:H8 l5=some (.dT []):=(OY _ _ ne5 (FG _ _ ne5 (Cd _ _ ne5 Yg)))
  have v6:H8 l6=some (.dT []):=(OY _ _ Ze (FG _ _ Ze Zf))
  have v7:H8 l7=some (.dT []):=(OY _ _ ne7 at7)
  have v8:H8 l8=some (.lst []):=at8
  have kp:∀x u,x≠a->H x=some u->H8 x=some u:=λx u hn hx=>(OY _ _ hn (FG _ _ hn (Cd _ _ hn (A6 _ _ hn (Cc _ _ hn (FE _ _ hn (OW _ _ hn (Zd _ _ hn hx))))))))
  have gr:∀x,H8 x=none->H x=none:=λx hx=>(MY _ (RA _ (U1 _ (VP _ (Yh _ (Zg _ (gr7 _ (gr8 _ hx))))))))
  have f1:H l1=none:=h1
  have f2:H l2=none:=(MY _ h2)
  have f3:H l3=none:=(MY _ (RA _ h3))
  have f4:H l4=none:=(MY _ (RA _ (U1 _ h4)))
  have f5:H l5=none:=(MY _ (RA _ (U1 _ (VP _ h5))))
  have f6:H l6=none:=(MY _ (RA _ (U1 _ (VP _ (Yh _ h6)))))
  have f7:H l7=none:=(MY _ (RA _ (U1 _ (VP _ (Yh _ (Zg _ h7))))))
  have f8:H l8=none:=(MY _ (RA _ (U1 _ (VP _ (Yh _ (Zg _ (gr7 _ h8)))))))
  have abW:l1≠l2:=aA at1 h2
  have abX:l1≠l3:=aA (OW _ _ ne1 at1) h3
  have abY:l2≠l3:=aA at2 h3
  have abZ:l1≠l4:=aA (FE _ _ ne1 (OW _ _ ne1 at1)) h4
  have ab0:l2≠l4:=aA (FE _ _ ne2 at2) h4
  have ab1:l3≠l4:=aA U0 h4
  have ab2:l1≠l5:=aA (Cc _ _ ne1 (FE _ _ ne1 (OW _ _ ne1 at1))) h5
  have ab3:l2≠l5:=aA (Cc _ _ ne2 (FE _ _ ne2 at2)) h5
  have ab4:l3≠l5:=aA (Cc _ _ ne3 U0) h5
  have ab5:l4≠l5:=aA VO h5
  have ab6:l1≠l6:=aA (A6 _ _ ne1 (Cc _ _ ne1 (FE _ _ ne1 (OW _ _ ne1 at1)))) h6
  have ab7:l2≠l6:=aA (A6 _ _ ne2 (Cc _ _ ne2 (FE _ _ ne2 at2))) h6
  have ab8:l3≠l6:=aA (A6 _ _ ne3 (Cc _ _ ne3 U0)) h6
  have ab9:l4≠l6:=aA (A6 _ _ ne4 VO) h6
  have aca:l5≠l6:=aA Yg h6
  have acb:l1≠l7:=aA (Cd _ _ ne1 (A6 _ _ ne1 (Cc _ _ ne1 (FE _ _ ne1 (OW _ _ ne1 at1))))) h7
  have acd:l2≠l7:=aA (Cd _ _ ne2 (A6 _ _ ne2 (Cc _ _ ne2 (FE _ _ ne2 at2)))) h7
  have ace:l3≠l7:=aA (Cd _ _ ne3 (A6 _ _ ne3 (Cc _ _ ne3 U0))) h7
  have acf:l4≠l7:=aA (Cd _ _ ne4 (A6 _ _ ne4 VO)) h7
  have acg:l5≠l7:=aA (Cd _ _ ne5 Yg) h7
  have ach:l6≠l7:=aA Zf h7
  have aci:l1≠l8:=aA (FG _ _ ne1 (Cd _ _ ne1 (A6 _ _ ne1 (Cc _ _ ne1 (FE _ _ ne1 (OW _ _ ne1 at1)))))) h8
  have acj:l2≠l8:=aA (FG _ _ ne2 (Cd _ _ ne2 (A6 _ _ ne2 (Cc _ _ ne2 (FE _ _ ne2 at2))))) h8
  have ack:l3≠l8:=aA (FG _ _ ne3 (Cd _ _ ne3 (A6 _ _ ne3 (Cc _ _ ne3 U0)))) h8
  have acm:l4≠l8:=aA (FG _ _ ne4 (Cd _ _ ne4 (A6 _ _ ne4 VO))) h8
  have acn:l5≠l8:=aA (FG _ _ ne5 (Cd _ _ ne5 Yg)) h8
  have aco:l6≠l8:=aA (FG _ _ Ze Zf) h8
  have acp:l7≠l8:=aA at7 h8
  have vd:∃o,H8 dx=some o:=by
   obtain⟨o,ho⟩:=hdx
   exact⟨o,kp _ _ (Ne.symm hne) ho⟩
  have RB:∀{l:Addr},H l=none->l≠dx:=λhl z=>by
   obtain⟨o,ho⟩:=hdx
   rw[<-z,hl]at ho
   cases ho
  have c:iX C H8 a ⟨dx,l1,l2,l3,l4,l5,l6,l7,l8,[]⟩ [] n [] [] 0 [] [] [] []:=by
   refine⟨Zh,vd,?_,v1,rfl,(λi b p e=>by simp at e),v2,v3,v4,v5,v6,v7,v8,(λp hp=>by simp at hp),(λi p e=>by simp at e),(λr _=>rfl),(λi k v e=>by cases e),(λi k v e=>by cases e),(λi j v e=>by cases e),⟨Nat.le_refl _,Nat.le_refl _,Nat.le_refl _,Nat.le_refl _,Nat.le_refl _⟩,(λm hm=>by simp at hm)⟩
   show(a::dx::l1::l2::l3::l4::l5::l6::l7::l8::[]).Nodup
   simp only [nodup_cons,mem_cons,not_mem_nil,or_false,not_or,not_false_eq_true,List.nodup_nil,and_true]
   exact⟨⟨hne,Ne.symm ne1,Ne.symm ne2,Ne.symm ne3,Ne.symm ne4,Ne.symm ne5,Ne.symm Ze,Ne.symm ne7,Ne.symm ne8⟩,⟨Ne.symm (RB f1),Ne.symm (RB f2),Ne.symm (RB f3),Ne.symm (RB f4),Ne.symm (RB f5),Ne.symm (RB f6),Ne.symm (RB f7),Ne.symm (RB f8)⟩,⟨abW,abX,abZ,ab2,ab6,acb,aci⟩,⟨abY,ab0,ab3,ab7,acd,acj⟩,⟨ab1,ab4,ab8,ace,ack⟩,⟨ab5,ab9,acf,acm⟩,⟨aca,acg,acn⟩,⟨ach,aco⟩,acp⟩
  generalize Zh=Zh at c
  clear X9 Yb Yc Yd Ye Yi Yj Yk
  have frF:∀x∈(⟨dx,l1,l2,l3,l4,l5,l6,l7,l8,[]⟩:Ad).all,x=dx\/H x=none:=λx hx=>by
   unfold Ad.all Ad.hd at hx
   simp only [append_nil,mem_cons,not_mem_nil,or_false]at hx
   rcases hx with rfl|rfl|rfl|rfl|rfl|rfl|rfl|rfl|rfl
   ·exact .inl rfl
   ·exact .inr f1
   ·exact .inr f2
   ·exact .inr f3
   ·exact .inr f4
   ·exact .inr f5
   ·exact .inr f6
   ·exact .inr f7
   ·exact .inr f8
  generalize (⟨dx,l1,l2,l3,l4,l5,l6,l7,l8,[]⟩:Ad)=A at c frF
  refine⟨_,rfl,a,A.dx,_,rfl,c.ob,rfl,_,rfl,λ_=>True,[.int n],⟨_,_,rfl,rfl,rfl⟩,?_⟩
  rw[es n hn.2]
  intro q ws H9 s9 hq9 hw9 iw9
  have ew:=jn iw9
  subst ew
  have c9:=c.same s9
  have nF:∀{Hx Hy:Hp}{Ax:Ad}{y:Addr}{exx:List (Str×V)}{knn:List RP}{lnn:List Int}{BB:Nat}{nn ss ll kk:List (List Key×V)},iX C Hx a Ax exx n knn lnn BB nn ss ll kk->Hx y=none->y∉a::Ax.all:=λcx hy hx=>by
   obtain⟨o,ho⟩:=cx.there hx
   rw[hy]at ho
   cases ho
  refine⟨a,A,[],n,[],[],0,[],[],[],[],(upTo n,upTo n),.ref q,rfl,c9,hn.2,by decide,ivs n,⟨q,_,rfl,.inl ⟨nF (Hy:=H9) c hq9,.inl hw9⟩,cC _⟩,λi1 Bx A1 X3 X4 c10 hi1 Ar VL=>?_⟩
  refine⟨_,rfl,a,C,A1.dx,_,rfl,c10.ob,T.cl,T.no,(by show 8<1000;decide),?_⟩
  have Zi:=c10.Rb (VN i1)
  have Ym:iY H8 (upd Bx a (.ins C A1.dx (vO A1++(VN i1)))) (a::A.all) (a::A1.all):=((iY.same s9 _).trans Ar).trans (iY.upd mem_cons_self _)
  rw[show kL ("none":Str) (.int (i1:Int)) (vO A1++[])=vO A1++(VN i1)from rfl]
  generalize upd Bx a (.ins C A1.dx (vO A1++(VN i1)))=Vy at Zi Ym
  refine⟨_,rfl,a,A1.dx,_,rfl,Zi.ob,rfl,_,rfl,λ_=>True,[.int n],⟨_,_,rfl,rfl,rfl⟩,?_⟩
  rw[eh n hn]
  intro q2 ws2 H12 NV acr acs acu
  have ew2:=jn acu
  subst ew2
  have c12:=Zi.same NV
  refine⟨a,A1,(VN i1),n,[]++X3,[],1,X4,[],[],[],eB n,.ref q2,rfl,c12,hn.2,by decide,ivh n,⟨q2,_,rfl,.inl ⟨nF (Hy:=H12) Zi acr,.inl acs⟩,cC _⟩,λi2 H13 A2 mo2 wQ c13 hi2 DZ VJ=>?_⟩
  refine⟨_,rfl,a,C,A2.dx,_,rfl,c13.ob,T.cl,T.wh,(by show 9<1000;decide),?_⟩
  have c14:=c13.Rb (vA i1 i2)
  rw[show kL ("whole":Str) (.int (i2:Int)) (vO A2++(VN i1))=vO A2++vA i1 i2 from rfl]
  have U3:iY H8 (upd H13 a (.ins C A2.dx (vO A2++vA i1 i2))) (a::A.all) (a::A2.all):=((Ym.trans (iY.same NV _)).trans DZ).trans (iY.upd mem_cons_self _)
  refine k _ A2 ([]++X3++mo2) i1 i2 wQ c14 (cy hi1) hi2 (λx u hx h1 h2=>?_) (λx hx=>?_) (λx hx=>gr x (U3.gr x hx))
  ·refine U3.kp x u (λhm=>?_) (kp x u hx h1)
   rcases mem_cons.mp hm with z|z
   ·exact hx z
   ·rcases frF x z with z|z
    ·exact h2 z
    ·rw[z]at h1;cases h1
  ·rcases U3.nw x (mem_cons_of_mem _ hx)with z|z
   ·rcases mem_cons.mp z with z|z
    ·rw[z]at hx
     exact absurd hx (nodup_cons.mp c14.nd).1
    ·exact frF x z
   ·exact .inr (gr x z)
end
end DL.p7
namespace DL.p7
open PySem PySem.Spec PyProof.Rows L2 DL
theorem U4{α:Type}(r:R α)(c:Str):r.ne≠.err c:=by cases r<;>exact λz=>nomatch z
structure CbM(P:Program)(w:World)(K:PySem.W.Frag)(mg:Str->Option Value)(base:Heap)(C:Addr) where
 fI:Addr
 dI:FuncData
 fP:Addr
 dP:FuncData
 fT:Addr
 dT:FuncData
 M:Mk K C fI
 bI:Binds K dI ["self","n"] []
 GI:cO P w K mg base lK 4 fI dI ["self","n"] (Rz K C)
 mP:Meth K C "put" fP
 bP:Binds K dP ["self","row"] []
 GP:cO P w K mg base lK 7 fP dP ["self","row"] (Rw K C)
 mT:Meth K C "form_told" fT
 bT:Binds K dT ["self"] []
 GT:cO P w K mg base lK 1 fT dT ["self"] (Ry K C)
section
variable{P:Program}{w:World}{K:PySem.W.Frag}{mg:Str->Option Value}{base:Heap}
theorem U5{C:Addr}(T:MT K mg C)(Z:CbM P w K mg base C)(t:Tb K mg)(G_r:VE P w K mg base 3 t.dB t.dC ["steps"] bp):
  Ok P w K mg base 9 t.gJ t.gK ["n","steps"] eO:=by
 refine t.jT.F.ok fy (λvs H Q E h=>?_) (λcdv A outer s H vs Q E hr h=>?_)
 ·obtain⟨Pa,ds,i,h⟩:=h
  match ds,h with
  |[.int n,d],h=>
   obtain⟨v,r,rfl,_,v',r',rfl,_,e⟩:=i
   have e':r'=[]:=e
   subst e'
   rfl
 ·obtain⟨Pa,ds,i,h⟩:=h
  obtain⟨n,d,rfl⟩:∃n d,ds=[.int n,d]:=by
   match ds,h with
   |[.int n,d],h=>exact⟨n,d,rfl⟩
  obtain⟨v0,r0,rfl,i0,v1,r1,rfl,i1,e2⟩:=i
  have Vv:r1=[]:=e2
  have e0':v0=.int n:=i0
  subst Vv e0'
  cases em:eO [.int n,d]with
  |bad=>rw[em]at h;exact h.elim
  |err c=>exact absurd em (U4 _ c)
  |ok acv=>
  rw[em]at h
  have em':R.bind (bp [d]) (λrs=> @ite _ ((1<=n/\n<=7)/\rs.length<=40/\∀r∈rs,bF n.toNat r) (propDecidable _) (Fl [.val (.int n),.val d,.no,.no,.val (vB n.toNat (gB n.toNat rs))]>=>ah) .bad)=.ok acv:=R.bX em
  obtain⟨rs,hrs,Yn⟩:=R.fx em'
  by_cases hg:(1<=n/\n<=7)/\rs.length<=40/\∀r∈rs,bF n.toNat r
  case neg=>
   rw[if_neg hg]at Yn
   cases Yn
  case pos=>
  rw[if_pos hg]at Yn
  obtain⟨hn,agF,Yo⟩:=hg
  obtain⟨m,rfl⟩:∃m:Nat,n=m:=⟨n.toNat,by lia⟩
  rw[toNat_natCast]at Yn Yo
  have hu:=rV hr
  refine⟨_,aK (dO (i:=2) fy.nd rfl (Or.inl rfl) (Nu Z.M Z.GI (hr.mono (by decide)) (by rfl) T.mgC Z.bI .nil oV (aD (pv 0) aP)))
   (aK (IG PassesOwn.never rfl (wg (fq (E:=λ_ _ _=>False) G_r (hr.mono (by decide)) (by rfl) t.cj.m t.cj.F.kp t.cj.b .nil lR (aD (pv 1) aP))) (we (i:=3) fy.nd rfl (Or.inl rfl))
    (cu (ik (jl (pv 2) T.cl Z.mP Z.GP (hr.mono (by decide)) Z.bP .nil oV (aD (pv 3) aP)) rfl)))
   (aK (dO (i:=4) fy.nd rfl (Or.inl rfl) (IS (pv 2) T.cl Z.mT Z.GT (hr.mono (by decide)) Z.bT .nil oV))
   (bg (gu (E:=EN) (z4 (ao (aT bD aS (PE.aB (G3 (nD 4) (PE.aB cI))) (PE.aB (Xj rfl t.Lf (PE.ee (vm (MP (N:=["step"]) (nt:=1) (caps:=[]) (ae jh) ["n","steps","comb","row","found"] (by decide +kernel)) rfl (Bv (iL (nD 1))) (Kp.ok (yM (nt:=1) 0)) (λ_ _ _ _ _=>(xt 0 (by show Nodup (["step"]:List Str);decide +kernel))) (λ_ _ _ _ _=>Ql) (λ_ _ _ _ _=>(G3 (nD 0) (PE.aB cI)))))))) (ao (G3 (nD 4) (PE.aB cI)) br))))))),?_⟩
  refine⟨_,rfl,λx dx hx hdx hne=>?_⟩
  refine⟨x,dx,m,rfl,by lia,au,⟨_,by rw[aj hne];exact au⟩,Ne.symm hne,λH1 A1 Zj zn wn X4 c1 hz1 hw1 Zd nw1 MY=>⟨rfl,?_⟩⟩
  have s01:aO H H1:=λy u hy=>by
   have hyx:y≠x:=λz=>by rw[z,hx]at hy;cases hy
   have hyd:y≠dx:=λz=>by rw[z,hdx]at hy;cases hy
   exact Zd y u hyx (by rw[aj hyx,aj hyd];exact hy) hyd
  have nF1:∀y∈x::A1.all,H y=none:=λy hy=>by
   rcases mem_cons.mp hy with rfl|hy
   ·exact hx
   ·rcases nw1 y hy with rfl|hy
    ·exact hdx
    ·by_cases z1:y=x
     ·rw[z1];exact hx
     ·by_cases z2:y=dx
      ·rw[z2];exact hdx
      ·rw[aj z1,aj z2]at hy;exact hy
  refine⟨_,rfl,λ_=>True,[d],⟨_,_,rfl,(i1.same s01).weak,rfl⟩,?_⟩
  rw[hrs]
  intro la as H2 NV Yp
  have c2:=c1.same NV
  have hlen:=Yp.len
  have asF:∀b∈la::as,b∉x::A1.all:=λb hb hF=>by
   obtain⟨o,ho⟩:=c1.there hF
   rw[Yp.fr b hb]at ho
   cases ho
  refine⟨la,rfl,⟨_,dG.of Yp.ha⟩,II (K:=K) (a:=la) (xs:=as.map V.ref) (λi σ Hx=>∃(A2:Ad)(mo:List RP)(ls:List Nat)(B2:Nat)(wQ x9 lo2 MX:List (List Key×V))(rv:Option V),σ=[some (.int (m:Int)),some v1,some (.ref x),rv,none]/\iX C Hx x A2 (vA zn wn) m (Zj++mo) (nI ls) B2 wQ x9 lo2 MX/\
    dA (Zj++mo) ls (gB m (rs.take i))/\B2<=2+402*41*i/\i<=rs.length/\iY H2 Hx (x::A1.all) (x::A2.all)) ⟨A1,[],[],2,X4,[],[],[],none,rfl,by rw[append_nil];exact c2,rfl,by lia,zero_le _,iY.refl _ _⟩ ?_ ?_ ?_⟩
  ·rintro i σ Hx hi ⟨A2,mo,ls,B2,wQ,x9,lo2,MX,rv,rfl,c3,hL,hB,hir,ug⟩
   exact dG.of (ug.kp la _ (asF la (by simp)) Yp.ha)
  ·rintro i y σ Hx hy ⟨A2,mo,ls,B2,wQ,x9,lo2,MX,rv,rfl,c3,hL,hB,hir,ug⟩
   have hia:i<as.length:=by
    have:=(List.getElem?_eq_some_iff.mp hy).1
    rwa [length_map]at this
   have Yq:i<rs.length:=by rw[<-hlen];exact hia
   rw[getElem?_map,getElem?_eq_getElem hia]at hy
   cases hy
   have hr1:rs[i]?=some rs[i]:=getElem?_eq_getElem Yq
   have hb2:=Yp.it i as[i] rs[i] (getElem?_eq_getElem hia) hr1
   have hbF:=asF as[i] (mem_cons_of_mem _ (getElem_mem _))
   have hb3:=ug.kp _ _ hbF hb2
   have acx:as[i]∉x::A2.all:=λhF=>by
    rcases ug.nw _ hF with z|z
    ·exact hbF z
    ·rw[hb2]at z;cases z
   have hcl:=sL m (rs.take i) []
   have OZ:(gB m (rs.take i)).length<=40:=by
    unfold gB
    rw[length_nil,length_take]at hcl
    lia
   refine⟨_,rfl,x,A2.dx,_,rfl,c3.ob,rfl,_,rfl,x,A2,zn,wn,m,Zj++mo,ls,gB m (rs.take i),B2,wQ,x9,lo2,MX,(rs[i],wK rs[i]),.ref as[i],rfl,c3,hL,cy hz1,by lia,by lia,by lia,p6 (Yo _ (getElem_mem _)),⟨as[i],_,rfl,.inl ⟨acx,.inl hb3⟩,cC _⟩,λH4 A4 FA ls4 XT XU lo4 ke4 c4 hL4 UT=>?_⟩
   rw[List.append_assoc]at c4 hL4
   exact⟨A4,mo++FA,ls4,_,XT,XU,lo4,ke4,_,rfl,c4,by rw[HA hr1];exact hL4,by lia,Yq,ug.trans UT⟩
  ·rintro σ Hx ⟨A2,mo,ls,B2,wQ,x9,lo2,MX,rv,rfl,c3,hL,hB,hir,ug⟩
   rw[length_map,hlen,take_length]at hL
   have hcl:=sL m rs []
   have OZ:(gB m rs).length<=1000:=by
    unfold gB
    rw[length_nil]at hcl
    lia
   refine⟨_,rfl,x,A2.dx,_,rfl,c3.ob,rfl,x,A2,zn,wn,m,Zj++mo,ls,gB m rs,B2,wQ,x9,lo2,MX,rfl,c3,hL,cy hw1,OZ,λfv H5 s5 i5=>?_⟩
   have sHx:aO H Hx:=λy u hy=>ug.kp y u (λhF=>by rw[nF1 y hF]at hy;cases hy) (NV _ _ (s01 _ _ hy))
   have sH5:=sHx.trans s5
   refine⟨⟨Pa,H⟩,[.val (.int (m:Int)),.val d,.no,.no,.val (vB m (gB m rs))],[],⟨rfl,sH5,λi dd e=>?_,λi xs e=>?_,λi j xs ys b e=>?_,(λb hb=>nomatch hb),λi v e=>?_,Di.none λi w e=>?_⟩,?_⟩
   ·match i with
    |0=>cases e;exact⟨_,rfl,rfl⟩
    |1=>cases e;exact⟨_,rfl,Is.ext ⟨λa o p _=>⟨.inl p,λz=>nomatch z⟩,λa o _ q=>sH5 a o q⟩ _ _ i1⟩
    |2=>cases e
    |3=>cases e
    |4=>cases e;exact⟨_,rfl,Is.ext ⟨λa o p _=>⟨.inr (sHx.free p),λz=>nomatch z⟩,λa o _ q=>q⟩ _ _ i5⟩
    |i+5=>cases e
   ·match i with
    |0=>cases e
    |1=>cases e
    |2=>cases e
    |3=>cases e
    |4=>cases e
    |i+5=>cases e
   ·match i with
    |0=>cases e
    |1=>cases e
    |2=>cases e
    |3=>cases e
    |4=>cases e
    |i+5=>cases e
   ·match i with
    |0=>cases e
    |1=>cases e
    |2=>cases e
    |3=>cases e
    |4=>cases e
    |i+5=>cases e
   ·match i with
    |0=>cases e
    |1=>cases e
    |2=>cases e
    |3=>cases e
    |4=>cases e
    |i+5=>cases e
   ·obtain⟨o,ho,hv⟩:=R.fx Yn
    obtain⟨dd,hdd,ho2⟩:=R.fx (show R.bind _ (λv1=>R.ok (Out.rt v1))=.ok o from ho)
    cases ho2
    cases hv
    exact wz ho λv H' sH' iv'=>h v H' sH' (Is.ext ⟨λa o p _=>p.1,λa o _ q=>q⟩ _ _ iv')
end
end DL.p7
namespace DL
open PySem PySem.Spec PyProof.Rows L2
def eT:List Int->List Int->Option (List Int)
 |[],o=>some o
 |k::w,o=>if k<0\/aa o k.toNat<aa o (k-1).toNat then none else eT w (cZ o (k-1).toNat)
theorem kI{n a:Nat}{o w:List Int}:eT (((a:Int)+1)::w) o=if aa o (a+1)<aa o a then none else eT w (cZ o a):=by
 conv=>lhs;unfold eT
 rw[show((a:Int)+1).toNat=a+1 by lia,show((a:Int)+1-1).toNat=a by lia]
 by_cases h:aa o (a+1)<aa o a
 ·rw[if_pos (.inr h),if_pos h]
 ·rw[if_neg (by rintro(z|z);lia;exact h z),if_neg h]
def Ps(n:Nat)(w:List Int):Prop:=∀k∈w,∃a:Nat,k=(a:Int)+1/\a+1<n
def lJ(w o:List Int):List Int:=w.foldl (λo k=>cZ o (k-1).toNat) o
theorem FH(f:Int->Int):∀(l:List Int)(a:Nat),cZ (l.map f) a=(cZ l a).map f
 |[],a=>by cases a<;>rfl
 |[x],0=>rfl
 |[x],a+1=>by cases a<;>rfl
 |x::y::l,0=>rfl
 |x::y::l,a+1=>by
  show cZ (f x::map f (y::l)) (a+1)=_
  rw[rz,rz,FH f (y::l) a]
  rfl
theorem Lq{n a:Nat}(h:a+1<n):cZ (upTo n) a=(upTo n).map (sg a):=by
 refine aY (by rw[bQ,length_map]) λj hj=>?_
 rw[bQ,ak]at hj
 have e:=bq (r:=upTo n) (a:=a) (p:=j) (by rw[ak];exact hj)
 unfold rK at e
 rw[e,bB _ _ (by rw[ak];exact h),ar hj]
 unfold sg
 by_cases h1:j=a
 ·rw[if_pos h1,ar (by lia),if_pos (show(j:Int)=a by lia)]
  lia
 ·rw[if_neg h1,if_neg (show¬(j:Int)=a by lia)]
  by_cases h2:j=a+1
  ·rw[if_pos h2,ar (by lia),if_pos (show(j:Int)=a+1 by lia)]
  ·rw[if_neg h2,if_neg (show¬(j:Int)=a+1 by lia)]
theorem Au(f:Int->Int):∀(w o:List Int),lJ w (o.map f)=(lJ w o).map f
 |[],o=>rfl
 |k::w,o=>by
  show lJ w (cZ (o.map f) (k-1).toNat)=(lJ w (cZ o (k-1).toNat)).map f
  rw[FH,Au f w]
theorem qi(n:Nat):Iv n (upTo n) (upTo n):=⟨ak n,ak n,λp hp=>by rw[ar hp,toNat_natCast];exact⟨by lia,by lia,ar hp⟩,λp hp=>by rw[ar hp,toNat_natCast];exact⟨by lia,by lia,ar hp⟩⟩
theorem D1{n:Nat}:∀w:List Int,Ps n w->Iv n (lJ w.reverse (upTo n)) (lJ w (upTo n))
 |[],_=>qi n
 |k::w,h=>by
  obtain⟨a,rfl,ha⟩:=h k (by simp)
  have ih:=D1 w λx hx=>h x (by simp[hx])
  rw[reverse_cons]
  have e1:lJ (((a:Int)+1)::w) (upTo n)=rK (lJ w (upTo n)) a:=by
   show lJ w (cZ (upTo n) ((a:Int)+1-1).toNat)=_
   rw[show((a:Int)+1-1).toNat=a by lia,Lq ha,Au]
   rfl
  have e2:lJ (w.reverse++[(a:Int)+1]) (upTo n)=cZ (lJ w.reverse (upTo n)) a:=by
   unfold lJ
   rw[foldl_append]
   show cZ _ ((a:Int)+1-1).toNat=_
   rw[show((a:Int)+1-1).toNat=a by lia]
  rw[e1,e2]
  exact(ih.symm.step ha).symm
theorem RD{n:Nat}{o s:List Int}(h:Iv n o s){a:Nat}(ha:a+1<n):aa o a≠aa o (a+1):=λe=>by
 have:=h.symm.Il (v:=a) (w:=a+1) (by lia) ha e
 lia
theorem FI{n:Nat}{o s:List Int}(h:Iv n o s){a:Nat}(ha:a+1<n):gG (cZ o a)=gG o+1/\aa o a<aa o (a+1)\/gG (cZ o a)+1=gG o/\aa o (a+1)<aa o a:=by
 have e:=wG o a [] (by rw[h.lr];exact ha)
 have d:=RD h ha
 unfold gG
 by_cases c:aa o a<aa o (a+1)
 ·rw[if_neg (by lia),if_pos c]at e
  exact .inl ⟨by lia,c⟩
 ·rw[if_pos (by lia),if_neg c]at e
  exact .inr ⟨by lia,by lia⟩
theorem qj{n:Nat}:∀(w o s z:List Int),Ps n w->Iv n o s->eT w o=some z->z=lJ w o/\gG z=gG o+w.length
 |[],o,s,z,_,_,h=>by cases h;exact⟨rfl,rfl⟩
 |k::w,o,s,z,hw,hi,h=>by
  obtain⟨a,rfl,ha⟩:=hw k (by simp)
  rw[kI (n:=n)]at h
  split at h
  ·cases h
  ·rename_i hc
   obtain⟨e1,e2⟩:=qj w (cZ o a) (rK s a) z (λx hx=>hw x (by simp[hx])) (hi.symm.step ha).symm h
   have:=FI hi ha
   refine⟨?_,by rw[e2,length_cons];lia⟩
   rw[e1]
   show _=lJ w (cZ o ((a:Int)+1-1).toNat)
   rw[show((a:Int)+1-1).toNat=a by lia]
theorem Ce{n:Nat}:∀(w o s:List Int),Ps n w->Iv n o s->gG (lJ w o)<=gG o+w.length/\(gG (lJ w o)=gG o+w.length->eT w o=some (lJ w o))
 |[],o,s,_,_=>⟨Nat.le_refl _,λ_=>rfl⟩
 |k::w,o,s,hw,hi=>by
  obtain⟨a,rfl,ha⟩:=hw k (by simp)
  have e0:lJ (((a:Int)+1)::w) o=lJ w (cZ o a):=by
   show lJ w (cZ o ((a:Int)+1-1).toNat)=_
   rw[show((a:Int)+1-1).toNat=a by lia]
  obtain⟨e1,e2⟩:=Ce w (cZ o a) (rK s a) (λx hx=>hw x (by simp[hx])) (hi.symm.step ha).symm
  rw[kI (n:=n),e0,length_cons]
  rcases FI hi ha with⟨c1,c2⟩|⟨c1,c2⟩
  ·exact⟨by lia,λh=>by rw[if_neg (by lia)];exact e2 (by lia)⟩
  ·exact⟨by lia,λh=>by lia⟩
theorem O0:∀n:Nat,n<8->gG (upTo n)=0:=by decide +kernel
theorem Lr{n:Nat}{w z:List Int}(hw:Ps n w)(h:eT w (upTo n)=some z):eT w.reverse (upTo n)=some (lJ w.reverse (upTo n)):=by
 obtain⟨e1,e2⟩:=qj w _ _ z hw (qi n) h
 refine(Ce w.reverse (upTo n) (upTo n) (λk hk=>hw k (by simpa using hk)) (qi n)).2 ?_
 rw[xK (D1 w hw),<-e1,e2,length_reverse]
theorem FJ{n:Nat}{w z:List Int}(hw:Ps n w)(h:eT w (upTo n)=some z):Iv n z (lJ w.reverse (upTo n)):=by
 rw[(qj w _ _ z hw (qi n) h).1]
 exact(D1 w hw).symm
theorem zA:∀(w o:List Int)(k:Int),eT (w++[k]) o=(eT w o).bind λz=>eT [k] z
 |[],o,k=>rfl
 |x::w,o,k=>by
  rw[cons_append]
  unfold eT
  split
  ·rfl
  ·exact zA w _ k
theorem Iv.nd {n:Nat}{r s:List Int}(h:Iv n r s):s.Nodup:=by
 unfold Nodup
 rw[List.pairwise_iff_getElem]
 intro i j hi hj hij e
 rw[h.ls]at hi hj
 have e2:aa s i=aa s j:=by
  unfold aa
  rw[getElem?_eq_getElem,getElem?_eq_getElem]
  ·exact e
 have:=h.Il hi hj e2
 lia
theorem uP{n:Nat}{r s:List Int}(h:Iv n r s):bF n r:=by
 refine(List.perm_ext_iff_of_nodup h.symm.nd (xH n)).mpr λx=>?_
 rw[mem_upTo]
 constructor
 ·intro hx
  obtain⟨p,hp,rfl⟩:=getElem_of_mem hx
  rw[h.lr]at hp
  have:=h.rs p hp
  rw[show aa r p=r[p]by
   unfold aa
   rw[getElem?_eq_getElem]
   rfl]at this
  exact⟨this.1,this.2.1⟩
 ·rintro⟨h0,h1⟩
  have:=(h.idx (v:=x.toNat) (by lia)).1
  rwa [show((x.toNat:Nat):Int)=x by lia]at this
def fl(n:Nat)(l:List Int):List Int:=l.map λx=>(n:Int)-1-x
theorem oB(n:Nat)(l:List Int):(fl n l).length=l.length:=length_map _
theorem tN{n:Nat}{l:List Int}{p:Nat}(h:p<l.length):aa (fl n l) p=(n:Int)-1-aa l p:=by
 have:=dz h
 unfold fl
 conv=>lhs;unfold aa
 rw[getElem?_map,this]
 rfl
theorem fV{l:List Int}{p:Nat}(h:p<l.length):aa l.reverse p=aa l (l.length-1-p):=by
 unfold aa
 rw[getElem?_reverse h]
theorem RE(n:Nat):fl n (upTo n).reverse=upTo n:=by
 refine aY (by rw[oB,length_reverse]) λp hp=>?_
 rw[oB,length_reverse,ak]at hp
 rw[tN (by rw[length_reverse,ak];exact hp),fV (by rw[ak];exact hp),ak,ar (by lia),ar hp]
 lia
theorem Ls{n:Nat}{r:List Int}(h:bF n r):bF n (fl n r):=by
 have e:fl n (upTo n)=(upTo n).reverse:=by
  rw[<-RE n]
  unfold fl
  rw[map_reverse,reverse_reverse,<-map_reverse]
  congr 1
  have:=RE n
  unfold fl at this
  rw[this]
 exact(Perm.map _ h).trans (by
  show(fl n (upTo n)).Perm _
  rw[e]
  exact reverse_perm _)
theorem FN{n:Nat}{r:List Int}(h:bF n r):bF n r.reverse:=(reverse_perm r).trans h
theorem mx(n:Nat)(hn:n<=7):dE [.int n]=.ok (aM (upTo n)):=by
 unfold dE xB
 simp_all
 rw[G6 _ (by lia),toNat_natCast,Hw]
 dsimp [gx]
theorem HG{n:Nat}{r s:List Int}(h:Iv n r s)(hn:n<=7):sF [.lst (aM r)]=.ok (aM (fl n s)):=by
 unfold sF EZ
 simp_all
 rw[qC h hn]
 dsimp [iZ]
 rw[n9 (λk=>(n:Int)-1-k) s λk _=>⟨_,j0 _ _ _,rfl,by
  unfold xG jY
  dsimp [aW,h.lr]⟩]
 dsimp [R.n8]
 rw[bj (by rw[length_map,h.ls];lia)]
 dsimp [gx]
 rfl
theorem D2{n:Nat}{r:List Int}(h:r.length=n)(hn:n<=7):gz [.lst (aM r)]=.ok (aM (fl n r.reverse)):=by
 unfold gz rh
 simp_all [Aa,iZ]
 rw[n9 (λk=>(n:Int)-1-k) r.reverse λk _=>⟨_,j0 _ _ _,rfl,by
  unfold nq jY
  dsimp [aW,h]⟩]
 dsimp [R.n8]
 rw[bj (by rw[length_map,length_reverse];lia)]
 dsimp [gx]
 rfl
theorem Lu{b:D->DE->R Out}{x:D}{xs:List D}{e e':DE}(h:b x e=.ok (.nx e')):iB b (x::xs) e=iB b xs e':=by
 rw[iB,h];rfl
theorem uQ(gs:List (List Int))(c:List Int):BG (gs++[c]) (.int (-1))=.ok (gs.length,c):=by
 have hk:rR (gs++[c]).length (-1)=some gs.length:=by
  unfold L2.rR
  rw[if_neg (by decide),length_append,length_singleton,if_pos (by lia)]
  congr 1
  lia
 have hg:(gs++[c])[gs.length]?=some c:=by simp
 unfold BG
 simp_all only [hk,hg]
theorem FO{ix:Nat}{env:DE}{nss:List (List Int)}{k:Nat}{l:List Int}{v:Int}(h:l.length<1000):Ds ix env nss (k,l) (.int v)=.ok (.nx (env.set ix (.deep (Ct.ls (nss.set k (l++[v])))))):=if_pos (lt_of_lt_of_le h (by decide))
theorem FP{ix:Nat}{env:DE}{nss:List (List Int)}{ns:List Int}(h:nss.length<1000):JJ ix env nss ns=.ok (.nx (env.set ix (.deep (Ct.ls (nss++[ns]))))):=if_pos (lt_of_lt_of_le h (by decide))
theorem lq(nss:List (List Int))(r:DE):gS 0 (.deep (Ct.ls nss)::r)=.ok nss:=rfl
theorem lu(i:Nat)(a:Sl)(r:DE):gS (i+1) (a::r)=gS i r:=rfl
theorem Lv(nss:List (List Int))(r:DE):aV 0 (.deep (Ct.ls nss)::r)=.ok (.lst (nss.map λns=>.lst (aM ns))):=rfl
theorem U6{n:Nat}(hn:n<=7){o:List Int}(ho:o.length=n)(s0 s1 s3:Sl){a:Nat}(ha:a+1<n)(hc:¬aa o (a+1)<aa o a):lV (.int ((a:Int)+1)) [s0,s1,.own (aM o),s3]=.ok (.nx [s0,s1,.own (aM (cZ o a)),.val (.int ((a:Int)+1))]):=by
 unfold lV
 have h0:¬(a:Int)+1<0:=by lia
 simp_all only [j0,mS,mD,mF,gp,aN,reduceAdd,reduceSub,reduceEqDiff,reduceIte,ah,ai,aG,aH,aI,aJ,h0,decide_false]
 rw[jq (by lia) (by lia),jq (by lia) (by lia),show((a:Int)+1-1).toNat=a by lia,show((a:Int)+1).toNat=a+1 by lia]
 dsimp [hc,decide_false]
 rw[uG (by lia) (by lia)]
 dsimp
theorem Cf{n:Nat}(hn:n<=7)(s0 s1:Sl):∀(w o z:List Int)(s3:Sl),Ps n w->o.length=n->eT w o=some z->∃s3',iB lV (aM w) [s0,s1,.own (aM o),s3]=.ok (.nx [s0,s1,.own (aM z),s3'])
 |[],o,z,s3,_,_,h=>by cases h;exact⟨s3,rfl⟩
 |k::w,o,z,s3,hv,ho,h=>by
  obtain⟨a,rfl,ha⟩:=hv k (by simp)
  rw[kI (n:=n)]at h
  split at h
  ·cases h
  ·rename_i hc
   rw[<-nj,Lu (U6 hn ho s0 s1 s3 ha hc)]
   exact Cf hn s0 s1 w (cZ o a) z _ (λx hx=>hv x (by simp[hx])) (by rw[bQ,ho]) h
theorem zB{n:Nat}(hn:n<=7){w z:List Int}(hv:Ps n w)(h:eT w (upTo n)=some z):nA [.int n,.lst (aM w)]=.ok (aM z):=by
 unfold nA BV
 simp_all
 rw[mx n hn]
 dsimp
 obtain⟨s3,e⟩:=Cf hn (.val (.int n)) (.val (.lst (aM w))) w (upTo n) z .no hv (ak n) h
 rw[e]
 dsimp [gx]
def bU(l:List Int)(k:Int):List Int:=if l.getLast?=some (-k)then l.dropLast else l++[k]
def bG(s w:List Int):List Int:=w.foldl bU s
theorem ya(s a b:List Int):bG s (a++b)=bG (bG s a) b:=foldl_append
theorem tP:∀(w s:List Int),(bG s w).length<=s.length+w.length
 |[],s=>by simp[bG]
 |k::w,s=>by
  have:=tP w (bU s k)
  show(bG (bU s k) w).length<=_
  have h2:(bU s k).length<=s.length+1:=by
   unfold bU
   split
   ·rw[length_dropLast];lia
   ·simp
  rw[length_cons];lia
theorem yb(l:List Int):i6 l (-1)=l.getLast?:=by
 rw[List.getLast?_eq_getElem?]
 unfold L2.i6 L2.rR
 rw[if_neg (by decide)]
 cases l with
 |nil=>rfl
 |cons x r=>
  rw[if_pos (by simp;lia)]
  show(x::r)[(-1+((x::r).length:Int)).toNat]?=_
  congr 1
  simp;lia
theorem D3(w:List Int)(hw:w.length<=100000):nk [.lst (aM w)]=.ok (aM (bG [] w)):=by
 unfold nk zm
 simp_all
 obtain⟨s',e,hj⟩:=rG (S:=List Int×Sl) (b:=nZ) (λi s=>s.1=bG [] (w.take i))
  (λs=>[.val (.lst (aM w)),.own (aM s.1),s.2]) (aM w) 0 ([],.no) rfl (by
   rintro j ⟨l,s2⟩ x hs hx
   obtain⟨k,hk,rfl⟩:=EV hx
   rw[Nat.zero_add]at hs⊢
   have T7:l=bG [] (w.take j):=hs
   have YX:=tP (w.take j) []
   rw[<-T7,length_take]at YX
   simp -implicitDefEqProofs only [length_nil]at YX
   refine⟨(bU l k,.val (.int k)),?_,by show bU l k=_;rw[BO hk,ya,T7];rfl⟩
   unfold nZ bU
   simp_all only [j0,reduceIte,ah,ai,aG,aH,aI,aJ,aW]
   cases l with
   |nil=>
    simp_all only [length_nil,reduceIte,ah,ai,aG,aH,aI,aJ,Int.natCast_zero,Int.lt_irrefl,decide_false,List.getLast?_nil]
    rw[wC (by simp[aM])]
    rfl
   |cons y r=>
    have h0:(0:Int)<((y::r).length:Nat):=by simp
    generalize Zk:y::r=l at*
    simp_all only [h0,decide_true,reduceIte,ah,ai,aG,aH,aI,aJ]
    rw[nX,yb]
    cases hq:l.getLast? with
    |none=>rw[<-Zk]at hq;simp at hq
    |some z=>
     simp_all only [map_some,reduceIte,ah,ai,aG,aH,aI,aJ]
     by_cases hz:z= -k
     ·have VB:(z== -k)=true:=by rw[beq_iff_eq];exact hz
      subst hz
      simp_all only [beq_self_eq_true,reduceIte,ah,ai,aG,aH,aI,aJ]
      rw[ET (by rw[aW];lia)]
      dsimp
      show _=R.ok (Out.nx [_,Sl.own (aM l.dropLast),_])
      unfold aM
      rw[map_dropLast]
     ·have VB:(z== -k)=false:=beq_false_of_ne hz
      have hz2:¬(some z=some (-k)):=λe=>hz (Option.some.inj e)
      simp_all only [VB,reduceIte,ah,ai,aG,aH,aI,aJ]
      rw[wC (by rw[aW];lia),if_neg hz2]
      dsimp
      unfold aM
      rw[map_append]
      rfl)
 obtain⟨l,s2⟩:=s'
 rw[Nat.zero_add,aW,take_length]at hj
 have DH:l=bG [] w:=hj
 dsimp only at e
 rw[show([]:List D)=aM []from rfl,e,DH]
 dsimp [gx]
theorem Cg:∀(w s:List Int),∀k∈bG s w,k∈s\/k∈w
 |[],s,k,h=>.inl h
 |x::w,s,k,h=>by
  rcases Cg w (bU s x) k h with h|h
  ·unfold bU at h
   split at h
   ·exact .inl (mem_of_mem_take (by rw[dropLast_eq_take]at h;exact h))
   ·rcases mem_append.mp h with h|h
    ·exact .inl h
    ·exact .inr (by rw[mem_singleton.mp h];exact mem_cons_self)
  ·exact .inr (mem_cons_of_mem _ h)
theorem O1(s0:Sl)(b k:Int)(hk:1<=k/\k<=7)(s2:Sl):km (.int k) [s0,.val (.int b),s2]=.ok (.nx [s0,.val (.int (Builtin.bitOr b (1*2^(k-1).toNat))),.val (.int k)]):=by
 unfold km
 simp_all only [j0,mS,mD,mF,gp,aN,reduceAdd,reduceSub,reduceEqDiff,reduceIte,ah,ai,aG,aH,aI,aJ]
 rw[show Ov (.int 1) (.int (k-1))=some (.int (1*2^(k-1).toNat))from if_pos (by
  unfold GR
  exact⟨by lia,by lia,by decide⟩)]
 dsimp [G7]
theorem zC(s0:Sl):∀(ks:List Int)(b:Int)(s2:Sl),(∀k∈ks,1<=k/\k<=7)->∃Yr,iB km (aM ks) [s0,.val (.int b),s2]=.ok (.nx [s0,.val (.int (ks.foldl (λb k=>Builtin.bitOr b (1*2^(k-1).toNat)) b)),Yr])
 |[],b,s2,_=>⟨s2,rfl⟩
 |k::ks,b,s2,h=>by
  rw[<-nj,Lu (O1 s0 b k (h k (by simp)) s2)]
  exact zC s0 ks _ _ λx hx=>h x (by simp[hx])
theorem O2:∀ks:List Int,(∀k∈ks,1<=k/\k<=7)->nv [.lst (aM ks)]=.ok (.int (DS ks)):=λks h=>by
 unfold nv zo
 simp_all
 obtain⟨s2,e⟩:=zC (.val (.lst (aM ks))) ks 0 .no h
 rw[e]
 dsimp
 rfl
theorem O3(n:Nat):Iv n (upTo n).reverse (upTo n).reverse:=by
 have c:∀p,p<n->aa (upTo n).reverse p=((n-1-p:Nat):Int):=λp hp=>by
  rw[fV (by rw[ak];exact hp),ak,ar (by lia)]
 have h:∀p,p<n->0<=aa (upTo n).reverse p/\aa (upTo n).reverse p<n/\aa (upTo n).reverse (aa (upTo n).reverse p).toNat=p:=λp hp=>by
  rw[c p hp,toNat_natCast,c _ (by lia)]
  refine⟨by lia,by lia,?_⟩
  lia
 exact⟨by rw[length_reverse,ak],by rw[length_reverse,ak],h,h⟩
theorem O4(n:Nat)(hn:1<=n/\n<=7):xC [.int n]=.ok (aM (upTo n).reverse):=by
 unfold xC JU
 simp_all
 have er:JH [.int ((n:Int)-1),.int (-1),.int (-1)]=.ok (JG ((n:Int)-1) (-1) (Builtin.Range.rangeSize ((n:Int)-1) (-1) (-1)).toNat):=if_pos (by unfold RC;lia)
 rw[er]
 have e2:JG ((n:Int)-1) (-1) (Builtin.Range.rangeSize ((n:Int)-1) (-1) (-1)).toNat=aM (upTo n).reverse:=by
  have hc:n=1\/n=2\/n=3\/n=4\/n=5\/n=6\/n=7:=by lia
  rcases hc with rfl|rfl|rfl|rfl|rfl|rfl|rfl<;>rfl
 rw[e2]
 dsimp [gx]
theorem cG(n:Nat):Iv n (upTo n) (upTo n):=⟨ak n,ak n,λp hp=>by rw[ar hp,toNat_natCast];exact⟨by lia,by lia,ar hp⟩,λp hp=>by rw[ar hp,toNat_natCast];exact⟨by lia,by lia,ar hp⟩⟩
inductive Rc (n:Nat):RP->RP->RP->RP->Prop
 |nil (p q:RP):Rc n p q p q
 |step {p q p' q':RP} {j:Nat}:j+1<n->aa p.1 j<aa p.1 (j+1)->aa q.2 (j+1)<aa q.2 j->Rc n (o4 p j) (rL q j) p' q'->Rc n p q p' q'
theorem Rc.iv {n:Nat}{p q p' q':RP}(h:Rc n p q p' q'):Iv n p.1 p.2->Iv n q.1 q.2->Iv n p'.1 p'.2/\Iv n q'.1 q'.2:=by
 induction h with
 |nil p q=>exact λa b=>⟨a,b⟩
 |step hj h1 h2 _ ih=>exact λa b=>ih (cg a hj) (fj b hj)
theorem Rc.ovr {n:Nat}{p q p' q' p0 q0:RP}(A5:Iv n p0.1 p0.2)(h:Rc n p q p' q'):∀y,Iv n p.1 p.2->Iv n q.1 q.2->vR n p0 q0 p q y->∃y',vR n p0 q0 p' q' y':=by
 induction h with
 |nil p q=>exact λy _ _ o=>⟨y,o⟩
 |step hj h1 h2 _ ih=>exact λy a b o=>ih _ (cg a hj) (fj b hj) (o.step A5 a b hj h1 h2)
theorem rN{n:Nat}:∀(f:Nat)(p q:RP),Iv n p.1 p.2->Iv n q.1 q.2->Rc n p q (cX f p q).1 (cX f p q).2
 |0,p,q,_,_=>.nil p q
 |f+1,p,q,ip,iq=>by
  cases h:(mO p q).getLast? with
  |none=>rw[nG _ h];exact .nil p q
  |some k=>
   obtain⟨j,rfl,hj,h1,h2⟩:=og ip iq (mem_of_getLast? h)
   rw[nE f h,show((j:Int)+1-1).toNat=j by lia]
   exact .step hj h1 h2 (rN f _ _ (cg ip hj) (fj iq hj))
theorem vR.starts {n:Nat}{p q p' c' v:RP}(o:vR n p q p' c' v)(RG:Iv n p'.1 p'.2)(MZ:Iv n c'.1 c'.2)(hf:mO p' c'=[]){a:Nat}(ha:a+1<n)(hp:aa p.1 a<aa p.1 (a+1))(hq:aa q.2 (a+1)<aa q.2 a):aa v.2 (a+1)<aa v.2 a:=by
 refine byContradiction λhc=>?_
 have iv:=o.iy
 obtain⟨x1,x2,x3⟩:=iv.sr a (by lia)
 obtain⟨y1,y2,y3⟩:=iv.sr (a+1) ha
 have qa:=o.pq a (by lia)
 have qb:=o.pq (a+1) ha
 generalize hx:(aa v.2 a).toNat=x at*
 generalize hy:(aa v.2 (a+1)).toNat=y at*
 have hxy:x<y:=by
  have:x≠y:=λe=>by rw[e,y3]at x3;lia
  lia
 obtain⟨i,i1,i2,f1,f2⟩:=switch (λi=>decide (aa c'.2 i<aa q.2 a)) (y-x) x (by rw[decide_eq_false];lia) (by rw[show x+(y-x)=y by lia,decide_eq_true];lia)
 have f1:=of_decide_eq_false f1
 have f2:=of_decide_eq_true f2
 have hin:i+1<n:=by lia
 have t1:=(dW RG MZ).mp hf i hin (by lia)
 have t2:=o.aq i (i+1) (by lia) hin (by lia)
 obtain⟨g1,g2,g3⟩:=iv.rs i (by lia)
 obtain⟨h1,h2,h3⟩:=iv.rs (i+1) hin
 rw[o.pl i (by lia),o.pl (i+1) hin]at t1
 generalize hg:(aa v.1 i).toNat=g at*
 generalize hh:(aa v.1 (i+1)).toNat=h at*
 rcases lt_or_ge a g with c|c
 ·have gn:g≠a+1:=λe=>by rw[e]at g3;lia
  have:=o.aq i y (by lia) (by lia) (by lia)
  lia
 ·have tg:aa p.1 g<=aa p.1 a:=by
   rcases lt_or_ge g a with d|d
   ·have:x≠i:=λe=>by rw[e]at x3;lia
    exact Int.le_of_lt (o.ap g a d (by lia) (by lia))
   ·rw[show g=a by lia];exact Int.le_refl _
  rcases lt_or_ge a h with d|d
  ·have th:aa p.1 (a+1)<=aa p.1 h:=by
    rcases lt_or_ge (a+1) h with e|e
    ·have:i+1≠y:=λz=>by rw[<-z]at y3;lia
     exact Int.le_of_lt (o.ap (a+1) h e (by lia) (by lia))
    ·rw[show h=a+1 by lia];exact Int.le_refl _
   lia
  ·have:=o.aq x (i+1) (by lia) hin (by lia)
   lia
theorem O5{a i j:Nat}(h:i<j)(hne:¬(i=a/\j=a+1)):sw a i<sw a j:=by
 unfold sw
 repeat' split
 all_goals lia
theorem Av{a:Nat}{x y:Int}(h:x<y)(hne:¬(x=a/\y=(a:Int)+1)):sg a x<sg a y:=by
 unfold sg
 repeat' split
 all_goals lia
theorem vR.pop {n:Nat}{p q p' c' v:RP}(o:vR n p q p' c' v)(ip:Iv n p.1 p.2)(iq:Iv n q.1 q.2){j:Nat}(hj:j+1<n)(hv:aa v.2 (j+1)<aa v.2 j):vR n (o4 p j) (rL q j) p' c' (rL v j):=by
 have iv:=o.iy
 refine⟨fj iv hj,λt ht=>?_,λt ht=>?_,λi i' Qm yR h=>?_,λi i' Qm yR h=>?_,λt ht=>?_⟩
 ·obtain⟨h1,h2,_⟩:=ip.sr t ht
  show aa p'.2 t=aa (cZ v.2 j) (aa (rK p.2 j) t).toNat
  rw[bq (by rw[ip.ls];exact ht),dN (by rw[iv.ls];exact hj),KY _ h1,o.pp t ht]
 ·show aa (cZ q.2 j) t=aa c'.2 (aa (cZ v.2 j) t).toNat
  rw[dN (by rw[iq.ls];exact hj),dN (by rw[iv.ls];exact hj),o.pq _ (xP hj ht)]
 ·change aa (cZ v.2 j) i'<aa (cZ v.2 j) i at h
  show aa (cZ p.1 j) i<aa (cZ p.1 j) i'
  rw[dN (by rw[iv.ls];exact hj),dN (by rw[iv.ls];exact hj)]at h
  rw[dN (by rw[ip.lr];exact hj),dN (by rw[ip.lr];exact hj)]
  have hne:¬(i=j/\i'=j+1):=λ⟨a,b⟩=>by
   subst a;subst b
   unfold sw at h
   rw[if_pos rfl,if_neg (by lia),if_pos rfl]at h
   lia
  exact o.ap _ _ (O5 Qm hne) (xP hj yR) h
 ·show aa (rK v.1 j) i<aa (rK v.1 j) i'
  have h2:=o.aq i i' Qm yR h
  rw[bq (by rw[iv.lr];lia),bq (by rw[iv.lr];exact yR)]
  refine Av h2 λ⟨a,b⟩=>?_
  obtain⟨_,_,e1⟩:=iv.rs i (by lia)
  obtain⟨_,_,e2⟩:=iv.rs i' yR
  rw[a,toNat_natCast]at e1
  rw[b,show((j:Int)+1).toNat=j+1 by lia]at e2
  lia
 ·obtain⟨h1,h2,_⟩:=iv.rs t ht
  show aa p'.1 t=aa (cZ p.1 j) (aa (rK v.1 j) t).toNat
  rw[bq (by rw[iv.lr];exact ht),dN (by rw[ip.lr];exact hj),KY _ h1,o.pl t ht]
theorem Rc.to {n:Nat}{p0 q0 p q p' c':RP}(h:Rc n p0 q0 p q):Iv n p0.1 p0.2->Iv n q0.1 q0.2->∀y,vR n p0 q0 p' c' y->Iv n p'.1 p'.2->Iv n c'.1 c'.2->mO p' c'=[]->∃v,vR n p q p' c' v:=by
 induction h with
 |nil p q=>exact λ_ _ y o _ _ _=>⟨y,o⟩
 |step hj h1 h2 _ ih=>exact λip iq y o RG MZ hf=>ih (cg ip hj) (fj iq hj) _ (o.pop ip iq hj (o.starts RG MZ hf hj h1 h2)) RG MZ hf
theorem vR.same {n:Nat}{p q p' c' v:RP}(o:vR n p q p' c' v)(ip:Iv n p.1 p.2)(iq:Iv n q.1 q.2)(RG:Iv n p'.1 p'.2)(MZ:Iv n c'.1 c'.2)(hf:mO p q=[]):p'=p/\c'=q:=by
 have iv:=o.iy
 have hs:¬OO n v:=λ⟨a,ha,hd⟩=>by
  have h1:=o.pq.nst iv MZ o.aq ha hd
  have h2:=o.ap a (a+1) (by lia) ha hd
  have:=(dW ip iq).mp hf a ha h1
  lia
 have e:=wM iv (cG n) hs
 have c:∀t,t<n->(aa (upTo n) t).toNat=t:=λt ht=>by rw[ar ht];exact toNat_natCast t
 constructor
 ·refine jJ RG ip (aY (by rw[RG.lr,ip.lr]) λt ht=>?_)
  rw[RG.lr]at ht
  rw[o.pl t ht,e]
  dsimp only
  rw[c t ht]
 ·have e2:c'.2=q.2:=aY (by rw[MZ.ls,iq.ls]) λt ht=>by
   rw[MZ.ls]at ht
   rw[o.pq t ht,e]
   dsimp only
   rw[c t ht]
  refine jJ MZ iq (Iv.uniq (n:=n) (s:=q.2) ?_ iq)
  rw[<-e2]
  exact MZ
theorem Rc.one {n:Nat}{p0 q0 p q p' c':RP}(A5:Iv n p0.1 p0.2)(HC:Iv n q0.1 q0.2)(h:Rc n p0 q0 p q)(hf:mO p q=[])(h':Rc n p0 q0 p' c')(hf':mO p' c'=[]):p'=p/\c'=q:=by
 obtain⟨y,o⟩:=h'.ovr A5 _ A5 HC (vR.start A5 (cG n))
 obtain⟨v,o2⟩:=h.to A5 HC y o (h'.iv A5 HC).1 (h'.iv A5 HC).2 hf'
 exact o2.same (h.iv A5 HC).1 (h.iv A5 HC).2 (h'.iv A5 HC).1 (h'.iv A5 HC).2 hf
theorem D4(f:Int->Int):∀(l:List Int)(a:Nat),cZ (l.map f) a=(cZ l a).map f
 |[],a=>by cases a<;>rfl
 |[x],0=>rfl
 |[x],a+1=>by cases a<;>rfl
 |x::y::l,0=>rfl
 |x::y::l,a+1=>by
  show cZ (f x::map f (y::l)) (a+1)=_
  rw[rz,rz,D4 f (y::l) a]
  rfl
inductive vG (n:Nat):List RP->List RP->Prop
 |here {p q:RP} {B:List RP} {j:Nat}:j+1<n->aa p.1 j<aa p.1 (j+1)->aa q.2 (j+1)<aa q.2 j->vG n (p::q::B) (o4 p j::rL q j::B)
 |next {p:RP} {L L':List RP}:vG n L L'->vG n (p::L) (p::L')
inductive ly (n:Nat):List RP->List RP->Prop
 |nil (L:List RP):ly n L L
 |cons {L L' Ys:List RP}:vG n L L'->ly n L' Ys->ly n L Ys
theorem ly.trans {n:Nat}{L L' Ys:List RP}(h:ly n L L'):ly n L' Ys->ly n L Ys:=by
 induction h with
 |nil=>exact id
 |cons s _ ih=>exact λg=>.cons s (ih g)
theorem ly.next {n:Nat}(p:RP){L L':List RP}(h:ly n L L'):ly n (p::L) (p::L'):=by
 induction h with
 |nil=>exact .nil _
 |cons s _ ih=>exact .cons (.next s) ih
theorem ly.app {n:Nat}(A:List RP){L L':List RP}(h:ly n L L'):ly n (A++L) (A++L'):=by
 induction A with
 |nil=>exact h
 |cons p A ih=>exact ih.next p
theorem vG.M0 {n:Nat}(B:List RP){L L':List RP}(h:vG n L L'):vG n (L++B) (L'++B):=by
 induction h with
 |here hj h1 h2=>exact .here hj h1 h2
 |next _ ih=>exact .next ih
theorem ly.M0 {n:Nat}(B:List RP){L L':List RP}(h:ly n L L'):ly n (L++B) (L'++B):=by
 induction h with
 |nil=>exact .nil _
 |cons s _ ih=>exact .cons (s.M0 B) ih
theorem Rc.VQ {n:Nat}{p q p' q':RP}(h:Rc n p q p' q')(B:List RP):ly n (p::q::B) (p'::q'::B):=by
 induction h with
 |nil=>exact .nil _
 |step hj h1 h2 _ ih=>exact .cons (.here hj h1 h2) ih
theorem vG.iv {n:Nat}{L L':List RP}(h:vG n L L'):aR n L->aR n L':=by
 induction h with
 |here hj h1 h2=>
  intro hI x hx
  rcases mem_cons.mp hx with rfl|hx
  ·exact cg (hI _ (by simp)) hj
  ·rcases mem_cons.mp hx with rfl|hx
   ·exact fj (hI _ (by simp)) hj
   ·exact hI x (by simp[hx])
 |next _ ih=>
  intro hI x hx
  rcases mem_cons.mp hx with rfl|hx
  ·exact hI _ (by simp)
  ·exact ih (λy hy=>hI y (by simp[hy])) x hx
theorem ly.iv {n:Nat}{L L':List RP}(h:ly n L L'):aR n L->aR n L':=by
 induction h with
 |nil=>exact id
 |cons s _ ih=>exact λhI=>ih (s.iv hI)
def Im(L:List RP):Nat:=(L.map λp=>gG p.1).sum
def wt:List RP->Nat
 |[]=>0
 |_::L=>wt L+Im L
theorem vG.Im {n:Nat}{L L':List RP}(h:vG n L L'):aR n L->DL.Im L'=DL.Im L/\wt L'<wt L:=by
 induction h with
 | @here p q B j hj h1 h2=>
  intro hI
  have ip:=hI p (by simp)
  have iq:=hI q (by simp)
  have e1:gG (o4 p j).1=gG p.1+1:=(Ai ip hj).1 h1
  have e2:gG (rL q j).1+1=gG q.1:=by
   rw[xK (fj iq hj),xK iq]
   exact(Ai iq.symm hj).2 h2
  unfold DL.Im wt wt DL.Im
  simp_all only [map_cons,sum_cons]
  lia
 | @next p L L' _ ih=>
  intro hI
  obtain⟨a,b⟩:=ih λy hy=>hI y (by simp[hy])
  unfold wt
  rw[a]
  refine⟨?_,by lia⟩
  unfold DL.Im at a⊢
  simp_all only [map_cons,sum_cons]
  lia
theorem O6(q:RP)(i j:Nat):o4 (rL q j) i=rL (o4 q i) j:=by
 unfold o4 rL rK
 rw[D4,D4]
theorem vG.side {n:Nat}{p q:RP}{B L:List RP}{j:Nat}(hj:j+1<n)(h1:aa p.1 j<aa p.1 (j+1))(h2:aa q.2 (j+1)<aa q.2 j)(iq:Iv n q.1 q.2)(s:vG n (q::B) L):
  ∃M,ly n (o4 p j::rL q j::B) M/\ly n (p::L) M:=by
 cases s with
 | @here _ r B' i hi g1 g2=>
  refine⟨o4 p j::o4 (rL q j) i::rL r i::B',.cons (.next (.here hi ?_ g2)) (.nil _),?_⟩
  ·show aa (rK q.1 j) i<aa (rK q.1 j) (i+1)
   rw[bq (by rw[iq.lr];lia),bq (by rw[iq.lr];exact hi)]
   refine Av g1 λ⟨a,b⟩=>?_
   have e1:=(iq.rs i (by lia)).2.2
   have e2:=(iq.rs (i+1) hi).2.2
   rw[a,toNat_natCast]at e1
   rw[b,show((j:Int)+1).toNat=j+1 by lia]at e2
   lia
  ·rw[O6]
   refine .cons (.here hj h1 ?_) (.nil _)
   show aa (rK q.2 i) (j+1)<aa (rK q.2 i) j
   rw[bq (by rw[iq.ls];exact hj),bq (by rw[iq.ls];lia)]
   refine Av h2 λ⟨a,b⟩=>?_
   have e1:=(iq.sr (j+1) hj).2.2
   have e2:=(iq.sr j (by lia)).2.2
   rw[a,toNat_natCast]at e1
   rw[b,show((i:Int)+1).toNat=i+1 by lia]at e2
   lia
 | @next _ _ B2 s=>exact⟨o4 p j::rL q j::B2,.cons (.next (.next s)) (.nil _),.cons (.here hj h1 h2) (.nil _)⟩
theorem vG.join {n:Nat}(hn:n<=7){L L1:List RP}(h:vG n L L1):∀{L2:List RP},aR n L->vG n L L2->∃M,ly n L1 M/\ly n L2 M:=by
 induction h with
 | @here p q B j hj h1 h2=>
  intro L2 hI s
  have ip:=hI p (by simp)
  have iq:=hI q (by simp)
  cases s with
  | @here _ _ _ i hi g1 g2=>
   have r1:=rN (n:=n) 50 _ _ (cg ip hj) (fj iq hj)
   have r2:=rN (n:=n) 50 _ _ (cg ip hi) (fj iq hi)
   obtain⟨a,b⟩:=Rc.one ip iq (.step hj h1 h2 r1) (wL hn 50 _ _ (cg ip hj) (fj iq hj) (by lia)) (.step hi g1 g2 r2) (wL hn 50 _ _ (cg ip hi) (fj iq hi) (by lia))
   have s2:=r2.VQ B
   rw[a,b]at s2
   exact⟨_,r1.VQ B,s2⟩
  |next s=>exact vG.side hj h1 h2 iq s
 | @next p L L1 s1 ih=>
  intro L2 hI s
  cases s with
  | @here _ q B j hj h1 h2=>
   obtain⟨M,a,b⟩:=vG.side (p:=p) hj h1 h2 (hI q (by simp)) s1
   exact⟨M,b,a⟩
  |next s=>
   obtain⟨M,a,b⟩:=ih (λy hy=>hI y (by simp[hy])) s
   exact⟨p::M,a.next p,b.next p⟩
def Nf(n:Nat)(L:List RP):Prop:=∀L',¬vG n L L'
theorem Yt{n:Nat}:∀(m:Nat)(L:List RP),wt L<=m->aR n L->∃N,ly n L N/\Nf n N:=λm=>by
 induction m with
 |zero=>exact λL h hI=>⟨L,.nil _,λL' s=>by have:=(s.Im hI).2;lia⟩
 |succ m ih=>
  intro L h hI
  rcases Classical.em (∃L',vG n L L')with⟨L',s⟩|hs
  ·obtain⟨N,a,b⟩:=ih L' (by have:=(s.Im hI).2;lia) (s.iv hI)
   exact⟨N,.cons s a,b⟩
  ·exact⟨L,.nil _,λL' s=>hs ⟨L',s⟩⟩
theorem Lw{n:Nat}(hn:n<=7):∀(m:Nat)(L:List RP),wt L<=m->aR n L->∀{N1 N2:List RP},ly n L N1->Nf n N1->ly n L N2->Nf n N2->N1=N2:=λm=>by
 induction m with
 |zero=>
  intro L h hI N1 N2 a _ b _
  have z:∀{N},ly n L N->N=L:=λ{N} s=>by
   cases s with
   |nil=>rfl
   |cons s _=>have:=(s.Im hI).2;lia
  rw[z a,z b]
 |succ m ih=>
  intro L h hI N1 N2 a n1 b n2
  cases a with
  |nil=>
   cases b with
   |nil=>rfl
   |cons s _=>exact absurd s (n1 _)
  | @cons _ L1 _ s1 a=>
   cases b with
   |nil=>exact absurd s1 (n2 _)
   | @cons _ L2 _ s2 b=>
    obtain⟨M,u,v⟩:=s1.join hn hI s2
    have w1:=(s1.Im hI).2
    have w2:=(s2.Im hI).2
    obtain⟨N,x,y⟩:=Yt (wt M) M (Nat.le_refl _) (u.iv (s1.iv hI))
    rw[ih L1 (by lia) (s1.iv hI) a n1 (u.trans x) y,ih L2 (by lia) (s2.iv hI) b n2 (v.trans x) y]
theorem FQ{n:Nat}:∀(ps:List RP)(c:RP),aR n ps->Iv n c.1 c.2->ly n (c::ps).reverse (vQ ps c).reverse
 |[],c,_,_=>.nil _
 |p::ps,c,hI,ic=>by
  have ip:=hI p (by simp)
  unfold vQ
  split
  ·exact .nil _
  ·obtain⟨i1,_⟩:=iX.xO (n:=n) 50 ip ic
   have r:=(rN (n:=n) 50 p c ip ic).VQ []
   have h:=FQ ps (cX 50 p c).1 (λy hy=>hI y (by simp[hy])) i1
   simp -implicitDefEqProofs only [reverse_cons,List.append_assoc]at h⊢
   refine(ly.app ps.reverse r).trans ?_
   have:=h.M0 [(cX 50 p c).2]
   simp -implicitDefEqProofs only [List.append_assoc]at this
   exact this
abbrev Zr(n:Nat):RP:=(upTo n,upTo n)
theorem O7{n:Nat}(hn:n<=7){c:RP}(ic:Iv n c.1 c.2):cX 50 (Zr n) c=(c,Zr n):=by
 have iz:Iv n (Zr n).1 (Zr n).2:=cG n
 have s:=gH hn iz ic (cG n)
 obtain⟨y,o⟩:=s.ex
 have ct:∀t,t<n->(aa (upTo n) t).toNat=t:=λt ht=>by rw[ar ht];exact toNat_natCast t
 have cz:∀t:Int,0<=t->t<n->aa (upTo n) t.toNat=t:=λt h0 ht=>by rw[ar (by lia)];lia
 have e2:(cX 50 (Zr n) c).2=Zr n:=wM s.ic (cG n) λ⟨a,ha,hd⟩=>by
  have h1:=(dW s.ip s.ic).mp s.fr a ha hd
  have h2:=o.aq a (a+1) (by lia) ha hd
  have b1:=o.iy.rs a (by lia)
  have b2:=o.iy.rs (a+1) ha
  rw[o.pl a (by lia),o.pl (a+1) ha]at h1
  dsimp only at h1
  rw[cz _ b1.1 b1.2.1,cz _ b2.1 b2.2.1]at h1
  lia
 have e1:(cX 50 (Zr n) c).1=c:=by
  have h:(cX 50 (Zr n) c).1.2=c.2:=aY (by rw[s.ip.ls,ic.ls]) λt ht=>by
   rw[s.ip.ls]at ht
   have b1:=o.iy.sr t ht
   rw[o.pp t ht,o.pq t ht,e2]
   dsimp only
   rw[ct t ht,cz _ b1.1 b1.2.1]
  refine jJ s.ip ic (Iv.uniq (n:=n) (s:=c.2) ?_ ic)
  rw[<-h]
  exact s.ip
 exact Prod.ext e1 e2
theorem D5{n:Nat}(hn:n<=7):∀(L:List RP),aR n L->ly n (Zr n::L) (L++[Zr n])
 |[],_=>.nil _
 |c::L,hI=>by
  have ic:=hI c (by simp)
  have r:=(rN (n:=n) 50 (Zr n) c (cG n) ic).VQ L
  rw[O7 hn ic]at r
  exact r.trans ((D5 hn L λy hy=>hI y (by simp[hy])).next c)
theorem vG.at_ {n:Nat}{L L':List RP}(h:vG n L L'):∃A p q B j,L=A++p::q::B/\j+1<n/\aa p.1 j<aa p.1 (j+1)/\aa q.2 (j+1)<aa q.2 j:=by
 induction h with
 | @here p q B j hj h1 h2=>exact⟨[],p,q,B,j,rfl,hj,h1,h2⟩
 | @next p _ _ _ ih=>
  obtain⟨A,x,q,B,j,e,r⟩:=ih
  exact⟨p::A,x,q,B,j,by rw[e];rfl,r⟩
theorem RH{n:Nat}{L:List RP}(h:vC L.reverse)(hI:aR n L):Nf n L:=λL' s=>by
 obtain⟨A,p,q,B,j,e,hj,h1,h2⟩:=s.at_
 have hf:=h.at_ (A:=B.reverse) (B:=A.reverse) (p:=p) (q:=q) (by rw[e];simp)
 have:=(dW (hI p (by rw[e];simp)) (hI q (by rw[e];simp))).mp hf j hj h2
 lia
theorem O8{n:Nat}{p:RP}(ip:Iv n p.1 p.2):mO p (Zr n)=[]:=(dW ip (cG n)).mpr λj hj h=>by
 dsimp only at h
 rw[ar hj,ar (by lia)]at h
 lia
theorem D6{n:Nat}:∀(k:Nat){R:List RP},aR n R->vC R->vC (replicate k (Zr n)++R)
 |0,R,_,h=>h
 |k+1,R,hI,h=>by
  have ih:=D6 k hI h
  rw[replicate_succ,cons_append]
  cases e:replicate k (Zr n)++R with
  |nil=>trivial
  |cons p L=>
   rw[e]at ih
   refine⟨O8 (n:=n) ?_,ih⟩
   have:p∈replicate k (Zr n)++R:=by rw[e];simp
   rcases mem_append.mp this with h|h
   ·rw[(mem_replicate.mp h).2];exact cG n
   ·exact hI p h
def qY(n:Nat)(L:List RP):List RP:=L.foldl (fA n) []
theorem Ci{n:Nat}(hn:n<=7):∀(L R:List RP),aR n L->qX n R->∃k,ly n (R++L) (L.foldl (fA n) R++replicate k (Zr n))/\qX n (L.foldl (fA n) R)
 |[],R,_,h=>⟨0,by simp_all only [append_nil,List.foldl_nil,replicate_zero];exact .nil _,h⟩
 |c::L,R,hI,h=>by
  have ic:=hI c (by simp)
  have MS:aR n L:=λy hy=>hI y (by simp[hy])
  obtain⟨k,s,g⟩:=Ci hn L (fA n R c) MS (DT hn (cG n) h ic)
  have s1:=FQ R.reverse c (λy hy=>h.iv y (by simpa using hy)) ic
  rw[reverse_cons,reverse_reverse]at s1
  have s2:ly n (R++c::L) (sJ R c++L):=by
   have:=s1.M0 L
   simp -implicitDefEqProofs only [List.append_assoc,List.singleton_append]at this
   exact this
  rw[foldl_cons]
  by_cases hd:(sJ R c).getLast?=some (upTo n,upTo n)
  ·have e:fA n R c=(sJ R c).dropLast:=if_pos hd
   have e2:sJ R c=fA n R c++[Zr n]:=by
    rw[e]
    obtain⟨l,hl⟩:=List.getLast?_eq_some_iff.mp hd
    rw[hl,List.dropLast_concat]
   refine⟨k+1,?_,g⟩
   rw[e2,List.append_assoc,List.singleton_append]at s2
   refine s2.trans ((ly.app _ (D5 hn L MS)).trans ?_)
   have:=s.M0 [Zr n]
   rw[List.append_assoc,List.append_assoc]at this
   rw[List.replicate_succ']
   exact this
  ·have e:fA n R c=sJ R c:=if_neg hd
   refine⟨k,?_,g⟩
   rw[<-e]at s2
   exact s2.trans s
theorem oE{n:Nat}(hn:n<=7){L:List RP}(hI:aR n L):∃k,ly n L (qY n L++replicate k (Zr n))/\qX n (qY n L):=
 Ci hn L [] hI ⟨(λx hx=>nomatch hx),trivial,(λx hx=>nomatch hx)⟩
theorem strip{n:Nat}{R:List RP}(h:qX n R)(k:Nat):(R++replicate k (Zr n)).filter (λx=>decide (x≠Zr n))=R:=by
 rw[List.filter_append,List.filter_eq_self.mpr λx hx=>decide_eq_true (UM (h.ns x hx)),List.filter_eq_nil_iff.mpr λx hx=>by rw[(mem_replicate.mp hx).2];simp,append_nil]
theorem U7{n:Nat}(hn:n<=7){L L':List RP}(hI:aR n L)(s:ly n L L'):qY n L=qY n L':=by
 obtain⟨k,s1,g1⟩:=oE hn hI
 obtain⟨k',s2,g2⟩:=oE hn (s.iv hI)
 have nf:∀{R:List RP}(j:Nat),qX n R->Nf n (R++replicate j (Zr n)):=λ{R} j g=>RH (by
  rw[reverse_append,List.reverse_replicate]
  exact D6 j (λy hy=>g.iv y (by simpa using hy)) g.lw) λx hx=>by
   rcases mem_append.mp hx with h|h
   ·exact g.iv x h
   ·rw[(mem_replicate.mp h).2];exact cG n
 have e:=Lw hn _ L (Nat.le_refl _) hI s1 (nf k g1) (s.trans s2) (nf k' g2)
 rw[<-strip g1 k,e,strip g2 k']
theorem vC.pre:∀{A B:List RP},vC (A++B)->vC A
 |[],_,_=>trivial
 |[_],_,_=>trivial
 |_::q::A,B,h=>⟨h.1,vC.pre (A:=q::A) (B:=B) h.2⟩
theorem Aw{l:List Int}{p:Nat}(h:p<l.length):aa l.reverse p=aa l (l.length-1-p):=by
 unfold aa
 rw[getElem?_reverse h]
theorem D7{n:Nat}(hn:n<=7){L R:List RP}{k:Nat}(hI:aR n L)(g:qX n R)(s:ly n L (R++replicate k (Zr n))):qY n L=R:=by
 obtain⟨j,s1,g1⟩:=oE hn hI
 have nf:∀{R:List RP}(j:Nat),qX n R->Nf n (R++replicate j (Zr n)):=λ{R} j g=>RH (by
  rw[reverse_append,List.reverse_replicate]
  exact D6 j (λy hy=>g.iv y (by simpa using hy)) g.lw) λx hx=>by
   rcases mem_append.mp hx with h|h
   ·exact g.iv x h
   ·rw[(mem_replicate.mp h).2];exact cG n
 have e:=Lw hn _ L (Nat.le_refl _) hI s1 (nf j g1) s (nf k g)
 rw[<-strip g1 j,e,strip g k]
theorem aR.app {n:Nat}{A B:List RP}(a:aR n A)(b:aR n B):aR n (A++B):=λx hx=>(mem_append.mp hx).elim (a x) (b x)
theorem aR.one {n:Nat}{p:RP}(h:Iv n p.1 p.2):aR n [p]:=λx hx=>by rw[mem_singleton.mp hx];exact h
theorem aR.cons {n:Nat}{p:RP}{L:List RP}(h:Iv n p.1 p.2)(a:aR n L):aR n (p::L):=λx hx=>by
 rcases mem_cons.mp hx with rfl|hx
 ·exact h
 ·exact a x hx
theorem aR.rep {n:Nat}{p:RP}(h:Iv n p.1 p.2)(k:Nat):aR n (replicate k p):=λx hx=>by rw[(mem_replicate.mp hx).2];exact h
theorem FT{n:Nat}(hn:n<=7){A B:List RP}(hA:aR n A)(hB:aR n B):qY n (A++Zr n::B)=qY n (A++B):=by
 obtain⟨k,s,g⟩:=oE hn (hA.app hB)
 refine D7 (k:=k+1) hn (hA.app (.cons (cG n) hB)) g ?_
 refine(ly.app A (D5 hn B hB)).trans ?_
 have:=s.M0 [Zr n]
 rw[List.append_assoc,List.append_assoc]at this
 rw[List.replicate_succ']
 exact this
theorem Cj{n:Nat}(hn:n<=7){A B:List RP}(hA:aR n A)(hB:aR n B):∀k,qY n (A++(replicate k (Zr n)++B))=qY n (A++B)
 |0=>rfl
 |k+1=>by
  rw[replicate_succ,cons_append,FT hn hA (aR.app (.rep (cG n) k) hB),Cj hn hA hB k]
theorem qX.tail {n:Nat}{p:RP}{R:List RP}(h:qX n (p::R)):qX n R:=⟨λx hx=>h.iv x (by simp[hx]),by
 have:=h.lw
 rw[reverse_cons]at this
 exact this.pre,λx hx=>h.ns x (by simp[hx])⟩
theorem qX.drop {n:Nat}:∀(k:Nat){R:List RP},qX n R->qX n (R.drop k)
 |0,_,h=>h
 |_+1,[],h=>h
 |k+1,_::_,h=>qX.drop k h.tail
theorem dZ{n t:Nat}(h:t<n):aa (upTo n).reverse t=(n:Int)-1-t:=by
 rw[Aw (by rw[ak];exact h),ak,ar (by lia)]
 lia
theorem mZ(n:Nat):Iv n (eB n).1 (eB n).2:=by
 have h:∀p,p<n->0<=aa (upTo n).reverse p/\aa (upTo n).reverse p<n/\aa (upTo n).reverse (aa (upTo n).reverse p).toNat=p:=λp hp=>by
  rw[dZ hp,dZ (by lia)]
  lia
 have l:(upTo n).reverse.length=n:=by rw[length_reverse,ak]
 exact⟨l,l,h,h⟩
theorem Lx{n:Nat}{q:RP}(iq:Iv n q.1 q.2):mO (eB n) q=[]:=(dW (mZ n) iq).mpr λj hj _=>by
 show aa (upTo n).reverse (j+1)<aa (upTo n).reverse j
 rw[dZ hj,dZ (by lia)]
 lia
theorem Ly{n:Nat}(h2:2<=n):OO n (eB n):=⟨0,by lia,by
 show aa (upTo n).reverse 1<aa (upTo n).reverse 0
 rw[dZ (by lia),dZ (by lia)]
 lia⟩
theorem FU{p:RP}:∀{L:List RP},vC L->(∀q A,L=A++[q]->mO p q=[])->vC (L++[p])
 |[],_,_=>trivial
 |[q],_,h=>⟨h q [] rfl,trivial⟩
 |q::r::L,hl,h=>⟨hl.1,FU (L:=r::L) hl.2 λx A e=>h x (q::A) (by rw[e];rfl)⟩
theorem qX.half {n:Nat}(h2:2<=n){R:List RP}(h:qX n R):qX n (eB n::R):=⟨.cons (mZ n) h.iv,by
 rw[reverse_cons]
 refine FU h.lw λq A e=>Lx (h.iv q ?_)
 have:q∈R.reverse:=by rw[e];simp
 simpa using this,λx hx=>by
  rcases mem_cons.mp hx with rfl|hx
  ·exact Ly h2
  ·exact h.ns x hx⟩
theorem Lz{n:Nat}(hn:n<=7)(h2:2<=n){L:List RP}(hI:aR n L):qY n (eB n::L)=eB n::qY n L:=by
 obtain⟨k,s,g⟩:=oE hn hI
 exact D7 (k:=k) hn (.cons (mZ n) hI) (g.half h2) (s.next _)
def Vl(n:Nat)(h:Int)(L:List RP):Int×List RP:=(h+eg n (qY n L),(qY n L).drop (eg n (qY n L)))
theorem HH{n:Nat}(C:List RP):eg n (eB n::C)=eg n C+1:=by
 unfold eg
 rw[List.takeWhile_cons_of_pos (by simp),length_cons]
theorem Ay{n:Nat}(hn:n<=7)(h2:2<=n)(h:Int){L:List RP}(hI:aR n L):Vl n h (eB n::L)=Vl n (h+1) L:=by
 unfold Vl
 rw[Lz hn h2 hI,HH,List.drop_succ_cons]
 exact Prod.ext (by show h+((eg n (qY n L)+1:Nat):Int)=h+1+(eg n (qY n L):Nat);lia) rfl
theorem uR{n:Nat}(hn:n<=7)(h2:2<=n){L:List RP}(hI:aR n L):∀(m:Nat)(h:Int),Vl n h (replicate m (eB n)++L)=Vl n (h+m) L
 |0,h=>by rw[replicate_zero,nil_append,Int.natCast_zero,Int.add_zero]
 |m+1,h=>by
  rw[replicate_succ,cons_append,Ay hn h2 h (aR.app (.rep (mZ n) m) hI),uR hn h2 hI m (h+1),show h+1+(m:Int)=h+((m+1:Nat):Int)by lia]
theorem uS{n:Nat}(hn:n<=7)(h:Int){L L':List RP}(hI:aR n L)(s:ly n L L'):Vl n h L=Vl n h L':=by
 unfold Vl
 rw[U7 hn hI s]
theorem D8{n:Nat}(hn:n<=7)(h:Int){A B:List RP}(hA:aR n A)(hB:aR n B):Vl n h (A++Zr n::B)=Vl n h (A++B):=by
 unfold Vl
 rw[FT hn hA hB]
theorem Az{n:Nat}(hn:n<=7)(h:Int){A B:List RP}(hA:aR n A)(hB:aR n B)(k:Nat):Vl n h (A++(replicate k (Zr n)++B))=Vl n h (A++B):=by
 unfold Vl
 rw[Cj hn hA hB]
theorem LA{n:Nat}(hn:n<=7)(h:Int){L:List RP}(hI:aR n L):∃m k:Nat,(Vl n h L).1=h+m/\aR n (Vl n h L).2/\ly n L (replicate m (eB n)++((Vl n h L).2++replicate k (Zr n))):=by
 obtain⟨k,s,g⟩:=oE hn hI
 refine⟨eg n (qY n L),k,rfl,(qX.drop _ g).iv,?_⟩
 have e:=xQ (n:=n) (qY n L)
 rw[<-List.append_assoc]
 show ly n L (replicate (eg n (qY n L)) (eB n)++(qY n L).drop (eg n (qY n L))++_)
 rw[<-e]
 exact s
theorem LB{n:Nat}(hn:n<=7)(h2:2<=n)(h:Int){L B:List RP}(hI:aR n L)(hB:aR n B):Vl n h (L++B)=Vl n (Vl n h L).1 ((Vl n h L).2++B):=by
 obtain⟨m,k,e,hT,s⟩:=LA hn h hI
 rw[e,uS hn h (hI.app hB) (s.M0 B),List.append_assoc,List.append_assoc,uR hn h2 (aR.app hT (aR.app (.rep (cG n) k) hB))]
 exact Az hn _ hT hB k
theorem Ck{n:Nat}{l:List Int}{p:Nat}(h:p<l.length):aa (fl n l) p=(n:Int)-1-aa l p:=by
 have:=dz h
 unfold fl
 conv=>lhs;unfold aa
 rw[getElem?_map,this]
 rfl
def jB(n:Nat)(p:RP):RP:=(fl n p.1.reverse,fl n p.2.reverse)
theorem bZ{n:Nat}{l:List Int}(hl:l.length=n){t:Nat}(h:t<n):aa (fl n l.reverse) t=(n:Int)-1-aa l (n-1-t):=by
 rw[Ck (by rw[length_reverse,hl];exact h),Aw (by rw[hl];exact h),hl]
theorem cH{n:Nat}{l:List Int}(hl:l.length=n):(fl n l.reverse).length=n:=by unfold fl;rw[length_map,length_reverse,hl]
theorem uT{n:Nat}{p:RP}(h:Iv n p.1 p.2):Iv n (jB n p).1 (jB n p).2:=by
 have g:∀{r s:List Int},Iv n r s->∀t,t<n->0<=aa (fl n r.reverse) t/\aa (fl n r.reverse) t<n/\aa (fl n s.reverse) (aa (fl n r.reverse) t).toNat=t:=λ{r s} h t ht=>by
  obtain⟨a,b,c⟩:=h.rs (n-1-t) (by lia)
  rw[bZ h.lr ht]
  refine⟨by lia,by lia,?_⟩
  rw[bZ h.ls (by lia),show n-1-((n:Int)-1-aa r (n-1-t)).toNat=(aa r (n-1-t)).toNat by lia,c]
  lia
 exact⟨cH h.lr,cH h.ls,g h,g h.symm⟩
theorem AA{n:Nat}{p:RP}(h:Iv n p.1 p.2):jB n (jB n p)=p:=by
 have g:∀{l:List Int},l.length=n->fl n (fl n l.reverse).reverse=l:=λ{l} hl=>aY (by rw[cH (cH hl),hl]) λt ht=>by
  rw[cH (cH hl)]at ht
  rw[bZ (cH hl) ht,bZ hl (by lia),show n-1-(n-1-t)=t by lia]
  lia
 exact Prod.ext (g h.lr) (g h.ls)
theorem FW{n:Nat}{l:List Int}(hl:l.length=n){j:Nat}(hj:j+1<n):fl n (cZ l j).reverse=cZ (fl n l.reverse) (n-2-j):=by
 have h1:(cZ l j).length=n:=by rw[bQ,hl]
 refine aY (by rw[cH h1,bQ,cH hl]) λt ht=>?_
 rw[cH h1]at ht
 rw[bZ h1 ht,bB _ _ (by rw[hl];exact hj),bB _ _ (by rw[cH hl];lia),bZ hl (by lia),bZ hl (by lia),bZ hl ht]
 by_cases c:t=n-2-j
 ·rw[if_pos c,if_neg (by lia),if_pos (by lia),show n-1-(n-2-j+1)=j by lia]
 ·rw[if_neg c]
  by_cases d:t=n-2-j+1
  ·rw[if_pos d,if_pos (by lia),show n-1-(n-2-j)=j+1 by lia]
  ·rw[if_neg d,if_neg (by lia),if_neg (by lia)]
theorem FY{n:Nat}{l:List Int}(hl:l.length=n)(hb:∀t,t<n->0<=aa l t/\aa l t<n){j:Nat}(hj:j+1<n):fl n (rK l j).reverse=rK (fl n l.reverse) (n-2-j):=by
 have h1:(rK l j).length=n:=by rw[wF,hl]
 refine aY (by rw[cH h1,wF,cH hl]) λt ht=>?_
 rw[cH h1]at ht
 have:=hb (n-1-t) (by lia)
 rw[bZ h1 ht,bq (by rw[hl];lia),bq (by rw[cH hl];exact ht),bZ hl ht]
 unfold sg
 repeat' split
 all_goals lia
theorem O9{n:Nat}{p:RP}(h:Iv n p.1 p.2){j:Nat}(hj:j+1<n):jB n (o4 p j)=o4 (jB n p) (n-2-j):=
 Prod.ext (FW h.lr hj) (FY h.ls (λt ht=>⟨(h.sr t ht).1,(h.sr t ht).2.1⟩) hj)
theorem Pb{n:Nat}{p:RP}(h:Iv n p.1 p.2){j:Nat}(hj:j+1<n):jB n (rL p j)=rL (jB n p) (n-2-j):=
 Prod.ext (FY h.lr (λt ht=>⟨(h.rs t ht).1,(h.rs t ht).2.1⟩) hj) (FW h.ls hj)
theorem aR.jB {n:Nat}{L:List RP}(h:aR n L):aR n (L.map (DL.jB n)):=λx hx=>by
 obtain⟨y,hy,rfl⟩:=mem_map.mp hx
 exact uT (h y hy)
theorem vG.jB {n:Nat}{L L':List RP}(h:vG n L L'):aR n L->vG n (L.map (DL.jB n)) (L'.map (DL.jB n)):=by
 induction h with
 | @here p q B j hj h1 h2=>
  intro hI
  have ip:=hI p (by simp)
  have iq:=hI q (by simp)
  simp_all only [map_cons]
  rw[O9 ip hj,Pb iq hj]
  refine .here (by lia) ?_ ?_
  ·show aa (fl n p.1.reverse) (n-2-j)<aa (fl n p.1.reverse) (n-2-j+1)
   rw[bZ ip.lr (by lia),bZ ip.lr (by lia),show n-1-(n-2-j)=j+1 by lia,show n-1-(n-2-j+1)=j by lia]
   lia
  ·show aa (fl n q.2.reverse) (n-2-j+1)<aa (fl n q.2.reverse) (n-2-j)
   rw[bZ iq.ls (by lia),bZ iq.ls (by lia),show n-1-(n-2-j)=j+1 by lia,show n-1-(n-2-j+1)=j by lia]
   lia
 |next _ ih=>
  intro hI
  exact .next (ih λy hy=>hI y (by simp[hy]))
theorem ly.jB {n:Nat}{L L':List RP}(h:ly n L L'):aR n L->ly n (L.map (DL.jB n)) (L'.map (DL.jB n)):=by
 induction h with
 |nil=>exact λ_=>.nil _
 |cons s _ ih=>exact λhI=>.cons (s.jB hI) (ih (s.iv hI))
theorem LC(n:Nat):jB n (eB n)=eB n:=by
 have:fl n (upTo n).reverse.reverse=(upTo n).reverse:=aY (by rw[cH (by rw[length_reverse,ak]),length_reverse,ak]) λt ht=>by
  rw[cH (by rw[length_reverse,ak])]at ht
  rw[bZ (by rw[length_reverse,ak]) ht,dZ (by lia),dZ ht]
  lia
 exact Prod.ext this this
theorem Pd(n:Nat):jB n (Zr n)=Zr n:=by
 have:fl n (upTo n).reverse=upTo n:=aY (by rw[cH (ak n),ak]) λt ht=>by
  rw[cH (ak n)]at ht
  rw[bZ (ak n) ht,ar (by lia),ar ht]
  lia
 exact Prod.ext this this
theorem LD{n:Nat}(hn:n<=7)(h2:2<=n)(h:Int){L B:List RP}(hI:aR n L)(hB:aR n B)(d:Int):Vl n (h+d) (L.map (jB n)++B)=Vl n ((Vl n h L).1+d) ((Vl n h L).2.map (jB n)++B):=by
 obtain⟨m,k,e,hT,s⟩:=LA hn h hI
 have s2:=s.jB hI
 simp -implicitDefEqProofs only [map_append,List.map_replicate,LC,Pd]at s2
 rw[e,uS hn _ (hI.jB.app hB) (s2.M0 B),List.append_assoc,List.append_assoc,uR hn h2 (aR.app hT.jB (aR.app (.rep (cG n) k) hB)),show h+d+(m:Int)=h+m+d by lia]
 exact Az hn _ hT.jB hB k
theorem D9{n:Nat}{p q:RP}(h:Iv n p.1 p.2)(g:Iv n q.1 q.2)(e:∀t,t<n->aa p.2 t=aa q.2 t):p=q:=by
 have e2:p.2=q.2:=aY (by rw[h.ls,g.ls]) λt ht=>e t (by rw[h.ls]at ht;exact ht)
 refine jJ h g (Iv.uniq (n:=n) (s:=q.2) ?_ g)
 rw[<-e2]
 exact h
theorem vR.all {n:Nat}{p q p' c' y:RP}(o:vR n p q p' c' y)(ip:Iv n p.1 p.2){t:Nat}(ht:t<n):aa c'.2 (aa p'.2 t).toNat=aa q.2 (aa p.2 t).toNat:=by
 have:=ip.sr t ht
 rw[o.pp t ht,o.pq _ (by lia)]
theorem Cm{n:Nat}(hn:n<=7){p q:RP}(ip:Iv n p.1 p.2)(iq:Iv n q.1 q.2)(hd:∀t,t<n->aa q.2 (aa p.2 t).toNat=(n:Int)-1-t):cX 50 p q=(eB n,Zr n):=by
 have s:=gH hn ip iq (cG n)
 obtain⟨y,o⟩:=s.ex
 have hp:(cX 50 p q).1=eB n:=jJ s.ip (mZ n) (uJ s.ip λj hj=>by
  obtain⟨a1,a2,a3⟩:=s.ip.rs j (by lia)
  obtain⟨b1,b2,b3⟩:=s.ip.rs (j+1) hj
  have e1:=o.all ip (t:=(aa (cX 50 p q).1.1 j).toNat) (by lia)
  have e2:=o.all ip (t:=(aa (cX 50 p q).1.1 (j+1)).toNat) (by lia)
  rw[a3,toNat_natCast,hd _ (by lia)]at e1
  rw[b3,toNat_natCast,hd _ (by lia)]at e2
  refine byContradiction λhc=>?_
  have hne:aa (cX 50 p q).1.1 j≠aa (cX 50 p q).1.1 (j+1):=λz=>by rw[z,b3]at a3;lia
  have:=(dW s.ip s.ic).mp s.fr j hj (by lia)
  lia)
 refine Prod.ext hp (D9 s.ic (cG n) λt ht=>?_)
 have e:=o.all ip (t:=n-1-t) (by lia)
 rw[hp,hd _ (by lia)]at e
 change aa (cX 50 p q).2.2 (aa (upTo n).reverse (n-1-t)).toNat=_ at e
 rw[dZ (by lia),show((n:Int)-1-((n-1-t:Nat):Int)).toNat=t by lia]at e
 show _=aa (upTo n) t
 rw[ar ht,e]
 lia
theorem LG{n:Nat}(hn:n<=7){c:RP}(ic:Iv n c.1 c.2):cX 50 c (eB n)=(eB n,jB n c):=by
 have s:=gH hn ic (mZ n) (cG n)
 obtain⟨y,o⟩:=s.ex
 have hd:∀t,t<n->aa (cX 50 c (eB n)).2.2 (aa (cX 50 c (eB n)).1.2 t).toNat=(n:Int)-1-aa c.2 t:=λt ht=>by
  have:=ic.sr t ht
  rw[o.all ic ht]
  show aa (upTo n).reverse _=_
  rw[dZ (by lia)]
  lia
 have hp:(cX 50 c (eB n)).1=eB n:=jJ s.ip (mZ n) (uJ s.ip λj hj=>by
  obtain⟨a1,a2,a3⟩:=s.ip.rs j (by lia)
  obtain⟨b1,b2,b3⟩:=s.ip.rs (j+1) hj
  have e1:=hd (aa (cX 50 c (eB n)).1.1 j).toNat (by lia)
  have e2:=hd (aa (cX 50 c (eB n)).1.1 (j+1)).toNat (by lia)
  rw[a3,toNat_natCast]at e1
  rw[b3,toNat_natCast]at e2
  refine byContradiction λhc=>?_
  have hne:aa (cX 50 c (eB n)).1.1 j≠aa (cX 50 c (eB n)).1.1 (j+1):=λz=>by rw[z,b3]at a3;lia
  have h3:¬aa (cX 50 c (eB n)).2.2 (j+1)<aa (cX 50 c (eB n)).2.2 j:=λz=>by
   have:=(dW s.ip s.ic).mp s.fr j hj z
   lia
  generalize hs1:(aa (cX 50 c (eB n)).1.1 j).toNat=s1 at*
  generalize hs2:(aa (cX 50 c (eB n)).1.1 (j+1)).toNat=s2 at*
  obtain⟨u1,u2,u3⟩:=ic.sr s1 (by lia)
  obtain⟨v1,v2,v3⟩:=ic.sr s2 (by lia)
  have agO:aa c.2 s1≠aa c.2 s2:=λz=>by rw[z,v3]at u3;lia
  have p1:=o.pp s1 (by lia)
  have p2:=o.pp s2 (by lia)
  rw[a3]at p1
  rw[b3]at p2
  have:=o.ap (aa c.2 s2).toNat (aa c.2 s1).toNat (by lia) (by lia) (by lia)
  rw[u3,v3]at this
  lia)
 refine Prod.ext hp (D9 s.ic (uT ic) λt ht=>?_)
 have e:=hd (n-1-t) (by lia)
 rw[hp]at e
 change aa (cX 50 c (eB n)).2.2 (aa (upTo n).reverse (n-1-t)).toNat=_ at e
 rw[dZ (by lia),show((n:Int)-1-((n-1-t:Nat):Int)).toNat=t by lia]at e
 rw[e]
 exact(bZ ic.ls ht).symm
theorem AB{n:Nat}(hn:n<=7):∀(L:List RP),aR n L->ly n (L++[eB n]) (eB n::L.map (jB n))
 |[],_=>.nil _
 |c::L,hI=>by
  have ic:=hI c (by simp)
  have r:=(rN (n:=n) 50 c (eB n) ic (mZ n)).VQ (L.map (jB n))
  rw[LG hn ic]at r
  exact((AB hn L λy hy=>hI y (by simp[hy])).next c).trans r
def M4(n:Nat)(r:RP):RP:=(fl n r.2,r.1.reverse)
theorem RJ{n:Nat}{r:RP}(h:Iv n r.1 r.2){t:Nat}(ht:t<n):aa (M4 n r).1 t=(n:Int)-1-aa r.2 t:=Ck (by rw[h.ls];exact ht)
theorem FZ{n:Nat}{r:RP}(h:Iv n r.1 r.2){t:Nat}(ht:t<n):aa (M4 n r).2 t=aa r.1 (n-1-t):=by
 show aa r.1.reverse t=_
 rw[Aw (by rw[h.lr];exact ht),h.lr]
theorem oF{n:Nat}{r:RP}(h:Iv n r.1 r.2):Iv n (M4 n r).1 (M4 n r).2:=by
 refine⟨by show(fl n r.2).length=n;unfold fl;rw[length_map,h.ls],by show r.1.reverse.length=n;rw[length_reverse,h.lr],λt ht=>?_,λt ht=>?_⟩
 ·obtain⟨a,b,c⟩:=h.sr t ht
  rw[RJ h ht]
  refine⟨by lia,by lia,?_⟩
  rw[FZ h (by lia),show n-1-((n:Int)-1-aa r.2 t).toNat=(aa r.2 t).toNat by lia,c]
 ·obtain⟨a,b,c⟩:=h.rs (n-1-t) (by lia)
  rw[FZ h ht]
  refine⟨a,b,?_⟩
  rw[RJ h (by lia),c]
  lia
theorem LH{n:Nat}(hn:n<=7){r:RP}(h:Iv n r.1 r.2):cX 50 (M4 n r) r=(eB n,Zr n):=Cm hn (oF h) h λt ht=>by
 rw[FZ h ht,(h.rs (n-1-t) (by lia)).2.2]
 lia
theorem LJ{n:Nat}(hn:n<=7){r:RP}(h:Iv n r.1 r.2):cX 50 (jB n r) (M4 n r)=(eB n,Zr n):=Cm hn (uT h) (oF h) λt ht=>by
 have e:aa (jB n r).2 t=(n:Int)-1-aa r.2 (n-1-t):=bZ h.ls ht
 obtain⟨a,b,c⟩:=h.sr (n-1-t) (by lia)
 rw[e,FZ h (by lia),show n-1-((n:Int)-1-aa r.2 (n-1-t)).toNat=(aa r.2 (n-1-t)).toNat by lia,c]
 lia
def Pa(n:Nat)(c:RP)(ω:Int×List RP):Int×List RP:=Vl n ω.1 (ω.2++[c])
def Ma(n:Nat)(r:RP)(ω:Int×List RP):Int×List RP:=Vl n (ω.1+ -1) (ω.2.map (jB n)++[M4 n r])
structure Cv(n:Nat)(ω:Int×List RP):Prop where
 iv:aR n ω.2
 id:Vl n ω.1 ω.2=ω
theorem RK{n:Nat}(hn:n<=7)(h:Int){L:List RP}(hI:aR n L):Cv n (Vl n h L):=by
 obtain⟨k,s,g⟩:=oE hn hI
 have g2:=qX.drop (eg n (qY n L)) g
 have e:qY n (Vl n h L).2=(Vl n h L).2:=D7 (k:=0) hn g2.iv g2 (by rw[replicate_zero,append_nil];exact .nil _)
 have c:eg n (Vl n h L).2=0:=by
  have hd:=B8 (n:=n) (qY n L)
  show eg n ((qY n L).drop (eg n (qY n L)))=0
  cases e:(qY n L).drop (eg n (qY n L))with
  |nil=>rfl
  |cons p B=>
   unfold eg
   rw[List.takeWhile_cons_of_neg (by simpa using hd p B e)]
   rfl
 refine⟨g2.iv,?_⟩
 generalize Vl n h L=ω at e c
 show(ω.1+((eg n (qY n ω.2):Nat):Int),(qY n ω.2).drop (eg n (qY n ω.2)))=ω
 rw[e,c]
 exact Prod.ext (by show ω.1+((0:Nat):Int)=_;lia) rfl
section
variable{n:Nat}(hn:n<=7)(h2:2<=n)
include hn h2
theorem LK(h:Int){L:List RP}(hI:aR n L){c:RP}(ic:Iv n c.1 c.2):Vl n h (L++[c])=Pa n c (Vl n h L):=LB hn h2 h hI (.one ic)
theorem RL(h:Int){L:List RP}(hI:aR n L){r:RP}(ir:Iv n r.1 r.2):Vl n (h+ -1) (L.map (jB n)++[M4 n r])=Ma n r (Vl n h L):=LD hn h2 h hI (.one (oF ir)) (-1)
theorem Cn{ω:Int×List RP}(hc:Cv n ω){c:RP}(ic:Iv n c.1 c.2):Cv n (Pa n c ω):=RK hn _ (hc.iv.app (.one ic))
theorem yc{ω:Int×List RP}(hc:Cv n ω){r:RP}(ir:Iv n r.1 r.2):Cv n (Ma n r ω):=RK hn _ (hc.iv.jB.app (.one (oF ir)))
theorem F0{ω:Int×List RP}(hc:Cv n ω){p q:RP}(ip:Iv n p.1 p.2)(iq:Iv n q.1 q.2)(e:cX 50 p q=(eB n,Zr n)):Vl n (ω.1+ -1) (ω.2.map (jB n)++[p,q])=ω:=by
 have r:=(rN (n:=n) 50 p q ip iq).VQ []
 rw[e]at r
 have s2:=(AB hn (ω.2.map (jB n)) hc.iv.jB).M0 [Zr n]
 rw[List.append_assoc]at s2
 have hf:(ω.2.map (jB n)).map (jB n)=ω.2:=by
  rw[map_map]
  conv=>rhs;rw[<-map_id ω.2]
  exact map_congr_left λx hx=>AA (hc.iv x hx)
 rw[hf]at s2
 rw[uS hn _ (hc.iv.jB.app (.cons ip (.one iq))) ((ly.app _ r).trans s2),cons_append,Ay hn h2 _ (hc.iv.app (.one (cG n))),show ω.1+ -1+1=ω.1 by lia]
 have:=D8 (A:=ω.2) (B:=[]) hn ω.1 hc.iv (λx hx=>nomatch hx)
 rw[this,append_nil]
 exact hc.id
theorem yd{ω:Int×List RP}(hc:Cv n ω){r:RP}(ir:Iv n r.1 r.2):Ma n r (Pa n r ω)=ω:=by
 have e:Pa n r ω=Vl n ω.1 (ω.2++[r]):=rfl
 rw[e,<-RL hn h2 ω.1 (hc.iv.app (.one ir)) ir,map_append,List.append_assoc]
 exact F0 hn h2 hc (uT ir) (oF ir) (LJ hn ir)
theorem zD{ω:Int×List RP}(hc:Cv n ω){r:RP}(ir:Iv n r.1 r.2):Pa n r (Ma n r ω)=ω:=by
 have e:Ma n r ω=Vl n (ω.1+ -1) (ω.2.map (jB n)++[M4 n r]):=rfl
 rw[e,<-LK hn h2 _ (hc.iv.jB.app (.one (oF ir))) ir,List.append_assoc]
 exact F0 hn h2 hc (oF ir) ir (LH hn ir)
end
def Xr(n a:Nat):RP:=o4 (Zr n) a
theorem cR{n a:Nat}(h:a+1<n):Iv n (Xr n a).1 (Xr n a).2:=cg (p:=Zr n) (cG n) h
theorem U8{n a:Nat}(h:a+1<n):rL (Xr n a) a=Zr n:=by
 have iz:Iv n (Zr n).1 (Zr n).2:=cG n
 refine D9 (fj (cR h) h) iz λt ht=>?_
 show aa (cZ (rK (upTo n) a) a) t=aa (upTo n) t
 rw[dN (by rw[wF,ak];exact h),bq (by rw[ak];exact xP h ht),ar (xP h ht),ar ht]
 unfold sw sg
 repeat' split
 all_goals lia
theorem Yu{n a:Nat}(h:a+1<n):aa (Xr n a).2 (a+1)<aa (Xr n a).2 a:=by
 show aa (rK (upTo n) a) (a+1)<aa (rK (upTo n) a) a
 rw[bq (by rw[ak];exact h),bq (by rw[ak];lia),ar h,ar (by lia)]
 unfold sg
 repeat' split
 all_goals lia
theorem rO{n:Nat}(hn:n<=7)(h2:2<=n){ω:Int×List RP}(hc:Cv n ω){c:RP}(ic:Iv n c.1 c.2){a:Nat}(ha:a+1<n)(hu:aa c.1 a<aa c.1 (a+1)):Pa n (Xr n a) (Pa n c ω)=Pa n (o4 c a) ω:=by
 have e:Pa n c ω=Vl n ω.1 (ω.2++[c]):=rfl
 rw[e,<-LK hn h2 ω.1 (hc.iv.app (.one ic)) (cR ha),List.append_assoc]
 have s:ly n [c,Xr n a] [o4 c a,Zr n]:=by
  have:=vG.here (B:=[]) ha hu (Yu ha)
  rw[U8 ha]at this
  exact .cons this (.nil _)
 rw[show[c]++[Xr n a]=[c,Xr n a]from rfl,uS hn ω.1 (hc.iv.app (.cons ic (.one (cR ha)))) (ly.app ω.2 s)]
 have:=D8 (A:=ω.2++[o4 c a]) (B:=[]) hn ω.1 (hc.iv.app (.one (cg ic ha))) (λx hx=>nomatch hx)
 rw[List.append_assoc,append_nil]at this
 exact this
theorem RM(n:Nat)(f:Nat->Nat):S n (λi=>f (n-1-i))=S n f:=by
 induction n with
 |zero=>rfl
 |succ n ih=>
  rw[E4,jS,<-ih]
  rw[show n+1-1-0=n by lia,Nat.add_comm]
  congr 1
  exact gF λi _=>by rw[show n+1-1-(i+1)=n-1-i by lia]
def T2(n:Nat):Nat:=S n λq=>S n λp=>if p<q then 1 else 0
theorem LL{n:Nat}{r s:List Int}(h:Iv n r s):gG (fl n s)+gG s=T2 n:=by
 rw[zq,zq,oB,h.ls,<-BX]
 unfold T2
 refine gF λq hq=>?_
 rw[<-BX]
 refine gF λp hp=>?_
 by_cases hpq:p<q
 ·rw[if_pos hpq,if_pos hpq,if_pos hpq,tN (by rw[h.ls];exact hq),tN (by rw[h.ls];exact hp)]
  have hne:aa s p≠aa s q:=λz=>by
   have:=h.Il hp hq z
   lia
  repeat' split
  all_goals lia
 ·rw[if_neg hpq,if_neg hpq,if_neg hpq]
theorem F3{n:Nat}{r s:List Int}(h:Iv n r s):gG s.reverse+gG s=T2 n:=by
 have e1:gG s.reverse=S n λq=>S n λp=>if p<q then(if aa s p<aa s q then 1 else 0)else 0:=by
  rw[zq,length_reverse,h.ls,KC n n λq p=>if p<q then(if aa s p<aa s q then 1 else 0)else 0,<-RM n λp=>S n λq=>if p<q then(if aa s p<aa s q then 1 else 0)else 0]
  refine gF λq hq=>?_
  rw[<-RM n λq_1=>if n-1-q<q_1 then(if aa s (n-1-q)<aa s q_1 then 1 else 0)else 0]
  refine gF λp hp=>?_
  rw[fV (by rw[h.ls];exact hq),fV (by rw[h.ls];exact hp),h.ls]
  by_cases hpq:p<q
  ·have hq2:n-1-q<n-1-p:=by lia
   rw[if_pos hpq,if_pos hq2]
  ·have hq2:¬n-1-q<n-1-p:=by lia
   rw[if_neg hpq,if_neg hq2]
 rw[e1,zq,h.ls,<-BX]
 unfold T2
 refine gF λq hq=>?_
 rw[<-BX]
 refine gF λp hp=>?_
 by_cases hpq:p<q
 ·rw[if_pos hpq,if_pos hpq,if_pos hpq]
  have hne:aa s p≠aa s q:=λz=>by
   have:=h.Il hp hq z
   lia
  repeat' split
  all_goals lia
 ·rw[if_neg hpq,if_neg hpq,if_neg hpq]
def M5(k:Int):Int:=if 0<k then 1 else-1
def uU(w:List Int):Int:=(w.map M5).sum
theorem AD(a b:List Int):uU (a++b)=uU a+uU b:=by unfold uU;rw[map_append,sum_append]
def lM(h:Int)(o:List Int):List Int:=if h%2=0 then o else o.reverse
theorem Co(h:Int)(o:List Int):(lM h o).length=o.length:=by unfold lM;split<;>simp
theorem gk(o r:List Int):(cmp o r).length=r.length:=by unfold cmp;exact length_map _
theorem F4:∀(w o:List Int),(lJ w o).length=o.length
 |[],o=>rfl
 |k::w,o=>by
  show(lJ w (cZ o _)).length=_
  rw[F4 w,bQ]
theorem U9{n:Nat}{o:List Int}(h:o.length=n):cmp o (upTo n)=o:=by
 refine aY (by rw[gk,ak,h]) λt ht=>?_
 rw[gk,ak]at ht
 rw[dX (by rw[ak];exact ht),ar ht,toNat_natCast]
theorem F5{n:Nat}{o:List Int}(h:o.length=n)(w:List Int):lJ w o=cmp o (lJ w (upTo n)):=by
 conv=>lhs;rw[<-U9 h]
 unfold cmp
 exact Au _ w _
theorem tQ(a b o:List Int):lJ (a++b) o=lJ b (lJ a o):=foldl_append
theorem Va{n:Nat}{o r s:List Int}(h:o.length=n)(i:Iv n r s):cmp o.reverse (fl n s)=cmp o s:=by
 refine aY (by rw[gk,gk,oB]) λt ht=>?_
 rw[gk,oB,i.ls]at ht
 obtain⟨a1,a2,_⟩:=i.sr t ht
 rw[dX (by rw[oB,i.ls];exact ht),dX (by rw[i.ls];exact ht),tN (by rw[i.ls];exact ht),fV (by rw[h];lia),h]
 congr 1
 lia
theorem LM{n:Nat}{r s:List Int}(h:Iv n r s)(hr:Iv n r.reverse (wK r.reverse)):gG (fl n r.reverse)=gG r:=by
 have e1:=LL hr.symm
 have e2:=F3 h.symm
 lia
theorem Cp{n:Nat}{o r s:List Int}(h:o.length=n)(i:Iv n r s):cmp o.reverse (fl n r.reverse)=(cmp o r).reverse:=by
 refine aY (by rw[gk,oB,length_reverse,length_reverse,gk]) λt ht=>?_
 rw[gk,oB,length_reverse,i.lr]at ht
 obtain⟨a1,a2,_⟩:=i.rs (n-1-t) (by lia)
 have e1:aa r.reverse t=aa r (n-1-t):=by rw[fV (by rw[i.lr];exact ht),i.lr]
 have e2:aa (cmp o r).reverse t=aa (cmp o r) (n-1-t):=by rw[fV (by rw[gk,i.lr];exact ht),gk,i.lr]
 rw[dX (by rw[oB,length_reverse,i.lr];exact ht),tN (by rw[length_reverse,i.lr];exact ht),e1,e2,fV (by rw[h];lia),h,dX (by rw[i.lr];lia)]
 congr 1
 lia
def j3(n:Nat)(h:Int)(r:List Int):List Int:=if h%2=0 then r else fl n r.reverse
theorem HJ{n:Nat}(h:Int){r:List Int}(hr:bF n r):bF n (j3 n h r):=by
 unfold j3
 split
 ·exact hr
 ·exact Ls (FN hr)
theorem HK{n:Nat}(h:Int){r:List Int}(hr:bF n r):gG (j3 n h r)=gG r:=by
 unfold j3
 split
 ·rfl
 ·exact LM (p6 hr) (p6 (FN hr))
theorem HL{n:Nat}(h g:Int){o r:List Int}(ho:o.length=n)(hr:bF n r):cmp (lM (g+h) o) (j3 n h r)=lM h (cmp (lM g o) r):=by
 unfold j3 lM
 by_cases c:h%2=0
 ·rw[if_pos c,if_pos c]
  by_cases d:g%2=0
  ·rw[if_pos d,if_pos (by lia)]
  ·rw[if_neg d,if_neg (by lia)]
 ·rw[if_neg c,if_neg c]
  by_cases d:g%2=0
  ·rw[if_pos d,if_neg (by lia),Cp ho (p6 hr)]
  ·rw[if_neg d,if_pos (by lia)]
   have:=Cp (o:=o.reverse) (by rw[length_reverse];exact ho) (p6 hr)
   rw[reverse_reverse]at this
   exact this
abbrev hS(qs:List (Int×List Int)):Int:=(qs.map (·.1)).sum
def dH(n:Nat):List (Int×List Int)->List (List Int)
 |[]=>[]
 |q::qs=>j3 n (hS qs) q.2::dH n qs
def LN(o:List Int)(qs:List (Int×List Int)):List Int:=qs.foldl (λo q=>cmp (lM q.1 o) q.2) o
theorem uV(n:Nat):∀qs,(dH n qs).length=qs.length
 |[]=>rfl
 |q::qs=>by show(dH n qs).length+1=_;rw[uV n qs];rfl
theorem zE{n:Nat}:∀(qs:List (Int×List Int)),(∀q∈qs,bF n q.2)->∀r∈dH n qs,bF n r
 |[],_,r,hr=>nomatch hr
 |q::qs,h,r,hr=>by
  rcases mem_cons.mp hr with rfl|hr
  ·exact HJ _ (h q (by simp))
  ·exact zE qs (λx hx=>h x (by simp[hx])) r hr
theorem zF{n:Nat}:∀(qs:List (Int×List Int))(o:List Int),(∀q∈qs,bF n q.2)->o.length=n->yS (lM (hS qs) o) (dH n qs)=LN o qs
 |[],o,_,_=>by
  show lM 0 o=o
  rfl
 |q::qs,o,h,ho=>by
  have hq:=h q (by simp)
  have ih:=zF qs (cmp (lM q.1 o) q.2) (λx hx=>h x (by simp[hx])) (by rw[gk,hq.len])
  show yS (cmp (lM (hS (q::qs)) o) (j3 n (hS qs) q.2)) (dH n qs)=LN (cmp (lM q.1 o) q.2) qs
  rw[<-ih,show hS (q::qs)=q.1+hS qs from rfl,HL _ _ ho hq]
theorem zG{n:Nat}:∀(qs:List (Int×List Int)),(∀q∈qs,bF n q.2)->kH (dH n qs)=kH (qs.map (·.2))
 |[],_=>rfl
 |q::qs,h=>by
  have ih:=zG qs λx hx=>h x (by simp[hx])
  have e:∀(r:List Int)(R:List (List Int)),kH (r::R)=gG r+kH R:=λr R=>by unfold kH;rw[map_cons,sum_cons]
  show kH (j3 n (hS qs) q.2::dH n qs)=kH (q.2::qs.map (·.2))
  rw[e,e,ih,HK _ (h q (by simp))]
abbrev rP(k:Int):Int:=if k<0 then-k else k
theorem RN{n:Nat}{k:Int}(h:bC n k):∃a:Nat,rP k=(a:Int)+1/\a+1<n:=by
 unfold bC at h
 unfold rP
 split
 ·exact⟨(-k-1).toNat,by lia,by lia⟩
 ·exact⟨(k-1).toNat,by lia,by lia⟩
theorem Vb{n:Nat}{p:List Int}(h:∀k∈p,bC n k):Ps n (p.map rP):=λk hk=>by
 obtain⟨x,hx,rfl⟩:=mem_map.mp hk
 exact RN (h x hx)
theorem LO(a b:Bool):AU (.bl a) (.bl b)=some (.bl (!(a==b))):=rfl
theorem Pe:Ik []=some []:=rfl
theorem Cq{α:Type}(l:List α)(x y:α):(l++[x]).set l.length y=l++[y]:=by simp
structure Gp(n:Nat)(p:List Int):Prop where
 ne:p≠[]
 x:∀k∈p,bC n k
 sg:(∀k∈p,0<k)\/∀k∈p,k<0
 le:∃z,eT (p.map rP) (upTo n)=some z
structure Vc(n i:Nat)(u:List Int)(jR:List (List Int))(o:List Int)(s:Bool):Prop where
 len:jR.length<=i
 lo:o.length=n
 good:∀p∈jR,Gp n p/\p.length<=i
 fla:jR.flatten=u
 last:jR=[]\/∃ini cur,jR=ini++[cur]/\(∀k∈cur,s=decide (0<k))/\eT (cur.map rP) (upTo n)=some o
theorem wR{i:Nat}{env:DE}{a v:Int}{l:List Int}(h:0<=a)(h2:a<l.length):vM i env (.int v) (aM l) (.int a)=.ok (.nx (env.set i (.own (aM (l.set a.toNat v))))):=by
 rw[ni h (by rw[aW];exact h2)]
 unfold aM
 rw[map_set]
theorem F6{l:List Int}{a:Nat}(h:a+1<l.length):(l.set (a+1) (aa l a)).set a (aa l (a+1))=cZ l a:=by
 refine aY (by rw[length_set,length_set,bQ]) λj hj=>?_
 rw[length_set,length_set]at hj
 rw[xJ (by rw[length_set];exact hj),xJ hj,bB _ _ h]
 repeat' split
 all_goals first|rfl|lia|(subst_vars;rfl)
theorem Vd{n i:Nat}(hn:n<=7)(hi:i<100){jR:List (List Int)}{o:List Int}{s:Bool}{u:List Int}(J:Vc n i u jR o s){k:Int}(hk:bC n k)(s1 s5 s6 s7:Sl):
  ∃Yv o' s' t5 t6 t7,pW (.int k) [.val (.int n),s1,.deep (.ls jR),.own (aM o),.val (.bl s),s5,s6,s7]=.ok (.nx [.val (.int n),s1,.deep (.ls Yv),.own (aM o'),.val (.bl s'),t5,t6,t7])/\Vc n (i+1) (u++[k]) Yv o' s':=by
 obtain⟨a,ea,ha⟩:=RN hk
 have lo:=J.lo
 have hlen:=J.len
 have at1:i6 (aM o) ((a:Int)+1-1)=some (.int (aa o a)):=by rw[jq (by lia) (by lia),show((a:Int)+1-1).toNat=a by lia]
 have at2:i6 (aM o) ((a:Int)+1)=some (.int (aa o (a+1))):=by rw[jq (by lia) (by lia),show((a:Int)+1).toNat=a+1 by lia]
 have ku:i6 (aM (upTo n)) ((a:Int)+1-1)=some (.int (aa (upTo n) a)):=by rw[jq (by lia) (by rw[ak];lia),show((a:Int)+1-1).toNat=a by lia]
 have ku2:i6 (aM (upTo n)) ((a:Int)+1)=some (.int (aa (upTo n) (a+1))):=by rw[jq (by lia) (by rw[ak];lia),show((a:Int)+1).toNat=a+1 by lia]
 have hgk:Gp n [k]:=⟨by simp,λx hx=>by rw[mem_singleton.mp hx];exact hk,by
  unfold bC at hk
  by_cases c:0<k
  ·exact .inl λx hx=>by rw[mem_singleton.mp hx];exact c
  ·exact .inr λx hx=>by rw[mem_singleton.mp hx];lia,⟨cZ (upTo n) a,by
   show eT [rP k] (upTo n)=_
   rw[ea,kI (n:=n),if_neg (by rw[ar (by lia),ar (by lia)];lia)]
   rfl⟩⟩
 have hkl:eT [rP k] (upTo n)=some (cZ (upTo n) a):=by
  rw[ea,kI (n:=n),if_neg (by rw[ar (by lia),ar (by lia)];lia)]
  rfl
 by_cases hnew:jR=[]\/s≠decide (0<k)\/aa o (a+1)<aa o a
 ·refine⟨jR++[[k]],cZ (upTo n) a,decide (0<k),.val (.int k),.val (.int ((a:Int)+1)),.val (.int (aa (upTo n) (a+1))),?_,⟨by simp;lia,by rw[bQ,ak],λp hp=>?_,by rw[flatten_append,J.fla];simp,.inr ⟨jR,[k],rfl,λx hx=>by rw[mem_singleton.mp hx],hkl⟩⟩⟩
  ·have LP:(if(((jR.length:Nat):Int)==0)=true then R.ok true else if(!(s==decide (0<k)))=true then R.ok true else R.ok (decide (aa o (a+1)<aa o a)):R Bool)=.ok true:=by
    rcases hnew with h|h|h
    ·rw[if_pos (by rw[h];rfl)]
    ·split
     ·rfl
     ·rw[if_pos (by simpa using h)]
    ·rw[decide_eq_true h]
     repeat' split
     all_goals rfl
   unfold pW
   simp_all only [j0,mS,mD,mF,gp,aN,reduceAdd,reduceSub,reduceEqDiff,reduceIte,ah,ai,aG,aH,aI,aJ,Lv,LO,ea,at1,at2,length_map,LP,lq,lu,Pe]
   rw[FP (by lia)]
   dsimp [lq,lu,uQ]
   rw[mx n hn]
   dsimp [lq,lu,uQ]
   rw[FO (by simp)]
   dsimp [ku,ku2]
   rw[wR (by lia) (by rw[ak];lia)]
   dsimp
   rw[wR (by lia) (by rw[length_set,ak];lia)]
   dsimp
   rw[show((a:Int)+1).toNat=a+1 by lia,show((a:Int)+1-1).toNat=a by lia,F6 (by rw[ak];lia),Cq]
  ·rcases mem_append.mp hp with h|h
   ·exact⟨(J.good p h).1,by have:=(J.good p h).2;lia⟩
   ·rw[mem_singleton.mp h]
    exact⟨hgk,by simp⟩
 ·have h1:jR≠[]:=λz=>hnew (.inl z)
  have h2:s=decide (0<k):=byContradiction λz=>hnew (.inr (.inl z))
  have h3:¬aa o (a+1)<aa o a:=λz=>hnew (.inr (.inr z))
  obtain⟨ini,cur,rfl,hs,hl⟩:=J.last.resolve_left h1
  obtain⟨gc,gl⟩:=J.good cur (by simp)
  have Yw:eT ((cur++[k]).map rP) (upTo n)=some (cZ o a):=by
   rw[map_append,map_cons,map_nil,zA,hl,ea]
   show eT [(a:Int)+1] o=_
   rw[kI (n:=n),if_neg h3]
   rfl
  refine⟨ini++[cur++[k]],cZ o a,s,.val (.int k),.val (.int ((a:Int)+1)),.val (.int (aa o (a+1))),?_,⟨by simp at hlen⊢;lia,by rw[bQ,lo],λp hp=>?_,by have:=J.fla;rw[flatten_append]at this⊢;rw[<-this];simp,.inr ⟨ini,cur++[k],rfl,λx hx=>?_,Yw⟩⟩⟩
  ·have LP:(if((((ini++[cur]).length:Nat):Int)==0)=true then R.ok true else if(!(s==decide (0<k)))=true then R.ok true else R.ok (decide (aa o (a+1)<aa o a)):R Bool)=.ok false:=by
    rw[if_neg (by simp;lia),h2,if_neg (by simp),decide_eq_false h3]
   unfold pW
   simp_all only [j0,reduceIte,ah,ai,aG,aH,aI,aJ,Lv,LO,ea,at1,at2,length_map,LP,lq,lu,uQ]
   rw[FO (by lia)]
   dsimp [at1,at2]
   rw[wR (by lia) (by lia)]
   dsimp
   rw[wR (by lia) (by rw[length_set];lia)]
   dsimp
   rw[show((a:Int)+1).toNat=a+1 by lia,show((a:Int)+1-1).toNat=a by lia,F6 (by lia),Cq]
  ·rcases mem_append.mp hp with h|h
   ·exact⟨(J.good p (by simp[h])).1,by have:=(J.good p (by simp[h])).2;lia⟩
   ·rw[mem_singleton.mp h]
    refine⟨⟨by simp,λx hx=>?_,?_,⟨_,Yw⟩⟩,by rw[length_append,length_singleton];lia⟩
    ·rcases mem_append.mp hx with q|q
     ·exact gc.x x q
     ·rw[mem_singleton.mp q];exact hk
    ·have NI:=hk
     unfold bC at NI
     by_cases c:0<k
     ·refine .inl λx hx=>?_
      rcases mem_append.mp hx with q|q
      ·have:=hs x q
       rw[h2,decide_eq_true c]at this
       exact of_decide_eq_true this.symm
      ·rw[mem_singleton.mp q];exact c
     ·refine .inr λx hx=>?_
      rcases mem_append.mp hx with q|q
      ·have:=hs x q
       rw[h2,decide_eq_false c]at this
       have:=of_decide_eq_false this.symm
       have:=(gc.x x q).1
       lia
      ·rw[mem_singleton.mp q];lia
  ·rcases mem_append.mp hx with q|q
   ·exact hs x q
   ·rw[mem_singleton.mp q];exact h2
theorem Ve{n:Nat}(hn:n<=7){w:List Int}(hw:∀k∈w,bC n k)(hl:w.length<=100):∃jR:List (List Int),BW [.int n,.lst (aM w)]=.ok jR/\jR.flatten=w/\jR.length<=w.length/\∀p∈jR,Gp n p/\p.length<=w.length:=by
 unfold BW Q8 mT
 simp_all
 rw[mx n hn]
 dsimp
 obtain⟨⟨jR,o,s,t5,t6,t7⟩,e,hj⟩:=rG (S:=List (List Int)×List Int×Bool×Sl×Sl×Sl) (b:=pW) (λi q=>Vc n i (w.take i) q.1 q.2.1 q.2.2.1)
  (λq=>[.val (.int n),.val (.lst (aM w)),.deep (.ls q.1),.own (aM q.2.1),.val (.bl q.2.2.1),q.2.2.2.1,q.2.2.2.2.1,q.2.2.2.2.2]) (aM w) 0 ([],upTo n,false,.no,.no,.no)
  ⟨Nat.le_refl _,ak n,(λp hp=>nomatch hp),rfl,.inl rfl⟩ (by
   rintro j ⟨jR,o,s,t5,t6,t7⟩ x hs hx
   obtain⟨k,hk,rfl⟩:=EV hx
   have UY:j<w.length:=(List.getElem?_eq_some_iff.mp hk).1
   obtain⟨p1,o1,s1,u5,u6,u7,e,hJ⟩:=Vd hn (show 0+j<100 by lia) hs (hw k (mem_of_getElem? hk)) (.val (.lst (aM w))) t5 t6 t7
   refine⟨(p1,o1,s1,u5,u6,u7),e,?_⟩
   rw[Nat.zero_add]at hJ⊢
   rw[BO hk]
   exact hJ)
 dsimp only at e hj
 rw[e]
 rw[Nat.zero_add,aW]at hj
 dsimp [lq,lu,JI]
 exact⟨jR,rfl,by rw[hj.fla,take_length],hj.len,hj.good⟩
theorem HM(w:List Int)(hw:w.length<=1000):pS [.lst (aM w)]=.ok (aM (w.reverse.map λk=> -k)):=by
 unfold pS BR
 simp_all [Aa,iZ]
 rw[n9 (λk=> -k) w.reverse λk _=>⟨_,j0 _ _ _,rfl,rfl⟩]
 dsimp [R.n8]
 rw[bj (by rw[length_map,length_reverse];lia)]
 dsimp [gx]
def CP(q:Int×List Int):D:=.tup [.int q.1,.lst (aM q.2)]
def SpA(n:Nat)(p:List Int)(q:Int×List Int):Prop:=(q.1=0/\(∀k∈p,0<k)/\eT p (upTo n)=some q.2)\/(q.1= -1/\(∀k∈p,k<0)/\∃z,eT (p.reverse.map λk=> -k) (upTo n)=some z/\Iv n z (lJ (p.map rP) (upTo n))/\q.2=fl n (lJ (p.map rP) (upTo n)))
structure VR(n:Nat)(p:List Int)(q:Int×List Int):Prop where
 h:q.1=0\/q.1= -1
 r:bF n q.2
 o:∀o:List Int,o.length=n->cmp (lM q.1 o) q.2=lJ (p.map rP) o
 c:q.1*(T2 n:Int)+(gG q.2:Int)=uU p
 a:SpA n p q
theorem LQ:∀{p:List Int},(∀k∈p,0<k)->uU p=p.length
 |[],_=>rfl
 |k::p,h=>by
  have ih:=LQ (p:=p) λx hx=>h x (by simp[hx])
  unfold uU at ih⊢
  rw[map_cons,sum_cons,ih,length_cons]
  unfold M5
  rw[if_pos (h k (by simp))]
  lia
theorem LR:∀{p:List Int},(∀k∈p,k<0)->uU p= -(p.length:Int)
 |[],_=>rfl
 |k::p,h=>by
  have ih:=LR (p:=p) λx hx=>h x (by simp[hx])
  have:=h k (by simp)
  unfold uU at ih⊢
  rw[map_cons,sum_cons,ih,length_cons]
  unfold M5
  rw[if_neg (by lia)]
  lia
theorem Pf{n:Nat}(hn:n<=7){p:List Int}(g:Gp n p)(hl:p.length<=1000):∃q,nC [.int n,.lst (aM p)]=.ok (CP q)/\VR n p q:=by
 obtain⟨k0,p',rfl⟩:=List.exists_cons_of_ne_nil g.ne
 obtain⟨z,hz⟩:=g.le
 have hp:=Vb g.x
 have at0:i6 (aM (k0::p')) 0=some (.int k0):=by rw[nX,qA (by decide)];rfl
 unfold nC zp
 simp_all [at0]
 rcases g.sg with hs|hs
 ·have e:(k0::p').map rP=k0::p':=by
   conv=>rhs;rw[<-map_id (k0::p')]
   refine map_congr_left λx hx=>?_
   have:=hs x hx
   show(if x<0 then-x else x)=x
   rw[if_neg (by lia)]
  rw[e]at hp hz
  simp_all [decide_eq_true (hs k0 (by simp)),zB hn hp hz]
  obtain⟨w1,w2⟩:=qj (k0::p') _ _ z hp (qi n) hz
  refine⟨(0,z),rfl,⟨.inl rfl,uP (FJ hp hz),λo ho=>?_,?_,.inl ⟨rfl,hs,hz⟩⟩⟩
  ·rw[e,F5 ho,<-w1]
   rfl
  ·rw[LQ hs]
   dsimp only
   rw[w2,O0 n (by lia)]
   lia
 ·have e:(k0::p').map rP=(k0::p').map λk=> -k:=map_congr_left λx hx=>by
   have:=hs x hx
   show(if x<0 then-x else x)= -x
   rw[if_pos this]
  rw[e]at hp hz
  have hk0:=hs k0 (by simp)
  have hr:=Lr hp hz
  rw[<-map_reverse]at hr
  have YK:Ps n ((k0::p').reverse.map λk=> -k):=λx hx=>hp x (by
   rw[map_reverse,mem_reverse]at hx
   exact hx)
  simp_all [decide_eq_false (show¬0<k0 by lia),HM _ hl,zB hn YK hr]
  have iv:=FJ YK hr
  unfold jo rq
  simp_all [HG iv hn]
  have es:lJ ((k0::p').reverse.map λk=> -k).reverse (upTo n)=lJ ((k0::p').map rP) (upTo n):=by rw[e,map_reverse,reverse_reverse]
  rw[es]at iv⊢
  obtain⟨w1,w2⟩:=qj ((k0::p').map λk=> -k) _ _ z hp (qi n) hz
  rw[<-e]at w1
  refine⟨(-1,fl n (lJ ((k0::p').map rP) (upTo n))),rfl,⟨.inr rfl,Ls (uP iv.symm),λo ho=>?_,?_,.inr ⟨rfl,hs,_,hr,iv,rfl⟩⟩⟩
  ·show cmp o.reverse (fl n (lJ ((k0::p').map rP) (upTo n)))=_
   rw[Va ho iv,<-F5 ho]
  ·rw[LR hs]
   dsimp only
   have e1:=LL iv
   rw[<-w1]at e1⊢
   rw[w2,O0 n (by lia),length_map]at e1
   lia
inductive F2 {α β:Type} (R:α->β->Prop):List α->List β->Prop
 |nil:F2 R [] []
 |cons {a:α} {b:β} {l:List α} {m:List β}:R a b->F2 R l m->F2 R (a::l) (b::m)
theorem ye{n:Nat}(hn:n<=7):∀(ps:List (List Int)),(∀p∈ps,Gp n p/\p.length<=1000)->∃qs:List (Int×List Int),cY (bN 0) gU cQ (jY 1 [.int n]) (ps.map λns=>D.lst (ns.map D.int))=.ok (qs.map CP)/\qs.length=ps.length/\
  (∀q∈qs,(q.1=0\/q.1= -1)/\bF n q.2)/\(∀o:List Int,o.length=n->LN o qs=lJ (ps.flatten.map rP) o)/\hS qs*(T2 n:Int)+(kH (qs.map (·.2)):Int)=uU ps.flatten/\F2 (VR n) ps qs
 |[],_=>⟨[],rfl,rfl,(λq hq=>nomatch hq),(λo _=>rfl),(by show(0:Int)*_+0=0;rw[Int.zero_mul];rfl),.nil⟩
 |p::ps,h=>by
  obtain⟨qs,e1,e2,e3,e8,e9,e10⟩:=ye hn ps λx hx=>h x (by simp[hx])
  obtain⟨q,e4,e5⟩:=Pf hn (h p (by simp)).1 (h p (by simp)).2
  refine⟨q::qs,?_,by rw[length_cons,length_cons,e2],λx hx=>?_,λo ho=>?_,?_,.cons e5 e10⟩
  ·rw[map_cons]
   unfold cY
   rw[e1]
   have e6:cQ [.val (.lst (aM p)),.val (.int n)]=.ok (CP q):=by
    unfold cQ
    simp_all [e4]
   rw[j0,R.bO,show gU _=.ok true from rfl,R.bO,if_pos rfl]
   have e7:cQ (List.set (jY 1 [.int n]) 0 (.val (.lst (p.map D.int))))=.ok (CP q):=e6
   rw[e7]
   rfl
  ·rcases mem_cons.mp hx with rfl|hx
   ·exact⟨e5.h,e5.r⟩
   ·exact e3 x hx
  ·show LN (cmp (lM q.1 o) q.2) qs=_
   rw[e5.o o ho,e8 _ (by rw[F4,ho]),flatten_cons,map_append,tQ]
  ·have hc:=e5.c
   have e:kH (q.2::qs.map (·.2))=gG q.2+kH (qs.map (·.2)):=by unfold kH;rw[map_cons,sum_cons]
   show(q.1+hS qs)*(T2 n:Int)+(kH (q.2::qs.map (·.2)):Int)=_
   rw[e,flatten_cons,AD,<-hc,<-e9,Int.add_mul]
   lia
theorem F7:∀(l:List Int)(a:Nat),cZ (cZ l a) a=l
 |[],a=>by cases a<;>rfl
 |[x],0=>rfl
 |x::y::l,0=>rfl
 |x::l,a+1=>by rw[rz,rz,F7 l a]
theorem Pg(k:Int):rP (-k)=rP k:=by unfold rP;split<;>split<;>lia
theorem Ph{k:Int}(h:k≠0):M5 (-k)= -M5 k:=by unfold M5;split<;>split<;>lia
theorem HN{k:Int}(h:k≠0)(s:List Int):uU (bU s k)=uU s+M5 k/\∀o,lJ ((bU s k).map rP) o=lJ ((s++[k]).map rP) o:=by
 unfold bU
 have e1:∀k,uU [k]=M5 k:=λk=>by simp[uU]
 split
 ·rename_i hl
  have hne:s≠[]:=λz=>by rw[z]at hl;cases hl
  have yA:s.dropLast++[-k]=s:=by
   have:=List.dropLast_concat_getLast hne
   rw[List.getLast?_eq_some_getLast hne]at hl
   rw[Option.some.inj hl]at this
   exact this
  have h2:uU s=uU s.dropLast+M5 (-k):=by
   conv=>lhs;rw[<-yA]
   rw[AD,e1]
  refine⟨by rw[h2,Ph h];lia,λo=>?_⟩
  conv=>rhs;rw[<-yA]
  rw[map_append,map_append,tQ,tQ]
  show _=cZ (cZ _ (rP (-k)-1).toNat) (rP k-1).toNat
  rw[Pg,F7]
 ·exact⟨by rw[AD,e1],λo=>rfl⟩
theorem zH:∀(w s:List Int),(∀k∈w,k≠0)->uU (bG s w)=uU s+uU w/\∀o,lJ ((bG s w).map rP) o=lJ ((s++w).map rP) o
 |[],s,_=>⟨by simp[bG,uU],λo=>by rw[append_nil];rfl⟩
 |k::w,s,h=>by
  obtain⟨p1,p2⟩:=HN (h k (by simp)) s
  obtain⟨t1,t2⟩:=zH w (bU s k) λx hx=>h x (by simp[hx])
  have e:uU (k::w)=M5 k+uU w:=by unfold uU;rw[map_cons,sum_cons]
  refine⟨?_,λo=>?_⟩
  ·show uU (bG (bU s k) w)=_
   rw[t1,p1,e]
   lia
  ·show lJ ((bG (bU s k) w).map rP) o=_
   rw[t2,map_append,tQ,p2,<-tQ,<-map_append,List.append_assoc]
   rfl
theorem LS{n:Nat}(hn:n<=7){w:List Int}(hw:∀k∈w,bC n k)(hl:w.length<=40):∃qs:List (Int×List Int),eM [.int n,.lst (aM w)]=.ok (.lst (qs.map CP))/\qs.length<=w.length/\
  (∀q∈qs,(q.1=0\/q.1= -1)/\bF n q.2)/\(∀o:List Int,o.length=n->LN o qs=lJ (w.map rP) o)/\hS qs*(T2 n:Int)+(kH (qs.map (·.2)):Int)=uU w/\∃jR:List (List Int),jR.flatten=bG [] w/\(∀p∈jR,Gp n p)/\F2 (VR n) jR qs:=by
 have YT:=tP w []
 simp -implicitDefEqProofs only [length_nil]at YT
 obtain⟨t1,t2⟩:=zH w [] λk hk=>(hw k hk).1
 obtain⟨jR,e1,ef,e2,e3⟩:=Ve hn (w:=bG [] w) (λk hk=>by
  rcases Cg w [] k hk with h|h
  ·cases h
  ·exact hw k h) (by lia)
 obtain⟨qs,e4,e5,e6,e7,e8,e10⟩:=ye hn jR λp hp=>⟨(e3 p hp).1,by have:=(e3 p hp).2;lia⟩
 rw[ef]at e7 e8
 refine⟨qs,?_,by lia,e6,λo ho=>by rw[e7 o ho,t2];rfl,(by rw[e8,t1];show 0+uU w=_;lia),jR,ef,λp hp=>(e3 p hp).1,e10⟩
 unfold eM oZ
 simp_all [D3 w (by lia),e1,R.n8,iZ,e4]
 rw[nW (by rw[length_map];exact big (by lia))]
 dsimp
theorem Pj{n:Nat}(hn:n<=7)(h:Int){r:List Int}(hr:bF n r):gA [.int h,.lst (aM r)]=.ok (aM (j3 n h r)):=by
 unfold gA rn j3
 simp_all
 rw[fK _ _ (by decide)]
 dsimp
 by_cases c:h%2=0
 ·rw[if_pos c]
  dsimp [show(h%2==0)=true by rw[beq_iff_eq];exact c,gx]
 ·rw[if_neg c]
  dsimp [show(h%2==0)=false by rw[beq_eq_false_iff_ne];exact c,D2 hr.len hn,gx]
theorem Pk{n:Nat}(hn:n<=7){qs:List (Int×List Int)}(hq:∀q∈qs,bF n q.2)(hl:qs.length<=100):bp [.lst (qs.map CP)]=.ok (dH n qs):=by
 unfold bp jH mT
 simp_all
 obtain⟨⟨rs,h,t3⟩,e,hj1,OT⟩:=rG (S:=List (List Int)×Int×Sl) (b:=dU) (λi q=>q.1=(dH n (qs.drop (qs.length-i))).reverse/\q.2.1=hS (qs.drop (qs.length-i)))
  (λq=>[.val (.lst (qs.map CP)),.deep (.ls q.1),.val (.int q.2.1),q.2.2]) (qs.map CP).reverse 0 ([],0,.no) ⟨by rw[sub_zero,drop_length];rfl,by rw[sub_zero,drop_length];rfl⟩ (by
   rintro j ⟨rs,h,t3⟩ x ⟨hs1,hs2⟩ hx
   rw[Nat.zero_add]at hs1 hs2⊢
   dsimp only at hs1 hs2
   have UY:j<(qs.map CP).reverse.length:=(List.getElem?_eq_some_iff.mp hx).1
   rw[length_reverse,length_map]at UY
   rw[getElem?_reverse (by rw[length_map];exact UY),length_map,getElem?_map,getElem?_eq_getElem (show qs.length-1-j<qs.length by lia)]at hx
   have CY:x=CP (qs[qs.length-1-j]'(by lia)):=(Option.some.inj hx).symm
   have hd:qs.drop (qs.length-(j+1))=(qs[qs.length-1-j]'(by lia))::qs.drop (qs.length-j):=by
    rw[show qs.length-(j+1)=qs.length-1-j by lia,drop_eq_getElem_cons (by lia),show qs.length-1-j+1=qs.length-j by lia]
   have hqm:(qs[qs.length-1-j]'(by lia))∈qs:=getElem_mem _
   generalize (qs[qs.length-1-j]'(by lia))=q at CY hd hqm
   obtain⟨hh,r⟩:=q
   subst CY
   have e1:=Pj hn h (hq _ hqm)
   have hlen:rs.length<=100:=by rw[hs1,length_reverse,uV,length_drop];lia
   refine⟨(rs++[j3 n h r],h+hh,.val (CP (hh,r))),?_,?_,?_⟩
   ·unfold dU
    have a1:i6 [D.int hh,.lst (aM r)] 1=some (.lst (aM r)):=rfl
    have a0:i6 [D.int hh,.lst (aM r)] 0=some (.int hh):=rfl
    simp_all only [j0,reduceIte,ah,ai,aG,aH,aI,aJ,CP,lq,lu,a1,a0,e1,Dm]
    rw[FP (by lia)]
    dsimp [a0,G7]
   ·show rs++[j3 n h r]=_
    rw[hd,hs1,hs2]
    show _=(j3 n (hS (qs.drop (qs.length-j))) r::dH n (qs.drop (qs.length-j))).reverse
    rw[reverse_cons]
   ·show h+hh=_
    rw[hd,hs2]
    show _=hh+hS (qs.drop (qs.length-j))
    lia)
 dsimp only at e hj1 OT
 rw[e]
 rw[Nat.zero_add,length_reverse,length_map,sub_self,drop_zero]at hj1
 dsimp [lq,lu,JI,hj1,reverse_reverse]
theorem Cr{n:Nat}(hn:n<=7):∀(rs:List (List Int))(R:List RP),(∀r∈rs,bF n r)->qX n R->(∀o:List Int,o.length=n->yS o ((rs.foldl (λR r=>fA n R (r,wK r)) R).map (·.1))=yS o (R.map (·.1)++rs))/\kH ((rs.foldl (λR r=>fA n R (r,wK r)) R).map (·.1))=kH (R.map (·.1))+kH rs
 |[],R,_,_=>⟨λo _=>by rw[append_nil];rfl,by simp[kH]⟩
 |r::rs,R,hr,h=>by
  have iv:=p6 (hr r (by simp))
  obtain⟨a1,a2⟩:=OP hn (qi n) (O0 n (by lia)) (c:=(r,wK r)) h.iv iv
  obtain⟨b1,b2⟩:=Cr hn rs (fA n R (r,wK r)) (λx hx=>hr x (by simp[hx])) (DT hn (qi n) h iv)
  have e:kH (r::rs)=gG r+kH rs:=by unfold kH;rw[map_cons,sum_cons]
  refine⟨λo ho=>?_,?_⟩
  ·show yS o ((rs.foldl (λR r=>fA n R (r,wK r)) (fA n R (r,wK r))).map (·.1))=_
   rw[b1 o ho,oh,a1 o ho,<-oh,List.append_assoc]
   rfl
  ·show kH ((rs.foldl (λR r=>fA n R (r,wK r)) (fA n R (r,wK r))).map (·.1))=_
   rw[b2,a2,e]
   show _+gG r+_=_
   lia
theorem LU(qs:List (Int×List Int)):cY (bN 0) kU kW (jY 1 []) (qs.map CP)=.ok (aM (qs.map (·.1))):=by
 rw[qz (λd=>match d with
  |.tup (x::_)=>x
  |_=>.non) _ λx hx=>by
   obtain⟨q,hq,rfl⟩:=mem_map.mp hx
   exact⟨_,j0 _ _ _,rfl,rfl⟩]
 unfold aM
 rw[map_map,map_map]
 rfl
theorem Vf(n:Nat):Iv n (eB n).1 (eB n).2:=by
 have c:∀p,p<n->aa (upTo n).reverse p=((n-1-p:Nat):Int):=λp hp=>by
  rw[fV (by rw[ak];exact hp),ak,ar (by lia)]
 have h:∀p,p<n->0<=aa (upTo n).reverse p/\aa (upTo n).reverse p<n/\aa (upTo n).reverse (aa (upTo n).reverse p).toNat=p:=λp hp=>by
  rw[c p hp,toNat_natCast,c _ (by lia)]
  exact⟨by lia,by lia,by lia⟩
 exact⟨by show(upTo n).reverse.length=n;rw[length_reverse,ak],by show(upTo n).reverse.length=n;rw[length_reverse,ak],h,h⟩
theorem LV{n:Nat}{o:List Int}(h:o.length=n):cmp o (upTo n).reverse=o.reverse:=by
 refine aY (by rw[gk,length_reverse,length_reverse,ak,h]) λt ht=>?_
 rw[gk,length_reverse,ak]at ht
 rw[dX (by rw[length_reverse,ak];exact ht),fV (by rw[ak];exact ht),ak,ar (by lia),toNat_natCast,fV (by rw[h];exact ht),h]
theorem Cs(a b:Int)(o:List Int):lM a (lM b o)=lM (a+b) o:=by
 unfold lM
 by_cases c:a%2=0
 ·rw[if_pos c]
  by_cases d:b%2=0
  ·rw[if_pos d,if_pos (by lia)]
  ·rw[if_neg d,if_neg (by lia)]
 ·rw[if_neg c]
  by_cases d:b%2=0
  ·rw[if_pos d,if_neg (by lia)]
  ·rw[if_neg d,if_pos (by lia),reverse_reverse]
theorem zI{n:Nat}:∀(m:Nat)(o:List Int),o.length=n->yS o ((replicate m (eB n)).map (·.1))=lM m o
 |0,o,_=>rfl
 |m+1,o,h=>by
  rw[replicate_succ,map_cons]
  show yS (cmp o (upTo n).reverse) _=_
  rw[LV h,zI m _ (by rw[length_reverse];exact h),show o.reverse=lM 1 o from rfl,Cs]
  congr 1
theorem zJ{n:Nat}(hc:gG (upTo n).reverse=T2 n):∀m:Nat,(kH ((replicate m (eB n)).map (·.1)):Int)=m*(T2 n:Int)
 |0=>by rw[show((0:Nat):Int)=0 from rfl,Int.zero_mul];rfl
 |m+1=>by
  have e:∀(r:List Int)(R:List (List Int)),kH (r::R)=gG r+kH R:=λr R=>by unfold kH;rw[map_cons,sum_cons]
  rw[replicate_succ,map_cons,e]
  show((gG (upTo n).reverse+kH _:Nat):Int)=_
  rw[hc,Int.natCast_add,zJ hc m,Int.natCast_add,Int.add_mul]
  lia
theorem LW{n:Nat}(hn:n<8):gG (upTo n).reverse=T2 n:=by
 have:=F3 (qi n)
 rw[O0 n hn]at this
 lia
structure FmS(n:Nat)(w:List Int)(h:Int)(R:List RP):Prop where
 ln:qX n R
 nh:∀x∈R,x≠eB n
 or:yS (lM h (upTo n)) (R.map (·.1))=lJ (w.map rP) (upTo n)
 cr:h*(T2 n:Int)+(kH (R.map (·.1)):Int)=uU w
 bd: -(w.length:Int)<=h/\h<=w.length
 le:R.length<=40
theorem vC.app:∀{A B:List RP},vC (A++B)->vC A
 |[],B,_=>trivial
 |[p],B,_=>trivial
 |q::p::A,B,h=>⟨h.1,vC.app (A:=p::A) h.2⟩
def A7(r:List Int):RP:=(r,wK r)
theorem F8{n:Nat}(h1:1<=n)(hn:n<=7){w:List Int}(hw:∀k∈w,bC n k)(hl:w.length<=40):∃h R,jg [.int n,.lst (aM w)]=.ok (.tup [.int h,.lst (R.map λp=>.lst (aM p.1))])/\FmS n w h R/\∃(qs:List (Int×List Int))(jR:List (List Int)),(h,R)=Vl n (hS qs) ((dH n qs).map A7)/\(∀q∈qs,(q.1=0\/q.1= -1)/\bF n q.2)/\jR.flatten=bG [] w/\(∀p∈jR,Gp n p)/\F2 (VR n) jR qs:=by
 obtain⟨qs,e1,e2,e3,e7,e8,jR,g1,g2,g3⟩:=LS hn hw hl
 have hq2:∀q∈qs,bF n q.2:=λq hq=>(e3 q hq).2
 have e4:=Pk hn hq2 (by lia)
 have e5:=uV n qs
 have e6:=zE qs hq2
 have l0:qX n []:=⟨(λx hx=>nomatch hx),trivial,(λx hx=>nomatch hx)⟩
 have hL:qX n (gB n (dH n qs)):=Fe hn (qi n) (dH n qs) [] e6 l0
 obtain⟨p1,p2⟩:=Cr hn (dH n qs) [] e6 l0
 have hcl:=sL n (dH n qs) []
 rw[length_nil]at hcl
 have OZ:(gB n (dH n qs)).length<=qs.length:=by
  show((dH n qs).foldl (λR r=>fA n R (r,wK r)) []).length<=qs.length
  lia
 have p1':∀o:List Int,o.length=n->yS o ((gB n (dH n qs)).map (·.1))=yS o (dH n qs):=p1
 have p2':kH ((gB n (dH n qs)).map (·.1))=kH (dH n qs):=by
  have:kH ((gB n (dH n qs)).map (·.1))=0+kH (dH n qs):=p2
  lia
 have hsb: -(qs.length:Int)<=hS qs/\hS qs<=0:=by
  clear g3 e1 e4 e5 e6 hL p1 p2 hcl OZ p1' p2' e7 e8 e2 hq2
  induction qs with
  |nil=>exact⟨Int.le_refl _,Int.le_refl _⟩
  |cons q qs ih=>
   have:=ih λx hx=>e3 x (by simp[hx])
   have:=(e3 q (by simp)).1
   rw[show hS (q::qs)=q.1+hS qs from rfl,length_cons]
   lia
 have hV:qY n ((dH n qs).map A7)=gB n (dH n qs):=by unfold qY gB;rw[List.foldl_map];rfl
 generalize hR:gB n (dH n qs)=C at*
 have hcn:eg n C<=C.length:=List.Sublist.length_le (List.takeWhile_sublist _)
 have yA:=xQ (n:=n) C
 have hrest:=HB (Vf n) hL
 refine⟨eg n C+hS qs,C.drop (eg n C),?_,⟨⟨λx hx=>hL.iv x (mem_of_mem_drop hx),?_,λx hx=>hL.ns x (mem_of_mem_drop hx)⟩,hrest,?_,?_,by lia,by rw[length_drop];lia⟩,qs,jR,(by unfold Vl;rw[hV,Int.add_comm]),e3,g1,g2,g3⟩
 ·unfold jg K4
  simp_all [e1]
  have e9:eO [.int n,.lst (qs.map CP)]=R.ne (Fl [.val (.int n),.val (.lst (qs.map CP)),.no,.no,.val (vB n C)]>=>ah):=by
   show R.ne (R.bind (bp [.lst (qs.map CP)]) _)=_
   rw[e4,R.bO]
   refine congrArg R.ne ((if_pos ⟨⟨by lia,by lia⟩,by lia,e6⟩).trans ?_)
   rw[toNat_natCast,hR]
  rw[e9]
  unfold Fl vB
  have a0:∀(x y:D),i6 [x,y] 0=some x:=λ_ _=>rfl
  have a1:∀(x y:D),i6 [x,y] 1=some y:=λ_ _=>rfl
  dsimp [a0,a1,iZ,LU,R.n8]
  rw[bj (by rw[length_map];lia)]
  dsimp [zh,Dm,map_some]
 ·have:=hL.lw
  rw[yA,reverse_append]at this
  exact this.app
 ·have h2:=p1' (lM (hS qs) (upTo n)) (by rw[Co,ak])
  rw[zF qs (upTo n) hq2 (ak n),e7 _ (ak n)]at h2
  rw[<-h2]
  conv=>rhs;rw[yA]
  rw[map_append,oh,zI _ _ (by rw[Co,ak]),Cs]
 ·rw[zG qs hq2]at p2'
  have h3:kH (C.map (·.1))=kH ((replicate (eg n C) (eB n)).map (·.1))+kH ((C.drop (eg n C)).map (·.1)):=by
   conv=>lhs;rw[yA]
   rw[map_append,sM]
  have h4:=zJ (LW (show n<8 by lia)) (eg n C)
  rw[<-e8,<-p2',h3,Int.natCast_add,h4,Int.add_mul]
  lia
def act(n:Nat)(k:Int)(ω:Int×List RP):Int×List RP:=if 0<k then Pa n (Xr n (k-1).toNat) ω else Ma n (Xr n (-k-1).toNat) ω
def ck(n:Nat)(w:List Int)(ω:Int×List RP):Int×List RP:=w.foldl (λω k=>act n k ω) ω
theorem eU(n:Nat)(u v:List Int)(ω:Int×List RP):ck n (u++v) ω=ck n v (ck n u ω):=foldl_append
theorem Pn{o:List Int}{a b:Nat}(ha:a+1<o.length)(hb:b+1<o.length)(h:a+2<=b\/b+2<=a):cZ (cZ o a) b=cZ (cZ o b) a:=by
 refine aY (by rw[bQ,bQ,bQ,bQ]) λj _=>?_
 simp_all only [bB _ a (show a+1<(cZ o b).length by rw[bQ];exact ha),bB _ b (show b+1<(cZ o a).length by rw[bQ];exact hb),bB _ a ha,bB _ b hb]
 repeat' split
 all_goals first|lia|(congr 1;lia)|rfl
theorem LX{o:List Int}{a:Nat}(h:a+2<o.length):cZ (cZ (cZ o a) (a+1)) a=cZ (cZ (cZ o (a+1)) a) (a+1):=by
 refine aY (by simp_all only [bQ]) λj _=>?_
 have l1:a+1<(cZ (cZ o a) (a+1)).length:=by simp_all only [bQ];lia
 have l2:a+1+1<(cZ o a).length:=by simp_all only [bQ];lia
 have l3:a+1<o.length:=by lia
 have m1:a+1+1<(cZ (cZ o (a+1)) a).length:=by simp_all only [bQ];lia
 have m2:a+1<(cZ o (a+1)).length:=by simp_all only [bQ];lia
 have m3:a+1+1<o.length:=by lia
 simp_all only [bB _ a l1,bB _ (a+1) l2,bB _ a l3,bB _ (a+1) m1,bB _ a m2,bB _ (a+1) m3]
 repeat' split
 all_goals first|lia|exact absurd trivial (by assumption)|(congr 1;lia)|rfl
section
variable{n:Nat}(hn:n<=7)(h2:2<=n)
include hn h2
theorem wU{k:Int}(hk:bC n k)(h:0<k)(ω:Int×List RP):∃a:Nat,k=(a:Int)+1/\a+1<n/\act n k ω=Pa n (Xr n a) ω/\act n (-k) ω=Ma n (Xr n a) ω:=by
 unfold bC at hk
 refine⟨(k-1).toNat,by lia,by lia,if_pos h,?_⟩
 unfold act
 rw[if_neg (by lia),show- -k-1=k-1 by lia]
theorem Ea{k:Int}(hk:bC n k){ω:Int×List RP}(hc:Cv n ω):Cv n (act n k ω):=by
 unfold bC at hk
 unfold act
 split
 ·exact Cn hn h2 hc (cR (by lia))
 ·exact yc hn h2 hc (cR (by lia))
theorem kF:∀(w:List Int){ω:Int×List RP},(∀k∈w,bC n k)->Cv n ω->Cv n (ck n w ω)
 |[],_,_,hc=>hc
 |k::w,ω,h,hc=>kF w (ω:=act n k ω) (λx hx=>h x (by simp[hx])) (Ea hn h2 (h k (by simp)) hc)
theorem F9{k:Int}(hk:bC n k){ω:Int×List RP}(hc:Cv n ω):act n (-k) (act n k ω)=ω:=by
 have NI:=hk
 unfold bC at NI
 by_cases h:0<k
 ·obtain⟨a,e,ha,e1,_⟩:=wU hn h2 hk h ω
  obtain⟨b,e',_,_,e2⟩:=wU hn h2 hk h (act n k ω)
  obtain rfl:a=b:=by lia
  rw[e2,e1]
  exact yd hn h2 hc (cR ha)
 ·have hm:bC n (-k):=by unfold bC;lia
  obtain⟨a,e,ha,_,e1⟩:=wU hn h2 hm (by lia) ω
  obtain⟨b,e',_,e2,_⟩:=wU hn h2 hm (by lia) (act n k ω)
  obtain rfl:a=b:=by lia
  rw[neg_neg]at e1
  rw[e2,e1]
  exact zD hn h2 hc (cR ha)
end
theorem iU{n a t:Nat}(ha:a+1<n)(ht:t<n):aa (Xr n a).1 t=if t=a then(a:Int)+1 else if t=a+1 then(a:Int)else t:=by
 show aa (cZ (upTo n) a) t=_
 rw[bB _ _ (by rw[ak];exact ha),ar ha,ar (by lia),ar ht]
 repeat' split
 all_goals lia
section
variable{n:Nat}(hn:n<=7)(h2:2<=n)
include hn h2
theorem RO{a b:Nat}(ha:a+1<n)(hb:b+1<n)(h:a+2<=b\/b+2<=a){ω:Int×List RP}(hc:Cv n ω):Pa n (Xr n a) (Pa n (Xr n b) ω)=Pa n (Xr n b) (Pa n (Xr n a) ω):=by
 rw[rO hn h2 hc (cR hb) ha (by rw[iU hb (by lia),iU hb ha];(repeat' split)<;>lia),rO hn h2 hc (cR ha) hb (by rw[iU ha (by lia),iU ha hb];(repeat' split)<;>lia)]
 congr 1
 exact jJ (cg (cR hb) ha) (cg (cR ha) hb) (Pn (o:=upTo n) (by rw[ak];exact hb) (by rw[ak];exact ha) (by lia))
theorem LY{a:Nat}(ha:a+2<n){ω:Int×List RP}(hc:Cv n ω):Pa n (Xr n a) (Pa n (Xr n (a+1)) (Pa n (Xr n a) ω))=Pa n (Xr n (a+1)) (Pa n (Xr n a) (Pa n (Xr n (a+1)) ω)):=by
 have h1:a+1<n:=by lia
 have h3:a+1+1<n:=by lia
 have c1:∀t,t<n->aa (o4 (Xr n a) (a+1)).1 t=if t=a+1 then aa (Xr n a).1 (a+1+1)else if t=a+1+1 then aa (Xr n a).1 (a+1)else aa (Xr n a).1 t:=λt ht=>bB _ _ (by rw[(cR h1).lr];exact h3) t
 have c2:∀t,t<n->aa (o4 (Xr n (a+1)) a).1 t=if t=a then aa (Xr n (a+1)).1 (a+1)else if t=a+1 then aa (Xr n (a+1)).1 a else aa (Xr n (a+1)).1 t:=λt ht=>bB _ _ (by rw[(cR h3).lr];exact h1) t
 rw[rO hn h2 hc (cR h1) h3 (by rw[iU h1 h1,iU h1 h3];(repeat' split)<;>lia),
  rO hn h2 hc (cg (cR h1) h3) h1 (by rw[c1 a (by lia),c1 (a+1) h1,iU h1 h1,iU h1 h3,iU h1 (by lia)];(repeat' split)<;>lia),
  rO hn h2 hc (cR h3) h1 (by rw[iU h3 (by lia),iU h3 h1];(repeat' split)<;>lia),
  rO hn h2 hc (cg (cR h3) h1) h3 (by rw[c2 (a+1) h1,c2 (a+1+1) h3,iU h3 h1,iU h3 h3,iU h3 (by lia)];(repeat' split)<;>lia)]
 congr 1
 exact jJ (cg (cg (cR h1) h3) h1) (cg (cg (cR h3) h1) h3) (LX (o:=upTo n) (by rw[ak];exact ha))
theorem Eb{a b:Nat}(ha:a+1<n)(hb:b+1<n)(h:a+2<=b\/b+2<=a){ω:Int×List RP}(hc:Cv n ω):Pa n (Xr n a) (Ma n (Xr n b) ω)=Ma n (Xr n b) (Pa n (Xr n a) ω):=by
 have c1:=yc hn h2 hc (cR hb)
 have e:ω=Pa n (Xr n b) (Ma n (Xr n b) ω):=(zD hn h2 hc (cR hb)).symm
 conv=>rhs;rw[e]
 rw[RO hn h2 ha hb h c1,yd hn h2 (Cn hn h2 c1 (cR ha)) (cR hb)]
theorem Yx{a b:Nat}(ha:a+1<n)(hb:b+1<n)(h:a+2<=b\/b+2<=a){ω:Int×List RP}(hc:Cv n ω):Ma n (Xr n a) (Ma n (Xr n b) ω)=Ma n (Xr n b) (Ma n (Xr n a) ω):=by
 have ca:=yc hn h2 hc (cR ha)
 have P8:=yc hn h2 ca (cR hb)
 have e:ω=Pa n (Xr n a) (Ma n (Xr n a) ω):=(zD hn h2 hc (cR ha)).symm
 conv=>lhs;rw[e]
 rw[<-Eb hn h2 ha hb h ca,yd hn h2 P8 (cR ha)]
theorem Vg{a:Nat}(ha:a+2<n){ω:Int×List RP}(hc:Cv n ω):Ma n (Xr n a) (Ma n (Xr n (a+1)) (Ma n (Xr n a) ω))=Ma n (Xr n (a+1)) (Ma n (Xr n a) (Ma n (Xr n (a+1)) ω)):=by
 have h1:a+1<n:=by lia
 have h3:a+1+1<n:=by lia
 have x1:=cR h1
 have x3:=cR h3
 have c1:=yc hn h2 hc x3
 have c2:=yc hn h2 c1 x1
 have c3:=yc hn h2 c2 x3
 have e:ω=Pa n (Xr n (a+1)) (Pa n (Xr n a) (Pa n (Xr n (a+1)) (Ma n (Xr n (a+1)) (Ma n (Xr n a) (Ma n (Xr n (a+1)) ω))))):=by
  rw[zD hn h2 c2 x3,zD hn h2 c1 x1,zD hn h2 hc x3]
 generalize Ma n (Xr n (a+1)) (Ma n (Xr n a) (Ma n (Xr n (a+1)) ω))=z at e c3⊢
 rw[e,<-LY hn h2 ha c3,yd hn h2 (Cn hn h2 (Cn hn h2 c3 x1) x3) x1,yd hn h2 (Cn hn h2 c3 x1) x3,yd hn h2 c3 x1]
end
def Lk(n:Nat)(u v:List Int):Prop:=∀ω,Cv n ω->ck n u ω=ck n v ω
theorem Lk.symm {n:Nat}{u v:List Int}(h:Lk n u v):Lk n v u:=λω hc=>(h ω hc).symm
theorem Lk.refl (n:Nat)(u:List Int):Lk n u u:=λ_ _=>rfl
theorem Lk.trans {n:Nat}{u v w:List Int}(h:Lk n u v)(g:Lk n v w):Lk n u w:=λω hc=>(h ω hc).trans (g ω hc)
section
variable{n:Nat}(hn:n<=7)(h2:2<=n)
include hn h2
theorem Lk.mid {u v:List Int}(h:Lk n u v){a b:List Int}(ha:∀k∈a,bC n k):Lk n (a++u++b) (a++v++b):=λω hc=>by
 rw[eU,eU,eU,eU,h _ (kF hn h2 a ha hc)]
theorem LZ{k:Int}(hk:bC n k):Lk n [k,-k] []:=λω hc=>F9 hn h2 hk hc
theorem L4{k l:Int}(hk:bC n k)(hl:bC n l)(h:k.natAbs+2<=l.natAbs\/l.natAbs+2<=k.natAbs):Lk n [k,l] [l,k]:=λω hc=>by
 show act n l (act n k ω)=act n k (act n l ω)
 have NI:=hk
 have JF:=hl
 unfold bC at NI JF
 have pk:0<k->∀ω,act n k ω=Pa n (Xr n (k-1).toNat) ω:=λa _=>if_pos a
 have mk:¬0<k->∀ω,act n k ω=Ma n (Xr n (-k-1).toNat) ω:=λa _=>if_neg a
 have pl:0<l->∀ω,act n l ω=Pa n (Xr n (l-1).toNat) ω:=λa _=>if_pos a
 have ml:¬0<l->∀ω,act n l ω=Ma n (Xr n (-l-1).toNat) ω:=λa _=>if_neg a
 by_cases a:0<k
 ·by_cases b:0<l
  ·simp_all only [pk a,pl b]
   exact RO (a:=(l-1).toNat) (b:=(k-1).toNat) hn h2 (by lia) (by lia) (by lia) hc
  ·simp_all only [pk a,ml b]
   exact(Eb (a:=(k-1).toNat) (b:=(-l-1).toNat) hn h2 (by lia) (by lia) (by lia) hc).symm
 ·by_cases b:0<l
  ·simp_all only [mk a,pl b]
   exact Eb (a:=(l-1).toNat) (b:=(-k-1).toNat) hn h2 (by lia) (by lia) (by lia) hc
  ·simp_all only [mk a,ml b]
   exact Yx (a:=(-l-1).toNat) (b:=(-k-1).toNat) hn h2 (by lia) (by lia) (by lia) hc
theorem L5{k l:Int}{a:Nat}(ha:k.natAbs=a+1)(hb:l.natAbs=a+2)(h3:a+2<n)(hs:(0<k)=(0<l)):Lk n [k,l,k] [l,k,l]:=λω hc=>by
 show act n k (act n l (act n k ω))=act n l (act n k (act n l ω))
 have pk:0<k->∀ω,act n k ω=Pa n (Xr n a) ω:=λc _=>by unfold act;rw[if_pos c,show(k-1).toNat=a by lia]
 have mk:¬0<k->∀ω,act n k ω=Ma n (Xr n a) ω:=λc _=>by unfold act;rw[if_neg c,show(-k-1).toNat=a by lia]
 have pl:0<l->∀ω,act n l ω=Pa n (Xr n (a+1)) ω:=λc _=>by unfold act;rw[if_pos c,show(l-1).toNat=a+1 by lia]
 have ml:¬0<l->∀ω,act n l ω=Ma n (Xr n (a+1)) ω:=λc _=>by unfold act;rw[if_neg c,show(-l-1).toNat=a+1 by lia]
 by_cases c:0<k
 ·have d:0<l:=hs▸c
  simp_all only [pk c,pl d]
  exact LY hn h2 h3 hc
 ·have d:¬0<l:=hs▸c
  simp_all only [mk c,ml d]
  exact Vg hn h2 h3 hc
end
theorem m7{n:Nat}{r:List Int}(h:bF n r):Iv n (A7 r).1 (A7 r).2:=p6 h
theorem eu{n:Nat}:Cv n ((0:Int),[]):=⟨λx hx=>(nomatch hx),rfl⟩
section
variable{n:Nat}(hn:n<=7)(h2:2<=n)
include hn h2
theorem L6{ω:Int×List RP}(hc:Cv n ω):Pa n (Zr n) ω=ω:=by
 have:=D8 (A:=ω.2) (B:=[]) hn ω.1 hc.iv (λx hx=>nomatch hx)
 rw[append_nil]at this
 exact this.trans hc.id
theorem yf{ω:Int×List RP}(hc:Cv n ω):∀(w:List Int)(c:RP)(z:List Int),Ps n w->Iv n c.1 c.2->eT w c.1=some z->ck n w (Pa n c ω)=Pa n (A7 z) ω/\bF n z
 |[],c,z,_,ic,h=>by
  obtain rfl:c.1=z:=Option.some.inj h
  have hr:=uP ic
  refine⟨?_,hr⟩
  show Pa n c ω=_
  rw[jJ ic (m7 hr) rfl]
  rfl
 |k::w,c,z,hw,ic,h=>by
  obtain⟨a,rfl,ha⟩:=hw k (by simp)
  unfold eT at h
  split at h
  ·cases h
  ·rename_i hc2
   rw[show((a:Int)+1-1).toNat=a by lia,show((a:Int)+1).toNat=a+1 by lia]at hc2
   rw[show((a:Int)+1-1).toNat=a by lia]at h
   have hne:=RD ic ha
   have hlt:aa c.1 a<aa c.1 (a+1):=by
    have:¬aa c.1 (a+1)<aa c.1 a:=λz=>hc2 (.inr z)
    lia
   have ih:=yf hc w (o4 c a) z (λx hx=>hw x (by simp[hx])) (cg ic ha) h
   refine⟨?_,ih.2⟩
   show ck n w (act n ((a:Int)+1) (Pa n c ω))=_
   have e:act n ((a:Int)+1) (Pa n c ω)=Pa n (o4 c a) ω:=by
    unfold act
    rw[if_pos (by lia),show((a:Int)+1-1).toNat=a by lia]
    exact rO hn h2 hc ic ha hlt
   rw[e]
   exact ih.1
theorem qk:∀(p:List Int){ω:Int×List RP},(∀k∈p,bC n k)->Cv n ω->ck n (p.reverse.map λk=> -k) (ck n p ω)=ω
 |[],_,_,_=>rfl
 |k::p,ω,h,hc=>by
  have hk:=h k (by simp)
  rw[reverse_cons,map_append,eU]
  show act n (-k) (ck n (p.reverse.map λk=> -k) (ck n p (act n k ω)))=ω
  rw[qk p (λx hx=>h x (by simp[hx])) (Ea hn h2 hk hc)]
  exact F9 hn h2 hk hc
end
def fW(n:Nat)(g:Int)(L:List RP):List RP:=if g%2=0 then L else L.map (jB n)
def Ec(n:Nat)(q:Int×List Int)(ω:Int×List RP):Int×List RP:=Vl n (ω.1+q.1) (fW n q.1 ω.2++[A7 q.2])
section
variable{n:Nat}(hn:n<=7)(h2:2<=n)
include hn h2
theorem HP{p:List Int}{q:Int×List Int}(g:Gp n p)(s:VR n p q){ω:Int×List RP}(hc:Cv n ω):Ec n q ω=ck n p ω:=by
 rcases s.a with⟨e,hs,hz⟩|⟨e,hs,z,hz,iv,e2⟩
 ·have hp:Ps n p:=λk hk=>by
   have h1:=g.x k hk
   have h2:=hs k hk
   unfold bC at h1
   exact⟨(k-1).toNat,by lia,by lia⟩
  have h:=yf hn h2 hc p (Zr n) q.2 hp (cG n) hz
  rw[L6 hn h2 hc]at h
  rw[h.1]
  unfold Ec fW Pa
  rw[e,if_pos (by decide),Int.add_zero]
 ·have hx:∀k∈p.reverse.map (λk=> -k),bC n k:=λk hk=>by
   obtain⟨x,hx,rfl⟩:=mem_map.mp hk
   have:=g.x x (by simpa using hx)
   unfold bC at*
   lia
  have hp:Ps n (p.reverse.map λk=> -k):=λk hk=>by
   have h1:=hx k hk
   obtain⟨x,hx,rfl⟩:=mem_map.mp hk
   have h2:=hs x (by simpa using hx)
   unfold bC at h1
   exact⟨(-x-1).toNat,by lia,by lia⟩
  have c1:=kF hn h2 p g.x hc
  have h:=yf hn h2 c1 (p.reverse.map λk=> -k) (Zr n) z hp (cG n) hz
  rw[L6 hn h2 c1,qk hn h2 p g.x hc]at h
  have iz:=m7 h.2
  have e3:ck n p ω=Ma n (A7 z) ω:=by
   have:=yd hn h2 c1 iz
   rw[<-h.1]at this
   exact this.symm
  rw[e3]
  have ez:A7 z=(z,lJ (p.map rP) (upTo n)):=jJ iz iv rfl
  have e4:A7 q.2=M4 n (A7 z):=by
   rw[ez,e2]
   have ic:=oF (r:=(z,lJ (p.map rP) (upTo n))) iv
   exact jJ (m7 (uP ic)) ic rfl
  unfold Ec fW Ma
  rw[e,e4,if_neg (by decide)]
theorem yg:∀{ps:List (List Int)}{qs:List (Int×List Int)}{ω:Int×List RP},F2 (VR n) ps qs->(∀p∈ps,Gp n p)->Cv n ω->qs.foldl (λω q=>Ec n q ω) ω=ck n ps.flatten ω
 |_,_,_,.nil,_,_=>rfl
 |p::ps,q::qs,ω,.cons s f,h,hc=>by
  have g:=h p (by simp)
  rw[foldl_cons,flatten_cons,eU,HP hn h2 g s hc]
  exact yg f (λx hx=>h x (by simp[hx])) (kF hn h2 p g.x hc)
theorem wV{g:Int}{L:List RP}(h:aR n L):aR n (fW n g L):=by
 unfold fW
 split
 ·exact h
 ·exact h.jB
theorem Po{q:Int×List Int}(hq:q.1=0\/q.1= -1)(hr:bF n q.2)(h:Int){L:List RP}(hI:aR n L):Vl n (h+q.1) (fW n q.1 L++[A7 q.2])=Ec n q (Vl n h L):=by
 unfold Ec fW
 rcases hq with e|e
 ·rw[e,if_pos (by decide),if_pos (by decide),Int.add_zero,Int.add_zero]
  exact LB hn h2 h hI (.one (m7 hr))
 ·rw[e,if_neg (by decide),if_neg (by decide)]
  exact LD hn h2 h hI (.one (m7 hr)) (-1)
theorem HQ{q g:Int}{r:List Int}{L:List RP}(hI:aR n L)(hr:bF n r):fW n g (fW n q L++[A7 r])=fW n (q+g) L++[A7 (j3 n g r)]:=by
 unfold fW j3
 have hf:(L.map (jB n)).map (jB n)=L:=by
  rw[map_map]
  conv=>rhs;rw[<-map_id L]
  exact map_congr_left λx hx=>AA (hI x hx)
 have e:jB n (A7 r)=A7 (fl n r.reverse):=jJ (uT (m7 hr)) (m7 (uP (uT (m7 hr)))) rfl
 by_cases a:g%2=0
 ·rw[if_pos a,if_pos a]
  by_cases b:q%2=0
  ·rw[if_pos b,if_pos (by lia)]
  ·rw[if_neg b,if_neg (by lia)]
 ·rw[if_neg a,if_neg a,map_append]
  by_cases b:q%2=0
  ·rw[if_pos b,if_neg (by lia),List.map_singleton,e]
  ·rw[if_neg b,if_pos (by lia),hf,List.map_singleton,e]
theorem Cu:∀(qs:List (Int×List Int))(h:Int)(L:List RP),aR n L->(∀q∈qs,(q.1=0\/q.1= -1)/\bF n q.2)->Vl n (h+hS qs) (fW n (hS qs) L++(dH n qs).map A7)=qs.foldl (λω q=>Ec n q ω) (Vl n h L)
 |[],h,L,_,_=>by
  show Vl n (h+0) (fW n 0 L++[])=_
  rw[Int.add_zero,append_nil]
  rfl
 |q::qs,h,L,hI,hq=>by
  obtain⟨q1,q2⟩:=hq q (by simp)
  have ih:=Cu qs (h+q.1) (fW n q.1 L++[A7 q.2]) ((wV hn h2 hI).app (.one (m7 q2))) λx hx=>hq x (by simp[hx])
  rw[foldl_cons,<-Po hn h2 q1 q2 h hI,<-ih,HQ hn h2 hI q2,List.append_assoc,show hS (q::qs)=q.1+hS qs from rfl,add_assoc]
  rfl
theorem Pp{k:Int}(hk:bC n k){s:List Int}(hs:∀x∈s,bC n x):Lk n (bU s k) (s++[k]):=by
 unfold bU
 split
 ·rename_i hl
  have hne:s≠[]:=λz=>by rw[z]at hl;cases hl
  have yA:s.dropLast++[-k]=s:=by
   have:=List.dropLast_concat_getLast hne
   rw[List.getLast?_eq_some_getLast hne]at hl
   rw[Option.some.inj hl]at this
   exact this
  have hm:bC n (-k):=by unfold bC at*;lia
  have h:=Lk.mid hn h2 (LZ hn h2 hm) (a:=s.dropLast) (b:=[]) λx hx=>hs x ((List.dropLast_sublist s).subset hx)
  rw[neg_neg,append_nil,append_nil,append_nil]at h
  have e:s++[k]=s.dropLast++[-k,k]:=by
   conv=>lhs;rw[<-yA]
   simp
  rw[e]
  exact h.symm
 ·exact .refl n _
theorem Ga:∀(w s:List Int),(∀k∈w,bC n k)->(∀x∈s,bC n x)->Lk n (bG s w) (s++w)
 |[],s,_,_=>by rw[append_nil];exact .refl n _
 |k::w,s,h,hs=>by
  have hk:=h k (by simp)
  have hp:∀x∈bU s k,bC n x:=λx hx=>by
   unfold bU at hx
   split at hx
   ·exact hs x ((List.dropLast_sublist s).subset hx)
   ·rcases mem_append.mp hx with hx|hx
    ·exact hs x hx
    ·rw[mem_singleton.mp hx];exact hk
  refine(Ga w (bU s k) (λx hx=>h x (by simp[hx])) hp).trans λω hc=>?_
  rw[eU,Pp hn h2 hk hs ω hc,<-eU,List.append_assoc]
  rfl
theorem HR{w:List Int}(hw:∀k∈w,bC n k)(hl:w.length<=40):jg [.int n,.lst (aM w)]=.ok (.tup [.int (ck n w (0,[])).1,.lst ((ck n w (0,[])).2.map λp=>.lst (aM p.1))])/\FmS n w (ck n w (0,[])).1 (ck n w (0,[])).2:=by
 obtain⟨h,R,e,F,qs,jR,e1,e2,e3,e4,e5⟩:=F8 (n:=n) (by lia) hn hw hl
 have r:=Cu hn h2 qs 0 [] (λx hx=>nomatch hx) e2
 have ez:fW n (hS qs) []=[]:=by unfold fW;split<;>rfl
 rw[ez,nil_append,Int.zero_add,<-e1]at r
 have c0:Vl n 0 []=((0:Int),[]):=eu.id
 rw[c0,yg hn h2 e5 e4 eu,e3,Ga hn h2 w [] hw (λx hx=>nomatch hx) _ eu,nil_append]at r
 rw[<-r]
 exact⟨e,F⟩
end
def uW(n:Nat)(ω τ:Int×List RP):Int×List RP:=Vl n (ω.1+τ.1) (fW n τ.1 ω.2++τ.2)
theorem L7{n:Nat}{L:List RP}(h:aR n L):(L.map (jB n)).map (jB n)=L:=by
 rw[map_map]
 conv=>rhs;rw[<-map_id L]
 exact map_congr_left λp hp=>AA (h p hp)
theorem yh{n:Nat}{L:List RP}(h:aR n L)(a b:Int):fW n b (fW n a L)=fW n (a+b) L:=by
 unfold fW
 by_cases c:a%2=0
 ·by_cases d:b%2=0
  ·rw[if_pos c,if_pos d,if_pos (by lia)]
  ·rw[if_pos c,if_neg d,if_neg (by lia)]
 ·by_cases d:b%2=0
  ·rw[if_neg c,if_pos d,if_neg (by lia)]
  ·rw[if_neg c,if_neg d,if_pos (by lia),L7 h]
theorem L8{n:Nat}{L:List RP}(h:aR n L)(a:Int):(fW n a L).map (jB n)=fW n (a+ -1) L:=by
 have:=yh h a (-1)
 rw[<-this]
 conv=>rhs;unfold fW
 rw[if_neg (by decide)]
 rfl
theorem zK{n:Nat}(L:List RP):fW n 0 L=L:=rfl
section
variable{n:Nat}(hn:n<=7)(h2:2<=n)
include hn h2
theorem Gb:∀(m:Nat)(a:Int){L B:List RP},aR n L->aR n B->Vl n a (L++(replicate m (eB n)++B))=Vl n (a+m) (fW n m L++B)
 |0,a,L,B,_,_=>by
  rw[replicate_zero,nil_append,Int.natCast_zero,Int.add_zero,zK]
 |m+1,a,L,B,hL,hB=>by
  have hr:aR n (replicate m (eB n)++B):=(aR.rep (mZ n) m).app hB
  have s:=(AB hn L hL).M0 (replicate m (eB n)++B)
  rw[replicate_succ,show L++(eB n::replicate m (eB n)++B)=(L++[eB n])++(replicate m (eB n)++B)by simp,
   uS hn a ((hL.app (.one (mZ n))).app hr) s,cons_append,Ay hn h2 a (hL.jB.app hr),Gb m (a+1) hL.jB hB]
  have e:fW n m (L.map (jB n))=fW n ((m+1:Nat):Int) L:=by
   have:=yh hL 1 m
   rw[show fW n 1 L=L.map (jB n)from if_neg (by decide)]at this
   rw[this]
   congr 1
   lia
  rw[e]
  congr 1
  lia
theorem L9{ω:Int×List RP}(hω:aR n ω.2)(h:Int){R:List RP}(hR:aR n R):uW n ω (Vl n h R)=Vl n (ω.1+h) (fW n h ω.2++R):=by
 obtain⟨m,k,e1,e2,e3⟩:=LA hn h hR
 have hp:aR n (fW n h ω.2):=wV hn h2 hω
 have hz:aR n (replicate k (Zr n)):=aR.rep (cG n) k
 rw[uS hn (ω.1+h) (hp.app hR) (e3.app (fW n h ω.2)),Gb hn h2 m (ω.1+h) hp (e2.app hz),yh hω]
 unfold uW
 rw[e1,<-add_assoc]
 have hq:aR n (fW n (h+m) ω.2):=wV hn h2 hω
 have:=Az hn (ω.1+h+m) (A:=fW n (h+m) ω.2++(Vl n h R).2) (B:=[]) (hq.app e2) (λx hx=>nomatch hx) k
 rw[append_nil,append_nil,List.append_assoc]at this
 exact this.symm
theorem mul_one{ω:Int×List RP}(hc:Cv n ω):uW n ω (0,[])=ω:=by
 unfold uW
 rw[zK,append_nil,Int.add_zero]
 exact hc.id
theorem Pq{ω τ:Int×List RP}(hω:Cv n ω)(hτ:Cv n τ){k:Int}(hk:bC n k):act n k (uW n ω τ)=uW n ω (act n k τ):=by
 have NI:=hk
 unfold bC at NI
 have hp:aR n (fW n τ.1 ω.2):=wV hn h2 hω.iv
 unfold act
 split
 ·have ic:Iv n (Xr n (k-1).toNat).1 (Xr n (k-1).toNat).2:=cR (by lia)
  conv=>lhs;unfold uW
  rw[<-LK hn h2 _ (hp.app hτ.iv) ic,List.append_assoc,<-L9 hn h2 hω.iv τ.1 (hτ.iv.app (.one ic))]
  rfl
 ·have ic:Iv n (Xr n (-k-1).toNat).1 (Xr n (-k-1).toNat).2:=cR (by lia)
  conv=>lhs;unfold uW
  rw[<-RL hn h2 _ (hp.app hτ.iv) ic,map_append,L8 hω.iv,List.append_assoc,add_assoc,<-L9 hn h2 hω.iv (τ.1+ -1) (hτ.iv.jB.app (.one (oF ic)))]
  rfl
theorem Cw:∀(u:List Int){ω τ:Int×List RP},Cv n ω->Cv n τ->(∀k∈u,bC n k)->ck n u (uW n ω τ)=uW n ω (ck n u τ)
 |[],_,_,_,_,_=>rfl
 |k::u,ω,τ,hω,hτ,hu=>by
  have hk:=hu k (by simp)
  show ck n u (act n k (uW n ω τ))=uW n ω (ck n u (act n k τ))
  rw[Pq hn h2 hω hτ hk]
  exact Cw u hω (Ea hn h2 hk hτ) λx hx=>hu x (by simp[hx])
theorem Cy{u:List Int}(hu:∀k∈u,bC n k){ω:Int×List RP}(hω:Cv n ω):ck n u ω=uW n ω (ck n u (0,[])):=by
 rw[<-Cw hn h2 u hω eu hu,mul_one hn h2 hω]
theorem RQ{u v:List Int}(hu:∀k∈u,bC n k)(hv:∀k∈v,bC n k)(e:ck n u (0,[])=ck n v (0,[])):Lk n u v:=λω hc=>by
 rw[Cy hn h2 hu hc,Cy hn h2 hv hc,e]
theorem RT{u:List Int}(hu:∀k∈u,bC n k):∀k∈u.reverse.map (λk=> -k),bC n k:=λk hk=>by
 obtain⟨x,hx,rfl⟩:=mem_map.mp hk
 have:=hu x (by simpa using hx)
 unfold bC at*
 lia
theorem HS{u:List Int}(hu:∀k∈u,bC n k){ω:Int×List RP}(hc:Cv n ω):ck n u (ck n (u.reverse.map λk=> -k) ω)=ω:=by
 have:=qk hn h2 (u.reverse.map λk=> -k) (RT hn h2 hu) hc
 have e:(u.reverse.map λk=> -k).reverse.map (λk=> -k)=u:=by
  rw[<-map_reverse,reverse_reverse,map_map]
  conv=>rhs;rw[<-map_id u]
  exact map_congr_left λk _=>neg_neg k
 rw[e]at this
 exact this
theorem Mb{w u v:List Int}(hw:∀k∈w,bC n k)(hu:∀k∈u,bC n k)(hv:∀k∈v,bC n k)(e:ck n (w++u) (0,[])=ck n (w++v) (0,[])):ck n u (0,[])=ck n v (0,[]):=by
 have hx:∀{z:List Int},(∀k∈z,bC n k)->∀k∈w++z,bC n k:=λhz k hk=>(mem_append.mp hk).elim (hw k) (hz k)
 have l:=RQ hn h2 (hx hu) (hx hv) e _ (kF hn h2 _ (RT hn h2 hw) eu)
 rw[eU,eU,HS hn h2 hw eu]at l
 exact l
theorem HU{w u v:List Int}(hw:∀k∈w,bC n k)(hu:∀k∈u,bC n k)(hv:∀k∈v,bC n k)(e:ck n (u++w) (0,[])=ck n (v++w) (0,[])):ck n u (0,[])=ck n v (0,[]):=by
 rw[eU,eU]at e
 have h1:=qk hn h2 w hw (kF hn h2 u hu eu)
 rw[e,qk hn h2 w hw (kF hn h2 v hv eu)]at h1
 exact h1.symm
end
def Red(s:List Int):Prop:=∀A x y B,s=A++x::y::B->y≠ -x
theorem gZ(s:List Int)(k:Int):(∃t,s=t++[-k]/\bU s k=t)\/((∀t,s≠t++[-k])/\bU s k=s++[k]):=by
 unfold bU
 split
 ·rename_i h
  have hne:s≠[]:=λz=>by rw[z]at h;cases h
  refine .inl ⟨s.dropLast,?_,rfl⟩
  have:=List.dropLast_concat_getLast hne
  rw[List.getLast?_eq_some_getLast hne]at h
  rw[Option.some.inj h]at this
  exact this.symm
 ·rename_i h
  refine .inr ⟨λt e=>h ?_,rfl⟩
  rw[e]
  simp
theorem Pr{s t:List Int}(h:Red (s++t)):Red s:=λA x y B e=>h A x y (B++t) (by rw[e];simp)
theorem Mc{s:List Int}(h:Red s)(k:Int):Red (bU s k):=by
 rcases gZ s k with⟨t,e,ep⟩|⟨hn,ep⟩
 ·rw[ep]
  rw[e]at h
  exact Pr h
 ·rw[ep]
  intro A x y B e
  rcases List.eq_nil_or_concat B with rfl|⟨B',z,rfl⟩
  ·have e2:s++[k]=(A++[x])++[y]:=by rw[e];simp
   obtain⟨e3,e4⟩:=append_inj' e2 rfl
   have e5:k=y:=by simpa using e4
   subst e5
   intro z
   exact hn A (by rw[e3,z];simp)
  ·have e2:s++[k]=(A++x::y::B')++[z]:=by rw[e];simp
   obtain⟨e3,_⟩:=append_inj' e2 rfl
   exact h A x y B' e3
theorem HV{s:List Int}(h:Red s)(k:Int):bU (bU s k) (-k)=s:=by
 rcases gZ s k with⟨t,e,ep⟩|⟨hn,ep⟩
 ·rw[ep]
  rcases gZ t (-k)with⟨t',e',_⟩|⟨_,R9⟩
  ·rw[neg_neg]at e'
   refine absurd rfl (h t' k (-k) [] ?_)
   rw[e,e']
   simp
  ·rw[R9,e]
 ·rw[ep]
  rcases gZ (s++[k]) (-k)with⟨t',e',R9⟩|⟨YF,_⟩
  ·rw[R9]
   rw[neg_neg]at e'
   exact(append_inj' e' rfl).1.symm
  ·exact absurd rfl (by rw[neg_neg]at YF;exact YF s)
theorem tR:∀(w s:List Int),Red s->Red (bG s w)
 |[],_,h=>h
 |k::w,s,h=>tR w (bU s k) (Mc h k)
theorem wW:Red []:=λA x y B e=>by
 have:=congrArg length e
 simp at this
theorem Cz:∀(w s:List Int),Red (s++w)->bG s w=s++w
 |[],s,_=>by rw[append_nil];rfl
 |k::w,s,h=>by
  show bG (bU s k) w=_
  rcases gZ s k with⟨t,e,_⟩|⟨_,ep⟩
  ·refine absurd ?_ (h t (-k) k w (by rw[e];simp))
   lia
  ·rw[ep,Cz w (s++[k]) (by rw[List.append_assoc];exact h),List.append_assoc]
   rfl
def Eqv(x y:List Int):Prop:=∀s,Red s->bG s x=bG s y
theorem Eqv.refl (x:List Int):Eqv x x:=λ_ _=>rfl
theorem Eqv.symm {x y:List Int}(h:Eqv x y):Eqv y x:=λs r=>(h s r).symm
theorem Eqv.trans {x y z:List Int}(h:Eqv x y)(g:Eqv y z):Eqv x z:=λs r=>(h s r).trans (g s r)
theorem Eqv.app {a b x y:List Int}(h:Eqv a b)(g:Eqv x y):Eqv (a++x) (b++y):=λs r=>by
 rw[ya,ya,h s r,g _ (tR _ _ r)]
theorem Gd(k:Int):Eqv [k,-k] []:=λs r=>HV r k
theorem Md(t:List Int)(k:Int):Eqv (t++[k]) (bU t k):=by
 rcases gZ t k with⟨t',e,ep⟩|⟨_,ep⟩
 ·rw[ep,e,List.append_assoc]
  have h:=(Eqv.refl t').app (Gd (-k))
  rw[neg_neg,append_nil]at h
  exact h
 ·rw[ep]
  exact .refl _
theorem zL:∀(x t:List Int),Eqv (t++x) (bG t x)
 |[],t=>by rw[append_nil];exact .refl _
 |k::x,t=>by
  have h:=(Md t k).app (.refl x)
  rw[List.append_assoc]at h
  exact h.trans (zL x (bU t k))
theorem ql(x:List Int):Eqv x (bG [] x):=zL x []
theorem Eqv.eq {x y:List Int}(h:Eqv x y):bG [] x=bG [] y:=h [] wW
def bk(x:List Int):List Int:=x.reverse.map λk=> -k
theorem AE(x y:List Int):bk (x++y)=bk y++bk x:=by unfold bk;rw[reverse_append,map_append]
theorem Me(x:List Int):bk (bk x)=x:=by
 unfold bk
 rw[<-map_reverse,reverse_reverse,map_map]
 conv=>rhs;rw[<-map_id x]
 exact map_congr_left λk _=>neg_neg k
theorem Ed:∀x:List Int,Eqv (x++bk x) []
 |[]=>.refl _
 |k::x=>by
  have h1:k::x++bk (k::x)=[k]++((x++bk x)++[-k]):=by
   rw[show k::x=[k]++x from rfl,AE]
   simp[bk]
  rw[h1]
  exact((Eqv.refl [k]).app ((Ed x).app (.refl [-k]))).trans (Gd k)
theorem Ge(x:List Int):Eqv (bk x++x) []:=by
 have:=Ed (bk x)
 rw[Me]at this
 exact this
theorem Eqv.bk {x y:List Int}(h:Eqv x y):Eqv (DL.bk x) (DL.bk y):=by
 have h1:Eqv (DL.bk x++(y++DL.bk y)) (DL.bk x):=by
  have:=(Eqv.refl (DL.bk x)).app (Ed y)
  rw[append_nil]at this
  exact this
 have h2:Eqv (DL.bk x++(y++DL.bk y)) (DL.bk x++(x++DL.bk y)):=(Eqv.refl _).app (h.symm.app (.refl _))
 have h3:Eqv (DL.bk x++(x++DL.bk y)) (DL.bk y):=by
  rw[<-List.append_assoc]
  have:=(Ge x).app (.refl (DL.bk y))
  rw[nil_append]at this
  exact this
 exact(h1.symm.trans h2).trans h3
def Vh(S:List (List Int))(i:Int):List Int:=if 0<i then S.getD (i-1).toNat []else if i<0 then bk (S.getD (-i-1).toNat [])else[]
def jd(S:List (List Int))(x:List Int):List Int:=(x.map (Vh S)).flatten
theorem Mf(S:List (List Int))(i:Int):Vh S (-i)=bk (Vh S i):=by
 unfold Vh
 by_cases c:0<i
 ·rw[if_neg (by lia),if_pos (by lia),if_pos c,neg_neg]
 ·by_cases d:i<0
  ·rw[if_pos (by lia),if_neg c,if_pos d,Me]
  ·rw[if_neg (by lia),if_neg (by lia),if_neg c,if_neg d]
   rfl
theorem jM(S:List (List Int))(x y:List Int):jd S (x++y)=jd S x++jd S y:=by unfold jd;rw[map_append,flatten_append]
theorem qm(S:List (List Int))(k:Int):jd S [k]=Vh S k:=by unfold jd;simp
theorem Gf(S:List (List Int)):∀x:List Int,jd S (bk x)=bk (jd S x)
 |[]=>rfl
 |k::x=>by
  rw[show k::x=[k]++x from rfl,AE,jM,jM,AE,Gf S x]
  congr 1
  rw[show bk [k]=[-k]from rfl,qm,qm,Mf]
theorem HW(S:List (List Int))(t:List Int)(k:Int):Eqv (jd S (t++[k])) (jd S (bU t k)):=by
 rcases gZ t k with⟨t',e,ep⟩|⟨_,ep⟩
 ·rw[ep,e,jM,jM,qm,qm,Mf,List.append_assoc]
  have h:=(Eqv.refl (jd S t')).app (Ge (Vh S k))
  rw[append_nil]at h
  exact h
 ·rw[ep]
  exact .refl _
theorem yi(S:List (List Int)):∀(x t:List Int),Eqv (jd S (t++x)) (jd S (bG t x))
 |[],t=>by rw[append_nil];exact .refl _
 |k::x,t=>by
  have h:=(HW S t k).app (.refl (jd S x))
  rw[<-jM,<-jM,List.append_assoc]at h
  exact h.trans (yi S x (bU t k))
def lA(S:List (List Int))(x:List Int):List Int:=bG [] (jd S x)
noncomputable def rQ(k:Int)(S:List (List Int)):List (List Int):=
 if 0<k then(S.set (k-1).toNat (bG [] (S.getD (k-1).toNat []++S.getD k.toNat []++bk (S.getD (k-1).toNat [])))).set k.toNat (S.getD (k-1).toNat [])
 else(S.set (-k-1).toNat (S.getD (-k).toNat [])).set (-k).toNat (bG [] (bk (S.getD (-k).toNat [])++S.getD (-k-1).toNat []++S.getD (-k).toNat []))
def j5(u:List Int)(S:List (List Int)):List (List Int):=u.foldl (λS k=>rQ k S) S
def RU(n:Nat):List (List Int):=(range n).map λi:Nat=>[(i:Int)+1]
def lB(n:Nat)(u:List Int):List (List Int):=j5 u (RU n)
theorem eY(u v:List Int)(S:List (List Int)):j5 (u++v) S=j5 v (j5 u S):=foldl_append
theorem getD_map(S:List (List Int))(T:List (List Int))(i:Nat):(T.map (lA S)).getD i []=lA S (T.getD i []):=by
 rw[getD_eq_getElem?_getD,getD_eq_getElem?_getD,getElem?_map]
 cases T[i]? with
 |none=>rfl
 |some x=>rfl
theorem zM(S:List (List Int))(a b c:List Int):bG [] (lA S a++lA S b++lA S c)=lA S (bG [] (a++b++c)):=by
 have h:Eqv (lA S a++lA S b++lA S c) (jd S (a++b++c)):=by
  rw[jM,jM]
  exact((ql _).symm.app (ql _).symm).app (ql _).symm
 have h2:=yi S (a++b++c) []
 rw[nil_append]at h2
 exact(h.trans h2).eq
theorem yj{x y:List Int}(h:Eqv x y):bG [] x=bG [] y:=h.eq
theorem Mg(S:List (List Int))(x:List Int):Eqv (bk (lA S x)) (lA S (bk x)):=by
 have h1:Eqv (bk (lA S x)) (bk (jd S x)):=(ql (jd S x)).symm.bk
 rw[<-Gf]at h1
 exact h1.trans (ql _)
theorem Mh(S T:List (List Int))(k:Int):rQ k (T.map (lA S))=(rQ k T).map (lA S):=by
 unfold rQ
 split
 ·rw[map_set,map_set,getD_map,getD_map,<-zM,yj (((Eqv.refl _).app (.refl _)).app (Mg S _))]
 ·rw[map_set,map_set,getD_map,getD_map,<-zM,yj (((Mg S _).app (.refl _)).app (.refl _))]
theorem zN(S:List (List Int)):∀(u:List Int)(T:List (List Int)),j5 u (T.map (lA S))=(j5 u T).map (lA S)
 |[],_=>rfl
 |k::u,T=>by
  show j5 u (rQ k (T.map (lA S)))=_
  rw[Mh]
  exact zN S u (rQ k T)
structure Bs(n:Nat)(S:List (List Int)):Prop where
 len:S.length=n
 red:∀x∈S,Red x
theorem Pu(k:Int):Red [k]:=λA x y B e=>by
 have:=congrArg length e
 simp at this
 lia
theorem zO(n:Nat):Bs n (RU n):=⟨by simp[RU],λx hx=>by
 obtain⟨i,_,rfl⟩:=mem_map.mp hx
 exact Pu _⟩
theorem CA{n:Nat}{S:List (List Int)}(h:Bs n S)(i:Nat):Red (S.getD i []):=by
 rw[getD_eq_getElem?_getD]
 cases e:S[i]? with
 |none=>exact wW
 |some x=>exact h.red x (mem_of_getElem? e)
theorem Pw{n:Nat}{S:List (List Int)}(h:Bs n S)(k:Int):Bs n (rQ k S):=by
 have st:∀(T:List (List Int))(i:Nat)(y:List Int),Bs n T->Red y->Bs n (T.set i y):=λT i y g hy=>⟨by rw[length_set];exact g.len,λx hx=>by
  rcases List.mem_or_eq_of_mem_set hx with hx|rfl
  ·exact g.red x hx
  ·exact hy⟩
 unfold rQ
 split
 ·exact st _ _ _ (st _ _ _ h (tR _ _ wW)) (CA h _)
 ·exact st _ _ _ (st _ _ _ h (CA h _)) (tR _ _ wW)
theorem nN{n:Nat}:∀(u:List Int){S:List (List Int)},Bs n S->Bs n (j5 u S)
 |[],_,h=>h
 |k::u,_,h=>nN u (Pw h k)
theorem Mi{n:Nat}{S:List (List Int)}(h:Bs n S):(RU n).map (lA S)=S:=by
 unfold RU
 rw[map_map]
 refine List.ext_getElem? λi=>?_
 rw[getElem?_map]
 by_cases c:i<n
 ·rw[List.getElem?_range c,getElem?_eq_getElem (by rw[h.len];exact c)]
  show some (lA S [(i:Int)+1])=_
  congr 1
  unfold lA
  rw[qm]
  unfold Vh
  rw[if_pos (by lia),show((i:Int)+1-1).toNat=i by lia,getD_eq_getElem?_getD,getElem?_eq_getElem (by rw[h.len];exact c)]
  have hr:=h.red _ (getElem_mem (show i<S.length by rw[h.len];exact c))
  have:=Cz (S[i]'(by rw[h.len];exact c)) [] hr
  rw[nil_append]at this
  exact this
 ·rw[getElem?_eq_none (by simpa using c),getElem?_eq_none (by rw[h.len];lia)]
  rfl
theorem tU{n:Nat}{S:List (List Int)}(h:Bs n S)(u:List Int):j5 u S=(lB n u).map (lA S):=by
 unfold lB
 rw[<-zN,Mi h]
theorem Mj{n:Nat}{u v:List Int}(e:lB n u=lB n v)(a b:List Int):lB n (a++u++b)=lB n (a++v++b):=by
 have hb:=nN a (zO n)
 unfold lB
 rw[eY,eY,eY,eY,tU hb,tU hb v,e]
theorem Ml:∀n,n<=7->∀k∈([1,2,3,4,5,6,-1,-2,-3,-4,-5,-6]:List Int),k.natAbs<n->lB n [k,-k]=lB n []:=by decide +kernel
def Gg:List Int:=[1,2,3,4,5,6,-1,-2,-3,-4,-5,-6]
theorem Px:((range 8).all λn=>Gg.all λk=>Gg.all λl=> !(decide (k.natAbs<n)&&decide (l.natAbs<n)&&(decide (k.natAbs+2<=l.natAbs)||decide (l.natAbs+2<=k.natAbs)))||decide (lB n [k,l]=lB n [l,k]))=true:=by decide +kernel
theorem all2{n:Nat}(hn:n<=7){f:Nat->Int->Int->Bool}(h:((range 8).all λn=>Gg.all λk=>Gg.all λl=>f n k l)=true){k l:Int}(hk:k∈Gg)(hl:l∈Gg):f n k l=true:=by
 rw[all_eq_true]at h
 have h1:=h n (by rw[mem_range];lia)
 rw[all_eq_true]at h1
 have h2:=h1 k hk
 rw[all_eq_true]at h2
 exact h2 l hl
theorem Mm{n:Nat}(hn:n<=7){k l:Int}(hk:k∈Gg)(hk2:k.natAbs<n)(hl:l∈Gg)(hl2:l.natAbs<n)(h:k.natAbs+2<=l.natAbs\/l.natAbs+2<=k.natAbs):lB n [k,l]=lB n [l,k]:=by
 have:=all2 hn Px hk hl
 rw[decide_eq_true hk2,decide_eq_true hl2,Bool.true_and,Bool.true_and,show(decide (k.natAbs+2<=l.natAbs)||decide (l.natAbs+2<=k.natAbs))=true by rw[or_eq_true,decide_eq_true_eq,decide_eq_true_eq];exact h,Bool.not_true,Bool.false_or,decide_eq_true_eq]at this
 exact this
theorem Py:∀n,n<=7->∀k∈([1,2,3,4,5,-1,-2,-3,-4,-5]:List Int),k.natAbs+1<n->lB n [k,k+(if 0<k then 1 else-1),k]=lB n [k+(if 0<k then 1 else-1),k,k+(if 0<k then 1 else-1)]:=by decide +kernel
theorem jC{n:Nat}(hn:n<=7){k:Int}(h:bC n k):k∈Gg/\k.natAbs<n:=by
 unfold bC at h
 have:k=1\/k=2\/k=3\/k=4\/k=5\/k=6\/k= -1\/k= -2\/k= -3\/k= -4\/k= -5\/k= -6:=by lia
 exact⟨by unfold Gg;simpa using this,by lia⟩
theorem oG{n:Nat}(hn:n<=7):∀(w:List Int){S:List (List Int)},Bs n S->(∀k∈w,bC n k)->j5 (bk w) (j5 w S)=S
 |[],_,_,_=>rfl
 |k::w,S,h,hw=>by
  have hk:=jC hn (hw k (by simp))
  rw[show k::w=[k]++w from rfl,AE,eY,eY,oG hn w (nN [k] h) λx hx=>hw x (by simp[hx])]
  show j5 [-k] (j5 [k] S)=S
  rw[<-eY]
  show j5 [k,-k] S=S
  rw[tU h,Ml n hn k hk.1 hk.2]
  exact Mi h
theorem acC{n:Nat}{w:List Int}(hw:∀k∈w,bC n k):∀k∈bk w,bC n k:=λk hk=>by
 unfold bk at hk
 obtain⟨x,hx,rfl⟩:=mem_map.mp hk
 have:=hw x (by simpa using hx)
 unfold bC at*
 lia
theorem Mn{n:Nat}(hn:n<=7){w u v:List Int}(hw:∀k∈w,bC n k)(e:lB n (u++w)=lB n (v++w)):lB n u=lB n v:=by
 unfold lB at*
 rw[eY,eY]at e
 have:=oG hn w (nN u (zO n)) hw
 rw[e,oG hn w (nN v (zO n)) hw]at this
 exact this.symm
theorem Pz{n:Nat}(hn:n<=7){w u v:List Int}(hw:∀k∈w,bC n k)(e:lB n (w++u)=lB n (w++v)):lB n u=lB n v:=by
 have key:∀z:List Int,(lB n (w++z)).map (lA (lB n (bk w)))=lB n z:=λz=>by
  have e0:=tU (nN (bk w) (zO n)) (w++z)
  have:=oG hn (bk w) (zO n) (acC hw)
  rw[Me]at this
  show(lB n (w++z)).map (lA (j5 (bk w) (RU n)))=_
  rw[<-e0,eY,this]
  rfl
 rw[<-key u,<-key v,e]
theorem qL:((("out":Str))==(("out":Str)))=true:=by decide
theorem tV:((("out":Str))==(("in":Str)))=false:=by decide
theorem qM:((("out":Str))==(("far":Str)))=false:=by decide
theorem oH:((("out":Str))==(("near":Str)))=false:=by decide
theorem tW:((("in":Str))==(("out":Str)))=false:=by decide
theorem wX:((("in":Str))==(("in":Str)))=true:=by decide
theorem tX:((("in":Str))==(("far":Str)))=false:=by decide
theorem qN:((("in":Str))==(("near":Str)))=false:=by decide
theorem qO:((("far":Str))==(("out":Str)))=false:=by decide
theorem tY:((("far":Str))==(("in":Str)))=false:=by decide
theorem qP:((("far":Str))==(("far":Str)))=true:=by decide
theorem oJ:((("far":Str))==(("near":Str)))=false:=by decide
theorem oK:((("near":Str))==(("out":Str)))=false:=by decide
theorem qQ:((("near":Str))==(("in":Str)))=false:=by decide
theorem oM:((("near":Str))==(("far":Str)))=false:=by decide
theorem my:((("near":Str))==(("near":Str)))=true:=by decide
def gI(w:List Int)(i:Int):Int:=(w[i.toNat]?).getD 0
theorem yk{w:List Int}{i:Int}(h:0<=i)(h2:i<(w.length:Int)):i6 (aM w) i=some (.int (gI w i)):=by
 rw[nX,qA h]
 unfold gI
 rw[getElem?_eq_getElem (by lia)]
 rfl
theorem g4{w:List Int}{i:Int}(h:0<=i)(h2:i<(w.length:Int)):gI w i∈w:=by
 unfold gI
 rw[getElem?_eq_getElem (by lia)]
 exact getElem_mem _
def lC(k:Int):Int:=if k<0 then-k else k
inductive Mv where
 |out (p:Int)|Io (p k:Int)|far (p:Int)|near (p:Int)
def Mv.d:Mv->D
 |.out p=>.tup [.str "out",.int p]
 |.Io p k=>.tup [.str "in",.int p,.int k]
 |.far p=>.tup [.str "far",.int p]
 |.near p=>.tup [.str "near",.int p]
def vX(w:List Int)(p m:Int):Bool:=decide (0<=p)&&decide (p+m<=(w.length:Int))
noncomputable def lD(n:Int)(w:List Int):Mv->Bool
 |.out p=>vX w p 2&&(gI w p== -gI w (p+1))
 |.Io p k=>vX w p 0&&(!(k==0)&&decide (lC k<n))
 |.far p=>vX w p 2&&decide (2<=lC (lC (gI w p)-lC (gI w (p+1))))
 |.near p=>vX w p 3&&(gI w p==gI w (p+2))&&(lC (gI w p-gI w (p+1))==1)
noncomputable def doneF(w:List Int):Mv->List Int
 |.out p=>w.take p.toNat++w.drop (p+2).toNat
 |.Io p k=>w.take p.toNat++[k,-k]++w.drop p.toNat
 |.far p=>w.take p.toNat++[gI w (p+1),gI w p]++w.drop (p+2).toNat
 |.near p=>w.take p.toNat++[gI w (p+1),gI w p,gI w (p+1)]++w.drop (p+3).toNat
theorem Gi{w:List Int}{p m:Int}(h:vX w p m=true):0<=p/\p+m<=(w.length:Int):=by
 unfold vX at h
 simpa using h
theorem Gj(a b:D):i6 [a,b] 0=some a:=rfl
theorem Gk(a b:D):i6 [a,b] 1=some b:=rfl
theorem Gm(a b c:D):i6 [a,b,c] 0=some a:=rfl
theorem Gn(a b c:D):i6 [a,b,c] 1=some b:=rfl
theorem Gq(a b c:D):i6 [a,b,c] 2=some c:=rfl
theorem AF{n:Int}{w:List Int}{d:Mv}(h:lD n w d=true):(match d with
  |.out p=>0<=p/\p+2<=(w.length:Int)
  |.Io p _=>0<=p/\p<=(w.length:Int)
  |.far p=>0<=p/\p+2<=(w.length:Int)
  |.near p=>0<=p/\p+3<=(w.length:Int)):=by
 cases d with
 |out p=>
  simp -implicitDefEqProofs only [lD,and_eq_true]at h
  exact Gi h.1
 |Io p k=>
  simp -implicitDefEqProofs only [lD,and_eq_true]at h
  have:=Gi h.1
  dsimp only;lia
 |far p=>
  simp -implicitDefEqProofs only [lD,and_eq_true]at h
  exact Gi h.1
 |near p=>
  simp -implicitDefEqProofs only [lD,and_eq_true]at h
  exact Gi h.1.1
theorem AG(a b:Int):[D.int a,D.int b]=aM [a,b]:=rfl
theorem HX(a b c:Int):[D.int a,D.int b,D.int c]=aM [a,b,c]:=rfl
theorem PB(n:Int)(w:List Int)(d:Mv)(hw:w.length<=1000)(h:lD n w d=true):jF [.lst (aM w),d.d]=.ok (aM (doneF w d)):=by
 have hp:=AF h
 unfold jF vq
 simp_all
 cases d with
 |out p=>
  dsimp only at hp
  simp_all only [Mv.d,reduceIte,ah,ai,aG,aH,aI,aJ,Gj,Gk,Gm,Gn,Gq,qL,tV,qM,oH,tW,wX,tX,qN,qO,tY,qP,oJ,oK,qQ,oM,my,dw]
  rw[kP _ _ hp.1,iD _ _ (by lia),b9,bj (by rw[length_append,length_take,length_drop];lia)]
  dsimp [gx]
  rfl
 |Io p k=>
  dsimp only at hp
  simp_all only [Mv.d,reduceIte,ah,ai,aG,aH,aI,aJ,Gj,Gk,Gm,Gn,Gq,qL,tV,qM,oH,tW,wX,tX,qN,qO,tY,qP,oJ,oK,qQ,oM,my,dw]
  rw[kP _ _ hp.1,iD _ _ hp.1,AG k (-k),b9,bj (by rw[length_append,length_take];simp;lia)]
  dsimp [b9]
  rw[bj (by rw[length_append,length_append,length_take,length_drop];simp;lia)]
  dsimp [gx]
  rfl
 |far p=>
  dsimp only at hp
  simp_all only [Mv.d,reduceIte,ah,ai,aG,aH,aI,aJ,Gj,Gk,Gm,Gn,Gq,qL,tV,qM,oH,tW,wX,tX,qN,qO,tY,qP,oJ,oK,qQ,oM,my,dw]
  rw[yk (by lia) (by lia)]
  dsimp
  rw[yk (by lia) (by lia)]
  dsimp
  rw[kP _ _ hp.1,iD _ _ (by lia),AG (gI w (p+1)) (gI w p),b9,bj (by rw[length_append,length_take];simp;lia)]
  dsimp [b9]
  rw[bj (by rw[length_append,length_append,length_take,length_drop];simp;lia)]
  dsimp [gx]
  rfl
 |near p=>
  dsimp only at hp
  simp_all only [Mv.d,reduceIte,ah,ai,aG,aH,aI,aJ,Gj,Gk,Gm,Gn,Gq,qL,tV,qM,oH,tW,wX,tX,qN,qO,tY,qP,oJ,oK,qQ,oM,my,dw]
  rw[yk (by lia) (by lia)]
  dsimp
  rw[yk (by lia) (by lia)]
  dsimp
  rw[kP _ _ hp.1,iD _ _ (by lia),HX (gI w (p+1)) (gI w p) (gI w (p+1)),b9,bj (by rw[length_append,length_take];simp;lia)]
  dsimp [b9]
  rw[bj (by rw[length_append,length_append,length_take,length_drop];simp;lia)]
  dsimp [gx]
  rfl
theorem AH{t:R Bool}{b:Bool}{a:R Out}{e:DE}{k:DE->R Out}(h:t=.ok b):aX (R.bind t λv=>if v=true then a else .ok (.nx e)) k=if b=true then aX a k else k e:=by
 subst h
 cases b<;>rfl
theorem tZ{n:Int}{w:List Int}{d:Mv}(h:lD n w d=true):(doneF w d).length<=w.length+2/\((∀p k,d≠.Io p k)->(doneF w d).length<=w.length):=by
 have hp:=AF h
 cases d with
 |out p=>
  dsimp only at hp
  refine⟨?_,λ_=>?_⟩<;>(show(w.take p.toNat++w.drop (p+2).toNat).length<=_;rw[length_append,length_take,length_drop];lia)
 |Io p k=>
  dsimp only at hp
  refine⟨?_,λhq=>absurd rfl (hq p k)⟩
  show(w.take p.toNat++[k,-k]++w.drop p.toNat).length<=_
  rw[length_append,length_append,length_take,length_drop];simp;lia
 |far p=>
  dsimp only at hp
  refine⟨?_,λ_=>?_⟩<;>(show(w.take p.toNat++[gI w (p+1),gI w p]++w.drop (p+2).toNat).length<=_;rw[length_append,length_append,length_take,length_drop];simp;lia)
 |near p=>
  dsimp only at hp
  refine⟨?_,λ_=>?_⟩<;>(show(w.take p.toNat++[gI w (p+1),gI w p,gI w (p+1)]++w.drop (p+3).toNat).length<=_;rw[length_append,length_append,length_take,length_drop];simp;lia)
theorem Gr{n k:Int}(h1:(k==0)=false)(h2:lC k<n):bC n k:=by
 unfold lC at h2
 unfold bC
 have:k≠0:=by simpa using h1
 split at h2<;>lia
theorem PD{n k:Int}(h:bC n k):bC n (-k):=by unfold bC at*;lia
theorem PF{n:Int}{w:List Int}{d:Mv}(hw:∀k∈w,bC n k)(h:lD n w d=true):∀k∈doneF w d,bC n k:=by
 have hp:=AF h
 cases d with
 |out p=>
  intro k hk
  rcases mem_append.mp (show k∈w.take p.toNat++w.drop (p+2).toNat from hk)with q|q
  ·exact hw k (mem_of_mem_take q)
  ·exact hw k (mem_of_mem_drop q)
 |Io p x=>
  intro k hk
  have hx:bC n x:=by
   simp -implicitDefEqProofs only [lD,and_eq_true,not_eq_true',decide_eq_true_eq]at h
   exact Gr h.2.1 h.2.2
  rcases mem_append.mp (show k∈w.take p.toNat++[x,-x]++w.drop p.toNat from hk)with q|q
  ·rcases mem_append.mp q with q|q
   ·exact hw k (mem_of_mem_take q)
   ·simp at q
    rcases q with rfl|rfl
    ·exact hx
    ·exact PD hx
  ·exact hw k (mem_of_mem_drop q)
 |far p=>
  dsimp only at hp
  intro k hk
  rcases mem_append.mp (show k∈w.take p.toNat++[gI w (p+1),gI w p]++w.drop (p+2).toNat from hk)with q|q
  ·rcases mem_append.mp q with q|q
   ·exact hw k (mem_of_mem_take q)
   ·simp at q
    rcases q with rfl|rfl
    ·exact hw _ (g4 (by lia) (by lia))
    ·exact hw _ (g4 (by lia) (by lia))
  ·exact hw k (mem_of_mem_drop q)
 |near p=>
  dsimp only at hp
  intro k hk
  rcases mem_append.mp (show k∈w.take p.toNat++[gI w (p+1),gI w p,gI w (p+1)]++w.drop (p+3).toNat from hk)with q|q
  ·rcases mem_append.mp q with q|q
   ·exact hw k (mem_of_mem_take q)
   ·simp at q
    rcases q with rfl|rfl|rfl
    ·exact hw _ (g4 (by lia) (by lia))
    ·exact hw _ (g4 (by lia) (by lia))
    ·exact hw _ (g4 (by lia) (by lia))
  ·exact hw k (mem_of_mem_drop q)
theorem oN{w:List Int}{p i:Int}(hp:0<=p)(hi:0<=i/\i<3)(hl:p+i<(w.length:Int)):i6 (aM ((w.drop p.toNat).take 3)) i=some (.int (gI w (p+i))):=by
 rw[nX,qA hi.1]
 unfold gI
 rw[List.getElem?_take,if_pos (by lia),List.getElem?_drop,show p.toNat+i.toNat=(p+i).toNat by lia,getElem?_eq_getElem (by lia)]
 rfl
theorem PH(w:List Int)(n z room:Int)(hw:∀k∈w,bC n k)(hn:1<=n/\n<=7)(hz:0<=z)(hl:w.length<=1000):∃o:Option Mv,jG [.lst (aM w),.int n,.int z,.int room]=.ok (match o with
  |some d=>d.d
  |none=>.non)/\∀d,o=some d->lD n w d=true/\((doneF w d).length<=w.length\/((doneF w d).length:Int)<=room):=by
 unfold jG vx
 simp_all [aW]
 rw[fK z _ (by lia)]
 dsimp
 generalize hp:z%((w.length:Int)+1)=p
 have p0:0<=p:=by rw[<-hp];exact emod_nonneg _ (by lia)
 have p1:p<(w.length:Int)+1:=by rw[<-hp];exact emod_lt_of_pos _ (by lia)
 rw[dw,TU _ _ _ p0 (by lia),show(p+3).toNat-p.toNat=3 by lia]
 have hhl:(((w.drop p.toNat).take 3).length:Int)=if(w.length:Int)-p<3 then(w.length:Int)-p else 3:=by
  rw[length_take,length_drop]
  split<;>lia
 have m1:∀i:Int,0<=i->i<(w.length:Int)-> -(2^64)<gI w i/\gI w i<2^64:=λi h1 h2=>by
  have:=hw _ (g4 h1 h2)
  unfold bC at this
  lia
 have l1:(1:Int)<(((w.drop p.toNat).take 3).length:Int)↔p+2<=(w.length:Int):=by rw[hhl];split<;>lia
 have l2:(2:Int)<(((w.drop p.toNat).take 3).length:Int)↔p+3<=(w.length:Int):=by rw[hhl];split<;>lia
 rw[AH (b:=vX w p 2&&(gI w p== -gI w (p+1))&&decide (0<z/128%3))]
 rotate_left
 ·simp_all only [aW,reduceIte,ah,ai,aG,aH,aI,aJ]
  by_cases h:p+2<=(w.length:Int)
  ·have hb:vX w p 2=true:=by unfold vX;simp[p0,h]
   simp_all only [l1.mpr h,decide_true,reduceIte,ah,ai,aG,aH,aI,aJ,hb,Bool.true_and]
   rw[oN p0 (by lia) (by lia)]
   dsimp [Int.add_zero]
   rw[oN p0 (by lia) (by lia)]
   dsimp
   cases hq:(gI w p== -gI w (p+1))with
   |false=>dsimp [Bool.false_and]
   |true=>
    dsimp [Bool.true_and]
    rw[nV z 128 (by decide)]
    dsimp
    rw[fK _ 3 (by decide)]
    dsimp
  ·have hb:vX w p 2=false:=by unfold vX;simp[h]
   have:¬(1:Int)<(((w.drop p.toNat).take 3).length:Int):=λq=>h (l1.mp q)
   simp_all only [this,decide_false,reduceIte,ah,ai,aG,aH,aI,aJ,hb,Bool.false_and]
 dsimp
 rw[AH (b:=vX w p 2&&decide (1<lC (lC (gI w p)-lC (gI w (p+1))))&&decide (0<z/128%5))]
 rotate_left
 ·simp_all only [aW,reduceIte,ah,ai,aG,aH,aI,aJ]
  by_cases h:p+2<=(w.length:Int)
  ·have hb:vX w p 2=true:=by unfold vX;simp[p0,h]
   simp_all only [l1.mpr h,decide_true,reduceIte,ah,ai,aG,aH,aI,aJ,hb,Bool.true_and]
   rw[oN p0 (by lia) (by lia)]
   dsimp [Int.add_zero]
   rw[oN p0 (by lia) (by lia)]
   dsimp
   by_cases hq:1<lC (lC (gI w p)-lC (gI w (p+1)))
   ·have C8:=hq
    unfold lC at C8
    simp_all only [hq,C8,decide_true,reduceIte,ah,ai,aG,aH,aI,aJ,Bool.true_and]
    rw[nV z 128 (by decide)]
    dsimp
    rw[fK _ 5 (by decide)]
    dsimp
   ·have C8:=hq
    unfold lC at C8
    simp_all only [hq,C8,decide_false,reduceIte,ah,ai,aG,aH,aI,aJ,Bool.false_and]
  ·have hb:vX w p 2=false:=by unfold vX;simp[h]
   have:¬(1:Int)<(((w.drop p.toNat).take 3).length:Int):=λq=>h (l1.mp q)
   simp_all only [this,decide_false,reduceIte,ah,ai,aG,aH,aI,aJ,hb,Bool.false_and]
 dsimp
 rw[AH (b:=vX w p 3&&(gI w p==gI w (p+2))&&decide (0<gI w p*gI w (p+1))&&(lC (gI w p-gI w (p+1))==1))]
 rotate_left
 ·simp_all only [aW,reduceIte,ah,ai,aG,aH,aI,aJ]
  by_cases h:p+3<=(w.length:Int)
  ·have hb:vX w p 3=true:=by unfold vX;simp[p0,h]
   simp_all only [l2.mpr h,decide_true,reduceIte,ah,ai,aG,aH,aI,aJ,hb,Bool.true_and]
   rw[oN p0 (by lia) (by lia)]
   dsimp [Int.add_zero]
   rw[oN p0 (by lia) (by lia)]
   dsimp
   cases hq:(gI w p==gI w (p+2))with
   |false=>dsimp [Bool.false_and]
   |true=>
    dsimp [Bool.true_and]
    rw[oN p0 (by lia) (by lia)]
    dsimp
    rw[z7 _ _ (.inl (m1 p p0 (by lia)))]
    dsimp
    by_cases hm:0<gI w p*gI w (p+1)
    ·simp_all only [hm,decide_true,reduceIte,ah,ai,aG,aH,aI,aJ,Bool.true_and]
     rfl
    ·simp_all only [hm,decide_false,reduceIte,ah,ai,aG,aH,aI,aJ,Bool.false_and]
  ·have hb:vX w p 3=false:=by unfold vX;simp[h]
   have:¬(2:Int)<(((w.drop p.toNat).take 3).length:Int):=λq=>h (l2.mp q)
   simp_all only [this,decide_false,reduceIte,ah,ai,aG,aH,aI,aJ,hb,Bool.false_and]
 dsimp
 rw[AH (b:=decide (1<n)&&decide ((w.length:Int)+2<=room))]
 rotate_left
 ·simp_all only [aW,reduceIte,ah,ai,aG,aH,aI,aJ]
  by_cases h:1<n
  ·simp_all only [h,decide_true,reduceIte,ah,ai,aG,aH,aI,aJ,Bool.true_and,aW]
  ·simp_all only [h,decide_false,reduceIte,ah,ai,aG,aH,aI,aJ,Bool.false_and]
 cases c1:(vX w p 2&&(gI w p== -gI w (p+1))&&decide (0<z/128%3))with
 |true=>
  simp -implicitDefEqProofs only [and_eq_true]at c1
  dsimp
  refine⟨some (.out p),rfl,λd hd=>?_⟩
  cases hd
  have hc:lD n w (.out p)=true:=by simp_all only [lD,and_eq_true];exact c1.1
  exact⟨hc,.inl ((tZ hc).2 λ_ _ q=>by cases q)⟩
 |false=>
  dsimp
  cases c2:(vX w p 2&&decide (1<lC (lC (gI w p)-lC (gI w (p+1))))&&decide (0<z/128%5))with
  |true=>
   simp -implicitDefEqProofs only [and_eq_true,decide_eq_true_eq]at c2
   dsimp
   refine⟨some (.far p),rfl,λd hd=>?_⟩
   cases hd
   have hc:lD n w (.far p)=true:=by simp_all only [lD,and_eq_true,decide_eq_true_eq];exact⟨c2.1.1,by lia⟩
   exact⟨hc,.inl ((tZ hc).2 λ_ _ q=>by cases q)⟩
  |false=>
   dsimp
   cases c3:(vX w p 3&&(gI w p==gI w (p+2))&&decide (0<gI w p*gI w (p+1))&&(lC (gI w p-gI w (p+1))==1))with
   |true=>
    simp -implicitDefEqProofs only [and_eq_true,decide_eq_true_eq]at c3
    dsimp
    refine⟨some (.near p),rfl,λd hd=>?_⟩
    cases hd
    have hc:lD n w (.near p)=true:=by simp_all only [lD,and_eq_true];exact⟨c3.1.1,c3.2⟩
    exact⟨hc,.inl ((tZ hc).2 λ_ _ q=>by cases q)⟩
   |false=>
    dsimp
    cases c4:(decide (1<n)&&decide ((w.length:Int)+2<=room))with
    |true=>
     simp -implicitDefEqProofs only [and_eq_true,decide_eq_true_eq]at c4
     dsimp
     rw[nV z 1024 (by decide)]
     dsimp
     rw[BL _ n (by lia)]
     dsimp
     refine⟨some (.Io p (dR (z/1024) n)),rfl,λd hd=>?_⟩
     cases hd
     have hx:=BN (z/1024) n (by lia)
     have hc:lD n w (.Io p (dR (z/1024) n))=true:=by
      simp_all only [lD,and_eq_true,not_eq_true',decide_eq_true_eq]
      refine⟨by unfold vX;simp[p0];lia,?_,?_⟩
      ·exact beq_false_of_ne hx.1
      ·unfold lC bC at*;split<;>lia
     refine⟨hc,.inr ?_⟩
     have:=(tZ hc).1
     lia
    |false=>
     dsimp
     exact⟨none,rfl,λd hd=>by cases hd⟩
theorem Gs{n:Nat}{k:Int}(h:bC n k):1<=k.natAbs/\k.natAbs<n:=by
 unfold bC at h
 lia
def yU(n:Nat)(u v:List Int):Prop:=(n<=7->2<=n->Lk n u v)/\(n<=7->lB n u=lB n v)
theorem yU.symm {n:Nat}{u v:List Int}(h:yU n u v):yU n v u:=⟨λa b=>(h.1 a b).symm,λa=>(h.2 a).symm⟩
theorem yU.refl (n:Nat)(u:List Int):yU n u u:=⟨λ_ _=>Lk.refl n u,λ_=>rfl⟩
theorem yU.trans {n:Nat}{u v w:List Int}(h:yU n u v)(g:yU n v w):yU n u w:=⟨λa b=>(h.1 a b).trans (g.1 a b),λa=>(h.2 a).trans (g.2 a)⟩
theorem yU.mid {n:Nat}{u v:List Int}(h:yU n u v){a:List Int}(ha:∀k∈a,bC n k)(b:List Int):yU n (a++u++b) (a++v++b):=⟨λx y=>Lk.mid x y (h.1 x y) ha,λx=>Mj (h.2 x) a b⟩
theorem wY{n:Nat}{k:Int}(hk:bC n k):yU n [k,-k] []:=⟨λa b=>LZ a b hk,λa=>Ml n a k (jC a hk).1 (jC a hk).2⟩
theorem PJ{n:Nat}{k l:Int}(hk:bC n k)(hl:bC n l)(h:k.natAbs+2<=l.natAbs\/l.natAbs+2<=k.natAbs):yU n [k,l] [l,k]:=⟨λa b=>L4 a b hk hl h,λa=>Mm a (jC a hk).1 (jC a hk).2 (jC a hl).1 (jC a hl).2 h⟩
theorem zP{n:Nat}{k l:Int}{a:Nat}(ha:k.natAbs=a+1)(hb:l.natAbs=a+2)(hn:a+2<n)(hs:(0<k)=(0<l)):yU n [k,l,k] [l,k,l]:=⟨λx y=>L5 x y ha hb hn hs,λx=>by
 have hk:k∈([1,2,3,4,5,-1,-2,-3,-4,-5]:List Int):=by
  have:k=1\/k=2\/k=3\/k=4\/k=5\/k= -1\/k= -2\/k= -3\/k= -4\/k= -5:=by lia
  simpa using this
 have e:=Py n x k hk (by lia)
 have el:k+(if 0<k then 1 else-1)=l:=by
  by_cases c:0<k
  ·have:0<l:=hs▸c
   rw[if_pos c]
   lia
  ·have:¬0<l:=hs▸c
   rw[if_neg c]
   lia
 rw[el]at e
 exact e⟩
theorem Mp{n:Nat}{k l:Int}(hk:bC n k)(hl:bC n l)(h:k-l=1\/l-k=1):yU n [k,l,k] [l,k,l]:=by
 have k1:=Gs hk
 have l1:=Gs hl
 unfold bC at hk hl
 have hs:(0<k)=(0<l):=by apply propext;lia
 by_cases q:k.natAbs<l.natAbs
 ·exact zP (a:=k.natAbs-1) (by lia) (by lia) (by lia) hs
 ·exact(zP (a:=l.natAbs-1) (by lia) (by lia) (by lia) hs.symm).symm
theorem Mq{w:List Int}{p:Int}(h0:0<=p)(h:p+2<=(w.length:Int)):w=w.take p.toNat++[gI w p,gI w (p+1)]++w.drop (p+2).toNat:=by
 obtain⟨m,rfl⟩:∃m:Nat,p=m:=⟨p.toNat,by lia⟩
 have e1:gI w m=w[m]'(by lia):=by unfold gI;rw[toNat_natCast,getElem?_eq_getElem (by lia)];rfl
 have e2:gI w ((m:Int)+1)=w[m+1]'(by lia):=by unfold gI;rw[show((m:Int)+1).toNat=m+1 by lia,getElem?_eq_getElem (by lia)];rfl
 rw[e1,e2,toNat_natCast,show((m:Int)+2).toNat=m+1+1 by lia,List.append_assoc]
 show w=w.take m++(w[m]::w[m+1]::w.drop (m+1+1))
 rw[<-drop_eq_getElem_cons (show m+1<w.length by lia),<-drop_eq_getElem_cons (show m<w.length by lia),take_append_drop]
theorem Vi{w:List Int}{p:Int}(h0:0<=p)(h:p+3<=(w.length:Int)):w=w.take p.toNat++[gI w p,gI w (p+1),gI w (p+2)]++w.drop (p+3).toNat:=by
 obtain⟨m,rfl⟩:∃m:Nat,p=m:=⟨p.toNat,by lia⟩
 have e1:gI w m=w[m]'(by lia):=by unfold gI;rw[toNat_natCast,getElem?_eq_getElem (by lia)];rfl
 have e2:gI w ((m:Int)+1)=w[m+1]'(by lia):=by unfold gI;rw[show((m:Int)+1).toNat=m+1 by lia,getElem?_eq_getElem (by lia)];rfl
 have e3:gI w ((m:Int)+2)=w[m+1+1]'(by lia):=by unfold gI;rw[show((m:Int)+2).toNat=m+1+1 by lia,getElem?_eq_getElem (by lia)];rfl
 rw[e1,e2,e3,toNat_natCast,show((m:Int)+3).toNat=m+1+1+1 by lia,List.append_assoc]
 show w=w.take m++(w[m]::w[m+1]::w[m+1+1]::w.drop (m+1+1+1))
 rw[<-drop_eq_getElem_cons (show m+1+1<w.length by lia),<-drop_eq_getElem_cons (show m+1<w.length by lia),<-drop_eq_getElem_cons (show m<w.length by lia),take_append_drop]
theorem PK{n:Nat}{w:List Int}{d:Mv}(hw:∀k∈w,bC n k)(h:lD n w d=true):yU n w (doneF w d):=by
 have hp:=AF h
 have ht:∀q:Nat,∀k∈w.take q,bC n k:=λq k hk=>hw k (mem_of_mem_take hk)
 cases d with
 |out p=>
  dsimp only at hp
  simp -implicitDefEqProofs only [lD,and_eq_true,beq_iff_eq]at h
  have e:=Mq hp.1 hp.2
  have hx:=hw _ (g4 hp.1 (show p<(w.length:Int)by lia))
  have e2:gI w (p+1)= -gI w p:=by lia
  rw[e2]at e
  have:=(wY hx).mid (ht p.toNat) (w.drop (p+2).toNat)
  rw[<-e,append_nil]at this
  exact this
 |Io p k=>
  dsimp only at hp
  simp -implicitDefEqProofs only [lD,and_eq_true,not_eq_true',decide_eq_true_eq]at h
  have hx:=Gr h.2.1 h.2.2
  have:=((wY hx).mid (ht p.toNat) (w.drop p.toNat)).symm
  rw[append_nil,take_append_drop]at this
  exact this
 |far p=>
  dsimp only at hp
  simp -implicitDefEqProofs only [lD,and_eq_true,decide_eq_true_eq]at h
  have e:=Mq hp.1 hp.2
  have hx:=hw _ (g4 hp.1 (show p<(w.length:Int)by lia))
  have hy:=hw _ (g4 (show 0<=p+1 by lia) (show p+1<(w.length:Int)by lia))
  have hq:=h.2
  have:=(PJ hx hy (by unfold lC at hq;repeat' split at hq<;>lia)).mid (ht p.toNat) (w.drop (p+2).toNat)
  rw[<-e]at this
  exact this
 |near p=>
  dsimp only at hp
  simp -implicitDefEqProofs only [lD,and_eq_true,beq_iff_eq]at h
  have e:=Vi hp.1 hp.2
  have hx:=hw _ (g4 hp.1 (show p<(w.length:Int)by lia))
  have hy:=hw _ (g4 (show 0<=p+1 by lia) (show p+1<(w.length:Int)by lia))
  have hq:=h.2
  rw[<-h.1.2]at e
  have:=(Mp hx hy (by unfold lC at hq;repeat' split at hq<;>lia)).mid (ht p.toNat) (w.drop (p+3).toNat)
  rw[<-e]at this
  exact this
def m8(R:List (List Int)):List D:=R.map λr=>.lst (aM r)
theorem zQ(n:Nat):∀(a b:List (List Int)),a.length=b.length->pB (qx (n+1)) (m8 a) (m8 b)=some (decide (a=b))
 |[],[],_=>rfl
 |[],_::_,h=>by simp at h
 |_::_,[],h=>by simp at h
 |x::a,y::b,h=>by
  have ih:=zQ n a b (by simpa using h)
  show(qx (n+1) (.lst (aM x)) (.lst (aM y))).bind _=_
  rw[r9]
  show(pB (qx (n+1)) (m8 a) (m8 b)).map (decide (x=y)&&·)=_
  rw[ih]
  show some (decide (x=y)&&decide (a=b))=some (decide (x::a=y::b))
  congr 1
  rw[Bool.eq_iff_iff]
  simp
theorem CB(n:Nat)(a b:List (List Int)):qx (n+2) (.lst (m8 a)) (.lst (m8 b))=some (decide (a=b)):=by
 show(if(m8 a).length=(m8 b).length then pB (qx (n+1)) (m8 a) (m8 b)else some false)=_
 split
 ·rename_i h
  exact zQ n a b (by simpa[m8]using h)
 ·rename_i h
  congr 1
  symm
  rw[decide_eq_false_iff_not]
  rintro rfl
  exact h rfl
def M6(ω:Int×List RP):D:=.tup [.int ω.1,.lst (m8 (ω.2.map (·.1)))]
theorem Mr(h:Int)(R:List RP):D.tup [.int h,.lst (R.map λp=>.lst (aM p.1))]=M6 (h,R):=by
 unfold M6 m8
 rw[map_map]
 rfl
theorem PL(ω ω':Int×List RP):qx 6 (M6 ω) (M6 ω')=some (ω.1==ω'.1&&decide (ω.2.map (·.1)=ω'.2.map (·.1))):=by
 unfold M6
 show(((qx 5 (.int ω.1) (.int ω'.1)).bind λb=>(pB (qx 5) [.lst (m8 (ω.2.map (·.1)))] [.lst (m8 (ω'.2.map (·.1)))]).map (b&&·)).map (·&&([D.int ω.1,.lst (m8 (ω.2.map (·.1)))].length==[D.int ω'.1,.lst (m8 (ω'.2.map (·.1)))].length)))=_
 show((((qx 5 (.lst (m8 (ω.2.map (·.1)))) (.lst (m8 (ω'.2.map (·.1))))).bind λb=>(some true).map (b&&·)).map ((ω.1==ω'.1)&&·)).map (·&&true))=_
 rw[CB 3]
 simp
theorem Gu(ω ω':Int×List RP):rF (M6 ω) (M6 ω')=some (.bl (ω.1==ω'.1&&decide (ω.2.map (·.1)=ω'.2.map (·.1)))):=by unfold rF;rw[PL];rfl
theorem PN(a b:List Int):AU (.tup [.lst (aM a),.lst (aM b)]) (.tup [.lst (aM a),.lst (aM b)])=some (.bl false):=by
 unfold AU
 show((((qx 5 (.lst (aM a)) (.lst (aM a))).bind λc=>((qx 5 (.lst (aM b)) (.lst (aM b))).bind λd=>(some true).map (d&&·)).map (c&&·)).map (·&&true)).map λb=>D.bl (!b))=_
 rw[r9,r9]
 simp
theorem Ms:((range 8).all λn=>Gg.all λk=>Gg.all λl=> !(decide (k.natAbs<n)&&decide (l.natAbs<n)&&(decide (k.natAbs+1=l.natAbs)||decide (l.natAbs+1=k.natAbs)))||(decide (lB n [k,l]≠lB n [l,k])&&decide (ck n [k,l] (0,[])≠ck n [l,k] (0,[]))))=true:=by decide +kernel
theorem PQ:((range 8).all λn=>Gg.all λk=>Gg.all λ_=> !(decide (k.natAbs<n))||(decide (lB n [k]≠lB n [-k])&&decide (ck n [k] (0,[])≠ck n [-k] (0,[]))&&(decide (lB n [k]≠lB n [])&&decide (ck n [k] (0,[])≠ck n [] (0,[])))))=true:=by decide +kernel
def PR(k:Int):List Int:=[k,k,k+1,k+1,-k,-k,-k-1,-k-1]
theorem PU:((range 8).all λn=>([1,2,3,4,5]:List Int).all λk=> !(decide (k+1<n))||(decide (lB n []≠lB n (PR k))&&decide (ck n [] (0,[])≠ck n (PR k) (0,[]))))=true:=by decide +kernel
def Tl(n:Nat)(u v:List Int):Prop:=lB n u=lB n v↔ck n u (0,[])=ck n v (0,[])
theorem Gv{n:Nat}{u v:List Int}(a:lB n u≠lB n v)(b:ck n u (0,[])≠ck n v (0,[])):Tl n u v:=⟨λz=>absurd z a,λz=>absurd z b⟩
theorem ym{n:Nat}{u v:List Int}(a:lB n u=lB n v)(b:ck n u (0,[])=ck n v (0,[])):Tl n u v:=⟨λ_=>b,λ_=>a⟩
section
variable{n:Nat}(hn:n<=7)(h2:2<=n)
include hn h2
theorem Mt{k:Int}(hk:bC n k):Tl n [k] [-k]/\Tl n [k] []:=by
 obtain⟨m1,m2⟩:=jC hn hk
 have:=all2 hn PQ m1 m1
 rw[decide_eq_true m2,Bool.not_true,Bool.false_or,and_eq_true,and_eq_true,and_eq_true,decide_eq_true_eq,decide_eq_true_eq,decide_eq_true_eq,decide_eq_true_eq]at this
 exact⟨Gv this.1.1 this.1.2,Gv this.2.1 this.2.2⟩
theorem PV{k l:Int}(hk:bC n k)(hl:bC n l):Tl n [k,l] [l,k]:=by
 obtain⟨m1,m2⟩:=jC hn hk
 obtain⟨l1,l2⟩:=jC hn hl
 by_cases c:k.natAbs+2<=l.natAbs\/l.natAbs+2<=k.natAbs
 ·exact ym (Mm hn m1 m2 l1 l2 c) (L4 hn h2 hk hl c _ eu)
 ·by_cases d:k.natAbs=l.natAbs
  ·by_cases e:k=l
   ·rw[e]
    exact ym rfl rfl
   ·have e2:l= -k:=by lia
    subst e2
    have o1:=wY hk
    have o2:=wY hl
    rw[neg_neg]at o2
    exact ym ((o1.2 hn).trans (o2.2 hn).symm) ((o1.1 hn h2 _ eu).trans (o2.1 hn h2 _ eu).symm)
  ·have:=all2 hn Ms m1 l1
   rw[decide_eq_true m2,decide_eq_true l2,Bool.true_and,Bool.true_and,show(decide (k.natAbs+1=l.natAbs)||decide (l.natAbs+1=k.natAbs))=true by rw[or_eq_true,decide_eq_true_eq,decide_eq_true_eq];lia,Bool.not_true,Bool.false_or,and_eq_true,decide_eq_true_eq,decide_eq_true_eq]at this
   exact Gv this.1 this.2
theorem Vj{k:Int}(hk:1<=k)(hk2:k+1<n):Tl n [] (PR k):=by
 have h:=PU
 rw[all_eq_true]at h
 have h1:=h n (by rw[mem_range];lia)
 rw[all_eq_true]at h1
 have:k=1\/k=2\/k=3\/k=4\/k=5:=by lia
 have h3:=h1 k (by simpa using this)
 rw[decide_eq_true hk2,Bool.not_true,Bool.false_or,and_eq_true,decide_eq_true_eq,decide_eq_true_eq]at h3
 exact Gv h3.1 h3.2
theorem Vk{a u v b:List Int}(ha:∀k∈a,bC n k)(hu:∀k∈u,bC n k)(hv:∀k∈v,bC n k)(hb:∀k∈b,bC n k)(t:Tl n u v):Tl n (a++u++b) (a++v++b):=by
 have hx:∀{z:List Int},(∀k∈z,bC n k)->∀k∈a++z,bC n k:=λhz k hk=>(mem_append.mp hk).elim (ha k) (hz k)
 constructor
 ·intro e
  have e2:=t.mp (Pz hn ha (Mn hn hb e))
  exact Lk.mid hn h2 (RQ hn h2 hu hv e2) ha _ eu
 ·intro e
  have e2:=t.mpr (Mb hn h2 ha hu hv (HU hn h2 hb (hx hu) (hx hv) e))
  exact Mj e2 a b
end
theorem PX(ns:List Int)(k:Nat):dS [.lst (aM ns),.int k]=.ok (.int (aa ns k)):=by
 unfold dS pT aa
 simp_all [aW]
 by_cases h:(k:Int)<(ns.length:Int)
 ·have h':k<ns.length:=by lia
  simp_all only [h,decide_true,reduceIte,ah,ai,aG,aH,aI,aJ]
  rw[nX,qA (by lia),toNat_natCast,getElem?_eq_getElem h']
  simp_all only [map_some,reduceIte,ah,ai,aG,aH,aI,aJ,getD_some]
 ·have h':ns.length<=k:=by lia
  simp_all only [h,decide_false,reduceIte,ah,ai,aG,aH,aI,aJ]
  rw[getElem?_eq_none h']
  rfl
theorem Ef{n:Nat}(w cs:List Int)(rm:Nat)(hn:1<=n/\n<=7)(hw:∀k∈w,bC n k)(hr:rm<=900)(hl:w.length<=rm)(hc:cs.length<=1000):∃w',fQ [.lst (aM w),.int n,.lst (aM cs),.int rm]=.ok (.lst (aM w'))/\(∀k∈w',bC n k)/\w'.length<=rm/\yU n w w':=by
 unfold fQ pX
 simp_all
 obtain⟨s',e,hj⟩:=rG (S:=List Int×Sl×Sl×Sl) (b:=iI) (λ_ s=>(∀k∈s.1,bC n k)/\s.1.length<=rm/\yU n w s.1)
  (λs=>[.val (.lst (aM s.1)),.val (.int n),.val (.lst (aM cs)),.val (.int rm),s.2.1,s.2.2.1,s.2.2.2]) (eI (aM cs)) 0 (w,.no,.no,.no) ⟨hw,hl,yU.refl n w⟩ (by
   rintro j ⟨u,s1,s2,s3⟩ x ⟨hu,hul,hk⟩ hx
   have hu:∀k∈u,bC n k:=hu
   have hul:u.length<=rm:=hul
   have hk:yU n w u:=hk
   obtain⟨cc,YW,rfl⟩:=uC hx
   have hj:j<cs.length:=(List.getElem?_eq_some_iff.mp YW).1
   unfold iI
   simp_all only [bT2,reduceIte,ah,ai,aG,aH,aI,aJ]
   rw[xy cc j 69621 (by lia) (by decide)]
   have hz:=xA cc j 69621
   generalize sC cc j 69621=z at hz
   dsimp
   obtain⟨o,ho,hd⟩:=PH u n z rm hu (by lia) hz (by lia)
   rw[ho]
   cases o with
   |none=>
    dsimp [Om]
    exact⟨(u,_,_,_),rfl,hu,hul,hk⟩
   |some d=>
    obtain⟨hc1,hc2⟩:=hd d rfl
    have YQ:(doneF u d).length<=rm:=by lia
    have hnn:BD d.d .non=some (.bl true):=by cases d<;>rfl
    dsimp [hnn]
    rw[PB n u d (by lia) hc1]
    dsimp
    exact⟨(doneF u d,_,_,_),rfl,PF hu hc1,YQ,hk.trans (PK hu hc1)⟩)
 obtain⟨w',s1,s2,s3⟩:=s'
 dsimp only at e
 rw[e]
 dsimp
 exact⟨w',rfl,hj.1,hj.2.1,hj.2.2⟩
theorem CC{b:D->DE->R Out}{x:D}{xs:List D}{e e':DE}(h:b x e=.ok (.nx e')):iB b (x::xs) e=iB b xs e':=by
 conv=>lhs;unfold iB
 rw[h]
 rfl
theorem Mu{R:List RP}(h:qX 1 R):R=[]:=by
 cases R with
 |nil=>rfl
 |cons p R=>obtain⟨a,ha,_⟩:=h.ns p (by simp);lia
theorem CD{n:Nat}(h1:1<=n)(hn:n<=7){w:List Int}(hw:∀k∈w,bC n k)(hl:w.length<=40):∃ω,jg [.int n,.lst (aM w)]=.ok (M6 ω)/\FmS n w ω.1 ω.2/\(2<=n->ω=ck n w (0,[]))/\(n=1->ω=(0,[])):=by
 by_cases h2:2<=n
 ·obtain⟨e,F⟩:=HR hn h2 hw hl
  rw[Mr]at e
  exact⟨_,e,F,λ_=>rfl,λz=>by lia⟩
 ·obtain rfl:n=1:=by lia
  obtain⟨h,R,e,F,_⟩:=F8 (n:=1) (by lia) hn hw hl
  rw[Mr]at e
  refine⟨(h,R),e,F,λz=>by lia,λ_=>?_⟩
  have hb:=F.bd
  have hw0:w=[]:=by
   cases w with
   |nil=>rfl
   |cons k w=>have:=hw k (by simp);unfold bC at this;lia
  rw[hw0]at hb
  have:h=0:=by simp -implicitDefEqProofs only [length_nil]at hb;lia
  rw[this,Mu F.ln]
theorem Mw{n:Nat}{u v:List Int}{ω ω':Int×List RP}(e:jg [.int n,.lst (aM u)]=.ok (M6 ω))(e':jg [.int n,.lst (aM v)]=.ok (M6 ω')):xR [.int n,.lst (aM u),.lst (aM v)]=.ok (.bl (ω.1==ω'.1&&decide (ω.2.map (·.1)=ω'.2.map (·.1)))):=by
 unfold xR K5
 simp_all [e,e',Gu]
theorem Mx(cells:List Int)(hc:cells.length<=63):∃t:List Int,t.length<=63/\cY (bT 2 (jZ (bN 0) (jZ (bN 1) yL))) pY kT (jY 2 []) (eI (aM cells))=.ok (aM t):=by
 refine⟨(eI (aM cells)).map λd=>match d with|.tup [.int k,.int c]=>sC c k 16807|_=>0,by rw[length_map];unfold eI;rw[length_map,length_zipIdx,aW];exact hc,?_⟩
 rw[qz (λd=>.int (match d with|.tup [.int k,.int c]=>sC c k 16807|_=>0)) _ λx hx=>by
  obtain⟨i,hi,e⟩:=getElem_of_mem hx
  obtain⟨y,hy,rfl⟩:=uz (i:=i) (d:=x) (by rw[getElem?_eq_getElem hi,e])
  have hz:(aM cells)[i]?=(cells[i]?).map D.int:=by unfold aM;rw[getElem?_map]
  have hi2:i<cells.length:=by
   have:(eI (aM cells)).length=cells.length:=by unfold eI;rw[length_map,length_zipIdx,aW]
   lia
  rw[hz,getElem?_eq_getElem hi2]at hy
  obtain rfl:=Option.some.inj hy
  refine⟨_,rfl,rfl,?_⟩
  unfold kT jY
  simp_all [List.append_eq]
  exact xy _ _ _ (by lia) (by decide)]
 unfold aM
 rw[map_map]
 rfl
theorem PY{cells:List Int}{n:Int}(hc:cells.length<=63)(hn:1<=n){mo:Int}(h0:0<=mo):∃w:List Int,jI [.lst (aM cells),.int n,.int mo]=.ok (.lst (aM w))/\(∀k∈w,bC n k)/\w.length<=mo.toNat:=by
 unfold jI vz
 simp_all
 rw[dw,kP _ _ (by decide),JT _ _ _ (by rw[length_take];lia) (by lia) (by decide)]
 dsimp [aW]
 generalize hw:Ae (cells.take (63:Int).toNat) n 189=w
 have hx:∀k∈w,bC n k:=hw▸JS
 by_cases h:(w.length:Int)<=mo
 ·refine⟨w,?_,hx,by lia⟩
  dsimp [h,decide_true]
 ·obtain⟨t,ht,e⟩:=Mx cells hc
  dsimp [h,decide_false,iZ,e,R.n8]
  rw[bj (by lia)]
  dsimp [zh,Dm,map_some,aW]
  rw[fK _ _ (by lia)]
  dsimp
  have m0:=emod_nonneg t.sum (show(w.length:Int)-mo+1≠0 by lia)
  have m1:=emod_lt_of_pos t.sum (show(0:Int)<(w.length:Int)-mo+1 by lia)
  generalize t.sum%((w.length:Int)-mo+1)=a at m0 m1
  rw[dw]
  refine⟨_,rfl,λk hk=>hx k ?_,?_⟩
  ·unfold cut at hk
   exact mem_of_mem_drop (mem_of_mem_take hk)
  ·unfold cut
   rw[j9 _ _ _ m0,j9 _ _ _ (by lia),length_take]
   lia
theorem CF(s:Int)(hs:0<=s):∃n:Nat,fM [.int s,.int 2,.int 7]=.ok (.int n)/\2<=n/\n<=7:=by
 unfold fM pQ
 simp_all [show((2:Int)==1)=false from rfl]
 rw[show(if(2:Int)>2 then(2:Int)else 2)=2 from rfl]
 rw[nV _ _ (by decide)]
 dsimp
 rw[fK _ _ (by decide)]
 dsimp
 have h1:=emod_nonneg (s/13) (show(7:Int)-2+1≠0 by decide)
 have h3:=emod_lt_of_pos (s/13) (show(0:Int)<7-2+1 by decide)
 exact⟨(2+s/13%(7-2+1)).toNat,by congr 2;lia,by lia,by lia⟩
theorem My(s0 s2:Sl)(l:List Int)(k:Int)(h:l.length<999999):dM (.int k) [s0,.own (aM l),s2]=.ok (.nx [s0,.own (aM (bU l k)),.val (.int k)]):=by
 unfold dM bU
 simp_all only [j0,mS,mD,mF,gp,aN,reduceAdd,reduceSub,reduceEqDiff,reduceIte,ah,ai,aG,aH,aI,aJ]
 rw[show AU (.lst (aM l)) (.lst [])=some (.bl (!decide (l=[])))from QG l []]
 cases l with
 |nil=>
  dsimp [decide_true,Bool.not_true]
  rw[wC (by simp[aM])]
  rfl
 |cons y r=>
  have h0:decide (y::r=[])=false:=rfl
  generalize Zk:y::r=l at*
  dsimp [h0,Bool.not_false]
  rw[nX,yb]
  cases hq:l.getLast? with
  |none=>rw[<-Zk]at hq;simp at hq
  |some z=>
   dsimp [map_some]
   by_cases hz:z= -k
   ·subst hz
    dsimp [beq_self_eq_true]
    rw[ET (by rw[aW,<-Zk];simp)]
    dsimp
    unfold aM
    rw[map_dropLast]
   ·have VB:(z== -k)=false:=beq_eq_false_iff_ne.mpr hz
    dsimp [VB]
    rw[wC (by rw[aW];lia),if_neg (λe=>hz (Option.some.inj e))]
    dsimp
    unfold aM
    rw[map_append]
    rfl
theorem yn(s0:Sl):∀(w l:List Int)(s2:Sl),l.length+w.length<999999->∃Yr,iB dM (aM w) [s0,.own (aM l),s2]=.ok (.nx [s0,.own (aM (bG l w)),Yr])
 |[],l,s2,_=>⟨s2,rfl⟩
 |k::w,l,s2,h=>by
  rw[length_cons]at h
  have hp:(bU l k).length<=l.length+1:=by
   unfold bU
   split
   ·rw[length_dropLast];lia
   ·simp
  obtain⟨Yr,e⟩:=yn s0 w (bU l k) (.val (.int k)) (by lia)
  refine⟨Yr,?_⟩
  rw[<-nj,CC (My s0 s2 l k (by lia))]
  exact e
theorem CG(w:List Int)(h:w.length<999999):cL [.lst (aM w)]=.ok (aM (bG [] w)):=by
 unfold cL nz
 simp_all
 obtain⟨s2,e⟩:=yn (.val (.lst (aM w))) w [] .no (by rw[length_nil];lia)
 rw[show([]:List D)=aM []from rfl,e]
 dsimp [gx]
theorem Gw(w:List Int)(hw:w.length<=999999):g6 [.lst (aM w)]=.ok (aM (bk w)):=by
 unfold g6 vv
 simp_all [iZ,Aa]
 rw[n9 (λk=> -k) w.reverse λk _=>⟨_,j0 _ _ _,rfl,by
  unfold pU jY
  dsimp⟩,R.n8,R.bO,bj (by rw[length_map,length_reverse];lia)]
 dsimp [gx]
 rfl
def j6(rs:List (List Int)):List D:=rs.map λr=>.lst (aM r)
theorem Gx{S:List (List Int)}{i:Int}(h:0<=i)(h2:i<S.length):i6 (j6 S) i=some (.lst (aM (S.getD i.toNat []))):=by
 have h3:i.toNat<S.length:=by lia
 rw[qA h,getD_eq_getElem?_getD]
 unfold j6
 rw[getElem?_map,getElem?_eq_getElem h3]
 rfl
theorem t8(S:List (List Int))(i:Nat)(x:List Int):(j6 S).set i (.lst (aM x))=j6 (S.set i x):=map_set.symm
theorem qo(S:List (List Int)):(j6 S).length=S.length:=length_map _
theorem Gy{S:List (List Int)}{M:Nat}(h:∀x∈S,x.length<=M)(i:Nat):(S.getD i []).length<=M:=by
 rw[getD_eq_getElem?_getD]
 cases e:S[i]? with
 |none=>exact zero_le _
 |some x=>exact h x (mem_of_getElem? e)
theorem PZ{S:List (List Int)}{M:Nat}(h:∀x∈S,x.length<=M)(k:Int):∀x∈rQ k S,x.length<=3*M:=by
 have st:∀(T:List (List Int))(i:Nat)(y:List Int),(∀x∈T,x.length<=3*M)->y.length<=3*M->∀x∈T.set i y,x.length<=3*M:=λT i y g hy x hx=>by
  rcases List.mem_or_eq_of_mem_set hx with hx|rfl
  ·exact g x hx
  ·exact hy
 have g0:∀x∈S,x.length<=3*M:=λx hx=>by have:=h x hx;lia
 have gd:=λi=>Gy h i
 have tl:∀a b c:List Int,a.length<=M->b.length<=M->c.length<=M->(bG [] (a++b++c)).length<=3*M:=λa b c ha hb hc=>by
  have:=tP (a++b++c) []
  rw[length_append,length_append,length_nil]at this
  lia
 have bl:∀x:List Int,(bk x).length=x.length:=λx=>by unfold bk;rw[length_map,length_reverse]
 unfold rQ
 split
 ·refine st _ _ _ (st _ _ _ g0 (tl _ _ _ (gd _) (gd _) (by rw[bl];exact gd _))) ?_
  have:=gd (k-1).toNat
  lia
 ·refine st _ _ _ (st _ _ _ g0 ?_) (tl _ _ _ (by rw[bl];exact gd _) (gd _) (gd _))
  have:=gd (-k).toNat
  lia
theorem Mz{n:Nat}(hn:n<=7)(s0 s1 s3 s4 s5:Sl){S:List (List Int)}(hS:S.length=n){M:Nat}(hM:∀x∈S,x.length<=M)(hb:3*M<=900000){k:Int}(hk:bC n k):∃t4 t5,gE (.int k) [s0,s1,.own (j6 S),s3,s4,s5]=.ok (.nx [s0,s1,.own (j6 (rQ k S)),.val (.int k),t4,t5]):=by
 unfold bC at hk
 have gd:=λi=>Gy hM i
 have bl:∀x:List Int,(bk x).length=x.length:=λx=>by unfold bk;rw[length_map,length_reverse]
 unfold gE
 simp_all only [j0,mS,mD,mF,gp,aN,reduceAdd,reduceSub,reduceEqDiff,reduceIte,ah,ai,aG,aH,aI,aJ]
 rw[Gx (by split<;>lia) (by split<;>lia)]
 dsimp
 rw[Gx (by split<;>lia) (by split<;>lia)]
 dsimp [Oo]
 unfold rQ
 by_cases c:0<k
 ·have c1:¬k<0:=by lia
  rw[if_pos c]
  dsimp [decide_eq_true c,if_neg c1]
  have ga:=gd (k-1).toNat
  have gb:=gd k.toNat
  generalize S.getD (k-1).toNat []=a at*
  generalize S.getD k.toNat []=b at*
  rw[b9,bj (by rw[length_append];lia)]
  dsimp [Gw a (by lia)]
  rw[b9,bj (by rw[length_append,length_append,bl];lia)]
  dsimp
  rw[CG _ (by rw[length_append,length_append,bl];lia)]
  dsimp
  rw[ni (by lia) (by rw[qo];lia),t8]
  dsimp
  rw[ni (by lia) (by rw[qo,length_set];lia),t8]
  exact⟨_,_,rfl⟩
 ·have c1:k<0:=by lia
  rw[if_neg c]
  dsimp [decide_eq_false c,if_pos c1]
  have ga:=gd (-k-1).toNat
  have gb:=gd (-k).toNat
  generalize S.getD (-k-1).toNat []=a at*
  generalize S.getD (-k).toNat []=b at*
  rw[ni (by lia) (by rw[qo];lia),t8]
  dsimp [Gw b (by lia)]
  rw[b9,bj (by rw[length_append,bl];lia)]
  dsimp
  rw[b9,bj (by rw[length_append,length_append,bl];lia)]
  dsimp
  rw[CG _ (by rw[length_append,length_append,bl];lia)]
  dsimp
  rw[ni (by lia) (by rw[qo,length_set];lia),t8]
  exact⟨_,_,rfl⟩
theorem yo{n:Nat}(hn:n<=7)(s0 s1:Sl):∀(w:List Int)(S:List (List Int))(M:Nat)(s3 s4 s5:Sl),S.length=n->(∀x∈S,x.length<=M)->3^w.length*M<=900000->(∀k∈w,bC n k)->∃t3 t4 t5,iB gE (aM w) [s0,s1,.own (j6 S),s3,s4,s5]=.ok (.nx [s0,s1,.own (j6 (j5 w S)),t3,t4,t5])
 |[],S,M,s3,s4,s5,_,_,_,_=>⟨s3,s4,s5,rfl⟩
 |k::w,S,M,s3,s4,s5,hS,hM,hb,hw=>by
  have h3:3^w.length*(3*M)<=900000:=by
   rw[length_cons,Nat.pow_succ,Nat.mul_assoc]at hb
   exact hb
  have h1:3*M<=900000:=by
   have:1*(3*M)<=3^w.length*(3*M):=Nat.mul_le_mul_right _ (Nat.one_le_pow _ _ (by decide))
   lia
  obtain⟨t4,t5,e1⟩:=Mz hn s0 s1 s3 s4 s5 hS hM h1 (hw k (by simp))
  have hl:(rQ k S).length=n:=by unfold rQ;split<;>rw[length_set,length_set,hS]
  obtain⟨u3,u4,u5,e2⟩:=yo hn s0 s1 w (rQ k S) (3*M) (.val (.int k)) t4 t5 hl (PZ hM k) h3 λx hx=>hw x (by simp[hx])
  refine⟨u3,u4,u5,?_⟩
  rw[<-nj,CC e1]
  exact e2
theorem HY(n:Nat):cY (bN 0) gD eJ (jY 1 []) (rD 0 n)=.ok (j6 (RU n)):=by
 have h:∀(l:List Nat),cY (bN 0) gD eJ (jY 1 []) (aM (l.map λi=>0+((i:Nat):Int)))=.ok (j6 (l.map λi:Nat=>[(i:Int)+1])):=λl=>by
  induction l with
  |nil=>rfl
  |cons i l ih=>
   rw[map_cons,<-nj]
   unfold cY
   rw[ih,j0,R.bO,show gD _=.ok true from rfl,R.bO,if_pos rfl]
   have ec:eJ ((jY 1 []).set 0 (.val (.int (0+(i:Int)))))=.ok (.lst (aM [(i:Int)+1])):=by
    unfold eJ jY
    simp_all [Int.zero_add]
    rfl
   rw[ec]
   rfl
 rw[z8]
 exact h _
theorem CH{n:Nat}(hn:n<=7){w:List Int}(hw:∀k∈w,bC n k)(hl:w.length<=12):f9 [.int n,.lst (aM w)]=.ok (j6 (lB n w)):=by
 unfold f9 sG
 simp_all
 rw[TH _ (by lia),toNat_natCast]
 dsimp [iZ,HY,R.n8]
 have hg:=(zO n).len
 rw[nW (by rw[qo,hg];exact big (by lia))]
 dsimp
 obtain⟨t3,t4,t5,e⟩:=yo hn (.val (.int n)) (.val (.lst (aM w))) w (RU n) 1 .no .no .no hg (λx hx=>by
  obtain⟨i,_,rfl⟩:=mem_map.mp hx
  exact Nat.le_refl _) (by
  have:3^w.length<=3^12:=Nat.pow_le_pow_right (by decide) hl
  have e:(3:Nat)^12=531441:=by decide
  lia) hw
 rw[e]
 dsimp
 rfl
def Chg(n e:Nat)(w v:List Int):Prop:=(∀k∈v,bC n k)/\v.length<=w.length+e/\Tl n w v
theorem Eg{w:List Int}{p:Nat}(h:p<w.length):w=w.take p++[gI w p]++w.drop (p+1):=by
 have e:gI w p=w[p]:=by unfold gI;rw[toNat_natCast,getElem?_eq_getElem h];rfl
 rw[e,List.append_assoc]
 conv=>lhs;rw[<-take_append_drop p w,<-List.getElem_cons_drop h]
 rfl
theorem P1{w:List Int}{p:Nat}(h:p+1<w.length):w=w.take p++[gI w p,gI w ((p:Int)+1)]++w.drop (p+2):=by
 have e1:=Eg (w:=w) (p:=p) (by lia)
 have e:gI w ((p:Int)+1)=w[p+1]:=by unfold gI;rw[show((p:Int)+1).toNat=p+1 by lia,getElem?_eq_getElem h];rfl
 conv=>lhs;rw[e1,<-List.getElem_cons_drop h]
 rw[e]
 simp
theorem AI{n:Nat}(hn:n<=7)(h2:2<=n){w a u v b:List Int}(e:w=a++u++b)(hw:∀k∈w,bC n k)(hv:∀k∈v,bC n k){ex:Nat}(hl:v.length<=u.length+ex)(t:Tl n u v):Chg n ex w (a++v++b):=by
 have ha:∀k∈a,bC n k:=λk hk=>hw k (by rw[e];simp[hk])
 have hu:∀k∈u,bC n k:=λk hk=>hw k (by rw[e];simp[hk])
 have hb:∀k∈b,bC n k:=λk hk=>hw k (by rw[e];simp[hk])
 refine⟨λk hk=>?_,?_,?_⟩
 ·rcases mem_append.mp hk with hk|hk
  ·rcases mem_append.mp hk with hk|hk
   ·exact ha k hk
   ·exact hv k hk
  ·exact hb k hk
 ·rw[e]
  simp_all only [length_append]
  lia
 ·rw[e]
  exact Vk hn h2 ha hu hv hb t
theorem Eh{n:Nat}(hn:n<=7)(h2:2<=n){w:List Int}(hw:∀k∈w,bC n k)(hl:w.length<=100)(how num:Int)(hnum:0<=num):∃v:List Int,fO [.lst (aM w),.int n,.int how,.int num]=.ok (.lst (aM v))/\Chg n (if how=4 then 8 else 0) w v:=by
 unfold fO pV
 simp_all [aW]
 have hmx:(0:Int)<if(w.length:Int)>1 then(w.length:Int)else 1:=by split<;>lia
 rw[fK _ _ hmx]
 dsimp [aW]
 have q0:=emod_nonneg num (show(if(w.length:Int)>1 then(w.length:Int)else 1)≠0 by lia)
 have q1:=emod_lt_of_pos num hmx
 generalize num%(if(w.length:Int)>1 then(w.length:Int)else 1)=at_ at q0 q1
 have same:∃v:List Int,R.ok (D.lst (aM w))=.ok (.lst (aM v))/\Chg n (if how=4 then 8 else 0) w v:=⟨w,rfl,hw,Nat.le_add_right _ _,ym rfl rfl⟩
 by_cases c1:how=1/\1<(w.length:Int)
 ·obtain⟨rfl,c2⟩:=c1
  dsimp [beq_self_eq_true,decide_eq_true c2]
  rw[fK _ _ (by lia)]
  dsimp
  have p0:=emod_nonneg at_ (show(w.length:Int)-1≠0 by lia)
  have p1:=emod_lt_of_pos at_ (show(0:Int)<(w.length:Int)-1 by lia)
  obtain⟨p,ep⟩:∃p:Nat,at_%((w.length:Int)-1)=p:=⟨(at_%((w.length:Int)-1)).toNat,by lia⟩
  rw[ep]at p1⊢
  rw[yk (by lia) (by lia),yk (by lia) (by lia)]
  dsimp
  rw[AG (gI w ((p:Int)+1)) (gI w p),dw,dw,kP _ _ (by lia),iD _ _ (by lia),b9,bj (by rw[length_append,length_take];simp;lia)]
  dsimp
  rw[b9,bj (by rw[length_append,length_append,length_take,length_drop];simp;lia),toNat_natCast,show((p:Int)+2).toNat=p+2 by lia]
  dsimp
  have xa:=hw _ (g4 (w:=w) (i:=(p:Int)) (by lia) (by lia))
  have xb:=hw _ (g4 (w:=w) (i:=(p:Int)+1) (by lia) (by lia))
  exact⟨_,rfl,AI hn h2 (P1 (by lia)) hw (λk hk=>by
   simp -implicitDefEqProofs only [mem_cons,not_mem_nil,or_false]at hk
   rcases hk with rfl|rfl
   ·exact xb
   ·exact xa) (by simp) (PV hn h2 xa xb)⟩
 ·have e1:(if(how==1)=true then R.ok (decide (1<(w.length:Int)))else R.ok false)=R.ok false:=by
   by_cases z:how=1
   ·rw[if_pos (beq_iff_eq.mpr z),decide_eq_false λy=>c1 ⟨z,y⟩]
   ·rw[if_neg (by rw[beq_iff_eq];exact z)]
  rw[e1]
  dsimp
  rw[show AU (.lst (aM w)) (.lst [])=some (.bl (!decide (w=[])))from QG w []]
  dsimp
  by_cases c2:how=2/\w≠[]
  ·obtain⟨rfl,hne⟩:=c2
   have hpos:0<w.length:=List.length_pos_iff.mpr hne
   have hat:at_<w.length:=by split at q1<;>lia
   obtain⟨p,rfl⟩:∃p:Nat,at_=p:=⟨at_.toNat,by lia⟩
   dsimp [beq_self_eq_true,decide_eq_false hne,Bool.not_false]
   rw[yk (by lia) (by lia)]
   dsimp
   rw[show[D.int (-gI w p)]=aM [-gI w p]from rfl,dw,dw,kP _ _ (by lia),iD _ _ (by lia),b9,bj (by rw[length_append,length_take];simp;lia)]
   dsimp
   rw[b9,bj (by rw[length_append,length_append,length_take,length_drop];simp;lia),toNat_natCast,show((p:Int)+1).toNat=p+1 by lia]
   dsimp
   have xa:=hw _ (g4 (w:=w) (i:=(p:Int)) (by lia) (by lia))
   exact⟨_,rfl,AI hn h2 (Eg (by lia)) hw (λk hk=>by
    rw[mem_singleton.mp hk]
    unfold bC at*
    lia) (by simp) (Mt hn h2 xa).1⟩
  ·have e2:(if(how==2)=true then R.ok (!decide (w=[]))else R.ok false)=R.ok false:=by
    by_cases z:how=2
    ·have:w=[]:=byContradiction λy=>c2 ⟨z,y⟩
     rw[if_pos (beq_iff_eq.mpr z),decide_eq_true this]
     rfl
    ·rw[if_neg (by rw[beq_iff_eq];exact z)]
   rw[e2]
   dsimp
   by_cases c3:how=3
   ·subst c3
    obtain⟨p,rfl⟩:∃p:Nat,at_=p:=⟨at_.toNat,by lia⟩
    dsimp [beq_self_eq_true]
    rw[dw,dw,kP _ _ (by lia),iD _ _ (by lia),b9,bj (by rw[length_append,length_take,length_drop];lia),toNat_natCast,show((p:Int)+1).toNat=p+1 by lia]
    dsimp
    by_cases hne:w=[]
    ·subst hne
     exact⟨_,rfl,by rw[take_nil,List.drop_nil];exact⟨hw,by simp,ym rfl rfl⟩⟩
    ·have hpos:0<w.length:=List.length_pos_iff.mpr hne
     have hat:(p:Int)<w.length:=by split at q1<;>lia
     have xa:=hw _ (g4 (w:=w) (i:=(p:Int)) (by lia) hat)
     have:=AI hn h2 (v:=[]) (ex:=if(3:Int)=4 then 8 else 0) (Eg (by lia)) hw (λk hk=>nomatch hk) (by simp) (Mt hn h2 xa).2
     rw[append_nil]at this
     exact⟨_,rfl,this⟩
   ·have e3:(how==3)=false:=beq_eq_false_iff_ne.mpr c3
    dsimp [e3,aW]
    by_cases c4:how=4/\2<(n:Int)/\(w.length:Int)<3
    ·obtain⟨rfl,c5,c6⟩:=c4
     dsimp [beq_self_eq_true,decide_eq_true c5,decide_eq_true c6]
     rw[nV _ _ (by decide)]
     dsimp
     rw[fK _ _ (by lia)]
     dsimp
     have r0:=emod_nonneg (num/8) (show(n:Int)-2≠0 by lia)
     have r1:=emod_lt_of_pos (num/8) (show(0:Int)<(n:Int)-2 by lia)
     generalize num/8%((n:Int)-2)=r at r0 r1
     obtain⟨p,rfl⟩:∃p:Nat,at_=p:=⟨at_.toNat,by lia⟩
     rw[nW (big (by simp))]
     dsimp
     rw[show[D.int (1+r),.int (1+r),.int (1+r+1),.int (1+r+1),.int (-(1+r)),.int (-(1+r)),.int (-(1+r)-1),.int (-(1+r)-1)]=aM (PR (1+r))from rfl,dw,dw,kP _ _ (by lia),iD _ _ (by lia),b9,bj (by rw[length_append,length_take];simp[PR];lia)]
     dsimp
     rw[b9,bj (by rw[length_append,length_append,length_take,length_drop];simp[PR];lia)]
     dsimp
     rw[toNat_natCast]
     refine⟨_,rfl,AI hn h2 (a:=w.take p) (u:=[]) (v:=PR (1+r)) (b:=w.drop p) (by rw[append_nil,take_append_drop]) hw (λk hk=>?_) (by simp[PR]) (Vj hn h2 (k:=1+r) (by lia) (by lia))⟩
     unfold PR at hk
     simp -implicitDefEqProofs only [mem_cons,not_mem_nil,or_false]at hk
     unfold bC
     lia
    ·have e4:(if(how==4)=true then(if decide (2<(n:Int))=true then R.ok (decide ((w.length:Int)<3))else R.ok false)else R.ok false)=R.ok false:=by
      by_cases z:how=4
      ·rw[if_pos (beq_iff_eq.mpr z)]
       by_cases y:2<(n:Int)
       ·rw[if_pos (decide_eq_true y),decide_eq_false λx=>c4 ⟨z,y,x⟩]
       ·rw[if_neg (by rw[decide_eq_true_eq];exact y)]
      ·rw[if_neg (by rw[beq_iff_eq];exact z)]
     rw[e4]
     dsimp
     exact same
theorem MA(a b:List (List Int)):rF (.lst (j6 a)) (.lst (j6 b))=some (.bl (decide (a=b))):=by
 unfold rF
 rw[show j6 a=m8 a from rfl,show j6 b=m8 b from rfl,CB 4]
 rfl
theorem MB{n:Nat}{ω ω':Int×List RP}(h:aR n ω.2)(h':aR n ω'.2):(ω.1==ω'.1&&decide (ω.2.map (·.1)=ω'.2.map (·.1)))=decide (ω=ω'):=by
 rw[Bool.eq_iff_iff,and_eq_true,beq_iff_eq,decide_eq_true_eq,decide_eq_true_eq]
 constructor
 ·rintro⟨a,b⟩
  refine Prod.ext a ?_
  have e1:∀L:List RP,aR n L->(L.map (·.1)).map A7=L:=λL hL=>by
   rw[map_map]
   conv=>rhs;rw[<-map_id L]
   exact map_congr_left λp hp=>jJ (m7 (uP (hL p hp))) (hL p hp) rfl
  rw[<-e1 _ h,<-e1 _ h',b]
 ·rintro rfl
  exact⟨rfl,rfl⟩
theorem Yy(ns:List Int)(hl:ns.length<=63):xS [.lst (aM ns)]=.ok (.bl true):=by
 have a0:∀(x y:D),i6 [x,y] 0=some x:=λ_ _=>rfl
 have a1:∀(x y:D),i6 [x,y] 1=some y:=λ_ _=>rfl
 unfold xS Ri
 simp_all [Jz]
 rw[show dS [.lst (aM ns),.int 0]=.ok (.int (aa ns 0))from PX ns 0]
 dsimp
 rw[fK _ _ (by decide)]
 dsimp
 have Yz:=emod_nonneg (aa ns 0) (show(1000000000:Int)≠0 by decide)
 generalize aa ns 0%1000000000=sd at Yz
 obtain⟨n,en,n2,n7⟩:=CF sd Yz
 dsimp [en]
 rw[xy sd 3 16807 (by decide) (by decide)]
 dsimp
 rw[fK _ _ (by decide)]
 dsimp
 have h0:=emod_nonneg (sC sd 3 16807) (show(5:Int)≠0 by decide)
 have h5:=emod_lt_of_pos (sC sd 3 16807) (show(0:Int)<5 by decide)
 generalize sC sd 3 16807%5=how at h0 h5
 have e5:=xy sd 5 40692 (by decide) (by decide)
 have hz0:=xA sd 5 40692
 generalize sC sd 5 40692=num at hz0 e5
 obtain⟨mo,em,hmo⟩:∃mo:Nat,(if(how==4)=true then R.ok (D.int 2)else(if decide (4<(n:Int))=true then R.ok (D.int 5)else R.ok (D.int 6)))=.ok (.int mo)/\mo<=6/\(how=4->mo<=2):=by
  by_cases c:how=4
  ·exact⟨2,by rw[if_pos (beq_iff_eq.mpr c)];rfl,by lia,by lia⟩
  ·rw[if_neg (by rw[beq_iff_eq];exact c)]
   by_cases d:4<(n:Int)
   ·exact⟨5,by rw[if_pos (decide_eq_true d)];rfl,by lia,by lia⟩
   ·exact⟨6,by rw[if_neg (by rw[decide_eq_true_eq];exact d)];rfl,by lia,by lia⟩
 obtain⟨w,ew,hx,hw⟩:=PY (cells:=ns) (n:=n) hl (by lia) (mo:=(mo:Int)) (by lia)
 rw[toNat_natCast]at hw
 dsimp [em,ew,aW]
 obtain⟨rm,er,hrm⟩:∃rm:Nat,(if decide (how<4)=true then R.ok (D.int ((w.length:Int)+2))else R.ok (D.int 2))=.ok (.int rm)/\w.length<=rm/\rm<=8/\(how=4->rm<=2):=by
  by_cases c:how<4
  ·exact⟨w.length+2,by rw[if_pos (decide_eq_true c)];rfl,by lia,by lia,by lia⟩
  ·have:how=4:=by lia
   have:=hmo.2 this
   exact⟨2,by rw[if_neg (by rw[decide_eq_true_eq];exact c)];rfl,by lia,by lia,by lia⟩
 obtain⟨v,ev,hv,WX,lk⟩:=Ef (n:=n) w ns rm (by lia) hx (by lia) (by lia) (by lia)
 dsimp [er,ev,e5]
 obtain⟨z,ez,hz⟩:=Eh n7 n2 hv (by lia) how num hz0
 obtain⟨zx,zl,zt⟩:=hz
 have zl2:z.length<=10:=by
  by_cases c:how=4
  ·rw[if_pos c]at zl
   have:=hrm.2.2 c
   lia
  ·rw[if_neg c]at zl
   lia
 have t3:∀b:Bool,nU (Dl (.bl b)) "bool"=true:=λ_=>rfl
 have kb:∀a b:Bool,AU (.bl a) (.bl b)=some (.bl (!(a==b))):=λ_ _=>rfl
 have kc:∀a b:Bool,rF (.bl a) (.bl b)=some (.bl (a==b)):=λ_ _=>rfl
 obtain⟨ω,fw,Fw,aw,_⟩:=CD (n:=n) (by lia) n7 hx (by lia)
 obtain⟨ω',fz,Fz,az,_⟩:=CD (n:=n) (by lia) n7 zx (by lia)
 have hcw:=kF n7 n2 w hx eu
 have hcz:=kF n7 n2 z zx eu
 have eq1:decide (lB n w=lB n z)=decide (ω=ω'):=by
  rw[aw n2,az n2,decide_eq_decide,lk.2 n7,(lk.1 n7 n2 _ eu)]
  exact zt
 have eq2:(ω.1==ω'.1&&decide (ω.2.map (·.1)=ω'.2.map (·.1)))=decide (ω=ω'):=by
  rw[aw n2,az n2]
  exact MB hcw.iv hcz.iv
 dsimp [ez,CH n7 hx (by lia),CH n7 zx (by lia),MA,eq1,a0,a1,Mw fw fz,eq2,t3,Bool.not_true,kb,beq_self_eq_true,PN,fw,fz,Gu,kc]
theorem Vm{K:PySem.W.Frag}{H:Hp}{a:Addr}(ns:List Int)(hl:ns.length<=63)(hS:dG K H a (ns.map V.int)):EC K Ij xS [.ref a] H (λv _=>v=.bl true) λ_ _ _=>False:=Xw (Yy ns hl) hS
end DL
namespace DL.p7
open PySem PySem.Spec PyProof.Rows L2 DL
section
variable{P:Program}{w:World}{K:PySem.W.Frag}{mg:Str->Option Value}{base:Heap}(t:Tb K mg)
theorem HZ:lI P w K mg base 1 t.sS t.sU ["word"] pS:=by
 have h:=pP (P:=P) (w:=w) (base:=base) (k:=0) DV t.xY λcdv A outer s H E hr=>
  (bg (jE (vm (MP (N:=["k"]) (nt:=1) (caps:=[]) (ae uK) ["word"] (by decide +kernel)) rfl (Bv (iV t.lj (nD 0))) (Kp.ok (yM (nt:=1) 0)) (λ_ _ _ _ _=>(xt 0 (by show Nodup (["k"]:List Str);decide +kernel))) (λ_ _ _ _ _=>Ql) (λ_ _ _ _ _=>(yG dg b8 (nB 0))))))
 exact h
theorem Ei:lI P w K mg base 1 t.qD t.qE ["word"] nk:=by
 have h:=pP (P:=P) (w:=w) (base:=base) (k:=0) p8 t.uM λcdv A outer s H E hr=>
  (aL (xo 1 (mG br) p8.nd)
  (aL (yH PassesOwn.never rfl (iL (nD 0)) (xt 2 p8.nd) (bg (ux (jX (bf fG dD (PE.aB (du bJ cF t.gC cP (aE (nB 1) bx))) (PE.aB cI) (aF _)) (pM (bf (di (bh.u6 hr)) bW (PE.aB (pN (nL 1) (PE.aB (yG dg b8 (PE.aB cI))))) (PE.aB (yG dg b8 (nB 2))) (aF _)))).pt (bg (QI 1)) (bg (QH 1 (nD 2))))))
  (bg (Bu 1))))
 exact h
theorem CI:lI P w K mg base 1 t.jj t.jk ["n"] dE:=by
 have h:=pP (P:=P) (w:=w) (base:=base) (k:=0) Aj t.fU λcdv A outer s H E hr=>
  (bg (jE (Tz rfl t.rM t.tH (aE (nB 0) bx))))
 exact h
theorem P4:lI P w K mg base 1 t.Al t.Am ["n"] xC:=by
 have h:=pP (P:=P) (w:=w) (base:=base) (k:=0) K6 t.xZ λcdv A outer s H E hr=>
  (bg (jE (Ou rfl t.rM t.tH (aE (PE.aB (aT bE bA (nB 0) (PE.aB cI))) (aE (PE.aB (yG dg b8 (PE.aB cI))) (aE (PE.aB (yG dg b8 (PE.aB cI))) bx))))))
 exact h
theorem AJ:lI P w K mg base 1 t.g8 t.g9 ["row"] cJ:=by
 have h:=pP (P:=P) (w:=w) (base:=base) (k:=0) jr t.hU λcdv A outer s H E hr=>
  (aL (xo 1 (aaJ (mG (ao cI br)) (PE.aB (du bJ cF t.gC cP (aE (nB 0) bx)))) jr.nd)
  (aL (yH PassesOwn.never rfl (iE t.jL (nD 0)) (YU 2 rfl (lS (xt 2 jr.nd) (lS (xt 3 jr.nd) z9))) (bg (nY 1 (nB 3) (nD 2))))
  (bg (Bu 1))))
 exact h
theorem MC:lI P w K mg base 1 t.sV t.sW ["row"] qB:=by
 have h:=pP (P:=P) (w:=w) (base:=base) (k:=0) HD t.qF λcdv A outer s H E hr=>
  (bg (jE (vm (MP (N:=["k","row"]) (nt:=1) (caps:=[0]) (ae xU) ["row"] (by decide +kernel)) rfl (Bv (iR2 t.tH (aE (PE.aB cI) (aE (PE.aB (du bJ cF t.gC cP (aE (nB 0) bx))) bx)))) (Kp.ok (yM (nt:=1) 0)) (λ_ _ _ _ _=>(xt 0 (by show Nodup (["k","row"]:List Str);decide +kernel))) (λ_ _ _ _ _=>(ts1 (bf fG dD (PE.aB (pN (nL 1) (PE.aB (aT bE bA (nB 0) (PE.aB cI))))) (PE.aB (pN (nL 1) (nB 0))) (aF _)))) (λ_ _ _ _ _=>(nD 0)))))
 exact h
theorem nP:lI P w K mg base 1 t.bu t.bw ["row","k"] aU:=by
 have h:=pP (P:=P) (w:=w) (base:=base) (k:=0) mR t.aZ λcdv A outer s H E hr=>
  (bg (jE (mH (PE.ee (mH (PE.ee (dh (nL 0) ze (ki (PE.aB (aT bE bA (nB 1) (PE.aB cI)))))) (PE.ee (mG (ao (pN (nL 0) (nB 1)) (ao (pN (nL 0) (PE.aB (aT bE bA (nB 1) (PE.aB cI)))) br)))))) (PE.ee (dh (nL 0) (ki (PE.aB (aT bD aS (nB 1) (PE.aB cI)))) ze)))))
 exact h
theorem yp:lI P w K mg base 1 t.jv t.jw ["row"] gz:=by
 have h:=pP (P:=P) (w:=w) (base:=base) (k:=0) vU t.mW λcdv A outer s H E hr=>
  (bg (jE (vm (MP (N:=["string","row"]) (nt:=1) (caps:=[0]) (ae kX) ["row"] (by decide +kernel)) rfl (Bv (iV t.lj (nD 0))) (Kp.ok (yM (nt:=1) 0)) (λ_ _ _ _ _=>(xt 0 (by show Nodup (["string","row"]:List Str);decide +kernel))) (λ_ _ _ _ _=>Ql) (λ_ _ _ _ _=>(aT bE bA (PE.aB (aT bE bA (PE.aB (du bJ cF t.gC cP (aE (nB 1) bx))) (PE.aB cI))) (nB 0))))))
 exact h
theorem Ej:Ok P w K mg base 1 t.qG t.qH ["crossings"] nv:=by
 have h:=TR (P:=P) (w:=w) (base:=base) (k:=0) lW t.ie λcdv A outer s H E hr=>
  (aL (gw 1 cI lW.nd)
  (aL (yH PassesOwn.never rfl (iL (nD 0)) (xt 2 lW.nd) (bg (QJ 1 Xq (PE.aB (aT SA Ow (PE.aB cI) (PE.aB (aT bE bA (nB 2) (PE.aB cI))))) lW.nd)))
  (bg (gu (nD 1)))))
 exact h
theorem CJ:Ok P w K mg base 1 t.gW t.gX ["_law_cell","_law_k","_law_factor"] cA:=by
 have h:=TR (P:=P) (w:=w) (base:=base) (k:=0) Ak t.gY λcdv A outer s H E hr=>
  (bg (gu (aT j7 kh (PE.aB (aT eZ cT (PE.aB (aT zV wu (PE.aB (aT bD aS (PE.aB (aT bD aS (PE.aB (aT zV wu (PE.aB (aT eZ cT (nB 0) (PE.aB cI))) (PE.aB cI))) (PE.aB (aT zV wu (nB 1) (nB 1))))) (PE.aB cI))) (nB 2))) (PE.aB cI))) (PE.aB cI))))
 exact h
theorem vY:Ok P w K mg base 1 t.iM t.iN ["_law_script","_law_k"] dS:=by
 have h:=TR (P:=P) (w:=w) (base:=base) (k:=0) uL t.kZ λcdv A outer s H E hr=>
  (aL (ux (bf ve uw (nB 1) (PE.aB (du bJ cF t.gC cP (aE (nB 0) bx))) (aF _)) (bg (gu (pN (nL 0) (nB 1)))) kj)
  (bg (gu cI)))
 exact h
theorem vZ:Ok P w K mg base 1 t.iO t.iP ["_law_seed","_law_least","_law_most"] fM:=by
 have h:=TR (P:=P) (w:=w) (base:=base) (k:=0) nK t.k9 λcdv A outer s H E hr=>
  (aL (ux (jX (bf (di (bh.u6 hr)) bW (nB 1) (PE.aB cI) (aF _)) (pM (bf (di (bh.u6 hr)) bW (PE.aB (aT eZ cT (nB 0) (PE.aB cI))) (PE.aB cI) (aF _)))).pt (bg (gu cI)) kj)
  (aL (gw 1 (du (y0 rfl) Bt t.Le Jr (aE (PE.aB cI) (aE (nB 1) bx))) nK.nd)
  (bg (gu (aT bD aS (nB 1) (PE.aB (aT eZ cT (PE.aB (aT j7 kh (nB 0) (PE.aB cI))) (PE.aB (aT bD aS (PE.aB (aT bE bA (nB 2) (nB 1))) (PE.aB cI))))))))))
 exact h
theorem uX:Ok P w K mg base 1 t.eQ t.eR ["_law_number","_law_n"] cB:=by
 have h:=TR (P:=P) (w:=w) (base:=base) (k:=0) lX t.gP λcdv A outer s H E hr=>
  (aL (gw 2 (aT bD aS (PE.aB cI) (PE.aB (aT eZ cT (nB 0) (PE.aB (aT bE bA (nB 1) (PE.aB cI)))))) lX.nd)
  (aL (ux (bf (di (bh.u6 hr)) bW (PE.aB (aT eZ cT (PE.aB (aT j7 kh (nB 0) (PE.aB cI))) (PE.aB cI))) (PE.aB cI) (aF _)) (bg (gu (yG dg b8 (nB 2)))) kj)
  (bg (gu (nD 2)))))
 exact h
theorem AK:lI P w K mg base 1 t.mj t.mm ["_law_word","_law_deed_here"] jF:=by
 have h:=pP (P:=P) (w:=w) (base:=base) (k:=0) rC t.qh λcdv A outer s H E hr=>
  (aL (gw 2 (G3 (nD 1) (PE.aB cI)) rC.nd)
  (aL (ux (bf (di (bh.u6 hr)) bW (PE.aB (G3 (nD 1) (PE.aB cI))) (PE.aB cS) (aF _)) (bg (jE (mH (PE.ee (dh (nL 0) ze (ki (nB 2)))) (PE.ee (dh (nL 0) (ki (PE.aB (aT bD aS (nB 2) (PE.aB cI)))) ze))))) kj)
  (aL (ux (bf (di (bh.u6 hr)) bW (PE.aB (G3 (nD 1) (PE.aB cI))) (PE.aB cS) (aF _)) (bg (jE (mH (PE.ee (mH (PE.ee (dh (nL 0) ze (ki (nB 2)))) (PE.ee (mG (ao (G3 (nD 1) (PE.aB cI)) (ao (yG dg b8 (PE.aB (G3 (nD 1) (PE.aB cI)))) br)))))) (PE.ee (dh (nL 0) (ki (nB 2)) ze))))) kj)
  (aL (ux (bf (di (bh.u6 hr)) bW (PE.aB (G3 (nD 1) (PE.aB cI))) (PE.aB cS) (aF _)) (bg (jE (mH (PE.ee (mH (PE.ee (dh (nL 0) ze (ki (nB 2)))) (PE.ee (mG (ao (pN (nL 0) (PE.aB (aT bD aS (nB 2) (PE.aB cI)))) (ao (pN (nL 0) (nB 2)) br)))))) (PE.ee (dh (nL 0) (ki (PE.aB (aT bD aS (nB 2) (PE.aB cI)))) ze))))) kj)
  (bg (jE (mH (PE.ee (mH (PE.ee (dh (nL 0) ze (ki (nB 2)))) (PE.ee (mG (ao (pN (nL 0) (PE.aB (aT bD aS (nB 2) (PE.aB cI)))) (ao (pN (nL 0) (nB 2)) (ao (pN (nL 0) (PE.aB (aT bD aS (nB 2) (PE.aB cI)))) br))))))) (PE.ee (dh (nL 0) (ki (PE.aB (aT bD aS (nB 2) (PE.aB cI)))) ze)))))))))
 exact h
theorem AL:lI P w K mg base 1 t.mq t.mr ["_law_word"] g6:=by
 have h:=pP (P:=P) (w:=w) (base:=base) (k:=0) yT t.mw λcdv A outer s H E hr=>
  (bg (jE (vm (MP (N:=["_law_k"]) (nt:=1) (caps:=[]) (ae ou) ["_law_word"] (by decide +kernel)) rfl (Bv (iV t.lj (nD 0))) (Kp.ok (yM (nt:=1) 0)) (λ_ _ _ _ _=>(xt 0 (by show Nodup (["_law_k"]:List Str);decide +kernel))) (λ_ _ _ _ _=>Ql) (λ_ _ _ _ _=>(yG dg b8 (nB 0))))))
 exact h
theorem t9:lI P w K mg base 1 t.gg t.gh ["_law_letters"] cL:=by
 have h:=pP (P:=P) (w:=w) (base:=base) (k:=0) gV t.gj λcdv A outer s H E hr=>
  (aL (xo 1 (mG br) gV.nd)
  (aL (yH PassesOwn.never rfl (iL (nD 0)) (xt 2 gV.nd) (bg (ux (jX (bf (uB (bh.u6 hr)) qy (nB 1) (PE.aB (PE.fg (mG br))) (aF _)) (pM (bf (di (bh.u6 hr)) bW (PE.aB (pN (nL 1) (PE.aB (yG dg b8 (PE.aB cI))))) (PE.aB (yG dg b8 (nB 2))) (aF _)))).pt (bg (QI 1)) (bg (QH 1 (nD 2))))))
  (bg (Bu 1))))
 exact h
theorem wb:Ok P w K mg base 1 t.iS t.iT ["_law_word","_law_n","_law_how","_law_number"] fO:=by
 have h:=Oi (P:=P) (w:=w) (base:=base) (k:=0) gf t.lh λcdv A outer s H E hr=>
  (aL (gw 4 (aT eZ cT (nB 3) (PE.aB (du (y0 rfl) Bt t.Le Jr (aE (PE.aB cI) (aE (PE.aB (du bJ cF t.gC cP (aE (nB 0) bx))) bx))))) gf.nd)
  (aL (ux (jX (bf (di (bh.u6 hr)) bW (nB 2) (PE.aB cI) (aF _)) (pM (bf fG dD (PE.aB (du bJ cF t.gC cP (aE (nB 0) bx))) (PE.aB cI) (aF _)))).pt (aL (gw 4 (aT eZ cT (nB 4) (PE.aB (aT bE bA (PE.aB (du bJ cF t.gC cP (aE (nB 0) bx))) (PE.aB cI)))) gf.nd)
  (bg (gu (PE.fg (mH (PE.ee (mH (PE.ee (dh (nL 0) ze (ki (nB 4)))) (PE.ee (mG (ao (pN (nL 0) (PE.aB (aT bD aS (nB 4) (PE.aB cI)))) (ao (pN (nL 0) (nB 4)) br)))))) (PE.ee (dh (nL 0) (ki (PE.aB (aT bD aS (nB 4) (PE.aB cI)))) ze))))))) kj)
  (aL (ux (jX (bf (di (bh.u6 hr)) bW (nB 2) (PE.aB cI) (aF _)) (pM (bf (uB (bh.u6 hr)) qy (nB 0) (PE.aB (PE.fg (mG br))) (aF _)))).pt (bg (gu (PE.fg (mH (PE.ee (mH (PE.ee (dh (nL 0) ze (ki (nB 4)))) (PE.ee (mG (ao (yG dg b8 (PE.aB (pN (nL 0) (nB 4)))) br))))) (PE.ee (dh (nL 0) (ki (PE.aB (aT bD aS (nB 4) (PE.aB cI)))) ze)))))) kj)
  (aL (ux (bf (di (bh.u6 hr)) bW (nB 2) (PE.aB cI) (aF _)) (bg (gu (PE.fg (mH (PE.ee (dh (nL 0) ze (ki (nB 4)))) (PE.ee (dh (nL 0) (ki (PE.aB (aT bD aS (nB 4) (PE.aB cI)))) ze)))))) kj)
  (aL (ux (jX (bf (di (bh.u6 hr)) bW (nB 2) (PE.aB cI) (aF _)) (jX (bf fG dD (nB 1) (PE.aB cI) (aF _)) (pM (bf ve uw (PE.aB (du bJ cF t.gC cP (aE (nB 0) bx))) (PE.aB cI) (aF _))))).pt (aL (gw 5 (aT bD aS (PE.aB cI) (PE.aB (aT eZ cT (PE.aB (aT j7 kh (nB 3) (PE.aB cI))) (PE.aB (aT bE bA (nB 1) (PE.aB cI)))))) gf.nd)
  (bg (gu (PE.fg (mH (PE.ee (mH (PE.ee (dh (nL 0) ze (ki (nB 4)))) (PE.ee (mG (ao (nD 5) (ao (nD 5) (ao (aT bD aS (nB 5) (PE.aB cI)) (ao (aT bD aS (nB 5) (PE.aB cI)) (ao (yG dg b8 (nB 5)) (ao (yG dg b8 (nB 5)) (ao (aT bE bA (PE.aB (yG dg b8 (nB 5))) (PE.aB cI)) (ao (aT bE bA (PE.aB (yG dg b8 (nB 5))) (PE.aB cI)) br)))))))))))) (PE.ee (dh (nL 0) (ki (nB 4)) ze))))))) kj)
  (bg (gu (nD 0))))))))
 exact h
theorem H0(cK:lI P w K mg base 1 t.g8 t.g9 ["row"] cJ)(qK:lI P w K mg base 1 t.sV t.sW ["row"] qB):lI P w K mg base 2 t.sX t.sY ["row"] sE:=by
 have h:=pP (P:=P) (w:=w) (base:=base) (k:=1) DW t.qd λcdv A outer s H E hr=>
  (bg (jE (wB t.qF qK (hr.mono (by decide)) (ao (PE.fg (wB t.hU cK (hr.mono (by decide)) (ao (nD 0) br))) br))))
 exact h
theorem oO(cK:lI P w K mg base 1 t.g8 t.g9 ["row"] cJ)(bc:lI P w K mg base 1 t.bu t.bw ["row","k"] aU):lI P w K mg base 2 t.cV t.cW ["row","k"] cU:=by
 have h:=pP (P:=P) (w:=w) (base:=base) (k:=1) nJ t.bY λcdv A outer s H E hr=>
  (bg (jE (wB t.hU cK (hr.mono (by decide)) (ao (PE.fg (wB t.aZ bc (hr.mono (by decide)) (ao (PE.fg (wB t.hU cK (hr.mono (by decide)) (ao (nD 0) br))) (ao (nD 1) br)))) br))))
 exact h
theorem Ia(fX:lI P w K mg base 1 t.jj t.jk ["n"] dE)(bc:lI P w K mg base 1 t.bu t.bw ["row","k"] aU):lI P w K mg base 2 t.sZ t.tj ["n","word"] nA:=by
 have h:=pP (P:=P) (w:=w) (base:=base) (k:=1) oi t.tm λcdv A outer s H E hr=>
  (aL (xo 2 (wB t.fU fX (hr.mono (by decide)) (ao (nD 0) br)) oi.nd)
  (aL (yH PassesOwn.never rfl (iL (nD 1)) (xt 3 oi.nd) (aL (ux (bf ve uw (nB 3) (PE.aB cI) (aF _)) (bg Xi) kj)
  (aL (ux (bf fG dD (PE.aB (pN (nL 2) (PE.aB (aT bE bA (nB 3) (PE.aB cI))))) (PE.aB (pN (nL 2) (nB 3))) (aF _)) (bg Xi) kj)
  (bg (xo 2 (aaI scl t.aZ bc (hr.mono (by decide)) (aE (nB 2) (aE (nB 3) bx))) oi.nd)))))
  (bg (Bu 2))))
 exact h
theorem MD(cK:lI P w K mg base 1 t.g8 t.g9 ["row"] cJ):lI P w K mg base 2 t.wN t.wO ["row"] sF:=by
 have h:=pP (P:=P) (w:=w) (base:=base) (k:=1) HE t.An λcdv A outer s H E hr=>
  (bg (jE (vm (MP (N:=["place","row"]) (nt:=1) (caps:=[0]) (ae xV) ["row"] (by decide +kernel)) rfl (Bv (iL (PE.fg (wB t.hU cK (hr.mono (by decide)) (ao (nD 0) br))))) (Kp.ok (yM (nt:=1) 0)) (λ_ _ _ _ _=>(xt 0 (by show Nodup (["place","row"]:List Str);decide +kernel))) (λ_ _ _ _ _=>Ql) (λ_ _ _ _ _=>(aT bE bA (PE.aB (aT bE bA (PE.aB (du bJ cF t.gC cP (aE (nB 1) bx))) (PE.aB cI))) (nB 0))))))
 exact h
theorem Vn(fX:lI P w K mg base 1 t.jj t.jk ["n"] dE):VE P w K mg base 2 t.Ft t.Fv ["n","word"] BW:=by
 have h:=okT (P:=P) (w:=w) (base:=base) (k:=1) ko t.Lb λcdv A outer s H E hr=>
  (aL (Q5 2 Q4 ko.nd)
  (aL (xo 3 (wB t.fU fX (hr.mono (by decide)) (ao (nD 0) br)) ko.nd)
  (aL (gw 4 cBl ko.nd)
  (aL (yH PassesOwn.never rfl (iL (nD 1)) (xt 5 ko.nd) (aL (gw 6 (du jD lQ t.tw pO (aE (nB 5) bx)) ko.nd)
  (aL (ux (Je (bf (di (bh.u6 hr)) bW (PE.aB (du bJ cF t.gC cP (aE (nB 2) bx))) (PE.aB cI) (aF _)) (Je (bf (uB (bh.u6 hr)) qy (nB 4) (PE.aB (G2 fG dD (nB 5) (PE.aB cI) (aF _))) (aF _)) (S7 (bf fG dD (PE.aB (pN (nL 3) (PE.aB (aT bE bA (nB 6) (PE.aB cI))))) (PE.aB (pN (nL 3) (nB 6))) (aF _))))).pt (aL (Q7 2 (mG br))
  (aL (xo 3 (wB t.fU fX (hr.mono (by decide)) (ao (nD 0) br)) ko.nd)
  (bg (gw 4 (G2 fG dD (nB 5) (PE.aB cI) (aF _)) ko.nd)))) kj)
  (aL (T5 2 (PE.aB (yG dg b8 (PE.aB cI))) (nB 5))
  (aL (gw 7 (pN (nL 3) (nB 6)) ko.nd)
  (aL (nY 3 (nB 6) (pN (nL 3) (PE.aB (aT bE bA (nB 6) (PE.aB cI)))))
  (bg (nY 3 (PE.aB (aT bE bA (nB 6) (PE.aB cI))) (nD 7)))))))))
  (bg (Q6 2))))))
 exact h
theorem yq(m9:lI P w K mg base 1 t.jv t.jw ["row"] gz):lI P w K mg base 2 t.jz t.jA ["halves","row"] gA:=by
 have h:=pP (P:=P) (w:=w) (base:=base) (k:=1) vW t.mY λcdv A outer s H E hr=>
  (aL (ux (bf (di (bh.u6 hr)) bW (PE.aB (aT eZ cT (nB 0) (PE.aB cI))) (PE.aB cI) (aF _)) (bg (jE (Jg t.rM (nL 1)))) kj)
  (bg (jE (wB t.mW m9 (hr.mono (by decide)) (ao (nD 1) br)))))
 exact h
theorem yV(dm:Ok P w K mg base 1 t.eQ t.eR ["_law_number","_law_n"] cB):Ok P w K mg base 2 t.kq t.kr ["_law_number","_law_n"] iF:=by
 have h:=Oi (P:=P) (w:=w) (base:=base) (k:=1) kY t.oy λcdv A outer s H E hr=>
  (aL (gw 2 (MO MQ t.gP dm (hr.mono (by decide)) (aE (nB 0) (aE (nB 1) bx))) kY.nd)
  (aL (ux (Je (bf fG dD (PE.aB (aT eZ cT (PE.aB (aT j7 kh (nB 0) (PE.aB cI))) (PE.aB cI))) (PE.aB cI) (aF _)) (S7 (bf ve uw (nB 1) (PE.aB cI) (aF _)))).pt (bg (gu (PE.fg (mG (ao (nD 2) br))))) kj)
  (aL (gw 3 (YM (jX (bf ve uw (PE.aB (du jD lQ t.tw pO (aE (PE.aB (aT bD aS (nB 2) (PE.aB cI))) bx))) (nB 1) (aF _)) (pM (bf (uB (bh.u6 hr)) qy (PE.aB (aT bD aS (nB 2) (PE.aB cI))) (PE.aB cI) (aF _)))).pt (aT bD aS (nB 2) (PE.aB cI)) (aT bE bA (nB 2) (PE.aB cI))) kY.nd)
  (bg (gu (pN (PE.ee (mG (ao (PE.fg (mG (ao (nD 2) (ao (nD 3) (ao (nD 2) br))))) (ao (PE.fg (mG (ao (nD 2) (ao (nD 3) br)))) (ao (PE.fg (mG (ao (nD 2) (ao (nD 2) br)))) (ao (PE.fg (mG (ao (nD 2) (ao (yG dg b8 (nB 3)) (ao (nD 2) br))))) br)))))) (PE.aB (aT eZ cT (PE.aB (aT j7 kh (nB 0) (PE.aB cI))) (PE.aB cI)))))))))
 exact h
theorem AM(dm:Ok P w K mg base 1 t.eQ t.eR ["_law_number","_law_n"] cB):Ok P w K mg base 2 t.mf t.mh ["_law_word","_law_n","_law_number","_law_room"] jG:=by
 have h:=Oi (P:=P) (w:=w) (base:=base) (k:=1) mU t.qg λcdv A outer s H E hr=>
  (aL (gw 4 (aT eZ cT (nB 2) (PE.aB (aT bD aS (PE.aB (du bJ cF t.gC cP (aE (nB 0) bx))) (PE.aB cI)))) mU.nd)
  (aL (gw 5 (PE.fg (dh (nL 0) (ki (nB 4)) (ki (PE.aB (aT bD aS (nB 4) (PE.aB cI)))))) mU.nd)
  (aL (ux (jX (bf fG dD (PE.aB (du bJ cF t.gC cP (aE (nB 5) bx))) (PE.aB cI) (aF _)) (jX (bf (di (bh.u6 hr)) bW (PE.aB (pN (nL 5) (PE.aB cI))) (PE.aB (yG dg b8 (PE.aB (pN (nL 5) (PE.aB cI))))) (aF _)) (pM (bf fG dD (PE.aB (aT eZ cT (PE.aB (aT j7 kh (nB 2) (PE.aB cI))) (PE.aB cI))) (PE.aB cI) (aF _))))).pt (bg (gu (z4 (ao cS (ao (nD 4) br))))) kj)
  (aL (ux (jX (bf fG dD (PE.aB (du bJ cF t.gC cP (aE (nB 5) bx))) (PE.aB cI) (aF _)) (jX (bf fG dD (PE.aB (du jD lQ t.tw pO (aE (PE.aB (aT bE bA (PE.aB (du jD lQ t.tw pO (aE (PE.aB (pN (nL 5) (PE.aB cI))) bx))) (PE.aB (du jD lQ t.tw pO (aE (PE.aB (pN (nL 5) (PE.aB cI))) bx))))) bx))) (PE.aB cI) (aF _)) (pM (bf fG dD (PE.aB (aT eZ cT (PE.aB (aT j7 kh (nB 2) (PE.aB cI))) (PE.aB cI))) (PE.aB cI) (aF _))))).pt (bg (gu (z4 (ao cS (ao (nD 4) br))))) kj)
  (aL (ux (jX (bf fG dD (PE.aB (du bJ cF t.gC cP (aE (nB 5) bx))) (PE.aB cI) (aF _)) (jX (bf (di (bh.u6 hr)) bW (PE.aB (pN (nL 5) (PE.aB cI))) (PE.aB (pN (nL 5) (PE.aB cI))) (aF _)) (jX (bf fG dD (PE.aB (aT zV wu (PE.aB (pN (nL 5) (PE.aB cI))) (PE.aB (pN (nL 5) (PE.aB cI))))) (PE.aB cI) (aF _)) (pM (bf (di (bh.u6 hr)) bW (PE.aB (du jD lQ t.tw pO (aE (PE.aB (aT bE bA (PE.aB (pN (nL 5) (PE.aB cI))) (PE.aB (pN (nL 5) (PE.aB cI))))) bx))) (PE.aB cI) (aF _)))))).pt (bg (gu (z4 (ao cS (ao (nD 4) br))))) kj)
  (aL (ux (jX (bf fG dD (nB 1) (PE.aB cI) (aF _)) (pM (bf Qd Jd (PE.aB (aT bD aS (PE.aB (du bJ cF t.gC cP (aE (nB 0) bx))) (PE.aB cI))) (nB 3) (aF _)))).pt (bg (gu (z4 (ao cS (ao (nD 4) (ao (MO MQ t.gP dm (hr.mono (by decide)) (aE (PE.aB (aT j7 kh (nB 2) (PE.aB cI))) (aE (nB 1) bx))) br)))))) kj)
  (bg (gu cN))))))))
 exact h
theorem yW(mz:lI P w K mg base 1 t.mq t.mr ["_law_word"] g6)(gm:lI P w K mg base 1 t.gg t.gh ["_law_letters"] cL):lI P w K mg base 2 t.kC t.kD ["_law_n","_law_word"] f9:=by
 have h:=okF (P:=P) (w:=w) (base:=base) (k:=1) iK t.kE λcdv A outer s H E hr=>
  (aL (W6 2 (MP (N:=["_law_s"]) (nt:=1) (caps:=[]) (ae mV) ["_law_n","_law_word","_law_loops_here","_law_k","_law_a","_law_b"] (by decide +kernel)) rfl (Bv (iR1 t.tH (aE (nB 0) bx))) (Kp.ok (yM (nt:=1) 0)) (λ_ _ _ _ _=>(xt 0 (by show Nodup (["_law_s"]:List Str);decide +kernel))) (λ_ _ _ _ _=>Ql) (λ_ _ _ _ _=>(PE.fg (mG (ao (aT bD aS (nB 0) (PE.aB cI)) br)))) iK.nd)
  (aL (yH PassesOwn.never rfl (iL (nD 1)) (xt 3 iK.nd) (aL (aaT 4 5 rfl iK.nd (ao (pN (nL 2) (PE.aB (aT bE bA (PE.aB (du jD lQ t.tw pO (aE (nB 3) bx))) (PE.aB cI)))) (ao (pN (nL 2) (PE.aB (du jD lQ t.tw pO (aE (nB 3) bx)))) br)))
  (bg (ux (bf fG dD (nB 3) (PE.aB cI) (aF _)) (aL (nY 2 (PE.aB (aT bE bA (nB 3) (PE.aB cI))) (PE.fg (wB t.gj gm (hr.mono (by decide)) (ao (PE.fg (mH (PE.ee (mH (nL 4) (nL 5))) (PE.ee (wB t.mw mz (hr.mono (by decide)) (ao (nD 4) br))))) br))))
  (bg (nY 2 (nB 3) (nD 4)))) (aL (nY 2 (PE.aB (aT bE bA (PE.aB (yG dg b8 (nB 3))) (PE.aB cI))) (nD 5))
  (bg (nY 2 (PE.aB (yG dg b8 (nB 3))) (PE.fg (wB t.gj gm (hr.mono (by decide)) (ao (PE.fg (mH (PE.ee (mH (PE.ee (wB t.mw mz (hr.mono (by decide)) (ao (nD 5) br))) (nL 4))) (nL 5))) br))))))))))
  (bg (Bu 2))))
 exact h
theorem yr(AO:lI P w K mg base 2 t.wN t.wO ["row"] sF):Ok P w K mg base 3 t.jx t.jy ["row"] jo:=by
 have h:=Oi (P:=P) (w:=w) (base:=base) (k:=2) vV t.mX λcdv A outer s H E hr=>
  (bg (gu (z4 (ao (yG dg b8 (PE.aB cI)) (ao (PE.fg (wB t.An AO (hr.mono (by decide)) (ao (nD 0) br))) br)))))
 exact h
theorem pD(nc:lI P w K mg base 2 t.jz t.jA ["halves","row"] gA):VE P w K mg base 3 t.dB t.dC ["steps"] bp:=by
 have h:=okT (P:=P) (w:=w) (base:=base) (k:=2) bR t.cj λcdv A outer s H E hr=>
  (aL (Q5 1 Q4 bR.nd)
  (aL (gw 2 cI bR.nd)
  (aL (yH PassesOwn.never rfl (iV t.lj (nD 0)) (xt 3 bR.nd) (aL (Q7 1 (wB t.mY nc (hr.mono (by decide)) (ao (nD 2) (ao (G3 (nD 3) (PE.aB cI)) br))))
  (bg (QJ 2 ID (PE.aB (G3 (nD 3) (PE.aB cI))) bR.nd))))
  (aL (Xu 1)
  (bg (Q6 1))))))
 exact h
theorem yX(b7:Ok P w K mg base 1 t.gW t.gX ["_law_cell","_law_k","_law_factor"] cA)(oQ:Ok P w K mg base 2 t.kq t.kr ["_law_number","_law_n"] iF):lI P w K mg base 3 t.ky t.kB ["_law_cells","_law_n","_law_most"] iG:=by
 have h:=pP (P:=P) (w:=w) (base:=base) (k:=2) fR t.oA λcdv A outer s H E hr=>
  (aL (gw 3 (PE.fg (mG br)) fR.nd)
  (aL (yH PassesOwn.never rfl (iE t.jL (nD 0)) (YU 2 rfl (lS (xt 4 fR.nd) (lS (xt 5 fR.nd) z9))) (bg (ux (bf fG dD (nB 1) (PE.aB cI) (aF _)) (bg (gw 3 (PE.fg (mH (nL 3) (PE.aaa (G5 t.oy oQ (hr.mono (by decide)) (ao (MO MQ t.gY b7 (hr.mono (by decide)) (aE (nB 5) (aE (nB 4) (aE (PE.aB cI) bx)))) (ao (nD 1) br)))))) fR.nd)) kj)))
  (bg (jE (dh (nL 3) ze (ki (nB 2)))))))
 exact h
theorem wc(b7:Ok P w K mg base 1 t.gW t.gX ["_law_cell","_law_k","_law_factor"] cA)(qp:Ok P w K mg base 2 t.mf t.mh ["_law_word","_law_n","_law_number","_law_room"] jG)(qq:lI P w K mg base 1 t.mj t.mm ["_law_word","_law_deed_here"] jF):Ok P w K mg base 3 t.iQ t.iR ["_law_word","_law_n","_law_cells","_law_room"] fQ:=by
 have h:=Oi (P:=P) (w:=w) (base:=base) (k:=2) dY t.lg λcdv A outer s H E hr=>
  (aL (yH PassesOwn.never rfl (iE t.jL (nD 2)) (YU 2 rfl (lS (xt 4 dY.nd) (lS (xt 5 dY.nd) z9))) (aL (gw 6 (G5 t.qg qp (hr.mono (by decide)) (ao (nD 0) (ao (nD 1) (ao (MO MQ t.gY b7 (hr.mono (by decide)) (aE (nB 5) (aE (nB 4) (aE (PE.aB cI) bx)))) (ao (nD 3) br))))) dY.nd)
  (bg (ux (bf Np Ju (nB 6) (PE.aB cN) (aF _)) (bg (gw 0 (PE.fg (wB t.qh qq (hr.mono (by decide)) (ao (nD 0) (ao (nD 6) br)))) dY.nd)) kj))))
  (bg (gu (nD 0))))
 exact h
theorem Ek(yt:lI P w K mg base 1 t.sS t.sU ["word"] pS)(uc:lI P w K mg base 2 t.sZ t.tj ["n","word"] nA)(ng:Ok P w K mg base 3 t.jx t.jy ["row"] jo):Ok P w K mg base 4 t.qI t.qJ ["n","piece"] nC:=by
 have h:=Oi (P:=P) (w:=w) (base:=base) (k:=3) B9 t.uN λcdv A outer s H E hr=>
  (aL (ux (bf fG dD (PE.aB (pN (nL 1) (PE.aB cI))) (PE.aB cI) (aF _)) (bg (gu (z4 (ao cI (ao (PE.fg (wB t.tm uc (hr.mono (by decide)) (ao (nD 0) (ao (nD 1) br)))) br))))) kj)
  (bg (gu (G5 t.mX ng (hr.mono (by decide)) (ao (PE.fg (wB t.tm uc (hr.mono (by decide)) (ao (nD 0) (ao (PE.fg (wB t.xY yt (hr.mono (by decide)) (ao (nD 1) br))) br)))) br)))))
 exact h
theorem AQ(b7:Ok P w K mg base 1 t.gW t.gX ["_law_cell","_law_k","_law_factor"] cA)(oR:lI P w K mg base 3 t.ky t.kB ["_law_cells","_law_n","_law_most"] iG):Ok P w K mg base 4 t.lZ t.l9 ["_law_cells","_law_n","_law_most"] jI:=by
 have h:=Oi (P:=P) (w:=w) (base:=base) (k:=3) jt t.qe λcdv A outer s H E hr=>
  (aL (gw 3 (PE.fg (wB t.oA oR (hr.mono (by decide)) (ao (PE.fg (dh (nL 0) ze (ki (PE.aB cI)))) (ao (nD 1) (ao cI br))))) jt.nd)
  (aL (ux (bf Qd Jd (PE.aB (du bJ cF t.gC cP (aE (nB 3) bx))) (nB 2) (aF _)) (bg (gu (nD 3))) kj)
  (aL (gw 4 (Xj rfl t.Lf (PE.ee (vm (MP (N:=["_law_k","_law_cell"]) (nt:=2) (caps:=[]) (ae om) ["_law_cells","_law_n","_law_most","_law_word","_law_total","_law_at"] (by decide +kernel)) rfl (Bv (iE t.jL (nD 0))) (Kp.ok (aaP 2 (ER (yM (nt:=2) 0) (ER (yM (nt:=2) 1) TQ)))) (λ_ _ _ _ _=>(YU 2 rfl (lS (xt 0 (by show Nodup (["_law_k","_law_cell"]:List Str);decide +kernel)) (lS (xt 1 (by show Nodup (["_law_k","_law_cell"]:List Str);decide +kernel)) z9)))) (λ_ _ _ _ _=>Ql) (λ_ _ _ _ _=>(MO MQ t.gY b7 (hr.mono (by decide)) (aE (nB 1) (aE (nB 0) (aE (PE.aB cI) bx)))))))) jt.nd)
  (aL (gw 5 (aT eZ cT (nB 4) (PE.aB (aT bD aS (PE.aB (aT bE bA (PE.aB (du bJ cF t.gC cP (aE (nB 3) bx))) (nB 2))) (PE.aB cI)))) jt.nd)
  (bg (gu (PE.fg (dh (nL 3) (ki (nB 5)) (ki (PE.aB (aT bD aS (nB 5) (nB 2))))))))))))
 exact h
theorem uY(uZ:lI P w K mg base 1 t.qD t.qE ["word"] nk)(ME:VE P w K mg base 2 t.Ft t.Fv ["n","word"] BW)(u9:Ok P w K mg base 4 t.qI t.qJ ["n","piece"] nC):Ok P w K mg base 5 t.gM t.gO ["n","word"] eM:=by
 have h:=Oi (P:=P) (w:=w) (base:=base) (k:=4) sO t.jU λcdv A outer s H E hr=>
  (bg (gu (PE.fg (vm (MP (N:=["piece","n"]) (nt:=1) (caps:=[0]) (ae ji) ["n","word"] (by decide +kernel)) rfl (iLS (PE.aa6 (fT1 t.Lb ME (hr.mono (by decide)) (aE (nB 0) (aE (PE.aB (PE.fg (wB t.uM uZ (hr.mono (by decide)) (ao (nD 1) br)))) bx))))) (Kp.ok (yM (nt:=1) 0)) (λ_ _ _ _ _=>(xt 0 (by show Nodup (["piece","n"]:List Str);decide +kernel))) (λ_ _ _ _ _=>Ql) (λ_ _ _ _ _=>(G5 t.uN u9 (hr.mono (by decide)) (ao (nD 1) (ao (nD 0) br))))))))
 exact h
theorem P5(jV:Ok P w K mg base 9 t.gJ t.gK ["n","steps"] eO)(jW:Ok P w K mg base 5 t.gM t.gO ["n","word"] eM):Ok P w K mg base 10 t.x5 t.x6 ["n","word"] jg:=by
 have h:=Oi (P:=P) (w:=w) (base:=base) (k:=9) K8 t.uO λcdv A outer s H E hr=>
  (bg (gu (G5 t.jT jV (hr.mono (by decide)) (ao (nD 0) (ao (G5 t.jU jW (hr.mono (by decide)) (ao (nD 0) (ao (nD 1) br))) br)))))
 exact h
theorem P6(qr:Ok P w K mg base 10 t.x5 t.x6 ["n","word"] jg):Ok P w K mg base 11 t.Ao t.Aq ["n","one","other"] xR:=by
 have h:=TR (P:=P) (w:=w) (base:=base) (k:=10) K9 t.DX λcdv A outer s H E hr=>
  (bg (gu (G2 (di (bh.u6 hr)) bW (PE.aB (G5 t.uO qr (hr.mono (by decide)) (ao (nD 0) (ao (nD 1) br)))) (PE.aB (G5 t.uO qr (hr.mono (by decide)) (ao (nD 0) (ao (nD 2) br)))) (aF _))))
 exact h
theorem Vo(qr:Ok P w K mg base 10 t.x5 t.x6 ["n","word"] jg)(El:Ok P w K mg base 11 t.Ao t.Aq ["n","one","other"] xR)(b7:Ok P w K mg base 1 t.gW t.gX ["_law_cell","_law_k","_law_factor"] cA)(lE:Ok P w K mg base 1 t.iM t.iN ["_law_script","_law_k"] dS)(lF:Ok P w K mg base 1 t.iO t.iP ["_law_seed","_law_least","_law_most"] fM)(qt:Ok P w K mg base 4 t.lZ t.l9 ["_law_cells","_law_n","_law_most"] jI)(lG:Ok P w K mg base 3 t.iQ t.iR ["_law_word","_law_n","_law_cells","_law_room"] fQ)(kG:lI P w K mg base 2 t.kC t.kD ["_law_n","_law_word"] f9)(lH:Ok P w K mg base 1 t.iS t.iT ["_law_word","_law_n","_law_how","_law_number"] fO):Ok P w K mg base 12 t.Lc t.Fx ["_law_script"] xS:=by
 have h:=TR (P:=P) (w:=w) (base:=base) (k:=11) ju t.Rj λcdv A outer s H E hr=>
  (aL (gw 1 (aT eZ cT (PE.aB (MO MQ t.kZ lE (hr.mono (by decide)) (aE (nB 0) (aE (PE.aB cI) bx)))) (PE.aB (aT Sz NQ (PE.aB cI) (PE.aB cI)))) ju.nd)
  (aL (gw 2 (MO MQ t.k9 lF (hr.mono (by decide)) (aE (nB 1) (aE (PE.aB cI) (aE (PE.aB cI) bx)))) ju.nd)
  (aL (gw 3 (aT eZ cT (PE.aB (MO MQ t.gY b7 (hr.mono (by decide)) (aE (nB 1) (aE (PE.aB cI) (aE (PE.aB cI) bx))))) (PE.aB cI)) ju.nd)
  (aL (gw 4 (G5 t.qe qt (hr.mono (by decide)) (ao (nD 0) (ao (nD 2) (ao (YM (bf (di (bh.u6 hr)) bW (nB 3) (PE.aB cI) (aF _)) cI (YM (bf fG dD (nB 2) (PE.aB cI) (aF _)) cI cI)) br)))) ju.nd)
  (aL (gw 5 (G5 t.lg lG (hr.mono (by decide)) (ao (nD 4) (ao (nD 2) (ao (nD 0) (ao (YM (bf ve uw (nB 3) (PE.aB cI) (aF _)) (aT bD aS (PE.aB (du bJ cF t.gC cP (aE (nB 4) bx))) (PE.aB cI)) cI) br))))) ju.nd)
  (aL (gw 5 (G5 t.lh lH (hr.mono (by decide)) (ao (nD 5) (ao (nD 2) (ao (nD 3) (ao (MO MQ t.gY b7 (hr.mono (by decide)) (aE (nB 1) (aE (PE.aB cI) (aE (PE.aB cI) bx)))) br))))) ju.nd)
  (aL (gw 6 (G2 (di (bh.u6 hr)) bW (PE.aB (PE.fg (wB t.kE kG (hr.mono (by decide)) (ao (nD 2) (ao (nD 4) br))))) (PE.aB (PE.fg (wB t.kE kG (hr.mono (by decide)) (ao (nD 2) (ao (nD 5) br))))) (aF _)) ju.nd)
  (aL (gw 7 (z4 (ao (PE.fg (Jg t.rM (nL 4))) (ao (PE.fg (Jg t.rM (nL 5))) br))) ju.nd)
  (aL (gw 8 (MO MQ t.DX El (hr.mono (by decide)) (aE (nB 2) (aE (PE.aB (G3 (nD 7) (PE.aB cI))) (aE (PE.aB (G3 (nD 7) (PE.aB cI))) bx)))) ju.nd)
  (aL (ux (Je (WI (aab (PE.aB (aaC N5 N7 t.tE t.Ld (nB 8))))) (Je (bf (uB (bh.u6 hr)) qy (nB 8) (nB 6) (aF _)) (S7 (bf (uB (bh.u6 hr)) qy (nB 7) (PE.aB (z4 (ao (nD 4) (ao (nD 5) br)))) (aF _))))).pt (bg (gu cBl)) kj)
  (bg (gu (G2 (di (bh.u6 hr)) bW (PE.aB (G2 (di (bh.u6 hr)) bW (PE.aB (G5 t.uO qr (hr.mono (by decide)) (ao (nD 2) (ao (nD 4) br)))) (PE.aB (G5 t.uO qr (hr.mono (by decide)) (ao (nD 2) (ao (nD 5) br)))) (aF _))) (nB 6) (aF _))))))))))))))
 exact h
end
@[irreducible] noncomputable def Kw (w:World):PySem.W.Frag:=H.K w.params
theorem RV(w:World):Kw w=H.K w.params:=by kernel_rfl
theorem pF{K:PySem.W.Frag}{h:Heap}{mg:Str->Option Value}{x:String}{st:Stmt}{ps:List Str}{f c:Addr}{m:Value}(X:K.In h)(G:h.Ns mainGlobals mg)
  (e:(nsIn K mainGlobals (Str.ofString x),K.lookup f,codeIn K (.ref c) (Str.ofString x),keepIn K (.ref f))=(some (some (.ref f)),some (DL.H.hf (Str.ofString x) (Str.ofString x) st m c),true,true))
  (hb:∀(kV doc pm:Value)(an:Option Addr)(cdv ct:Value)(us:List Value),us.length=ps.length->bindArgs (PySem.W.fnOf (Str.ofString x) (Str.ofString x) (fu st) (bM st) (ae st) .none kV doc pm an cdv ct) ⟨us,[]⟩=pure (ps.zip us)):
  Df K mg (Str.ofString x) st ps f (PySem.W.fnOf (Str.ofString x) (Str.ofString x) (fu st) (bM st) (ae st) .none .none .none m none (.ref c) .none):=dfm X G (congrArg (·.1) e) (congrArg (·.2.1) e) (congrArg (·.2.2.1) e) (congrArg (·.2.2.2) e) hb
theorem CQ{x q:Str}{a:Arguments}{b:List Stmt}{s:Scope}{p0:Str}(h:∀(kV doc pm:Value)(an:Option Addr)(cdv ct v0:Value),bindArgs (PySem.W.fnOf x q a b s .none kV doc pm an cdv ct) ⟨[v0],[]⟩=pure [(p0,v0)])(kV doc pm:Value)(an:Option Addr)(cdv ct:Value)(us:List Value)(hl:us.length=[p0].length):bindArgs (PySem.W.fnOf x q a b s .none kV doc pm an cdv ct) ⟨us,[]⟩=pure ([p0].zip us):=match us,hl with|[v0],_=>h _ _ _ _ _ _ _
theorem CK{x q:Str}{a:Arguments}{b:List Stmt}{s:Scope}{p0 p1:Str}(h:∀(kV doc pm:Value)(an:Option Addr)(cdv ct v0 v1:Value),bindArgs (PySem.W.fnOf x q a b s .none kV doc pm an cdv ct) ⟨[v0,v1],[]⟩=pure [(p0,v0),(p1,v1)])(kV doc pm:Value)(an:Option Addr)(cdv ct:Value)(us:List Value)(hl:us.length=[p0,p1].length):bindArgs (PySem.W.fnOf x q a b s .none kV doc pm an cdv ct) ⟨us,[]⟩=pure ([p0,p1].zip us):=match us,hl with|[v0,v1],_=>h _ _ _ _ _ _ _ _
theorem P7{x q:Str}{a:Arguments}{b:List Stmt}{s:Scope}{p0 p1 p2:Str}(h:∀(kV doc pm:Value)(an:Option Addr)(cdv ct v0 v1 v2:Value),bindArgs (PySem.W.fnOf x q a b s .none kV doc pm an cdv ct) ⟨[v0,v1,v2],[]⟩=pure [(p0,v0),(p1,v1),(p2,v2)])(kV doc pm:Value)(an:Option Addr)(cdv ct:Value)(us:List Value)(hl:us.length=[p0,p1,p2].length):bindArgs (PySem.W.fnOf x q a b s .none kV doc pm an cdv ct) ⟨us,[]⟩=pure ([p0,p1,p2].zip us):=match us,hl with|[v0,v1,v2],_=>h _ _ _ _ _ _ _ _ _
theorem bd4{x q:Str}{a:Arguments}{b:List Stmt}{s:Scope}{p0 p1 p2 p3:Str}(h:∀(kV doc pm:Value)(an:Option Addr)(cdv ct v0 v1 v2 v3:Value),bindArgs (PySem.W.fnOf x q a b s .none kV doc pm an cdv ct) ⟨[v0,v1,v2,v3],[]⟩=pure [(p0,v0),(p1,v1),(p2,v2),(p3,v3)])(kV doc pm:Value)(an:Option Addr)(cdv ct:Value)(us:List Value)(hl:us.length=[p0,p1,p2,p3].length):bindArgs (PySem.W.fnOf x q a b s .none kV doc pm an cdv ct) ⟨us,[]⟩=pure ([p0,p1,p2,p3].zip us):=match us,hl with|[v0,v1,v2,v3],_=>h _ _ _ _ _ _ _ _ _ _
theorem RW(K:PySem.W.Frag){C:Addr}{x q:String}{st:Stmt}{f c:Addr}{m:Value}
  (e:(findIn K (.ref C) (Str.ofString x),isFn K (.ref f),K.lookup f,codeIn K (.ref c) (Str.ofString q),keepIn K (.ref f))=(some (some (.ref f)),true,some (DL.H.hf (Str.ofString x) (Str.ofString q) st m c),true,true)):
  Bj K (Str.ofString x) (Str.ofString q) st f (PySem.W.fnOf (Str.ofString x) (Str.ofString q) (fu st) (bM st) (ae st) .none .none .none m none (.ref c) .none)/\Meth K C (Str.ofString x) f:=
 ⟨Dh (congrArg (·.2.2.1) e) (congrArg (·.2.2.2.1) e) (congrArg (·.2.2.2.2) e),congrArg (·.1) e,congrArg (·.2.1) e,congrArg (·.2.2.2.2) e⟩
theorem all_mk{l:PySem.W.OpenLaw}{w:World}{h:Heap}{mg:Str->Option Value}{fa:Addr}(X:(Kw w).In h)(G:h.Ns mainGlobals mg)(hfa:mg "law"=some (.ref fa)):
  ∃fd:FuncData,(∀(s:Shared)(v:Value),BindsTo s fd ⟨[v],[]⟩ [("_law_script",v)])/\∀base:Heap,(Kw w).In base->base.Ns mainGlobals mg->cO l.prog w (Kw w) mg base lK 12 fa fd ["_law_script"] (EC (Kw w) Ij xS):=by
 have e:=hfa.symm.trans (mg_of X G (show nsIn (Kw w) mainGlobals "law"=some (some (.ref 348))by kernel_rfl))
 cases e
 have yC:nsIn (Kw w) mainGlobals "Comb"=some (some (.ref 186)):=by kernel_rfl
 have ypg:plainGet (Kw w) 186 Str.empty=true:=by kernel_rfl
 have yhd:hasDictIn (Kw w) 186=true:=by kernel_rfl
 have ypo:plainOver (Kw w) 186=true:=by kernel_rfl
 have ysa:findIn (Kw w) (.ref 186) "__setattr__"=some (some (.builtin "object.__setattr__")):=by kernel_rfl
 have ymk:makesIn (Kw w) 186=true:=by kernel_rfl
 have ykc:keepIn (Kw w) (.ref 186)=true:=by kernel_rfl
 have yn0:findIn (Kw w) (.ref 186) "known"=some none:=by kernel_rfl
 have yn1:findIn (Kw w) (.ref 186) "numbers"=some none:=by kernel_rfl
 have yn2:findIn (Kw w) (.ref 186) "firsts"=some none:=by kernel_rfl
 have yn3:findIn (Kw w) (.ref 186) "lasts"=some none:=by kernel_rfl
 have yn4:findIn (Kw w) (.ref 186) "shorter"=some none:=by kernel_rfl
 have yn5:findIn (Kw w) (.ref 186) "longer"=some none:=by kernel_rfl
 have yn6:findIn (Kw w) (.ref 186) "kept"=some none:=by kernel_rfl
 have yn7:findIn (Kw w) (.ref 186) "line"=some none:=by kernel_rfl
 have yn8:findIn (Kw w) (.ref 186) "none"=some none:=by kernel_rfl
 have yn9:findIn (Kw w) (.ref 186) "whole"=some none:=by kernel_rfl
 let t:Tb (Kw w) mg:={sS:=44,sU:=_,xY:=pF X G (c:=43) (m:=H.w1) (by kernel_rfl) (CQ λ_ _ _ _ _ _ _=>rfl),qD:=51,qE:=_,uM:=pF X G (c:=50) (m:=H.w1) (by kernel_rfl) (CQ λ_ _ _ _ _ _ _=>rfl),jj:=58,jk:=_,fU:=pF X G (c:=57) (m:=H.w2) (by kernel_rfl) (CQ λ_ _ _ _ _ _ _=>rfl),Al:=65,Am:=_,xZ:=pF X G (c:=64) (m:=H.w2) (by kernel_rfl) (CQ λ_ _ _ _ _ _ _=>rfl),g8:=72,g9:=_,hU:=pF X G (c:=71) (m:=H.w2) (by kernel_rfl) (CQ λ_ _ _ _ _ _ _=>rfl),sV:=77,sW:=_,qF:=pF X G (c:=76) (m:=H.w2) (by kernel_rfl) (CQ λ_ _ _ _ _ _ _=>rfl),sX:=84,sY:=_,qd:=pF X G (c:=83) (m:=H.w2) (by kernel_rfl) (CQ λ_ _ _ _ _ _ _=>rfl),bu:=91,bw:=_,aZ:=pF X G (c:=90) (m:=H.w2) (by kernel_rfl) (CK λ_ _ _ _ _ _ _ _=>rfl),cV:=98,cW:=_,bY:=pF X G (c:=97) (m:=H.w2) (by kernel_rfl) (CK λ_ _ _ _ _ _ _ _=>rfl),sZ:=105,tj:=_,tm:=pF X G (c:=104) (m:=H.w2) (by kernel_rfl) (CK λ_ _ _ _ _ _ _ _=>rfl),wN:=110,wO:=_,An:=pF X G (c:=109) (m:=H.w2) (by kernel_rfl) (CQ λ_ _ _ _ _ _ _=>rfl),jv:=115,jw:=_,mW:=pF X G (c:=114) (m:=H.w2) (by kernel_rfl) (CQ λ_ _ _ _ _ _ _=>rfl),qG:=122,qH:=_,ie:=pF X G (c:=121) (m:=H.w3) (by kernel_rfl) (CQ λ_ _ _ _ _ _ _=>rfl),Ft:=197,Fv:=_,Lb:=pF X G (c:=196) (m:=H.w4) (by kernel_rfl) (CK λ_ _ _ _ _ _ _ _=>rfl),jx:=204,jy:=_,mX:=pF X G (c:=203) (m:=H.w4) (by kernel_rfl) (CQ λ_ _ _ _ _ _ _=>rfl),qI:=211,qJ:=_,uN:=pF X G (c:=210) (m:=H.w4) (by kernel_rfl) (CK λ_ _ _ _ _ _ _ _=>rfl),jz:=218,jA:=_,mY:=pF X G (c:=217) (m:=H.w4) (by kernel_rfl) (CK λ_ _ _ _ _ _ _ _=>rfl),dB:=225,dC:=_,cj:=pF X G (c:=224) (m:=H.w4) (by kernel_rfl) (CQ λ_ _ _ _ _ _ _=>rfl),gJ:=230,gK:=_,jT:=pF X G (c:=229) (m:=H.w4) (by kernel_rfl) (CK λ_ _ _ _ _ _ _ _=>rfl),gM:=235,gO:=_,jU:=pF X G (c:=234) (m:=H.w4) (by kernel_rfl) (CK λ_ _ _ _ _ _ _ _=>rfl),x5:=242,x6:=_,uO:=pF X G (c:=241) (m:=H.w4) (by kernel_rfl) (CK λ_ _ _ _ _ _ _ _=>rfl),Ao:=249,Aq:=_,DX:=pF X G (c:=248) (m:=H.w4) (by kernel_rfl) (P7 λ_ _ _ _ _ _ _ _ _=>rfl),gW:=256,gX:=_,gY:=pF X G (c:=255) (m:=H.w5) (by kernel_rfl) (P7 λ_ _ _ _ _ _ _ _ _=>rfl),iM:=263,iN:=_,kZ:=pF X G (c:=262) (m:=H.w5) (by kernel_rfl) (CK λ_ _ _ _ _ _ _ _=>rfl),iO:=270,iP:=_,k9:=pF X G (c:=269) (m:=H.w5) (by kernel_rfl) (P7 λ_ _ _ _ _ _ _ _ _=>rfl),eQ:=277,eR:=_,gP:=pF X G (c:=276) (m:=H.w5) (by kernel_rfl) (CK λ_ _ _ _ _ _ _ _=>rfl),kq:=284,kr:=_,oy:=pF X G (c:=283) (m:=H.w5) (by kernel_rfl) (CK λ_ _ _ _ _ _ _ _=>rfl),ky:=291,kB:=_,oA:=pF X G (c:=290) (m:=H.w5) (by kernel_rfl) (P7 λ_ _ _ _ _ _ _ _ _=>rfl),lZ:=296,l9:=_,qe:=pF X G (c:=295) (m:=H.w5) (by kernel_rfl) (P7 λ_ _ _ _ _ _ _ _ _=>rfl),mf:=303,mh:=_,qg:=pF X G (c:=302) (m:=H.w5) (by kernel_rfl) (bd4 λ_ _ _ _ _ _ _ _ _ _=>rfl),mj:=310,mm:=_,qh:=pF X G (c:=309) (m:=H.w5) (by kernel_rfl) (CK λ_ _ _ _ _ _ _ _=>rfl),iQ:=317,iR:=_,lg:=pF X G (c:=316) (m:=H.w5) (by kernel_rfl) (bd4 λ_ _ _ _ _ _ _ _ _ _=>rfl),mq:=322,mr:=_,mw:=pF X G (c:=321) (m:=H.w5) (by kernel_rfl) (CQ λ_ _ _ _ _ _ _=>rfl),gg:=329,gh:=_,gj:=pF X G (c:=328) (m:=H.w5) (by kernel_rfl) (CQ λ_ _ _ _ _ _ _=>rfl),kC:=334,kD:=_,kE:=pF X G (c:=333) (m:=H.w5) (by kernel_rfl) (CK λ_ _ _ _ _ _ _ _=>rfl),iS:=341,iT:=_,lh:=pF X G (c:=340) (m:=H.w5) (by kernel_rfl) (bd4 λ_ _ _ _ _ _ _ _ _ _=>rfl),Lc:=348,Fx:=_,Rj:=pF X G (c:=347) (m:=H.w5) (by kernel_rfl) (CQ λ_ _ _ _ _ _ _=>rfl),tw:=mg_none_of X G (by kernel_rfl),Ld:=mg_none_of X G (by kernel_rfl),jL:=mg_none_of X G (by kernel_rfl),tE:=mg_none_of X G (by kernel_rfl),gC:=mg_none_of X G (by kernel_rfl),rM:=mg_none_of X G (by kernel_rfl),Le:=mg_none_of X G (by kernel_rfl),tH:=mg_none_of X G (by kernel_rfl),lj:=mg_none_of X G (by kernel_rfl),Lf:=mg_none_of X G (by kernel_rfl),Fy:=mg_none_of X G (by kernel_rfl),tJ:=319,tK:=mg_of X G (by kernel_rfl)}
 refine⟨_,λs v=>(?_:BindsTo s t.Fx ⟨[v],[]⟩ [("_law_script",v)]),λbase _ _=>?_⟩
 ·exact .of_eq rfl
 have yt:= @HZ l.prog w (Kw w) mg base t
 have uZ:= @Ei l.prog w (Kw w) mg base t
 have fX:= @CI l.prog w (Kw w) mg base t
 have Vp:= @P4 l.prog w (Kw w) mg base t
 have cK:= @AJ l.prog w (Kw w) mg base t
 have qK:= @MC l.prog w (Kw w) mg base t
 have bc:= @nP l.prog w (Kw w) mg base t
 have m9:= @yp l.prog w (Kw w) mg base t
 have Ib:= @Ej l.prog w (Kw w) mg base t
 have b7:= @CJ l.prog w (Kw w) mg base t
 have lE:= @vY l.prog w (Kw w) mg base t
 have lF:= @vZ l.prog w (Kw w) mg base t
 have dm:= @uX l.prog w (Kw w) mg base t
 have qq:= @AK l.prog w (Kw w) mg base t
 have mz:= @AL l.prog w (Kw w) mg base t
 have gm:= @t9 l.prog w (Kw w) mg base t
 have lH:= @wb l.prog w (Kw w) mg base t
 have x8:= @H0 l.prog w (Kw w) mg base t cK qK
 have pG:= @oO l.prog w (Kw w) mg base t cK bc
 have uc:= @Ia l.prog w (Kw w) mg base t fX bc
 have AO:= @MD l.prog w (Kw w) mg base t cK
 have ME:= @Vn l.prog w (Kw w) mg base t fX
 have nc:= @yq l.prog w (Kw w) mg base t m9
 have oQ:= @yV l.prog w (Kw w) mg base t dm
 have qp:= @AM l.prog w (Kw w) mg base t dm
 have kG:= @yW l.prog w (Kw w) mg base t mz gm
 have ng:= @yr l.prog w (Kw w) mg base t AO
 have qu:= @pD l.prog w (Kw w) mg base t nc
 have oR:= @yX l.prog w (Kw w) mg base t b7 oQ
 have lG:= @wc l.prog w (Kw w) mg base t b7 qp qq
 have u9:= @Ek l.prog w (Kw w) mg base t yt uc ng
 have qt:= @AQ l.prog w (Kw w) mg base t b7 oR
 have jW:= @uY l.prog w (Kw w) mg base t uZ ME u9
 have TC:MT (Kw w) mg 186:=⟨⟨ypg,yhd,ypo,ysa⟩,yn0,yn1,yn2,yn3,yn4,yn5,yn6,yn7,yn8,yn9,mg_of X G yC,t.Fy,t.rM,t.gC⟩
 have⟨YF0,YA⟩:=RW (Kw w) (C:=186) (x:="__init__") (q:="Comb.__init__") (st:=D0) (f:=136) (c:=135) (m:=H.w3) (by kernel_rfl)
 have YB0:=YF0.binds (ps:=["self","n"]) (CK λ_ _ _ _ _ _ _ _=>rfl)
 have⟨YF1,acG⟩:=RW (Kw w) (C:=186) (x:="number_of") (q:="Comb.number_of") (st:=Lg) (f:=143) (c:=142) (m:=H.w3) (by kernel_rfl)
 have Zl:=YF1.binds (ps:=["self","row"]) (CK λ_ _ _ _ _ _ _ _=>rfl)
 have Zm:=acG
 have⟨YF2,acH⟩:=RW (Kw w) (C:=186) (x:="without_first") (q:="Comb.without_first") (st:=Li) (f:=150) (c:=149) (m:=H.w3) (by kernel_rfl)
 have YB2:=YF2.binds (ps:=["self","number","k"]) (P7 λ_ _ _ _ _ _ _ _ _=>rfl)
 have YM2:=acH
 have⟨YF3,acI⟩:=RW (Kw w) (C:=186) (x:="with_last") (q:="Comb.with_last") (st:=Ll) (f:=157) (c:=156) (m:=H.w3) (by kernel_rfl)
 have YB3:=YF3.binds (ps:=["self","number","k"]) (P7 λ_ _ _ _ _ _ _ _ _=>rfl)
 have YM3:=acI
 have⟨YF4,acJ⟩:=RW (Kw w) (C:=186) (x:="slide") (q:="Comb.slide") (st:=Ln) (f:=164) (c:=163) (m:=H.w3) (by kernel_rfl)
 have YB4:=YF4.binds (ps:=["self","one","other"]) (P7 λ_ _ _ _ _ _ _ _ _=>rfl)
 have YM4:=acJ
 have⟨YF5,acK⟩:=RW (Kw w) (C:=186) (x:="slide_kept") (q:="Comb.slide_kept") (st:=Lo) (f:=171) (c:=170) (m:=H.w3) (by kernel_rfl)
 have YB5:=YF5.binds (ps:=["self","one","other"]) (P7 λ_ _ _ _ _ _ _ _ _=>rfl)
 have YM5:=acK
 have⟨YF6,acL⟩:=RW (Kw w) (C:=186) (x:="put") (q:="Comb.put") (st:=Lp) (f:=178) (c:=177) (m:=H.w3) (by kernel_rfl)
 have YB6:=YF6.binds (ps:=["self","row"]) (CK λ_ _ _ _ _ _ _ _=>rfl)
 have YM6:=acL
 have⟨YF7,acM⟩:=RW (Kw w) (C:=186) (x:="form_told") (q:="Comb.form_told") (st:=FD) (f:=183) (c:=182) (m:=H.w3) (by kernel_rfl)
 have YB7:=YF7.binds (ps:=["self"]) (CQ λ_ _ _ _ _ _ _=>rfl)
 have YM7:=acM
 have Zn:=UN (P:=l.prog) (w:=w) (base:=base) YF1 TC t x8 qK Ib O2
 have YG2:=XJ (P:=l.prog) (w:=w) (base:=base) YF2 TC t Zm Zl Zn pG
 have YG3:=XQ (P:=l.prog) (w:=w) (base:=base) YF3 TC t Zm Zl Zn bc
 have YG4:=XR (P:=l.prog) (w:=w) (base:=base) YF4 TC YM2 YB2 YG2 YM3 YB3 YG3
 have YG5:=XX (P:=l.prog) (w:=w) (base:=base) YF5 TC t YM4 YB4 YG4
 have YG6:=X2 (P:=l.prog) (w:=w) (base:=base) YF6 TC Zm Zl Zn YM5 YB5 YG5
 have YG7:=X6 (P:=l.prog) (w:=w) (base:=base) YF7 TC
 have YG0:=X8 (P:=l.prog) (w:=w) (base:=base) YF0 TC t Zm Zl Zn fX Vp (λn hn=>mx n hn) (λn hn=>O4 n hn) O3 qi
 have jV:=U5 (P:=l.prog) (w:=w) (base:=base) TC ⟨_,_,_,_,_,_,⟨ymk,YA.1,YA.2,ykc⟩,YB0,YG0,YM6,YB6,YG6,YM7,YB7,YG7⟩ t qu
 have qr:= @P5 l.prog w (Kw w) mg base t jV jW
 have El:= @P6 l.prog w (Kw w) mg base t qr
 have YB:= @Vo l.prog w (Kw w) mg base t qr El b7 lE lF qt lG kG lH
 exact YB
theorem walk{l:PySem.W.OpenLaw}{q:Program}{loose:List Str}{XP:(Str->Option Value)->Heap->Prop}{YP:World->Heap->Prop}{d:DefRec}{K:Params->PySem.W.Frag}(hn:l.most=some 63)(Wu:d.params.defaults=[])
  (hY:∀(w:World)(h:Heap),YP w h->(K w.params).In h)
  (F:∀(w:World)(mg:Str->Option Value)(fa:Addr)(h:Heap),(K w.params).In h->h.Ns mainGlobals mg->mg d.name=some (.ref fa)->
   ∃fd:FuncData,(∀(s:Shared)(u:Value),BindsTo s fd ⟨[u],[]⟩ [("_law_script",u)])/\∀base:Heap,(K w.params).In base->base.Ns mainGlobals mg->cO l.prog w (K w.params) mg base lK 12 fa fd ["_law_script"] (EC (K w.params) Ij xS)):
  PySem.W.WalkO q loose XP YP l.row.toRowW d [] (λf vs=>PySem.call f vs):=
 L2.NB (n:=63) (k:=12) (x:="_law_script") (CX:=λ_=>lK) (sp:=λw=>EC (K w.params) Ij xS) hn (by decide) Wu ⟨rfl,by decide,by decide⟩ hY F (λw H a ns hl _ hS=>Vm ns hl hS) λ_ _ _ _ _ z=>z
end DL.p7
open PySem PySem.W PyProof.Rows
set_option maxRecDepth 100000 in
set_option maxHeartbeats 0 in
theorem PySem.Challenge.cw_braidcomb_k36_same_by_loops_holds : PySem.Challenge.rw_braidcomb_k36_same_by_loops.Holds := by
 w_on
 refine holds_law (l:=PySem.Challenge.rw_braidcomb_k36_same_by_loops) (by kernel_rfl) λsaid=>?_
 refine holds_open (q:=DL.p7.H.q) (Xt:=DL.p7.H.Xt) (XP:=XL DL.p7.H.q []) (Yf:=DL.p7.H.hk.obs) (Ya:=DL.p7.H.hk.val) (YP:=DL.p7.H.hk.says) DL.p7.H.left DL.p7.H.hk.of DL.p7.H.hk.keeps (λs e=>xl_of s (Bool.and_eq_true_iff.mp e).1) XL.keeps (by rfl) (by rfl) (by rfl) (λs e=>recFacts_of (Bool.and_eq_true_iff.mp e).2) (by rfl) said (by decide +kernel) ⟨rfl,rfl,rfl,rfl,rfl,by decide +kernel⟩ ?hw ?hc
 case hw=>w_witness2
 refine DL.p7.walk (l:=PySem.Challenge.rw_braidcomb_k36_same_by_loops) rfl rfl (λw h Y=>kIn_of Y) ?F
 case F=>
  intro w mg fa h KX G hmg
  have hh:=DL.p7.all_mk (l:=PySem.Challenge.rw_braidcomb_k36_same_by_loops) ((DL.p7.RV w).symm▸KX) G hmg
  rw[DL.p7.RV w]at hh
  exact hh
