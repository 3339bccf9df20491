import PyProof.Rows.All
import Wide.All
import OpenK.AllK
import Wide.FinOn
import Lean
import PyProof.EqAt
import PyProof.EqKinds
import PyProof.TupleCall
import PyProof.NeKinds
import PyProof.ListRange
import OpenK.KOwn
import KE.KTryMore
import KE.KSorted
import KE.KSort
import PyProof.Rows.SortWalk
import PyProof.SeqI3
import PyProof.Rows.SumAny
import PyProof.Rows.SeqMore2
import KE.KListMore
import PyProof.Rows.Range3
import PyProof.Cells
import KE.KTabLook
import PyProof.SliceStr2
import PyProof.StrBlockI
import PyProof.Rows.FStr
import PyProof.Rows.StrNews2
import PyProof.ListStr
import PyProof.Rows.StrStep
import PyProof.Rows.StrJoinStr
import PyProof.AutoSeq1
import PyProof.ListRange
import KE.KRevIter
import PyProof.CollectIter
import PyProof.FactsAll.range_iterator_1
import PyProof.Rows.RuleM_int
import PyProof.FactsAll.int_6
import OpenK.AllK
import PySem.Challenge.RW_braidcomb_k31_forms_are_sound
open PySem.W (instObj methodObj lookIn plainGet hasDictIn findIn handedIn plainGet_of isFn plainOver takerIn Looks makesIn typeIn emptyDict keepIn mroIn kitOne kia_one kitx_list kitx_tuple kitx_dict callWith_K methodCall_KW cellsFrom_some codeIn nsIn mg_of mg_none_of kIn_of)
open Nat (lt_of_lt_of_le ne_of_lt le_trans le_of_lt ne_of_gt zero_le le_of_eq lt_succ_self le_succ le_of_not_lt lt_trans zero_add sub_zero min_eq_left sub_self reduceAdd reduceSub reduceEqDiff ble)
open List (range mem_filter mem_range mem_cons_self mem_cons_of_mem mem_cons mem_append mem_append_left getElem?_set_self getElem?_set_ne mem_append_right size_toArray length_cons map_cons length_map append_nil nodup_cons of_mem_zip replicate length length_take getElem?_append_right getElem?_replicate getElem?_append_left getElem?_map mem_of_getElem? length_append length_replicate map_nil length_drop length_set reverse_cons replicate_succ flatten_cons foldl foldl_cons length_singleton length_reverse nil_append Pairwise find?_cons any_cons cons_append length_nil getElem_of_mem getElem?_eq_getElem dropLast_eq_take drop_zero drop_length lookup_cons not_mem_nil getElem?_reverse range' range'_succ length_range map_drop map_map map_append take_length take_of_length_le map_set map_reverse mem_singleton getElem?_eq_none reverse getElem_idxOf mem_reverse reverse_perm range_succ flatten_append mem_map mem_of_mem_take take_succ map pairwise_map Nodup sum_append sum_cons Perm length_zipIdx map_congr_left map_dropLast mem_of_getLast? foldl_append reverse_reverse getElem_mem)
open Array (toList)
open Option (isSome_iff_exists getD_none isSome_some map_some isSome_map)
open Int (toNat_natCast emod_nonneg emod_lt_of_pos)
open PySem.F (slot_dict_get entry_dict_get plainAttrs_list slot_list_pop type_list_pop slot_range_reversed slot_dict_len)
open Classical (propDecidable byContradiction)
open Bool (and_eq_true false_eq_true or_eq_true)
noncomputable section
set_option Elab.async false
set_option linter.all false
set_option maxRecDepth 100000
namespace L2
open PySem PySem.Spec PyProof.Rows
abbrev Key:=Sum Int Str
def vC:Key->Value->Bool
 |.inl k,v=>Value.isInt k v
 |.inr x,v=>Value.isStrOf x v
def T8(w:World):Key->Int
 |.inl k=>hashInt k
 |.inr x=>hashStr w x
theorem bV:∀{k:Key}{v:Value},vC k v=true->(∃i t,k=Sum.inl i/\v=Value.int i t)\/(∃x t,k=Sum.inr x/\v=Value.str x t)
 |.inl i,v,h=>by
  obtain⟨t,e⟩:=Value.isInt_shape (k:=i) (v:=v) h
  exact .inl ⟨i,t,rfl,e⟩
 |.inr x,v,h=>by
  obtain⟨t,e⟩:=Value.isStrOf_shape (x:=x) (v:=v) h
  exact .inr ⟨x,t,rfl,e⟩
theorem Cj(i:Int)(t:Tok):vC (.inl i) (.int i t)=true:=by simp[vC,Value.isInt]
theorem Ck(x:Str)(t:Tok):vC (.inr x) (.str x t)=true:=by simp[vC,Value.isStrOf]
theorem LH(a b:Int):decide ((Sum.inl a:Key)=Sum.inl b)=(a==b):=by
 by_cases e:a=b
 ·subst e;simp
 ·have h:¬(Sum.inl a:Key)=Sum.inl b:=fun q=>e (Sum.inl.inj q)
  rw[decide_eq_false h]
  exact(beq_eq_false_iff_ne.mpr e).symm
theorem LJ(a b:Str):decide ((Sum.inr a:Key)=Sum.inr b)=decide (a=b):=by
 by_cases e:a=b
 ·subst e;simp
 ·have h:¬(Sum.inr a:Key)=Sum.inr b:=fun q=>e (Sum.inr.inj q)
  rw[decide_eq_false h,decide_eq_false e]
theorem LK(a:Int)(b:Str):decide ((Sum.inl a:Key)=Sum.inr b)=false:=decide_eq_false (fun q=>nomatch q)
theorem LL(a:Str)(b:Int):decide ((Sum.inr a:Key)=Sum.inl b)=false:=decide_eq_false (fun q=>nomatch q)
def cy(prog:Program)(w:World):PySem.KeyKind prog w Key where
 is:=vC
 hash:=T8 w
 inj:=fun v a b ha hb=>by
  rcases bV ha with⟨i,t,rfl,rfl⟩|⟨x,t,rfl,rfl⟩
  ·rcases bV hb with⟨j,u,rfl,e⟩|⟨y,u,rfl,e⟩
   ·injection e with e1 _;rw[e1]
   ·exact nomatch e
  ·rcases bV hb with⟨j,u,rfl,e⟩|⟨y,u,rfl,e⟩
   ·exact nomatch e
   ·injection e with e1 _;rw[e1]
 byValue:=fun k v h=>by
  rcases bV h with⟨i,t,rfl,rfl⟩|⟨x,t,rfl,rfl⟩<;>rfl
 pyHash:=fun hv h=>by
  rcases bV hv with⟨i,t,rfl,rfl⟩|⟨x,t,rfl,rfl⟩
  ·exact wpAny_pyHash_int h
  ·exact wpAny_pyHash_str h
 eqBool:=fun hu hv h=>by
  rcases bV hu with⟨i,t,rfl,rfl⟩|⟨x,t,rfl,rfl⟩
  ·rcases bV hv with⟨j,u,rfl,rfl⟩|⟨y,u,rfl,rfl⟩
   ·rw[LH]at h;exact wpAny_eqBool_int h
   ·rw[LK]at h;exact SeqAt.EqAt.int_str i t y u _ _ _ _ h
  ·rcases bV hv with⟨j,u,rfl,rfl⟩|⟨y,u,rfl,rfl⟩
   ·rw[LL]at h;exact SeqAt.EqAt.str_int x t j u _ _ _ _ h
   ·rw[LJ]at h;exact wpAny_eqBool_str h
 «strs» :=fun k x t v h=>by
  rcases bV h with⟨i,u,rfl,e⟩|⟨y,u,rfl,e⟩
  ·exact nomatch e
  ·injection e with e1 _
   subst e1
   cases v<;>rfl
theorem xU(prog:Program)(w:World)(i:Int)(t:Tok):(cy prog w).is (.inl i) (.int i t)=true:=Cj i t
theorem xV(prog:Program)(w:World)(x:Str)(t:Tok):(cy prog w).is (.inr x) (.str x t)=true:=Ck x t
end L2
namespace L2
open PySem PySem.Spec PyProof.Rows
inductive V where
 |non|bl (b:Bool)|int (i:Int)|str (x:Str)|Dl (b:Array UInt8)|LM (b:UInt64)|ref (a:Addr)|ty (n:String)
 deriving DecidableEq
def RelV:V->Value->Prop
 |.non,u=>u=Value.none
 |.bl b,u=>u=Value.bool b
 |.int i,u=>∃t,u=Value.int i t
 |.str x,u=>∃t,u=Value.str x t
 |.Dl b,u=>∃t,u=Value.bytes b t
 |.LM b,u=>∃t,u=Value.float b t
 |.ref a,u=>u=Value.ref a
 |.ty n,u=>u=Value.type n
abbrev Vals:List V->List Value->Prop:=Paired RelV
theorem Vals.length {xs:List V}{us:List Value}(r:Vals xs us):xs.length=us.length:=Paired.length r
theorem Vals.get:∀{xs:List V}{us:List Value}{i:Nat}{x:V},Vals xs us->xs[i]?=some x->∃u,us[i]?=some u/\RelV x u
 |_,_,_,_,.nil,e=>by simp at e
 |_,_,0,_,.cons r _,e=>by simp at e;subst e;exact⟨_,rfl,r⟩
 |_,_,i+1,x,.cons _ t,e=>by
  obtain⟨u,h1,h2⟩:=Vals.get (i:=i) (x:=x) t (by simpa using e)
  exact⟨u,by simpa using h1,h2⟩
theorem Vals.set {x:V}{u:Value}(r:RelV x u):∀{xs:List V}{us:List Value}(i:Nat),Vals xs us->Vals (xs.set i x) (us.set i u)
 |_,_,_,.nil=>.nil
 |_,_,0,.cons _ t=>.cons r t
 |_,_,i+1,.cons q t=>.cons q (Vals.set r i t)
theorem Vals.append:∀{xs ys:List V}{us ws:List Value},Vals xs us->Vals ys ws->Vals (xs++ys) (us++ws)
 |_,_,_,_,.nil,s=>s
 |_,_,_,_,.cons r t,s=>.cons r (Vals.append t s)
theorem Vals.take:∀{xs:List V}{us:List Value}(n:Nat),Vals xs us->Vals (xs.take n) (us.take n)
 |_,_,0,_=>.nil
 |_,_,_+1,.nil=>.nil
 |_,_,n+1,.cons r t=>.cons r (Vals.take n t)
theorem Vals.drop:∀{xs:List V}{us:List Value}(n:Nat),Vals xs us->Vals (xs.drop n) (us.drop n)
 |_,_,0,r=>r
 |_,_,_+1,.nil=>.nil
 |_,_,n+1,.cons _ t=>Vals.drop n t
def lV:Option V->Option Value->Prop
 |some v,some u=>RelV v u
 |none,none=>True
 |_,_=>False
def KV{κ:Type}:List (κ×V)->List (κ×Value)->Prop:=Paired fun(p:κ×V)(q:κ×Value)=>p.1=q.1/\RelV p.2 q.2
def kV:Key->V
 |.inl i=>.int i
 |.inr x=>.str x
inductive HO where
 |lst (xs:List V)
 |tup (xs:List V)
 |dK (kvs:List (Key×V))|dT (kvs:List (List Key×V))
 |set (S:Int->Bool) (n:Nat)
 |ins (C dx:Addr) (fs:List (Str×V))
 |own (x:Addr)
 |xd (fs:List (Str×V))
 |met (f x:Addr)
 |T9 (lo hi:Int)
 |uW (o:Obj) (u:HO)
 |LN (ps:Array Value)
 |ext (φ:Heap->Prop)
abbrev Hp:=Addr->Option HO
def upd(H:Hp)(a:Addr)(o:HO):Hp:=fun b=>if b=a then some o else H b
theorem ak{H:Hp}{a:Addr}{o:HO}:upd H a o a=some o:=by unfold upd;rw[if_pos rfl]
theorem ah{H:Hp}{a b:Addr}{o:HO}(h:b≠a):upd H a o b=H b:=by unfold upd;rw[if_neg h]
theorem br{H:Hp}{a b:Addr}{o u:HO}(h:H a=some o)(h':H b=some u)(d:o≠u):a≠b:=by
 intro e;subst e;rw[h]at h';exact d (Option.some.inj h')
theorem ao{H:Hp}{a b:Addr}{o:HO}(h:H a=some o)(h':H b=none):a≠b:=by
 intro e;subst e;rw[h]at h';cases h'
section
variable(P:Program)(w:World)
def cu(H:Hp)(h:Heap)(a:Addr):HO->Prop
 |.lst xs=>xs.length<=sizeLine/\∃(its:List Value)(n:Nat),Vals xs its/\h.get? a=some {cls:=.type "list",data:=.seq its.toArray n}
 |.tup xs=>xs.length<=sizeLine/\∃its:List Value,Vals xs its/\IsTup h a its.toArray
 |.dK kvs=>kvs.length<=sizeLine/\(a==sysModules)=false/\∃vs,KV kvs vs/\h.DictOf (cy P w) a vs
 |.dT kvs=>kvs.length<=sizeLine/\(a==sysModules)=false/\∃xs:List (List Key×Addr×Value),
   Paired (fun(p:List Key×V)(q:List Key×Addr×Value)=>p.1=q.1/\H q.2.1=some (.tup (p.1.map kV))/\RelV p.2 q.2.2) kvs xs/\
   ∃o es ep,h.get? a=some o/\o.ExactDict/\o.data=.dict es ep/\es.toList=xs.map (entryOfKey (tupleKind (cy P w)))/\(xs.map (·.1)).Nodup
 |.set S n=>h.SetOf (intKind P w) a S n
 |.ins C dx fs=>H dx=some (.own a)/\fs.length<=1000/\dx≠a/\h.get? a=some (instObj C dx)/\
   ∃mA,h.Ns1 dx mA/\(∀f,lV (fs.lookup f) (mA f))/\PySem.Within mA (fs.map (·.1))
 |.own _=>∃o,h.get? a=some o
 |.xd fs=>∃mA,h.Ns1 a mA/\∀f,lV (fs.lookup f) (mA f)
 |.T9 lo hi=>∃t u v,h.get? a=some {cls:=.type "range",data:=.fields #[.int lo t,.int hi u,.int 1 v]}
 |.uW o u=>h.get? a=some o/\cu H h a u
 |.LN ps=>h.get? a=some {cls:=.none,data:=.fields ps}
 |.met f x=>h.get? a=some (methodObj (.ref f) (.ref x))
 |.ext φ=>φ h/\(∃o,h.get? a=some o)/\∀h1 h2:Heap,φ h1->(∀o,h1.get? a=some o->h2.get? a=some o)->φ h2
def nE(H:Hp)(h:Heap):Prop:=∀a o,H a=some o->cu P w H h a o
end
section
variable{P:Program}{w:World}{H H':Hp}{h h':Heap}{a:Addr}{o:HO}
theorem cu.lt (x:cu P w H h a o):a<h.objs.size:=by
 cases o with
 |lst xs=>obtain⟨_,_,_,_,e⟩:=x;exact Heap.lt_size e
 |tup xs=>obtain⟨_,_,_,p⟩:=x;exact p.lt
 |dK kvs=>obtain⟨_,_,_,_,o,_,_,e,_⟩:=x;exact Heap.lt_size e
 |dT kvs=>obtain⟨_,_,_,_,o,_,_,e,_⟩:=x;exact Heap.lt_size e
 |set S n=>obtain⟨o,_,_,_,e,_⟩:=x;exact Heap.lt_size e
 |ins C dx fs=>obtain⟨_,_,_,e,_⟩:=x;exact Heap.lt_size e
 |own y=>obtain⟨_,e⟩:=x;exact Heap.lt_size e
 |xd fs=>obtain⟨_,⟨_,_,_,e,_⟩,_⟩:=x;exact Heap.lt_size e
 |T9 lo hi=>obtain⟨_,_,_,e⟩:=x;exact Heap.lt_size e
 |uW ob u=>obtain⟨e,_⟩:=x;exact Heap.lt_size e
 |LN ps=>exact Heap.lt_size (show h.get? a=some _ from x)
 |met f y=>exact Heap.lt_size (show h.get? a=some _ from x)
 |ext φ=>obtain⟨_,⟨_,e⟩,_⟩:=x;exact Heap.lt_size e
theorem Paired.LO {α β:Type}{F G:α->β->Prop}:∀{l₁:List α}{l₂:List β},Paired F l₁ l₂->(∀a b,F a b->G a b)->Paired G l₁ l₂
 |_,_,.nil,_=>.nil
 |_,_,.cons r t,f=>.cons (f _ _ r) (Paired.LO t f)
theorem cu.zA (x:cu P w H h a o)(k:∀b u,(b=a\/H b=some (.own a))->h.get? b=some u->h'.get? b=some u)
  (ho:∀b,H b=some (.own a)->H' b=some (.own a))(ht:∀b xs,H b=some (.tup xs)->H' b=some (.tup xs)):cu P w H' h' a o:=by
 induction o with
 |lst xs=>obtain⟨z,its,n,r,e⟩:=x;exact⟨z,its,n,r,k _ _ (.inl rfl) e⟩
 |tup xs=>obtain⟨z,its,r,ob,e,c⟩:=x;exact⟨z,its,r,ob,k _ _ (.inl rfl) e,c⟩
 |dK kvs=>obtain⟨z,y,vs,r,ob,es,ep,e,c⟩:=x;exact⟨z,y,vs,r,ob,es,ep,k _ _ (.inl rfl) e,c⟩
 |dT kvs=>
  obtain⟨z,y,xs,r,ob,es,ep,e,c⟩:=x
  exact⟨z,y,xs,Paired.LO r fun p q z=>⟨z.1,ht _ _ z.2.1,z.2.2⟩,ob,es,ep,k _ _ (.inl rfl) e,c⟩
 |set S n=>obtain⟨ob,es,ep,t,e,c⟩:=x;exact⟨ob,es,ep,t,k _ _ (.inl rfl) e,c⟩
 |ins C dx fs=>
  obtain⟨d,z,ne,e,mA,⟨od,es,ep,e2,c⟩,r⟩:=x
  exact⟨ho _ d,z,ne,k _ _ (.inl rfl) e,mA,⟨od,es,ep,k _ _ (.inr d) e2,c⟩,r⟩
 |own y=>obtain⟨ob,e⟩:=x;exact⟨ob,k _ _ (.inl rfl) e⟩
 |xd fs=>obtain⟨mA,⟨od,es,ep,e,c⟩,r⟩:=x;exact⟨mA,⟨od,es,ep,k _ _ (.inl rfl) e,c⟩,r⟩
 |T9 lo hi=>obtain⟨t,u,v,e⟩:=x;exact⟨t,u,v,k _ _ (.inl rfl) e⟩
 |uW ob u ih=>obtain⟨e,q⟩:=x;exact⟨k _ _ (.inl rfl) e,ih q⟩
 |LN ps=>
  have e:h.get? a=some {cls:=.none,data:=.fields ps}:=x
  show h'.get? a=some {cls:=.none,data:=.fields ps}
  exact k a _ (.inl rfl) e
 |met f y=>
  have e:h.get? a=some (methodObj (.ref f) (.ref y)):=x
  show h'.get? a=some (methodObj (.ref f) (.ref y))
  exact k a _ (.inl rfl) e
 |ext φ=>obtain⟨p,⟨o,e⟩,st⟩:=x;exact⟨st _ _ p fun o q=>k _ _ (.inl rfl) q,⟨o,k _ _ (.inl rfl) e⟩,st⟩
theorem nE.lt (x:nE P w H h)(e:H a=some o):a<h.objs.size:=(x a o e).lt
theorem nE.fresh (x:nE P w H h)(e:h.objs.size<=a):H a=none:=by
 cases q:H a with
 |none=>rfl
 |some u=>exact absurd (lt_of_lt_of_le (x.lt q) e) (Nat.lt_irrefl _)
theorem nE.kept (x:nE P w H h)(k:∀b u,h.get? b=some u->h'.get? b=some u):nE P w H h':=fun a o e=>
 (x a o e).zA (fun b u _ q=>k b u q) (fun _ q=>q) fun _ _ q=>q
theorem nE.laid (x:nE P w H h)(k:∀b u,h.get? b=some u->h'.get? b=some u)(hp:h.objs.size<=a)(new:cu P w (upd H a o) h' a o):nE P w (upd H a o) h':=fun b u e=>by
 have hn:=x.fresh hp
 by_cases hb:b=a
 ·subst hb;rw[ak]at e;cases e;exact new
 ·rw[ah hb]at e
  exact(x b u e).zA (fun c v _ q=>k c v q) (fun c q=>by rw[ah (ao q hn)];exact q) fun c xs q=>by rw[ah (ao q hn)];exact q
end
def Rd(H:Hp)(a:Addr)(u:HO):Prop:=H a=some u\/∃o,H a=some (.uW o u)
theorem Rd.ok {P:Program}{w:World}{H:Hp}{h:Heap}{a:Addr}{u:HO}(r:Rd H a u)(x:nE P w H h):cu P w H h a u:=by
 rcases r with r|⟨o,r⟩
 ·exact x a u r
 ·obtain⟨_,q⟩:=x a _ r
  exact q
def PH:Option HO->Prop
 |some (.lst _)=>True
 |some (.dK _)=>True
 |some (.dT _)=>True
 |some (.set _ _)=>True
 |some (.ins _ _ _)=>True
 |some (.ext _)=>True
 |_=>False
section
variable{P:Program}{w:World}{H:Hp}{h h':Heap}{x e:Addr}{o':HO}
theorem nE.write (ok:nE P w H h)(mu:PH (H x))(he:e=x\/H e=some (.own x))(k:∀b u,b≠e->h.get? b=some u->h'.get? b=some u)(O5:∃u,h'.get? e=some u)
  (new:cu P w (upd H x o') h' x o'):nE P w (upd H x o') h':=fun b u q=>by
 have PJ:∀c y,H c=some (.own y)->c≠x:=fun c y r z=>by subst z;rw[r]at mu;exact mu
 have Ua:∀c xs,H c=some (.tup xs)->c≠x:=fun c xs r z=>by subst z;rw[r]at mu;exact mu
 by_cases hb:b=x
 ·subst hb;rw[ak]at q;cases q;exact new
 ·rw[ah hb]at q
  by_cases LP:b=e
  ·have q':H b=some (.own x):=by
    rcases he with z|z
    ·exact absurd (LP.trans z) hb
    ·rw[LP];exact z
   rw[q]at q';cases q'
   obtain⟨v,hv⟩:=O5
   exact⟨v,by rw[LP];exact hv⟩
  ·refine(ok b u q).zA (fun c v hc r=>k c v ?_ r) (fun c r=>by rw[ah (PJ c b r)];exact r) fun c xs r=>by rw[ah (Ua c xs r)];exact r
   rcases hc with rfl|hc
   ·exact LP
   ·rintro rfl
    rcases he with z|z
    ·exact PJ c b hc z
    ·rw[hc]at z;cases z;exact hb rfl
end
structure Un(fs ex:List Addr)(H H':Hp)(h h':Heap):Prop where
 keep:∀b o,h.get? b=some o->H b=none->b∉fs->b∉ex->h'.get? b=some o
 slot:∀b o,h.get? b=some o->H b=none->b∈fs->b∉ex->∃sl,h'.get? b=some {o with slots:=sl}
 free:∀b o,h.get? b=some o->H b=none->b∉ex->H' b=none
 there:∀b o,h.get? b=some o->b∉ex->∃o',h'.get? b=some o'
 tups:∀b xs,H b=some (.tup xs)->H' b=some (.tup xs)
 wB:∀b o u,H b=some (.uW o u)->H' b=some (.uW o u)
 xW:∀b ps,H b=some (.LN ps)->∃more,H' b=some (.LN (ps++more))
section
variable{fs XA ex SX:List Addr}{H H1 H2:Hp}{h h1 h2 h':Heap}{a x e:Addr}{o:HO}
theorem Un.any (u:Un fs ex H H1 h h1){b:Addr}{ob:Obj}(q:h.get? b=some ob)(n:H b=none)(hx:b∉ex):∃sl,h1.get? b=some {ob with slots:=sl}:=by
 by_cases hb:b∈fs
 ·exact u.slot b ob q n hb hx
 ·exact⟨ob.slots,u.keep b ob q n hb hx⟩
theorem Un.kept (k:∀b u,h.get? b=some u->h'.get? b=some u):Un fs ex H H h h':=
 ⟨fun b ob q _ _ _=>k b ob q,fun b ob q _ _ _=>⟨ob.slots,k b ob q⟩,fun _ _ _ n _=>n,fun b ob q _=>⟨ob,k b ob q⟩,fun _ _ q=>q,fun _ _ _ q=>q,fun _ ps q=>⟨#[],by rw[q];simp⟩⟩
theorem Un.refl:Un fs ex H H h h:=Un.kept fun _ _ q=>q
theorem Un.laid (k:∀b u,h.get? b=some u->h'.get? b=some u)(hp:h.objs.size<=a)(hn:H a=none):Un fs ex H (upd H a o) h h' where
 keep:=fun b u q _ _ _=>k b u q
 slot:=fun b u q _ _ _=>⟨u.slots,k b u q⟩
 free:=fun b u q n _=>by rw[ah (ne_of_lt (lt_of_lt_of_le (Heap.lt_size q) hp))];exact n
 there:=fun b u q _=>⟨u,k b u q⟩
 tups:=fun b xs q=>by rw[ah (ao q hn)];exact q
 wB:=fun b u xs q=>by rw[ah (ao q hn)];exact q
 xW:=fun b ps q=>⟨#[],by rw[ah (ao q hn),q];simp⟩
theorem Un.write (mu:PH (H x))(he:e=x\/H e=some (.own x))(k:∀b u,b≠e->h.get? b=some u->h'.get? b=some u)(O5:∃u,h'.get? e=some u):Un fs ex H (upd H x o) h h':=by
 have hx:∀b,H b=none->b≠x:=fun b n z=>by subst z;rw[n]at mu;exact mu
 have hb:∀b,H b=none->b≠e:=fun b n z=>by
  subst z
  rcases he with r|r
  ·exact hx b n r
  ·rw[n]at r;cases r
 have hm:∀b u,H b=some u->¬PH (some u)->b≠x:=fun b u q nm z=>by subst z;rw[q]at mu;exact nm mu
 refine⟨fun b u q n _ _=>k b u (hb b n) q,fun b u q n _ _=>⟨u.slots,k b u (hb b n) q⟩,fun b u q n _=>by rw[ah (hx b n)];exact n,fun b u q _=>?_,
  fun b xs q=>by rw[ah (hm b _ q fun z=>z)];exact q,fun b u xs q=>by rw[ah (hm b _ q fun z=>z)];exact q,fun b ps q=>⟨#[],by rw[ah (hm b _ q fun z=>z),q];simp⟩⟩
 by_cases LP:b=e
 ·subst LP;exact O5
 ·exact⟨u,k b u LP q⟩
end
def SY(h:Heap)(H:Hp):List Addr:=(range h.objs.size).filter fun a=>(H a).isSome
def wC(h:Heap)(H:Hp):Heap:=PySem.W.hideAll h (SY h H)
theorem Cm(h:Heap)(H:Hp):(wC h H).objs.size=h.objs.size:=PySem.W.hideAll_size _ _
theorem DC{h:Heap}{H:Hp}{b:Addr}{o:Obj}(e:h.get? b=some o)(n:H b=none):(wC h H).get? b=some o:=
 PySem.W.hideAll_get _ e fun hm=>by
  have q:(H b).isSome=true:=(mem_filter.mp hm).2
  rw[n]at q;simp at q
theorem Hq{h:Heap}{H:Hp}{b:Addr}{o:Obj}(e:(wC h H).get? b=some o):h.get? b=some o/\H b=none:=by
 have e':h.get? b=some o:=PySem.W.of_hideAll (SY h H) e
 refine⟨e',?_⟩
 cases q:H b with
 |none=>rfl
 |some x=>
  have hm:b∈SY h H:=mem_filter.mpr ⟨mem_range.mpr (Heap.lt_size e'),by simp[q]⟩
  have z:(wC h H).get? b=none:=PySem.W.hideAll_none (SY h H) hm
  rw[z]at e;cases e
def Hr(g h:Heap)(L:Addr):List (Addr×Obj):=(range h.objs.size).filterMap fun a=>if a=L\/(g.get? a).isSome=true then none else(h.get? a).map fun o=>(a,o)
def rest(g h:Heap)(L d:Addr):List (Addr×Obj):=(Hr g h L).filter fun p=>decide (p.1≠d)
end L2
namespace L2
open PySem PySem.Spec PyProof.Rows
structure Mod(K:PySem.W.Frag)(mg:Str->Option Value)(base:Heap):Prop where
 PK:K.In base
 glob:base.Ns mainGlobals mg
 blt:∃mb,base.Ns builtinsNs mb/\∀x:Str,x≠"__name__"->mb x=bootBuiltins x
 nolimit:base.NoLimit
structure Cx where
 prog:Program
 w:World
 K:PySem.W.Frag
 mg:Str->Option Value
 base:Heap
 A:Around
 N:List Str
 s₀:Shared
 H₀:Hp
 env:Env
 outer:List Env
 stack:List Env
 ex:List Addr
 fn:Str->Bool
 calm:Bool
 pn:List (Addr×Obj)
 xe:Value->Shared->Prop
def xN(l:List Env):List Addr:=l.filterMap (·.frame)
abbrev Cx.fs (X:Cx):List Addr:=xN X.outer
def vD(sc:Scope)(x:Str):Prop:=sc.names.lookup x=some .local\/sc.names.lookup x=some .cell\/sc.names.lookup x=some .free
def Loc(sc:Scope)(x:Str):Prop:=sc.names.lookup x=some .local\/sc.names.lookup x=some .cell
def Look(env:Env)(h:Heap)(m:Str->Option Value)(x:Str)(u:Value):Prop:=
 (env.kindOf x=some .local/\m x=some u)\/((env.kindOf x=some .cell\/env.kindOf x=some .free)/\∃c,env.cells.lookup x=some c/\h.IsCell c (some u))
structure Cx.Ok (X:Cx):Prop where
 mod:Mod X.K X.mg X.base
 kind:X.env.scope.kind=.function
 glob:X.env.globals=mainGlobals
 blt:X.env.builtins=builtinsNs
 above:X.s₀.heap.objs.size<=X.env.locals
 inj:∀x y c,X.env.cells.lookup x=some c->X.env.cells.lookup y=some c->x=y
 has:∀x,(X.env.kindOf x=some .cell\/X.env.kindOf x=some .free)->∃c,X.env.cells.lookup x=some c
 LQ:∀x c,X.fn x=true->X.env.cells.lookup x=some c->X.s₀.heap.objs.size<=c
 hd:X.calm=true->X.A.handled=none
 frames:X.A.frames=some X.stack
 O6:X.stack=X.outer\/(X.stack=X.env::X.outer/\X.env.frame=some X.env.locals)
 LR:∀b∈X.ex,b≠X.env.locals/\∀x c,X.env.cells.lookup x=some c->c≠b
 bs:∀b o,X.base.get? b=some o->X.s₀.heap.get? b=some o/\X.H₀ b=none
 Cn:X.base.objs.size<=X.s₀.heap.objs.size
 xX:∀b o,X.base.get? b=some o->b∉X.ex
 wD:∀b∈X.ex,b∉X.fs
 o8:X.s₀.heap.FunFrames X.base X.outer
 Hs:∀b∈X.fs,X.H₀ b=none
structure Inv(X:Cx)(pins:List (Addr×Obj))(σ:List (Option V))(H:Hp)(s:Shared):Prop where
 ok:X.Ok
 os:s.os=X.s₀.os
 bare:AllBare s.gens
 base:Un X.fs X.ex X.H₀ H X.s₀.heap s.heap
 loc:∃m,s.heap.Ns X.env.locals m/\∀(i:Nat)(x:Str)(v:V),X.N[i]?=some x->σ[i]?=some (some v)->vD X.env.scope x->∃u,RelV v u/\Look X.env s.heap m x u
 cell:∀x c,X.env.cells.lookup x=some c->∃v,s.heap.IsCell c v
 free:H X.env.locals=none
 mw:∀x c,X.env.cells.lookup x=some c->H c=none
 pin:∀p∈X.pn++pins,s.heap.get? p.1=some p.2/\H p.1=none/\p.1≠X.env.locals/\p.1∉X.fs/\∀v,p.2.data≠.cell v
 hok:nE X.prog X.w H s.heap
 len:σ.length=X.N.length
section
variable{X:Cx}{pins:List (Addr×Obj)}{σ:List (Option V)}{H H':Hp}{s:Shared}{h':Heap}
theorem Cx.Ok.Ub (ok:X.Ok){b:Addr}{o:Obj}(e:X.base.get? b=some o):b∉X.fs:=fun hb=>by
 have:=(ok.o8.mem hb).1
 rw[e]at this;cases this
theorem Inv.bs (I:Inv X pins σ H s):∀b o,X.base.get? b=some o->s.heap.get? b=some o/\H b=none:=fun b o e=>
 ⟨I.base.keep b o (I.ok.bs b o e).1 (I.ok.bs b o e).2 (I.ok.Ub e) (I.ok.xX b o e),I.base.free b o (I.ok.bs b o e).1 (I.ok.bs b o e).2 (I.ok.xX b o e)⟩
theorem Inv.bk (I:Inv X pins σ H s):∀b o,X.base.get? b=some o->s.heap.get? b=some o:=fun b o e=>(I.bs b o e).1
theorem Inv.mod (I:Inv X pins σ H s):Mod X.K X.mg X.base:=I.ok.mod
theorem Inv.qt (I:Inv X pins σ H s):X.K.In s.heap:=I.ok.mod.PK.keeps I.bk
theorem Inv.lt (I:Inv X pins σ H s):X.env.locals<s.heap.objs.size:=let⟨_,hn,_⟩:=I.loc;hn.lt
theorem Inv.sz (I:Inv X pins σ H s):X.s₀.heap.objs.size<=s.heap.objs.size:=le_trans I.ok.above (le_of_lt I.lt)
theorem Inv.Uc (I:Inv X pins σ H s){a:Addr}(h:s.heap.objs.size<=a):a∉X.fs:=fun hb=>by
 obtain⟨_,o,ho,_⟩:=I.ok.o8.mem hb
 exact absurd (lt_of_lt_of_le (Heap.lt_size ho) (le_trans I.sz h)) (Nat.lt_irrefl _)
theorem Inv.LS (I:Inv X pins σ H s):∀x c,X.env.cells.lookup x=some c->c≠X.env.locals:=fun x c e z=>by
 obtain⟨v,o,ho,hd⟩:=I.cell x c e
 obtain⟨m,⟨o',es,ep,LU,Ht,_⟩,_⟩:=I.loc
 rw[z,LU]at ho;cases ho;rw[Ht]at hd;cases hd
theorem Inv.o8 (I:Inv X pins σ H s):s.heap.FunFrames X.base X.outer:=by
 have all:∀(l:List Env),(∀b∈xN l,b∈X.fs)->X.s₀.heap.FunFrames X.base l->s.heap.FunFrames X.base l:=by
  intro l
  induction l with
  |nil=>intro _ _;trivial
  |cons env r ih=>
   intro hs hl
   obtain⟨hk,⟨L,o,hf,hn,ho,hd⟩,hr⟩:=hl
   have hL:L∈X.fs:=hs L (by unfold xN;rw[List.filterMap_cons,hf];exact mem_cons_self)
   obtain⟨sl,e⟩:=I.base.slot L o ho (I.ok.Hs L hL) hL fun z=>I.ok.wD L z hL
   exact⟨hk,⟨L,_,hf,hn,e,hd⟩,ih (fun b hb=>hs b (by unfold xN;rw[List.filterMap_cons,hf];exact mem_cons_of_mem _ hb)) hr⟩
 exact all X.outer (fun _ hb=>hb) I.ok.o8
theorem Inv.stack (I:Inv X pins σ H s):s.heap.FunFrames X.base X.stack:=by
 rcases I.ok.O6 with e|⟨e,hf⟩
 ·rw[e];exact I.o8
 ·rw[e]
  obtain⟨m,hn,_⟩:=I.loc
  refine .cons (by rw[I.ok.kind];decide) hf hn ?_ I.o8
  exact Heap.get?_none_of_le (le_trans I.ok.Cn I.ok.above)
theorem Inv.qu (I:Inv X pins σ H s):∀b∈xN X.stack,b∈X.env.locals::X.fs:=fun b hb=>by
 rcases I.ok.O6 with e|⟨e,hf⟩
 ·rw[e]at hb;exact mem_cons_of_mem _ hb
 ·rw[e]at hb
  unfold xN at hb
  rw[List.filterMap_cons,hf]at hb
  exact hb
theorem Inv.wF (I:Inv X pins σ H s):∀b∈xN X.stack,H b=none:=fun b hb=>by
 rcases mem_cons.mp (I.qu b hb)with e|hb
 ·rw[e];exact I.free
 ·obtain⟨_,o,ho,_⟩:=I.ok.o8.mem hb
  exact I.base.free b o ho (I.ok.Hs b hb) fun z=>I.ok.wD b z hb
theorem Inv.step {g':Array GenState}{t':Nat}{d':Drawn}{ch:List Addr}(I:Inv X pins σ H s)
  (hch:∀b∈ch,(b∈X.ex\/X.s₀.heap.objs.size<=b)/\b≠X.env.locals/\(∀x c,X.env.cells.lookup x=some c->c≠b)/\∀p∈X.pn++pins,p.1≠b)
  (keep:∀b o,b≠X.env.locals->b∉X.fs->b∉ch->s.heap.get? b=some o->H b=none->h'.get? b=some o)
  (slot:∀b o,b≠X.env.locals->b∈X.fs->b∉ch->s.heap.get? b=some o->H b=none->∃sl,h'.get? b=some {o with slots:=sl})(free:∀b o,b∉ch->s.heap.get? b=some o->H b=none->H' b=none)
  (there:∀b o,b∉ch->s.heap.get? b=some o->∃o',h'.get? b=some o')
  (tups:∀b xs,H b=some (.tup xs)->H' b=some (.tup xs))(wB:∀b o u,H b=some (.uW o u)->H' b=some (.uW o u))(xW:∀b ps,H b=some (.LN ps)->∃more,H' b=some (.LN (ps++more)))
  (ns:∀m,s.heap.Ns X.env.locals m->h'.Ns X.env.locals m)(hok:nE X.prog X.w H' h')(hg:AllBare g'):
  Inv X pins σ H' {s with heap:=h',gens:=g',drawn:=d',toks:=t'}:=by
 have XC:∀b o,X.s₀.heap.get? b=some o->b≠X.env.locals:=fun b o e=>ne_of_lt (lt_of_lt_of_le (Heap.lt_size e) I.ok.above)
 have S2:∀b o,X.s₀.heap.get? b=some o->b∉X.ex->b∉ch:=fun b o e hx hb=>by
  rcases(hch b hb).1 with z|z
  ·exact hx z
  ·exact absurd (lt_of_lt_of_le (Heap.lt_size e) z) (Nat.lt_irrefl _)
 have cellK:∀x c,X.env.cells.lookup x=some c->∀v,s.heap.IsCell c v->h'.IsCell c v:=fun x c e v ⟨o,ho,hd⟩=>by
  have PL:c∉ch:=fun z=>(hch c z).2.2.1 x c e rfl
  by_cases hc:c∈X.fs
  ·obtain⟨sl,q⟩:=slot c o (I.LS x c e) hc PL ho (I.mw x c e)
   exact⟨_,q,hd⟩
  ·exact⟨o,keep c o (I.LS x c e) hc PL ho (I.mw x c e),hd⟩
 refine⟨I.ok,I.os,hg,⟨fun b o e n hb hx=>?_,fun b o e n hb hx=>?_,fun b o e n hx=>?_,fun b o e hx=>?_,fun b xs e=>tups b xs (I.base.tups b xs e),fun b o xs e=>wB b o xs (I.base.wB b o xs e),fun b ps e=>?_⟩,?_,fun x c e=>?_,?_,fun x c e=>?_,fun p hp=>?_,hok,I.len⟩
 ·exact keep b o (XC b o e) hb (S2 b o e hx) (I.base.keep b o e n hb hx) (I.base.free b o e n hx)
 ·obtain⟨sl,e1⟩:=I.base.slot b o e n hb hx
  obtain⟨Zt,e2⟩:=slot b _ (XC b o e) hb (S2 b o e hx) e1 (I.base.free b o e n hx)
  exact⟨Zt,e2⟩
 ·obtain⟨o',e1⟩:=I.base.there b o e hx
  exact free b o' (S2 b o e hx) e1 (I.base.free b o e n hx)
 ·obtain⟨o',e1⟩:=I.base.there b o e hx
  exact there b o' (S2 b o e hx) e1
 ·obtain⟨m1,e1⟩:=I.base.xW b ps e
  obtain⟨m2,e2⟩:=xW b _ e1
  exact⟨m1++m2,by rw[e2,Array.append_assoc]⟩
 ·obtain⟨m,hn,hl⟩:=I.loc
  refine⟨m,ns m hn,fun i x v e1 e2 e3=>?_⟩
  obtain⟨u,r,l⟩:=hl i x v e1 e2 e3
  refine⟨u,r,?_⟩
  rcases l with l|⟨k,c,e,z⟩
  ·exact .inl l
  ·exact .inr ⟨k,c,e,cellK x c e _ z⟩
 ·obtain⟨v,z⟩:=I.cell x c e
  exact⟨v,cellK x c e v z⟩
 ·obtain⟨m,⟨o,_,_,ho,_⟩,_⟩:=I.loc
  exact free _ o (fun z=>(hch _ z).2.1 rfl) ho I.free
 ·obtain⟨v,o,ho,hd⟩:=I.cell x c e
  exact free c o (fun z=>(hch c z).2.2.1 x c e rfl) ho (I.mw x c e)
 ·obtain⟨e,n,ne,nf,d⟩:=I.pin p hp
  have PL:p.1∉ch:=fun z=>(hch p.1 z).2.2.2 p hp rfl
  exact⟨keep p.1 p.2 ne nf PL e n,free p.1 p.2 PL e n,ne,nf,d⟩
theorem Inv.un {t':Nat}(I:Inv X pins σ H s)(u:Un X.fs [] H H' s.heap h')(hok:nE X.prog X.w H' h'):Inv X pins σ H' {s with heap:=h',toks:=t'}:=by
 obtain⟨m,⟨o,es,ep,ho,r⟩,_⟩:=id I.loc
 obtain⟨sl,hL⟩:=u.any ho I.free (by simp)
 exact I.step (g':=s.gens) (d':=s.drawn) (ch:=[]) (fun _ z=>nomatch z) (fun b o _ hb _ e n=>u.keep b o e n hb (by simp)) (fun b o _ hb _ e n=>u.slot b o e n hb (by simp)) (fun b o _ e n=>u.free b o e n (by simp)) (fun b o _ e=>u.there b o e (by simp)) u.tups u.wB u.xW (fun m' hm=>by
  obtain⟨o',Ud,Ue,LU,r'⟩:=hm
  rw[ho]at LU;cases LU
  exact⟨_,Ud,Ue,hL,r'⟩) hok I.bare
theorem Inv.call {g':Array GenState}{t':Nat}{d':Drawn}{ch:List Addr}(I:Inv X pins σ H s)(u:Un (xN X.stack) ch H H' s.heap h')(hok:nE X.prog X.w H' h')(hg:AllBare g')
  (hch:∀b∈ch,(b∈X.ex\/X.s₀.heap.objs.size<=b)/\b≠X.env.locals/\(∀x c,X.env.cells.lookup x=some c->c≠b)/\∀p∈X.pn++pins,p.1≠b):
  Inv X pins σ H' {s with heap:=h',gens:=g',drawn:=d',toks:=t'}:=by
 obtain⟨m,⟨o,es,ep,ho,r⟩,_⟩:=id I.loc
 obtain⟨sl,hL⟩:=u.any ho I.free fun z=>(hch _ z).2.1 rfl
 exact I.step (ch:=ch) hch (fun b o hL hb hc e n=>u.keep b o e n (fun z=>(mem_cons.mp (I.qu b z)).elim hL hb) hc) (fun b o _ _ hc e n=>u.any e n hc) (fun b o hc e n=>u.free b o e n hc) (fun b o hc e=>u.there b o e hc) u.tups u.wB u.xW (fun m' hm=>by
  obtain⟨o',Ud,Ue,LU,r'⟩:=hm
  rw[ho]at LU;cases LU
  exact⟨_,Ud,Ue,hL,r'⟩) hok hg
theorem Inv.turned {t':Nat}{it:Addr}(I:Inv X pins σ H s)(k:∀b o,b≠it->s.heap.get? b=some o->h'.get? b=some o)(hn:H it=none)(hL:it≠X.env.locals)
  (h1:it∈X.ex\/X.s₀.heap.objs.size<=it)(h2:∀x c,X.env.cells.lookup x=some c->c≠it)(h3:∀p∈X.pn++pins,p.1≠it):Inv X pins σ H {s with heap:=h',toks:=t'}:=by
 have XD:∀b u,H b=some u->b≠it:=fun b u e z=>by rw[z,hn]at e;cases e
 refine I.step (g':=s.gens) (d':=s.drawn) (ch:=[it]) (fun b hb=>?_) (fun b o _ _ hc e _=>k b o (fun z=>hc (by simp[z])) e) (fun b o _ _ hc e _=>⟨o.slots,k b o (fun z=>hc (by simp[z])) e⟩) (fun _ _ _ _ n=>n)
  (fun b o hc e=>⟨o,k b o (fun z=>hc (by simp[z])) e⟩) (fun _ _ e=>e) (fun _ _ _ e=>e) (fun b ps e=>⟨#[],by rw[e];simp⟩) (fun m hm=>?_) (fun b u e=>?_) I.bare
 ·have e:b=it:=by simpa using hb
  subst e
  exact⟨h1,hL,h2,h3⟩
 ·obtain⟨o,es,ep,ho,r⟩:=hm
  exact⟨o,es,ep,k _ o (Ne.symm hL) ho,r⟩
 ·refine(I.hok b u e).zA (fun c v hc q=>k c v ?_ q) (fun _ q=>q) fun _ _ q=>q
  rcases hc with z|z
  ·rw[z];exact XD b u e
  ·exact XD c _ z
theorem Inv.tok (I:Inv X pins σ H s)(t:Nat):Inv X pins σ H {s with toks:=t}:=I.un (h':=s.heap) (t':=t) Un.refl I.hok
theorem Inv.kept {t':Nat}(I:Inv X pins σ H s)(k:∀b u,s.heap.get? b=some u->h'.get? b=some u):Inv X pins σ H {s with heap:=h',toks:=t'}:=I.un (Un.kept k) (I.hok.kept k)
theorem Inv.laid {a:Addr}{o:HO}{t':Nat}(I:Inv X pins σ H s)(k:∀b u,s.heap.get? b=some u->h'.get? b=some u)(hp:s.heap.objs.size<=a)(new:cu X.prog X.w (upd H a o) h' a o):
  Inv X pins σ (upd H a o) {s with heap:=h',toks:=t'}:=I.un (Un.laid k hp (I.hok.fresh hp)) (I.hok.laid k hp new)
theorem Inv.write {x e:Addr}{o:HO}{t':Nat}(I:Inv X pins σ H s)(mu:PH (H x))(he:e=x\/H e=some (.own x))(k:∀b u,b≠e->s.heap.get? b=some u->h'.get? b=some u)(O5:∃u,h'.get? e=some u)
  (new:cu X.prog X.w (upd H x o) h' x o):Inv X pins σ (upd H x o) {s with heap:=h',toks:=t'}:=I.un (Un.write mu he k O5) (I.hok.write mu he k O5 new)
theorem Inv.AM {JQ:List (Addr×Obj)}(I:Inv X pins σ H s)(h:∀p∈JQ,s.heap.get? p.1=some p.2/\H p.1=none/\p.1≠X.env.locals/\p.1∉X.fs/\∀v,p.2.data≠.cell v):Inv X JQ σ H s:=
 ⟨I.ok,I.os,I.bare,I.base,I.loc,I.cell,I.free,I.mw,fun p hp=>(mem_append.mp hp).elim (fun z=>I.pin p (mem_append_left _ z)) (h p),I.hok,I.len⟩
theorem xY{N:List Str}(hN:N.Nodup){i j:Nat}{x:Str}(a:N[i]?=some x)(b:N[j]?=some x):i=j:=by
 obtain⟨h1,e1⟩:=List.getElem?_eq_some_iff.mp a
 obtain⟨h2,e2⟩:=List.getElem?_eq_some_iff.mp b
 exact(List.getElem_inj hN).mp (e1.trans e2.symm)
theorem Co{M:Model}{A:Around}{E:Value->Shared->Prop}{i:Nat}{x:Str}{v:V}{u:Value}{Q:Unit->Shared->Prop}(I:Inv X pins σ H s)(hN:X.N.Nodup)(hi:X.N[i]?=some x)(hx:Loc X.env.scope x)(r:RelV v u)
  (h:∀s',Inv X pins (σ.set i (some v)) H s'->(∃a,Heap.SameBut a s.heap s'.heap/\(a=X.env.locals\/X.env.cells.lookup x=some a))->Q () s')(hf:X.fn x=true\/X.env.scope.names.lookup x=some .local:=by first|exact .inl rfl|exact .inr rfl|assumption):wpAny M A (storeName X.env x u) Q E s:=by
 obtain⟨m,hn,hl⟩:=id I.loc
 have hcls:(X.env.scope.kind==.class||(X.env.scope.kind==.module&&X.env.locals !=X.env.globals))=false:=by rw[I.ok.kind];rfl
 have XE:i<σ.length:=by rw[I.len];exact(List.getElem?_eq_some_iff.mp hi).1
 have LS:=I.LS
 have tracked:∀{a:Addr}{h':Heap},(∃o,s.heap.get? a=some o/\H a=none)->Heap.SameBut a s.heap h'->nE X.prog X.w H h':=fun{a h'} ha hs b ob e=>by
  obtain⟨_,_,hfree⟩:=ha
  refine(I.hok b ob e).zA (fun c w' hc q=>(hs.2 c ?_).trans q) (fun _ q=>q) fun _ _ q=>q
  rintro rfl
  rcases hc with rfl|hc
  ·rw[hfree]at e;cases e
  ·rw[hfree]at hc;cases hc
 rcases hx with hk|hk
 ·refine wpAny_storeName_local hk hn (fun h' Zu hs=>?_) hcls
  obtain⟨oL,_,_,Zv,_⟩:=id hn
  refine h _ ⟨I.ok,I.os,I.bare,⟨fun b o e n hb hx=>?_,fun b o e n hb hx=>?_,I.base.free,fun b o e hx=>?_,I.base.tups,I.base.wB,I.base.xW⟩,⟨_,Zu,fun j y v' e1 e2 e3=>?_⟩,fun y c e=>?_,I.free,I.mw,fun p hp=>?_,tracked ⟨oL,Zv,I.free⟩ hs,by simpa using I.len⟩ ⟨_,hs,.inl rfl⟩
  ·exact(hs.2 b (ne_of_lt (lt_of_lt_of_le (Heap.lt_size e) I.ok.above))).trans (I.base.keep b o e n hb hx)
  ·obtain⟨sl,e1⟩:=I.base.slot b o e n hb hx
   exact⟨sl,(hs.2 b (ne_of_lt (lt_of_lt_of_le (Heap.lt_size e) I.ok.above))).trans e1⟩
  ·obtain⟨o',e1⟩:=I.base.there b o e hx
   exact⟨o',(hs.2 b (ne_of_lt (lt_of_lt_of_le (Heap.lt_size e) I.ok.above))).trans e1⟩
  ·by_cases hj:j=i
   ·subst hj
    rw[hi]at e1;cases e1
    rw[getElem?_set_self XE]at e2
    cases e2
    exact⟨u,r,.inl ⟨hk,by simp⟩⟩
   ·rw[getElem?_set_ne (Ne.symm hj)]at e2
    obtain⟨u',r',q⟩:=hl j y v' e1 e2 e3
    refine⟨u',r',?_⟩
    rcases q with⟨k,e⟩|⟨k,c,e,z⟩
    ·refine .inl ⟨k,?_⟩
     have:y≠x:=fun e=>hj (xY hN e1 (e▸hi))
     simp[this,e]
    ·exact .inr ⟨k,c,e,z.sameBut hs (LS y c e)⟩
  ·obtain⟨w',z⟩:=I.cell y c e
   exact⟨w',z.sameBut hs (LS y c e)⟩
  ·obtain⟨e,n,ne,nf,d⟩:=I.pin p hp
   exact⟨(hs.2 p.1 ne).trans e,n,ne,nf,d⟩
 ·have hfn:X.fn x=true:=by
   rcases hf with z|z
   ·exact z
   ·rw[z]at hk;cases hk
  obtain⟨c,hc⟩:=I.ok.has x (.inl hk)
  obtain⟨w',z⟩:=I.cell x c hc
  refine wpAny_storeName_cell I.ok.kind hk hc z (fun h' AO hs=>?_)
  obtain⟨oc,hoc,Ug⟩:=id z
  refine h {s with heap:=h'} ⟨I.ok,I.os,I.bare,⟨fun b o e n hb hx=>?_,fun b o e n hb hx=>?_,I.base.free,fun b o e hx=>?_,I.base.tups,I.base.wB,I.base.xW⟩,⟨m,hn.sameBut hs (Ne.symm (LS x c hc)),fun j y v' e1 e2 e3=>?_⟩,fun y c' e=>?_,I.free,I.mw,fun p hp=>?_,tracked ⟨oc,hoc,I.mw x c hc⟩ hs,by simpa using I.len⟩ ⟨c,hs,.inr hc⟩
  ·exact(hs.2 b (ne_of_lt (lt_of_lt_of_le (Heap.lt_size e) (I.ok.LQ x c hfn hc)))).trans (I.base.keep b o e n hb hx)
  ·obtain⟨sl,e1⟩:=I.base.slot b o e n hb hx
   exact⟨sl,(hs.2 b (ne_of_lt (lt_of_lt_of_le (Heap.lt_size e) (I.ok.LQ x c hfn hc)))).trans e1⟩
  ·obtain⟨o',e1⟩:=I.base.there b o e hx
   exact⟨o',(hs.2 b (ne_of_lt (lt_of_lt_of_le (Heap.lt_size e) (I.ok.LQ x c hfn hc)))).trans e1⟩
  ·by_cases hj:j=i
   ·subst hj
    rw[hi]at e1;cases e1
    rw[getElem?_set_self XE]at e2
    cases e2
    exact⟨u,r,.inr ⟨.inl hk,c,hc,AO⟩⟩
   ·rw[getElem?_set_ne (Ne.symm hj)]at e2
    obtain⟨u',r',q⟩:=hl j y v' e1 e2 e3
    refine⟨u',r',?_⟩
    rcases q with q|⟨k,c',e,z'⟩
    ·exact .inl q
    ·refine .inr ⟨k,c',e,z'.sameBut hs ?_⟩
     rintro rfl
     exact hj (xY hN e1 (I.ok.inj _ _ _ e hc▸hi))
  ·by_cases hcc:c'=c
   ·subst hcc;exact⟨_,AO⟩
   ·obtain⟨w2,z2⟩:=I.cell y c' e
    exact⟨w2,z2.sameBut hs hcc⟩
  ·obtain⟨e,n,ne,nf,d⟩:=I.pin p hp
   refine⟨(hs.2 p.1 ?_).trans e,n,ne,nf,d⟩
   intro q
   rw[q,hoc]at e
   have q':oc=p.2:=Option.some.inj e
   exact d w' (by rw[<-q'];exact Ug)
theorem sY{M:Model}{A:Around}{E:Value->Shared->Prop}{i:Nat}{x:Str}{v:V}{u:Value}{Q:Unit->Shared->Prop}(I:Inv X pins σ H s)(hN:X.N.Nodup)(hi:X.N[i]?=some x)(hx:Loc X.env.scope x)(r:RelV v u)
  (h:∀s',Inv X pins (σ.set i (some v)) H s'->Q () s')(hf:X.fn x=true\/X.env.scope.names.lookup x=some .local:=by first|exact .inl rfl|exact .inr rfl|assumption):wpAny M A (storeName X.env x u) Q E s:=
 Co I hN hi hx r (fun s' I' _=>h s' I') hf
theorem Inv.DD {s':Shared}{ch:List Addr}(I:Inv X pins σ H s)(ho:s'.os=s.os)(u:Un (xN X.stack) ch H H' s.heap s'.heap)(hok:nE X.prog X.w H' s'.heap)(hg:AllBare s'.gens)
  (hch:∀b∈ch,(b∈X.ex\/X.s₀.heap.objs.size<=b)/\b≠X.env.locals/\(∀x c,X.env.cells.lookup x=some c->c≠b)/\∀p∈X.pn++pins,p.1≠b):Inv X pins σ H' s':=by
 obtain⟨h',g',d',t',o'⟩:=s'
 have e:o'=s.os:=ho
 subst e
 exact I.call (g':=g') (t':=t') (d':=d') u hok hg hch
end
abbrev XK:=Value->Option Addr->Hp->Prop
abbrev St:=List (Option V)
abbrev VK:=V->Hp->Prop
abbrev TE:=St->Hp->VK->Prop
abbrev TT:=St->Hp->(Bool->Hp->Prop)->Prop
abbrev TA:=St->Hp->(List V->Hp->Prop)->Prop
structure Ends where
 nx:St->Hp->Prop
 rt:VK
 bk:St->Hp->Prop:=fun _ _=>False
 ct:St->Hp->Prop:=fun _ _=>False
abbrev TS:=Ends->St->Hp->Prop
def EP(X:Cx)(pins:List (Addr×Obj))(σ:St)(Q:VK)(u:Value)(s':Shared):Prop:=∃v H',Inv X pins σ H' s'/\RelV v u/\Q v H'
def TP(X:Cx)(pins:List (Addr×Obj))(σ:St)(Q:Bool->Hp->Prop)(b:Bool)(s':Shared):Prop:=∃H',Inv X pins σ H' s'/\Q b H'
def AP(X:Cx)(pins:List (Addr×Obj))(σ:St)(Q:List V->Hp->Prop)(us:List Value)(s':Shared):Prop:=∃vs H',Inv X pins σ H' s'/\Vals vs us/\Q vs H'
def SP(X:Cx)(pins:List (Addr×Obj))(D:Ends)(f:Flow)(s':Shared):Prop:=
 match f with
 |.next=>∃σ' H',Inv X pins σ' H' s'/\D.nx σ' H'
 |.brk=>∃σ' H',Inv X pins σ' H' s'/\D.bk σ' H'
 |.cont=>∃σ' H',Inv X pins σ' H' s'/\D.ct σ' H'
 |.ret u=>∃v σ' H',Inv X pins σ' H' s'/\RelV v u/\D.rt v H'
def PE(X:Cx)(e:Expr)(t:TE):Prop:=
 ∀(pins:List (Addr×Obj))(s:Shared)(σ:St)(H:Hp)(Q:VK),Inv X pins σ H s->t σ H Q->wpAny (model X.prog X.w) X.A (eval e X.env) (EP X pins σ Q) X.xe s
def PT(X:Cx)(e:Expr)(t:TT):Prop:=
 ∀(pins:List (Addr×Obj))(s:Shared)(σ:St)(H:Hp)(Q:Bool->Hp->Prop),Inv X pins σ H s->t σ H Q->wpAny (model X.prog X.w) X.A (isTrue e X.env (eval e X.env)) (TP X pins σ Q) X.xe s
def PW(X:Cx)(e:Expr)(t:TT):Prop:=
 ∀(whole:Sem Value)(pins:List (Addr×Obj))(s:Shared)(σ:St)(H:Hp)(Q:Bool->Hp->Prop),Inv X pins σ H s->t σ H Q->wpAny (model X.prog X.w) X.A (isTrue e X.env whole) (TP X pins σ Q) X.xe s
theorem PW.pt {X:Cx}{e:Expr}{t:TT}(h:PW X e t):PT X e t:=h _
def PA(X:Cx)(es:List Expr)(t:TA):Prop:=
 ∀(pos:Pos)(pins:List (Addr×Obj))(s:Shared)(σ:St)(H:Hp)(Q:List V->Hp->Prop),Inv X pins σ H s->t σ H Q->wpAny (model X.prog X.w) X.A (spliced (backTo pos (starEach es X.env))) (AP X pins σ Q) X.xe s
def PS(X:Cx)(st:Stmt)(t:TS):Prop:=
 ∀(pins:List (Addr×Obj))(s:Shared)(σ:St)(H:Hp)(D:Ends),Inv X pins σ H s->t D σ H->wpAny (model X.prog X.w) X.A (exec st X.env) (SP X pins D) X.xe s
def oN(X:Cx)(st:List Stmt)(t:TS):Prop:=
 ∀(pins:List (Addr×Obj))(s:Shared)(σ:St)(H:Hp)(D:Ends),Inv X pins σ H s->t D σ H->wpAny (model X.prog X.w) X.A (execs st X.env) (SP X pins D) X.xe s
theorem bz{α:Type}{t:Sem α}{Q Q':α->Shared->Prop}{M:Model}{A:Around}{E:Value->Shared->Prop}{s:Shared}(h:wpAny M A t Q E s)(hQ:∀a s,Q a s->Q' a s):wpAny M A t Q' E s:=wpAny_mono h hQ fun _ _ x=>x
end L2
namespace L2
open PySem PySem.Spec PyProof.Rows
section
variable{X:Cx}
def Hu(i:Nat):TE:=fun σ H Q=>∃v,σ[i]?=some (some v)/\Q v H
def tC(v:V):TE:=fun _ H Q=>Q v H
theorem ie{i:Nat}{x:Str}{pos:Pos}(hN:X.N[i]?=some x)(hv:vD X.env.scope x)(hd:(x==("__debug__":Str))=false:=by decide)(hcd:(x==("__classdict__":Str))=false:=by decide):PE X (.Name x pos) (Hu i):=by
 intro pins s σ H Q I h
 obtain⟨v,e,h⟩:=h
 obtain⟨m,hn,hl⟩:=I.loc
 obtain⟨u,r,l⟩:=hl i x v hN e hv
 have fin:EP X pins σ Q u s:=⟨v,H,I,r,h⟩
 rcases l with⟨hk,hm⟩|⟨hk,c,hc,hcell⟩
 ·exact wpAny_Name (wpAny_loadName_local I.ok.kind hk hn hm fin) hd
 ·rcases hk with hk|hk
  ·exact wpAny_Name (wpAny_loadName_cell I.ok.kind hk hc hcell fin) hd
  ·exact wpAny_Name (wpAny_loadName_free I.ok.kind hk hc hcell fin hcd) hd
theorem fE{i j pos}:PE X (.Constant (.int i) j pos) (tC (.int i)):=fun _ _ _ H _ I h=>wpAny_Constant_int ⟨.int i,H,I.tok _,⟨_,rfl⟩,h⟩
theorem PN{b j pos}:PE X (.Constant (.bool b) j pos) (tC (.bl b)):=fun _ _ _ H _ I h=>Constant_bool ⟨.bl b,H,I,rfl,h⟩
theorem DF{j pos}:PE X (.Constant .none j pos) (tC .non):=fun _ _ _ H _ I h=>Constant_none ⟨.non,H,I,rfl,h⟩
def Gl(X:Cx)(x:Str):Prop:=X.env.kindOf x=some .globalImplicit
theorem wG{E:Value->Shared->Prop}{pins:List (Addr×Obj)}{s:Shared}{σ:St}{H:Hp}{x:Str}{u:Value}{pos:Pos}{Q:Value->Shared->Prop}(I:Inv X pins σ H s)(hg:Gl X x)(hm:X.mg x=some u)(h:Q u s)
  (hd:(x==("__debug__":Str))=false:=by decide):wpAny (model X.prog X.w) X.A (eval (.Name x pos) X.env) Q E s:=
 Calls.Name_function_global I.ok.kind hg (Calls.loadGlobal_global (by rw[I.ok.glob];exact I.mod.glob.keeps I.bk) hm h) hd
theorem dN{E:Value->Shared->Prop}{pins:List (Addr×Obj)}{s:Shared}{σ:St}{H:Hp}{x:Str}{u:Value}{pos:Pos}{Q:Value->Shared->Prop}(I:Inv X pins σ H s)(hg:Gl X x)(hm:X.mg x=none)(hv:bootBuiltins x=some u)(h:Q u s)
  (hn:x≠"__name__":=by decide)(hd:(x==("__debug__":Str))=false:=by decide):wpAny (model X.prog X.w) X.A (eval (.Name x pos) X.env) Q E s:=by
 obtain⟨mb,h1,h2⟩:=I.mod.blt
 exact Calls.Name_function_global I.ok.kind hg (Calls.loadGlobal_builtin (by rw[I.ok.glob];exact I.mod.glob.keeps I.bk) hm (by rw[I.ok.blt];exact h1.keeps I.bk) ((h2 x hn).trans hv) h) hd
theorem Hv{x:Str}{v:V}{u:Value}{pos:Pos}(hg:Gl X x)(hm:X.mg x=some u)(r:RelV v u)(hd:(x==("__debug__":Str))=false:=by decide):PE X (.Name x pos) (tC v):=
 fun _ _ _ H _ I h=>wG I hg hm ⟨v,H,I,r,h⟩ hd
theorem Hw{x:Str}{v:V}{u:Value}{pos:Pos}(hg:Gl X x)(hm:X.mg x=none)(hv:bootBuiltins x=some u)(r:RelV v u)(hn:x≠"__name__":=by decide)(hd:(x==("__debug__":Str))=false:=by decide):PE X (.Name x pos) (tC v):=
 fun _ _ _ H _ I h=>dN I hg hm hv ⟨v,H,I,r,h⟩ hn hd
variable{a b:Expr}{ta tb:TE}{pos:Pos}
def PC(X:Cx)(op:CmpOp)(a b:Expr)(t:TE):Prop:=
 ∀(pins:List (Addr×Obj))(s:Shared)(σ:St)(H:Hp)(Q:VK),Inv X pins σ H s->t σ H Q->
  wpAny (model X.prog X.w) X.A (eval a X.env) (fun v s₁=>wpAny (model X.prog X.w) X.A (eval b X.env) (fun u s₂=>wpAny (model X.prog X.w) X.A (compareOp op v u) (EP X pins σ Q) X.xe s₂) X.xe s₁) X.xe s
def tB(t:TE):TT:=fun σ H Q=>t σ H fun x H1=>∃c,x=.bl c/\Q c H1
theorem zB{op:CmpOp}{t:TE}(h:PC X op a b t)(h1:behindInMarks op b=false:=by first|exact PQ _ (by decide) (by decide)|rfl):PT X (.Compare a [op] [b] pos) (tB t):=by
 intro pins s σ H Q I hw
 refine wpAny_isTrue_Compare1 (bz (h pins s σ H _ I hw) fun v s1 h1=>bz h1 fun u s2 h2=>bz h2 fun c s3 ⟨x,H1,I1,r1,q1⟩=>?_) h1
 obtain⟨d,rfl,q⟩:=q1
 cases r1
 exact wpAny_truthy_bool ⟨H1,I1,q⟩
theorem LV{e:Expr}{t:TE}(h:PE X e t)(he:∀whole,isTrue e X.env whole=(do let v<-whole;standAt e.pos;holding [v] (truthy v)):=by intro _;rfl):PT X e (tB t):=by
 intro pins s σ H Q I hw
 refine isTrue_plain (bz (h pins s σ H _ I hw) fun v s1 ⟨x,H1,I1,r1,q1⟩=>?_) (he _)
 obtain⟨d,rfl,q⟩:=q1
 cases r1
 exact wpAny_truthy_bool ⟨H1,I1,q⟩
variable{tA S3:TT}{rest:List Expr}
def Uh(t u:TT):TT:=fun σ H Q=>t σ H fun c H1=>if c=true then u σ H1 Q else Q false H1
def Zw(t u:TT):TT:=fun σ H Q=>t σ H fun c H1=>if c=true then Q true H1 else u σ H1 Q
def Ui(t:TT):TT:=fun σ H Q=>t σ H fun c H1=>Q (!c) H1
theorem pw_and1(ha:PT X a tA):PW X (.BoolOp .And [a] pos) tA:=by
 intro wh pins s σ H Q I h
 refine isTrue_and (bz (ha pins s σ H Q I h) fun c s1 e=>?_)
 cases c with
 |true=>exact isTrue_and_nil e
 |false=>exact e
theorem pw_or1(ha:PT X a tA):PW X (.BoolOp .Or [a] pos) tA:=by
 intro wh pins s σ H Q I h
 refine isTrue_or (bz (ha pins s σ H Q I h) fun c s1 e=>?_)
 cases c with
 |false=>exact isTrue_or_nil e
 |true=>exact e
theorem pw_and(ha:PT X a tA)(hb:PW X (.BoolOp .And (b::rest) pos) S3):PW X (.BoolOp .And (a::b::rest) pos) (Uh tA S3):=by
 intro wh pins s σ H Q I h
 refine isTrue_and (bz (ha pins s σ H _ I h) fun c s1 ⟨H1,I1,q1⟩=>?_)
 cases c with
 |true=>exact hb wh pins s1 σ H1 Q I1 q1
 |false=>exact⟨H1,I1,q1⟩
theorem pw_or(ha:PT X a tA)(hb:PW X (.BoolOp .Or (b::rest) pos) S3):PW X (.BoolOp .Or (a::b::rest) pos) (Zw tA S3):=by
 intro wh pins s σ H Q I h
 refine isTrue_or (bz (ha pins s σ H _ I h) fun c s1 ⟨H1,I1,q1⟩=>?_)
 cases c with
 |true=>exact⟨H1,I1,q1⟩
 |false=>exact hb wh pins s1 σ H1 Q I1 q1
theorem LW(ha:PT X a tA):PT X (.UnaryOp .Not a pos) (Ui tA):=by
 intro pins s σ H Q I h
 exact isTrue_not (ha pins s σ H (fun c H1=>Q (!c) H1) I h)
def PR(ta tb:TE):TE:=fun σ H Q=>ta σ H fun x H1=>∃c,x=.bl c/\if c=true then tb σ H1 Q else Q (.bl false) H1
theorem LX{op}{t:TE}(h:PE X a t):PE X (.BoolOp op [a] pos) t:=fun pins s σ H Q I hw=>BoolOp_one (h pins s σ H Q I hw)
theorem LY(ha:PE X a ta)(hb:PE X (.BoolOp .And (b::rest) pos) tb):PE X (.BoolOp .And (a::b::rest) pos) (PR ta tb):=by
 intro pins s σ H Q I h
 refine BoolOp_and (bz (ha pins s σ H _ I h) fun v s1 ⟨x,H1,I1,r1,q1⟩=>?_)
 obtain⟨c,rfl,q1⟩:=q1
 cases r1
 refine wpAny_truthy_bool ?_
 cases c with
 |true=>exact hb pins s1 σ H1 Q I1 q1
 |false=>exact⟨.bl false,H1,I1,rfl,q1⟩
def Zx(t:TT)(ta tb:TE):TE:=fun σ H Q=>t σ H fun c H1=>if c=true then ta σ H1 Q else tb σ H1 Q
theorem DG{c:Expr}(hc:PT X c tA)(ha:PE X a ta)(hb:PE X b tb):PE X (.IfExp c a b pos) (Zx tA ta tb):=by
 intro pins s σ H Q I h
 refine wpAny_IfExp (bz (hc pins s σ H _ I h) fun d s1 ⟨H1,I1,q1⟩=>?_)
 cases d with
 |true=>exact ha pins s1 σ H1 Q I1 q1
 |false=>exact hb pins s1 σ H1 Q I1 q1
end
end L2
namespace L2
open PySem PySem.Spec PyProof.Rows
def bW(K:PySem.W.Frag)(H:Hp)(a:Addr)(xs:List V):Prop:=
 Rd H a (.lst xs)\/
  ∃(o:Obj)(its:Array Value)(n:Nat),K.lookup a=some o/\o.cls=.type "list"/\o.dict=none/\o.data=.seq its n/\its.size<=sizeLine/\Vals xs its.toList
def xZ(K:PySem.W.Frag)(H:Hp)(a:Addr)(xs:List V):Prop:=
 Rd H a (.tup xs)\/
  ∃(o:Obj)(its:Array Value)(n:Nat),K.lookup a=some o/\o.cls=.type "tuple"/\o.data=.seq its n/\its.size<=sizeLine/\Vals xs its.toList
def Uj:Value->Option V
 |.none=>some .non
 |.bool b=>some (.bl b)
 |.int i _=>some (.int i)
 |.str x _=>some (.str x)
 |.bytes b _=>some (.Dl b)
 |.float b _=>some (.LM b)
 |.ref a=>some (.ref a)
 |.type n=>some (.ty n)
 |_=>none
theorem RelV.abs {x:V}{u:Value}(r:RelV x u):Uj u=some x:=by
 cases x with
 |non=>cases r;rfl
 |bl _=>cases r;rfl
 |int _=>obtain⟨t,rfl⟩:=r;rfl
 |str _=>obtain⟨t,rfl⟩:=r;rfl
 |Dl _=>obtain⟨t,rfl⟩:=r;rfl
 |LM _=>obtain⟨t,rfl⟩:=r;rfl
 |ref _=>cases r;rfl
 |ty _=>cases r;rfl
theorem RelV.inj {x y:V}{u:Value}(r:RelV x u)(q:RelV y u):x=y:=Option.some.inj (r.abs.symm.trans q.abs)
theorem Vals.inj:∀{xs ys:List V}{us:List Value},Vals xs us->Vals ys us->xs=ys
 |_,_,_,.nil,.nil=>rfl
 |_,_,_,.cons r t,.cons r' t'=>by rw[r.inj r',Vals.inj t t']
section
variable{X:Cx}{pins:List (Addr×Obj)}{σ:St}{H:Hp}{s:Shared}{a:Addr}{xs ys:List V}
theorem bW.of {K:PySem.W.Frag}(h:H a=some (.lst xs)):bW K H a xs:=.inl (.inl h)
theorem xZ.of {K:PySem.W.Frag}(h:H a=some (.tup xs)):xZ K H a xs:=.inl (.inl h)
theorem Inv.list (I:Inv X pins σ H s)(h:bW X.K H a xs):∃its:List Value,Vals xs its/\PlainL s.heap a its.toArray/\xs.length<=sizeLine:=by
 rcases h with h|⟨o,its,n,hk,hc,hd,hs,hz,r⟩
 ·obtain⟨z,its,n,r,e⟩:=h.ok I.hok
  exact⟨its,r,⟨_,n,e,rfl,rfl,rfl⟩,z⟩
 ·refine⟨its.toList,r,⟨o,n,I.qt a o hk,hc,hd,by simpa using hs⟩,?_⟩
  have e:=r.length
  simp only [Array.length_toList]at e
  omega
theorem Inv.tuple (I:Inv X pins σ H s)(h:xZ X.K H a xs):∃its:List Value,Vals xs its/\IsTup s.heap a its.toArray/\xs.length<=sizeLine:=by
 rcases h with h|⟨o,its,n,hk,hc,hs,hz,r⟩
 ·obtain⟨z,its,r,p⟩:=h.ok I.hok
  exact⟨its,r,p,z⟩
 ·refine⟨its.toList,r,⟨o,I.qt a o hk,hc,n,by simpa using hs⟩,?_⟩
  have e:=r.length
  simp only [Array.length_toList]at e
  omega
theorem Inv.o9 (I:Inv X pins σ H s)(h:bW X.K H a xs)(h':bW X.K H a ys):xs=ys:=by
 obtain⟨its,r,⟨o,n,e,_,_,d⟩,_⟩:=I.list h
 obtain⟨its',r',⟨o',n',e',_,_,d'⟩,_⟩:=I.list h'
 rw[e]at e';cases e'
 rw[d]at d'
 injection d' with d1 _
 have:its=its':=by simpa using congrArg toList d1
 subst this
 exact r.inj r'
theorem Inv.Cp (I:Inv X pins σ H s)(h:xZ X.K H a xs)(h':xZ X.K H a ys):xs=ys:=by
 obtain⟨its,r,⟨o,e,_,n,d⟩,_⟩:=I.tuple h
 obtain⟨its',r',⟨o',e',_,n',d'⟩,_⟩:=I.tuple h'
 rw[e]at e';cases e'
 rw[d]at d'
 injection d' with d1 _
 have:its=its':=by simpa using congrArg toList d1
 subst this
 exact r.inj r'
end
abbrev Cx.uX (X:Cx)(E:Value->Shared->Prop):Cx:={X with xe:=E}
abbrev Cx.Dm (X:Cx):Cx:=X.uX fun _ _=>False
theorem Cx.Ok.uX {X:Cx}(ok:X.Ok)(E:Value->Shared->Prop):(X.uX E).Ok:=
 ⟨ok.mod,ok.kind,ok.glob,ok.blt,ok.above,ok.inj,ok.has,ok.LQ,ok.hd,ok.frames,ok.O6,ok.LR,ok.bs,ok.Cn,ok.xX,ok.wD,ok.o8,ok.Hs⟩
theorem Cx.Ok.mx {X:Cx}{E:Value->Shared->Prop}(ok:(X.uX E).Ok):X.Ok:=
 ⟨ok.mod,ok.kind,ok.glob,ok.blt,ok.above,ok.inj,ok.has,ok.LQ,ok.hd,ok.frames,ok.O6,ok.LR,ok.bs,ok.Cn,ok.xX,ok.wD,ok.o8,ok.Hs⟩
section
variable{X:Cx}{pins:List (Addr×Obj)}{σ:St}{H:Hp}{s:Shared}{E:Value->Shared->Prop}
theorem Inv.uX (I:Inv X pins σ H s)(E:Value->Shared->Prop):Inv (X.uX E) pins σ H s:=⟨I.ok.uX E,I.os,I.bare,I.base,I.loc,I.cell,I.free,I.mw,I.pin,I.hok,I.len⟩
theorem Inv.mx (I:Inv (X.uX E) pins σ H s):Inv X pins σ H s:=⟨I.ok.mx,I.os,I.bare,I.base,I.loc,I.cell,I.free,I.mw,I.pin,I.hok,I.len⟩
theorem SP.mx {D:Ends}{f:Flow}{s':Shared}(h:SP (X.uX E) pins D f s'):SP X pins D f s':=by
 cases f with
 |next=>obtain⟨σ',H',I,q⟩:=h;exact⟨σ',H',I.mx,q⟩
 |brk=>obtain⟨σ',H',I,q⟩:=h;exact⟨σ',H',I.mx,q⟩
 |cont=>obtain⟨σ',H',I,q⟩:=h;exact⟨σ',H',I.mx,q⟩
 |ret u=>obtain⟨v,σ',H',I,r,q⟩:=h;exact⟨v,σ',H',I.mx,r,q⟩
theorem oN.Dm {st:List Stmt}{t:TS}(h:oN X.Dm st t):oN X st t:=fun pins s σ H D I hw=>
 wpAny_mono (h pins s σ H D (I.uX _) hw) (fun _ _ q=>q.mx) fun _ _ z=>False.elim z
end
section
variable{X:Cx}{st:Stmt}{rest:List Stmt}{t u:TS}{e:Expr}{te:TE}{pos:Pos}
def PU:TS:=fun D σ H=>D.nx σ H
def Uk(t u:TS):TS:=fun D σ H=>t {D with nx:=u D} σ H
theorem jF:oN X [] PU:=fun _ _ σ H _ I h=>wpAny_execs_nil ⟨σ,H,I,h⟩
theorem az(h1:PS X st t)(h2:oN X rest u):oN X (st::rest) (Uk t u):=by
 intro pins s σ H D I h
 refine wpAny_execs_cons (bz (h1 pins s σ H {D with nx:=u D} I h) fun f s1 q=>?_)
 cases f with
 |next=>
  obtain⟨σ',H',I',q⟩:=q
  exact h2 pins s1 σ' H' D I' q
 |ret v=>exact q
 |brk=>exact q
 |cont=>exact q
theorem bA(h1:PS X st t):oN X [st] t:=by
 intro pins s σ H D I h
 refine wpAny_execs_cons (bz (h1 pins s σ H D I h) fun f s1 q=>?_)
 cases f with
 |next=>exact wpAny_execs_nil q
 |ret v=>exact q
 |brk=>exact q
 |cont=>exact q
def LZ:TS:=fun D σ H=>D.bk σ H
theorem DH:PS X (.Break pos) LZ:=fun _ _ σ H _ I h=>wpAny_Break ⟨σ,H,I,h⟩
theorem Inv.quiet {pins:List (Addr×Obj)}{σ:St}{H:Hp}{s:Shared}(I:Inv X pins σ H s):interactive X.env=false:=by simp[interactive,I.ok.kind]
def PV(te:TE):TS:=fun D σ H=>te σ H fun _ H1=>D.nx σ H1
theorem fG(he:PE X e te)(hs:swapsWith e none pos.line X.env=pure false:=by rfl):PS X (.Expr e pos) (PV te):=by
 intro pins s σ H D I h
 exact wpAny_Expr_any (bz (he pins s σ H _ I h) fun v s1 ⟨x,H1,I1,r1,q1⟩=>⟨σ,H1,I1,q1⟩) I.quiet hs
def Ul(te:TE):TS:=fun D σ H=>te σ H D.rt
theorem j0(he:PE X e te):PS X (.Return (some e) pos) (Ul te):=by
 intro pins s σ H D I h
 exact wpAny_Return_some (bz (he pins s σ H _ I h) fun v s1 ⟨x,H1,I1,r1,q1⟩=>⟨x,σ,H1,I1,r1,q1⟩)
def Um(c:TT)(t u:TS):TS:=fun D σ H=>c σ H fun b H1=>if b=true then t D σ H1 else u D σ H1
theorem rE{c:Expr}{a b:List Stmt}{tc:TT}(hc:PT X c tc)(ha:oN X a t)(hb:oN X b u):PS X (.If c a b pos) (Um tc t u):=by
 intro pins s σ H D I h
 refine wpAny_If (bz (hc pins s σ H _ I h) fun d s1 ⟨H1,I1,q1⟩=>?_)
 cases d with
 |true=>exact ha pins s1 σ H1 D I1 q1
 |false=>exact hb pins s1 σ H1 D I1 q1
end
abbrev TG:=V->St->Hp->(St->Hp->Prop)->Prop
abbrev Hz:=List V->St->Hp->(St->Hp->Prop)->Prop
def PG(X:Cx)(target:Expr)(t:TG):Prop:=
 ∀(pins:List (Addr×Obj))(s:Shared)(σ:St)(H:Hp)(v:V)(u:Value)(Q:St->Hp->Prop),Inv X pins σ H s->RelV v u->t v σ H Q->
  wpAny (model X.prog X.w) X.A (assign target X.env u) (fun _ s'=>∃σ' H',Inv X pins σ' H' s'/\Q σ' H') X.xe s
def AQ(X:Cx)(ts:List Expr)(t:Hz):Prop:=
 ∀(pins:List (Addr×Obj))(s:Shared)(σ:St)(H:Hp)(vs:List V)(us:List Value)(Q:St->Hp->Prop),Inv X pins σ H s->Vals vs us->t vs σ H Q->
  wpAny (model X.prog X.w) X.A (assignInOrder ((assignEach ts X.env).map (·.2)) us) (fun _ s'=>∃σ' H',Inv X pins σ' H' s'/\Q σ' H') X.xe s
abbrev L4:=V->V->V->Hp->(Hp->Prop)->Prop
def PX(X:Cx)(t:L4):Prop:=
 ∀(pins:List (Addr×Obj))(s:Shared)(σ:St)(H:Hp)(o i v:V)(ov iv u:Value)(Q:Hp->Prop),Inv X pins σ H s->RelV o ov->RelV i iv->RelV v u->t o i v H Q->
  wpAny (model X.prog X.w) X.A (setItem ov iv u) (fun _ s'=>∃H',Inv X pins σ H' s'/\Q H') X.xe s
abbrev S4:=V->V->Hp->VK->Prop
def O7(X:Cx)(op:Operator)(t:S4):Prop:=
 ∀(pins:List (Addr×Obj))(s:Shared)(σ:St)(H:Hp)(x y:V)(v u:Value)(Q:VK),Inv X pins σ H s->RelV x v->RelV y u->t x y H Q->
  wpAny (model X.prog X.w) X.A (inplaceOp op v u) (EP X pins σ Q) X.xe s
section
variable{X:Cx}{pos:Pos}
def DI(i:Nat):TG:=fun v σ H Q=>Q (σ.set i (some v)) H
theorem wH{i:Nat}{x:Str}(hN:X.N.Nodup)(hi:X.N[i]?=some x)(hx:Loc X.env.scope x)(hf:X.fn x=true\/X.env.scope.names.lookup x=some .local:=by first|exact .inl rfl|exact .inr rfl|assumption):PG X (.Name x pos) (DI i):=by
 intro pins s σ H v u Q I r h
 exact wpAny_assign_Name (sY I hN hi hx r (fun s' I'=>⟨_,H,I',h⟩) hf)
def Uo:Hz:=fun vs σ H Q=>vs=[]/\Q σ H
def PY(t:TG)(u:Hz):Hz:=fun vs σ H Q=>∃v r,vs=v::r/\t v σ H fun σ' H'=>u r σ' H' Q
theorem HA:AQ X [] Uo:=by
 intro pins s σ H vs us Q I r h
 obtain⟨e,h⟩:=h
 subst e
 cases r
 exact assignInOrder_nil ⟨σ,H,I,h⟩
theorem DJ{e:Expr}{es:List Expr}{t:TG}{u:Hz}(h1:PG X e t)(h2:AQ X es u)
  (hs:(assignEach (e::es) X.env).map (·.2)=assign e X.env::(assignEach es X.env).map (·.2):=by rfl):AQ X (e::es) (PY t u):=by
 intro pins s σ H vs us Q I r h
 obtain⟨v,vr,e1,h⟩:=h
 subst e1
 cases r with
 |cons r rr=>
  rw[hs]
  refine assignInOrder_cons (bz (h1 pins s σ H _ _ _ I r h) fun _ s1 ⟨σ1,H1,I1,q1⟩=>?_)
  exact h2 pins s1 σ1 H1 _ _ Q I1 rr q1
def Up(K:PySem.W.Frag)(n:Nat)(t:Hz):TG:=fun v σ H Q=>∃a xs,v=.ref a/\xZ K H a xs/\xs.length=n/\t xs σ H Q
theorem L5{es:List Expr}{k:Nat}{t:Hz}{n:Nat}(hc:X.calm=true)(h:AQ X es t)
  (hn:(assignEach es X.env).length=n:=by rfl)(hst:(assignEach es X.env).findIdx? (·.1)=none:=by rfl):PG X (.Tuple es k pos) (Up X.K n t):=by
 intro pins s σ H v u Q I r hw
 obtain⟨a,xs,e1,hq,hl,hw⟩:=hw
 subst e1
 cases r
 obtain⟨its,rv,ht,hz⟩:=I.tuple hq
 refine assign_Tuple_tuple (I.ok.hd hc) ht (by simp[hn,<-hl,rv.length]) hst fun h' hx=>?_
 have I1:Inv X pins σ H {s with heap:=h'}:=I.kept (t':=s.toks) fun b o e=>hx b o (ne_of_lt (Heap.lt_size e)) e
 exact h pins _ σ H xs _ Q I1 (by simpa using rv) hw
def Uq(to ti:TE)(t:L4):TG:=fun v σ H Q=>to σ H fun o H1=>ti σ H1 fun i H2=>t o i v H2 fun H3=>Q σ H3
theorem zC{o i:Expr}{to ti:TE}{t:L4}(ho:PE X o to)(hi:PE X i ti)(hs:PX X t)
  (ha:∀v,assign (.Subscript o i pos) X.env v=(do
   let ov<-holding [v] (eval o X.env)
   let iv<-holding [v,ov] (eval i X.env)
   standAt pos
   holding [v,ov,iv] (setItem ov iv v)
   release [v,ov,iv] []):=by intro _;rfl):PG X (.Subscript o i pos) (Uq to ti t):=by
 intro pins s σ H v u Q I r h
 rw[ha]
 refine wpAny_bind (wpAny_holding (bz (ho pins s σ H _ I h) fun ov s1 ⟨x,H1,I1,r1,q1⟩=>?_))
 refine wpAny_bind (wpAny_holding (bz (hi pins s1 σ H1 _ I1 q1) fun iv s2 ⟨y,H2,I2,r2,q2⟩=>?_))
 refine wpAny_bind (wpAny_standAt (wpAny_bind (wpAny_holding (bz (hs pins s2 σ H2 x y v ov iv u _ I2 r1 r2 r q2) fun _ s3 ⟨H3,I3,q3⟩=>?_))))
 exact wpAny_release ⟨σ,H3,I3,q3⟩
def PZ(te:TE)(g:TG):TS:=fun D σ H=>te σ H fun x H1=>g x σ H1 D.nx
theorem zD{tg e:Expr}{te:TE}{g:TG}(he:PE X e te)(hg:PG X tg g)(hs:swapsWithSole [tg] e pos.line X.env=pure false:=by rfl)(hw:swappedStores [tg] e X.env=pure none:=by rfl)
  (h1:(assignEach [tg] X.env).map (·.2)=[assign tg X.env]:=by rfl):PS X (.Assign [tg] e pos) (PZ te g):=by
 intro pins s σ H D I h
 refine wpAny_Assign_stores (bz (he pins s σ H _ I h) fun v s1 ⟨x,H1,I1,r1,q1⟩=>?_) hs hw
 rw[h1]
 exact bz (hg pins s1 σ H1 x v _ I1 r1 q1) fun _ s2 q=>q
theorem cz{i:Nat}{x:Str}{e:Expr}{te:TE}{pos':Pos}(hN:X.N.Nodup)(hi:X.N[i]?=some x)(hx:Loc X.env.scope x)(he:PE X e te)(hs:swapsWith e (some (.Name x pos')) pos.line X.env=pure false:=by rfl)(hf:X.fn x=true\/X.env.scope.names.lookup x=some .local:=by first|exact .inl rfl|exact .inr rfl|assumption):
  PS X (.Assign [.Name x pos'] e pos) (PZ te (DI i)):=by
 intro pins s σ H D I h
 refine wpAny_Assign_Name (bz (he pins s σ H _ I h) fun v s1 ⟨y,H1,I1,r1,q1⟩=>?_) hs
 exact sY I1 hN hi hx r1 (fun s2 I2=>⟨_,H1,I2,q1⟩) hf
def Ur(i:Nat)(te:TE)(ti:S4):TS:=fun D σ H=>∃x,σ[i]?=some (some x)/\te σ H fun y H1=>ti x y H1 fun z H2=>D.nx (σ.set i (some z)) H2
theorem zE{i:Nat}{x:Str}{e:Expr}{te:TE}{op:Operator}{ti:S4}{pos':Pos}(hN:X.N.Nodup)(hi:X.N[i]?=some x)(hx:Loc X.env.scope x)(he:PE X e te)(ho:O7 X op ti)(hf:X.fn x=true\/X.env.scope.names.lookup x=some .local:=by first|exact .inl rfl|exact .inr rfl|assumption):
  PS X (.AugAssign (.Name x pos') op e pos) (Ur i te ti):=by
 intro pins s σ H D I h
 obtain⟨v,e1,h⟩:=h
 obtain⟨m,hn,hl⟩:=I.loc
 have Zy:vD X.env.scope x:=by rcases hx with k|k;exact .inl k;exact .inr (.inl k)
 obtain⟨u,r,l⟩:=hl i x v hi e1 Zy
 refine wpAny_AugAssign_Name ?_
 have go:wpAny (model X.prog X.w) X.A (eval e X.env) (fun w s₂=>wpAny (model X.prog X.w) X.A (inplaceOp op u w) (fun r s₃=>wpAny (model X.prog X.w) X.A (storeName X.env x r) (fun _=>SP X pins D .next) X.xe s₃) X.xe s₂) X.xe s:=by
  refine bz (he pins s σ H _ I h) fun w s1 ⟨y,H1,I1,r1,q1⟩=>?_
  refine bz (ho pins s1 σ H1 v y u w _ I1 r r1 q1) fun z s2 ⟨zv,H2,I2,r2,q2⟩=>?_
  exact sY I2 hN hi hx r2 (fun s3 I3=>⟨_,H2,I3,q2⟩) hf
 rcases l with⟨hk,hm⟩|⟨hk,c,hc,hcell⟩
 ·exact wpAny_loadName_local I.ok.kind hk hn hm go
 ·rcases hk with hk|hk
  ·exact wpAny_loadName_cell I.ok.kind hk hc hcell go
  ·rcases hx with k|k
   ·have:X.env.scope.names.lookup x=some .free:=hk
    rw[k]at this;cases this
   ·have:X.env.scope.names.lookup x=some .free:=hk
    rw[k]at this;cases this
def P1(f:Int->Int->Int):S4:=fun x y H Q=>∃i j,x=.int i/\y=.int j/\Q (.int (f i j)) H
theorem DK:O7 X .Add (P1 fun i j=>i+j):=by
 intro pins s σ H x y v u Q I r1 r2 h
 obtain⟨i,j,e1,e2,q⟩:=h
 subst e1;subst e2
 obtain⟨t,rfl⟩:=r1
 obtain⟨t',rfl⟩:=r2
 exact iadd_int ⟨.int _,H,I.tok _,⟨_,rfl⟩,q⟩
theorem L6:O7 X .Sub (P1 fun i j=>i-j):=by
 intro pins s σ H x y v u Q I r1 r2 h
 obtain⟨i,j,e1,e2,q⟩:=h
 subst e1;subst e2
 obtain⟨t,rfl⟩:=r1
 obtain⟨t',rfl⟩:=r2
 exact isub_int ⟨.int _,H,I.tok _,⟨_,rfl⟩,q⟩
end
section
variable{X:Cx}{pos:Pos}
def L7(c:TT)(tb:TS):TS:=fun D σ H=>∃W:Nat->St->Hp->Prop,(∃m,W m σ H)/\∀m σ H,W m σ H->
 c σ H fun b H1=>if b=true then∃N:St->Hp->Prop,(∀σ' H',N σ' H'->∃m',m'<m/\W m' σ' H')/\tb {D with nx:=N,ct:=N,bk:=D.nx} σ H1 else D.nx σ H1
theorem sZ{c:Expr}{body:List Stmt}{tc:TT}{tb:TS}(hp:PassesOwn (model X.prog X.w) X.A X.env X.xe)(hc:PT X c tc)(hb:oN X body tb):PS X (.While c body [] pos) (L7 tc tb):=by
 intro pins s σ H D I h
 obtain⟨W,⟨m0,w0⟩,turn⟩:=h
 refine wpAny_While (codeAny_whileLoop (fun n s'=>∃σ' H',Inv X pins σ' H' s'/\W n σ' H') ?_ m0 ⟨σ,H,I,w0⟩)
 rintro n s1 ⟨σ1,H1,I1,w1⟩
 refine wpAny_passesOwn hp (bz (hc pins s1 σ1 H1 _ I1 (turn n σ1 H1 w1)) fun b s2 ⟨H2,I2,q2⟩=>?_)
 cases b with
 |true=>
  obtain⟨N,hN,q2⟩:=q2
  rw[if_pos rfl]
  refine wpAny_passesOwn hp (bz (hb pins s2 σ1 H2 _ I2 q2) fun f s3 q3=>?_)
  cases f with
  |next=>
   obtain⟨σ3,H3,I3,n3⟩:=q3
   obtain⟨m',hm,w3⟩:=hN σ3 H3 n3
   exact⟨m',hm,σ3,H3,I3,w3⟩
  |cont=>
   obtain⟨σ3,H3,I3,n3⟩:=q3
   obtain⟨m',hm,w3⟩:=hN σ3 H3 n3
   exact⟨m',hm,σ3,H3,I3,w3⟩
  |brk=>exact q3
  |ret v=>exact q3
 |false=>
  rw[if_neg Bool.false_ne_true]
  exact wpAny_execs_nil ⟨σ1,H2,I2,q2⟩
end
structure It where
 go:Nat->Hp->Prop
 P4:Nat->Hp->V->Hp->Prop
 stop:Nat->Hp->Prop
def jE(X:Cx)(pins:List (Addr×Obj))(H:Hp)(b:Addr):Prop:=
 H b=none/\b≠X.env.locals/\b∉X.fs/\(b∈X.ex\/X.s₀.heap.objs.size<=b)/\(∀x c,X.env.cells.lookup x=some c->c≠b)/\∀p∈X.pn++pins,p.1≠b
theorem Inv.zF {X:Cx}{pins:List (Addr×Obj)}{σ:St}{H H':Hp}{s:Shared}{b:Addr}(I:Inv X pins σ H s)(hb:s.heap.objs.size<=b)(hn:H' b=none):jE X pins H' b:=by
 refine⟨hn,ne_of_gt (lt_of_lt_of_le I.lt hb),I.Uc hb,.inr (le_trans I.sz hb),fun x c e z=>?_,fun p hp z=>?_⟩
 ·obtain⟨v,q⟩:=I.cell x c e
  exact absurd (lt_of_lt_of_le q.lt (by rw[z];exact hb)) (Nat.lt_irrefl _)
 ·exact absurd (lt_of_lt_of_le (Heap.lt_size (I.pin p hp).1) (by rw[z];exact hb)) (Nat.lt_irrefl _)
structure Turn(P:Program)(w:World)(K:PySem.W.Frag)(tg:Expr)(J:It)(fp:List Addr)(it:Addr)(tn:Nat->Heap->Prop):Prop where
 mem:it∈fp
 obj:∀i h,tn i h->∀b∈fp,∃o,h.get? b=some o/\∀v,o.data≠.cell v
 keep:∀i h h',tn i h->(∀b∈fp,∀o,h.get? b=some o->h'.get? b=some o)->tn i h'
 item:∀(X:Cx),X.prog=P->X.w=w->X.K=K->X.calm=true->∀(i:Nat)(pins:List (Addr×Obj))(s:Shared)(σ:St)(H:Hp)(E:Value->Shared->Prop),Inv X pins σ H s->(∀b∈fp,jE X pins H b)->tn i s.heap->J.go i H->
  wpAny (model P w) X.A (pyNext (.ref it)) (fun r s1=>∃u,r=some u/\
   wpAny (model P w) X.A (letOwnedTupleGo tg (.ref it) u) (fun _ s2=>∃x H',Inv X pins σ H' s2/\RelV x u/\J.P4 i H x H'/\tn (i+1) s2.heap/\∀b∈fp,H' b=none) E s1) E s
 done:∀(X:Cx),X.prog=P->X.w=w->X.K=K->X.calm=true->∀(i:Nat)(pins:List (Addr×Obj))(s:Shared)(σ:St)(H:Hp)(E:Value->Shared->Prop),Inv X pins σ H s->(∀b∈fp,jE X pins H b)->tn i s.heap->J.stop i H->
  wpAny (model P w) X.A (pyNext (.ref it)) (fun r s1=>r=none/\Inv X pins σ H s1) E s
 self:∀(A:Around)(i:Nat)(s:Shared)(Q:Value->Shared->Prop)(E:Value->Shared->Prop),tn i s.heap->Q (.ref it) s->wpAny (model P w) A (pyIter (.ref it)) Q E s
abbrev TI:=St->Hp->(It->Hp->Prop)->Prop
def XF(X:Cx)(pins:List (Addr×Obj))(σ:St)(tg:Expr)(R:It->Hp->Prop)(itv:Value)(s2:Shared):Prop:=
 ∃(it:Addr)(fp:List Addr)(tn:Nat->Heap->Prop)(J:It)(H':Hp),itv=.ref it/\Inv X pins σ H' s2/\Turn X.prog X.w X.K tg J fp it tn/\tn 0 s2.heap/\(∀b∈fp,jE X pins H' b)/\R J H'
def PI(X:Cx)(tg iter:Expr)(wi:TI):Prop:=
 ∀(pins:List (Addr×Obj))(s:Shared)(σ:St)(H:Hp)(R:It->Hp->Prop),Inv X pins σ H s->wi σ H R->
  wpAny (model X.prog X.w) X.A (eval iter X.env) (fun v s1=>wpAny (model X.prog X.w) X.A (pyIter v) (XF X pins σ tg R) X.xe s1) X.xe s
theorem DM{M:Model}{A:Around}{E:Value->Shared->Prop}{s:Shared}{tg:Expr}{it:Addr}{u:Value}{o:Obj}{n:String}{vs:Array Value}{Q:Unit->Shared->Prop}(ho:s.heap.get? it=some o)(hc:o.cls=.type n)(hd:o.data=.fields vs)
  (hn:["enumerate","zip","dict_itemiterator","dict_reverseitemiterator","odict_iterator","itertools.zip_longest","itertools.pairwise"].contains n=false)(hQ:Q () s):wpAny M A (letOwnedTupleGo tg (.ref it) u) Q E s:=by
 unfold letOwnedTupleGo
 cases tg<;>first
  |exact wpAny_pure hQ
  |(cases u<;>first
    |exact wpAny_pure hQ
    |(refine wpAny_bind (wpAny_load ho ?_)
      rw[hc,hd]
      show wpAny M A (if(["enumerate","zip","dict_itemiterator","dict_reverseitemiterator","odict_iterator","itertools.zip_longest","itertools.pairwise"].contains n&&vs[0]?==some (rawInt _))=true then _ else _) Q E s
      rw[if_neg (by intro h;rw[hn,Bool.false_and]at h;cases h)]
      exact wpAny_pure hQ))
def L8(K:PySem.W.Frag)(a:Addr):It:=
 ⟨fun i H=>∃xs x,bW K H a xs/\xs[i]?=some x,fun i H x H'=>H'=H/\∀xs,bW K H a xs->xs[i]?=some x,fun i H=>∃xs,bW K H a xs/\xs.length<=i⟩
def P5(lo:Int)(n:Nat):It:=⟨fun i _=>i<n,fun i H x H'=>H'=H/\x=.int (lo+i),fun i _=>n<=i⟩
theorem Cq{P:Program}{w:World}{K:PySem.W.Frag}{tg:Expr}(a it:Addr):Turn P w K tg (L8 K a) [it] it (fun i h=>h.IsListIter it a i) where
 mem:=by simp
 obj:=fun i h st b hb=>by
  have e:b=it:=by simpa using hb
  subst e
  obtain⟨o,e,c,d⟩:=st
  exact⟨o,e,fun v z=>by rw[d]at z;cases z⟩
 keep:=fun i h h' st k=>st.at fun o e=>k it (by simp) o e
 item:=by
  intro X hP hw hK hc i pins s σ H E I hf st hg
  subst hP hw hK
  obtain⟨xs,x,hq,hx⟩:=hg
  obtain⟨its,rv,p,hz⟩:=I.list hq
  obtain⟨u,hu,ru⟩:=rv.get hx
  obtain⟨f0,f1,f2,f3,f4,f5⟩:=hf it (by simp)
  refine wpAny_pyNext_list_item st p.isList (x:=u) (by simpa using hu) fun h' HB sb=>?_
  have I1:Inv X pins σ H {s with heap:=h'}:=I.turned (t':=s.toks) (fun b o hb e=>(sb.2 b hb).trans e) f0 f1 f3 f4 f5
  obtain⟨o,e,c,d⟩:=id HB
  exact⟨u,rfl,DM (s:={s with heap:=h'}) e c d (by decide) ⟨x,H,I1,ru,⟨rfl,fun ys hy=>by rw[I.o9 hy hq];exact hx⟩,HB,fun b hb=>(hf b hb).1⟩⟩
 done:=by
  intro X hP hw hK hc i pins s σ H E I hf st hg
  subst hP hw hK
  obtain⟨xs,hq,hx⟩:=hg
  obtain⟨its,rv,p,hz⟩:=I.list hq
  obtain⟨f0,f1,f2,f3,f4,f5⟩:=hf it (by simp)
  have hl:=rv.length
  exact wpAny_pyNext_list_end (I.ok.hd hc) st p.isList (by simp;omega) fun h' eb=>⟨rfl,I.turned (t':=s.toks) (fun b o hb e=>eb b o hb e) f0 f1 f3 f4 f5⟩
 self:=fun _ _ _ _ _ st h=>wpAny_pyIter_listiter st h
theorem zG{P:Program}{w:World}{K:PySem.W.Frag}{tg:Expr}(it:Addr)(lo:Int)(n:Nat):Turn P w K tg (P5 lo n) [it] it (fun i h=>IsRangeIter h it (lo+(i:Nat)*1) ((n:Int)-(i:Nat)) 1) where
 mem:=by simp
 obj:=fun i h st b hb=>by
  have e:b=it:=by simpa using hb
  subst e
  exact⟨_,st,fun v z=>by
   have z':Data.fields _=Data.cell v:=z
   cases z'⟩
 keep:=fun i h h' st k=>k it (by simp) _ st
 item:=by
  intro X hP hw hK hc i pins s σ H E I hf st hg
  subst hP hw hK
  obtain⟨f0,f1,f2,f3,f4,f5⟩:=hf it (by simp)
  have W:=Walks.range (prog:=X.prog) (w:=X.w) (I.ok.hd hc) it lo 1 n
  refine W.item i s _ _ hg st fun v h' tk hv HB kk=>?_
  obtain⟨t,rfl⟩:=hv
  have I1:Inv X pins σ H {s with heap:=h',toks:=tk}:=I.turned (fun b o hb e=>kk b o (by simpa using hb) e) f0 f1 f3 f4 f5
  refine⟨_,rfl,DM (s:={s with heap:=h',toks:=tk}) (n:="range_iterator") HB rfl rfl (by decide) ⟨.int (lo+i),H,I1,⟨t,?_⟩,⟨rfl,rfl⟩,HB,fun b hb=>(hf b hb).1⟩⟩
  rw[Int.mul_one]
 done:=by
  intro X hP hw hK hc i pins s σ H E I hf st hg
  subst hP hw hK
  obtain⟨f0,f1,f2,f3,f4,f5⟩:=hf it (by simp)
  exact wpAny_pyNext_range_end (I.ok.hd hc) st (by have:n<=i:=hg;omega) fun h' eb=>⟨rfl,I.turned (t':=s.toks) (fun b o hb e=>eb b o hb e) f0 f1 f3 f4 f5⟩
 self:=fun _ _ _ _ _ st h=>wpAny_pyIter_rangeiter st h
end L2
namespace L2
open PySem PySem.Spec PyProof.Rows
section
variable{X:Cx}{tg:Expr}
def DN(K:PySem.W.Frag)(tl:TE):TI:=fun σ H R=>tl σ H fun x H1=>∃a,x=.ref a/\(∃xs,bW K H1 a xs)/\R (L8 K a) H1
theorem sE{l:Expr}{tl:TE}(hl:PE X l tl):PI X tg l (DN X.K tl):=by
 intro pins s σ H R I h
 refine bz (hl pins s σ H _ I h) fun v s1 ⟨x,H1,I1,r1,q1⟩=>?_
 obtain⟨a,e,⟨xs,hq⟩,q⟩:=q1
 subst e
 cases r1
 obtain⟨its,rv,p,hz⟩:=I1.list hq
 refine wpAny_pyIter_list p.isList ?_
 refine⟨s1.heap.objs.size,[s1.heap.objs.size],_,_,H1,rfl,I1.kept (t':=s1.toks) fun b o e=>Heap.get?_push_of_some _ e,Cq a _,⟨_,Heap.get?_push_size _ rfl,rfl,rfl⟩,fun b hb=>?_,q⟩
 have e:b=s1.heap.objs.size:=by simpa using hb
 subst e
 exact I1.zF (Nat.le_refl _) (I1.hok.fresh (Nat.le_refl _))
theorem x5{pins:List (Addr×Obj)}{σ:St}{H:Hp}{s:Shared}{R:It->Hp->Prop}{E:Value->Shared->Prop}{lo hi:Int}{t u v:Tok}{tk:Nat}(I:Inv X pins σ H s)(h1: -(2^62)<=lo)(h2:lo<2^62)(h3: -(2^62)<=hi)(h4:hi<2^62)
  (q:R (P5 lo (hi-lo).toNat) H):wpAny (model X.prog X.w) X.A (pyIter (.ref s.heap.objs.size)) (XF X pins σ tg R) E {s with heap:=s.heap.push {cls:=.type "range",data:=.fields #[.int lo t,.int hi u,.int 1 v]},toks:=tk}:=by
 refine wpAny_pyIter_range (IsRange.new ..) (small_one h1 h2 h3 h4) ?_
 have I1:Inv X pins σ H {s with heap:=s.heap.push {cls:=.type "range",data:=.fields #[.int lo t,.int hi u,.int 1 v]},toks:=tk}:=I.kept fun b o e=>Heap.get?_push_of_some _ e
 refine⟨(s.heap.push {cls:=.type "range",data:=.fields #[.int lo t,.int hi u,.int 1 v]}).objs.size,[(s.heap.push {cls:=.type "range",data:=.fields #[.int lo t,.int hi u,.int 1 v]}).objs.size],_,_,H,rfl,
  I1.kept (t':=tk) fun b o e=>Heap.get?_push_of_some _ e,zG _ lo (hi-lo).toNat,?_,fun b hb=>?_,q⟩
 ·have e1:lo+((0:Nat):Int)*1=lo:=by simp
  have e2:(((hi-lo).toNat:Nat):Int)-((0:Nat):Int)=Builtin.Range.rangeSize lo hi 1:=by rw[rangeSize_one];split<;>omega
  show IsRangeIter _ _ (lo+((0:Nat):Int)*1) ((((hi-lo).toNat:Nat):Int)-((0:Nat):Int)) 1
  rw[e1,e2]
  exact Heap.get?_push_size _ rfl
 ·have e:b=(s.heap.push {cls:=.type "range",data:=.fields #[.int lo t,.int hi u,.int 1 v]}).objs.size:=by simpa using hb
  subst e
  exact I1.zF (Nat.le_refl _) (I1.hok.fresh (Nat.le_refl _))
def P6(ta:TA):TI:=fun σ H R=>ta σ H fun vs H1=>∃j:Int,vs=[.int j]/\ -(2^62)<=j/\j<2^62/\R (P5 0 j.toNat) H1
def P7(ta:TA):TI:=fun σ H R=>ta σ H fun vs H1=>∃i j:Int,vs=[.int i,.int j]/\(-(2^62)<=i/\i<2^62/\ -(2^62)<=j/\j<2^62)/\R (P5 i (j-i).toNat) H1
theorem Cr{a:Expr}{ta:TA}{p pos:Pos}(hg:Gl X "range")(hm:X.mg "range"=none)(ha:PA X [a] ta)(hs:starEach [a] X.env=[(false,eval a X.env)]:=by rfl):PI X tg (.Call (.Name "range" p) [a] [] pos) (P6 ta):=by
 intro pins s σ H R I h
 refine Call_ (dN I hg hm boot_range (PyProof.Rows.callWith_type1 (bz (ha pos pins s σ H _ I h) fun us s1 ⟨vs,H1,I1,r1,q1⟩=>?_) hs rfl))
 obtain⟨j,e,q1,q2,q⟩:=q1
 subst e
 cases r1 with
 |cons r rr=>
  cases rr
  obtain⟨t,rfl⟩:=r
  exact call_range_1 (x5 I1 (by omega) (by omega) q1 q2 (by simpa using q))
theorem Cs{a b:Expr}{ta:TA}{p pos:Pos}(hg:Gl X "range")(hm:X.mg "range"=none)(ha:PA X [a,b] ta)(hs:starEach [a,b] X.env=[(false,eval a X.env),(false,eval b X.env)]:=by rfl)(hs2:starEach [b] X.env=[(false,eval b X.env)]:=by rfl):
  PI X tg (.Call (.Name "range" p) [a,b] [] pos) (P7 ta):=by
 intro pins s σ H R I h
 refine Call_ (dN I hg hm boot_range (PyProof.Rows.callWith_type1 (bz (ha pos pins s σ H _ I h) fun us s1 ⟨vs,H1,I1,r1,q1⟩=>?_) (by rw[hs,hs2]) (by rw[hs2];rfl)))
 obtain⟨i,j,e,⟨q1,q2,q3,q4⟩,q⟩:=q1
 subst e
 cases r1 with
 |cons r rr=>
  cases rr with
  |cons r' rr=>
   cases rr
   obtain⟨t,rfl⟩:=r
   obtain⟨t',rfl⟩:=r'
   exact call_range_2 (x5 I1 q1 q2 q3 q4 q)
def Us(wi:TI)(g:TG)(tb:TS):TS:=fun D σ H=>wi σ H fun J H1=>∃W:Nat->Nat->St->Hp->Prop,(∃m,W 0 m σ H1)/\∀i m σ H,W i m σ H->
 (J.stop i H/\D.nx σ H)\/(J.go i H/\∃N:St->Hp->Prop,(∀σ' H',N σ' H'->∃m',m'<m/\W (i+1) m' σ' H')/\∀x H',J.P4 i H x H'->g x σ H' fun σ2 H2=>tb {D with nx:=N,ct:=N,bk:=D.nx} σ2 H2)
def oO(fp:List Addr)(h:Heap):List (Addr×Obj):=fp.filterMap fun b=>(h.get? b).map fun o=>(b,o)
theorem dh{fp:List Addr}{h:Heap}{b:Addr}{o:Obj}(hb:b∈fp)(e:h.get? b=some o):(b,o)∈oO fp h:=List.mem_filterMap.mpr ⟨b,hb,by rw[e];rfl⟩
theorem Cu{fp:List Addr}{h:Heap}{p:Addr×Obj}(hp:p∈oO fp h):p.1∈fp/\h.get? p.1=some p.2:=by
 obtain⟨b,hb,e⟩:=List.mem_filterMap.mp hp
 cases q:h.get? b with
 |none=>rw[q]at e;cases e
 |some o=>
  rw[q]at e
  have e':(b,o)=p:=Option.some.inj e
  subst e'
  exact⟨hb,q⟩
theorem Inv.pinned {pins:List (Addr×Obj)}{σ:St}{H:Hp}{s:Shared}{fp:List Addr}(I:Inv X pins σ H s)(hf:∀b∈fp,jE X pins H b)(ho:∀b∈fp,∃o,s.heap.get? b=some o/\∀v,o.data≠.cell v):Inv X (pins++oO fp s.heap) σ H s:=
 I.AM fun p hp=>(mem_append.mp hp).elim (fun z=>I.pin p (mem_append_right _ z)) fun z=>by
  obtain⟨hb,e⟩:=Cu z
  obtain⟨f0,f1,f2,_⟩:=hf p.1 hb
  obtain⟨o,e',d⟩:=ho p.1 hb
  rw[e]at e';cases e'
  exact⟨e,f0,f1,f2,d⟩
theorem Inv.gZ {pins pl:List (Addr×Obj)}{σ:St}{H:Hp}{s:Shared}(I:Inv X (pins++pl) σ H s):Inv X pins σ H s:=I.AM fun p hp=>I.pin p (mem_append_right _ (mem_append_left _ hp))
theorem DP{iter:Expr}{body:List Stmt}{wi:TI}{g:TG}{tb:TS}{pos:Pos}(hp:PassesOwn (model X.prog X.w) X.A X.env X.xe)(hc:X.calm=true)(hi:PI X tg iter wi)(hg:PG X tg g)(hb:oN X body tb)
  (hs:∀x,foldedSetIterable iter X.env x=pure x:=by intro _;rfl):PS X (.For tg iter body [] pos) (Us wi g tb):=by
 intro pins s σ H D I h
 refine wpAny_For (bz (hi pins s σ H _ I h) fun v s1 h1=>bz h1 fun itv s2 h2=>?_) hs
 obtain⟨it,fp,tn,J,H2,e,I2,T,x6,f2,W,⟨m0,w0⟩,turn⟩:=h2
 subst e
 have L9:∀{H':Hp},(∀b∈fp,H' b=none)->∀b∈fp,jE X pins H' b:=fun hn b hb=>⟨hn b hb,(f2 b hb).2⟩
 refine codeAny_forLoop_any (fun n s'=>∃i σ' H',Inv X pins σ' H' s'/\tn i s'.heap/\(∀b∈fp,H' b=none)/\W i n σ' H') ?_ m0 ⟨0,σ,H2,I2,x6,fun b hb=>(f2 b hb).1,w0⟩
 rintro n s3 ⟨i,σ3,H3,I3,XG,qv,w3⟩
 rcases turn i n σ3 H3 w3 with⟨stop,qn⟩|⟨go,N,hN,step⟩
 ·refine wpAny_passesOwn hp (bz (T.done X rfl rfl rfl hc i pins s3 σ3 H3 X.xe I3 (L9 qv) XG stop) fun r s4 ⟨hr,I4⟩=>?_)
  subst hr
  exact wpAny_execs_nil ⟨σ3,H3,I4,qn⟩
 ·refine wpAny_passesOwn hp (bz (T.item X rfl rfl rfl hc i pins s3 σ3 H3 X.xe I3 (L9 qv) XG go) fun r s4 ⟨u,hr,h4⟩=>?_)
  subst hr
  refine wpAny_passesOwn hp (bz h4 fun _ s5 ⟨x,H5,I5,r5,y5,Dn,Cv⟩=>?_)
  have Zz:=I5.pinned (L9 Cv) (T.obj _ _ Dn)
  refine wpAny_passesOwn hp (bz (hg _ s5 σ3 H5 x u _ Zz r5 (step x H5 y5)) fun _ s6 ⟨σ6,H6,I6,q6⟩=>?_)
  refine wpAny_passesOwn hp (bz (hb _ s6 σ6 H6 _ I6 q6) fun f s7 q7=>?_)
  have again:∀{σ7:St}{H7:Hp},Inv X (pins++oO fp s5.heap) σ7 H7 s7->N σ7 H7->∃m,m<n/\∃i σ' H',Inv X pins σ' H' s7/\tn i s7.heap/\(∀b∈fp,H' b=none)/\W i m σ' H':=fun{σ7 H7} I7 n7=>by
   obtain⟨m',hm,w7⟩:=hN σ7 H7 n7
   refine⟨m',hm,i+1,σ7,H7,I7.gZ,T.keep _ _ _ Dn fun b hb o e=>(I7.pin (b,o) (mem_append_right _ (mem_append_right _ (dh hb e)))).1,fun b hb=>?_,w7⟩
   obtain⟨o,e,d⟩:=T.obj _ _ Dn b hb
   exact(I7.pin (b,o) (mem_append_right _ (mem_append_right _ (dh hb e)))).2.1
  cases f with
  |next=>obtain⟨σ7,H7,I7,n7⟩:=q7;exact again I7 n7
  |cont=>obtain⟨σ7,H7,I7,n7⟩:=q7;exact again I7 n7
  |brk=>obtain⟨σ7,H7,I7,q7⟩:=q7;exact⟨σ7,H7,I7.gZ,q7⟩
  |ret v=>obtain⟨x7,σ7,H7,I7,r7,q7⟩:=q7;exact⟨x7,σ7,H7,I7.gZ,r7,q7⟩
end
theorem DQ{K:PySem.W.Frag}{a:Addr}{xs:List V}{g:TG}{tb:TS}{D:Ends}{σ:St}{H:Hp}(Pv:Nat->St->Hp->Prop)(h0:Pv 0 σ H)(hl:∀i σ H,i<=xs.length->Pv i σ H->bW K H a xs)
  (hs:∀i x σ H,xs[i]?=some x->Pv i σ H->g x σ H fun σ2 H2=>tb {D with nx:=Pv (i+1),ct:=Pv (i+1),bk:=D.nx} σ2 H2)(hd:∀σ H,Pv xs.length σ H->D.nx σ H):
  ∃W:Nat->Nat->St->Hp->Prop,(∃m,W 0 m σ H)/\∀i m σ H,W i m σ H->
   ((L8 K a).stop i H/\D.nx σ H)\/((L8 K a).go i H/\∃N:St->Hp->Prop,(∀σ' H',N σ' H'->∃m',m'<m/\W (i+1) m' σ' H')/\∀x H',(L8 K a).P4 i H x H'->g x σ H' fun σ2 H2=>tb {D with nx:=N,ct:=N,bk:=D.nx} σ2 H2):=by
 refine⟨fun i m σ H=>m=xs.length-i/\i<=xs.length/\Pv i σ H,⟨xs.length,by simp,zero_le _,h0⟩,?_⟩
 rintro i m σ H ⟨rfl,hi,p⟩
 have q:=hl i σ H hi p
 by_cases hlt:i<xs.length
 ·refine .inr ⟨⟨xs,xs[i],q,by simp[hlt]⟩,Pv (i+1),fun σ' H' p'=>⟨xs.length-(i+1),by omega,rfl,hlt,p'⟩,fun x H' y=>?_⟩
  obtain⟨e,y⟩:=y
  subst e
  exact hs i x σ _ (y xs q) p
 ·have e:i=xs.length:=by omega
  subst e
  exact .inl ⟨⟨xs,q,Nat.le_refl _⟩,hd σ H p⟩
end L2
namespace L2
open PySem PySem.Spec PyProof.Rows
abbrev R2:=V->V->Hp->VK->Prop
def qw(X:Cx)(f:Value->Value->Sem Value)(r:R2):Prop:=
 ∀(pins:List (Addr×Obj))(s:Shared)(σ:St)(H:Hp)(x y:V)(v u:Value)(Q:VK),Inv X pins σ H s->RelV x v->RelV y u->r x y H Q->
  wpAny (model X.prog X.w) X.A (f v u) (EP X pins σ Q) X.xe s
def P8(X:Cx)(f:Value->Sem Value)(r:V->Hp->VK->Prop):Prop:=
 ∀(pins:List (Addr×Obj))(s:Shared)(σ:St)(H:Hp)(x:V)(v:Value)(Q:VK),Inv X pins σ H s->RelV x v->r x H Q->
  wpAny (model X.prog X.w) X.A (f v) (EP X pins σ Q) X.xe s
def om(X:Cx)(f:Value)(r:List V->Hp->VK->Prop):Prop:=
 ∀(pins:List (Addr×Obj))(s:Shared)(σ:St)(H:Hp)(xs:List V)(us:List Value)(Q:VK),Inv X pins σ H s->Vals xs us->r xs H Q->
  wpAny (model X.prog X.w) X.A (call f us) (EP X pins σ Q) X.xe s
def P9(r:R2)(ta tb:TE):TE:=fun σ H Q=>ta σ H fun x H1=>tb σ H1 fun y H2=>r x y H2 Q
def ZA(r:V->Hp->VK->Prop)(ta:TE):TE:=fun σ H Q=>ta σ H fun x H1=>r x H1 Q
def rI(C:Int->Int->Prop)(g:Int->Int->V):R2:=fun x y H Q=>∃i j,x=.int i/\y=.int j/\C i j/\Q (g i j) H
def AR(g:Int->Int->V):R2:=fun x y H Q=>∃i j,x=.int i/\y=.int j/\Q (g i j) H
def rU(g:Int->V):V->Hp->VK->Prop:=fun x H Q=>∃i,x=.int i/\Q (g i) H
section
variable{X:Cx}{a b c:Expr}{ta tb tc:TE}{pos:Pos}
theorem Ma(ha:PE X a ta)(hb:PE X b tb){pins:List (Addr×Obj)}{s:Shared}{σ:St}{H:Hp}{R:V->V->Hp->Prop}(I:Inv X pins σ H s)
  (h:ta σ H fun x H1=>tb σ H1 fun y H2=>R x y H2){Q:Value->Shared->Prop}{f:Value->Value->Sem Value}
  (hf:∀v u s2 x y H2,Inv X pins σ H2 s2->RelV x v->RelV y u->R x y H2->wpAny (model X.prog X.w) X.A (f v u) Q X.xe s2):
  wpAny (model X.prog X.w) X.A (eval a X.env) (fun v s₁=>wpAny (model X.prog X.w) X.A (eval b X.env) (fun u s₂=>wpAny (model X.prog X.w) X.A (f v u) Q X.xe s₂) X.xe s₁) X.xe s:=by
 refine bz (ha pins s σ H _ I h) fun v s1 ⟨x,H1,I1,r1,q1⟩=>?_
 refine bz (hb pins s1 σ H1 _ I1 q1) fun u s2 ⟨y,H2,I2,r2,q2⟩=>?_
 exact hf v u s2 x y H2 I2 r1 r2 q2
theorem pe{op:Operator}{r:R2}(ho:qw X (binaryOp op) r)(ha:PE X a ta)(hb:PE X b tb):PE X (.BinOp a op b pos) (P9 r ta tb):=by
 intro pins s σ H Q I h
 exact wpAny_BinOp (Ma ha hb I h fun v u s2 x y H2 I2 rx ry q=>ho pins s2 σ H2 x y v u Q I2 rx ry q)
theorem AS{op:UnaryOp}{r:V->Hp->VK->Prop}(ho:P8 X (unaryOp op) r)(ha:PE X a ta):PE X (.UnaryOp op a pos) (ZA r ta):=by
 intro pins s σ H Q I h
 exact UnaryOp_ (bz (ha pins s σ H _ I h) fun v s1 ⟨x,H1,I1,r1,q1⟩=>ho pins s1 σ H1 x v Q I1 r1 q1)
theorem Qa{f:Value->Value->Sem Value}{C:Int->Int->Prop}{g:Int->Int->Int}
  (rule:∀(i j:Int)(t u:Tok)(s:Shared)(Q:Value->Shared->Prop)(E:Value->Shared->Prop),C i j->Q (.int (g i j) s.toks) {s with toks:=s.toks+1}->wpAny (model X.prog X.w) X.A (f (.int i t) (.int j u)) Q E s):
  qw X f (rI C fun i j=>.int (g i j)):=by
 intro pins s σ H x y v u Q I rx ry h
 obtain⟨i,j,rfl,rfl,hc,q⟩:=h
 obtain⟨t,rfl⟩:=rx
 obtain⟨t',rfl⟩:=ry
 exact rule i j t t' s _ _ hc ⟨.int (g i j),H,I.tok _,⟨_,rfl⟩,q⟩
theorem Mb{f:Value->Value->Sem Value}{g:Int->Int->Int}
  (rule:∀(i j:Int)(t u:Tok)(s:Shared)(Q:Value->Shared->Prop)(E:Value->Shared->Prop),Q (.int (g i j) s.toks) {s with toks:=s.toks+1}->wpAny (model X.prog X.w) X.A (f (.int i t) (.int j u)) Q E s):
  qw X f (AR fun i j=>.int (g i j)):=by
 intro pins s σ H x y v u Q I rx ry h
 obtain⟨i,j,rfl,rfl,q⟩:=h
 obtain⟨t,rfl⟩:=rx
 obtain⟨t',rfl⟩:=ry
 exact rule i j t t' s _ _ ⟨.int (g i j),H,I.tok _,⟨_,rfl⟩,q⟩
theorem Mc{f:Value->Value->Sem Value}{g:Int->Int->Bool}
  (rule:∀(i j:Int)(t u:Tok)(s:Shared)(Q:Value->Shared->Prop)(E:Value->Shared->Prop),Q (.bool (g i j)) s->wpAny (model X.prog X.w) X.A (f (.int i t) (.int j u)) Q E s):
  qw X f (AR fun i j=>.bl (g i j)):=by
 intro pins s σ H x y v u Q I rx ry h
 obtain⟨i,j,rfl,rfl,q⟩:=h
 obtain⟨t,rfl⟩:=rx
 obtain⟨t',rfl⟩:=ry
 exact rule i j t t' s _ _ ⟨.bl (g i j),H,I,rfl,q⟩
def Qc(i j:Int):Prop:=0<j/\j<1073741824
def Cw(i j:Int):Prop:=0<=j/\j<=1000000/\i.natAbs<2^64
def HC(i j:Int):Prop:=(-(2^64)<i/\i<2^64)\/(-(2^64)<j/\j<2^64)
theorem HC.ok {i j:Int}(h:HC i j):IntMulOk i j:=by
 rcases h with⟨h1,h2⟩|⟨h1,h2⟩
 ·exact .of_left (intBits_le_64 h1 h2)
 ·exact .of_right (intBits_le_64 h1 h2)
theorem fH:qw X (binaryOp .Add) (AR fun i j=>.int (i+j)):=Mb fun _ _ _ _ _ _ _ q=>add_int q
theorem bu:qw X (binaryOp .Sub) (AR fun i j=>.int (i-j)):=Mb fun _ _ _ _ _ _ _ q=>sub_int q
theorem tj:qw X (binaryOp .Mult) (rI HC fun i j=>.int (i*j)):=Qa fun _ _ _ _ _ _ _ hc q=>mul_int q hc.ok
theorem nG:qw X (binaryOp .FloorDiv) (rI Qc fun i j=>.int (i/j)):=Qa fun i j _ _ _ _ _ hc q=>by
 have h1:(0:Int)<j:=hc.1
 have h2:j<1073741824:=hc.2
 exact floordiv_int (by omega) (by rw[Int.fdiv_eq_ediv_of_nonneg i (by omega)];exact q) (.inl (PyProof.noPylong_small (by omega)))
theorem ig:qw X (binaryOp .Mod) (rI (fun _ j=>0<j) fun i j=>.int (i%j)):=Qa fun i j _ _ _ _ _ hc q=>by
 have h1:(0:Int)<j:=hc
 exact mod_int' (by omega) (by rw[Int.fmod_eq_emod_of_nonneg i (by omega)];exact q)
theorem Md:qw X (binaryOp .Pow) (rI Cw fun i j=>.int (i^j.toNat)):=Qa fun _ _ _ _ _ _ _ hc q=>pow_int_small hc.1 hc.2.1 hc.2.2 q
theorem Me:qw X (binaryOp .LShift) (rI Cw fun i j=>.int (i*2^j.toNat)):=Qa fun _ _ _ _ _ _ _ hc q=>lshift_int_small hc.1 hc.2.1 hc.2.2 q
theorem DR:qw X (binaryOp .BitAnd) (AR fun i j=>.int (Builtin.bitAnd i j)):=Mb fun _ _ _ _ _ _ _ q=>and_int q
theorem XH{f:Value->Sem Value}{g:Int->Int}
  (rule:∀(i:Int)(t:Tok)(s:Shared)(Q:Value->Shared->Prop)(E:Value->Shared->Prop),Q (.int (g i) s.toks) {s with toks:=s.toks+1}->wpAny (model X.prog X.w) X.A (f (.int i t)) Q E s):
  P8 X f (rU fun i=>.int (g i)):=by
 intro pins s σ H x v Q I rx h
 obtain⟨i,rfl,q⟩:=h
 obtain⟨t,rfl⟩:=rx
 exact rule i t s _ _ ⟨.int (g i),H,I.tok _,⟨_,rfl⟩,q⟩
theorem jc:P8 X (unaryOp .USub) (rU fun i=>.int (-i)):=XH fun _ _ _ _ _ q=>neg_int q
theorem DS:P8 X (unaryOp .Invert) (rU fun i=>.int (Builtin.bitNot i)):=XH fun _ _ _ _ _ q=>invert_int q
end
def Ut:V->V->Bool
 |.non,.non=>true|.non,.int _=>true|.int _,.non=>true|.non,.bl _=>true|.bl _,.non=>true|.non,.str _=>true|.str _,.non=>true
 |.int _,.int _=>true|.bl _,.bl _=>true|.str _,.str _=>true|.Dl _,.Dl _=>true
 |.int _,.str _=>true|.str _,.int _=>true|.bl _,.str _=>true|.str _,.bl _=>true
 |_,_=>false
def ZC:R2:=fun x y H Q=>Ut x y=true/\Q (.bl (decide (x=y))) H
theorem HD{i j:Int}:decide (V.int i=V.int j)=(i==j):=by
 rw[Bool.eq_iff_iff]
 simp
theorem Mf{i j:Bool}:decide (V.bl i=V.bl j)=(i==j):=by
 rw[Bool.eq_iff_iff]
 simp
theorem HE{i j:Str}:decide (V.str i=V.str j)=(i==j):=by
 rw[Bool.eq_iff_iff]
 simp
theorem HF{i j:Array UInt8}:decide (V.Dl i=V.Dl j)=(i.toList==j.toList):=by
 rw[Bool.eq_iff_iff]
 cases i
 cases j
 simp
section
variable{X:Cx}{a b c:Expr}{ta tb tc:TE}{pos:Pos}
theorem di{pins:List (Addr×Obj)}{σ:St}{H:Hp}{s:Shared}{Q:VK}{k k':Bool}(I:Inv X pins σ H s)(q:Q (.bl k) H)(e:k=k'):EP X pins σ Q (.bool k') s:=by
 subst e
 exact⟨.bl k,H,I,rfl,q⟩
theorem DT:qw X (compareOp .Eq) ZC:=by
 intro pins s σ H x y v u Q I rx ry h
 obtain⟨hs,q⟩:=h
 cases x with
 |non=>
  cases rx
  cases y with
  |non=>cases ry;exact PySem.EqNone.eq_none_none (di I q (by simp))
  |bl j=>cases ry;exact PySem.EqNone.eq_none_bool (di I q (by simp))
  |int j=>obtain⟨t',rfl⟩:=ry;exact PySem.EqNone.eq_none_int (di I q (by simp))
  |str j=>obtain⟨t',rfl⟩:=ry;exact PySem.EqNone.eq_none_str (di I q (by simp))
  |_=>exact absurd (show false=true from hs) Bool.false_ne_true
 |bl i=>
  cases rx
  cases y with
  |non=>cases ry;exact PySem.EqNone.eq_bool_none (di I q (by simp))
  |bl j=>cases ry;exact eq_bool (di I q Mf)
  |str j=>obtain⟨t',rfl⟩:=ry;exact PySem.EqMixed.eq_bool_str (di I q (by simp))
  |_=>exact absurd (show false=true from hs) Bool.false_ne_true
 |int i=>
  obtain⟨t,rfl⟩:=rx
  cases y with
  |non=>cases ry;exact PySem.EqNone.eq_int_none (di I q (by simp))
  |int j=>obtain⟨t',rfl⟩:=ry;exact eq_int (di I q HD)
  |str j=>obtain⟨t',rfl⟩:=ry;exact PySem.EqMixed.eq_int_str (di I q (by simp))
  |_=>exact absurd (show false=true from hs) Bool.false_ne_true
 |str i=>
  obtain⟨t,rfl⟩:=rx
  cases y with
  |non=>cases ry;exact PySem.EqNone.eq_str_none (di I q (by simp))
  |bl j=>cases ry;exact PySem.EqMixed.eq_str_bool (di I q (by simp))
  |int j=>obtain⟨t',rfl⟩:=ry;exact PySem.EqMixed.eq_str_int (di I q (by simp))
  |str j=>obtain⟨t',rfl⟩:=ry;exact eq_str (di I q HE)
  |_=>exact absurd (show false=true from hs) Bool.false_ne_true
 |Dl i=>
  obtain⟨t,rfl⟩:=rx
  cases y with
  |Dl j=>obtain⟨t',rfl⟩:=ry;exact PySem.W.eq_bytes (di I q HF)
  |_=>exact absurd (show false=true from hs) Bool.false_ne_true
 |_=>cases y<;>exact absurd (show false=true from hs) Bool.false_ne_true
theorem tm:qw X (compareOp .Lt) (AR fun i j=>.bl (decide (i<j))):=Mc fun _ _ _ _ _ _ _ q=>lt_int q
theorem Qd:qw X (compareOp .LtE) (AR fun i j=>.bl (decide (i<=j))):=Mc fun _ _ _ _ _ _ _ q=>le_int q
theorem jG:qw X (compareOp .Gt) (AR fun i j=>.bl (decide (j<i))):=Mc fun _ _ _ _ _ _ _ q=>gt_int q
theorem Mg:qw X (compareOp .Is) (fun x y H Q=>y=.non/\Q (.bl (decide (x=.non))) H):=by
 intro pins s σ H x y v u Q I rx ry h
 obtain⟨rfl,q⟩:=h
 cases ry
 refine is_none_gen (di I q ?_)
 cases x<;>first
  |(cases rx;rfl)
  |(obtain⟨t,rfl⟩:=rx;rfl)
theorem HG:qw X (compareOp .IsNot) (fun x y H Q=>y=.non/\Q (.bl (!decide (x=.non))) H):=by
 intro pins s σ H x y v u Q I rx ry h
 obtain⟨rfl,q⟩:=h
 cases ry
 refine isnot_none_gen (di I q ?_)
 cases x<;>first
  |(cases rx;rfl)
  |(obtain⟨t,rfl⟩:=rx;rfl)
theorem aK(b:Expr){op:CmpOp}(h:op≠.In:=by decide)(h2:op≠.NotIn:=by decide):behindInMarks op b=false:=by
 have e1:(op==CmpOp.In)=false:=by cases op<;>first|rfl|exact absurd rfl h
 have e2:(op==CmpOp.NotIn)=false:=by cases op<;>first|rfl|exact absurd rfl h2
 cases b<;>simp[behindInMarks,e1,e2]
theorem HH{op:CmpOp}{r:R2}(ho:qw X (compareOp op) r)(ha:PE X a ta)(hb:PE X b tb)(hm:behindInMarks op b=false):PE X (.Compare a [op] [b] pos) (P9 r ta tb):=by
 intro pins s σ H Q I h
 exact wpAny_Compare1 (Ma ha hb I h fun v u s2 x y H2 I2 rx ry q=>ho pins s2 σ H2 x y v u Q I2 rx ry q) hm
def Qe(t:TE):TT:=fun σ H Q=>t σ H fun x H'=>∃k,x=.bl k/\Q k H'
theorem iS{op:CmpOp}{r:R2}(ho:qw X (compareOp op) r)(ha:PE X a ta)(hb:PE X b tb)(hm:behindInMarks op b=false):PT X (.Compare a [op] [b] pos) (Qe (P9 r ta tb)):=by
 intro pins s σ H Q I h
 refine wpAny_isTrue_Compare1 (bz (ha pins s σ H _ I h) fun v s1 ⟨x,H1,I1,r1,q1⟩=>bz (hb pins s1 σ H1 _ I1 q1) fun u s2 ⟨y,H2,I2,r2,q2⟩=>
  bz (ho pins s2 σ H2 x y v u _ I2 r1 r2 q2) fun c s3 ⟨z,H3,I3,r3,k,e,q3⟩=>?_) hm
 subst e
 cases r3
 exact wpAny_truthy_bool ⟨H3,I3,q3⟩
theorem oQ:(sizeLine:Nat)<2^63:=by rw[sizeLine_eq];decide
theorem vals1{x:V}{us:List Value}(r:Vals [x] us):∃u,us=[u]/\RelV x u:=by
 cases r with
 |cons r1 r2=>cases r2;exact⟨_,rfl,r1⟩
theorem vals2{x y:V}{us:List Value}(r:Vals [x,y] us):∃u w',us=[u,w']/\RelV x u/\RelV y w':=by
 cases r with
 |cons r1 r2=>
  cases r2 with
  |cons r3 r4=>cases r4;exact⟨_,_,rfl,r1,r3⟩
theorem tw:om X (.builtin "abs") (fun xs H Q=>∃i,xs=[.int i]/\Q (.int (if i<0 then-i else i)) H):=by
 intro pins s σ H xs us Q I r h
 obtain⟨i,rfl,q⟩:=h
 obtain⟨u,rfl,t,rfl⟩:=vals1 r
 exact call_abs_int fun u tk=>⟨.int (if i<0 then-i else i),H,I.tok _,⟨_,rfl⟩,q⟩
theorem Cy(hc:X.calm=true):om X (.builtin "max") (fun xs H Q=>∃i j,xs=[.int i,.int j]/\Q (.int (if j>i then j else i)) H):=by
 intro pins s σ H xs us Q I r h
 obtain⟨i,j,rfl,q⟩:=h
 obtain⟨u,w',rfl,⟨t,rfl⟩,⟨t',rfl⟩⟩:=vals2 r
 refine max_two_ints (I.ok.hd hc) fun h' tk k=>⟨_,H,I.kept k,?_,q⟩
 by_cases hj:j>i
 ·rw[if_pos hj,if_pos hj];exact⟨_,rfl⟩
 ·rw[if_neg hj,if_neg hj];exact⟨_,rfl⟩
def Qf(K:PySem.W.Frag)(x:V)(H:Hp)(n:Nat):Prop:=
 match x with
 |.str y=>y.length<=sizeLine/\n=y.length
 |.Dl y=>y.size<=sizeLine/\n=y.size
 |.ref p=>(∃xs,bW K H p xs/\n=xs.length)\/∃xs,xZ K H p xs/\n=xs.length
 |_=>False
theorem cL:om X (.builtin "len") (fun xs H Q=>∃x n,xs=[x]/\Qf X.K x H n/\Q (.int n) H):=by
 intro pins s σ H xs us Q I r h
 obtain⟨x,n,rfl,e,q⟩:=h
 obtain⟨u,rfl,rx⟩:=vals1 r
 have hl:=oQ
 have hs:sizeLine=16777216:=sizeLine_eq
 cases x with
 |str y=>
  obtain⟨t,rfl⟩:=rx
  obtain⟨hy,e'⟩:y.length<=sizeLine/\n=y.length:=e
  subst e'
  exact len_str (by omega) ⟨.int _,H,I.tok _,⟨_,rfl⟩,q⟩
 |Dl y=>
  obtain⟨t,rfl⟩:=rx
  obtain⟨hy,e'⟩:y.size<=sizeLine/\n=y.size:=e
  subst e'
  exact PySem.W.len_bytes (by omega) ⟨.int _,H,I.tok _,⟨_,rfl⟩,q⟩
 |ref p=>
  cases rx
  have e':(∃xs,bW X.K H p xs/\n=xs.length)\/∃xs,xZ X.K H p xs/\n=xs.length:=e
  rcases e' with⟨xs,hx,e'⟩|⟨xs,hx,e'⟩
  ·subst e'
   obtain⟨its,r',pl,hz⟩:=I.list hx
   have hlen:=r'.length
   exact Calls.call_len_list pl.isList (by simp only [size_toArray];omega) ⟨.int xs.length,H,I.tok _,⟨_,by simp only [size_toArray];rw[hlen]⟩,q⟩
  ·subst e'
   obtain⟨its,r',pl,hz⟩:=I.tuple hx
   have hlen:=r'.length
   exact len_tuple pl (by simp only [size_toArray];omega) ⟨.int xs.length,H,I.tok _,⟨_,by simp only [size_toArray];rw[hlen]⟩,q⟩
 |_=>exact(show False from e).elim
end
end L2
namespace L2
open PySem PySem.Spec PyProof.Rows
structure zH(h:Heap)(x dx C:Addr)(mA:Str->Option Value):Prop where
 obj:h.get? x=some (instObj C dx)
 ns:h.Ns1 dx mA
 ne:dx≠x
theorem Cz{h:Heap}{dx:Addr}{mA:Str->Option Value}(n:h.Ns1 dx mA):∃od,h.get? dx=some od/\∀name,lookIn name od=some (mA name):=by
 obtain⟨o,es,ep,ho,hd,hk,_,hm⟩:=n
 refine⟨o,ho,fun name=>?_⟩
 have e:=hm name
 unfold nsFind findBy at e
 rw[<-Array.find?_toList]at e
 unfold lookIn
 rw[hd]
 dsimp only
 split
 ·rename_i y q
  rw[q]at e
  exact congrArg some e
 ·rename_i q
  rw[q]at e
  have a:es.toList.any (·.refKey)=false:=by
   rw[List.any_eq_false]
   intro y hy
   obtain⟨z,t,hkey⟩:=hk y (Array.mem_toList_iff.mp hy)
   simp[DictEntry.refKey,hkey]
  have a':¬es.toList.any (·.refKey)=true:=by rw[a];exact Bool.false_ne_true
  rw[if_neg a']
  exact congrArg some e
theorem zH.look {h:Heap}{x dx C:Addr}{mA:Str->Option Value}(I:zH h x dx C mA):∃od,PySem.W.InstAt h x (instObj C dx) C (some od)/\∀name,lookIn name od=some (mA name):=
 let⟨od,ho,hl⟩:=Cz I.ns
 ⟨od,⟨I.obj,rfl,rfl,ho⟩,hl⟩
section
variable{prog:Program}{w:World}{A:Around}{E:Value->Shared->Prop}{s:Shared}{K:PySem.W.Frag}{x dx C f:Addr}{mA:Str->Option Value}{name:Str}{v:Value}
theorem get_map{expr:Bool}{Q:Value->Shared->Prop}(X:K.In s.heap)(I:zH s.heap x dx C mA)(hg:plainGet K C name=true)(hh:hasDictIn K C=true)
  (ha:findIn K (.ref C) name=some none)(hv:mA name=some v)(ZD:handedIn v=true)(h:Q v {s with toks:=s.toks+1}):
  wpAny (model prog w) A (getAttr (.ref x) name expr) Q E s:=by
 obtain⟨od,J,hl⟩:=I.look
 exact PySem.W.get_value X J (plainGet_of hg).1 (PySem.W.findObj_own hh ha rfl (by rw[hl,hv])) ZD h
theorem DU{pl:Sem Bool}{Q:Value×List Value->Shared->Prop}(X:K.In s.heap)(I:zH s.heap x dx C mA)(hg:plainGet K C name=true)
  (hf:findIn K (.ref C) name=some (some (.ref f)))(ht:isFn K (.ref f)=true)(hv:mA name=none)(h:Q (.ref f,[.ref x]) s):
  wpAny (model prog w) A (getMethod (.ref x) name pl) Q E s:=by
 obtain⟨od,J,hl⟩:=I.look
 exact PySem.W.method_fn X J (plainGet_of hg).1 (plainGet_of hg).2 hf (beq_iff_eq.mp ht) (by show(lookIn name od).map (·.isSome)=some false;rw[hl,hv];rfl) h
theorem HJ{ns:List Str}{Q:Unit->Shared->Prop}(X:K.In s.heap)(I:zH s.heap x dx C mA)
  (hs:findIn K (.ref C) "__setattr__"=some (some (.builtin "object.__setattr__")))(hp:plainOver K C=true)(ht:takerIn K C name=some none)(hh:hasDictIn K C=true)
  (hw:PySem.Within mA ns)(hsz:ns.length<=sizeLine)
  (h:∀h',zH h' x dx C (fun y=>if y=name then some v else mA y)->Heap.SameBut dx s.heap h'->Q () {s with heap:=h',toks:=s.toks+2}):
  wpAny (model prog w) A (setAttr (.ref x) name v) Q E s:=by
 obtain⟨od,J,hl⟩:=I.look
 refine PySem.W.set_plain X J hs (PySem.W.osa_open (s:={s with toks:=s.toks+1}) (r:=none) X J hp ht fun b=>?_)
 obtain⟨cd,hc,Ht⟩:=PySem.W.any_some hh
 have hx:s.heap.get? x=some ⟨.ref C,some dx,.plain,#[]⟩:=I.obj
 refine wpAny_bind (wpAny_pure (wpAny_bind (wpAny_bind (wpAny_loadPart hx (wpAny_bind (Looks.here (s:={s with toks:=s.toks+1}) (PySem.W.looks_clsIn X hc) ?_))))))
 rw[Ht]
 refine wpAny_pure (a:=some dx) (wpAny_bind (wpAny_pure (wpAny_bind ?_)))
 refine wpAny_nsSet1 (s:={s with toks:=s.toks+1}) I.ns fun h' hn2 hs2=>?_
 obtain⟨oD,esD,epD,ZE,ZF,ZG⟩:=hn2.count (PySem.Within.cons name v hw)
 refine wpAny_bind (wpAny_lookBehind ZE (by rw[ZF];exact pastItsLine_dict (le_trans ZG (by rw[length_cons];omega))) ?_)
 exact wpAny_pure (h _ ⟨(hs2.2 _ (Ne.symm I.ne)).trans I.obj,hn2,I.ne⟩ hs2)
theorem DV{R:Result->Shared->Prop}{vs:List Value}{kw:List (Str×Value)}(X:K.In s.heap)(hm:makesIn K C=true)
  (hi:findIn K (.ref C) "__init__"=some (some (.ref f)))(hf:typeIn K (.ref f)=some (.type "function"))
  (h:codeAny (model prog w) (A.under (.builtin "type.__call__" ⟨.ref C::vs,kw⟩)) (.call (.ref f) ⟨.ref (s.heap.objs.size+1)::vs,kw⟩) (PySem.W.InitBack (s.heap.objs.size+1) R)
   {s with heap:=(s.heap.push emptyDict).push (instObj C s.heap.objs.size)}):
  codeAny (model prog w) A (.call (.ref C) ⟨vs,kw⟩) R s:=by
 obtain⟨hh,g,d,t,os⟩:=s
 exact PySem.W.make_core (PySem.W.makes_of X hm) (PySem.W.looks_findIn X hi) (fun self=>PySem.W.bind_fn X self hf) (.inl rfl) h
end
def jd(f:Str)(v:V):List (Str×V)->List (Str×V)
 |[]=>[(f,v)]
 |(g,x)::r=>if g=f then(g,v)::r else(g,x)::jd f v r
theorem rF(f g:Str)(v:V):∀fs:List (Str×V),(jd f v fs).lookup g=if g=f then some v else fs.lookup g
 |[]=>by
  show List.lookup g [(f,v)]=_
  by_cases h:g=f
  ·have hb:(g==f)=true:=beq_iff_eq.mpr h
   simp only [List.lookup,hb,if_pos h]
  ·have hb:(g==f)=false:=beq_eq_false_iff_ne.mpr h
   simp only [List.lookup,hb,if_neg h]
 |(k,x)::r=>by
  have ih:=rF f g v r
  rw[show jd f v ((k,x)::r)=(if k=f then(k,v)::r else(k,x)::jd f v r)from rfl]
  by_cases hk:k=f
  ·rw[if_pos hk]
   by_cases h:g=k
   ·have hb:(g==k)=true:=beq_iff_eq.mpr h
    simp only [List.lookup,hb,if_pos (h.trans hk)]
   ·have hb:(g==k)=false:=beq_eq_false_iff_ne.mpr h
    simp only [List.lookup,hb,if_neg (fun e:g=f=>h (e.trans hk.symm))]
  ·rw[if_neg hk]
   by_cases h:g=k
   ·have hb:(g==k)=true:=beq_iff_eq.mpr h
    simp only [List.lookup,hb,if_neg (fun e:g=f=>hk (h.symm.trans e))]
   ·have hb:(g==k)=false:=beq_eq_false_iff_ne.mpr h
    simp only [List.lookup,hb]
    exact ih
theorem qx(f:Str)(v:V):∀fs:List (Str×V),f∈(jd f v fs).map (·.1)/\∀g,g∈fs.map (·.1)->g∈(jd f v fs).map (·.1)
 |[]=>⟨by simp[jd],fun g h=>by simp at h⟩
 |(k,x)::r=>by
  obtain⟨i1,i2⟩:=qx f v r
  rw[show jd f v ((k,x)::r)=(if k=f then(k,v)::r else(k,x)::jd f v r)from rfl]
  by_cases hk:k=f
  ·rw[if_pos hk]
   subst hk
   exact⟨by simp,fun g h=>by simpa using h⟩
  ·rw[if_neg hk]
   refine⟨?_,fun g h=>?_⟩
   ·rw[map_cons]
    exact mem_cons_of_mem _ i1
   ·rw[map_cons]at h⊢
    rcases mem_cons.mp h with e|e
    ·exact mem_cons.mpr (.inl e)
    ·exact mem_cons_of_mem _ (i2 g e)
theorem rG(f:Str)(v:V):∀fs:List (Str×V),(jd f v fs).length<=fs.length+1
 |[]=>by simp[jd]
 |(k,x)::r=>by
  have ih:=rG f v r
  rw[show jd f v ((k,x)::r)=(if k=f then(k,v)::r else(k,x)::jd f v r)from rfl]
  by_cases hk:k=f
  ·rw[if_pos hk,length_cons,length_cons];omega
  ·rw[if_neg hk,length_cons,length_cons];omega
theorem lV.some_of {v:V}{o:Option Value}(r:lV (some v) o):∃u,o=some u/\RelV v u:=by
 cases o with
 |none=>exact(show False from r).elim
 |some u=>exact⟨u,rfl,r⟩
theorem lV.none_of {o:Option Value}(r:lV none o):o=none:=by
 cases o with
 |none=>rfl
 |some u=>exact(show False from r).elim
theorem CA{v:V}{u:Value}(r:RelV v u):handedIn u=true:=by
 cases v with
 |non=>cases (show u=Value.none from r);rfl
 |bl b=>cases (show u=Value.bool b from r);rfl
 |int i=>obtain⟨t,e⟩:=(show∃t,u=Value.int i t from r);cases e;rfl
 |str x=>obtain⟨t,e⟩:=(show∃t,u=Value.str x t from r);cases e;rfl
 |Dl b=>obtain⟨t,e⟩:=(show∃t,u=Value.bytes b t from r);cases e;rfl
 |LM b=>obtain⟨t,e⟩:=(show∃t,u=Value.float b t from r);cases e;rfl
 |ref a=>cases (show u=Value.ref a from r);rfl
 |ty n=>cases (show u=Value.type n from r);rfl
section
variable{P:Program}{w:World}{H H':Hp}{h h':Heap}{a C dx:Addr}{fs XA:List (Str×V)}
theorem sF(hok:nE P w H h)(e:H a=some (.ins C dx fs)):∃mA,zH h a dx C mA/\(∀f,lV (fs.lookup f) (mA f))/\PySem.Within mA (fs.map (·.1))/\fs.length<=1000/\H dx=some (.own a):=by
 obtain⟨d,z,ne,ob,mA,n,r,q⟩:=(show cu P w H h a (.ins C dx fs)from hok a _ e)
 exact⟨mA,⟨ob,n,ne⟩,r,q,z,d⟩
end
structure DW(K:PySem.W.Frag)(C:Addr):Prop where
 pg:plainGet K C Str.empty=true
 hd:hasDictIn K C=true
 po:plainOver K C=true
 sa:findIn K (.ref C) "__setattr__"=some (some (.builtin "object.__setattr__"))
theorem DW.get {K:PySem.W.Frag}{C:Addr}(c:DW K C)(f:Str):plainGet K C f=true:=c.pg
def dO(K:PySem.W.Frag)(C:Addr)(f:Str):Prop:=findIn K (.ref C) f=some none
theorem dO.Qg {K:PySem.W.Frag}{C:Addr}{f:Str}(n:dO K C f):takerIn K C f=some none:=by
 unfold takerIn
 rw[show findIn K (.ref C) f=some none from n]
 rfl
structure Meth(K:PySem.W.Frag)(C:Addr)(m:Str)(f:Addr):Prop where
 at_:findIn K (.ref C) m=some (some (.ref f))
 fn:isFn K (.ref f)=true
 kp:keepIn K (.ref f)=true
section
variable{X:Cx}{pins:List (Addr×Obj)}{σ:St}{H:Hp}{s:Shared}{a C dx:Addr}{fs:List (Str×V)}{f:Str}{v:V}{A:Around}{E:Value->Shared->Prop}
theorem zI{b:Bool}{Q:Value->Shared->Prop}(I:Inv X pins σ H s)(e:H a=some (.ins C dx fs))(c:DW X.K C)(n:dO X.K C f)(l:fs.lookup f=some v)
  (h:∀u s',Inv X pins σ H s'->RelV v u->Q u s'):wpAny (model X.prog X.w) A (getAttr (.ref a) f b) Q E s:=by
 obtain⟨mA,O,r,_,_,_⟩:=sF I.hok e
 obtain⟨u,hu,ru⟩:=lV.some_of (v:=v) (o:=mA f) (by rw[<-l];exact r f)
 exact get_map I.qt O (c.get f) c.hd n hu (CA ru) (h u _ (I.tok _) ru)
theorem tE{m:Str}{g:Addr}{pl:Sem Bool}{Q:Value×List Value->Shared->Prop}(I:Inv X pins σ H s)(e:H a=some (.ins C dx fs))(c:DW X.K C)(k:Meth X.K C m g)(l:fs.lookup m=none)
  (h:Q (.ref g,[.ref a]) s):wpAny (model X.prog X.w) A (getMethod (.ref a) m pl) Q E s:=by
 obtain⟨mA,O,r,_,_,_⟩:=sF I.hok e
 have hn:mA m=none:=lV.none_of (by rw[<-l];exact r m)
 exact DU I.qt O (c.get m) k.at_ k.fn hn h
theorem zJ{y:V}{u:Value}{Q:Unit->Shared->Prop}(I:Inv X pins σ H s)(e:H a=some (.ins C dx fs))(c:DW X.K C)(n:dO X.K C f)(hl:fs.length<1000)(ry:RelV y u)
  (h:∀s',Inv X pins σ (upd H a (.ins C dx (jd f y fs))) s'->Q () s'):wpAny (model X.prog X.w) A (setAttr (.ref a) f u) Q E s:=by
 obtain⟨mA,O,r,wi,_,ho⟩:=sF I.hok e
 have hz:(fs.map (·.1)).length<=sizeLine:=by rw[length_map,sizeLine_eq];omega
 refine HJ I.qt O c.sa c.po n.Qg c.hd wi hz fun h' O' sb=>h _ ?_
 have hd:∃o,h'.get? dx=some o:=let⟨o,_,_,e',_⟩:=O'.ns;⟨o,e'⟩
 refine I.write (x:=a) (e:=dx) (by rw[e];exact True.intro) (.inr ho) (fun b q hb z=>(sb.2 b hb).trans z) hd ?_
 refine⟨by rw[ah O.ne];exact ho,?_,O.ne,O'.obj,_,O'.ns,fun g=>?_,fun g hg=>?_⟩
 ·have:=rG f y fs;omega
 ·show lV ((jd f y fs).lookup g) (if g=f then some u else mA g)
  rw[rF]
  by_cases q:g=f
  ·rw[if_pos q,if_pos q];exact ry
  ·rw[if_neg q,if_neg q];exact r g
 ·by_cases q:g=f
  ·rw[q];exact(qx f y fs).1
  ·refine(qx f y fs).2 g (wi g fun z=>hg ?_)
   show(if g=f then some u else mA g)=none
   rw[if_neg q];exact z
theorem Inv.made (I:Inv X pins σ H s):Inv X pins σ (upd (upd H s.heap.objs.size (.own (s.heap.objs.size+1))) (s.heap.objs.size+1) (.ins C s.heap.objs.size []))
  {s with heap:=(s.heap.push emptyDict).push (instObj C s.heap.objs.size)}:=by
 have e1:(s.heap.push emptyDict).get? s.heap.objs.size=some emptyDict:=Heap.get?_push_size s.heap rfl
 have e2:((s.heap.push emptyDict).push (instObj C s.heap.objs.size)).get? (s.heap.objs.size+1)=some (instObj C s.heap.objs.size):=by
  have:=Heap.get?_push_size (s.heap.push emptyDict) (o:=instObj C s.heap.objs.size) rfl
  rwa [Heap.size_push]at this
 have e3:(s.heap.push emptyDict).Ns s.heap.objs.size (fun _=>none):=⟨emptyDict,#[],_,e1,rfl,(fun e he=>absurd he (by simp)),fun _=>rfl⟩
 have I1:=I.laid (a:=s.heap.objs.size) (o:=.own (s.heap.objs.size+1)) (h':=s.heap.push emptyDict) (t':=s.toks) (fun b u q=>Heap.get?_push_of_some _ q) (Nat.le_refl _) ⟨_,e1⟩
 refine I1.laid (a:=s.heap.objs.size+1) (o:=.ins C s.heap.objs.size []) (t':=s.toks) (fun b u q=>Heap.get?_push_of_some _ q) (le_of_eq (Heap.size_push _ _)) ?_
 have ne:s.heap.objs.size≠s.heap.objs.size+1:=ne_of_lt (lt_succ_self _)
 refine⟨by rw[ah ne,ak],zero_le _,ne,e2,fun _=>none,(Heap.Ns1.of_empty e3).at fun o q=>Heap.get?_push_of_some _ q,fun _=>True.intro,fun y hy=>absurd rfl hy⟩
theorem HK{prog:Program}{w:World}{env:Env}{e:Expr}{f:Str}{pos:Pos}{s:Shared}{Q:Value->Shared->Prop}(hb:attributeBase e f env (eval e env)=eval e env)
  (h:wpAny (model prog w) A (eval e env) (fun o s₁=>wpAny (model prog w) A (getAttr o f true) Q E s₁) E s):wpAny (model prog w) A (eval (.Attribute e f pos) env) Q E s:=
 Attribute_any_ h (by rw[arm_eval_Attribute,hb])
end
def Qh(K:PySem.W.Frag)(ta:TE)(f:Str):TE:=fun σ H Q=>ta σ H fun x H1=>∃a C dx fs v,x=.ref a/\H1 a=some (.ins C dx fs)/\DW K C/\dO K C f/\fs.lookup f=some v/\Q v H1
def Uu(K:PySem.W.Frag)(ta tv:TE)(f:Str):TS:=fun D σ H=>tv σ H fun y H1=>ta σ H1 fun x H2=>∃a C dx fs,x=.ref a/\H2 a=some (.ins C dx fs)/\DW K C/\dO K C f/\fs.length<1000/\
 D.nx σ (upd H2 a (.ins C dx (jd f y fs)))
section
variable{X:Cx}{o e value:Expr}{f:Str}{pos pos' Uv:Pos}{ta tv:TE}
theorem bc(he:PE X e ta)(hb:attributeBase e f X.env (eval e X.env)=eval e X.env):PE X (.Attribute e f pos) (Qh X.K ta f):=by
 intro pins s σ H Q I h
 refine HK hb (bz (he pins s σ H _ I h) fun u s1 ⟨x,H1,I1,rx,a,C,dx,fs,v,ex,ea,c,n,l,q⟩=>?_)
 subst ex
 obtain rfl:u=Value.ref a:=rx
 exact zI I1 ea c n l fun u' s2 I2 ru=>⟨v,H1,I2,ru,q⟩
theorem j3(ha:PE X o ta)(hv:PE X value tv)(hs:swapsWith value (some (.Attribute o f pos')) pos.line X.env=pure false):PS X (.Assign [.Attribute o f pos'] value pos) (Uu X.K ta tv f):=by
 intro pins s σ H D I h
 refine plainObj_wpAny_Assign_Attribute (bz (hv pins s σ H _ I h) fun u s1 ⟨y,H1,I1,ry,q⟩=>bz (ha pins s1 σ H1 _ I1 q) fun ov s2 ⟨x,H2,I2,rx,a,C,dx,fs,ex,ea,c,n,l,q2⟩=>?_) hs
 subst ex
 obtain rfl:ov=Value.ref a:=rx
 exact zJ I2 ea c n l ry fun s3 I3=>⟨σ,_,I3,q2⟩
end
section
variable{X:Cx}{pins:List (Addr×Obj)}{σ:St}{H:Hp}{s:Shared}{A:Around}{E:Value->Shared->Prop}{Q:Value->Shared->Prop}{c:Value}{b:Bool}
inductive rS (K:PySem.W.Frag) (H:Hp):V->Value->Prop where
 |non:rS K H .non (.type "NoneType")
 |bl (x:Bool):rS K H (.bl x) (.type "bool")
 |int (i:Int):rS K H (.int i) (.type "int")
 |str (x:Str):rS K H (.str x) (.type "str")
 |LM (x:UInt64):rS K H (.LM x) (.type "float")
 |lst {a:Addr} {xs:List V} (e:H a=some (.lst xs)):rS K H (.ref a) (.type "list")
 |uW {a:Addr} {o:Obj} {xs:List V} (e:H a=some (.uW o (.lst xs))):rS K H (.ref a) (.type "list")
 |tup {a:Addr} {xs:List V} (e:H a=some (.tup xs)):rS K H (.ref a) (.type "tuple")
 |dK {a:Addr} {kvs:List (Key×V)} (e:H a=some (.dK kvs)):rS K H (.ref a) (.type "dict")
 |dT {a:Addr} {kvs:List (List Key×V)} (e:H a=some (.dT kvs)):rS K H (.ref a) (.type "dict")
 |ins {a C dx:Addr} {fs:List (Str×V)} (e:H a=some (.ins C dx fs)) (cl:DW K C) (ha:findIn K (.ref C) "__class__"=some (some (.builtin "object.__class__")))
   (hn:PySem.W.specialIn K (.builtin "object.__class__") "__get__"=some (some (.builtin "getset_descriptor.__get__"))) (htk:PySem.W.takesIn K (.builtin "object.__class__")=some true)
   (hm:mroIn K C (.type "object")=some true):rS K H (.ref a) (.ref C)
theorem nH{x:V}{u t:Value}(I:Inv X pins σ H s)(rx:RelV x u)(ty:rS X.K H x t)(e:kitOne X.K t c=some b)(h:∀tk,Q (.bool b) {s with toks:=tk}):
  wpAny (model X.prog X.w) A (call (.builtin "isinstance") [u,c]) Q E s:=by
 cases ty with
 |non=>cases (show u=Value.none from rx);exact kia_one PySem.W.kitx_none I.qt True.intro e (fun z=>nomatch z) h
 |bl y=>cases (show u=Value.bool y from rx);exact kia_one PySem.W.kitx_bool I.qt True.intro e (fun z=>nomatch z) h
 |int i=>obtain⟨t,q⟩:=(show∃t,u=Value.int i t from rx);cases q;exact kia_one PySem.W.kitx_int I.qt True.intro e (fun z=>nomatch z) h
 |str y=>obtain⟨t,q⟩:=(show∃t,u=Value.str y t from rx);cases q;exact kia_one PySem.W.kitx_str I.qt True.intro e (fun z=>nomatch z) h
 |LM y=>obtain⟨t,q⟩:=(show∃t,u=Value.float y t from rx);cases q;exact kia_one PySem.W.kitx_float I.qt True.intro e (fun z=>nomatch z) h
 | @lst a xs ea=>
  cases (show u=Value.ref a from rx)
  obtain⟨_,_,n,_,h1⟩:=(show cu X.prog X.w H s.heap a (.lst xs)from I.hok a _ ea)
  exact kia_one kitx_list I.qt ⟨_,h1,rfl⟩ e (fun z=>nomatch z) h
 | @uW a ob xs ea=>
  cases (show u=Value.ref a from rx)
  obtain⟨_,_,_,n,_,h1⟩:=(show cu X.prog X.w H s.heap a (.uW ob (.lst xs))from I.hok a _ ea)
  exact kia_one kitx_list I.qt ⟨_,h1,rfl⟩ e (fun z=>nomatch z) h
 | @tup a xs ea=>
  cases (show u=Value.ref a from rx)
  obtain⟨_,_,_,p⟩:=(show cu X.prog X.w H s.heap a (.tup xs)from I.hok a _ ea)
  obtain⟨o,h1,h2,_⟩:=p
  exact kia_one kitx_tuple I.qt ⟨o,h1,h2⟩ e (fun z=>nomatch z) h
 | @dK a kvs ea=>
  cases (show u=Value.ref a from rx)
  obtain⟨_,_,vs,_,p⟩:=(show cu X.prog X.w H s.heap a (.dK kvs)from I.hok a _ ea)
  obtain⟨o,es,ep,h1,h2,_⟩:=p
  exact kia_one kitx_dict I.qt ⟨o,h1,h2.1⟩ e (fun z=>nomatch z) h
 | @dT a kvs ea=>
  cases (show u=Value.ref a from rx)
  obtain⟨_,_,xs,_,o,es,ep,h1,h2,_⟩:=(show cu X.prog X.w H s.heap a (.dT kvs)from I.hok a _ ea)
  exact kia_one kitx_dict I.qt ⟨o,h1,h2.1⟩ e (fun z=>nomatch z) h
 | @ins a C dx fs ea cl ha hn htk hm=>
  cases (show u=Value.ref a from rx)
  obtain⟨mA,O,_⟩:=sF I.hok ea
  obtain⟨od,J,_⟩:=O.look
  exact kia_one (PySem.W.kitx_own (cl.get _) cl.hd ha hn htk hm) I.qt J e (fun z=>nomatch z) h
end
end L2
namespace L2
open PySem PySem.Spec PyProof.Rows
structure aT(k:Nat)(A:Around):Prop where
 hd:A.handled=none
 dp:A.depth+3*k+5<recursionLimit
 un:A.units+16*k+200<cLine
theorem aT.mono {j k:Nat}{A:Around}(r:aT k A)(h:j<=k):aT j A:=⟨r.hd,by have:=r.dp;omega,by have:=r.un;omega⟩
theorem aT.deeper {k:Nat}{A:Around}(r:aT (k+1) A)(env:Env):aT k (A.deeper env):=
 ⟨r.hd,by have:=r.dp;show A.depth+1+3*k+5<_;omega,by have:=r.un;show A.units+3+16*k+200<_;omega⟩
theorem zK{A:Around}{C:Addr}{us:List Value}{kw:List (Str×Value)}:(A.under (.builtin "type.__call__" ⟨.ref C::us,kw⟩)).depth=A.depth+1:=by
 first|rfl|simp[Around.under,Code.weight,Code.isCreation,Code.isGuard,Code.isCaller,Code.frames,Code.isFrame,guardIds]
theorem zL{A:Around}{C:Addr}{us:List Value}{kw:List (Str×Value)}:(A.under (.builtin "type.__call__" ⟨.ref C::us,kw⟩)).units=A.units+1:=by
 first|rfl|simp[Around.under,Code.cUnits,Code.frames,Code.isFrame]
theorem aT.make {k:Nat}{A:Around}(r:aT (k+1) A)(C:Addr)(us:List Value)(kw:List (Str×Value)):aT k (A.under (.builtin "type.__call__" ⟨.ref C::us,kw⟩)):=
 ⟨r.hd,by have:=r.dp;rw[zK];omega,by have:=r.un;rw[zL];omega⟩
theorem aT.depth {k:Nat}{A:Around}(r:aT k A):A.depth<recursionLimit:=by have:=r.dp;omega
theorem aT.units {k:Nat}{A:Around}(r:aT k A):A.units+64<cLine:=by have:=r.un;omega
def HL:TA:=fun _ H Q=>Q [] H
def DX(ta:TE)(tr:TA):TA:=fun σ H Q=>ta σ H fun x H1=>tr σ H1 fun xs H2=>Q (x::xs) H2
section
variable{X:Cx}{e:Expr}{es:List Expr}{te:TE}{t:TA}{pos:Pos}
theorem aC:PA X [] HL:=fun _ _ _ _ H Q I h=>Calls.spliced_nil ⟨[],H,I,.nil,h⟩
theorem au(ha:PE X e te)(hr:PA X es t)(hs:starEach (e::es) X.env=(false,eval e X.env)::starEach es X.env:=by rfl):PA X (e::es) (DX te t):=by
 intro pos pins s σ H Q I h
 rw[hs]
 show wpAny _ _ (spliced ((false,eval e X.env)::backTo pos (starEach es X.env))) _ _ s
 refine Calls.spliced_cons (bz (ha pins s σ H _ I h) fun u s1 ⟨x,H1,I1,r1,q1⟩=>?_)
 exact bz (hr pos pins s1 σ H1 _ I1 q1) fun us s2 ⟨xs,H2,I2,r2,q2⟩=>⟨x::xs,H2,I2,.cons r1 r2,q2⟩
def Uw(t:TA):TE:=fun σ H Q=>t σ H fun xs H1=>xs.length<=sizeLine/\∀p,H1 p=none->Q (.ref p) (upd H1 p (.tup xs))
def Ux(t:TA):TE:=fun σ H Q=>t σ H fun xs H1=>xs.length<=sizeLine/\∀p,H1 p=none->Q (.ref p) (upd H1 p (.lst xs))
theorem qy{x1}(h:PA X es t):PE X (.Tuple es x1 pos) (Uw t):=by
 intro pins s σ H Q I hq
 refine wpAny_Tuple_spliced (bz (h pos pins s σ H _ I hq) fun us s1 ⟨xs,H1,I1,r,z,q⟩=>⟨by rw[<-r.length];exact z,?_⟩)
 have hf:H1 s1.heap.objs.size=none:=I1.hok.fresh (Nat.le_refl _)
 refine⟨.ref s1.heap.objs.size,upd H1 s1.heap.objs.size (.tup xs),I1.laid (t':=s1.toks) (fun b u e=>Heap.get?_push_of_some _ e) (Nat.le_refl _) ?_,rfl,q _ hf⟩
 exact⟨z,us,r,⟨_,Heap.get?_push_size _ rfl,rfl,_,rfl⟩⟩
theorem qz(h:PA X es t):PE X (.List es pos) (Ux t):=by
 intro pins s σ H Q I hq
 refine wpAny_List_spliced (bz (h pos pins s σ H _ I hq) fun us s1 ⟨xs,H1,I1,r,z,q⟩=>⟨by rw[<-r.length];exact z,?_⟩)
 have hf:H1 s1.heap.objs.size=none:=I1.hok.fresh (Nat.le_refl _)
 refine⟨.ref s1.heap.objs.size,upd H1 s1.heap.objs.size (.lst xs),I1.laid (t':=s1.toks) (fun b u e=>Heap.get?_push_of_some _ e) (Nat.le_refl _) ?_,rfl,q _ hf⟩
 exact⟨z,us,0,r,Heap.get?_push_size _ rfl⟩
end
abbrev Sp:=List V->Hp->VK->XK->Prop
abbrev Dq:=List Env->Hp->Shared->XK->Value->Shared->Prop
structure zM(P:Program)(w:World)(K:PySem.W.Frag)(mg:Str->Option Value)(base:Heap)(A:Around)(outer:List Env)(s:Shared)(H:Hp):Prop where
 frames:A.frames=some outer
 mod:Mod K mg base
 bs:∀b o,base.get? b=some o->s.heap.get? b=some o/\H b=none
 Cn:base.objs.size<=s.heap.objs.size
 o8:s.heap.FunFrames base outer
 Hs:∀b∈xN outer,H b=none
 hok:nE P w H s.heap
 bare:AllBare s.gens
def CE(outer:List Env)(P:Program)(w:World)(H:Hp)(s:Shared)(Q:VK)(u:Value)(s':Shared):Prop:=
 ∃v H',s'.os=s.os/\AllBare s'.gens/\Un (xN outer) [] H H' s.heap s'.heap/\nE P w H' s'.heap/\RelV v u/\Q v H'
def CR(CX:Dq)(outer:List Env)(P:Program)(w:World)(H:Hp)(s:Shared)(Q:VK)(E:XK)(r:Result)(s':Shared):Prop:=
 match r with
 |.ok (.ret u)=>CE outer P w H s Q u s'
 |.ok _=>False
 |.error e=>CX outer H s E e s'
structure bJ(P:Program)(w:World)(K:PySem.W.Frag)(mg:Str->Option Value)(base:Heap)(CX:Dq)(k:Nat)(f:Addr)(fd:FuncData)(ps:List Str)(sp:Sp):Prop where
 len:∀vs H Q E,sp vs H Q E->vs.length=ps.length
 run:∀(A:Around)(outer:List Env)(s:Shared)(H:Hp)(args:Args)(us:List Value)(vs:List V)(Q:VK)(E:XK),aT k A->zM P w K mg base A outer s H->BindsTo s fd args (ps.zip us)->Vals vs us->sp vs H Q E->
  codeAny (model P w) A (.call (.ref f) args) (CR CX outer P w H s Q E) s
theorem zM.make {P:Program}{w:World}{K:PySem.W.Frag}{mg:Str->Option Value}{base:Heap}{A:Around}{outer:List Env}{s:Shared}{H:Hp}(e:zM P w K mg base A outer s H)(C:Addr)(us:List Value)(kw:List (Str×Value)):
  zM P w K mg base (A.under (.builtin "type.__call__" ⟨.ref C::us,kw⟩)) outer s H:=⟨by first|exact e.frames|(simpa[Around.under,Code.envs,Code.isFrame,pushEnvs]using e.frames),e.mod,e.bs,e.Cn,e.o8,e.Hs,e.hok,e.bare⟩
section
variable{X:Cx}{pins:List (Addr×Obj)}{σ:St}{H:Hp}{s s':Shared}
theorem Inv.Qi (I:Inv X pins σ H s):zM X.prog X.w X.K X.mg X.base X.A X.stack s H:=
 ⟨I.ok.frames,I.ok.mod,I.bs,le_trans I.ok.Cn I.sz,I.stack,I.wF,I.hok,I.bare⟩
theorem Inv.after {Q:VK}{u:Value}(I:Inv X pins σ H s)(h:CE X.stack X.prog X.w H s Q u s'):EP X pins σ Q u s':=by
 obtain⟨v,H',os,bare,un,hok,r,q⟩:=h
 obtain⟨hh,g,d,t,hU⟩:=s'
 obtain rfl:hU=s.os:=os
 exact⟨v,H',I.call (h':=hh) (g':=g) (d':=d) (t':=t) (ch:=[]) un hok bare (fun b z=>absurd z (by simp)),r,q⟩
end
def Qj(sp:Sp)(uY:List V)(E:XK)(t:TA):TE:=fun σ H Q=>t σ H fun vs H1=>sp (vs++uY) H1 Q E
def JR(C:Addr)(m:Str)(sp:Sp)(uY:List V)(E:XK)(ta:TE)(t:TA):TE:=fun σ H Q=>ta σ H fun x H1=>∃a dx fs,x=.ref a/\H1 a=some (.ins C dx fs)/\fs.lookup m=none/\
 t σ H1 fun vs H2=>sp (x::(vs++uY)) H2 Q E
def Qk(C:Addr)(sp:Sp)(uY:List V)(E:XK)(t:TA):TE:=fun σ H Q=>t σ H fun vs H1=>∀x dx,H1 x=none->H1 dx=none->dx≠x->
 sp (.ref x::(vs++uY)) (upd (upd H1 dx (.own x)) x (.ins C dx [])) (fun v H2=>v=.non/\Q (.ref x) H2) E
def Binds(K:PySem.W.Frag)(fd:FuncData)(ps:List Str)(ds:List Value):Prop:=
 ∀(s:Shared)(us:List Value),K.In s.heap->(us++ds).length=ps.length->BindsTo s fd ⟨us,[]⟩ (ps.zip (us++ds))
theorem Binds.all {K:PySem.W.Frag}{fd:FuncData}{ps:List Str}(h:∀us:List Value,us.length=ps.length->bindArgs fd ⟨us,[]⟩=pure (ps.zip us)):Binds K fd ps []:=fun s us _ hl=>by
 rw[append_nil]at hl⊢
 exact .of_eq (h us hl)
def Passes(CX:Dq)(X:Cx)(E:XK):Prop:=∀(pins:List (Addr×Obj))(σ:St)(H:Hp)(s:Shared)(e:Value)(s':Shared),Inv X pins σ H s->CX X.stack H s E e s'->X.xe e s'
section
variable{X:Cx}{CX:Dq}{k:Nat}{f C:Addr}{fd:FuncData}{ps:List Str}{sp:Sp}{uY:List V}{ds:List Value}{E:XK}{x m:Str}{p pos apos:Pos}{e o:Expr}{es:List Expr}{ta:TE}{t:TA}
theorem zN{pins:List (Addr×Obj)}{σ:St}{H:Hp}{s:Shared}{Q:VK}{us:List Value}{vs:List V}(F:bJ X.prog X.w X.K X.mg X.base CX k f fd ps sp)(hr:aT k X.A)(hb:Binds X.K fd ps ds)(hd:Vals uY ds)(hx:Passes CX X E)
  (I:Inv X pins σ H s)(r:Vals vs us)(h:sp (vs++uY) H Q E):wpAny (model X.prog X.w) X.A (call (.ref f) us) (EP X pins σ Q) X.xe s:=by
 have r2:Vals (vs++uY) (us++ds):=r.append hd
 have hl:(us++ds).length=ps.length:=by rw[<-r2.length];exact F.len _ _ _ _ h
 refine wpAny_call (codeAny_mono (F.run X.A X.stack s H ⟨us,[]⟩ (us++ds) (vs++uY) Q E hr I.Qi (hb s us I.qt hl) r2 h) fun r s' hq=>?_)
 cases r with
 |error e=>exact hx pins σ H s e s' I hq
 |ok fl=>
  cases fl with
  |ret u=>exact I.after hq
  |next=>exact False.elim hq
  |brk=>exact False.elim hq
  |cont=>exact False.elim hq
theorem cU(F:bJ X.prog X.w X.K X.mg X.base CX k f fd ps sp)(hr:aT k X.A)(hg:Gl X x)(hm:X.mg x=some (.ref f))(hk:keepIn X.K (.ref f)=true)(hb:Binds X.K fd ps ds)(hd:Vals uY ds)(hx:Passes CX X E)
  (ha:PA X (e::es) t)(hdb:(x==("__debug__":Str))=false:=by decide)(he:starEach (e::es) X.env=(false,eval e X.env)::starEach es X.env:=by rfl)(hpl:(backTo pos (starEach es X.env)).any (·.1)=false:=by rfl):
  PE X (.Call (.Name x p) (e::es) [] pos) (Qj sp uY E t):=by
 intro pins s σ H Q I h
 refine wpAny_Call_Name_kw (wG I hg hm ?_ hdb)
 refine callWith_K (h₀:=X.base) I.ok.mod.PK hk (bz (ha pos pins s σ H _ I h) fun us s1 ⟨vs,H1,I1,r,q⟩=>⟨I1.qt,?_⟩) he hpl
 exact zN F hr hb hd hx I1 r q
theorem gJ{pl:Sem Bool}(he:PE X o ta)(c:DW X.K C)(hm:Meth X.K C m f)(F:bJ X.prog X.w X.K X.mg X.base CX k f fd ps sp)(hr:aT k X.A)(hb:Binds X.K fd ps ds)(hd:Vals uY ds)(hx:Passes CX X E)(ha:PA X (e::es) t)
  (hst:starEach (e::es) X.env=(false,eval e X.env)::starEach es X.env:=by rfl)(hpl:(backTo pos (starEach es X.env)).any (·.1)=false:=by rfl)
  (ht:eval (.Call (.Attribute o m apos) (e::es) [] pos) X.env=(do
   let ov<-eval o X.env
   standAt apos.atName
   let(f,first)<-holding [ov] (getMethod ov m pl)
   callWith pos f first (backTo pos (starEach (e::es) X.env)) (backToKw pos (keywordEach [] X.env))):=by rfl):
  PE X (.Call (.Attribute o m apos) (e::es) [] pos) (JR C m sp uY E ta t):=by
 intro pins s σ H Q I h
 refine methodCall_KW (pl:=pl) (bz (he pins s σ H _ I h) fun u s1 ⟨x,H1,I1,rx,a,dx,fs,ex,ea,l,q⟩=>?_) ht
 subst ex
 obtain rfl:u=Value.ref a:=rx
 refine tE I1 ea c hm l ?_
 refine callWith_K (first:=[.ref a]) (h₀:=X.base) I.ok.mod.PK hm.kp (bz (ha pos pins s1 σ H1 _ I1 q) fun us s2 ⟨vs,H2,I2,r,q2⟩=>⟨I2.qt,?_⟩) hst hpl
 exact zN (us:=.ref a::us) (vs:=.ref a::vs) F hr hb hd hx I2 (.cons rfl r) q2
theorem DY{pl:Sem Bool}(he:PE X o ta)(c:DW X.K C)(hm:Meth X.K C m f)(F:bJ X.prog X.w X.K X.mg X.base CX k f fd ps sp)(hr:aT k X.A)(hb:Binds X.K fd ps ds)(hd:Vals uY ds)(hx:Passes CX X E)
  (ht:eval (.Call (.Attribute o m apos) [] [] pos) X.env=(do
   let ov<-eval o X.env
   standAt apos.atName
   let(f,first)<-holding [ov] (getMethod ov m pl)
   callWith pos f first (backTo pos (starEach [] X.env)) (backToKw pos (keywordEach [] X.env))):=by rfl):
  PE X (.Call (.Attribute o m apos) [] [] pos) (JR C m sp uY E ta HL):=by
 intro pins s σ H Q I h
 refine methodCall_KW (pl:=pl) (bz (he pins s σ H _ I h) fun u s1 ⟨x,H1,I1,rx,a,dx,fs,ex,ea,l,q⟩=>?_) ht
 subst ex
 obtain rfl:u=Value.ref a:=rx
 refine tE I1 ea c hm l ?_
 exact PySem.W.callWith_K0 (first:=[.ref a]) I1.qt hm.kp (zN (us:=[.ref a]) (vs:=[.ref a]) F hr hb hd hx I1 (.cons rfl .nil) q)
structure Mk(K:PySem.W.Frag)(C f:Addr):Prop where
 makes:makesIn K C=true
 init:findIn K (.ref C) "__init__"=some (some (.ref f))
 fn:isFn K (.ref f)=true
 kp:keepIn K (.ref C)=true
theorem DZ{pins:List (Addr×Obj)}{σ:St}{H:Hp}{s:Shared}{Q:VK}{us:List Value}{vs:List V}(M:Mk X.K C f)(F:bJ X.prog X.w X.K X.mg X.base CX k f fd ps sp)(hr:aT (k+1) X.A)(hb:Binds X.K fd ps ds)(hd:Vals uY ds)
  (hx:Passes CX X E)(I:Inv X pins σ H s)(r:Vals vs us)
  (h:∀x dx,H x=none->H dx=none->dx≠x->sp (.ref x::(vs++uY)) (upd (upd H dx (.own x)) x (.ins C dx [])) (fun v H2=>v=.non/\Q (.ref x) H2) E):
  wpAny (model X.prog X.w) X.A (call (.ref C) us) (EP X pins σ Q) X.xe s:=by
 have hq:=h (s.heap.objs.size+1) s.heap.objs.size (I.hok.fresh (le_succ _)) (I.hok.fresh (Nat.le_refl _)) (ne_of_lt (lt_succ_self _))
 have I2:=Inv.made (C:=C) I
 have r2:Vals (V.ref (s.heap.objs.size+1)::(vs++uY)) (Value.ref (s.heap.objs.size+1)::(us++ds)):=.cons rfl (r.append hd)
 have hl:(Value.ref (s.heap.objs.size+1)::us++ds).length=ps.length:=by
  have e:=r2.length
  rw[F.len _ _ _ _ hq]at e
  exact e.symm
 refine wpAny_call (DV (f:=f) I.qt M.makes M.init (beq_iff_eq.mp M.fn) (codeAny_mono (F.run _ X.stack _ _ ⟨Value.ref (s.heap.objs.size+1)::us,[]⟩ (Value.ref (s.heap.objs.size+1)::(us++ds)) _ _ E (hr.make C us [])
  (I2.Qi.make C us []) (hb _ (Value.ref (s.heap.objs.size+1)::us) I2.qt hl) r2 hq) fun r s' HM=>?_))
 cases r with
 |error e=>exact hx pins σ _ _ e s' I2 HM
 |ok fl=>
  cases fl with
  |ret u=>
   obtain⟨v,H',I3,rv,ev,q3⟩:=I2.after HM
   subst ev
   exact⟨rv,⟨V.ref (s.heap.objs.size+1),H',I3,rfl,q3⟩⟩
  |next=>exact False.elim HM
  |brk=>exact False.elim HM
  |cont=>exact False.elim HM
theorem HN(M:Mk X.K C f)(F:bJ X.prog X.w X.K X.mg X.base CX k f fd ps sp)(hr:aT (k+1) X.A)(hg:Gl X x)(hm:X.mg x=some (.ref C))(hb:Binds X.K fd ps ds)(hd:Vals uY ds)(hx:Passes CX X E)
  (ha:PA X (e::es) t)(hdb:(x==("__debug__":Str))=false:=by decide)(he:starEach (e::es) X.env=(false,eval e X.env)::starEach es X.env:=by rfl)(hpl:(backTo pos (starEach es X.env)).any (·.1)=false:=by rfl):
  PE X (.Call (.Name x p) (e::es) [] pos) (Qk C sp uY E t):=by
 intro pins s σ H Q I h
 refine wpAny_Call_Name_kw (wG I hg hm ?_ hdb)
 refine callWith_K (h₀:=X.base) I.ok.mod.PK M.kp (bz (ha pos pins s σ H _ I h) fun us s1 ⟨vs,H1,I1,r,q⟩=>⟨I1.qt,?_⟩) he hpl
 exact DZ M F hr hb hd hx I1 r q
end
structure aw(N P:List Str)(sc:Scope):Prop where
 kind:sc.kind=.function
 co:sc.isCoroutine=false
 gen:sc.isGenerator=false
 nd:N.Nodup
 pre:N.take P.length=P
 par:∀x∈P,sc.names.lookup x=some .local\/sc.names.lookup x=some .cell
 Mh:∀y∈sc.names,y.2≠.free
theorem vE{kindOf:Str->Option NameKind}{x:Str}:∀{binds:List (Str×Value)}{m:Str->Option Value},(∀v,(x,v)∉binds)->bindL kindOf binds m x=m x
 |[],_,_=>rfl
 |(n,v)::r,m,h=>by
  unfold bindL
  rw[vE fun w hw=>h w (mem_cons_of_mem _ hw)]
  split
  ·have:x≠n:=by rintro rfl;exact h v mem_cons_self
   simp[this]
  ·rfl
theorem vG{kindOf:Str->Option NameKind}{x:Str}:∀{binds:List (Str×Value)}{m:Str->Option Value},(∀v,(x,v)∉binds)->bindC kindOf binds m x=m x
 |[],_,_=>rfl
 |(n,v)::r,m,h=>by
  unfold bindC
  rw[vG fun w hw=>h w (mem_cons_of_mem _ hw)]
  split
  ·rfl
  ·have:x≠n:=by rintro rfl;exact h v mem_cons_self
   simp[this]
theorem vH{kindOf:Str->Option NameKind}{x:Str}{v:Value}:∀{P:List Str}{vs:List Value}{i:Nat}{m:Str->Option Value},P.Nodup->P[i]?=some x->vs[i]?=some v->kindOf x=some .local->
  bindL kindOf (P.zip vs) m x=some v
 |[],_,_,_,_,h,_,_=>by simp at h
 |_::_,[],_,_,_,_,h,_=>by simp at h
 |p::P,w::vs,0,m,nd,h1,h2,hk=>by
  simp at h1 h2;subst h1;subst h2
  show bindL kindOf ((p,w)::P.zip vs) m p=_
  unfold bindL
  rw[vE fun v hv=>(nodup_cons.mp nd).1 (of_mem_zip hv).1,if_pos hk]
  simp
 |p::P,w::vs,i+1,m,nd,h1,h2,hk=>by
  show bindL kindOf ((p,w)::P.zip vs) m x=_
  unfold bindL
  exact vH (i:=i) (nodup_cons.mp nd).2 (by simpa using h1) (by simpa using h2) hk
theorem vI{kindOf:Str->Option NameKind}{x:Str}{v:Value}:∀{P:List Str}{vs:List Value}{i:Nat}{m:Str->Option Value},P.Nodup->P[i]?=some x->vs[i]?=some v->kindOf x≠some .local->
  bindC kindOf (P.zip vs) m x=some v
 |[],_,_,_,_,h,_,_=>by simp at h
 |_::_,[],_,_,_,_,h,_=>by simp at h
 |p::P,w::vs,0,m,nd,h1,h2,hk=>by
  simp at h1 h2;subst h1;subst h2
  show bindC kindOf ((p,w)::P.zip vs) m p=_
  unfold bindC
  rw[vG fun v hv=>(nodup_cons.mp nd).1 (of_mem_zip hv).1,if_neg hk]
  simp
 |p::P,w::vs,i+1,m,nd,h1,h2,hk=>by
  show bindC kindOf ((p,w)::P.zip vs) m x=_
  unfold bindC
  exact vI (i:=i) (nodup_cons.mp nd).2 (by simpa using h1) (by simpa using h2) hk
def start(N:List Str)(vs:List V):St:=vs.map some++replicate (N.length-vs.length) none
def oU(CX:Dq)(P:Program)(w:World)(K:PySem.W.Frag)(mg:Str->Option Value)(base:Heap)(N:List Str)(qual:Str)(scope:Scope)(f:Addr)(cd:Value)(A:Around)(outer:List Env)(s:Shared)(H:Hp)(E:XK):Cx where
 prog:=P
 w:=w
 K:=K
 mg:=mg
 base:=base
 A:=A.deeper (envOfC qual scope s.heap.objs.size f cd)
 N:=N
 s₀:=s
 H₀:=H
 env:=envOfC qual scope s.heap.objs.size f cd
 outer:=outer
 stack:=envOfC qual scope s.heap.objs.size f cd::outer
 ex:=[]
 calm:=true
 fn:=fun _=>true
 pn:=[]
 xe:=fun e s'=>wpAny (model P w) (A.deeper (envOfC qual scope s.heap.objs.size f cd)) (leaving (envOfC qual scope s.heap.objs.size f cd) e) (fun _ Uy=>CX outer H s E e Uy) (fun e' Uy=>CX outer H s E e' Uy) s'
theorem x8{sc:Scope}{n:Nat}{x:Str}(h:sc.names.lookup x=some .cell):∃c,(cellsFrom n sc.names []).lookup x=some c:=by
 have q:=cellsFrom_some sc.names n [] (.inl h)
 exact isSome_iff_exists.mp q
theorem CB{CX:Dq}{P:Program}{w:World}{K:PySem.W.Frag}{mg:Str->Option Value}{base:Heap}{N ps:List Str}{qual:Str}{scope:Scope}{f:Addr}{cd:Value}{A:Around}{outer:List Env}{s s1:Shared}{H:Hp}{E:XK}{us:List Value}{vs:List V}
  (S:aw N ps scope)(hd:A.handled=none)(e0:zM P w K mg base A outer s H)(hl:vs.length=ps.length)(r:Vals vs us)
  (x:InCallC s s.heap.objs.size (bindL (envOfC qual scope s.heap.objs.size f cd).kindOf (ps.zip us) fun _=>none) (cellsFrom (s.heap.objs.size+1) scope.names []) (bindC (envOfC qual scope s.heap.objs.size f cd).kindOf (ps.zip us) fun _=>none) s1):
  Inv (oU CX P w K mg base N qual scope f cd A outer s H E) [] (start N vs) H s1:=by
 have hpl:ps.length<=N.length:=by have:=congrArg length S.pre;rw[length_take]at this;omega
 obtain⟨h1,tk,rfl,hk⟩:=x.done
 have Ql:∀b:Addr,b∉(oU CX P w K mg base N qual scope f cd A outer s H E).ex:=fun b z=>absurd (show b∈([]:List Addr)from z) (by simp)
 refine⟨⟨e0.mod,S.kind,rfl,rfl,Nat.le_refl _,fun y z c h1 h2=>?_,fun y hy=>?_,fun y c _ h=>?_,fun _=>hd,Around.frames_deeper e0.frames,.inr ⟨rfl,rfl⟩,fun b z=>absurd z (Ql b),e0.bs,e0.Cn,fun b _ _=>Ql b,fun b z=>absurd z (Ql b),e0.o8,e0.Hs⟩,
  rfl,e0.bare,Un.kept hk,⟨_,x.toInCall.ns,fun i y v h1 h2 h3=>?_⟩,fun y c h=>⟨_,x.cell y c h⟩,e0.hok.fresh (Nat.le_refl _),fun y c h=>?_,fun p hp=>absurd (show p∈([]:List (Addr×Obj))from hp) (by simp),e0.hok.kept hk,?_⟩
 ·exact name_of_addr x.apart (PySem.mem_of_lookup h1) (PySem.mem_of_lookup h2)
 ·have hy:scope.names.lookup y=some .cell\/scope.names.lookup y=some .free:=hy
  rcases hy with hy|hy
  ·exact x8 hy
  ·exact absurd rfl (S.Mh _ (PySem.mem_of_lookup hy))
 ·exact le_of_lt (x.above y c (PySem.mem_of_lookup h))
 ·have hi:i<vs.length:=by
   unfold start at h2
   by_cases hi:i<vs.length
   ·exact hi
   ·rw[getElem?_append_right (by simpa using hi)]at h2
    rw[getElem?_replicate]at h2
    split at h2<;>cases h2
  have ha:vs[i]?=some v:=by
   unfold start at h2
   rw[getElem?_append_left (by simpa using hi),getElem?_map]at h2
   cases e:vs[i]? with
   |none=>rw[e]at h2;cases h2
   |some a=>rw[e]at h2;cases h2;rfl
  obtain⟨u,hu,rv⟩:=r.get ha
  have hp:ps[i]?=some y:=by
   rw[<-S.pre,List.getElem?_take_of_lt (by omega)];exact h1
  have XI:ps.Nodup:=by rw[<-S.pre];exact S.nd.sublist (List.take_sublist _ _)
  refine⟨u,rv,?_⟩
  rcases S.par y (mem_of_getElem? hp)with k|k
  ·exact .inl ⟨k,vH XI hp hu k⟩
  ·obtain⟨c,e⟩:=x8 (n:=s.heap.objs.size+1) k
   refine .inr ⟨.inl k,c,e,?_⟩
   have q:=x.cell y c e
   rw[vI XI hp hu (by show scope.names.lookup y≠_;rw[k];decide)]at q
   exact q
 ·exact e0.hok.fresh (le_of_lt (x.above y c (PySem.mem_of_lookup h)))
 ·unfold start
  show _=N.length
  rw[length_append,length_map,length_replicate]
  omega
theorem Qm{CX:Dq}{P:Program}{w:World}{K:PySem.W.Frag}{mg:Str->Option Value}{base:Heap}{k:Nat}{f:Addr}{name qual:Str}{params:Arguments}{body:List Stmt}{scope:Scope}{dV kV doc pm cdv ct oc:Value}{an od:Option Addr}
  {Dr:Array (Option Value)}{N ps:List Str}{sp:Sp}(lk:K.lookup f=some ⟨oc,od,.func (PySem.W.fnOf name qual params body scope dV kV doc pm an cdv ct),Dr⟩)(hcd:codeIn K cdv qual=true)(S:aw N ps scope)
  (len:∀vs H Q E,sp vs H Q E->vs.length=ps.length)
  (hbody:∀(A:Around)(outer:List Env)(s:Shared)(H:Hp)(vs:List V)(Q:VK)(E:XK),aT k (A.deeper (envOfC qual scope s.heap.objs.size f cdv))->sp vs H Q E->
   ∃t,oN (oU CX P w K mg base N qual scope f cdv A outer s H E) body t/\t {nx:=fun _ H'=>Q .non H',rt:=Q} (start N vs) H):
  bJ P w K mg base CX (k+1) f (PySem.W.fnOf name qual params body scope dV kV doc pm an cdv ct) ps sp:=by
 refine⟨len,fun A outer s H args us vs Q E hr e0 hb r wI=>?_⟩
 have hl:=len _ _ _ _ wI
 have KX:K.In s.heap:=e0.mod.PK.keeps fun b o e=>(e0.bs b o e).1
 have lim:s.heap.NoLimit:=e0.mod.nolimit.keeps fun b o e=>(e0.bs b o e).1
 have hkind:∀y∈ps.zip us,scope.names.lookup y.1=some .local\/(scope.names.lookup y.1=some .cell/\((cellsFrom (s.heap.objs.size+1) scope.names []).lookup y.1).isSome=true):=fun⟨n,v⟩ hy=>by
  rcases S.par n (of_mem_zip hy).1 with q|q
  ·exact .inl q
  ·exact .inr ⟨q,cellsFrom_some _ _ _ (.inl q)⟩
 refine codeAny_call_function hr.depth (KX _ _ lk) rfl S.co S.gen rfl (PySem.W.codeRec_of KX hcd) (hb _ _ _ _ ?_)
 refine wpAny_newFunctionEnv_cells S.kind hkind fun env he s1 x=>?_
 subst he
 refine⟨lim.keeps x.toInCall.keep,codeAny_func ?_⟩
 obtain⟨t,ht,hq⟩:=hbody A outer s H vs Q E (hr.deeper _) wI
 have I:Inv (oU CX P w K mg base N qual scope f cdv A outer s H E) [] (start N vs) H s1:=CB S hr.hd e0 hl r x
 refine wpAny_mono (ht [] s1 (start N vs) H _ I hq) (fun fl s' hs=>?_) fun e s' hs=>hs
 have fin:∀{σ':St}{H':Hp}{v:V}{u:Value},Inv (oU CX P w K mg base N qual scope f cdv A outer s H E) [] σ' H' s'->RelV v u->Q v H'->CE outer P w H s Q u s':=
  fun{σ' H' v u} J rv q=>⟨v,H',J.os,J.bare,J.base,J.hok,rv,q⟩
 cases fl with
 |ret u=>
  obtain⟨v,σ',H',J,rv,q⟩:=hs
  exact fin J rv q
 |next=>
  obtain⟨σ',H',J,q⟩:=hs
  exact fin (v:=V.non) (u:=Value.none) J rfl q
 |brk=>
  obtain⟨_,_,_,q⟩:=hs
  exact False.elim q
 |cont=>
  obtain⟨_,_,_,q⟩:=hs
  exact False.elim q
end L2
namespace L2
open PySem PySem.Spec PyProof.Rows
section
variable{X:Cx}{x:Str}{p pos:Pos}{e:Expr}{es:List Expr}{t:TA}{id T:String}{r:List V->Hp->VK->Prop}
def Uz(r:List V->Hp->VK->Prop)(t:TA):TE:=fun σ H Q=>t σ H fun vs H1=>r vs H1 Q
theorem g4(hc:om X (.builtin id) r)(hg:Gl X x)(hm:X.mg x=none)(hv:bootBuiltins x=some (.builtin id))(ha:PA X (e::es) t)(hn:x≠"__name__":=by decide)(hdb:(x==("__debug__":Str))=false:=by decide)
  (he:starEach (e::es) X.env=(false,eval e X.env)::starEach es X.env:=by rfl)(hpl:(backTo pos (starEach es X.env)).any (·.1)=false:=by rfl):PE X (.Call (.Name x p) (e::es) [] pos) (Uz r t):=by
 intro pins s σ H Q I h
 refine wpAny_Call_Name_kw (dN I hg hm hv ?_ hn hdb)
 exact PyProof.Rows.callWith_builtin1 (bz (ha pos pins s σ H _ I h) fun us s1 ⟨vs,H1,I1,r1,q1⟩=>hc pins s1 σ H1 vs us Q I1 r1 q1) he hpl
theorem nJ(hc:om X (.type T) r)(hg:Gl X x)(hm:X.mg x=none)(hv:bootBuiltins x=some (.type T))(ha:PA X (e::es) t)(hn:x≠"__name__":=by decide)(hdb:(x==("__debug__":Str))=false:=by decide)
  (he:starEach (e::es) X.env=(false,eval e X.env)::starEach es X.env:=by rfl)(hpl:(backTo pos (starEach es X.env)).any (·.1)=false:=by rfl):PE X (.Call (.Name x p) (e::es) [] pos) (Uz r t):=by
 intro pins s σ H Q I h
 refine wpAny_Call_Name_kw (dN I hg hm hv ?_ hn hdb)
 exact PyProof.Rows.callWith_type1 (bz (ha pos pins s σ H _ I h) fun us s1 ⟨vs,H1,I1,r1,q1⟩=>hc pins s1 σ H1 vs us Q I1 r1 q1) he hpl
end
end L2
namespace HT
open PySem PyProof.Rows
section
open PySem.SeqAt
open PySem.AutoSeq1 (wpAny_loadPart')
open PySem.MeetsSeq PySem.MeetsSeq2 PySem.MeetsSeq3
end
section
variable{prog:Program}{w:World}{A:Around}{E:Value->Shared->Prop}{s:Shared}
def tH(n d:Nat):Option Int->Nat
 |none=>d
 |some v=>if v<0 then(v+(n:Int)).toNat else min v.toNat n
theorem my(n d:Nat):tH n d none=d:=rfl
theorem kQ(n d k:Nat):tH n d (some (k:Int))=min k n:=by
 show(if(k:Int)<0 then((k:Int)+(n:Int)).toNat else min (k:Int).toNat n)=min k n
 rw[if_neg (by omega),toNat_natCast]
end
end HT
namespace L2
open PySem PySem.Spec PyProof.Rows
abbrev TO:=St->Hp->(Option Int->Hp->Prop)->Prop
def PO(X:Cx)(e:Option Expr)(t:TO):Prop:=
 ∀(pins:List (Addr×Obj))(s:Shared)(σ:St)(H:Hp)(Q:Option Int->Hp->Prop),Inv X pins σ H s->t σ H Q->
  wpAny (model X.prog X.w) X.A (evalPart e X.env) (fun u s'=>∃o H',Inv X pins σ H' s'/\IsPart u o/\Q o H') X.xe s
def HP:TO:=fun _ H Q=>Q none H
def Qn(t:TE):TO:=fun σ H Q=>t σ H fun x H1=>∃i,x=.int i/\Q (some i) H1
theorem intsAre_of{ns:List Int}:∀{us:List Value},Vals (ns.map V.int) us->IntsAre us ns:=by
 induction ns with
 |nil=>intro us r;rw[map_nil]at r;cases r;exact .nil
 |cons n ns ih=>
  intro us r
  rw[map_cons]at r
  cases r with
  |cons r1 r2=>
   obtain⟨t,e⟩:=r1
   subst e
   exact .cons n t (ih r2)
section
variable{X:Cx}{e:Expr}{te:TE}{lo hi:Option Expr}{tl th:TO}{pos p2:Pos}
theorem AU:PO X none HP:=by
 intro pins s σ H Q I h
 rw[evalPart_none]
 exact wpAny_pure ⟨none,H,I,.none,h⟩
theorem AV(h:PE X e te):PO X (some e) (Qn te):=by
 intro pins s σ H Q I hw
 rw[evalPart_some]
 refine bz (h pins s σ H _ I hw) fun u s1 ⟨x,H1,I1,r1,q1⟩=>?_
 obtain⟨i,rfl,q⟩:=q1
 obtain⟨t,rfl⟩:=r1
 exact⟨some i,H1,I1,.int i t,q⟩
def XJ(X:Cx)(r:V->Option Int->Option Int->Hp->VK->Prop):Prop:=
 ∀(pins:List (Addr×Obj))(s:Shared)(σ:St)(H:Hp)(x:V)(v vl vu:Value)(lo hi:Option Int)(sl:Addr)(Q:VK),Inv X pins σ H s->RelV x v->s.heap.IsSliceOf sl vl vu .none->IsPart vl lo->IsPart vu hi->r x lo hi H Q->
  ∃T id,typeLookup (.type T) "__getitem__"=pure (some (.builtin id))/\s.TypeIs v T/\wpAny (model X.prog X.w) X.A (getItem v (.ref sl)) (EP X pins σ Q) X.xe s
def ZI(r:V->Option Int->Option Int->Hp->VK->Prop)(te:TE)(tl th:TO):TE:=fun σ H Q=>te σ H fun x H1=>tl σ H1 fun l H2=>th σ H2 fun u H3=>r x l u H3 Q
theorem x9{r:V->Option Int->Option Int->Hp->VK->Prop}(hr:XJ X r)(he:PE X e te)(hl:PO X lo tl)(hu:PO X hi th):PE X (.Subscript e (.Slice lo hi none p2) pos) (ZI r te tl th):=by
 intro pins s σ H Q I h
 refine Subscript_ (bz (he pins s σ H _ I h) fun v s1 ⟨x,H1,I1,r1,q1⟩=>?_)
 refine wpAny_Slice (bz (hl pins s1 σ H1 _ I1 q1) fun vl s2 ⟨l,H2,I2,pl,q2⟩=>bz (hu pins s2 σ H2 _ I2 q2) fun vu s3 ⟨u,H3,I3,pu,q3⟩=>?_)
 rw[evalPart_none]
 refine wpAny_pure ?_
 have I4:Inv X pins σ H3 {s3 with heap:=s3.heap.push {cls:=.type "slice",data:=.fields #[vl,vu,.none]}}:=I3.kept (t':=s3.toks) fun b ob q=>Heap.get?_push_of_some _ q
 obtain⟨T,id,hT,ht,hg⟩:=hr pins {s3 with heap:=s3.heap.push {cls:=.type "slice",data:=.fields #[vl,vu,.none]}} σ H3 x v vl vu l u s3.heap.objs.size Q I4 r1 (Heap.IsSliceOf.new ..) pl pu q3
 show wpAny (model X.prog X.w) X.A (subscriptTail e (.Slice lo hi none p2) v (.ref s3.heap.objs.size)) (EP X pins σ Q) X.xe {s3 with heap:=s3.heap.push {cls:=.type "slice",data:=.fields #[vl,vu,.none]}}
 exact tail_any (ops:=[.ref s3.heap.objs.size,v]) ht hT hg (by with_unfolding_all rfl)
def uZ(xs:List V)(lo hi:Option Int):List V:=(xs.drop (HT.tH xs.length 0 lo)).take (HT.tH xs.length xs.length hi-HT.tH xs.length 0 lo)
theorem ya(xs:List V)(lo hi:Option Int):(uZ xs lo hi).length<=xs.length:=by
 unfold uZ
 rw[length_take,length_drop]
 omega
end
end L2
namespace L2
open PySem PySem.Spec PyProof.Rows
def o6(n:Nat)(i:Int):Option Nat:=if 0<=i then(if i<n then some i.toNat else none)else if-(n:Int)<=i then some (i+n).toNat else none
def iP{α:Type}(xs:List α)(i:Int):Option α:=(o6 xs.length i).bind fun j=>xs[j]?
theorem AW{n:Nat}{i:Int}{j:Nat}(h:o6 n i=some j):seqIndex? i n=some j/\j<n/\ -(n:Int)<=i/\i<n:=by
 unfold o6 at h
 by_cases h0:0<=i
 ·rw[if_pos h0]at h
  by_cases h1:i<n
  ·rw[if_pos h1]at h
   have e:i.toNat=j:=Option.some.inj h
   exact⟨by rw[seqIndex_of h0 h1,e],by omega,by omega,h1⟩
  ·rw[if_neg h1]at h;cases h
 ·rw[if_neg h0]at h
  by_cases h1: -(n:Int)<=i
  ·rw[if_pos h1]at h
   have e:(i+n).toNat=j:=Option.some.inj h
   exact⟨by rw[seqIndex_neg (by omega) h1,e],by omega,h1,by omega⟩
  ·rw[if_neg h1]at h;cases h
theorem wJ{α:Type}{xs:List α}{i:Int}{v:α}(h:iP xs i=some v):∃j,seqIndex? i xs.length=some j/\xs[j]?=some v/\j<xs.length/\ -(xs.length:Int)<=i/\i<xs.length:=by
 unfold iP at h
 cases e:o6 xs.length i with
 |none=>rw[e]at h;cases h
 |some j=>
  rw[e]at h
  obtain⟨h1,h2,h3,h4⟩:=AW e
  exact⟨j,h1,h,h2,h3,h4⟩
theorem gK{α:Type}{xs:List α}{j:Nat}{v:α}(h:xs[j]?=some v):iP xs (j:Int)=some v:=by
 have hj:j<xs.length:=(List.getElem?_eq_some_iff.mp h).1
 have e:o6 xs.length (j:Int)=some j:=by
  unfold o6
  rw[if_pos (by omega),if_pos (by omega)];simp
 unfold iP;rw[e];exact h
theorem tJ{α:Type}(xs:List α)(v:α):iP (xs++[v]) (-1)=some v:=by
 have hl:(xs++[v]).length=xs.length+1:=by simp
 have e:o6 (xs++[v]).length (-1)=some xs.length:=by
  unfold o6
  rw[hl,if_neg (by decide),if_pos (by omega)]
  congr 1
  omega
 unfold iP
 rw[e]
 show(xs++[v])[xs.length]?=some v
 simp
def sG(b:Expr):Prop:=∀o i,subscripted b false o i=operate [o,i] (getItem o i)
def HQ(X:Cx)(r:R2):Prop:=
 ∀(value slice:Expr)(pins:List (Addr×Obj))(s:Shared)(σ:St)(H:Hp)(x y:V)(v u:Value)(Q:VK),Inv X pins σ H s->RelV x v->RelV y u->r x y H Q->
  subscripted slice false v u=operate [v,u] (getItem v u)->wpAny (model X.prog X.w) X.A (subscriptTail value slice v u) (EP X pins σ Q) X.xe s
def S5(X:Cx)(id:String)(r:V->List V->Hp->VK->Prop):Prop:=
 ∀(pins:List (Addr×Obj))(s:Shared)(σ:St)(H:Hp)(x:V)(xs:List V)(v:Value)(us:List Value)(Q:VK),Inv X pins σ H s->RelV x v->Vals xs us->r x xs H Q->
  wpAny (model X.prog X.w) X.A (call (.builtin id) (v::us)) (EP X pins σ Q) X.xe s
section
variable{X:Cx}{a b:Expr}{ta tb:TE}{pos:Pos}
theorem HQ.or {r r':R2}(h:HQ X r)(h':HQ X r'):HQ X (fun x y H Q=>r x y H Q\/r' x y H Q):=by
 intro value slice pins s σ H x y v u Q I rx ry q hs
 rcases q with q|q
 ·exact h value slice pins s σ H x y v u Q I rx ry q hs
 ·exact h' value slice pins s σ H x y v u Q I rx ry q hs
theorem gx{r:R2}(hr:HQ X r)(ha:PE X a ta)(hb:PE X b tb)(hs:sG b):PE X (.Subscript a b pos) (P9 r ta tb):=by
 intro pins s σ H Q I h
 exact Subscript_ (Ma ha hb I h fun v u s2 x y H2 I2 rx ry q=>hr a b pins s2 σ H2 x y v u Q I2 rx ry q (hs _ _))
def Mi(K:PySem.W.Frag):R2:=fun x y H Q=>∃p xs i v,x=.ref p/\y=.int i/\bW K H p xs/\iP xs i=some v/\Q v H
def Qo(K:PySem.W.Frag):R2:=fun x y H Q=>∃p xs i v,x=.ref p/\y=.int i/\xZ K H p xs/\iP xs i=some v/\Q v H
def Qp:R2:=fun x y H Q=>∃z i c,x=.str z/\y=.int i/\z.length<=sizeLine/\iP z.cps.toList i=some c/\Q (.str ⟨#[c]⟩) H
theorem cJ:HQ X (Mi X.K):=by
 intro value slice pins s σ H x y v u Q I rx ry h hs
 obtain⟨p,xs,i,z,rfl,rfl,hq,he,q⟩:=h
 cases rx
 obtain⟨t,rfl⟩:=ry
 obtain⟨its,r,pl,hz⟩:=I.list hq
 obtain⟨j,h1,h2,h3,h4,h5⟩:=wJ he
 obtain⟨w,ew,mr⟩:=r.get h2
 have hl:=r.length
 have hn:=oQ
 have fin:EP X pins σ Q w s:=⟨z,H,I,mr,q⟩
 by_cases h0:0<=i
 ·have hj:i.toNat=j:=by
   rw[seqIndex_of h0 h5]at h1
   exact Option.some.inj h1
  exact item_listR pl.isList h0 (by omega) (by rw[hj];simpa using ew) fin hs
 ·have hj:(i+(its.toArray.size:Int)).toNat=j:=by
   rw[seqIndex_neg (by omega) h4]at h1
   rw[size_toArray,<-hl]
   exact Option.some.inj h1
  exact subscriptTail_builtinR (x:=w) pl.isList.typeIs slot_list_getitem.lookup
   (wpAny_getItem_list_neg (Q:=fun r s'=>r=w/\EP X pins σ Q r s') pl.isList (by omega) (by rw[size_toArray]<;>omega) (by omega) (by rw[hj];simpa using ew) ⟨rfl,fin⟩) hs
theorem wK:HQ X (Qo X.K):=by
 intro value slice pins s σ H x y v u Q I rx ry h hs
 obtain⟨p,xs,i,z,rfl,rfl,hq,he,q⟩:=h
 cases rx
 obtain⟨t,rfl⟩:=ry
 obtain⟨its,r,pl,hz⟩:=I.tuple hq
 obtain⟨j,h1,h2,h3,h4,h5⟩:=wJ he
 obtain⟨w,ew,mr⟩:=r.get h2
 have hl:=r.length
 have hn:=oQ
 have fin:EP X pins σ Q w s:=⟨z,H,I,mr,q⟩
 exact subscriptTail_builtinR (x:=w) pl.typeIs slot_tuple_getitem.lookup
  (getItem_tuple (j:=j) (Q:=fun r s'=>r=w/\EP X pins σ Q r s') pl (by omega) (by omega) (by rw[size_toArray,<-hl];exact h1) (by simpa using ew) ⟨rfl,fin⟩) hs
theorem Mj:HQ X Qp:=by
 intro value slice pins s σ H x y v u Q I rx ry h hs
 obtain⟨z,i,c,rfl,rfl,hz,he,q⟩:=h
 obtain⟨t,rfl⟩:=rx
 obtain⟨t',rfl⟩:=ry
 obtain⟨j,h1,h2,h3,h4,h5⟩:=wJ he
 have hl:z.cps.toList.length=z.length:=by simp[Str.length]
 rw[hl]at h1 h4 h5
 have hn:=oQ
 exact tail_any (typeIs_str s z t) slot_str_getitem.lookup (getItem_str (c:=c) (by
  have e1:decide (i< -(2^63:Int))=false:=decide_eq_false (by omega)
  have e2:decide (i>=2^63)=false:=decide_eq_false (by omega)
  rw[e1,e2,Bool.or_false]) (by rw[h1];simpa using h2) ⟨.str ⟨#[c]⟩,H,I.tok _,⟨_,rfl⟩,q⟩) hs
def ZJ(K:PySem.W.Frag):R2:=fun x y H Q=>Mi K x y H Q\/Qo K x y H Q\/Qp x y H Q
theorem Ml:HQ X (ZJ X.K):=cJ.or (wK.or Mj)
theorem zO(its:List Value)(n j:Nat)(u:Value):Obj.mapSeq (·.setIfInBounds j u) {cls:=.type "list",data:=.seq its.toArray n}={cls:=.type "list",data:=.seq (its.set j u).toArray n}:=by
 simp[Obj.mapSeq]
theorem Inv.lst {pins:List (Addr×Obj)}{σ:St}{H:Hp}{s:Shared}{p:Addr}{xs:List V}(I:Inv X pins σ H s)(h:H p=some (.lst xs)):
  ∃(its:List Value)(n:Nat),Vals xs its/\s.heap.get? p=some {cls:=.type "list",data:=.seq its.toArray n}/\xs.length<=sizeLine:=by
 obtain⟨z,its,n,r,e⟩:=I.hok p _ h
 exact⟨its,n,r,e,z⟩
theorem Inv.Mm {pins:List (Addr×Obj)}{σ:St}{H:Hp}{s:Shared}{p:Addr}{xs ys:List V}{its its':List Value}{n n':Nat}{f:Obj->Obj}(I:Inv X pins σ H s)(h:H p=some (.lst xs))
  (ho:s.heap.get? p=some {cls:=.type "list",data:=.seq its.toArray n})(hf:f {cls:=.type "list",data:=.seq its.toArray n}={cls:=.type "list",data:=.seq its'.toArray n'})(r:Vals ys its')(hz:ys.length<=sizeLine)(t:Nat):
  Inv X pins σ (upd H p (.lst ys)) {s with heap:=s.heap.update p f,toks:=t}:=by
 have e:(s.heap.update p f).get? p=some {cls:=.type "list",data:=.seq its'.toArray n'}:=by
  rw[Heap.get?_update_self f ho (by rw[hf]<;>rfl),hf]
 refine I.write (x:=p) (e:=p) (by rw[h];trivial) (.inl rfl) (fun b u hb q=>(Heap.get?_update_other _ _ (Ne.symm hb)).trans q) ⟨_,e⟩ ?_
 exact⟨hz,its',n',r,e⟩
def Qq:V->V->V->Hp->(Hp->Prop)->Prop:=fun o i v H Q=>∃p xs k j,o=.ref p/\i=.int k/\H p=some (.lst xs)/\o6 xs.length k=some j/\Q (upd H p (.lst (xs.set j v)))
theorem set_list:PX X Qq:=by
 intro pins s σ H o i v ov iv u Q I ro ri rv h
 obtain⟨p,xs,k,j,rfl,rfl,hp,hj,q⟩:=h
 cases ro
 obtain⟨t,rfl⟩:=ri
 obtain⟨its,n,r,ho,hz⟩:=I.lst hp
 obtain⟨h1,h2,h3,h4⟩:=AW hj
 have hl:=r.length
 have hn:=oQ
 have I':Inv X pins σ (upd H p (.lst (xs.set j v))) {s with heap:=s.heap.update p (Obj.mapSeq (·.setIfInBounds j u))}:=
  I.Mm hp ho (zO its n j u) (r.set rv j) (by rw[length_set];exact hz) s.toks
 by_cases h0:0<=k
 ·have hk:k.toNat=j:=by
   rw[seqIndex_of h0 h4]at h1
   exact Option.some.inj h1
  exact PySem.W.ki_setAt ho h0 (by omega) (by rw[size_toArray,<-hl];exact h4) (by rw[hk];exact⟨_,I',q⟩)
 ·have hk:(k+(its.toArray.size:Int)).toNat=j:=by
   rw[seqIndex_neg (by omega) h3]at h1
   rw[size_toArray,<-hl]
   exact Option.some.inj h1
  exact PySem.W.ki_setBack ho (by omega) (by rw[size_toArray,<-hl];exact h3) (by omega) (by rw[hk];exact⟨_,I',q⟩)
theorem wL(lo hi:Option Int)(n:Nat):(sliceBounds lo hi none n).1=((HT.tH n 0 lo:Nat):Int)/\(sliceBounds lo hi none n).2.1=((HT.tH n n hi:Nat):Int)/\(sliceBounds lo hi none n).2.2=1:=by
 refine⟨?_,?_,rfl⟩
 ·cases lo with
  |none=>simp[sliceBounds,HT.tH]
  |some i=>
   simp only [sliceBounds,HT.tH,getD_none,show(1:Int)>0 by decide,if_true]
   by_cases h:i<0
   ·simp only [h,if_true]<;>omega
   ·simp only [h,if_false]<;>omega
 ·cases hi with
  |none=>simp[sliceBounds,HT.tH]
  |some i=>
   simp only [sliceBounds,HT.tH,getD_none,show(1:Int)>0 by decide,if_true]
   by_cases h:i<0
   ·simp only [h,if_true]<;>omega
   ·simp only [h,if_false]<;>omega
theorem u9(its:List Value)(lo hi:Option Int):slicePick its.toArray lo hi none=((its.drop (HT.tH its.length 0 lo)).take (HT.tH its.length its.length hi-HT.tH its.length 0 lo)).toArray:=by
 obtain⟨h1,h2,h3⟩:=wL lo hi its.toArray.size
 unfold slicePick
 rw[h1,h2,h3]
 simp only [sliceRange_one,pick_run,size_toArray]<;>rfl
def UA(K:PySem.W.Frag):V->Option Int->Option Int->Hp->VK->Prop:=fun x lo hi H Q=>∃a xs,x=.ref a/\bW K H a xs/\∀p,H p=none->Q (.ref p) (upd H p (.lst (uZ xs lo hi)))
theorem AX:XJ X (UA X.K):=by
 intro pins s σ H x v vl vu lo hi sl Q I rx hs pl pu h
 obtain⟨a,xs,rfl,hx,q⟩:=h
 cases rx
 obtain⟨its,r,ht,hz⟩:=I.list hx
 have hlen:=r.length
 refine⟨"list",_,slot_list_getitem.lookup,ht.isList.typeIs,?_⟩
 refine wpAny_getItem_list_slice ht.isList hs pl pu .none (by simp) ?_ (by rw[size_toArray]<;>omega)
 rw[u9,<-hlen]
 refine⟨.ref s.heap.objs.size,_,I.laid (t':=s.toks) (o:=.lst (uZ xs lo hi)) (fun b ob q=>Heap.get?_push_of_some _ q) (Nat.le_refl _) ?_,rfl,q _ (I.hok.fresh (Nat.le_refl _))⟩
 exact⟨le_trans (ya xs lo hi) hz,_,0,(r.drop (HT.tH xs.length 0 lo)).take (HT.tH xs.length xs.length hi-HT.tH xs.length 0 lo),Heap.get?_push_size _ rfl⟩
theorem kR:om X (.builtin "len") (fun xs H Q=>∃p ys,xs=[.ref p]/\(bW X.K H p ys\/xZ X.K H p ys)/\Q (.int ys.length) H):=by
 intro pins s σ H xs us Q I r h
 obtain⟨p,ys,rfl,hq,q⟩:=h
 obtain⟨u,rfl,rx⟩:=vals1 r
 cases rx
 have hn:=oQ
 rcases hq with hq|hq
 ·obtain⟨its,r',pl,hz⟩:=I.list hq
  have hlen:=r'.length
  exact Calls.call_len_list pl.isList (by simp only [size_toArray]<;>omega) ⟨.int ys.length,H,I.tok _,⟨s.toks+1,by rw[size_toArray,hlen]⟩,q⟩
 ·obtain⟨its,r',pl,hz⟩:=I.tuple hq
  have hlen:=r'.length
  exact len_tuple pl (by simp only [size_toArray]<;>omega) ⟨.int ys.length,H,I.tok _,⟨s.toks+1,by rw[size_toArray,hlen]⟩,q⟩
theorem kT:om X (.type "list") (fun xs H Q=>∃p ys,xs=[.ref p]/\(bW X.K H p ys\/xZ X.K H p ys)/\∀l,H l=none->Q (.ref l) (upd H l (.lst ys))):=by
 intro pins s σ H xs us Q I r h
 obtain⟨p,ys,rfl,hq,q⟩:=h
 obtain⟨u,rfl,rx⟩:=vals1 r
 cases rx
 have fin:∀(its:List Value),Vals ys its->ys.length<=sizeLine->∀(h':Heap)(c':Nat),(∀b o',s.heap.get? b=some o'->h'.get? b=some o')->
   h'.get? s.heap.objs.size=some {cls:=.type "list",dict:=none,data:=.seq its.toArray c',slots:=#[]}->EP X pins σ Q (.ref s.heap.objs.size) {s with heap:=h'}:=fun its r' hz h' c' kp e=>
  ⟨.ref s.heap.objs.size,_,I.laid (t':=s.toks) kp (Nat.le_refl _) (show cu X.prog X.w _ h' _ (.lst ys)from⟨hz,its,c',r',e⟩),rfl,q _ (I.hok.fresh (Nat.le_refl _))⟩
 rcases hq with hq|hq
 ·obtain⟨its,r',pl,hz⟩:=I.list hq
  have hlen:=r'.length
  obtain⟨o,ho,hc,n,hd⟩:=pl.isList
  exact call_list_seq p (.inl rfl) ho hc hd (fun h' c' kp e=>fin its r' hz h' c' kp e) (by simp only [size_toArray]<;>omega)
 ·obtain⟨its,r',pl,hz⟩:=I.tuple hq
  have hlen:=r'.length
  obtain⟨o,ho,hc,n,hd⟩:=pl
  exact call_list_seq p (.inr rfl) ho hc hd (fun h' c' kp e=>fin its r' hz h' c' kp e) (by simp only [size_toArray]<;>omega)
theorem vc:om X (.type "tuple") (fun xs H Q=>∃p ys,xs=[.ref p]/\((bW X.K H p ys/\∀l,H l=none->Q (.ref l) (upd H l (.tup ys)))\/(xZ X.K H p ys/\Q (.ref p) H))):=by
 intro pins s σ H xs us Q I r h
 obtain⟨p,ys,rfl,h⟩:=h
 obtain⟨u,rfl,rx⟩:=vals1 r
 cases rx
 rcases h with⟨hq,q⟩|⟨hq,q⟩
 ·obtain⟨its,r',pl,hz⟩:=I.list hq
  have hlen:=r'.length
  refine call_tuple_list pl.isList (fun h' kp=>?_) (by simp only [size_toArray]<;>omega)
  have I1:Inv X pins σ H {s with heap:=h'}:=I.kept (t':=s.toks) kp
  have I2:Inv X pins σ (upd H h'.objs.size (.tup ys)) {s with heap:=h'.push {cls:=.type "tuple",data:=.seq its.toArray}}:=
   I1.laid (t':=s.toks) (fun b o e=>Heap.get?_push_of_some _ e) (Nat.le_refl _) (show cu X.prog X.w _ _ _ (.tup ys)from⟨hz,its,r',IsTup.new _ _⟩)
  exact⟨.ref h'.objs.size,_,I2,rfl,q _ (I1.hok.fresh (Nat.le_refl _))⟩
 ·obtain⟨its,r',pl,hz⟩:=I.tuple hq
  exact call_tuple_same pl ⟨.ref p,H,I,rfl,q⟩
def UB(K:PySem.W.Frag)(T:String)(x:V)(H:Hp):Prop:=match x with
 |.str _=>T="str"
 |.int _=>T="int"
 |.ref p=>(T="list"/\∃xs,bW K H p xs)\/(T="tuple"/\∃o,K.lookup p=some o/\o.cls=.type "tuple"/\o.dict=none)\/
   (T="dict"/\((∃kvs,H p=some (.dK kvs))\/∃kvs,H p=some (.dT kvs)))\/(T="set"/\∃S n,H p=some (.set S n))
 |_=>False
theorem D0{pins:List (Addr×Obj)}{σ:St}{H:Hp}{s:Shared}{T:String}{x:V}{v:Value}(I:Inv X pins σ H s)(r:RelV x v)(ty:UB X.K T x H):
  s.TypeIs v T/\∀a,v=.ref a->∃ob,s.heap.get? a=some ob/\ob.dict=none:=by
 cases x with
 |str z=>
  obtain⟨t,rfl⟩:=r
  cases (show T="str" from ty)
  exact⟨typeIs_str s z t,fun _ e=>nomatch e⟩
 |int i=>
  obtain⟨t,rfl⟩:=r
  cases (show T="int" from ty)
  exact⟨typeIs_int s i t,fun _ e=>nomatch e⟩
 |ref p=>
  cases r
  rcases ty with⟨rfl,xs,hq⟩|⟨rfl,o,hk,hc,hd⟩|⟨rfl,hk⟩|⟨rfl,S,n,hk⟩
  ·obtain⟨its,_,pl,_⟩:=I.list hq
   refine⟨pl.isList.typeIs,fun a e=>?_⟩
   cases e
   obtain⟨o,n,e,c,hd,_⟩:=pl
   exact⟨o,e,hd⟩
  ·refine⟨⟨o,I.qt p o hk,hc⟩,fun a e=>?_⟩
   cases e
   exact⟨o,I.qt _ o hk,hd⟩
  ·have z:∃o,s.heap.get? p=some o/\o.ExactDict:=by
    rcases hk with⟨kvs,hk⟩|⟨kvs,hk⟩
    ·obtain⟨_,_,_,_,o,_,_,e,ex,_⟩:=I.hok p _ hk
     exact⟨o,e,ex⟩
    ·obtain⟨_,_,_,_,o,_,_,e,ex,_⟩:=I.hok p _ hk
     exact⟨o,e,ex⟩
   obtain⟨o,e,ex⟩:=z
   refine⟨⟨o,e,ex.1⟩,fun a e2=>?_⟩
   cases e2
   exact⟨o,e,ex.2.1⟩
  ·obtain⟨o,_,_,_,e,ex,_⟩:=I.hok p _ hk
   refine⟨⟨o,e,ex.1⟩,fun a e2=>?_⟩
   cases e2
   exact⟨o,e,ex.2.1⟩
 |_=>exact False.elim ty
def UC(K:PySem.W.Frag)(T:String)(r:V->List V->Hp->VK->Prop)(to:TE):TE:=fun σ H Q=>to σ H fun x H1=>UB K T x H1/\r x [] H1 Q
def ZK(K:PySem.W.Frag)(T:String)(r:V->List V->Hp->VK->Prop)(to:TE)(t:TA):TE:=fun σ H Q=>to σ H fun x H1=>UB K T x H1/\t σ H1 fun xs H2=>r x xs H2 Q
variable{o e:Expr}{es:List Expr}{to:TE}{t:TA}{name:Str}{apos aV:Pos}{T id:String}{r:V->List V->Hp->VK->Prop}
theorem wM(pa:PlainAttrs T)(slot:Slot T name id)(hty:typeOf (.builtin id)=pure (.type "method_descriptor"))(hm:S5 X id r)(ho:PE X o to)
  (hbase:attributeBase o name X.env (eval o X.env)=eval o X.env:=by rfl)(hline:(apos.endLine==aV.line)=true:=by rfl):PE X (.Call (.Attribute o name apos) [] [] aV) (UC X.K T r to):=by
 intro pins s σ H Q I h
 refine wpAny_Call_method0_late hbase hline (bz (ho pins s σ H _ I h) fun v s1 ⟨x,H1,I1,r1,ty,q1⟩=>?_)
 obtain⟨h1,h2⟩:=D0 I1 r1 ty
 exact⟨T,id,pa,slot,hty,h1,h2,Calls.callWith_builtin rfl (PySem.evalArgs_none (hm pins s1 σ H1 x [] v [] Q I1 r1 .nil q1))⟩
theorem rH(pa:PlainAttrs T)(slot:Slot T name id)(hty:typeOf (.builtin id)=pure (.type "method_descriptor"))(hm:S5 X id r)(ho:PE X o to)(ha:PA X (e::es) t)
  (hbase:attributeBase o name X.env (eval o X.env)=eval o X.env:=by rfl)
  (hfew:((backTo aV (starEach (e::es) X.env)).all (fun x=> !x.1)&&(backToKw aV (keywordEach [] X.env)).all (fun x=>x.1.isSome)
   &&decide ((e::es).length+([]:List Keyword).length+(if([]:List Keyword).isEmpty then 0 else 1)<30))=true:=by rfl)
  (hline:(apos.endLine==aV.line)=true:=by rfl)(hs:starEach (e::es) X.env=(false,eval e X.env)::starEach es X.env:=by rfl)(hplain:(backTo aV (starEach es X.env)).any (·.1)=false:=by rfl):
  PE X (.Call (.Attribute o name apos) (e::es) [] aV) (ZK X.K T r to t):=by
 intro pins s σ H Q I h
 refine wpAny_Call_method_late hbase hfew hline rfl (bz (ho pins s σ H _ I h) fun v s1 ⟨x,H1,I1,r1,ty,q1⟩=>?_)
 obtain⟨h1,h2⟩:=D0 I1 r1 ty
 refine⟨T,id,pa,slot,hty,h1,h2,?_⟩
 have hA:=ha aV pins s1 σ H1 _ I1 q1
 rw[hs]at hA⊢
 refine Calls.callWith_builtin (by show(false||(backTo aV (starEach es X.env)).any (·.1))=false;rw[hplain]<;>rfl) (Calls.evalArgs_plain ?_)
 exact bz hA fun us s2 ⟨vs,H2,I2,r2,q2⟩=>hm pins s2 σ H2 x vs v us Q I2 r1 r2 q2
end
end L2
namespace L2
open PySem PySem.Spec PyProof.Rows
def UD(X:Cx)(id:String)(r:V->List V->Hp->VK->Prop):Prop:=
 ∀(pins:List (Addr×Obj))(s:Shared)(σ:St)(H:Hp)(x:V)(xs:List V)(v:Value)(us:List Value)(Q:VK),Inv X pins σ H s->RelV x v->Vals xs us->r x xs H Q->
  wpAny (model X.prog X.w) X.A (call (.builtin id) (v::us)) (EP X pins σ Q) X.xe s
theorem Vals.one:∀{x:V}{us:List Value},Vals [x] us->∃u,us=[u]/\RelV x u
 |_,_,.cons r .nil=>⟨_,rfl,r⟩
theorem Vals.zero:∀{us:List Value},Vals [] us->us=[]
 |_,.nil=>rfl
theorem Vals.dropLast {xs:List V}{us:List Value}(h:Vals xs us):Vals xs.dropLast us.dropLast:=by
 induction h with
 |nil=>exact .nil
 |cons r t ih=>
  cases t with
  |nil=>exact .nil
  |cons q t'=>exact .cons r ih
theorem Vals.reverse {xs:List V}{us:List Value}(h:Vals xs us):Vals xs.reverse us.reverse:=by
 induction h with
 |nil=>exact .nil
 |cons r t ih=>rw[reverse_cons,reverse_cons];exact Vals.append ih (.cons r .nil)
theorem Vals.rep {xs:List V}{us:List Value}(h:Vals xs us):∀k:Nat,Vals (replicate k xs).flatten (replicate k us).flatten
 |0=>.nil
 |k+1=>by
  rw[replicate_succ,replicate_succ,flatten_cons,flatten_cons]
  exact Vals.append h (Vals.rep h k)
theorem zP{α:Type}(l:List α):l.eraseIdx (l.length-1)=l.dropLast:=by
 induction l with
 |nil=>rfl
 |cons a r ih=>
  cases r with
  |nil=>rfl
  |cons b r=>
   have e:(a::b::r).length-1=((b::r).length-1)+1:=by
    have h1:(a::b::r).length=r.length+2:=rfl
    have h2:(b::r).length=r.length+1:=rfl
    omega
   rw[e,List.eraseIdx_cons_succ,ih]
   all_goals rfl
theorem foldl_rep(its:List Value):∀(k:Nat)(acc:List Value),
  foldl (fun x1 x2=>x1++x2) acc.toArray (replicate k its.toArray)=(acc++(replicate k its).flatten).toArray
 |0,acc=>by simp
 |k+1,acc=>by
  have e:acc.toArray++its.toArray=(acc++its).toArray:=by simp
  have e2:(acc++its)++(replicate k its).flatten=acc++(replicate (k+1) its).flatten:=by
   rw[replicate_succ,flatten_cons,List.append_assoc]
  rw[<-e2,<-foldl_rep its k (acc++its),<-e,replicate_succ,foldl_cons]
section
variable{X:Cx}{pins:List (Addr×Obj)}{σ:St}{H:Hp}{s:Shared}{l b:Addr}{xs ys zs:List V}
theorem Inv.Mn {its its':List Value}{n:Nat}{f:Array Value->Array Value}{t':Nat}(I:Inv X pins σ H s)(hH:H l=some (.lst xs))
  (e:s.heap.get? l=some {cls:=.type "list",data:=.seq its.toArray n})(hf:f its.toArray=its'.toArray)(hv:Vals ys its')(hz:ys.length<=sizeLine):
  Inv X pins σ (upd H l (.lst ys)) {s with heap:=s.heap.update l (Obj.mapSeq f),toks:=t'}:=by
 have q:=PySem.IsL.update e f
 rw[hf]at q
 refine I.write (x:=l) (e:=l) (by rw[hH];exact trivial) (.inl rfl) (fun b' u hb hu=>(Heap.get?_update_other s.heap (Obj.mapSeq f) (Ne.symm hb)).trans hu) ⟨_,q⟩ ?_
 exact⟨hz,its',_,hv,q⟩
theorem Inv.Qs {its:List Value}{t':Nat}(I:Inv X pins σ H s)(hv:Vals ys its)(hz:ys.length<=sizeLine):
  Inv X pins σ (upd H s.heap.objs.size (.lst ys)) {s with heap:=s.heap.push {cls:=.type "list",data:=.seq its.toArray},toks:=t'}:=
 I.laid (fun _ _ q=>Heap.get?_push_of_some _ q) (Nat.le_refl _) ⟨hz,its,0,hv,Heap.get?_push_size _ rfl⟩
theorem Inv.fresh (I:Inv X pins σ H s):H s.heap.objs.size=none:=I.hok.fresh (Nat.le_refl _)
theorem Inv.HR (I:Inv X pins σ H s)(hH:H l=some (.lst xs)):xs.length<=sizeLine/\∃(its:List Value)(n:Nat),Vals xs its/\xs.length=its.length/\s.heap.get? l=some {cls:=.type "list",data:=.seq its.toArray n}:=by
 obtain⟨z,its,n,r,e⟩:=I.hok l _ hH
 exact⟨z,its,n,r,r.length,e⟩
theorem D1{n:Nat}(h:n<=sizeLine):Builtin.List.listTooLong n=false:=by
 unfold Builtin.List.listTooLong
 exact decide_eq_false (by omega)
end
section
variable{X:Cx}
def HS:V->List V->Hp->VK->Prop:=fun x vs H Q=>∃l xs y,x=.ref l/\vs=[y]/\H l=some (.lst xs)/\xs.length<sizeLine/\Q .non (upd H l (.lst (xs++[y])))
theorem cR:UD X "list.append" HS:=by
 intro pins s σ H x vs v us Q I rx rv h
 obtain⟨l,xs,y,rfl,rfl,hH,hz,q⟩:=h
 cases rx
 obtain⟨u,rfl,ru⟩:=rv.one
 obtain⟨z,its,n,r,hl,e⟩:=I.HR hH
 refine call_meets F.slot_list_append ⟨_,e,rfl⟩ F.entry_list_append (F.args_list_append_2 _ _) (PySem.list_append l its.toArray n u (by rw[size_toArray];omega)) ⟨e,?_⟩
 refine⟨.non,_,I.Mn (its':=its++[u]) hH e (by simp) (r.append (.cons ru .nil)) ?_,rfl,q⟩
 rw[length_append,length_singleton]
 omega
def UE:V->List V->Hp->VK->Prop:=fun x vs H Q=>∃l xs y,x=.ref l/\vs=[]/\H l=some (.lst xs)/\xs[xs.length-1]?=some y/\Q y (upd H l (.lst xs.dropLast))
theorem D2:UD X "list.pop" UE:=by
 intro pins s σ H x vs v us Q I rx rv h
 obtain⟨l,xs,y,rfl,rfl,hH,hy,q⟩:=h
 cases rx
 have UG:=rv.zero
 subst UG
 obtain⟨z,its,n,r,hl,e⟩:=I.HR hH
 obtain⟨u,hu,ru⟩:=r.get hy
 have UH:its.toArray[its.toArray.size-1]?=some u:=by
  show its.toArray[its.length-1]?=some u
  rw[<-Array.getElem?_toList,<-hl]
  exact hu
 refine call_meets F.slot_list_pop ⟨_,e,rfl⟩ F.entry_list_pop (F.args_list_pop_1 _) (MeetsSeq.list_pop_last l its.toArray n u UH (by rw[size_toArray];omega)) ⟨e,?_⟩
 refine⟨y,_,I.Mn (its':=its.dropLast) hH e ?_ r.dropLast ?_,ru,q⟩
 ·show its.toArray.eraseIdxIfInBounds (its.toArray.size-1)=its.dropLast.toArray
  rw[size_toArray,List.eraseIdxIfInBounds_toArray,zP]
 ·rw[List.length_dropLast]
  omega
def D3:V->List V->Hp->VK->Prop:=fun x vs H Q=>∃l xs,x=.ref l/\vs=[]/\H l=some (.lst xs)/\Q .non (upd H l (.lst xs.reverse))
theorem zQ:UD X "list.reverse" D3:=by
 intro pins s σ H x vs v us Q I rx rv h
 obtain⟨l,xs,rfl,rfl,hH,q⟩:=h
 cases rx
 have UG:=rv.zero
 subst UG
 obtain⟨z,its,n,r,hl,e⟩:=I.HR hH
 refine call_meets F.slot_list_reverse ⟨_,e,rfl⟩ F.entry_list_reverse (F.args_list_reverse_1 _) (AutoSeq1.list_reverse_list_0 l its.toArray n (by rw[size_toArray];omega)) ⟨e,?_⟩
 refine⟨.non,_,I.Mn (its':=its.reverse) hH e (by simp) r.reverse ?_,rfl,q⟩
 rw[length_reverse]
 omega
def UI:R2:=fun x y H Q=>∃l k xs,x=.ref l/\y=.int k/\H l=some (.lst xs)/\ -(2^63)<=k/\k<2^63/\xs.length*k.toNat<=sizeLine/\
 ∀p,H p=none->Q (.ref p) (upd H p (.lst (replicate k.toNat xs).flatten))
theorem len_rep{α:Type}(xs:List α)(k:Nat):(replicate k xs).flatten.length=k*xs.length:=by
 induction k with
 |zero=>simp
 |succ k ih=>rw[replicate_succ,flatten_cons,length_append,ih,Nat.succ_mul,Nat.add_comm]
theorem Mp:qw X (binaryOp .Mult) UI:=by
 intro pins s σ H x y v u Q I rx ry h
 obtain⟨l,k,xs,rfl,rfl,hH,h1,h2,hz,q⟩:=h
 cases rx
 obtain⟨t,rfl⟩:=ry
 obtain⟨z,its,n,r,hl,e⟩:=I.HR hH
 have hlen:its.toArray.size*k.toNat<=sizeLine:=by rw[size_toArray,<-hl];exact hz
 have UJ:¬its.toArray.size*k.toNat>(2^63-1)/8:=by
  have:(sizeLine:Nat)<=(2^63-1)/8:=by decide
  omega
 have hfit:¬(!Builtin.List.listFitsIndex k)=true:=by
  rw[fitsIndex_both h1 h2]
  exact Bool.false_ne_true
 have Qt:¬Builtin.List.listTooLong (its.toArray.size*k.toNat)=true:=by
  rw[D1 hlen]
  exact Bool.false_ne_true
 have hnew:foldl (fun x1 x2=>x1++x2) #[] (replicate (if its.toArray.isEmpty=true then 0 else k.toNat) its.toArray)=(replicate k.toNat its).flatten.toArray:=by
  have f0:∀m:Nat,foldl (fun x1 x2=>x1++x2) #[] (replicate m its.toArray)=(replicate m its).flatten.toArray:=fun m=>by
   have:=foldl_rep its m []
   rw[nil_append]at this
   exact this
  rw[f0]
  cases its with
  |nil=>simp
  |cons a r'=>rw[if_neg (by simp)]
 refine wpAny_binaryOp_repeat_ref (T:="list") (U:="int") (by decide) ⟨_,e,rfl⟩ (fun s'=>typeIs_int s' k t) noFill_list_mul F.fills_int_mul F.slot_int_rmul repeat_list F.slot_int_index.lookup
  (call_meets F.slot_int_rmul (typeIs_int s k t) F.entry_int_rmul (F.args_int_rmul_2 _ _) (int___rmul___int_list k t l its.toArray n)
   ⟨e,rfl,⟨_,e,rfl⟩,call_meets F.slot_list_mul ⟨_,e,rfl⟩ F.entry_list_mul (F.args_list_mul_2 _ _) (AutoListH.list___mul___list_int_3 l its.toArray n k t hfit UJ Qt) ⟨e,?_⟩⟩)
 rw[hnew]
 exact⟨.ref _,_,I.Qs (t':=s.toks) (r.rep k.toNat) (by rw[len_rep,Nat.mul_comm];exact hz),rfl,q _ I.fresh⟩
end
section
variable{prog:Program}{w:World}{A:Around}{E:Value->Shared->Prop}{s:Shared}
set_option maxRecDepth 100000 in
end
end L2
namespace XM
open PySem PySem.W PySem.Calls PyProof.Rows
theorem rT{P:Params}{h:Heap}:∀(ns:List Int)(vs:List Value),WellAll P h vs (ns.map WData.int)->IntsAre vs ns:=by
 intro ns
 induction ns with
 |nil=>
  intro vs w
  rw[map_nil]at w
  cases w
  exact .nil
 |cons n ns ih=>
  intro vs w
  rw[map_cons]at w
  cases w with
  |cons a b=>
   cases a
   exact .cons _ _ (ih _ b)
theorem CC{l:OpenLaw}{n:Nat}(hn:l.most=some n){P:Params}{h:Heap}{args:List WData}{vals:List Value}
  (hpre:l.row.toRowW.claim.pre args=true)(UK:WellAll P h vals args):
  ∃a vs ns,vals=[Value.ref a]/\args=[WData.list (ns.map WData.int)]/\h.get? a=some {cls:=.type "list",data:=.seq vs.toArray}/\IntsAre vs ns/\ns.length<=n:=by
 have hsh:WShape.hasAll [] args [.list .int]=true:=(pre_splitW hpre).1
 have hc:l.pre.holds [] {args:=args}=true:=(pre_splitW hpre).2
 obtain⟨d,r,rfl,h1,h2⟩:=hasAllW_cons hsh
 obtain rfl:=hasAllW_nil h2
 obtain⟨xs,rfl,h3⟩:=hasW_list h1
 obtain⟨ns,rfl⟩:=items_int h3
 have hlen:ns.length<=n:=by
  unfold OpenLaw.pre at hc
  have h4:(WTm.not (.lt (.lit (.int (n:Int))) (.len (.arg 0)))).holds [] {args:=[.list (ns.map .int)]}=true:=by
   have h4:=(holds_andW hc).1
   rw[hn]at h4
   exact h4
  have h5:=condW_of h4 (w_not (w_lt w_lit (w_len_list (w_arg rfl))))
  rw[length_map]at h5
  refine le_of_not_lt fun q=>?_
  have q':(n:Int)<((ns.length:Nat):Int):=by omega
  first
   |(rw[decide_eq_true q']at h5;exact absurd h5 (by decide))
   |(simp at h5;omega)
 cases UK with
 |cons w1 w2=>
  cases w2
  cases w1 with
  |list ho hall=>exact⟨_,_,ns,rfl,rfl,ho,rT ns _ hall,hlen⟩
theorem CD(l:OpenLaw)(args:List WData):l.row.toRowW.claim.post args (.bool true) args=true:=
 postW_of (r:=l.row.toRowW) (X:=(true==true))
  (show WShape.has [] (.bool true) .bool=true by first|rfl|decide|simp[WShape.has,WShape.arms,WShape.armsAll])
  (show(WTm.eq .res (.lit (.bool true))).value [] {args:=args,res:=some (.bool true),after:=args}=some (.bool (true==true))from w_eq_bool (w_res rfl) w_lit) rfl
theorem yb{l:OpenLaw}{n:Nat}{q:Program}{loose:List Str}{XP:(Str->Option Value)->Heap->Prop}{YP:World->Heap->Prop}{d:DefRec}
  (hn:l.most=some n)(Qu:d.params.defaults=[])
  (call:∀(w:World)(s₀ s₁:Shared)(mg mb:Str->Option Value)(fa:Addr)(o:Obj)(pm cd doc:Value)(a:Addr)(vs:List Value)(ns:List Int),
   Ground q loose [] XP w s₀ mg mb s₁.heap->YP w s₁.heap->
   s₁.heap.get? fa=some o->o.data=.func (docDef d.name d.params d.body d.scope pm cd doc)->s₁.heap.CodeRec cd d.name->mg d.name=some (.ref fa)->
   s₁.heap.get? a=some {cls:=.type "list",data:=.seq vs.toArray}->IntsAre vs ns->ns.length<=n->s₁.gens=#[]->
   codeAny (model l.prog w) callerA (.call (.ref fa) ⟨[.ref a],[]⟩) (fun r s'=>r=.ok (.ret (.bool true))/\OldK s₁.heap s'.heap/\s'.os=s₁.os/\AllBare s'.gens) s₁):
  WalkO q loose XP YP l.row.toRowW d [] (fun f vs=>PySem.call f vs):=by
 intro w s₀ s₁ mg mb G Y fa o pm cd doc dV kV ho hd hcd hD hmg hg args vals as hpre hlay hrd UK hlo
 obtain rfl:dV=.none:=Dflts.none hD Qu
 obtain rfl:kV=.none:=Dflts.noKw hD
 obtain⟨a,vs,ns,rfl,rfl,hobj,hints,hlen⟩:=CC hn hpre UK
 refine enter_call (codeAny_mono (call w s₀ s₁ mg mb fa o pm cd doc a vs ns G Y ho (fd_plain hd) hcd hmg hobj hints hlen hg) fun r s' hq=>?_)
 obtain⟨rfl,h2,h3,h4⟩:=hq
 exact⟨.inl ⟨.bool true,.bool true,[],rfl,fun _=>rfl,.bool true,CD l _,fun _=>⟨Pairwise.nil,fun _ hm=>(nomatch hm)⟩⟩,h2,h3,h4⟩
section
variable{prog:Program}{w:World}{A:Around}{E:Value->Shared->Prop}{s:Shared}{K:Frag}
def ledger(h:Heap)(L d:Addr):List (Addr×Obj):=(range h.objs.size).filterMap fun a=>if a=L\/a=d then none else(h.get? a).map fun o=>(a,o)
end
end XM
namespace L2
open PySem PySem.Spec PyProof.Rows
theorem qA:∀{vs:List Value}{ns:List Int},IntsAre vs ns->Vals (ns.map V.int) vs
 |_,_,.nil=>.nil
 |_,_,.cons n t h=>.cons ⟨t,rfl⟩ (qA h)
def Mq(H:Hp):Prop:=∀b,H b=none\/∃o xs,H b=some (.uW o (.lst xs))
theorem D4{P:Program}{w:World}{K:PySem.W.Frag}{mg mb:Str->Option Value}{CX:Dq}{k:Nat}{fa a:Addr}{fd:FuncData}{x:Str}{sp:Sp}{s₁:Shared}{vs:List Value}{ns:List Int}
  (KX:K.In s₁.heap)(hns:s₁.heap.Ns mainGlobals mg)(hb:s₁.heap.Ns builtinsNs mb)(Qw:∀x:Str,x≠"__name__"->mb x=bootBuiltins x)(hlim:s₁.heap.NoLimit)(hg:s₁.gens=#[])
  (ha:s₁.heap.get? a=some {cls:=.type "list",data:=.seq vs.toArray})(hi:IntsAre vs ns)(hl:ns.length<=sizeLine)(hr:aT k callerA)
  (F:∀base:Heap,K.In base->base.Ns mainGlobals mg->bJ P w K mg base CX k fa fd [x] sp)(hbind:∀(s:Shared)(u:Value),BindsTo s fd ⟨[u],[]⟩ [(x,u)])
  (wI:∀H:Hp,Mq H->bW K H a (ns.map V.int)->sp [.ref a] H (fun v _=>v=.bl true) fun _ _ _=>False)
  (UL:∀H e s',CX [] H s₁ (fun _ _ _=>False) e s'->False):
  codeAny (model P w) callerA (.call (.ref fa) ⟨[.ref a],[]⟩) (fun r s'=>r=.ok (.ret (.bool true))/\OldK s₁.heap s'.heap/\s'.os=s₁.os/\AllBare s'.gens) s₁:=by
 have rv:=qA hi
 have UM:=hi.length
 have core:∀H:Hp,Mq H->bW K H a (ns.map V.int)->nE P w H s₁.heap->(∀b,H b≠none->b=a)->(H a≠none->K.lookup a=none)->
   codeAny (model P w) callerA (.call (.ref fa) ⟨[.ref a],[]⟩) (fun r s'=>r=.ok (.ret (.bool true))/\OldK s₁.heap s'.heap/\s'.os=s₁.os/\AllBare s'.gens) s₁:=by
  intro H hO hS hok hA hK
  have AY:∀{b:Addr}{o:Obj},s₁.heap.get? b=some o->H b=none->(wC s₁.heap H).get? b=some o:=fun e n=>DC e n
  have Ql:∀{b:Addr}{o:Obj}{es:Array DictEntry}{ep:Nat},s₁.heap.get? b=some o->o.data=.dict es ep->H b=none:=fun{b o es ep} e d=>by
   cases q:H b with
   |none=>rfl
   |some u=>
    have e':b=a:=hA b (by rw[q];simp)
    subst e'
    rw[ha]at e;cases e
    have d':Data.seq vs.toArray _=Data.dict es ep:=d
    cases d'
  have S6:∀{b:Addr}{m:Str->Option Value},s₁.heap.Ns b m->(wC s₁.heap H).Ns b m:=fun{b m}⟨o,es,ep,e,d,r⟩=>⟨o,es,ep,AY e (Ql e d),d,r⟩
  have XO:K.In (wC s₁.heap H):=fun b o e=>AY (KX b o e) (by
   cases q:H b with
   |none=>rfl
   |some u=>
    have e':b=a:=hA b (by rw[q];simp)
    subst e'
    rw[hK (by rw[q];simp)]at e;cases e)
  have hM:Mod K mg (wC s₁.heap H):=⟨XO,S6 hns,⟨mb,S6 hb,Qw⟩,let⟨mc,h1,h2⟩:=hlim;⟨mc,S6 h1,h2⟩⟩
  have e0:zM P w K mg (wC s₁.heap H) callerA [] s₁ H:=⟨rfl,hM,fun b o e=>Hq e,le_of_eq (Cm _ _),trivial,fun b hb=>absurd (show b∈([]:List Addr)from hb) (by simp),hok,.of_eq hg⟩
  refine codeAny_mono ((F _ XO (S6 hns)).run callerA [] s₁ H ⟨[.ref a],[]⟩ [.ref a] [.ref a] _ _ hr e0 (hbind s₁ (.ref a)) (.cons rfl .nil) (wI H hO hS)) fun r s' h=>?_
  cases r with
  |error e=>exact(UL H e s' h).elim
  |ok fl=>
   cases fl with
   |next=>exact False.elim h
   |brk=>exact False.elim h
   |cont=>exact False.elim h
   |ret u=>
    obtain⟨v,H',os,bare,un,UN,r',q⟩:=h
    have q':v=.bl true:=q
    subst q'
    obtain rfl:u=Value.bool true:=r'
    refine⟨rfl,OldK.of_keep fun b o e=>?_,os,bare⟩
    cases q:H b with
    |none=>exact un.keep b o e q (by intro z;exact absurd (show b∈([]:List Addr)from z) (by simp)) (by simp)
    |some u=>
     rcases hO b with z|⟨ob,xs,z⟩
     ·rw[q]at z;cases z
     ·have z2:=un.wB b ob _ z
      obtain⟨e1,_⟩:=hok b _ z
      obtain⟨e2,_⟩:=UN b _ z2
      rw[e]at e1;cases e1
      exact e2
 cases hk:K.lookup a with
 |some o=>
  have e:=KX a o hk
  rw[ha]at e
  cases e
  refine core (fun _=>none) (fun _=>.inl rfl) (.inr ⟨_,vs.toArray,_,hk,rfl,rfl,rfl,by rw[size_toArray,UM];exact hl,by simpa using rv⟩) (fun b u z=>by have z':(none:Option HO)=some u:=z;cases z') (fun b z=>absurd rfl z) fun z=>absurd rfl z
 |none=>
  refine core (fun b=>if b=a then some (.uW {cls:=.type "list",data:=.seq vs.toArray} (.lst (ns.map V.int)))else none) (fun b=>?_) (.inl (.inr ⟨{cls:=.type "list",data:=.seq vs.toArray},if_pos rfl⟩)) (fun b u z=>?_) (fun b z=>?_) fun _=>hk
  ·by_cases hb:b=a
   ·exact .inr ⟨_,_,if_pos hb⟩
   ·exact .inl (if_neg hb)
  ·by_cases hb:b=a
   ·have z':=(if_pos hb).symm.trans z
    cases z'
    subst hb
    exact⟨ha,by rw[length_map];exact hl,vs,_,rv,ha⟩
   ·have z':=(if_neg hb).symm.trans z
    cases z'
  ·by_cases hb:b=a
   ·exact hb
   ·exact absurd (if_neg hb) z
end L2
namespace L2
open PySem PySem.Spec PyProof.Rows
abbrev KOf{K:PySem.W.Frag}{h:Heap}(_:K.In h):PySem.W.Frag:=K
theorem HU{l:PySem.W.OpenLaw}{n k:Nat}{q:Program}{loose:List Str}{XP:(Str->Option Value)->Heap->Prop}{YP:World->Heap->Prop}{d:DefRec}{K:Params->PySem.W.Frag}{CX:World->Dq}{sp:World->Sp}{x:Str}
  (hn:l.most=some n)(hn2:n<=sizeLine)(Qu:d.params.defaults=[])(hr:aT k callerA)
  (hY:∀(w:World)(h:Heap),YP w h->(K w.params).In h)
  (F:∀(w:World)(mg:Str->Option Value)(fa:Addr)(h:Heap),(K w.params).In h->h.Ns mainGlobals mg->mg d.name=some (.ref fa)->
   ∃fd:FuncData,(∀(s:Shared)(u:Value),BindsTo s fd ⟨[u],[]⟩ [(x,u)])/\
    ∀base:Heap,(K w.params).In base->base.Ns mainGlobals mg->bJ l.prog w (K w.params) mg base (CX w) k fa fd [x] (sp w))
  (wI:∀(w:World)(H:Hp)(a:Addr)(ns:List Int),ns.length<=n->Mq H->bW (K w.params) H a (ns.map V.int)->sp w [.ref a] H (fun v _=>v=.bl true) fun _ _ _=>False)
  (UL:∀(w:World)(H:Hp)(s:Shared)(e:Value)(s':Shared),CX w [] H s (fun _ _ _=>False) e s'->False):
  PySem.W.WalkO q loose XP YP l.row.toRowW d [] (fun f vs=>PySem.call f vs):=by
 refine XM.yb hn Qu fun w s₀ s₁ mg mb fa o pm cd doc a vs ns G Y ho hd hcd hmg hobj hints hlen hg=>?_
 have KX:=hY w _ Y
 obtain⟨fd,hb,hF⟩:=F w mg fa _ KX G.T.g hmg
 exact D4 KX G.T.g G.T.b G.T.builtins G.T.nolimit hg hobj hints (le_trans hlen hn2) hr hF hb (fun H hO hS=>wI w H a ns hlen hO hS) fun H e s'=>UL w H s₁ e s'
end L2
namespace L2
open PySem PySem.Spec PyProof.Rows
def inClass(s:Stmt)(j:Nat):Stmt:=match s with
 |.ClassDef _ _ _ body _ _ _ _ _ _ _=>body.getD j (.Pass ⟨0,0,0,0⟩)
 |_=>.Pass ⟨0,0,0,0⟩
def cV(s:Stmt):Arguments:=match s with
 |.FunctionDef _ a _ _ _ _ _ _ _ _=>a
 |_=>{posonlyargs:=[],args:=[],vararg:=none,kwonlyargs:=[],kw_defaults:=[],kwarg:=none,defaults:=[]}
def bg(s:Stmt):List Stmt:=match s with
 |.FunctionDef _ _ b _ _ _ _ _ _ _=>b
 |_=>[]
def ae(s:Stmt):Scope:=match s with
 |.FunctionDef _ _ _ _ _ _ sc _ _ _=>sc
 |_=>{kind:=.function,names:=[],isGenerator:=false,isCoroutine:=false}
abbrev jH:Dq:=fun _ _ _ _ _ _=>False
abbrev E0:XK:=fun _ _ _=>False
theorem lM{X:Cx}:Passes jH X E0:=fun _ _ _ _ _ _ _ h=>h.elim
structure yc(K:PySem.W.Frag)(x qual:Str)(st:Stmt)(f:Addr)(fd:FuncData):Prop where
 ex:∃(oc:Value)(od:Option Addr)(kV doc pm:Value)(an:Option Addr)(cdv ct:Value)(Dr:Array (Option Value)),
  fd=PySem.W.fnOf x qual (cV st) (bg st) (ae st) .none kV doc pm an cdv ct/\K.lookup f=some ⟨oc,od,.func fd,Dr⟩/\codeIn K cdv qual=true
 kp:keepIn K (.ref f)=true
section
variable{P:Program}{w:World}{K:PySem.W.Frag}{mg:Str->Option Value}{base:Heap}
theorem yc.ok {x qual:Str}{st:Stmt}{f:Addr}{fd:FuncData}{N ps:List Str}{k:Nat}{sp:Sp}(F:yc K x qual st f fd)(S:aw N ps (ae st))(len:∀vs H Q E,sp vs H Q E->vs.length=ps.length)
  (hbody:∀(cdv:Value)(A:Around)(outer:List Env)(s:Shared)(H:Hp)(vs:List V)(Q:VK)(E:XK),aT k (A.deeper (envOfC qual (ae st) s.heap.objs.size f cdv))->sp vs H Q E->
   ∃t,oN (oU jH P w K mg base N qual (ae st) f cdv A outer s H E).Dm (bg st) t/\t {nx:=fun _ H'=>Q .non H',rt:=Q} (start N vs) H):bJ P w K mg base jH (k+1) f fd ps sp:=by
 obtain⟨oc,od,kV,doc,pm,an,cdv,ct,Dr,rfl,lk,hcd⟩:=F.ex
 refine Qm lk hcd S len fun A outer s H vs Q E hr wI=>?_
 obtain⟨t,h,q⟩:=hbody cdv A outer s H vs Q E hr wI
 exact⟨t,h.Dm,q⟩
theorem yc.binds {x qual:Str}{st:Stmt}{f:Addr}{fd:FuncData}{ps:List Str}(F:yc K x qual st f fd)
  (h:∀(kV doc pm:Value)(an:Option Addr)(cdv ct:Value)(us:List Value),us.length=ps.length->bindArgs (PySem.W.fnOf x qual (cV st) (bg st) (ae st) .none kV doc pm an cdv ct) ⟨us,[]⟩=pure (ps.zip us)):Binds K fd ps []:=by
 obtain⟨oc,od,kV,doc,pm,an,cdv,ct,Dr,rfl,lk,hcd⟩:=F.ex
 exact .all (h kV doc pm an cdv ct)
theorem zR{x qual:Str}{st:Stmt}{f:Addr}{oc:Value}{od an:Option Addr}{Dr:Array (Option Value)}{kV doc pm cdv ct:Value}(l:K.lookup f=some ⟨oc,od,.func (PySem.W.fnOf x qual (cV st) (bg st) (ae st) .none kV doc pm an cdv ct),Dr⟩)
  (c:codeIn K cdv qual=true)(k:keepIn K (.ref f)=true):yc K x qual st f (PySem.W.fnOf x qual (cV st) (bg st) (ae st) .none kV doc pm an cdv ct):=⟨⟨oc,od,kV,doc,pm,an,cdv,ct,Dr,rfl,l,c⟩,k⟩
end
theorem ph{A:Around}{k:Nat}(hr:aT k A):A.units+1<cLine:=Nat.lt_of_le_of_lt (Nat.add_le_add_left (by decide:1<=64) _) hr.units
section
variable{X:Cx}
theorem pv(i:Nat){x:Str}{pos:Pos}(hN:X.N[i]?=some x:=by rfl)(hv:vD X.env.scope x:=by first|exact Or.inl rfl|exact Or.inr (Or.inl rfl)|exact Or.inr (Or.inr rfl))(hd:(x==("__debug__":Str))=false:=by decide)
  (hcd:(x==("__classdict__":Str))=false:=by decide):PE X (.Name x pos) (Hu i):=ie hN hv hd hcd
end
theorem qB{A B:Prop}(h:B):if false=true then A else B:=by
 rw[if_neg Bool.false_ne_true]
 exact h
theorem rV{A B:Prop}(h:A):if true=true then A else B:=by
 rw[if_pos rfl]
 exact h
def aB(H H':Hp):Prop:=∀b o,H b=some o->H' b=some o
theorem aB.refl (H:Hp):aB H H:=fun _ _ h=>h
theorem aB.trans {H H1 H2:Hp}(a:aB H H1)(b:aB H1 H2):aB H H2:=fun c o h=>b c o (a c o h)
theorem aB.free {H H':Hp}(e:aB H H'){l:Addr}(h:H' l=Option.none):H l=Option.none:=by
 cases q:H l with
 |none=>rfl
 |some o=>
  rw[e l o q]at h
  cases h
theorem aB.seq {K:PySem.W.Frag}{H H':Hp}{a:Addr}{xs:List V}(e:aB H H')(h:bW K H a xs):bW K H' a xs:=by
 rcases h with(h|⟨o,h⟩)|h
 ·exact .inl (.inl (e _ _ h))
 ·exact .inl (.inr ⟨o,e _ _ h⟩)
 ·exact .inr h
end L2
set_option maxHeartbeats 4000000
namespace L2
open PySem PySem.Spec PyProof.Rows
section
variable{κ:Type}[DecidableEq κ]
def cA(kvs:List (κ×V))(k:κ):Option V:=(kvs.find? fun kv=>decide (kv.1=k)).map (·.2)
def putK(kvs:List (κ×V))(k:κ)(v:V):List (κ×V):=
 if(kvs.any fun kv=>decide (kv.1=k))=true then kvs.map (fun kv=>if kv.1=k then(kv.1,v)else kv)else kvs++[(k,v)]
def XQ(kvs:List (κ×V))(k:κ):List (κ×V):=kvs.filter fun kv=>decide (kv.1≠k)
theorem dm{p:κ×V}{r:List (κ×V)}{k:κ}(e:p.1=k):cA (p::r) k=some p.2:=by simp[cA,find?_cons,e]
theorem dq{p:κ×V}{r:List (κ×V)}{k:κ}(e:¬p.1=k):cA (p::r) k=cA r k:=by simp[cA,find?_cons,e]
theorem pA(k:κ):∀kvs:List (κ×V),(kvs.any fun kv=>decide (kv.1=k))=(cA kvs k).isSome
 |[]=>rfl
 |p::r=>by
  rw[any_cons]
  by_cases e:p.1=k
  ·simp only [dm e,decide_eq_true e,Bool.true_or,isSome_some]
  ·rw[dq e,decide_eq_false e,Bool.false_or];exact pA k r
theorem yd(k j:κ)(y:V):∀kvs:List (κ×V),cA (kvs.map fun kv=>if kv.1=k then(kv.1,y)else kv) j=(cA kvs j).map fun x=>if j=k then y else x
 |[]=>rfl
 |p::r=>by
  have ih:=yd k j y r
  rw[map_cons]
  by_cases h:p.1=k
  ·rw[if_pos h]
   by_cases e:p.1=j
   ·rw[dm (p:=(p.1,y)) e,dm e,map_some,if_pos (e.symm.trans h)]
   ·rw[dq (p:=(p.1,y)) e,dq e,ih]
  ·rw[if_neg h]
   by_cases e:p.1=j
   ·rw[dm (p:=p) e,dm e,map_some,if_neg (fun z=>h (e.trans z))]
   ·rw[dq (p:=p) e,dq e,ih]
theorem vJ(k j:κ)(y:V):∀kvs:List (κ×V),cA kvs k=none->cA (kvs++[(k,y)]) j=if j=k then some y else cA kvs j
 |[],_=>by
  by_cases e:k=j
  ·rw[if_pos e.symm];exact dm (p:=(k,y)) e
  ·rw[if_neg (fun z=>e z.symm)];exact dq (p:=(k,y)) e
 |p::r,hn=>by
  rw[cons_append]
  have hk:¬p.1=k:=fun z=>by rw[dm z]at hn;cases hn
  rw[dq hk]at hn
  have ih:=vJ k j y r hn
  by_cases e:p.1=j
  ·rw[dm e,dm e,if_neg (fun z=>hk (e.trans z))]
  ·rw[dq e,dq e,ih]
theorem je(kvs:List (κ×V))(k j:κ)(y:V):cA (putK kvs k y) j=if j=k then some y else cA kvs j:=by
 unfold putK
 by_cases a:(kvs.any fun kv=>decide (kv.1=k))=true
 ·rw[if_pos a,yd]
  rw[pA]at a
  by_cases e:j=k
  ·obtain⟨x,hx⟩:=isSome_iff_exists.mp a
   rw[if_pos e,e,hx,map_some,if_pos rfl]
  ·rw[if_neg e]
   cases cA kvs j with
   |none=>rfl
   |some x=>rw[map_some,if_neg e]
 ·rw[if_neg a]
  refine vJ k j y kvs ?_
  rw[pA]at a
  cases q:cA kvs k with
  |none=>rfl
  |some x=>rw[q]at a;exact(a rfl).elim
theorem fg(kvs:List (κ×V))(k:κ)(v:V):(putK kvs k v).length<=kvs.length+1:=by
 unfold putK
 split
 ·rw[length_map];omega
 ·rw[length_append,length_cons,length_nil];omega
theorem lV.qC {o:Option V}{u:Option Value}(r:lV o u):o.isSome=u.isSome:=by
 cases o with
 |none=>cases u with
  |none=>rfl
  |some _=>exact(show False from r).elim
 |some _=>cases u with
  |none=>exact(show False from r).elim
  |some _=>rfl
theorem lV.getD {o:Option V}{u:Option Value}{d:V}{d':Value}(r:lV o u)(rd:RelV d d'):RelV (o.getD d) (u.getD d'):=by
 cases o with
 |none=>cases u with
  |none=>exact rd
  |some _=>exact(show False from r).elim
 |some _=>cases u with
  |none=>exact(show False from r).elim
  |some _=>exact r
theorem KV.val {kvs:List (κ×V)}{vs:List (κ×Value)}(r:KV kvs vs)(k:κ):lV (cA kvs k) (valueAt vs k):=by
 unfold KV at r
 induction r with
 |nil=>exact True.intro
 | @cons p q ps qs h t ih=>
  obtain⟨h1,h2⟩:=h
  by_cases e:p.1=k
  ·have e':q.1=k:=h1.symm.trans e
   have b:valueAt (q::qs) k=some q.2:=by simp[valueAt,find?_cons,e']
   rw[dm e,b];exact h2
  ·have e':¬q.1=k:=fun z=>e (h1.trans z)
   have b:valueAt (q::qs) k=valueAt qs k:=by simp[valueAt,find?_cons,e']
   rw[dq e,b];exact ih
theorem KV.any {kvs:List (κ×V)}{vs:List (κ×Value)}(r:KV kvs vs)(k:κ):(kvs.any fun kv=>decide (kv.1=k))=vs.any fun kv=>decide (kv.1=k):=by
 unfold KV at r
 induction r with
 |nil=>rfl
 |cons h t ih=>rw[any_cons,any_cons,ih,h.1]
theorem KV.Mr {kvs:List (κ×V)}{vs:List (κ×Value)}(r:KV kvs vs)(k:κ){y:V}{u:Value}(ry:RelV y u):
  KV (kvs.map fun kv=>if kv.1=k then(kv.1,y)else kv) (vs.map fun kv=>if kv.1=k then(kv.1,u)else kv):=by
 unfold KV at r⊢
 induction r with
 |nil=>exact .nil
 | @cons p q ps qs h t ih=>
  rw[map_cons,map_cons]
  refine .cons ?_ ih
  obtain⟨h1,h2⟩:=h
  by_cases e:p.1=k
  ·rw[if_pos e,if_pos (h1.symm.trans e)];exact⟨h1,ry⟩
  ·rw[if_neg e,if_neg (fun z=>e (h1.trans z))];exact⟨h1,h2⟩
theorem KV.put {kvs:List (κ×V)}{vs:List (κ×Value)}(r:KV kvs vs)(k:κ){y:V}{u:Value}(ry:RelV y u):KV (putK kvs k y) (stored vs k u):=by
 unfold putK stored
 rw[r.any k]
 by_cases e:(vs.any fun kv=>decide (kv.1=k))=true
 ·rw[if_pos e,if_pos e];exact r.Mr k ry
 ·rw[if_neg e,if_neg e];exact Paired.snoc r ⟨rfl,ry⟩
theorem KV.length {kvs:List (κ×V)}{vs:List (κ×Value)}(r:KV kvs vs):kvs.length=vs.length:=Paired.length r
end
theorem ye{P:Program}{w:World}{k:Key}{u:Value}(r:RelV (kV k) u):(cy P w).is k u=true:=by
 cases k with
 |inl i=>obtain⟨t,e⟩:=(show∃t,u=Value.int i t from r);subst e;exact xU P w i t
 |inr x=>obtain⟨t,e⟩:=(show∃t,u=Value.str x t from r);subst e;exact xV P w x t
theorem vK{P:Program}{w:World}:∀{ks:List Key}{us:List Value},Vals (ks.map kV) us->ItemsAre (cy P w) ks us
 |[],_,r=>by rw[map_nil]at r;cases r;exact .nil
 |k::ks,_,r=>by
  rw[map_cons]at r
  cases r with
  |cons h t=>exact .cons (ye h) (vK t)
abbrev KT(H:Hp):List (List Key×V)->List (List Key×Addr×Value)->Prop:=Paired fun p q=>p.1=q.1/\H q.2.1=some (.tup (p.1.map kV))/\RelV p.2 q.2.2
theorem KT.val {H:Hp}{kvs:List (List Key×V)}{xs:List (List Key×Addr×Value)}(r:KT H kvs xs)(k:List Key):lV (cA kvs k) ((atKey xs k).map (·.2)):=by
 induction r with
 |nil=>exact True.intro
 | @cons p q ps qs h t ih=>
  obtain⟨h1,_,h2⟩:=h
  by_cases e:p.1=k
  ·have e':q.1=k:=h1.symm.trans e
   have b:atKey (q::qs) k=some q.2:=by simp[atKey,find?_cons,e']
   rw[dm e,b];exact h2
  ·have e':¬q.1=k:=fun z=>e (h1.trans z)
   have b:atKey (q::qs) k=atKey qs k:=by simp[atKey,find?_cons,e']
   rw[dq e,b];exact ih
theorem KT.Mr {H:Hp}{kvs:List (List Key×V)}{xs:List (List Key×Addr×Value)}(r:KT H kvs xs)(k:List Key){y:V}{u:Value}(ry:RelV y u):
  KT H (kvs.map fun kv=>if kv.1=k then(kv.1,y)else kv) (xs.map (putAt k u)):=by
 induction r with
 |nil=>exact .nil
 | @cons p q ps qs h t ih=>
  rw[map_cons,map_cons]
  refine .cons ?_ ih
  obtain⟨h1,h2,h3⟩:=h
  unfold putAt
  by_cases e:p.1=k
  ·rw[if_pos e,if_pos (h1.symm.trans e)];exact⟨h1,h2,ry⟩
  ·rw[if_neg e,if_neg (fun z=>e (h1.trans z))];exact⟨h1,h2,h3⟩
theorem KT.put {H:Hp}{kvs:List (List Key×V)}{xs:List (List Key×Addr×Value)}(r:KT H kvs xs)(k:List Key){b:Addr}{y:V}{u:Value}(hb:H b=some (.tup (k.map kV)))(ry:RelV y u):
  KT H (putK kvs k y) (storedH xs k b u):=by
 have e:(kvs.any fun kv=>decide (kv.1=k))=(atKey xs k).isSome:=by
  rw[pA,(r.val k).qC,isSome_map]
 unfold putK storedH
 rw[e]
 by_cases q:(atKey xs k).isSome=true
 ·rw[if_pos q,if_pos q];exact r.Mr k ry
 ·rw[if_neg q,if_neg q];exact Paired.snoc r ⟨rfl,hb,ry⟩
theorem KT.keeps {H H':Hp}{kvs:List (List Key×V)}{xs:List (List Key×Addr×Value)}(r:KT H kvs xs)(ht:∀b ys,H b=some (.tup ys)->H' b=some (.tup ys)):KT H' kvs xs:=
 Paired.LO r fun _ _ z=>⟨z.1,ht _ _ z.2.1,z.2.2⟩
section
variable{P:Program}{w:World}{H:Hp}{h:Heap}{a:Addr}
theorem JS{u:HO}(ok:nE P w H h)(e:Rd H a u):cu P w H h a u:=e.ok ok
theorem vL{kvs:List (Key×V)}(ok:nE P w H h)(e:Rd H a (.dK kvs)):kvs.length<=sizeLine/\(a==sysModules)=false/\∃vs,KV kvs vs/\h.DictOf (cy P w) a vs:=
 show cu P w H h a (.dK kvs)from JS ok e
theorem Qx{kvs:List (Key×V)}(ok:nE P w H h)(e:H a=some (.dK kvs)):kvs.length<=sizeLine/\(a==sysModules)=false/\∃vs,KV kvs vs/\h.DictOf (cy P w) a vs:=vL ok (.inl e)
theorem tK{ks:List Key}(ok:nE P w H h)(e:H a=some (.tup (ks.map kV))):(tupleKind (cy P w)).is h ks a:=by
 obtain⟨_,its,r,o,h1,h2,n,h3⟩:=(show cu P w H h a (.tup (ks.map kV))from ok a _ e)
 exact⟨o,its.toArray,n,h1,h2,h3,by simpa using vK r⟩
theorem tM{kvs:List (List Key×V)}(ok:nE P w H h)(e:Rd H a (.dT kvs)):kvs.length<=sizeLine/\(a==sysModules)=false/\
  ∃xs,KT H kvs xs/\h.DictOfH (tupleKind (cy P w)) a xs:=by
 obtain⟨z,y,xs,r,o,es,ep,h1,h2,h3,h4,h5⟩:=(show cu P w H h a (.dT kvs)from JS ok e)
 refine⟨z,y,xs,r,o,es,ep,h1,h2,h3,h4,fun x hx=>?_,h5⟩
 have all:∀{l:List (List Key×V)}{m:List (List Key×Addr×Value)},KT H l m->∀x∈m,(tupleKind (cy P w)).is h x.1 x.2.1:=by
  intro l m q
  induction q with
  |nil=>intro x hx;exact nomatch hx
  | @cons p q ps qs hq t ih=>
   intro x hx
   rcases mem_cons.mp hx with e|hx
   ·subst e
    exact tK ok (by rw[<-hq.1];exact hq.2.1)
   ·exact ih x hx
 exact all r x hx
theorem Qy{kvs:List (List Key×V)}(ok:nE P w H h)(e:H a=some (.dT kvs)):kvs.length<=sizeLine/\(a==sysModules)=false/\
  ∃xs,KT H kvs xs/\h.DictOfH (tupleKind (cy P w)) a xs:=tM ok (.inl e)
end
def kU(H:Hp)(a:Addr)(y:V)(r:Option V):Prop:=
 (∃kvs k,Rd H a (.dK kvs)/\y=kV k/\r=cA kvs k)\/∃kvs k b,Rd H a (.dT kvs)/\y=.ref b/\H b=some (.tup (k.map kV))/\r=cA kvs k
def yf(H:Hp)(a:Addr)(y v:V)(H':Hp):Prop:=
 (∃kvs k,H a=some (.dK kvs)/\y=kV k/\kvs.length<sizeLine/\H'=upd H a (.dK (putK kvs k v)))\/
 ∃kvs k b,H a=some (.dT kvs)/\y=.ref b/\H b=some (.tup (k.map kV))/\kvs.length<sizeLine/\H'=upd H a (.dT (putK kvs k v))
theorem kU.t {H:Hp}{a b:Addr}{kvs:List (List Key×V)}{k:List Key}(e:H a=some (.dT kvs))(eb:H b=some (.tup (k.map kV))):kU H a (.ref b) (cA kvs k):=.inr ⟨kvs,k,b,.inl e,rfl,eb,rfl⟩
theorem yf.t {H:Hp}{a b:Addr}{kvs:List (List Key×V)}{k:List Key}{v:V}(e:H a=some (.dT kvs))(eb:H b=some (.tup (k.map kV)))(hl:kvs.length<sizeLine):
  yf H a (.ref b) v (upd H a (.dT (putK kvs k v))):=.inr ⟨kvs,k,b,e,rfl,eb,hl,rfl⟩
section
variable{X:Cx}{pins:List (Addr×Obj)}{σ:St}{H:Hp}{s:Shared}{a:Addr}{y v:V}{u r:Value}{o:Option V}{A:Around}{E:Value->Shared->Prop}
theorem Inv.big (I:Inv X pins σ H s):sysModules<s.heap.objs.size:=by
 have h:mainGlobals<s.heap.objs.size:=(I.mod.glob.keeps I.bk).lt
 exact lt_trans (by decide) h
theorem CF{Q:Value->Shared->Prop}(hu:A.units+1<cLine)(I:Inv X pins σ H s)(g:kU H a y (some v))(ry:RelV y u)(h:∀w' s',Inv X pins σ H s'->RelV v w'->Q w' s'):
  wpAny (model X.prog X.w) A (getItem (.ref a) u) Q E s:=by
 rcases g with⟨kvs,k,e,ey,l⟩|⟨kvs,k,b,e,ey,eb,l⟩
 ·subst ey
  obtain⟨z,hd,vs,rel,dd⟩:=vL I.hok e
  obtain⟨w',hw,mr⟩:=lV.some_of (v:=v) (o:=valueAt vs k) (by rw[l];exact rel.val k)
  exact wpAny_getItem_of (ye ry) dd.mapOf hw (h w' _ (I.tok _) mr)
 ·subst ey
  cases (show u=Value.ref b from ry)
  obtain⟨z,hd,xs,rel,dd⟩:=tM I.hok e
  obtain⟨w',hw,mr⟩:=lV.some_of (v:=v) (o:=(atKey xs k).map (·.2)) (by rw[l];exact rel.val k)
  obtain⟨p,hp,S7⟩:=Option.map_eq_some_iff.mp hw
  refine wpAny_getItem_heap (tupleKind_room_in1 hu) (tK I.hok eb) dd hp ?_
  rw[S7]
  exact h w' _ (I.tok _) mr
theorem HV{Q:Value->Shared->Prop}(hu:A.units+1<cLine)(I:Inv X pins σ H s)(g:kU H a y o)(ry:RelV y u)(h:∀s',Inv X pins σ H s'->Q (.bool (!o.isSome)) s'):
  wpAny (model X.prog X.w) A (compareOp .NotIn u (.ref a)) Q E s:=by
 rcases g with⟨kvs,k,e,ey,l⟩|⟨kvs,k,b,e,ey,eb,l⟩
 ·subst ey
  obtain⟨z,hd,vs,rel,dd⟩:=vL I.hok e
  refine wpAny_notIn_of (ye ry) hd dd.mapOf ?_
  rw[<-(rel.val k).qC,<-l]
  exact h _ (I.tok _)
 ·subst ey
  cases (show u=Value.ref b from ry)
  obtain⟨z,hd,xs,rel,dd⟩:=tM I.hok e
  refine wpAny_notIn_heap (tupleKind_room_in1 hu) (tK I.hok eb) hd dd ?_
  have q:=(rel.val k).qC
  rw[isSome_map]at q
  rw[<-q,<-l]
  exact h _ (I.tok _)
theorem AZ{h':Heap}{t':Nat}{ob:HO}(I:Inv X pins σ H s)(mu:PH (H a))(hs:Heap.SameBut a s.heap h')(he:∃q,h'.get? a=some q)(new:cu X.prog X.w (upd H a ob) h' a ob):
  Inv X pins σ (upd H a ob) {s with heap:=h',toks:=t'}:=
 I.write (x:=a) (e:=a) mu (.inl rfl) (fun b q hb z=>(hs.2 b hb).trans z) he new
theorem Ms{P:Program}{w:World}{H':Hp}{h':Heap}{kvs:List (Key×V)}{vs:List (Key×Value)}(z:kvs.length<=sizeLine)(hd:(a==sysModules)=false)(rel:KV kvs vs)(dd:h'.DictOf (cy P w) a vs):
  cu P w H' h' a (.dK kvs):=⟨z,hd,vs,rel,dd⟩
theorem CG{H':Hp}{Q:Unit->Shared->Prop}(hu:A.units+1<cLine)(I:Inv X pins σ H s)(g:yf H a y v H')(ry:RelV y u)(rv:RelV v r)(h:∀s',Inv X pins σ H' s'->Q () s'):
  wpAny (model X.prog X.w) A (setItem (.ref a) u r) Q E s:=by
 rcases g with⟨kvs,k,e,ey,l,eH⟩|⟨kvs,k,b,e,ey,eb,l,eH⟩
 ·subst ey eH
  obtain⟨z,hd,vs,rel,dd⟩:=Qx I.hok e
  have hz:vs.length<=sizeLine:=by rw[<-rel.length];exact z
  have hl:(putK kvs k v).length<=sizeLine:=by have:=fg kvs k v;omega
  refine wpAny_setItem_pairs (hsz:=hz) (ye ry) dd fun h' S8 hs=>h _ ?_
  have he:∃q,h'.get? a=some q:=let⟨q,_,_,hq,_⟩:=S8;⟨q,hq⟩
  exact AZ I (by rw[e];exact True.intro) hs he (Ms hl hd (rel.put k rv) S8)
 ·subst ey eH
  cases (show u=Value.ref b from ry)
  obtain⟨z,hd,xs,rel,dd⟩:=Qy I.hok e
  have hz:xs.length<=sizeLine:=by rw[<-Paired.length rel];exact z
  have hl:(putK kvs k v).length<=sizeLine:=by have:=fg kvs k v;omega
  refine wpAny_setItem_heap (hsz:=hz) (tupleKind_room_in1 hu) (tK I.hok eb) dd fun h' S8 hs=>h _ ?_
  obtain⟨q,es,ep,hq,h2,h3,h4,_,h5⟩:=S8
  refine AZ I (by rw[e];exact True.intro) hs ⟨q,hq⟩ ⟨hl,hd,_,(rel.put k eb rv).keeps fun c ys ec=>?_,q,es,ep,hq,h2,h3,h4,h5⟩
  rw[ah (br ec e (fun z=>nomatch z))]
  exact ec
end
def Qz(i:Expr):Prop:=∀ov iv,subscripted i false ov iv=operate [ov,iv] (getItem ov iv)
theorem HW{prog:Program}{w:World}{A:Around}{E:Value->Shared->Prop}{s:Shared}{env:Env}{value slice:Expr}{pos:Pos}{T id:String}{Q:Value->Shared->Prop}
  (hl:typeLookup (.type T) "__getitem__"=pure (some (.builtin id)))(hs:Qz slice)
  (h:wpAny (model prog w) A (eval value env) (fun o s₁=>wpAny (model prog w) A (eval slice env) (fun i s₂=>s₂.TypeIs o T/\wpAny (model prog w) A (getItem o i) Q E s₂) E s₁) E s):
  wpAny (model prog w) A (eval (.Subscript value slice pos) env) Q E s:=by
 refine Subscript_ (wpAny_mono h (fun o s₁ h₁=>wpAny_mono h₁ (fun i s₂ h₂=>?_) fun _ _ x=>x) fun _ _ x=>x)
 obtain⟨hT,h₂⟩:=h₂
 unfold subscriptTail
 refine wpAny_bind ?_
 rw[getitemInPython_of_ne hT.not_modules]
 refine wpAny_bind (wpAny_specialOf hT hl ?_)
 have fin:wpAny (model prog w) A (subscripted slice false o i) (fun r s₃=>wpAny (model prog w) A (letTemporaryGo value o r>>=fun _=>pure r) Q E s₃) E s₂:=by
  rw[hs o i]
  exact wpAny_operating (wpAny_mono h₂ (fun r s₃ h₃=>wpAny_bind (wpAny_letTemporaryGo (wpAny_pure h₃))) fun _ _ x=>x)
 first
  |exact wpAny_pure (wpAny_bind fin)
  |exact wpAny_bind (wpAny_pure (wpAny_bind fin))
  |exact wpAny_bind fin
theorem yg{X:Cx}{pins:List (Addr×Obj)}{σ:St}{H:Hp}{s:Shared}{a:Addr}{y:V}{o:Option V}(I:Inv X pins σ H s)(g:kU H a y o):s.TypeIs (.ref a) "dict":=by
 rcases g with⟨kvs,k,e,_,_⟩|⟨kvs,k,b,e,_,_,_⟩
 ·obtain⟨_,_,vs,_,dd⟩:=vL I.hok e
  exact dd.typeIs
 ·obtain⟨_,_,xs,_,dd⟩:=tM I.hok e
  exact dd.typeIs
def QA(td ty:TE):TE:=fun σ H Q=>td σ H fun x H1=>ty σ H1 fun y H2=>∃a v,x=.ref a/\kU H2 a y (some v)/\Q v H2
def HX(ty td:TE):TE:=fun σ H Q=>ty σ H fun y H1=>td σ H1 fun x H2=>∃a o,x=.ref a/\kU H2 a y o/\Q (.bl (!o.isSome)) H2
def QB(td ty tv:TE):TS:=fun D σ H=>tv σ H fun v H1=>td σ H1 fun x H2=>ty σ H2 fun y H3=>∃a H4,x=.ref a/\yf H3 a y v H4/\D.nx σ H4
section
variable{X:Cx}{o i e value:Expr}{pos pos' Uv:Pos}{td ty tv:TE}
theorem wN(hu:X.A.units+1<cLine)(ho:PE X o td)(hi:PE X i ty)(hs:Qz i):PE X (.Subscript o i pos) (QA td ty):=by
 intro pins s σ H Q I h
 refine HW PySem.F.slot_dict_getitem.lookup hs (bz (ho pins s σ H _ I h) fun u s1 ⟨x,H1,I1,rx,q1⟩=>bz (hi pins s1 σ H1 _ I1 q1) fun iv s2 ⟨y,H2,I2,ry,a,v,ex,g,q2⟩=>?_)
 subst ex
 obtain rfl:u=Value.ref a:=rx
 exact⟨yg I2 g,CF hu I2 g ry fun w' s3 I3 mr=>⟨v,H2,I3,mr,q2⟩⟩
theorem qD(hu:X.A.units+1<cLine)(hi:PE X i ty)(ho:PE X o td):PC X .NotIn i o (HX ty td):=by
 intro pins s σ H Q I h
 refine bz (hi pins s σ H _ I h) fun iv s1 ⟨y,H1,I1,ry,q1⟩=>bz (ho pins s1 σ H1 _ I1 q1) fun u s2 ⟨x,H2,I2,rx,a,ov,ex,g,q2⟩=>?_
 subst ex
 obtain rfl:u=Value.ref a:=rx
 exact HV hu I2 g ry fun s3 I3=>⟨.bl (!ov.isSome),H2,I3,rfl,q2⟩
theorem sH(hu:X.A.units+1<cLine)(ho:PE X o td)(hi:PE X i ty)(hv:PE X value tv)(hs:swapsWith value (some (.Subscript o i pos')) pos.line X.env=pure false):
  PS X (.Assign [.Subscript o i pos'] value pos) (QB td ty tv):=by
 intro pins s σ H D I h
 refine wpAny_Assign_Subscript (bz (hv pins s σ H _ I h) fun r s1 ⟨v,H1,I1,rv,q1⟩=>bz (ho pins s1 σ H1 _ I1 q1) fun u s2 ⟨x,H2,I2,rx,q2⟩=>bz (hi pins s2 σ H2 _ I2 q2) fun iv s3 ⟨y,H3,I3,ry,a,H4,ex,g,q3⟩=>?_) hs
 subst ex
 obtain rfl:u=Value.ref a:=rx
 exact CG hu I3 g ry rv fun s4 I4=>⟨σ,H4,I4,q3⟩
end
theorem D5{P:Program}{w:World}{H:Hp}(h:Heap)(hb:sysModules<h.objs.size):cu P w H (h.push {cls:=.type "dict",data:=.dict #[]}) h.objs.size (.dT []):=
 ⟨zero_le _,beq_eq_false_iff_ne.mpr (Ne.symm (ne_of_lt hb)),[],.nil,_,#[],0,Heap.get?_push_size _ rfl,⟨rfl,rfl,rfl⟩,rfl,rfl,List.nodup_nil⟩
def Mt:TE:=fun _ H Q=>∀p,H p=none->Q (.ref p) (upd H p (.dT []))
section
variable{X:Cx}{pos:Pos}
theorem pB:PE X (.Dict [] [] pos) Mt:=fun pins s σ H Q I h=>
 wpAny_Dict_empty ⟨.ref s.heap.objs.size,_,I.laid (a:=s.heap.objs.size) (o:=.dT []) (t':=s.toks) (fun _ _ q=>Heap.get?_push_of_some _ q) (Nat.le_refl _) (D5 s.heap I.big),rfl,h _ (I.hok.fresh (Nat.le_refl _))⟩
end
end L2
namespace L2
open PySem PySem.Spec PyProof.Rows
variable{X:Cx}
structure M1(X:Cx)(o:Expr)(m:Str)(apos:Pos)(e:Expr)(aV:Pos):Prop where
 base:attributeBase o m X.env (eval o X.env)=eval o X.env
 few:((backTo aV (starEach [e] X.env)).all (fun x=> !x.1)&&(backToKw aV (keywordEach [] X.env)).all (fun x=>x.1.isSome)
  &&decide (([e]:List Expr).length+([]:List Keyword).length+(if([]:List Keyword).isEmpty then 0 else 1)<30))=true
 line:(apos.endLine==aV.line)=true
 trees:backTo aV (starEach [e] X.env)=[(false,eval e X.env)]
def XR(H:Hp)(a:Addr):Prop:=(∃kvs,Rd H a (.dK kvs))\/∃kvs,Rd H a (.dT kvs)
theorem Mu{X:Cx}{pins:List (Addr×Obj)}{σ:St}{H:Hp}{s:Shared}{a:Addr}(I:Inv X pins σ H s)(d:XR H a):
  s.TypeIs (.ref a) "dict"/\(∀b,Value.ref a=.ref b->∃ob,s.heap.get? b=some ob/\ob.dict=none)/\(a==sysModules)=false:=by
 rcases d with⟨kvs,e⟩|⟨kvs,e⟩
 ·obtain⟨_,hd,vs,_,dd⟩:=vL I.hok e
  refine⟨dd.typeIs,fun b q=>?_,hd⟩
  cases q
  obtain⟨ob,_,_,h1,h2,_⟩:=dd
  exact⟨ob,h1,h2.2.1⟩
 ·obtain⟨_,hd,xs,_,dd⟩:=tM I.hok e
  refine⟨dd.typeIs,fun b q=>?_,hd⟩
  cases q
  obtain⟨ob,_,_,h1,h2,_⟩:=dd
  exact⟨ob,h1,h2.2.1⟩
section
variable{X:Cx}{pins:List (Addr×Obj)}{σ:St}{H:Hp}{s:Shared}{a:Addr}{y d:V}{u r:Value}{o:Option V}{A:Around}{E:Value->Shared->Prop}
theorem Mv{Q:Value->Shared->Prop}(hu:A.units+1<cLine)(I:Inv X pins σ H s)(g:kU H a y o)(ry:RelV y u)(h:∀w' s',Inv X pins σ H s'->RelV (o.getD .non) w'->Q w' s'):
  wpAny (model X.prog X.w) A (call (.builtin "dict.get") [.ref a,u]) Q E s:=by
 rcases g with⟨kvs,k,e,ey,l⟩|⟨kvs,k,b,e,ey,eb,l⟩
 ·subst ey
  obtain⟨z,hd,vs,rel,dd⟩:=vL I.hok e
  refine call_meetsIn slot_dict_get dd.typeIs entry_dict_get (PySem.F.args_dict_get_2 _ _) (meets_dict_get (cy X.prog X.w) a (ye ry) hd) ⟨_,dd.mapOf,h _ _ (I.tok _) ?_⟩
  rw[l]
  exact(rel.val k).getD rfl
 ·subst ey
  cases (show u=Value.ref b from ry)
  obtain⟨z,hd,xs,rel,dd⟩:=tM I.hok e
  refine call_meetsIn slot_dict_get dd.typeIs entry_dict_get (PySem.F.args_dict_get_2 _ _) (meetsH_dict_get (tupleKind (cy X.prog X.w)) a b hd) ⟨tupleKind_room_in1 hu,k,xs,tK I.hok eb,dd,h _ _ (I.tok _) ?_⟩
  rw[l]
  exact(rel.val k).getD rfl
end
def Mw(td ty:TE):TE:=fun σ H Q=>td σ H fun x H1=>∃a,x=.ref a/\XR H1 a/\ty σ H1 fun y H2=>∃o,kU H2 a y o/\Q (o.getD .non) H2
section
variable{X:Cx}{o e f:Expr}{apos aV:Pos}{td ty tx:TE}
theorem D6(hu:X.A.units+1<cLine)(ho:PE X o td)(he:PE X e ty)(m:M1 X o "get" apos e aV):PE X (.Call (.Attribute o "get" apos) [e] [] aV) (Mw td ty):=by
 intro pins s σ H Q I h
 refine wpAny_Call_method m.base m.few m.line PySem.F.plainAttrs_dict slot_dict_get PySem.F.type_dict_get (bz (ho pins s σ H _ I h) fun u s1 ⟨x,H1,I1,rx,a,ex,d,q1⟩=>?_)
 subst ex
 obtain rfl:u=Value.ref a:=rx
 obtain⟨t1,t2,_⟩:=Mu I1 d
 refine⟨t1,t2,?_⟩
 rw[m.trees]
 refine Calls.callWith_builtin rfl (Calls.evalArgs_plain (Calls.spliced_cons (bz (he pins s1 σ H1 _ I1 q1) fun iv s2 ⟨y,H2,I2,ry,ov,g,q2⟩=>Calls.spliced_nil ?_)))
 exact Mv hu I2 g ry fun w' s3 I3 mr=>⟨_,H2,I3,mr,q2⟩
end
end L2
namespace DL
open PySem PySem.Spec PyProof.Rows L2
abbrev St:=L2.St
inductive D where
 |non|bl (b:Bool)|int (i:Int)|str (x:Str)|lst (xs:List D)|tup (xs:List D)|exc (n:Str)|fn (n:Str)
 deriving Inhabited
inductive R (α:Type) where
 |ok (a:α)|err (c:Str)|bad
def R.bind {α β:Type}(r:R α)(f:α->R β):R β:=match r with
 |.ok a=>f a
 |.err c=>.err c
 |.bad=>.bad
def R.of {α:Type}:Option α->R α
 |some a=>.ok a
 |none=>.bad
theorem R.bB {α β:Type}(a:α)(f:α->R β):(R.ok a).bind f=f a:=rfl
theorem R.jI {α:Type}(a:α):R.of (some a)=.ok a:=rfl
def Good{α:Type}(E:Str->Hp->Prop)(H₀:Hp)(r:R α)(post:α->Prop):Prop:=match r with
 |.ok a=>post a
 |.err c=>∀H',aB H₀ H'->E c H'
 |.bad=>False
theorem Good.bind {α β:Type}{E:Str->Hp->Prop}{H₀:Hp}{r:R α}{k:α->R β}{post:β->Prop}(h:Good E H₀ (r.bind k) post):Good E H₀ r (fun a=>Good E H₀ (k a) post):=by
 cases r with
 |ok a=>exact h
 |err c=>exact h
 |bad=>exact h
theorem Good.mono {α:Type}{E:Str->Hp->Prop}{H₀:Hp}{r:R α}{p q:α->Prop}(h:Good E H₀ r p)(w:∀a,r=.ok a->p a->q a):Good E H₀ r q:=by
 cases r with
 |ok a=>exact w a rfl h
 |err c=>exact h
 |bad=>exact h
theorem Good.A0 {α β:Type}{E:Str->Hp->Prop}{H₀:Hp}{r:R α}{k:α->R β}{p:α->Prop}{q:β->Prop}(h:Good E H₀ r p)(w:∀a,r=.ok a->p a->Good E H₀ (k a) q):Good E H₀ (r.bind k) q:=by
 cases r with
 |ok a=>exact w a rfl h
 |err c=>exact h
 |bad=>exact h
theorem Good.of {α:Type}{E:Str->Hp->Prop}{H₀:Hp}{o:Option α}{p:α->Prop}(h:Good E H₀ (R.of o) p):∃a,o=some a/\p a:=by
 cases o with
 |none=>exact False.elim h
 |some a=>exact⟨a,rfl,h⟩
def KL(K:PySem.W.Frag)(a:Addr)(xs:List V):Prop:=∃(o:Obj)(its:Array Value)(n:Nat),K.lookup a=some o/\o.cls=.type "list"/\o.dict=none/\o.data=.seq its n/\its.size<=sizeLine/\Vals xs its.toList
def KT(K:PySem.W.Frag)(a:Addr)(xs:List V):Prop:=∃(o:Obj)(its:Array Value)(n:Nat),K.lookup a=some o/\o.cls=.type "tuple"/\o.data=.seq its n/\its.size<=sizeLine/\Vals xs its.toList
def rW(K:PySem.W.Frag)(P:Addr->Prop)(H:Hp)(a:Addr)(vs:List V):Prop:=(P a/\Rd H a (.lst vs))\/KL K a vs
def CH(K:PySem.W.Frag)(P:Addr->Prop)(H:Hp)(a:Addr)(vs:List V):Prop:=(P a/\Rd H a (.tup vs))\/KT K a vs
theorem rW.sq {K:PySem.W.Frag}{P:Addr->Prop}{H:Hp}{a:Addr}{vs:List V}(h:rW K P H a vs):bW K H a vs:=h.elim (fun z=>.inl z.2) .inr
theorem CH.sq {K:PySem.W.Frag}{P:Addr->Prop}{H:Hp}{a:Addr}{vs:List V}(h:CH K P H a vs):xZ K H a vs:=h.elim (fun z=>.inl z.2) .inr
theorem rW.any {K:PySem.W.Frag}{H:Hp}{a:Addr}{vs:List V}(h:bW K H a vs):rW K (fun _=>True) H a vs:=h.elim (fun z=>.inl ⟨trivial,z⟩) .inr
def UO(a C:Addr):Heap->Prop:=fun h=>∃vs,h.get? a=some {cls:=.ref C,data:=.fields vs}
def Is(K:PySem.W.Frag)(P:Addr->Prop)(H:Hp):D->V->Prop
 |.non,v=>v=.non
 |.bl b,v=>v=.bl b
 |.int i,v=>v=.int i
 |.str x,v=>v=.str x
 |.lst ds,v=>∃a vs,v=.ref a/\rW K P H a vs/\IsL ds vs
 |.tup ds,v=>∃a vs,v=.ref a/\CH K P H a vs/\IsL ds vs
 |.exc n,v=>∃a C,v=.ref a/\P a/\nsIn K mainGlobals n=some (some (.ref C))/\H a=some (.ext (UO a C))
 |.fn n,v=>∃a,v=.ref a/\nsIn K mainGlobals n=some (some (.ref a))
where
 IsL:List D->List V->Prop
 |[],vs=>vs=[]
 |d::ds,vs=>∃v r,vs=v::r/\Is K P H d v/\IsL ds r
abbrev IsL(K:PySem.W.Frag)(P:Addr->Prop)(H:Hp):List D->List V->Prop:=Is.IsL K P H
section
variable{K:PySem.W.Frag}{P P':Addr->Prop}{H H':Hp}
structure Ext(P P':Addr->Prop)(H H':Hp):Prop where
 p:∀a o,P a->H a=some o->P' a
 h:∀a o,P a->H a=some o->H' a=some o
theorem Ext.rd (e:Ext P P' H H'){a:Addr}{u:HO}(p:P a)(r:Rd H a u):P' a/\Rd H' a u:=by
 rcases r with r|⟨o,r⟩
 ·exact⟨e.p a _ p r,.inl (e.h a _ p r)⟩
 ·exact⟨e.p a _ p r,.inr ⟨o,e.h a _ p r⟩⟩
theorem rW.ext (e:Ext P P' H H'){a:Addr}{vs:List V}(h:rW K P H a vs):rW K P' H' a vs:=h.elim (fun z=>.inl (e.rd z.1 z.2)) .inr
theorem CH.ext (e:Ext P P' H H'){a:Addr}{vs:List V}(h:CH K P H a vs):CH K P' H' a vs:=h.elim (fun z=>.inl (e.rd z.1 z.2)) .inr
mutual
theorem Is.ext (e:Ext P P' H H'):∀(d:D)(v:V),Is K P H d v->Is K P' H' d v
 |.non,_,h=>h
 |.bl _,_,h=>h
 |.int _,_,h=>h
 |.str _,_,h=>h
 |.lst ds,_,⟨a,vs,e1,l,q⟩=>⟨a,vs,e1,l.ext e,IsL.ext e ds vs q⟩
 |.tup ds,_,⟨a,vs,e1,l,q⟩=>⟨a,vs,e1,l.ext e,IsL.ext e ds vs q⟩
 |.exc n,_,⟨a,C,e1,p,c,q⟩=>⟨a,C,e1,e.p a _ p q,c,e.h a _ p q⟩
 |.fn _,_,h=>h
theorem IsL.ext (e:Ext P P' H H'):∀(ds:List D)(vs:List V),IsL K P H ds vs->IsL K P' H' ds vs
 |[],_,h=>h
 |d::ds,_,⟨v,r,e1,p,q⟩=>⟨v,r,e1,Is.ext e d v p,IsL.ext e ds r q⟩
end
theorem Ext.same (s:aB H H'):Ext P P H H':=⟨fun _ _ p _=>p,fun a o _ h=>s a o h⟩
theorem Is.same (s:aB H H'){d:D}{v:V}(h:Is K P H d v):Is K P H' d v:=Is.ext (.same s) d v h
theorem IsL.same (s:aB H H'){d:List D}{v:List V}(h:IsL K P H d v):IsL K P H' d v:=IsL.ext (.same s) d v h
theorem Is.weak {d:D}{v:V}(h:Is K P H d v):Is K (fun _=>True) H d v:=Is.ext ⟨fun _ _ _ _=>trivial,fun _ _ _ q=>q⟩ d v h
theorem IsL.weak {d:List D}{v:List V}(h:IsL K P H d v):IsL K (fun _=>True) H d v:=IsL.ext ⟨fun _ _ _ _=>trivial,fun _ _ _ q=>q⟩ d v h
def toV:D->Option V
 |.non=>some .non
 |.bl b=>some (.bl b)
 |.int i=>some (.int i)
 |.str x=>some (.str x)
 |_=>none
theorem Is.sc {d:D}{z:V}(h:toV d=some z):Is K P H d z:=by
 cases d with
 |non=>cases h;rfl
 |bl b=>cases h;rfl
 |int b=>cases h;rfl
 |str b=>cases h;rfl
 |lst b=>cases h
 |exc _=>cases h
 |fn _=>cases h
 |tup b=>cases h
theorem Is.JT {d:D}{z v:V}(h:toV d=some z)(i:Is K P H d v):v=z:=by
 cases d with
 |non=>cases h;exact i
 |bl b=>cases h;exact i
 |int b=>cases h;exact i
 |str b=>cases h;exact i
 |lst b=>cases h
 |exc _=>cases h
 |fn _=>cases h
 |tup b=>cases h
theorem IsL.length:∀{ds:List D}{vs:List V},IsL K P H ds vs->vs.length=ds.length
 |[],_,h=>by subst h;rfl
 |d::ds,_,⟨v,r,e,_,q⟩=>by subst e;simp[IsL.length q]
theorem IsL.get:∀{ds:List D}{vs:List V}{i:Nat}{d:D},IsL K P H ds vs->ds[i]?=some d->∃v,vs[i]?=some v/\Is K P H d v
 |[],_,_,_,_,e=>by simp at e
 |d::ds,_,0,_,⟨v,r,e,p,q⟩,e2=>by subst e;simp at e2;subst e2;exact⟨v,rfl,p⟩
 |d::ds,_,i+1,_,⟨v,r,e,p,q⟩,e2=>by
  subst e
  obtain⟨v',h1,h2⟩:=IsL.get (i:=i) q (by simpa using e2)
  exact⟨v',by simpa using h1,h2⟩
theorem IsL.app:∀{ds es:List D}{vs ws:List V},IsL K P H ds vs->IsL K P H es ws->IsL K P H (ds++es) (vs++ws)
 |[],_,_,_,h,q=>by
  have h':_=[]:=h
  subst h';exact q
 |d::ds,_,_,_,⟨v,r,e,p,q⟩,q2=>by subst e;exact⟨v,_,rfl,p,IsL.app q q2⟩
theorem IsL.one {d:D}{v:V}(h:Is K P H d v):IsL K P H [d] [v]:=⟨v,[],rfl,h,rfl⟩
theorem IsL.cons {d:D}{v:V}{ds:List D}{vs:List V}(h:Is K P H d v)(q:IsL K P H ds vs):IsL K P H (d::ds) (v::vs):=⟨v,vs,rfl,h,q⟩
theorem IsL.drop:∀{ds:List D}{vs:List V}(n:Nat),IsL K P H ds vs->IsL K P H (ds.drop n) (vs.drop n)
 |_,_,0,h=>h
 |[],_,n+1,h=>by
  have h':_=[]:=h
  subst h';exact rfl
 |d::ds,_,n+1,⟨v,r,e,p,q⟩=>by subst e;exact IsL.drop n q
theorem IsL.take:∀{ds:List D}{vs:List V}(n:Nat),IsL K P H ds vs->IsL K P H (ds.take n) (vs.take n)
 |_,_,0,_=>rfl
 |[],_,n+1,h=>by
  have h':_=[]:=h
  subst h';exact rfl
 |d::ds,_,n+1,⟨v,r,e,p,q⟩=>by subst e;exact⟨v,_,rfl,p,IsL.take n q⟩
theorem IsL.set:∀{ds:List D}{vs:List V}{d:D}{v:V}(i:Nat),IsL K P H ds vs->Is K P H d v->IsL K P H (ds.set i d) (vs.set i v)
 |[],_,_,_,_,h,_=>by
  have h':_=[]:=h
  subst h';exact rfl
 |d::ds,_,_,_,0,⟨v,r,e,p,q⟩,h=>by subst e;exact⟨_,_,rfl,h,q⟩
 |d::ds,_,_,_,i+1,⟨v,r,e,p,q⟩,h=>by subst e;exact⟨v,_,rfl,p,IsL.set i q h⟩
end
abbrev HY:=Int×Int×List Int
inductive Ct where
 |ls (nss:List (List Int))|tp (nss:List (List Int))|dk (ks:List Int)|tq (n:Int) (ns:List Int)|tr (ts:List HY)
instance:Coe (List (List Int)) Ct:=⟨Ct.ls⟩
inductive Sl where
 |no|val (d:D)|own (xs:List D)|raw (v:V)|deep (c:Ct)
abbrev DE:=List Sl
structure Gh where
 P₀:Addr->Prop
 H₀:Hp
def Gh.P (g:Gh)(os:List Addr)(a:Addr):Prop:=(g.P₀ a\/g.H₀ a=none)/\a∉os
structure xO(hd:List V->HO)(H:Hp)(os:List Addr)(a:Addr)(as:List Addr)(nss:List (List Int)):Prop where
 ma:a∈os
 ha:H a=some (hd (as.map V.ref))
 len:as.length=nss.length
 nd:(a::as).Nodup
 it:∀(k:Nat)(b:Addr)(ns:List Int),as[k]?=some b->nss[k]?=some ns->b∈os/\H b=some (.lst (ns.map V.int))
theorem xO.mem {hd:List V->HO}{H:Hp}{os:List Addr}{a:Addr}{as:List Addr}{nss:List (List Int)}(d:xO hd H os a as nss):∀x∈a::as,x∈os/\∃o,H x=some o:=fun x hx=>by
 rcases mem_cons.mp hx with rfl|hx
 ·exact⟨d.ma,_,d.ha⟩
 ·obtain⟨k,hk,rfl⟩:=getElem_of_mem hx
  have Mx:k<nss.length:=by rw[<-d.len];exact hk
  have q:=d.it k _ _ (getElem?_eq_getElem hk) (getElem?_eq_getElem Mx)
  exact⟨q.1,_,q.2⟩
theorem xO.to {hd:List V->HO}{H H':Hp}{os hU:List Addr}{a:Addr}{as:List Addr}{nss:List (List Int)}(d:xO hd H os a as nss)(h:∀x∈a::as,x∈hU/\H' x=H x):xO hd H' hU a as nss:=
 ⟨(h a (by simp)).1,by rw[(h a (by simp)).2];exact d.ha,d.len,d.nd,fun k b ns e1 e2=>by
  have q:=d.it k b ns e1 e2
  have hb:=h b (mem_cons_of_mem _ (mem_of_getElem? e1))
  exact⟨hb.1,by rw[hb.2];exact q.2⟩⟩
def QC(H:Hp)(as:List Addr)(t:HY)(v:V):Prop:=∃b c,v=.ref b/\b∈as/\c∈as/\H b=some (.tup [.int t.1,.int t.2.1,.ref c])/\H c=some (.lst (t.2.2.map V.int))
structure My(H:Hp)(os:List Addr)(a:Addr)(as:List Addr)(ts:List HY):Prop where
 ma:a∈os
 na:a∉as
 mem:∀x∈as,x∈os/\∃o,H x=some o
 at_:∃vs,H a=some (.lst vs)/\vs.length=ts.length/\∀(k:Nat)(t:HY)(v:V),ts[k]?=some t->vs[k]?=some v->QC H as t v
theorem QC.to {H H':Hp}{as as':List Addr}{t:HY}{v:V}(d:QC H as t v)(h:∀x∈as,x∈as'/\H' x=H x):QC H' as' t v:=by
 obtain⟨b,c,e,h1,h2,h3,h4⟩:=d
 exact⟨b,c,e,(h b h1).1,(h c h2).1,by rw[(h b h1).2];exact h3,by rw[(h c h2).2];exact h4⟩
theorem My.to {H H':Hp}{os hU:List Addr}{a:Addr}{as:List Addr}{ts:List HY}(d:My H os a as ts)(h:∀x∈a::as,x∈hU/\H' x=H x):My H' hU a as ts:=by
 obtain⟨vs,h1,h2,h3⟩:=d.at_
 refine⟨(h a (by simp)).1,d.na,fun x hx=>?_,vs,by rw[(h a (by simp)).2];exact h1,h2,fun k t v e1 e2=>(h3 k t v e1 e2).to fun x hx=>⟨hx,(h x (mem_cons_of_mem _ hx)).2⟩⟩
 obtain⟨q1,o,q2⟩:=d.mem x hx
 have q:=h x (mem_cons_of_mem _ hx)
 exact⟨q.1,o,by rw[q.2];exact q2⟩
def ZL(ks:List Int):List (Key×V):=ks.map fun k=>(Sum.inl k,V.bl true)
abbrev Dp(H:Hp)(os:List Addr)(a:Addr)(as:List Addr)(c:Ct):Prop:=match c with
 |.ls nss=>xO HO.lst H os a as nss
 |.tp nss=>xO HO.tup H os a as nss
 |.dk ks=>a∈os/\as=[]/\H a=some (.dK (ZL ks))
 |.tq n ns=>∃b,as=[b]/\a∈os/\b∈os/\a≠b/\H a=some (.tup [.int n,.ref b])/\H b=some (.lst (ns.map V.int))
 |.tr ts=>My H os a as ts
theorem Dp.mem {H:Hp}{os:List Addr}{a:Addr}{as:List Addr}{c:Ct}(d:Dp H os a as c):∀x∈a::as,x∈os/\∃o,H x=some o:=by
 cases c with
 |ls nss=>exact xO.mem d
 |tp nss=>exact xO.mem d
 |dk ks=>
  obtain⟨h1,rfl,h2⟩:=d
  intro x hx
  rcases mem_cons.mp hx with rfl|hx
  ·exact⟨h1,_,h2⟩
  ·cases hx
 |tq n ns=>
  obtain⟨b,rfl,h1,h2,h3,h4,h5⟩:=d
  intro x hx
  rcases mem_cons.mp hx with rfl|hx
  ·exact⟨h1,_,h4⟩
  ·rcases mem_cons.mp hx with rfl|hx
   ·exact⟨h2,_,h5⟩
   ·cases hx
 |tr ts=>
  have d':My H os a as ts:=d
  intro x hx
  rcases mem_cons.mp hx with rfl|hx
  ·obtain⟨vs,h1,_⟩:=d'.at_
   exact⟨d'.ma,_,h1⟩
  ·exact d'.mem x hx
theorem Dp.to {H H':Hp}{os hU:List Addr}{a:Addr}{as:List Addr}{c:Ct}(d:Dp H os a as c)(h:∀x∈a::as,x∈hU/\H' x=H x):Dp H' hU a as c:=by
 cases c with
 |ls nss=>exact xO.to d h
 |tp nss=>exact xO.to d h
 |dk ks=>
  obtain⟨h1,rfl,h2⟩:=d
  exact⟨(h a (by simp)).1,rfl,by rw[(h a (by simp)).2];exact h2⟩
 |tq n ns=>
  obtain⟨b,rfl,h1,h2,h3,h4,h5⟩:=d
  exact⟨b,rfl,(h a (by simp)).1,(h b (by simp)).1,h3,by rw[(h a (by simp)).2];exact h4,by rw[(h b (by simp)).2];exact h5⟩
 |tr ts=>exact My.to d h
theorem Dp.ma {H:Hp}{os:List Addr}{a:Addr}{as:List Addr}{nss:List (List Int)}(d:Dp H os a as (.ls nss)):a∈os:=xO.ma d
theorem Dp.ha {H:Hp}{os:List Addr}{a:Addr}{as:List Addr}{nss:List (List Int)}(d:Dp H os a as (.ls nss)):H a=some (.lst (as.map V.ref)):=xO.ha d
theorem Dp.len {H:Hp}{os:List Addr}{a:Addr}{as:List Addr}{nss:List (List Int)}(d:Dp H os a as (.ls nss)):as.length=nss.length:=xO.len d
theorem Dp.nd {H:Hp}{os:List Addr}{a:Addr}{as:List Addr}{nss:List (List Int)}(d:Dp H os a as (.ls nss)):(a::as).Nodup:=xO.nd d
theorem Dp.it {H:Hp}{os:List Addr}{a:Addr}{as:List Addr}{nss:List (List Int)}(d:Dp H os a as (.ls nss)):∀(k:Nat)(b:Addr)(ns:List Int),as[k]?=some b->nss[k]?=some ns->b∈os/\H b=some (.lst (ns.map V.int)):=xO.it d
structure O8(A:Nat->List Addr)(env:DE)(σ:St)(H:Hp)(os:List Addr):Prop where
 dp:∀(i:Nat)(nss:Ct),env[i]?=some (.deep nss)->∃a as,A i=a::as/\σ[i]?=some (some (.ref a))/\Dp H os a as nss
 ow:∀(i:Nat)(nss:Ct)(j:Nat)(xs:List D)(b:Addr),env[i]?=some (.deep nss)->env[j]?=some (.own xs)->σ[j]?=some (some (.ref b))->b∉A i
 dj:∀(i j:Nat)(nss ou:Ct),i≠j->env[i]?=some (.deep nss)->env[j]?=some (.deep ou)->∀x∈A i,x∉A j
theorem O8.mem {A:Nat->List Addr}{env:DE}{σ:St}{H:Hp}{os:List Addr}(d:O8 A env σ H os){i:Nat}{nss:Ct}(e:env[i]?=some (.deep nss)):∀x∈A i,x∈os/\∃o,H x=some o:=fun x hx=>by
 obtain⟨a,as,h1,_,h3⟩:=d.dp i nss e
 rw[h1]at hx
 exact h3.mem x hx
theorem O8.to {A:Nat->List Addr}{env ve:DE}{σ σ':St}{H H':Hp}{os hU:List Addr}(d:O8 A env σ H os)
  (hd:∀(j:Nat)(nss:Ct),ve[j]?=some (.deep nss)->env[j]?=some (.deep nss)/\σ'[j]?=σ[j]?)
  (ho:∀(j:Nat)(xs:List D)(b:Addr),ve[j]?=some (.own xs)->σ'[j]?=some (some (.ref b))->(∃ys,env[j]?=some (.own ys)/\σ[j]?=some (some (.ref b)))\/b∉os)
  (hH:∀(i:Nat)(nss:Ct),env[i]?=some (.deep nss)->∀x∈A i,x∈hU/\H' x=H x):O8 A ve σ' H' hU where
 dp i nss e:=by
  obtain⟨e',q⟩:=hd i nss e
  obtain⟨a,as,h1,h2,h3⟩:=d.dp i nss e'
  exact⟨a,as,h1,by rw[q];exact h2,h3.to fun x hx=>hH i nss e' x (by rw[h1];exact hx)⟩
 ow i nss j xs b e1 e2 e3:=by
  obtain⟨D7,_⟩:=hd i nss e1
  rcases ho j xs b e2 e3 with⟨ys,q1,q2⟩|q
  ·exact d.ow i nss j ys b D7 q1 q2
  ·exact fun z=>q (d.mem D7 b z).1
 dj i j nss ou hij e1 e2:=d.dj i j nss ou hij (hd i nss e1).1 (hd j ou e2).1
def yh(env:DE)(σ:St)(H:Hp)(os:List Addr):Prop:=∃A,O8 A env σ H os
theorem yh.none {env:DE}{σ:St}{H:Hp}{os:List Addr}(h:∀(i:Nat)(nss:Ct),env[i]?≠some (.deep nss)):yh env σ H os:=
 ⟨fun _=>[],fun i nss e=>(h i nss e).elim,fun i nss _ _ _ e=>(h i nss e).elim,fun i _ nss _ _ e=>(h i nss e).elim⟩
structure Rel(K:PySem.W.Frag)(g:Gh)(env:DE)(σ:St)(H:Hp)(os:List Addr):Prop where
 len:σ.length=env.length
 ext:aB g.H₀ H
 val:∀(i:Nat)(d:D),env[i]?=some (.val d)->∃v,σ[i]?=some (some v)/\Is K (g.P os) H d v
 own:∀(i:Nat)(xs:List D),env[i]?=some (.own xs)->∃a vs,σ[i]?=some (some (.ref a))/\a∈os/\H a=some (.lst vs)/\IsL K (g.P os) H xs vs
 inj:∀(i j:Nat)(xs ys:List D)(a:Addr),env[i]?=some (.own xs)->env[j]?=some (.own ys)->σ[i]?=some (some (.ref a))->σ[j]?=some (some (.ref a))->i=j
 new:∀a∈os,g.H₀ a=none/\∃o,H a=some o
 raw:∀(i:Nat)(v:V),env[i]?=some (.raw v)->σ[i]?=some (some v)
 D8:yh env σ H os
section
variable{K:PySem.W.Frag}{g:Gh}{env:DE}{σ:St}{H H':Hp}{os:List Addr}
theorem Rel.same (r:Rel K g env σ H os)(s:aB H H'):Rel K g env σ H' os:=
 ⟨r.len,r.ext.trans s,fun i d e=>let⟨v,h1,h2⟩:=r.val i d e;⟨v,h1,h2.same s⟩,
  fun i xs e=>let⟨a,vs,h1,h2,h3,h4⟩:=r.own i xs e;⟨a,vs,h1,h2,s a _ h3,h4.same s⟩,r.inj,fun a ha=>⟨(r.new a ha).1,let⟨o,h⟩:=(r.new a ha).2;⟨o,s a o h⟩⟩,r.raw,by
  obtain⟨A,d⟩:=r.D8
  exact⟨A,d.to (fun j nss e=>⟨e,rfl⟩) (fun j xs b e q=>.inl ⟨xs,e,q⟩) fun i nss e x hx=>by
   obtain⟨q1,o,q2⟩:=d.mem e x hx
   exact⟨q1,by rw[s x o q2,q2]⟩⟩⟩
theorem Rel.fresh (r:Rel K g env σ H os){a:Addr}(h:H a=none):g.P os a:=by
 refine⟨.inr (r.ext.free h),fun hm=>?_⟩
 obtain⟨o,e⟩:=(r.new a hm).2
 rw[h]at e;cases e
theorem aD{p:Addr}(h:H p=none)(o:HO):aB H (upd H p o):=fun b u q=>by rw[ah (ao q h)];exact q
theorem Rel.set (r:Rel K g env σ H os)(i:Nat){d:D}{v:V}(h:Is K (g.P os) H d v):Rel K g (env.set i (.val d)) (σ.set i (some v)) H os:=by
 refine⟨by simp[r.len],r.ext,fun j d' e=>?_,fun j xs e=>?_,fun j k xs ys a e1 e2 e3 e4=>?_,r.new,fun j w e=>?_,?_⟩
 ·by_cases hj:i=j
  ·subst hj
   have hi:i<env.length:=by
    have:=(List.getElem?_eq_some_iff.mp e).1
    simpa using this
   rw[getElem?_set_self hi]at e
   cases e
   exact⟨v,by rw[getElem?_set_self (by rw[r.len];exact hi)],h⟩
  ·rw[getElem?_set_ne hj]at e
   obtain⟨v',h1,h2⟩:=r.val j d' e
   exact⟨v',by rw[getElem?_set_ne hj];exact h1,h2⟩
 ·by_cases hj:i=j
  ·subst hj
   have hi:i<env.length:=by
    have:=(List.getElem?_eq_some_iff.mp e).1
    simpa using this
   rw[getElem?_set_self hi]at e
   cases e
  ·rw[getElem?_set_ne hj]at e
   obtain⟨a,vs,h1,h2⟩:=r.own j xs e
   exact⟨a,vs,by rw[getElem?_set_ne hj];exact h1,h2⟩
 ·have f:∀(j:Nat)(xs:List D),(env.set i (Sl.val d))[j]?=some (.own xs)->i≠j:=fun j xs e hj=>by
   subst hj
   have hi:i<env.length:=by
    have:=(List.getElem?_eq_some_iff.mp e).1
    simpa using this
   rw[getElem?_set_self hi]at e
   cases e
  have hj:=f j xs e1
  have hk:=f k ys e2
  rw[getElem?_set_ne hj]at e1 e3
  rw[getElem?_set_ne hk]at e2 e4
  exact r.inj j k xs ys a e1 e2 e3 e4
 ·by_cases hj:i=j
  ·subst hj
   have hi:i<env.length:=by
    have:=(List.getElem?_eq_some_iff.mp e).1
    simpa using this
   rw[getElem?_set_self hi]at e
   cases e
  ·rw[getElem?_set_ne hj]at e⊢
   exact r.raw j w e
 ·obtain⟨A,dd⟩:=r.D8
  have f:∀(j:Nat)(sl:Sl),(env.set i (Sl.val d))[j]?=some sl->(∀d',sl≠.val d')->i≠j/\env[j]?=some sl:=fun j sl q hn=>by
   by_cases hj:i=j
   ·subst hj
    have hi:i<env.length:=by
     have:=(List.getElem?_eq_some_iff.mp q).1
     simpa using this
    rw[getElem?_set_self hi]at q
    exact(hn d (Option.some.inj q).symm).elim
   ·rw[getElem?_set_ne hj]at q
    exact⟨hj,q⟩
  refine⟨A,dd.to (fun j nss q=>?_) (fun j xs b q z=>?_) fun j nss q x hx=>⟨(dd.mem q x hx).1,rfl⟩⟩
  ·obtain⟨hj,q⟩:=f j _ q (fun _ z=>nomatch z)
   exact⟨q,by rw[getElem?_set_ne hj]⟩
  ·obtain⟨hj,q⟩:=f j _ q (fun _ z=>nomatch z)
   rw[getElem?_set_ne hj]at z
   exact .inl ⟨xs,q,z⟩
theorem Rel.apart (r:Rel K g env σ H os){a:Addr}(s:aB H H')(hn:H a=none):Ext (g.P os) (g.P (a::os)) H H':=
 ⟨fun b o p e=>⟨p.1,fun hm=>by
  rcases mem_cons.mp hm with z|z
  ·rw[z,hn]at e;cases e
  ·exact p.2 z⟩,fun b o _ e=>s b o e⟩
theorem aR{α:Type}{l:List α}{i:Nat}{x y:α}(e:(l.set i x)[i]?=some y):y=x:=by
 have hi:i<l.length:=by
  have:=(List.getElem?_eq_some_iff.mp e).1
  simpa using this
 rw[getElem?_set_self hi]at e
 cases e;rfl
theorem vM{α:Type}{l:List α}{i j:Nat}{x y:α}(e:(l.set i x)[j]?=some y):j<l.length:=by
 have:=(List.getElem?_eq_some_iff.mp e).1
 simpa using this
theorem Rel.UQ (r:Rel K g env σ H os)(s:aB H H')(i:Nat){xs:List D}{vs:List V}{a:Addr}(hn:H a=none)(hH:H' a=some (.lst vs))(h:IsL K (g.P (a::os)) H' xs vs):
  Rel K g (env.set i (.own xs)) (σ.set i (some (.ref a))) H' (a::os):=by
 have ap:=r.apart s hn
 have old:∀(j:Nat)(ys:List D),env[j]?=some (.own ys)->σ[j]?=some (some (.ref a))->False:=fun j ys e q=>by
  obtain⟨b,ws,h1,h2,h3,_⟩:=r.own j ys e
  rw[q]at h1
  cases h1
  rw[hn]at h3;cases h3
 refine⟨by simp[r.len],r.ext.trans s,fun j d' e=>?_,fun j ys e=>?_,fun j k ys zs b e1 e2 e3 e4=>?_,fun b hb=>?_,fun j w e=>?_,?_⟩
 ·by_cases hj:i=j
  ·subst hj
   exact nomatch aR e
  ·rw[getElem?_set_ne hj]at e
   obtain⟨v,h1,h2⟩:=r.val j d' e
   exact⟨v,by rw[getElem?_set_ne hj];exact h1,Is.ext ap _ _ h2⟩
 ·by_cases hj:i=j
  ·subst hj
   have hi:=vM e
   have e':=aR e
   cases e'
   exact⟨a,vs,by rw[getElem?_set_self (by rw[r.len];exact hi)],by simp,hH,h⟩
  ·rw[getElem?_set_ne hj]at e
   obtain⟨b,ws,h1,h2,h3,h4⟩:=r.own j ys e
   exact⟨b,ws,by rw[getElem?_set_ne hj];exact h1,mem_cons_of_mem _ h2,s _ _ h3,IsL.ext ap _ _ h4⟩
 ·by_cases hj:i=j
  ·subst hj
   by_cases hk:i=k
   ·exact hk
   ·have ZM:=aR e3
    cases ZM
    rw[getElem?_set_ne hk]at e2 e4
    exact(old k zs e2 e4).elim
  ·by_cases hk:i=k
   ·subst hk
    have ZN:=aR e4
    cases ZN
    rw[getElem?_set_ne hj]at e1 e3
    exact(old j ys e1 e3).elim
   ·rw[getElem?_set_ne hj]at e1 e3
    rw[getElem?_set_ne hk]at e2 e4
    exact r.inj j k ys zs b e1 e2 e3 e4
 ·rcases mem_cons.mp hb with rfl|hb
  ·exact⟨r.ext.free hn,_,hH⟩
  ·obtain⟨h1,o,h2⟩:=r.new b hb
   exact⟨h1,o,s _ _ h2⟩
 ·by_cases hj:i=j
  ·subst hj
   exact nomatch aR e
  ·rw[getElem?_set_ne hj]at e⊢
   exact r.raw j w e
 ·obtain⟨A,dd⟩:=r.D8
  have f:∀(j:Nat)(sl:Sl),(env.set i (Sl.own xs))[j]?=some sl->i≠j->env[j]?=some sl:=fun j sl q hj=>by
   rwa [getElem?_set_ne hj]at q
  refine⟨A,dd.to (fun j nss q=>?_) (fun j ys b q z=>?_) fun j nss q x hx=>?_⟩
  ·by_cases hj:i=j
   ·subst hj
    exact nomatch aR q
   ·exact⟨f j _ q hj,by rw[getElem?_set_ne hj]⟩
  ·by_cases hj:i=j
   ·subst hj
    have z':=aR z
    cases z'
    exact .inr fun hm=>by
     obtain⟨o,ho⟩:=(r.new a hm).2
     rw[hn]at ho
     cases ho
   ·rw[getElem?_set_ne hj]at z
    exact .inl ⟨ys,f j _ q hj,z⟩
  ·obtain⟨q1,o,q2⟩:=dd.mem q x hx
   exact⟨mem_cons_of_mem _ q1,by rw[s x o q2,q2]⟩
theorem Rel.mut (r:Rel K g env σ H os){i:Nat}{xs UR:List D}{A5:List V}{a:Addr}(e:env[i]?=some (.own xs))(hσ:σ[i]?=some (some (.ref a)))(ha:a∈os)(h:IsL K (g.P os) H UR A5):
  Rel K g (env.set i (.own UR)) σ (upd H a (.lst A5)) os:=by
 have ex:Ext (g.P os) (g.P os) H (upd H a (.lst A5)):=⟨fun _ _ p _=>p,fun b o p q=>by rw[ah (fun z=>p.2 (by rw[z];exact ha))];exact q⟩
 refine⟨by simp[r.len],fun b o q=>?_,fun j d' e'=>?_,fun j ys e'=>?_,fun j k ys zs b e1 e2 e3 e4=>?_,fun b hb=>?_,fun j w e'=>?_,?_⟩
 ·rw[ah (fun z=>by rw[z,(r.new a ha).1]at q;cases q)]
  exact r.ext b o q
 ·by_cases hj:i=j
  ·subst hj
   exact nomatch aR e'
  ·rw[getElem?_set_ne hj]at e'
   obtain⟨v,h1,h2⟩:=r.val j d' e'
   exact⟨v,h1,Is.ext ex _ _ h2⟩
 ·by_cases hj:i=j
  ·subst hj
   have e2:=aR e'
   cases e2
   exact⟨a,A5,hσ,ha,ak,IsL.ext ex _ _ h⟩
  ·rw[getElem?_set_ne hj]at e'
   obtain⟨b,ws,h1,h2,h3,h4⟩:=r.own j ys e'
   have hb:b≠a:=fun z=>by
    subst z
    exact hj (r.inj i j xs ys b e e' hσ h1)
   exact⟨b,ws,h1,h2,by rw[ah hb];exact h3,IsL.ext ex _ _ h4⟩
 ·have f:∀(j:Nat)(ys:List D),(env.set i (Sl.own UR))[j]?=some (.own ys)->∃ZO,env[j]?=some (.own ZO):=fun j ys q=>by
   by_cases hj:i=j
   ·subst hj;exact⟨xs,e⟩
   ·rw[getElem?_set_ne hj]at q;exact⟨ys,q⟩
  obtain⟨y1,f1⟩:=f j ys e1
  obtain⟨y2,f2⟩:=f k zs e2
  exact r.inj j k y1 y2 b f1 f2 e3 e4
 ·obtain⟨h1,o,h2⟩:=r.new b hb
  refine⟨h1,?_⟩
  by_cases z:b=a
  ·exact⟨_,by rw[z];exact ak⟩
  ·exact⟨o,by rw[ah z];exact h2⟩
 ·by_cases hj:i=j
  ·subst hj
   exact nomatch aR e'
  ·rw[getElem?_set_ne hj]at e'
   exact r.raw j w e'
 ·obtain⟨A,dd⟩:=r.D8
  refine⟨A,dd.to (fun j nss q=>?_) (fun j ys b q z=>?_) fun j nss q x hx=>⟨(dd.mem q x hx).1,?_⟩⟩
  ·by_cases hj:i=j
   ·subst hj
    exact nomatch aR q
   ·rw[getElem?_set_ne hj]at q
    exact⟨q,rfl⟩
  ·by_cases hj:i=j
   ·subst hj
    exact .inl ⟨xs,e,z⟩
   ·rw[getElem?_set_ne hj]at q
    exact .inl ⟨ys,q,z⟩
  ·have hxa:x≠a:=fun z=>dd.ow j nss i xs a q e hσ (by rw[<-z];exact hx)
   rw[ah hxa]
end
section
variable(K:PySem.W.Frag)(E:Str->Hp->Prop)
def tD(f:DE->R D):TE:=fun σ H Q=>∃g env os,Rel K g env σ H os/\Good E g.H₀ (f env) fun d=>∀v H',aB H H'->Is K (g.P os) H' d v->Q v H'
def tB(f:DE->R D):TE:=fun σ H Q=>∃g env os,Rel K g env σ H os/\Good E g.H₀ (f env) fun d=>∀v H',aB H H'->Is K (fun _=>True) H' d v->Q v H'
def tF(f:DE->R (List D)):TE:=fun σ H Q=>∃g env os,Rel K g env σ H os/\Good E g.H₀ (f env) fun xs=>∀a vs H',aB H H'->H a=none->H' a=some (.lst vs)->IsL K (g.P (a::os)) H' xs vs->Q (.ref a) H'
def tL(f:DE->R (List D)):TE:=fun σ H Q=>∃g env os,Rel K g env σ H os/\Good E g.H₀ (f env) fun xs=>∀a vs H',aB H H'->bW K H' a vs->IsL K (g.P os) H' xs vs->Q (.ref a) H'
def tT(f:DE->R Bool):TT:=fun σ H Q=>∃g env os,Rel K g env σ H os/\Good E g.H₀ (f env) fun b=>∀H',aB H H'->Q b H'
def D9(f:DE->R (List D)):TA:=fun σ H Q=>∃g env os,Rel K g env σ H os/\Good E g.H₀ (f env) fun ds=>∀vs H',aB H H'->IsL K (g.P os) H' ds vs->Q vs H'
def pC(f:DE->R (List D)):TA:=fun σ H Q=>∃g env os,Rel K g env σ H os/\Good E g.H₀ (f env) fun ds=>∀vs H',aB H H'->IsL K (fun _=>True) H' ds vs->Q vs H'
end
inductive Out where
 |nx (e:DE)|bk (e:DE)|ct (e:DE)|rt (d:D)|o7 (xs:List D)|A6 (nss:List (List Int))|G7 (nss:List (List Int))|HZ (q:Int×List Int)|H0 (c:Ct)
structure qE(H:Hp)(os:List Addr)(H':Hp)(hU:List Addr):Prop where
 own:∀a∈hU,a∈os\/H a=none
 grow:∀a,H' a=none->H a=none
 keep:∀a o,a∉os->H a=some o->H' a=some o
theorem qE.refl (H:Hp)(os:List Addr):qE H os H os:=⟨fun _ h=>.inl h,fun _ h=>h,fun _ _ _ h=>h⟩
theorem qE.same {H H':Hp}(s:aB H H')(os:List Addr):qE H os H' os:=⟨fun _ h=>.inl h,fun _ h=>s.free h,fun _ _ _ h=>s _ _ h⟩
theorem qE.trans {H H1 H2:Hp}{os QD O9:List Addr}(a:qE H os H1 QD)(b:qE H1 QD H2 O9):qE H os H2 O9 where
 own:=fun x h=>(b.own x h).elim (fun z=>a.own x z) fun z=>.inr (a.grow x z)
 grow:=fun x h=>a.grow x (b.grow x h)
 keep:=fun x o hn h=>b.keep x o (fun z=>(a.own x z).elim hn fun q=>by rw[h]at q;cases q) (a.keep x o hn h)
theorem qE.ext {g:Gh}{H H':Hp}{os hU:List Addr}(s:qE H os H' hU):Ext (g.P os) (g.P hU) H H':=
 ⟨fun a o p h=>⟨p.1,fun z=>(s.own a z).elim p.2 fun q=>by rw[h]at q;cases q⟩,fun a o p h=>s.keep a o p.2 h⟩
structure Ea(hd:List V->HO)(H₀ H:Hp)(a:Addr)(as:List Addr)(nss:List (List Int)):Prop where
 fr:∀b∈a::as,H₀ b=none
 nd:(a::as).Nodup
 len:as.length=nss.length
 ha:H a=some (hd (as.map V.ref))
 it:∀(k:Nat)(b:Addr)(ns:List Int),as[k]?=some b->nss[k]?=some ns->H b=some (.lst (ns.map V.int))
theorem Ea.back {hd:List V->HO}{H₀ H1 H:Hp}{a:Addr}{as:List Addr}{nss:List (List Int)}(d:Ea hd H1 H a as nss)(s:aB H₀ H1):Ea hd H₀ H a as nss:=⟨fun b hb=>s.free (d.fr b hb),d.nd,d.len,d.ha,d.it⟩
abbrev Mz:=Ea HO.lst
abbrev UT:=Ea HO.tup
structure UU(H₀ H:Hp)(a b:Addr)(q:Int×List Int):Prop where
 fa:H₀ a=none
 fb:H₀ b=none
 ne:a≠b
 ha:H a=some (.tup [.int q.1,.ref b])
 hb:H b=some (.lst (q.2.map V.int))
def UW(H₀ H:Hp)(a:Addr)(c:Ct):Prop:=∃as,(∀x∈a::as,H₀ x=none)/\Dp H (a::as) a as c
def gy(K:PySem.W.Frag)(g:Gh)(H:Hp)(os:List Addr)(De:Ends):Out->Prop
 |.nx e=>∀σ' H' hU,Rel K g e σ' H' hU->qE H os H' hU->De.nx σ' H'
 |.bk e=>∀σ' H' hU,Rel K g e σ' H' hU->qE H os H' hU->De.bk σ' H'
 |.ct e=>∀σ' H' hU,Rel K g e σ' H' hU->qE H os H' hU->De.ct σ' H'
 |.rt d=>∀v H',aB g.H₀ H'->Is K (g.P []) H' d v->De.rt v H'
 |.o7 xs=>∀a vs H',aB g.H₀ H'->g.H₀ a=none->H' a=some (.lst vs)->IsL K (g.P [a]) H' xs vs->De.rt (.ref a) H'
 |.G7 nss=>∀(a:Addr)(as:List Addr)(H':Hp),aB g.H₀ H'->UT g.H₀ H' a as nss->De.rt (.ref a) H'
 |.HZ q=>∀(a b:Addr)(H':Hp),aB g.H₀ H'->UU g.H₀ H' a b q->De.rt (.ref a) H'
 |.A6 nss=>∀(a:Addr)(as:List Addr)(H':Hp),aB g.H₀ H'->Mz g.H₀ H' a as nss->De.rt (.ref a) H'
 |.H0 c=>∀(a:Addr)(H':Hp),aB g.H₀ H'->UW g.H₀ H' a c->De.rt (.ref a) H'
theorem gy.step {K:PySem.W.Frag}{g:Gh}{H H1:Hp}{os QD:List Addr}{De:Ends}(s:qE H os H1 QD):∀{o:Out},gy K g H os De o->gy K g H1 QD De o
 |.nx e,h=>fun σ' H' hU r z=>h σ' H' hU r (s.trans z)
 |.bk e,h=>fun σ' H' hU r z=>h σ' H' hU r (s.trans z)
 |.ct e,h=>fun σ' H' hU r z=>h σ' H' hU r (s.trans z)
 |.rt d,h=>h
 |.o7 xs,h=>h
 |.G7 xs,h=>h
 |.HZ xs,h=>h
 |.A6 xs,h=>h
 |.H0 xs,h=>h
def tS(K:PySem.W.Frag)(E:Str->Hp->Prop)(f:DE->R Out):TS:=fun De σ H=>∃g env os,Rel K g env σ H os/\Good E g.H₀ (f env) (gy K g H os De)
section
variable{X:Cx}{E:Str->Hp->Prop}{pos:Pos}
theorem imp{e:Expr}{t t':TE}(h:PE X e t)(w:∀σ H Q,t' σ H Q->t σ H Q):PE X e t':=fun pins s σ H Q I q=>h pins s σ H Q I (w σ H Q q)
theorem MA{e:Expr}{t t':TT}(h:PT X e t)(w:∀σ H Q,t' σ H Q->t σ H Q):PT X e t':=fun pins s σ H Q I q=>h pins s σ H Q I (w σ H Q q)
theorem QE{e:Expr}{t t':TT}(h:PW X e t)(w:∀σ H Q,t' σ H Q->t σ H Q):PW X e t':=fun wh pins s σ H Q I q=>h wh pins s σ H Q I (w σ H Q q)
theorem Eb{e:List Expr}{t t':TA}(h:PA X e t)(w:∀σ H Q,t' σ H Q->t σ H Q):PA X e t':=fun pos pins s σ H Q I q=>h pos pins s σ H Q I (w σ H Q q)
theorem og{e:Stmt}{t t':TS}(h:PS X e t)(w:∀De σ H,t' De σ H->t De σ H):PS X e t':=fun pins s σ H Q I q=>h pins s σ H Q I (w Q σ H q)
theorem JU{e:List Stmt}{t t':TS}(h:oN X e t)(w:∀De σ H,t' De σ H->t De σ H):oN X e t':=fun pins s σ H Q I q=>h pins s σ H Q I (w Q σ H q)
def bU(i:Nat)(env:DE):R D:=match env[i]? with
 |some (.val d)=>.ok d
 |_=>.bad
def dT(t:HY):D:=.tup [.int t.1,.int t.2.1,.lst (t.2.2.map .int)]
def aU(i:Nat)(env:DE):R D:=match env[i]? with
 |some (.val d)=>.ok d
 |some (.own xs)=>.ok (.lst xs)
 |some (.deep (.ls nss))=>.ok (.lst (nss.map fun ns=>.lst (ns.map .int)))
 |some (.deep (.tp nss))=>.ok (.tup (nss.map fun ns=>.lst (ns.map .int)))
 |some (.deep (.tq n ns))=>.ok (.tup [.int n,.lst (ns.map .int)])
 |some (.deep (.tr ts))=>.ok (.lst (ts.map dT))
 |_=>.bad
theorem bE{K:PySem.W.Frag}{P:Addr->Prop}{H:Hp}:∀(ns:List Int),IsL K P H (ns.map D.int) (ns.map V.int)
 |[]=>rfl
 |n::ns=>⟨_,_,rfl,rfl,bE ns⟩
theorem tN{K:PySem.W.Frag}{H:Hp}{os:List Addr}:∀{as:List Addr}{nss:List (List Int)},as.length=nss.length->(∀(k:Nat)(b:Addr)(ns:List Int),as[k]?=some b->nss[k]?=some ns->b∈os/\H b=some (.lst (ns.map V.int)))->IsL K (fun _=>True) H (nss.map fun ns=>.lst (ns.map D.int)) (as.map V.ref)
 |[],[],_,_=>rfl
 |[],_::_,h,_=>by simp at h
 |_::_,[],h,_=>by simp at h
 |a::as,ns::nss,h,hi=>⟨_,_,rfl,⟨a,_,rfl,.inl ⟨trivial,.inl (hi 0 a ns rfl rfl).2⟩,bE ns⟩,tN (by simpa using h) fun k b ms e1 e2=>hi (k+1) b ms e1 e2⟩
theorem yi{K:PySem.W.Frag}{P:Addr->Prop}{H:Hp}{as:List Addr}(hp:∀x∈as,P x):∀{ts:List HY}{vs:List V},vs.length=ts.length->(∀(k:Nat)(t:HY)(v:V),ts[k]?=some t->vs[k]?=some v->QC H as t v)->IsL K P H (ts.map dT) vs
 |[],[],_,_=>rfl
 |[],_::_,h,_=>by simp at h
 |_::_,[],h,_=>by simp at h
 |t::ts,v::vs,h,hi=>by
  obtain⟨b,c,rfl,h1,h2,h3,h4⟩:=hi 0 t v rfl rfl
  exact⟨_,_,rfl,⟨b,_,rfl,.inl ⟨hp b h1,.inl h3⟩,⟨_,_,rfl,rfl,⟨_,_,rfl,rfl,⟨_,_,rfl,⟨c,_,rfl,.inl ⟨hp c h2,.inl h4⟩,bE t.2.2⟩,rfl⟩⟩⟩⟩,yi hp (by simpa using h) fun k t v e1 e2=>hi (k+1) t v e1 e2⟩
def lN(i:Nat)(env:DE):R (List D):=match env[i]? with
 |some (.val (.lst xs))=>.ok xs
 |some (.own xs)=>.ok xs
 |_=>.bad
theorem nD(i:Nat){x:Str}(hN:X.N[i]?=some x:=by rfl)(hv:vD X.env.scope x:=by first|exact Or.inl rfl|exact Or.inr (Or.inl rfl)|exact Or.inr (Or.inr rfl))(hd:(x==("__debug__":Str))=false:=by decide)
  (hcd:(x==("__classdict__":Str))=false:=by decide):PE X (.Name x pos) (tD X.K E (bU i)):=imp (ie hN hv hd hcd) fun σ H Q ⟨g,env,os,r,m⟩=>by
 unfold bU at m
 cases e:env[i]? with
 |none=>rw[e]at m;exact m.elim
 |some sl=>
  cases sl with
  |no=>rw[e]at m;exact m.elim
  |raw _=>rw[e]at m;exact m.elim
  |deep _=>rw[e]at m;exact m.elim
  |own xs=>rw[e]at m;exact m.elim
  |val d=>
   rw[e]at m
   obtain⟨v,h1,h2⟩:=r.val i d e
   exact⟨v,h1,m v H (aB.refl H) h2⟩
theorem nB(i:Nat){x:Str}(hN:X.N[i]?=some x:=by rfl)(hv:vD X.env.scope x:=by first|exact Or.inl rfl|exact Or.inr (Or.inl rfl)|exact Or.inr (Or.inr rfl))(hd:(x==("__debug__":Str))=false:=by decide)
  (hcd:(x==("__classdict__":Str))=false:=by decide):PE X (.Name x pos) (tB X.K E (aU i)):=imp (ie hN hv hd hcd) fun σ H Q ⟨g,env,os,r,m⟩=>by
 unfold aU at m
 cases e:env[i]? with
 |none=>rw[e]at m;exact m.elim
 |some sl=>
  cases sl with
  |no=>rw[e]at m;exact m.elim
  |raw _=>rw[e]at m;exact m.elim
  |own xs=>
   rw[e]at m
   obtain⟨a,vs,h1,_,h3,h4⟩:=r.own i xs e
   exact⟨.ref a,h1,m _ H (aB.refl H) ⟨a,vs,rfl,.inl ⟨trivial,.inl h3⟩,h4.weak⟩⟩
  |deep c=>
   obtain⟨A,dd⟩:=r.D8
   obtain⟨a,as,_,h1,h3⟩:=dd.dp i c e
   cases c with
   |ls nss=>
    rw[e]at m
    exact⟨.ref a,h1,m _ H (aB.refl H) ⟨a,_,rfl,.inl ⟨trivial,.inl h3.ha⟩,tN h3.len h3.it⟩⟩
   |tp nss=>
    rw[e]at m
    have h4:xO HO.tup H os a as nss:=h3
    exact⟨.ref a,h1,m _ H (aB.refl H) ⟨a,_,rfl,.inl ⟨trivial,.inl h4.ha⟩,tN h4.len h4.it⟩⟩
   |dk ks=>rw[e]at m;exact m.elim
   |tq n ns=>
    rw[e]at m
    obtain⟨b,_,_,_,_,h4,h5⟩:=h3
    exact⟨.ref a,h1,m _ H (aB.refl H) ⟨a,_,rfl,.inl ⟨trivial,.inl h4⟩,⟨_,_,rfl,rfl,⟨_,_,rfl,⟨b,_,rfl,.inl ⟨trivial,.inl h5⟩,bE ns⟩,rfl⟩⟩⟩⟩
   |tr ts=>
    rw[e]at m
    have h4:My H os a as ts:=h3
    obtain⟨vs,q1,q2,q3⟩:=h4.at_
    exact⟨.ref a,h1,m _ H (aB.refl H) ⟨a,_,rfl,.inl ⟨trivial,.inl q1⟩,yi (fun _ _=>trivial) q2 q3⟩⟩
  |val d=>
   rw[e]at m
   obtain⟨v,h1,h2⟩:=r.val i d e
   exact⟨v,h1,m v H (aB.refl H) h2.weak⟩
theorem nL(i:Nat){x:Str}(hN:X.N[i]?=some x:=by rfl)(hv:vD X.env.scope x:=by first|exact Or.inl rfl|exact Or.inr (Or.inl rfl)|exact Or.inr (Or.inr rfl))(hd:(x==("__debug__":Str))=false:=by decide)
  (hcd:(x==("__classdict__":Str))=false:=by decide):PE X (.Name x pos) (tL X.K E (lN i)):=imp (ie hN hv hd hcd) fun σ H Q ⟨g,env,os,r,m⟩=>by
 unfold lN at m
 cases e:env[i]? with
 |none=>rw[e]at m;exact m.elim
 |some sl=>
  cases sl with
  |no=>rw[e]at m;exact m.elim
  |raw _=>rw[e]at m;exact m.elim
  |deep _=>rw[e]at m;exact m.elim
  |own xs=>
   rw[e]at m
   obtain⟨a,vs,h1,_,h3,h4⟩:=r.own i xs e
   exact⟨.ref a,h1,m _ _ H (aB.refl H) (bW.of h3) h4⟩
  |val d=>
   cases d with
   |lst xs=>
    rw[e]at m
    obtain⟨v,h1,a,vs,rfl,h3,h4⟩:=r.val i _ e
    exact⟨_,h1,m _ _ H (aB.refl H) h3.sq h4⟩
   |non=>rw[e]at m;exact m.elim
   |bl _=>rw[e]at m;exact m.elim
   |int _=>rw[e]at m;exact m.elim
   |str _=>rw[e]at m;exact m.elim
   |exc _=>rw[e]at m;exact m.elim
   |fn _=>rw[e]at m;exact m.elim
   |tup _=>rw[e]at m;exact m.elim
theorem cI{i j}:PE X (.Constant (.int i) j pos) (tD X.K E fun _=>.ok (.int i)):=imp fE fun σ H Q ⟨g,env,os,r,m⟩=>m _ H (aB.refl H) rfl
theorem JV{i j}:PE X (.Constant (.bool i) j pos) (tD X.K E fun _=>.ok (.bl i)):=imp PN fun σ H Q ⟨g,env,os,r,m⟩=>m _ H (aB.refl H) rfl
theorem cN{j}:PE X (.Constant .none j pos) (tD X.K E fun _=>.ok .non):=imp DF fun σ H Q ⟨g,env,os,r,m⟩=>m _ H (aB.refl H) rfl
theorem PE.aF {e:Expr}{f:DE->R D}(h:PE X e (tD X.K E f)):PE X e (tB X.K E f):=imp h fun σ H Q ⟨g,env,os,r,m⟩=>⟨g,env,os,r,m.mono fun d _ q v H' s i=>q v H' s i.weak⟩
theorem PE.dG {e:Expr}{f:DE->R (List D)}(h:PE X e (tF X.K E f)):PE X e (tD X.K E fun env=>(f env).bind fun xs=>.ok (.lst xs)):=imp h fun σ H Q ⟨g,env,os,r,m⟩=>⟨g,env,os,r,m.bind.mono fun d _ q a vs H' s hn hH i=>by
 refine q _ H' s ⟨a,vs,rfl,.inl ⟨r.fresh hn,.inl hH⟩,IsL.ext ⟨fun b o p _=>⟨p.1,fun z=>p.2 (mem_cons_of_mem _ z)⟩,fun _ _ _ q=>q⟩ _ _ i⟩⟩
theorem PE.qF {e:Expr}{f:DE->R (List D)}(h:PE X e (tF X.K E f)):PE X e (tL X.K E f):=imp h fun σ H Q ⟨g,env,os,r,m⟩=>⟨g,env,os,r,m.mono fun d _ q a vs H' s hn hH i=>
 q _ vs H' s (bW.of hH) (IsL.ext ⟨fun b o p _=>⟨p.1,fun z=>p.2 (mem_cons_of_mem _ z)⟩,fun _ _ _ q=>q⟩ _ _ i)⟩
def qG:D->R (List D)
 |.lst xs=>.ok xs
 |_=>.bad
theorem PE.UX {e:Expr}{f:DE->R D}(h:PE X e (tD X.K E f)):PE X e (tL X.K E fun env=>(f env).bind qG):=imp h fun σ H Q ⟨g,env,os,r,m⟩=>⟨g,env,os,r,m.bind.mono fun d _ q v H' s i=>by
 cases d with
 |lst xs=>
  obtain⟨a,vs,rfl,h3,h4⟩:=i
  exact q a vs H' s h3.sq h4
 |non=>exact q.elim
 |bl _=>exact q.elim
 |int _=>exact q.elim
 |str _=>exact q.elim
 |exc _=>exact q.elim
 |fn _=>exact q.elim
 |tup _=>exact q.elim⟩
abbrev Tr:Addr->Prop:=fun _=>True
def lW(X:Cx)(r:R2)(k:D->D->Option D):Prop:=∀x y d,k x y=some d->∃z,toV d=some z/\∀H v w (Q:VK),Is X.K Tr H x v->Is X.K Tr H y w->Q z H->r v w H Q
theorem aZ{op:Operator}{r:R2}{a b:Expr}{fa fb:DE->R D}{k:D->D->Option D}(ho:qw X (binaryOp op) r)(hk:lW X r k)(ha:PE X a (tB X.K E fa))(hb:PE X b (tB X.K E fb)):
  PE X (.BinOp a op b pos) (tD X.K E fun env=>(fa env).bind fun x=>(fb env).bind fun y=>R.of (k x y)):=
 imp (pe ho ha hb) fun σ H Q ⟨g,env,os,r,m⟩=>⟨g,env,os,r,m.bind.mono fun x _ m1 v H1 s1 i1=>⟨g,env,os,r.same s1,m1.bind.mono fun y _ m2 w H2 s2 i2=>by
  obtain⟨d,e,q⟩:=m2.of
  obtain⟨z,hz,hk⟩:=hk x y d e
  exact hk H2 v w Q (i1.same s2) i2 (q z H2 (s1.trans s2) (Is.sc hz))⟩⟩
theorem Ia{op:CmpOp}{r:R2}{a b:Expr}{fa fb:DE->R D}{k:D->D->Option D}(ho:qw X (compareOp op) r)(hk:lW X r k)(ha:PE X a (tB X.K E fa))(hb:PE X b (tB X.K E fb))(hm:behindInMarks op b=false):
  PE X (.Compare a [op] [b] pos) (tD X.K E fun env=>(fa env).bind fun x=>(fb env).bind fun y=>R.of (k x y)):=
 imp (HH ho ha hb hm) fun σ H Q ⟨g,env,os,r,m⟩=>⟨g,env,os,r,m.bind.mono fun x _ m1 v H1 s1 i1=>⟨g,env,os,r.same s1,m1.bind.mono fun y _ m2 w H2 s2 i2=>by
  obtain⟨d,e,q⟩:=m2.of
  obtain⟨z,hz,hk⟩:=hk x y d e
  exact hk H2 v w Q (i1.same s2) i2 (q z H2 (s1.trans s2) (Is.sc hz))⟩⟩
def jf:D->R Bool
 |.bl b=>.ok b
 |_=>.bad
theorem bC{op:CmpOp}{r:R2}{a b:Expr}{fa fb:DE->R D}{k:D->D->Option D}(ho:qw X (compareOp op) r)(hk:lW X r k)(ha:PE X a (tB X.K E fa))(hb:PE X b (tB X.K E fb))(hm:behindInMarks op b=false):
  PT X (.Compare a [op] [b] pos) (tT X.K E fun env=>(fa env).bind fun x=>(fb env).bind fun y=>(R.of (k x y)).bind jf):=
 MA (iS ho ha hb hm) fun σ H Q ⟨g,env,os,r,m⟩=>⟨g,env,os,r,m.bind.mono fun x _ m1 v H1 s1 i1=>⟨g,env,os,r.same s1,m1.bind.mono fun y _ m2 w H2 s2 i2=>by
  obtain⟨d,e,q⟩:=m2.bind.of
  obtain⟨z,hz,hk⟩:=hk x y d e
  refine hk H2 v w _ (i1.same s2) i2 ?_
  cases d with
  |bl b=>
   cases hz
   exact⟨b,rfl,q H2 (s1.trans s2)⟩
  |non=>exact q.elim
  |lst _=>exact q.elim
  |int _=>exact q.elim
  |str _=>exact q.elim
  |exc _=>exact q.elim
  |fn _=>exact q.elim
  |tup _=>exact q.elim⟩⟩
def QF(X:Cx)(r:V->Hp->VK->Prop)(k:D->Option D):Prop:=∀x d,k x=some d->∃z,toV d=some z/\∀H v (Q:VK),Is X.K Tr H x v->Q z H->r v H Q
theorem G8{op:UnaryOp}{r:V->Hp->VK->Prop}{a:Expr}{fa:DE->R D}{k:D->Option D}(ho:P8 X (unaryOp op) r)(hk:QF X r k)(ha:PE X a (tB X.K E fa)):
  PE X (.UnaryOp op a pos) (tD X.K E fun env=>(fa env).bind fun x=>R.of (k x)):=
 imp (AS ho ha) fun σ H Q ⟨g,env,os,r,m⟩=>⟨g,env,os,r,m.bind.mono fun x _ m1 v H1 s1 i1=>by
  obtain⟨d,e,q⟩:=m1.of
  obtain⟨z,hz,hk⟩:=hk x d e
  exact hk H1 v Q i1 (q z H1 s1 (Is.sc hz))⟩
def ik:D->D->Option D
 |.int i,.int j=>some (.int (i-j))
 |_,_=>none
def yj:D->D->Option D
 |.int i,.int j=> @ite _ ((-(2^64)<i/\i<2^64)\/(-(2^64)<j/\j<2^64)) (propDecidable _) (some (.int (i*j))) (none)
 |_,_=>none
def wO:D->D->Option D
 |.int i,.int j=> @ite _ (0<j/\j<1073741824) (propDecidable _) (some (.int (i/j))) (none)
 |_,_=>none
def oV:D->D->Option D
 |.int i,.int j=> @ite _ (0<j) (propDecidable _) (some (.int (i%j))) (none)
 |_,_=>none
def Ec:D->D->Option D
 |.int i,.int j=> @ite _ (0<=j/\j<=1000000/\i.natAbs<2^64) (propDecidable _) (some (.int (i^j.toNat))) (none)
 |_,_=>none
def qH:D->Option D
 |.int i=>some (.int (-i))
 |_=>none
def JW:D->D->Option D
 |.int i,.int j=>some (.bl (decide (i<j)))
 |_,_=>none
def S9:D->D->Option D
 |.int i,.int j=>some (.bl (decide (i<=j)))
 |_,_=>none
def zS:D->D->Option D
 |.int i,.int j=>some (.bl (decide (j<i)))
 |_,_=>none
def ZP:D->D->Option D
 |.int i,.int j=>some (.bl (decide (j<=i)))
 |_,_=>none
theorem mz{g:Int->Int->V}{h:Int->Int->D}{k:D->D->Option D}(hg:∀i j,toV (h i j)=some (g i j))(hk:∀x y d,k x y=some d->∃i j,x=.int i/\y=.int j/\d=h i j):lW X (AR g) k:=fun x y d e=>by
 obtain⟨i,j,rfl,rfl,rfl⟩:=hk x y d e
 refine⟨g i j,hg i j,fun H v w Q h1 h2 q=>⟨i,j,h1,h2,q⟩⟩
theorem pD{C:Int->Int->Prop}{g:Int->Int->V}{h:Int->Int->D}{k:D->D->Option D}(hg:∀i j,toV (h i j)=some (g i j))(hk:∀x y d,k x y=some d->∃i j,x=.int i/\y=.int j/\C i j/\d=h i j):lW X (rI C g) k:=fun x y d e=>by
 obtain⟨i,j,rfl,rfl,c,rfl⟩:=hk x y d e
 refine⟨g i j,hg i j,fun H v w Q h1 h2 q=>⟨i,j,h1,h2,c,q⟩⟩
theorem bh:lW X (AR fun i j=>.int (i-j)) ik:=mz (h:=fun i j=>.int (i-j)) (fun _ _=>rfl) fun x y d e=>by
 unfold ik at e
 split at e<;>cases e
 exact⟨_,_,rfl,rfl,rfl⟩
theorem tP:lW X (AR fun i j=>.bl (decide (i<j))) JW:=mz (h:=fun i j=>.bl (decide (i<j))) (fun _ _=>rfl) fun x y d e=>by
 unfold JW at e
 split at e<;>cases e
 exact⟨_,_,rfl,rfl,rfl⟩
theorem MB:lW X (AR fun i j=>.bl (decide (i<=j))) S9:=mz (h:=fun i j=>.bl (decide (i<=j))) (fun _ _=>rfl) fun x y d e=>by
 unfold S9 at e
 split at e<;>cases e
 exact⟨_,_,rfl,rfl,rfl⟩
theorem iz:lW X (AR fun i j=>.bl (decide (j<i))) zS:=mz (h:=fun i j=>.bl (decide (j<i))) (fun _ _=>rfl) fun x y d e=>by
 unfold zS at e
 split at e<;>cases e
 exact⟨_,_,rfl,rfl,rfl⟩
theorem pF:lW X (rI HC fun i j=>.int (i*j)) yj:=pD (h:=fun i j=>.int (i*j)) (fun _ _=>rfl) fun x y d e=>by
 unfold yj at e
 split at e
 ·split at e
  ·rename_i i j c
   cases e
   exact⟨i,j,rfl,rfl,c,rfl⟩
  ·cases e
 ·cases e
theorem nK:lW X (rI Qc fun i j=>.int (i/j)) wO:=pD (h:=fun i j=>.int (i/j)) (fun _ _=>rfl) fun x y d e=>by
 unfold wO at e
 split at e
 ·split at e
  ·rename_i i j c
   cases e
   exact⟨i,j,rfl,rfl,c,rfl⟩
  ·cases e
 ·cases e
theorem dY:lW X (rI (fun _ j=>0<j) fun i j=>.int (i%j)) oV:=pD (h:=fun i j=>.int (i%j)) (fun _ _=>rfl) fun x y d e=>by
 unfold oV at e
 split at e
 ·split at e
  ·rename_i i j c
   cases e
   exact⟨i,j,rfl,rfl,c,rfl⟩
  ·cases e
 ·cases e
theorem Ib:lW X (rI Cw fun i j=>.int (i^j.toNat)) Ec:=pD (h:=fun i j=>.int (i^j.toNat)) (fun _ _=>rfl) fun x y d e=>by
 unfold Ec at e
 split at e
 ·split at e
  ·rename_i i j c
   cases e
   exact⟨i,j,rfl,rfl,c,rfl⟩
  ·cases e
 ·cases e
theorem gM:QF X (rU fun i=>.int (-i)) qH:=fun x d e=>by
 unfold qH at e
 split at e<;>cases e
 exact⟨_,rfl,fun H v Q h1 q=>⟨_,h1,q⟩⟩
theorem vN{a:Expr}{f:DE->R Bool}(h:PT X a (tT X.K E f)):PT X (.UnaryOp .Not a pos) (tT X.K E fun env=>(f env).bind fun b=>.ok (!b)):=
 MA (LW h) fun σ H Q ⟨g,env,os,r,m⟩=>⟨g,env,os,r,m.bind.mono fun b _ q H' s=>q H' s⟩
theorem yk{a:Expr}{f:DE->R Bool}(h:PT X a (tT X.K E f)):PW X (.BoolOp .And [a] pos) (tT X.K E f):=pw_and1 h
theorem ym{a:Expr}{f:DE->R Bool}(h:PT X a (tT X.K E f)):PW X (.BoolOp .Or [a] pos) (tT X.K E f):=pw_or1 h
theorem vO{a b:Expr}{rest:List Expr}{f k:DE->R Bool}(h:PT X a (tT X.K E f))(h2:PW X (.BoolOp .And (b::rest) pos) (tT X.K E k)):PW X (.BoolOp .And (a::b::rest) pos) (tT X.K E fun env=>(f env).bind fun t=>if t=true then k env else .ok false):=
 QE (pw_and h h2) fun σ H Q ⟨g,env,os,r,m⟩=>⟨g,env,os,r,m.bind.mono fun t _ q H' s=>by
  cases t with
  |true=>exact⟨g,env,os,r.same s,Good.mono (show Good E g.H₀ (k env) _ from q) fun b _ q2 H2 s2=>q2 H2 (s.trans s2)⟩
  |false=>exact q H' s⟩
theorem rX{a b:Expr}{rest:List Expr}{f k:DE->R Bool}(h:PT X a (tT X.K E f))(h2:PW X (.BoolOp .Or (b::rest) pos) (tT X.K E k)):PW X (.BoolOp .Or (a::b::rest) pos) (tT X.K E fun env=>(f env).bind fun t=>if t=true then .ok true else k env):=
 QE (pw_or h h2) fun σ H Q ⟨g,env,os,r,m⟩=>⟨g,env,os,r,m.bind.mono fun t _ q H' s=>by
  cases t with
  |false=>exact⟨g,env,os,r.same s,Good.mono (show Good E g.H₀ (k env) _ from q) fun b _ q2 H2 s2=>q2 H2 (s.trans s2)⟩
  |true=>exact q H' s⟩
theorem yn{e:Expr}{f:DE->R D}(h:PE X e (tB X.K E f))(he:∀whole,isTrue e X.env whole=(do let v<-whole;standAt e.pos;holding [v] (truthy v)):=by intro _;rfl):PT X e (tT X.K E fun env=>(f env).bind jf):=
 MA (LV h he) fun σ H Q ⟨g,env,os,r,m⟩=>⟨g,env,os,r,m.bind.mono fun d _ q v H' s i=>by
  cases d with
  |bl b=>exact⟨b,i,q H' s⟩
  |non=>exact q.elim
  |lst _=>exact q.elim
  |int _=>exact q.elim
  |str _=>exact q.elim
  |exc _=>exact q.elim
  |fn _=>exact q.elim
  |tup _=>exact q.elim⟩
theorem UY{op}{a:Expr}{f:DE->R D}(h:PE X a (tD X.K E f)):PE X (.BoolOp op [a] pos) (tD X.K E f):=LX h
theorem UZ{a b:Expr}{rest:List Expr}{f k:DE->R D}(h:PE X a (tB X.K E f))(h2:PE X (.BoolOp .And (b::rest) pos) (tD X.K E k)):PE X (.BoolOp .And (a::b::rest) pos) (tD X.K E fun env=>(f env).bind fun x=>(jf x).bind fun t=>if t=true then k env else .ok (.bl false)):=
 imp (LY h h2) fun σ H Q ⟨g,env,os,r,m⟩=>⟨g,env,os,r,m.bind.mono fun d _ q v H' s i=>by
  cases d with
  |bl b=>
   refine⟨b,i,?_⟩
   cases b with
   |true=>
    rw[if_pos rfl]
    exact⟨g,env,os,r.same s,Good.mono (show Good E g.H₀ (k env) _ from q) fun b _ q2 v2 H2 s2 i2=>q2 v2 H2 (s.trans s2) i2⟩
   |false=>
    rw[if_neg Bool.false_ne_true]
    exact q _ H' s rfl
  |non=>exact q.elim
  |lst _=>exact q.elim
  |int _=>exact q.elim
  |str _=>exact q.elim
  |exc _=>exact q.elim
  |fn _=>exact q.elim
  |tup _=>exact q.elim⟩
theorem XS{c a b:Expr}{fc:DE->R Bool}{fa fb:DE->R D}(hc:PT X c (tT X.K E fc))(ha:PE X a (tD X.K E fa))(hb:PE X b (tD X.K E fb)):PE X (.IfExp c a b pos) (tD X.K E fun env=>(fc env).bind fun t=>if t=true then fa env else fb env):=
 imp (DG hc ha hb) fun σ H Q ⟨g,env,os,r,m⟩=>⟨g,env,os,r,m.bind.mono fun t _ q H' s=>by
  cases t with
  |true=>
   rw[if_pos rfl]
   exact⟨g,env,os,r.same s,Good.mono (show Good E g.H₀ (fa env) _ from q) fun b _ q2 v2 H2 s2 i2=>q2 v2 H2 (s.trans s2) i2⟩
  |false=>
   rw[if_neg Bool.false_ne_true]
   exact⟨g,env,os,r.same s,Good.mono (show Good E g.H₀ (fb env) _ from q) fun b _ q2 v2 H2 s2 i2=>q2 v2 H2 (s.trans s2) i2⟩⟩
theorem cj:PA X [] (D9 X.K E fun _=>.ok []):=Eb aC fun σ H Q ⟨g,env,os,r,m⟩=>m [] H (aB.refl H) rfl
theorem bw:PA X [] (pC X.K E fun _=>.ok []):=Eb aC fun σ H Q ⟨g,env,os,r,m⟩=>m [] H (aB.refl H) rfl
theorem aG{e:Expr}{es:List Expr}{f:DE->R D}{k:DE->R (List D)}(ha:PE X e (tD X.K E f))(hr:PA X es (D9 X.K E k))(hs:starEach (e::es) X.env=(false,eval e X.env)::starEach es X.env:=by rfl):
  PA X (e::es) (D9 X.K E fun env=>(f env).bind fun x=>(k env).bind fun xs=>.ok (x::xs)):=
 Eb (au ha hr hs) fun σ H Q ⟨g,env,os,r,m⟩=>⟨g,env,os,r,m.bind.mono fun x _ m1 v H1 s1 i1=>⟨g,env,os,r.same s1,m1.bind.mono fun xs _ m2 vs H2 s2 i2=>m2 (v::vs) H2 (s1.trans s2) (.cons (i1.same s2) i2)⟩⟩
theorem aE{e:Expr}{es:List Expr}{f:DE->R D}{k:DE->R (List D)}(ha:PE X e (tB X.K E f))(hr:PA X es (pC X.K E k))(hs:starEach (e::es) X.env=(false,eval e X.env)::starEach es X.env:=by rfl):
  PA X (e::es) (pC X.K E fun env=>(f env).bind fun x=>(k env).bind fun xs=>.ok (x::xs)):=
 Eb (au ha hr hs) fun σ H Q ⟨g,env,os,r,m⟩=>⟨g,env,os,r,m.bind.mono fun x _ m1 v H1 s1 i1=>⟨g,env,os,r.same s1,m1.bind.mono fun xs _ m2 vs H2 s2 i2=>m2 (v::vs) H2 (s1.trans s2) (.cons (i1.same s2) i2)⟩⟩
def fit{α:Type}(xs:List α):R (List α):= @ite _ (xs.length<=sizeLine) (propDecidable _) (.ok xs) (.bad)
theorem Good.fit {α:Type}{H₀:Hp}{xs:List α}{p:List α->Prop}(h:Good E H₀ (fit xs) p):xs.length<=sizeLine/\p xs:=by
 unfold DL.fit at h
 split at h
 ·rename_i c
  exact⟨c,h⟩
 ·exact h.elim
theorem zT{K:PySem.W.Frag}{g:Gh}{env:DE}{σ:St}{H H1:Hp}{os:List Addr}{ds:List D}{vs:List V}{p:Addr}(r:Rel K g env σ H os)(s1:aB H H1)(hp:H1 p=none)(i:IsL K (g.P os) H1 ds vs):
  aB H (upd H1 p (.lst vs))/\H p=none/\upd H1 p (.lst vs) p=some (.lst vs)/\IsL K (g.P (p::os)) (upd H1 p (.lst vs)) ds vs:=
 ⟨s1.trans (aD hp _),s1.free hp,ak,IsL.ext ((r.same s1).apart (aD hp _) hp) _ _ i⟩
theorem qI{es:List Expr}{f:DE->R (List D)}(h:PA X es (D9 X.K E f)):PE X (.List es pos) (tF X.K E fun env=>(f env).bind fit):=
 imp (qz h) fun σ H Q ⟨g,env,os,r,m⟩=>⟨g,env,os,r,m.bind.mono fun ds _ m1 vs H1 s1 i1=>by
  obtain⟨z,q⟩:=m1.fit
  refine⟨by rw[i1.length];exact z,fun p hp=>?_⟩
  obtain⟨a1,a2,a3,a4⟩:=zT r s1 hp i1
  exact q p vs _ a1 a2 a3 a4⟩
theorem MC{es:List Expr}{x1}{f:DE->R (List D)}(h:PA X es (D9 X.K E f)):PE X (.Tuple es x1 pos) (tD X.K E fun env=>((f env).bind fit).bind fun ds=>.ok (.tup ds)):=
 imp (qy h) fun σ H Q ⟨g,env,os,r,m⟩=>⟨g,env,os,r,m.bind.bind.mono fun ds _ m1 vs H1 s1 i1=>by
  obtain⟨z,q⟩:=m1.fit
  refine⟨by rw[i1.length];exact z,fun p hp=>?_⟩
  exact q _ _ (s1.trans (aD hp _)) ⟨p,vs,rfl,.inl ⟨(r.same s1).fresh hp,.inl ak⟩,i1.same (aD hp _)⟩⟩
end
section
variable{X:Cx}{E:Str->Hp->Prop}{pos:Pos}
def QG(K:PySem.W.Frag):R2:=fun x y H Q=>∃l b xs zs,x=.ref l/\y=.ref b/\bW K H l xs/\bW K H b zs/\xs.length+zs.length<=sizeLine/\∀p,H p=none->Q (.ref p) (upd H p (.lst (xs++zs)))
theorem Ic:qw X (binaryOp .Add) (QG X.K):=by
 intro pins s σ H x y v u Q I rx ry h
 obtain⟨l,b,xs,zs,rfl,rfl,hH,hB,hz,q⟩:=h
 cases rx
 cases ry
 obtain⟨its,r,p1,z1⟩:=I.list hH
 obtain⟨its2,r2,p2,z2⟩:=I.list hB
 have hl:=r.length
 have hl2:=r2.length
 obtain⟨o1,n1,e1,c1,d1,t1⟩:=p1
 obtain⟨o2,n2,e2,c2,d2,t2⟩:=p2
 obtain⟨oc,od,ZQ,Dr⟩:=o1
 obtain⟨ZR,ZS,U0,U1⟩:=o2
 have ZT:oc=_:=c1
 have ZU:od=_:=d1
 have ZV:ZQ=_:=t1
 have ZW:ZR=_:=c2
 have ZX:ZS=_:=d2
 have ZY:U0=_:=t2
 subst ZT ZU ZV ZW ZX ZY
 have ea:its.toArray++its2.toArray=(its++its2).toArray:=by simp
 refine concat_meets ⟨_,e1,rfl⟩ ⟨_,e2,rfl⟩ noFill_list_add seq_list_add PySem.F.slot_list_add PySem.F.entry_list_add (PySem.F.args_list_add_2 _ _) (list_addW l b its.toArray its2.toArray n1 n2 none none Dr U1 (by rw[size_toArray,size_toArray];omega)) ⟨e1,e2,?_⟩
 rw[ea]
 exact⟨.ref _,_,I.Qs (t':=s.toks) (r.append r2) (by rw[length_append];omega),rfl,q _ I.fresh⟩
theorem Ed{a b:Expr}{fa fb:DE->R (List D)}(ha:PE X a (tL X.K E fa))(hb:PE X b (tL X.K E fb)):PE X (.BinOp a .Add b pos) (tF X.K E fun env=>(fa env).bind fun x=>(fb env).bind fun y=>fit (x++y)):=
 imp (pe Ic ha hb) fun σ H Q ⟨g,env,os,r,m⟩=>⟨g,env,os,r,m.bind.mono fun x _ m1 a1 v1 H1 s1 q1 i1=>⟨g,env,os,r.same s1,m1.bind.mono fun y _ m2 a2 v2 H2 s2 q2 i2=>by
  obtain⟨z,q⟩:=m2.fit
  rw[length_append]at z
  refine⟨a1,a2,v1,v2,rfl,rfl,s2.seq q1,q2,by rw[i1.length,i2.length];exact z,fun p hp=>?_⟩
  obtain⟨b1,b2,b3,b4⟩:=zT r (s1.trans s2) hp ((i1.same s2).app i2)
  exact q p _ _ b1 b2 b3 b4⟩⟩
def tO(K:PySem.W.Frag)(E:Str->Hp->Prop)(f:DE->R (Option Int)):TO:=fun σ H Q=>∃g env os,Rel K g env σ H os/\Good E g.H₀ (f env) fun o=>∀H',aB H H'->Q o H'
theorem QH{e:Option Expr}{t t':TO}(h:L2.PO X e t)(w:∀σ H Q,t' σ H Q->t σ H Q):L2.PO X e t':=fun pins s σ H Q I q=>h pins s σ H Q I (w σ H Q q)
theorem MD:L2.PO X none (tO X.K E fun _=>.ok none):=QH AU fun σ H Q ⟨g,env,os,r,m⟩=>m H (aB.refl H)
def Ef:D->R (Option Int)
 |.int i=>.ok (some i)
 |_=>.bad
theorem wQ{e:Expr}{f:DE->R D}(h:PE X e (tB X.K E f)):L2.PO X (some e) (tO X.K E fun env=>(f env).bind Ef):=QH (AV h) fun σ H Q ⟨g,env,os,r,m⟩=>⟨g,env,os,r,m.bind.mono fun d _ q v H' s i=>by
 cases d with
 |int k=>exact⟨k,i,q H' s⟩
 |non=>exact q.elim
 |bl _=>exact q.elim
 |lst _=>exact q.elim
 |str _=>exact q.elim
 |exc _=>exact q.elim
 |fn _=>exact q.elim
 |tup _=>exact q.elim⟩
def cut{α:Type}(xs:List α)(lo hi:Option Int):List α:=(xs.drop (HT.tH xs.length 0 lo)).take (HT.tH xs.length xs.length hi-HT.tH xs.length 0 lo)
theorem IsL.cut {K:PySem.W.Frag}{P:Addr->Prop}{H:Hp}{ds:List D}{vs:List V}(h:IsL K P H ds vs)(lo hi:Option Int):IsL K P H (DL.cut ds lo hi) (uZ vs lo hi):=by
 unfold DL.cut uZ
 rw[h.length]
 exact(h.drop _).take _
theorem mB{e:Expr}{lo hi:Option Expr}{f:DE->R (List D)}{fl fh:DE->R (Option Int)}{p2:Pos}(he:PE X e (tL X.K E f))(hl:L2.PO X lo (tO X.K E fl))(hh:L2.PO X hi (tO X.K E fh)):
  PE X (.Subscript e (.Slice lo hi none p2) pos) (tF X.K E fun env=>(f env).bind fun x=>(fl env).bind fun l=>(fh env).bind fun h=>.ok (cut x l h)):=
 imp (x9 AX he hl hh) fun σ H Q ⟨g,env,os,r,m⟩=>⟨g,env,os,r,m.bind.mono fun x _ m1 a1 v1 H1 s1 q1 i1=>⟨g,env,os,r.same s1,m1.bind.mono fun l _ m2 H2 s2=>⟨g,env,os,r.same (s1.trans s2),m2.bind.mono fun h _ m3 H3 s3=>by
  refine⟨a1,v1,rfl,s3.seq (s2.seq q1),fun p hp=>?_⟩
  obtain⟨b1,b2,b3,b4⟩:=zT r (s1.trans (s2.trans s3)) hp (((i1.same s2).same s3).cut l h)
  exact m3 p _ _ b1 b2 b3 b4⟩⟩⟩
theorem IsL.iP {K:PySem.W.Frag}{P:Addr->Prop}{H:Hp}{ds:List D}{vs:List V}{i:Int}{d:D}(h:IsL K P H ds vs)(e:L2.iP ds i=some d):∃v,L2.iP vs i=some v/\Is K P H d v:=by
 unfold L2.iP at e⊢
 rw[h.length]
 cases q:o6 ds.length i with
 |none=>rw[q]at e;cases e
 |some j=>
  rw[q]at e
  exact h.get e
def wR:D->D->R D
 |.lst xs,.int i=>R.of (iP xs i)
 |.tup xs,.int i=>R.of (iP xs i)
 |_,_=>.bad
theorem zU{a b:Expr}{fa fb:DE->R D}(ha:PE X a (tD X.K E fa))(hb:PE X b (tB X.K E fb))(hs:sG b:=by exact fun _ _=>rfl):PE X (.Subscript a b pos) (tD X.K E fun env=>(fa env).bind fun x=>(fb env).bind fun y=>wR x y):=
 imp (gx Ml ha hb hs) fun σ H Q ⟨g,env,os,r,m⟩=>⟨g,env,os,r,m.bind.mono fun x _ m1 v H1 s1 i1=>⟨g,env,os,r.same s1,m1.bind.mono fun y _ m2 w H2 s2 i2=>by
  unfold wR at m2
  split at m2
  ·rename_i xs i _ _
   obtain⟨d,e,q⟩:=m2.of
   have Pb:=i1.same s2
   obtain⟨a,vs,rfl,h1,h2⟩:=Pb
   obtain⟨z,e2,h3⟩:=IsL.iP h2 e
   exact .inl ⟨a,vs,i,z,rfl,i2,h1.sq,e2,q z H2 (s1.trans s2) h3⟩
  ·rename_i xs i _ _
   obtain⟨d,e,q⟩:=m2.of
   have Pb:=i1.same s2
   obtain⟨a,vs,rfl,h1,h2⟩:=Pb
   obtain⟨z,e2,h3⟩:=IsL.iP h2 e
   exact .inr (.inl ⟨a,vs,i,z,rfl,i2,h1.sq,e2,q z H2 (s1.trans s2) h3⟩)
  ·exact m2.elim⟩⟩
def vg(xs:List D):D->R D
 |.int i=>R.of (iP xs i)
 |_=>.bad
theorem xP{a b:Expr}{fa:DE->R (List D)}{fb:DE->R D}(ha:PE X a (tL X.K E fa))(hb:PE X b (tB X.K E fb))(hs:sG b:=by exact fun _ _=>rfl):PE X (.Subscript a b pos) (tD X.K E fun env=>(fa env).bind fun x=>(fb env).bind fun y=>vg x y):=
 imp (gx cJ ha hb hs) fun σ H Q ⟨g,env,os,r,m⟩=>⟨g,env,os,r,m.bind.mono fun x _ m1 a1 v1 H1 s1 q1 i1=>⟨g,env,os,r.same s1,m1.bind.mono fun y _ m2 w H2 s2 i2=>by
  unfold vg at m2
  split at m2
  ·rename_i i _
   obtain⟨d,e,q⟩:=m2.of
   obtain⟨z,e2,h3⟩:=(i1.same s2).iP e
   exact⟨a1,v1,i,z,rfl,i2,s2.seq q1,e2,q z H2 (s1.trans s2) h3⟩
  ·exact m2.elim⟩⟩
def Ie(X:Cx)(r:List V->Hp->VK->Prop)(k:List D->Option D):Prop:=∀ds d,k ds=some d->∃z,toV d=some z/\∀H vs (Q:VK),IsL X.K Tr H ds vs->Q z H->r vs H Q
theorem iQ{id:String}{x:Str}{p:Pos}{e:Expr}{es:List Expr}{f:DE->R (List D)}{r:List V->Hp->VK->Prop}{k:List D->Option D}(hc:om X (.builtin id) r)(hk:Ie X r k)(hm:X.mg x=none)(hv:bootBuiltins x=some (.builtin id))(ha:PA X (e::es) (pC X.K E f))
  (hg:Gl X x:=by rfl)(hn:x≠"__name__":=by decide)(hdb:(x==("__debug__":Str))=false:=by decide)
  (he:starEach (e::es) X.env=(false,eval e X.env)::starEach es X.env:=by rfl)(hpl:(backTo pos (starEach es X.env)).any (·.1)=false:=by rfl):PE X (.Call (.Name x p) (e::es) [] pos) (tD X.K E fun env=>(f env).bind fun ds=>R.of (k ds)):=
 imp (g4 hc hg hm hv ha hn hdb he hpl) fun σ H Q ⟨g,env,os,r,m⟩=>⟨g,env,os,r,m.bind.mono fun ds _ m1 vs H1 s1 i1=>by
  obtain⟨d,e,q⟩:=m1.of
  obtain⟨z,hz,hk⟩:=hk ds d e
  exact hk H1 vs Q i1 (q z H1 s1 (Is.sc hz))⟩
theorem IsL.vh {K:PySem.W.Frag}{P:Addr->Prop}{H:Hp}{d:D}{vs:List V}(h:IsL K P H [d] vs):∃v,vs=[v]/\Is K P H d v:=by
 obtain⟨v,r,rfl,p,q⟩:=h
 have q':r=[]:=q
 subst q'
 exact⟨v,rfl,p⟩
theorem IsL.ME {K:PySem.W.Frag}{P:Addr->Prop}{H:Hp}{d d2:D}{vs:List V}(h:IsL K P H [d,d2] vs):∃v w,vs=[v,w]/\Is K P H d v/\Is K P H d2 w:=by
 obtain⟨v,r,rfl,p,q⟩:=h
 obtain⟨w,rfl,p2⟩:=IsL.vh q
 exact⟨v,w,rfl,p,p2⟩
def oh:List D->Option D
 |[.lst xs]=>some (.int xs.length)
 |[.tup xs]=>some (.int xs.length)
 |[.str x]=> @ite _ (x.length<=sizeLine) (propDecidable _) (some (.int x.length)) (none)
 |_=>none
theorem dZ:Ie X (fun xs H Q=>∃x n,xs=[x]/\Qf X.K x H n/\Q (.int n) H) oh:=fun ds d e=>by
 unfold oh at e
 split at e
 ·rename_i xs
  cases e
  refine⟨_,rfl,fun H vs Q i q=>?_⟩
  obtain⟨v,rfl,a,ws,rfl,h1,h2⟩:=IsL.vh i
  exact⟨_,_,rfl,.inl ⟨ws,h1.sq,(IsL.length h2).symm⟩,q⟩
 ·rename_i xs
  cases e
  refine⟨_,rfl,fun H vs Q i q=>?_⟩
  obtain⟨v,rfl,a,ws,rfl,h1,h2⟩:=IsL.vh i
  exact⟨_,_,rfl,.inr ⟨ws,h1.sq,(IsL.length h2).symm⟩,q⟩
 ·split at e
  ·rename_i x c
   cases e
   refine⟨_,rfl,fun H vs Q i q=>?_⟩
   obtain⟨v,rfl,i2⟩:=IsL.vh i
   have i':v=.str x:=i2
   subst i'
   exact⟨_,_,rfl,⟨c,rfl⟩,q⟩
  ·cases e
 ·cases e
def CI:List D->Option D
 |[.int i]=>some (.int (if i<0 then-i else i))
 |_=>none
theorem wU:Ie X (fun xs H Q=>∃i,xs=[.int i]/\Q (.int (if i<0 then-i else i)) H) CI:=fun ds d e=>by
 unfold CI at e
 split at e
 ·rename_i i
  cases e
  refine⟨_,rfl,fun H vs Q h q=>?_⟩
  obtain⟨v,rfl,h1⟩:=IsL.vh h
  have h':v=.int i:=h1
  subst h'
  exact⟨i,rfl,q⟩
 ·cases e
def A7:List D->Option D
 |[.int i,.int j]=>some (.int (if j>i then j else i))
 |_=>none
theorem Eg:Ie X (fun xs H Q=>∃i j,xs=[.int i,.int j]/\Q (.int (if j>i then j else i)) H) A7:=fun ds d e=>by
 unfold A7 at e
 split at e
 ·rename_i i j
  cases e
  refine⟨_,rfl,fun H vs Q h q=>?_⟩
  obtain⟨v,w,rfl,h1,h2⟩:=IsL.ME h
  have h':v=.int i:=h1
  have U3:w=.int j:=h2
  subst h' U3
  exact⟨i,j,rfl,q⟩
 ·cases e
theorem JX{p:Pos}{a:Expr}{f:DE->R (List D)}(hm:X.mg "list"=none)(ha:PE X a (tL X.K E f))(hg:Gl X "list":=by rfl)
  (he:starEach [a] X.env=(false,eval a X.env)::starEach [] X.env:=by rfl)(hpl:(backTo pos (starEach [] X.env)).any (·.1)=false:=by rfl):PE X (.Call (.Name "list" p) [a] [] pos) (tF X.K E f):=
 imp (nJ kT hg hm (by decide +kernel) (au ha aC he) (by decide) (by decide) he hpl) fun σ H Q ⟨g,env,os,r,m⟩=>⟨g,env,os,r,m.mono fun x _ m1 a1 v1 H1 s1 q1 i1=>
  ⟨a1,v1,rfl,.inl q1,fun p hp=>by
   obtain⟨b1,b2,b3,b4⟩:=zT r s1 hp i1
   exact m1 p _ _ b1 b2 b3 b4⟩⟩
def A8(K:PySem.W.Frag)(xc:Str->Value)(m:List D->R D):Sp:=fun vs H Q E=>∃P ds,IsL K P H ds vs/\(match m ds with
 |.ok d=>∀v H',aB H H'->Is K (fun a=>P a\/H a=none) H' d v->Q v H'
 |.err c=>∀H',aB H H'->E (xc c) none H'
 |.bad=>False)
def G9(K:PySem.W.Frag)(xc:Str->Value)(m:List D->R (List D)):Sp:=fun vs H Q E=>∃P ds,IsL K P H ds vs/\(match m ds with
 |.ok xs=>∀a ws H',aB H H'->H a=none->H' a=some (.lst ws)->IsL K (fun b=>(P b\/H b=none)/\b≠a) H' xs ws->Q (.ref a) H'
 |.err c=>∀H',aB H H'->E (xc c) none H'
 |.bad=>False)
def EX(xc:Str->Value)(E:Str->Hp->Prop):XK:=fun c _ H'=>∃n,c=xc n/\E n H'
theorem jJ{E:XK}:Passes jH X E:=fun _ _ _ _ _ _ _ h=>h.elim
variable{CX:Dq}{k:Nat}{fa:Addr}{fd:FuncData}{ps:List Str}{xc:Str->Value}{x:Str}{p:Pos}{e:Expr}{es:List Expr}{f:DE->R (List D)}
theorem fD{m:List D->R D}(F:bJ X.prog X.w X.K X.mg X.base CX k fa fd ps (A8 X.K xc m))(hm:X.mg x=some (.ref fa))(hk:keepIn X.K (.ref fa)=true)(hb:Binds X.K fd ps [])(hr:aT k X.A)(hx:Passes CX X (EX xc E))
  (ha:PA X (e::es) (D9 X.K E f))(hg:Gl X x:=by rfl)(hdb:(x==("__debug__":Str))=false:=by decide)(he:starEach (e::es) X.env=(false,eval e X.env)::starEach es X.env:=by rfl)(hpl:(backTo pos (starEach es X.env)).any (·.1)=false:=by rfl):
  PE X (.Call (.Name x p) (e::es) [] pos) (tD X.K E fun env=>(f env).bind m):=
 imp (cU F hr hg hm hk hb .nil hx ha hdb he hpl) fun σ H Q ⟨g,env,os,r,q⟩=>⟨g,env,os,r,q.bind.mono fun ds _ q1 vs H1 s1 i1=>by
  show A8 X.K xc m (vs++[]) H1 Q _
  rw[append_nil]
  refine⟨g.P os,ds,i1,?_⟩
  cases em:m ds with
  |ok d=>
   rw[em]at q1
   intro v H' s' i'
   exact q1 v H' (s1.trans s') (Is.ext ⟨fun a o pa _=>pa.elim (fun z=>z) fun z=>(r.same s1).fresh z,fun _ _ _ z=>z⟩ _ _ i')
  |err c=>
   rw[em]at q1
   intro H' s'
   exact⟨c,rfl,q1 H' (r.ext.trans (s1.trans s'))⟩
  |bad=>rw[em]at q1;exact q1⟩
theorem fB{m:List D->R D}(F:bJ X.prog X.w X.K X.mg X.base CX k fa fd ps (A8 X.K xc m))(hsc:∀ds d,m ds=.ok d->∃z,toV d=some z)(hm:X.mg x=some (.ref fa))(hk:keepIn X.K (.ref fa)=true)(hb:Binds X.K fd ps [])(hr:aT k X.A)(hx:Passes CX X (EX xc E))
  (ha:PA X (e::es) (pC X.K E f))(hg:Gl X x:=by rfl)(hdb:(x==("__debug__":Str))=false:=by decide)(he:starEach (e::es) X.env=(false,eval e X.env)::starEach es X.env:=by rfl)(hpl:(backTo pos (starEach es X.env)).any (·.1)=false:=by rfl):
  PE X (.Call (.Name x p) (e::es) [] pos) (tD X.K E fun env=>(f env).bind m):=
 imp (cU F hr hg hm hk hb .nil hx ha hdb he hpl) fun σ H Q ⟨g,env,os,r,q⟩=>⟨g,env,os,r,q.bind.mono fun ds _ q1 vs H1 s1 i1=>by
  show A8 X.K xc m (vs++[]) H1 Q _
  rw[append_nil]
  refine⟨Tr,ds,i1,?_⟩
  cases em:m ds with
  |ok d=>
   rw[em]at q1
   intro v H' s' i'
   obtain⟨z,hz⟩:=hsc ds d em
   have e2:=Is.JT hz i'
   subst e2
   exact q1 _ H' (s1.trans s') (Is.sc hz)
  |err c=>
   rw[em]at q1
   intro H' s'
   exact⟨c,rfl,q1 H' (r.ext.trans (s1.trans s'))⟩
  |bad=>rw[em]at q1;exact q1⟩
theorem fF{m:List D->R (List D)}(F:bJ X.prog X.w X.K X.mg X.base CX k fa fd ps (G9 X.K xc m))(hm:X.mg x=some (.ref fa))(hk:keepIn X.K (.ref fa)=true)(hb:Binds X.K fd ps [])(hr:aT k X.A)(hx:Passes CX X (EX xc E))
  (ha:PA X (e::es) (D9 X.K E f))(hg:Gl X x:=by rfl)(hdb:(x==("__debug__":Str))=false:=by decide)(he:starEach (e::es) X.env=(false,eval e X.env)::starEach es X.env:=by rfl)(hpl:(backTo pos (starEach es X.env)).any (·.1)=false:=by rfl):
  PE X (.Call (.Name x p) (e::es) [] pos) (tF X.K E fun env=>(f env).bind m):=
 imp (cU F hr hg hm hk hb .nil hx ha hdb he hpl) fun σ H Q ⟨g,env,os,r,q⟩=>⟨g,env,os,r,q.bind.mono fun ds _ q1 vs H1 s1 i1=>by
  show G9 X.K xc m (vs++[]) H1 Q _
  rw[append_nil]
  refine⟨g.P os,ds,i1,?_⟩
  cases em:m ds with
  |ok d=>
   rw[em]at q1
   intro a ws H' s' hn hH i'
   exact q1 a ws H' (s1.trans s') (s1.free hn) hH (IsL.ext ⟨fun b o pb _=>by
    have z:g.P os b:=pb.1.elim (fun z=>z) fun z=>(r.same s1).fresh z
    exact⟨z.1,fun hm=>(mem_cons.mp hm).elim pb.2 z.2⟩,fun _ _ _ z=>z⟩ _ _ i')
  |err c=>
   rw[em]at q1
   intro H' s'
   exact⟨c,rfl,q1 H' (r.ext.trans (s1.trans s'))⟩
  |bad=>rw[em]at q1;exact q1⟩
theorem XT{K:PySem.W.Frag}{P P':Addr->Prop}{H:Hp}:∀{ds:List D}{vs:List V},(∀d∈ds,∃z,toV d=some z)->IsL K P H ds vs->IsL K P' H ds vs
 |[],_,_,h=>h
 |d::ds,_,hs,⟨v,r,e,p,q⟩=>by
  obtain⟨z,hz⟩:=hs d (by simp)
  have e2:=Is.JT hz p
  exact⟨v,r,e,by rw[e2];exact Is.sc hz,XT (fun d hd=>hs d (by simp[hd])) q⟩
theorem ZZ{m:List D->R (List D)}(F:bJ X.prog X.w X.K X.mg X.base CX k fa fd ps (G9 X.K xc m))(hsc:∀ds xs,m ds=.ok xs->∀d∈xs,∃z,toV d=some z)(hm:X.mg x=some (.ref fa))(hk:keepIn X.K (.ref fa)=true)(hb:Binds X.K fd ps [])(hr:aT k X.A)(hx:Passes CX X (EX xc E))
  (ha:PA X (e::es) (pC X.K E f))(hg:Gl X x:=by rfl)(hdb:(x==("__debug__":Str))=false:=by decide)(he:starEach (e::es) X.env=(false,eval e X.env)::starEach es X.env:=by rfl)(hpl:(backTo pos (starEach es X.env)).any (·.1)=false:=by rfl):
  PE X (.Call (.Name x p) (e::es) [] pos) (tF X.K E fun env=>(f env).bind m):=
 imp (cU F hr hg hm hk hb .nil hx ha hdb he hpl) fun σ H Q ⟨g,env,os,r,q⟩=>⟨g,env,os,r,q.bind.mono fun ds _ q1 vs H1 s1 i1=>by
  show G9 X.K xc m (vs++[]) H1 Q _
  rw[append_nil]
  refine⟨Tr,ds,i1,?_⟩
  cases em:m ds with
  |ok d=>
   rw[em]at q1
   intro a ws H' s' hn hH i'
   exact q1 a ws H' (s1.trans s') (s1.free hn) hH (XT (hsc ds d em) i')
  |err c=>
   rw[em]at q1
   intro H' s'
   exact⟨c,rfl,q1 H' (r.ext.trans (s1.trans s'))⟩
  |bad=>rw[em]at q1;exact q1⟩
end
def aS(r:R Out)(k:DE->R Out):R Out:=r.bind fun o=>match o with
 |.nx e=>k e
 |o=>.ok o
def dH(b:D->DE->R Out):List D->DE->R Out
 |[],e=>.ok (.nx e)
 |x::xs,e=>(b x e).bind fun o=>match o with
  |.nx e'=>dH b xs e'
  |.ct e'=>dH b xs e'
  |.bk e'=>.ok (.nx e')
  |.rt d=>.ok (.rt d)
  |.o7 ys=>.ok (.o7 ys)
  |.H0 ys=>.ok (.H0 ys)
  |.G7 ys=>.ok (.G7 ys)
  |.HZ ys=>.ok (.HZ ys)
  |.A6 ys=>.ok (.A6 ys)
section
variable{X:Cx}{E:Str->Hp->Prop}{pos:Pos}
theorem lX:oN X [] (tS X.K E fun e=>.ok (.nx e)):=JU jF fun De σ H ⟨g,env,os,r,m⟩=>m σ H os r (.refl H os)
theorem aJ{st:Stmt}{rest:List Stmt}{f k:DE->R Out}(h1:PS X st (tS X.K E f))(h2:oN X rest (tS X.K E k)):oN X (st::rest) (tS X.K E fun e=>aS (f e) k):=
 JU (az h1 h2) fun De σ H ⟨g,env,os,r,m⟩=>⟨g,env,os,r,(show Good E g.H₀ ((f env).bind _) _ from m).bind.mono fun o _ q=>by
  cases o with
  |nx e'=>exact fun σ' H' hU r' z=>⟨g,e',hU,r',Good.mono (show Good E g.H₀ (k e') _ from q) fun o _ q=>gy.step z q⟩
  |bk e'=>exact q
  |ct e'=>exact q
  |rt d=>exact q
  |o7 xs=>exact q
  |H0 xs=>exact q
  |G7 xs=>exact q
  |HZ xs=>exact q
  |A6 xs=>exact q⟩
theorem aW{st:Stmt}{f:DE->R Out}(h1:PS X st (tS X.K E f)):oN X [st] (tS X.K E f):=bA h1
theorem QI{g:Gh}{os:List Addr}{K:PySem.W.Frag}{H:Hp}{d:D}{v:V}(h:Is K (g.P os) H d v):Is K (g.P []) H d v:=Is.ext ⟨fun _ _ p _=>⟨p.1,by simp⟩,fun _ _ _ q=>q⟩ _ _ h
theorem gq{e:Expr}{f:DE->R D}(he:PE X e (tD X.K E f)):PS X (.Return (some e) pos) (tS X.K E fun env=>(f env).bind fun d=>.ok (.rt d)):=
 og (j0 he) fun De σ H ⟨g,env,os,r,m⟩=>⟨g,env,os,r,m.bind.mono fun d _ q v H' s i=>q v H' (r.ext.trans s) (QI i)⟩
theorem lP{e:Expr}{f:DE->R (List D)}(he:PE X e (tF X.K E f)):PS X (.Return (some e) pos) (tS X.K E fun env=>(f env).bind fun d=>.ok (.o7 d)):=
 og (j0 he) fun De σ H ⟨g,env,os,r,m⟩=>⟨g,env,os,r,m.bind.mono fun xs _ q a vs H' s hn hH i=>
  q a vs H' (r.ext.trans s) (r.ext.free hn) hH (IsL.ext ⟨fun b o p _=>⟨p.1,fun z=>p.2 (by simp at z;simp[z])⟩,fun _ _ _ q=>q⟩ _ _ i)⟩
def ownAt(i:Nat)(env:DE):R (List D):=match env[i]? with
 |some (.own xs)=>.ok xs
 |_=>.bad
theorem Good.own {H₀:Hp}{i:Nat}{env:DE}{p:List D->Prop}(h:Good E H₀ (ownAt i env) p):∃xs,env[i]?=some (.own xs)/\p xs:=by
 unfold ownAt at h
 split at h
 ·rename_i xs e
  exact⟨xs,e,h⟩
 ·exact h.elim
theorem Eh(i:Nat){x:Str}{p:Pos}(hN:X.N[i]?=some x:=by rfl)(hv:vD X.env.scope x:=by first|exact Or.inl rfl|exact Or.inr (Or.inl rfl)|exact Or.inr (Or.inr rfl))(hd:(x==("__debug__":Str))=false:=by decide)
  (hcd:(x==("__classdict__":Str))=false:=by decide):PS X (.Return (some (.Name x p)) pos) (tS X.K E fun env=>(ownAt i env).bind fun xs=>.ok (.o7 xs)):=
 og (j0 (ie hN hv hd hcd)) fun De σ H ⟨g,env,os,r,m⟩=>by
  obtain⟨xs,e,q⟩:=m.bind.own
  obtain⟨a,vs,h1,h2,h3,h4⟩:=r.own i xs e
  exact⟨.ref a,h1,q a vs H r.ext (r.new a h2).1 h3 (IsL.ext ⟨fun b o p _=>⟨p.1,fun z=>p.2 (by simp at z;rw[z];exact h2)⟩,fun _ _ _ q=>q⟩ _ _ h4)⟩
theorem wV{c:Expr}{a b:List Stmt}{fc:DE->R Bool}{fa fb:DE->R Out}(hc:PT X c (tT X.K E fc))(ha:oN X a (tS X.K E fa))(hb:oN X b (tS X.K E fb)):PS X (.If c a b pos) (tS X.K E fun env=>(fc env).bind fun t=>if t=true then fa env else fb env):=
 og (rE hc ha hb) fun De σ H ⟨g,env,os,r,m⟩=>⟨g,env,os,r,m.bind.mono fun t _ q H' s=>by
  cases t with
  |true=>
   rw[if_pos rfl]
   exact⟨g,env,os,r.same s,Good.mono (show Good E g.H₀ (fa env) _ from q) fun o _ q2=>gy.step (.same s os) q2⟩
  |false=>
   rw[if_neg Bool.false_ne_true]
   exact⟨g,env,os,r.same s,Good.mono (show Good E g.H₀ (fb env) _ from q) fun o _ q2=>gy.step (.same s os) q2⟩⟩
theorem fJ(i:Nat){x:Str}{e:Expr}{f:DE->R D}{pos':Pos}(he:PE X e (tD X.K E f))(hN:X.N.Nodup)(hi:X.N[i]?=some x:=by rfl)(hx:Loc X.env.scope x:=by first|exact Or.inl rfl|exact Or.inr rfl)(hs:swapsWith e (some (.Name x pos')) pos.line X.env=pure false:=by rfl)
  (hf:X.fn x=true\/X.env.scope.names.lookup x=some .local:=by first|exact .inl rfl|exact .inr rfl|assumption):PS X (.Assign [.Name x pos'] e pos) (tS X.K E fun env=>(f env).bind fun d=>.ok (.nx (env.set i (.val d)))):=
 og (cz hN hi hx he hs hf) fun De σ H ⟨g,env,os,r,m⟩=>⟨g,env,os,r,m.bind.mono fun d _ q v H' s h=>q _ H' os ((r.same s).set i h) (.same s os)⟩
theorem qE.new {H H':Hp}{os:List Addr}{a:Addr}(s:aB H H')(hn:H a=none):qE H os H' (a::os):=
 ⟨fun b hb=>(mem_cons.mp hb).elim (fun z=>.inr (by rw[z];exact hn)) .inl,fun _ h=>s.free h,fun _ _ _ h=>s _ _ h⟩
theorem vP(i:Nat){x:Str}{e:Expr}{f:DE->R (List D)}{pos':Pos}(he:PE X e (tF X.K E f))(hN:X.N.Nodup)(hi:X.N[i]?=some x:=by rfl)(hx:Loc X.env.scope x:=by first|exact Or.inl rfl|exact Or.inr rfl)(hs:swapsWith e (some (.Name x pos')) pos.line X.env=pure false:=by rfl)
  (hf:X.fn x=true\/X.env.scope.names.lookup x=some .local:=by first|exact .inl rfl|exact .inr rfl|assumption):PS X (.Assign [.Name x pos'] e pos) (tS X.K E fun env=>(f env).bind fun d=>.ok (.nx (env.set i (.own d)))):=
 og (cz hN hi hx he hs hf) fun De σ H ⟨g,env,os,r,m⟩=>⟨g,env,os,r,m.bind.mono fun d _ q a vs H' s hn hH h=>q _ H' (a::os) (r.UQ s i hn hH h) (.new s hn)⟩
theorem qE.mut {H:Hp}{os:List Addr}{a:Addr}{o:HO}(ha:a∈os):qE H os (upd H a o) os:=
 ⟨fun b hb=>.inl hb,fun b h=>by
  by_cases z:b=a
  ·subst z;rw[ak]at h;cases h
  ·rw[ah z]at h;exact h,fun b u hb h=>by rw[ah (fun z=>hb (by rw[z];exact ha))];exact h⟩
def uW(i:Nat)(env:DE):DE:=match env[i]? with
 |some (.own xs)=>env.set i (.val (.lst xs))
 |_=>env
theorem U4(i:Nat){x:Str}{e:Expr}{f:DE->R D}{p apos aV:Pos}(he:PE X e (tD X.K E f))(hN:X.N[i]?=some x:=by rfl)(hv:vD X.env.scope x:=by first|exact Or.inl rfl|exact Or.inr (Or.inl rfl)|exact Or.inr (Or.inr rfl))(hd:(x==("__debug__":Str))=false:=by decide)
  (hcd:(x==("__classdict__":Str))=false:=by decide)
  (hbase:attributeBase (.Name x p) "append" X.env (eval (.Name x p) X.env)=eval (.Name x p) X.env:=by rfl)
  (hfew:((backTo aV (starEach [e] X.env)).all (fun x=> !x.1)&&(backToKw aV (keywordEach [] X.env)).all (fun x=>x.1.isSome)
   &&decide ([e].length+([]:List Keyword).length+(if([]:List Keyword).isEmpty then 0 else 1)<30))=true:=by rfl)
  (hline:(apos.endLine==aV.line)=true:=by rfl)(hst:starEach [e] X.env=(false,eval e X.env)::starEach [] X.env:=by rfl)(hplain:(backTo aV (starEach [] X.env)).any (·.1)=false:=by rfl)
  (hs:swapsWith (.Call (.Attribute (.Name x p) "append" apos) [e] [] aV) none pos.line X.env=pure false:=by rfl):
  PS X (.Expr (.Call (.Attribute (.Name x p) "append" apos) [e] [] aV) pos) (tS X.K E fun env=>(ownAt i env).bind fun xs=>(f env).bind fun d=> @ite _ (xs.length<sizeLine) (propDecidable _) (.ok (.nx (env.set i (.own (xs++[d]))))) (.bad)):=
 og (fG (rH plainAttrs_list PySem.F.slot_list_append PySem.F.type_list_append cR (ie hN hv hd hcd) (au he aC hst) hbase hfew hline hst hplain) hs) fun De σ H ⟨g,env,os,r,m⟩=>by
  obtain⟨xs,e,m1⟩:=m.bind.own
  obtain⟨a,vs,h1,h2,h3,h4⟩:=r.own i xs e
  refine⟨.ref a,h1,.inl ⟨rfl,vs,bW.of h3⟩,g,env,os,r,m1.bind.mono fun d _ q v H' s hi=>?_⟩
  split at q
  ·rename_i c
   refine⟨a,vs,v,rfl,rfl,s _ _ h3,by rw[h4.length];exact c,?_⟩
   exact q σ _ os ((r.same s).mut e h1 h2 ((h4.same s).app (.one hi))) ((qE.same s os).trans (.mut h2))
  ·exact q.elim
theorem U5(i:Nat){x:Str}{p apos aV:Pos}(hN:X.N[i]?=some x:=by rfl)(hv:vD X.env.scope x:=by first|exact Or.inl rfl|exact Or.inr (Or.inl rfl)|exact Or.inr (Or.inr rfl))(hd:(x==("__debug__":Str))=false:=by decide)
  (hcd:(x==("__classdict__":Str))=false:=by decide)
  (hbase:attributeBase (.Name x p) "pop" X.env (eval (.Name x p) X.env)=eval (.Name x p) X.env:=by rfl)(hline:(apos.endLine==aV.line)=true:=by rfl)
  (hs:swapsWith (.Call (.Attribute (.Name x p) "pop" apos) [] [] aV) none pos.line X.env=pure false:=by rfl):
  PS X (.Expr (.Call (.Attribute (.Name x p) "pop" apos) [] [] aV) pos) (tS X.K E fun env=>(ownAt i env).bind fun xs=>if 0<xs.length then .ok (.nx (env.set i (.own xs.dropLast)))else .bad):=
 og (fG (wM plainAttrs_list slot_list_pop type_list_pop D2 (ie hN hv hd hcd) hbase hline) hs) fun De σ H ⟨g,env,os,r,m⟩=>by
  obtain⟨xs,e,m1⟩:=m.bind.own
  obtain⟨a,vs,h1,h2,h3,h4⟩:=r.own i xs e
  split at m1
  ·rename_i c
   have hl:=h4.length
   refine⟨.ref a,h1,.inl ⟨rfl,vs,bW.of h3⟩,a,vs,vs[vs.length-1],rfl,rfl,h3,by rw[getElem?_eq_getElem (by omega)],?_⟩
   refine m1 σ _ os (r.mut e h1 h2 ?_) (.mut h2)
   rw[dropLast_eq_take,dropLast_eq_take,hl]
   exact h4.take _
  ·exact m1.elim
theorem MF(i:Nat){x:Str}{ek e:Expr}{fk f:DE->R D}{p tp:Pos}(hk:PE X ek (tB X.K E fk))(he:PE X e (tD X.K E f))(hN:X.N[i]?=some x:=by rfl)(hv:vD X.env.scope x:=by first|exact Or.inl rfl|exact Or.inr (Or.inl rfl)|exact Or.inr (Or.inr rfl))(hd:(x==("__debug__":Str))=false:=by decide)
  (hcd:(x==("__classdict__":Str))=false:=by decide)
  (ha:∀v,assign (.Subscript (.Name x p) ek tp) X.env v=(do
   let ov<-holding [v] (eval (.Name x p) X.env)
   let iv<-holding [v,ov] (eval ek X.env)
   standAt tp
   holding [v,ov,iv] (setItem ov iv v)
   release [v,ov,iv] []):=by intro _;rfl)
  (hs:swapsWithSole [.Subscript (.Name x p) ek tp] e pos.line X.env=pure false:=by rfl)(hw:swappedStores [.Subscript (.Name x p) ek tp] e X.env=pure none:=by rfl)
  (h1:(assignEach [.Subscript (.Name x p) ek tp] X.env).map (·.2)=[assign (.Subscript (.Name x p) ek tp) X.env]:=by rfl):
  PS X (.Assign [.Subscript (.Name x p) ek tp] e pos) (tS X.K E fun env=>(f env).bind fun d=>(ownAt i env).bind fun xs=>(fk env).bind fun kd=>match kd with
   |.int j=>(match o6 xs.length j with
    |some n=>.ok (.nx (env.set i (.own (xs.set n d))))
    |none=>.bad)
   |_=>.bad):=
 og (zD he (zC (ie hN hv hd hcd) hk set_list ha) hs hw h1) fun De σ H ⟨g,env,os,r,m⟩=>⟨g,env,os,r,m.bind.mono fun d _ m1 v H1 s1 i1=>by
  obtain⟨xs,e,m2⟩:=m1.bind.own
  obtain⟨a,vs,h1,h2,h3,h4⟩:=(r.same s1).own i xs e
  refine⟨.ref a,h1,g,env,os,r.same s1,m2.bind.mono fun kd _ m3 w H2 s2 i2=>?_⟩
  cases kd with
  |int j=>
   cases q:o6 xs.length j with
   |none=>
    simp only [q]at m3
    exact m3.elim
   |some n=>
    simp only [q]at m3
    refine⟨a,vs,j,n,rfl,i2,s2 _ _ h3,by rw[h4.length];exact q,?_⟩
    exact m3 σ _ os ((r.same (s1.trans s2)).mut e h1 h2 ((h4.same s2).set n (i1.same s2))) ((qE.same (s1.trans s2) os).trans (.mut h2))
  |non=>exact m3.elim
  |bl _=>exact m3.elim
  |lst _=>exact m3.elim
  |str _=>exact m3.elim
  |exc _=>exact m3.elim
  |fn _=>exact m3.elim
  |tup _=>exact m3.elim⟩
theorem U6(i:Nat){x:Str}{e:Expr}{op:Operator}{h:Int->Int->Int}{f:DE->R D}{pos':Pos}(ho:O7 X op (P1 h))(he:PE X e (tB X.K E f))(hN:X.N.Nodup)(hi:X.N[i]?=some x:=by rfl)(hx:Loc X.env.scope x:=by first|exact Or.inl rfl|exact Or.inr rfl)
  (hf:X.fn x=true\/X.env.scope.names.lookup x=some .local:=by first|exact .inl rfl|exact .inr rfl|assumption):
  PS X (.AugAssign (.Name x pos') op e pos) (tS X.K E fun env=>(bU i env).bind fun a=>(f env).bind fun b=>match a,b with
   |.int u,.int w=>.ok (.nx (env.set i (.val (.int (h u w)))))
   |_,_=>.bad):=
 og (zE hN hi hx he ho hf) fun De σ H ⟨g,env,os,r,m⟩=>by
  dsimp only [bU]at m
  cases q:env[i]? with
  |none=>rw[q]at m;exact m.elim
  |some sl=>
   cases sl with
   |no=>rw[q]at m;exact m.elim
   |raw _=>rw[q]at m;exact m.elim
   |deep _=>rw[q]at m;exact m.elim
   |own _=>rw[q]at m;exact m.elim
   |val a=>
    rw[q]at m
    obtain⟨v,h1,h2⟩:=r.val i a q
    have m':Good E g.H₀ ((f env).bind _) _:=m
    refine⟨v,h1,g,env,os,r,m'.bind.mono fun b _ m2 w H' s i2=>?_⟩
    cases a with
    |int u=>
     cases b with
     |int w'=>exact⟨u,w',h2,i2,m2 _ H' os ((r.same s).set i rfl) (.same s os)⟩
     |non=>exact m2.elim
     |bl _=>exact m2.elim
     |lst _=>exact m2.elim
     |str _=>exact m2.elim
     |exc _=>exact m2.elim
     |fn _=>exact m2.elim
     |tup _=>exact m2.elim
    |non=>exact m2.elim
    |bl _=>exact m2.elim
    |lst _=>exact m2.elim
    |str _=>exact m2.elim
    |exc _=>exact m2.elim
    |fn _=>exact m2.elim
    |tup _=>exact m2.elim
def Yl(K:PySem.W.Frag)(P:Addr->Prop)(J:It)(H:Hp)(xs:List D):Prop:=
 ∀(i:Nat)(H':Hp)(P':Addr->Prop),Ext P P' H H'->(∀d,xs[i]?=some d->J.go i H'/\∀x MG,J.P4 i H' x MG->aB H' MG/\Is K (fun a=>P' a\/H' a=none) MG d x)/\(xs.length=i->J.stop i H')
def tI(K:PySem.W.Frag)(E:Str->Hp->Prop)(f:DE->R (List D)):TI:=fun σ H Rr=>∃g env os,Rel K g env σ H os/\Good E g.H₀ (f env) fun xs=>∀J H1,aB H H1->Yl K (g.P os) J H1 xs->Rr J H1
theorem Ei{tg e:Expr}{t t':TI}(h:PI X tg e t)(w:∀σ H Q,t' σ H Q->t σ H Q):PI X tg e t':=fun pins s σ H Q I q=>h pins s σ H Q I (w σ H Q q)
def U7(K:PySem.W.Frag)(P:Addr->Prop)(J:It)(H:Hp)(xs:List D):Prop:=
 ∀(i:Nat)(H':Hp)(P':Addr->Prop),aB H H'->Ext P P' H H'->(∀d,xs[i]?=some d->J.go i H'/\∀x MG,J.P4 i H' x MG->aB H' MG/\Is K (fun a=>P' a\/H' a=none) MG d x)/\(xs.length=i->J.stop i H')
def Pd(K:PySem.W.Frag)(E:Str->Hp->Prop)(f:DE->R (List D)):TI:=fun σ H Rr=>∃g env os,Rel K g env σ H os/\Good E g.H₀ (f env) fun xs=>∀J H1,aB H H1->U7 K (g.P os) J H1 xs->Rr J H1
theorem tQ{tg e:Expr}{f:DE->R (List D)}(h:PI X tg e (tI X.K E f)):PI X tg e (Pd X.K E f):=Ei h fun σ H Q ⟨g,env,os,r,m⟩=>⟨g,env,os,r,m.mono fun xs _ q J H1 s1 yl=>q J H1 s1 fun i H' P' _ ex=>yl i H' P' ex⟩
theorem Z0{tg e:Expr}{f:DE->R (List D)}(he:PE X e (tL X.K E f)):PI X tg e (Pd X.K E f):=
 Ei (sE he) fun σ H Q ⟨g,env,os,r,m⟩=>⟨g,env,os,r,m.mono fun xs _ q a vs H' s h1 h2=>by
  refine⟨a,rfl,⟨vs,h1⟩,q _ H' s fun j H2 P' ss ex=>⟨fun d hd=>?_,fun hj=>?_⟩⟩
  ·obtain⟨x,hx,hi⟩:=(IsL.ext ex _ _ h2).get hd
   refine⟨⟨vs,x,ss.seq h1,hx⟩,fun y H3 hy=>?_⟩
   obtain⟨rfl,hy⟩:=hy
   have e2:=hy vs (ss.seq h1)
   rw[hx]at e2
   cases e2
   exact⟨aB.refl _,Is.ext ⟨fun _ _ p _=>.inl p,fun _ _ _ z=>z⟩ _ _ hi⟩
  ·exact⟨vs,ss.seq h1,by rw[IsL.length h2];exact le_of_eq hj⟩⟩
theorem iL{tg e:Expr}{f:DE->R D}(he:PE X e (tD X.K E f)):PI X tg e (tI X.K E fun env=>(f env).bind qG):=
 Ei (sE he) fun σ H Q ⟨g,env,os,r,m⟩=>⟨g,env,os,r,m.bind.mono fun d _ q v H' s i=>by
  cases d with
  |lst xs=>
   obtain⟨a,vs,rfl,h1,h2⟩:=i
   refine⟨a,rfl,⟨vs,h1.sq⟩,q _ H' s fun j H2 P' ex=>⟨fun d hd=>?_,fun hj=>?_⟩⟩
   ·obtain⟨x,hx,hi⟩:=(IsL.ext ex _ _ h2).get hd
    refine⟨⟨vs,x,(h1.ext ex).sq,hx⟩,fun y H3 hy=>?_⟩
    obtain⟨rfl,hy⟩:=hy
    have e2:=hy vs (h1.ext ex).sq
    rw[hx]at e2
    cases e2
    exact⟨aB.refl _,Is.ext ⟨fun _ _ p _=>.inl p,fun _ _ _ z=>z⟩ _ _ hi⟩
   ·exact⟨vs,(h1.ext ex).sq,by rw[IsL.length h2];exact le_of_eq hj⟩
  |non=>exact q.elim
  |bl _=>exact q.elim
  |int _=>exact q.elim
  |str _=>exact q.elim
  |exc _=>exact q.elim
  |fn _=>exact q.elim
  |tup _=>exact q.elim⟩
def lY(lo:Int)(n:Nat):List D:=(range n).map fun i=>.int (lo+(i:Nat))
def Ig:List D->R (List D)
 |[.int j]=> @ite _ (-(2^62)<=j/\j<2^62) (propDecidable _) (.ok (lY 0 j.toNat)) (.bad)
 |_=>.bad
def CJ:List D->R (List D)
 |[.int i,.int j]=> @ite _ (-(2^62)<=i/\i<2^62/\ -(2^62)<=j/\j<2^62) (propDecidable _) (.ok (lY i (j-i).toNat)) (.bad)
 |_=>.bad
theorem Ej{K:PySem.W.Frag}{P:Addr->Prop}{H:Hp}(lo:Int)(n:Nat):Yl K P (P5 lo n) H (lY lo n):=fun i H' P' ex=>⟨fun d hd=>by
 unfold lY at hd
 rw[getElem?_map]at hd
 have hi:i<n:=by
  cases q:(range n)[i]? with
  |none=>rw[q]at hd;cases hd
  |some j=>simpa using(List.getElem?_eq_some_iff.mp q).1
 rw[List.getElem?_range hi]at hd
 cases hd
 refine⟨hi,fun x H2 hy=>?_⟩
 obtain⟨rfl,rfl⟩:=hy
 exact⟨aB.refl _,rfl⟩,fun h=>by
 unfold lY at h
 exact le_of_eq (by simpa using h)⟩
theorem Z1{tg a:Expr}{p:Pos}{f:DE->R (List D)}(hm:X.mg "range"=none)(ha:PA X [a] (pC X.K E f))(hg:Gl X "range":=by rfl)(hs:starEach [a] X.env=[(false,eval a X.env)]:=by rfl):
  PI X tg (.Call (.Name "range" p) [a] [] pos) (tI X.K E fun env=>(f env).bind Ig):=
 Ei (Cr hg hm ha hs) fun σ H Q ⟨g,env,os,r,m⟩=>⟨g,env,os,r,m.bind.mono fun ds _ q vs H' s i=>by
  unfold Ig at q
  split at q
  ·rename_i j _
   split at q
   ·rename_i c
    obtain⟨v,rfl,h1⟩:=IsL.vh i
    have h':v=.int j:=h1
    subst h'
    exact⟨j,rfl,c.1,c.2,q _ H' s (Ej 0 _)⟩
   ·exact q.elim
  ·exact q.elim⟩
theorem XU{tg a b:Expr}{p:Pos}{f:DE->R (List D)}(hm:X.mg "range"=none)(ha:PA X [a,b] (pC X.K E f))(hg:Gl X "range":=by rfl)(hs:starEach [a,b] X.env=[(false,eval a X.env),(false,eval b X.env)]:=by rfl)(hs2:starEach [b] X.env=[(false,eval b X.env)]:=by rfl):
  PI X tg (.Call (.Name "range" p) [a,b] [] pos) (tI X.K E fun env=>(f env).bind CJ):=
 Ei (Cs hg hm ha hs hs2) fun σ H Q ⟨g,env,os,r,m⟩=>⟨g,env,os,r,m.bind.mono fun ds _ q vs H' s i=>by
  unfold CJ at q
  split at q
  ·rename_i u j _
   split at q
   ·rename_i c
    obtain⟨v,w,rfl,h1,h2⟩:=IsL.ME i
    have h':v=.int u:=h1
    have U3:w=.int j:=h2
    subst h' U3
    exact⟨u,j,rfl,c,q _ H' s (Ej u _)⟩
   ·exact q.elim
  ·exact q.elim⟩
def tG(K:PySem.W.Frag)(E:Str->Hp->Prop)(b:D->DE->R DE):TG:=fun v σ H Q=>∃g env os d,Rel K g env σ H os/\Is K (g.P os) H d v/\Good E g.H₀ (b d env) fun e'=>∀σ',Rel K g e' σ' H os->Q σ' H
def JY(K:PySem.W.Frag)(E:Str->Hp->Prop)(b:List D->DE->R DE):Hz:=fun vs σ H Q=>∃g env os ds,Rel K g env σ H os/\IsL K (g.P os) H ds vs/\Good E g.H₀ (b ds env) fun e'=>∀σ',Rel K g e' σ' H os->Q σ' H
theorem QJ{e:Expr}{t t':TG}(h:PG X e t)(w:∀v σ H Q,t' v σ H Q->t v σ H Q):PG X e t':=fun pins s σ H v u Q I r q=>h pins s σ H v u Q I r (w v σ H Q q)
theorem JZ{e:List Expr}{t t':Hz}(h:AQ X e t)(w:∀v σ H Q,t' v σ H Q->t v σ H Q):AQ X e t':=fun pins s σ H v u Q I r q=>h pins s σ H v u Q I r (w v σ H Q q)
theorem gN(i:Nat){x:Str}(hN:X.N.Nodup)(hi:X.N[i]?=some x:=by rfl)(hx:Loc X.env.scope x:=by first|exact Or.inl rfl|exact Or.inr rfl)(hf:X.fn x=true\/X.env.scope.names.lookup x=some .local:=by first|exact .inl rfl|exact .inr rfl|assumption):
  PG X (.Name x pos) (tG X.K E fun d env=>.ok (env.set i (.val d))):=QJ (wH hN hi hx hf) fun v σ H Q ⟨g,env,os,d,r,h,m⟩=>m _ (r.set i h)
theorem QK:AQ X [] (JY X.K E fun ds env=>match ds with
  |[]=>.ok env
  |_=>.bad):=JZ HA fun vs σ H Q ⟨g,env,os,ds,r,h,m⟩=>by
 cases ds with
 |nil=>exact⟨h,m σ r⟩
 |cons _ _=>exact m.elim
theorem MH{e:Expr}{es:List Expr}{b:D->DE->R DE}{k:List D->DE->R DE}(h1:PG X e (tG X.K E b))(h2:AQ X es (JY X.K E k))(hs:(assignEach (e::es) X.env).map (·.2)=assign e X.env::(assignEach es X.env).map (·.2):=by rfl):
  AQ X (e::es) (JY X.K E fun ds env=>match ds with
   |d::r=>(b d env).bind fun e'=>k r e'
   |_=>.bad):=JZ (DJ h1 h2 hs) fun vs σ H Q ⟨g,env,os,ds,r,h,m⟩=>by
 cases ds with
 |nil=>exact m.elim
 |cons d rest=>
  obtain⟨v,vr,rfl,p,q⟩:=h
  have m':Good E g.H₀ ((b d env).bind fun e'=>k rest e') _:=m
  exact⟨v,vr,rfl,g,env,os,d,r,p,m'.bind.mono fun e' _ m2 σ' r'=>⟨g,e',os,rest,r',q,m2⟩⟩
theorem gT{es:List Expr}{kk:Nat}{b:List D->DE->R DE}{n:Nat}(hc:X.calm=true)(h:AQ X es (JY X.K E b))(hn:(assignEach es X.env).length=n:=by rfl)(hst:(assignEach es X.env).findIdx? (·.1)=none:=by rfl):
  PG X (.Tuple es kk pos) (tG X.K E fun d env=>match d with
   |.tup ds=>if ds.length=n then b ds env else .bad
   |_=>.bad):=QJ (L5 hc h hn hst) fun v σ H Q ⟨g,env,os,d,r,h,m⟩=>by
 cases d with
 |tup ds=>
  obtain⟨a,vs,rfl,h1,h2⟩:=h
  have m':Good E g.H₀ (if ds.length=n then b ds env else .bad) _:=m
  split at m'
  ·rename_i c
   exact⟨a,vs,rfl,h1.sq,by rw[IsL.length h2];exact c,g,env,os,ds,r,h2,m'⟩
  ·exact m'.elim
 |non=>exact m.elim
 |bl _=>exact m.elim
 |int _=>exact m.elim
 |str _=>exact m.elim
 |lst _=>exact m.elim
 |exc _=>exact m.elim
 |fn _=>exact m.elim
theorem tR{tg iter:Expr}{body:List Stmt}{f:DE->R (List D)}{b:D->DE->R DE}{k:DE->R Out}(hp:PassesOwn (model X.prog X.w) X.A X.env X.xe)(hc:X.calm=true)(hi:PI X tg iter (tI X.K E f))(hg:PG X tg (tG X.K E b))(hb:oN X body (tS X.K E k))
  (hs:∀x,foldedSetIterable iter X.env x=pure x:=by intro _;rfl):PS X (.For tg iter body [] pos) (tS X.K E fun env=>(f env).bind fun xs=>dH (fun d e=>(b d e).bind k) xs env):=
 og (DP hp hc hi hg hb hs) fun De σ H ⟨g,env,os,r,m⟩=>⟨g,env,os,r,m.bind.mono fun xs _ m1 J H1 s1 yl=>by
  refine⟨fun i n σ' H'=>n=xs.length-i/\i<=xs.length/\∃ve hU,Rel X.K g ve σ' H' hU/\qE H1 os H' hU/\Good E g.H₀ (dH (fun d e=>(b d e).bind k) (xs.drop i) ve) (gy X.K g H' hU De),
   ⟨xs.length,by simp,zero_le _,env,os,r.same s1,.refl _ _,by rw[drop_zero];exact m1.mono fun o _ q=>gy.step (.same s1 os) q⟩,?_⟩
  rintro i n σ' H' ⟨rfl,hi,ve,hU,r',st,m2⟩
  obtain⟨y1,y2⟩:=yl i H' (g.P hU) st.ext
  by_cases hlt:i<xs.length
  ·have hx:xs[i]?=some xs[i]:=getElem?_eq_getElem hlt
   obtain⟨go,y3⟩:=y1 _ hx
   rw[List.drop_eq_getElem_cons hlt]at m2
   refine .inr ⟨go,fun σ2 H2=>∃QL O9,Rel X.K g QL σ2 H2 O9/\qE H1 os H2 O9/\Good E g.H₀ (dH (fun d e=>(b d e).bind k) (xs.drop (i+1)) QL) (gy X.K g H2 O9 De),fun σ2 H2 ⟨e2,o2,r2,t2,g2⟩=>⟨xs.length-(i+1),by omega,rfl,hlt,e2,o2,r2,t2,g2⟩,fun x H2 hy=>?_⟩
   obtain⟨s2,QM⟩:=y3 x H2 hy
   have r2:=r'.same s2
   have ix:Is X.K (g.P hU) H2 xs[i] x:=Is.ext ⟨fun a o p _=>p.elim (fun z=>z) fun z=>r'.fresh z,fun _ _ _ z=>z⟩ _ _ QM
   have m3:Good E g.H₀ (((b xs[i] ve).bind k).bind _) _:=m2
   refine⟨g,ve,hU,xs[i],r2,ix,m3.bind.bind.mono fun e3 _ m4 σ3 r3=>⟨g,e3,hU,r3,Good.mono m4 fun o _ q=>?_⟩⟩
   have x6:=st.trans (qE.same s2 hU)
   cases o with
   |nx e4=>exact fun σ4 H4 QN r4 z=>⟨e4,QN,r4,x6.trans z,Good.mono (show Good E g.H₀ (dH _ _ e4) _ from q) fun o _ q=>gy.step ((qE.same s2 hU).trans z) q⟩
   |ct e4=>exact fun σ4 H4 QN r4 z=>⟨e4,QN,r4,x6.trans z,Good.mono (show Good E g.H₀ (dH _ _ e4) _ from q) fun o _ q=>gy.step ((qE.same s2 hU).trans z) q⟩
   |bk e4=>exact fun σ4 H4 QN r4 z=>(show gy X.K g H' hU De (.nx e4)from q) σ4 H4 QN r4 ((qE.same s2 hU).trans z)
   |rt d=>exact q
   |o7 ys=>exact q
   |H0 ys=>exact q
   |G7 ys=>exact q
   |HZ ys=>exact q
   |A6 ys=>exact q
  ·have e:i=xs.length:=by omega
   subst e
   rw[drop_length]at m2
   exact .inl ⟨y2 rfl,(show gy X.K g H' hU De (.nx ve)from m2) σ' H' hU r' (.refl _ _)⟩⟩
end
def aH(n:Nat)(ds:List D):DE:=ds.map .val++replicate (n-ds.length) .no
theorem qJ{K:PySem.W.Frag}{N:List Str}{P:Addr->Prop}{H:Hp}{ds:List D}{vs:List V}(h:IsL K P H ds vs):Rel K ⟨P,H⟩ (aH N.length ds) (L2.start N vs) H []:=by
 have hl:=h.length
 refine⟨by simp[aH,L2.start,hl],aB.refl H,fun i d e=>?_,fun i xs e=>?_,fun i j xs ys a e=>?_,(fun a ha=>nomatch ha),fun i v e=>?_,yh.none fun i v e=>?_⟩
 ·unfold aH at e
  by_cases hi:i<ds.length
  ·rw[getElem?_append_left (by simpa using hi),getElem?_map,getElem?_eq_getElem hi]at e
   have e':Sl.val ds[i]=Sl.val d:=Option.some.inj e
   cases e'
   obtain⟨v,h1,h2⟩:=h.get (getElem?_eq_getElem hi)
   refine⟨v,?_,Is.ext ⟨fun a o p _=>⟨.inl p,by simp⟩,fun _ _ _ z=>z⟩ _ _ h2⟩
   unfold L2.start
   rw[getElem?_append_left (by simp;omega),getElem?_map,h1]<;>rfl
  ·rw[getElem?_append_right (by simp;omega)]at e
   have:=getElem?_replicate (n:=N.length-ds.length) (a:=Sl.no) (i:=i-(ds.map Sl.val).length)
   rw[this]at e
   split at e<;>cases e
 ·exfalso
  unfold aH at e
  by_cases hi:i<ds.length
  ·rw[getElem?_append_left (by simpa using hi),getElem?_map,getElem?_eq_getElem hi]at e
   cases e
  ·rw[getElem?_append_right (by simp;omega)]at e
   have:=getElem?_replicate (n:=N.length-ds.length) (a:=Sl.no) (i:=i-(ds.map Sl.val).length)
   rw[this]at e
   split at e<;>cases e
 ·exfalso
  unfold aH at e
  by_cases hi:i<ds.length
  ·rw[getElem?_append_left (by simpa using hi),getElem?_map,getElem?_eq_getElem hi]at e
   cases e
  ·rw[getElem?_append_right (by simp;omega)]at e
   have:=getElem?_replicate (n:=N.length-ds.length) (a:=Sl.no) (i:=i-(ds.map Sl.val).length)
   rw[this]at e
   split at e<;>cases e
 ·exfalso
  unfold aH at e
  by_cases hi:i<ds.length
  ·rw[getElem?_append_left (by simpa using hi),getElem?_map,getElem?_eq_getElem hi]at e
   cases e
  ·rw[getElem?_append_right (by simp;omega)]at e
   have:=getElem?_replicate (n:=N.length-ds.length) (a:=Sl.no) (i:=i-(ds.map Sl.val).length)
   rw[this]at e
   split at e<;>cases e
 ·exfalso
  unfold aH at e
  by_cases hi:i<ds.length
  ·rw[getElem?_append_left (by simpa using hi),getElem?_map,getElem?_eq_getElem hi]at e
   cases e
  ·rw[getElem?_append_right (by simp;omega)]at e
   have:=getElem?_replicate (n:=N.length-ds.length) (a:=Sl.no) (i:=i-(ds.map Sl.val).length)
   rw[this]at e
   split at e<;>cases e
def ai:Out->R D
 |.rt d=>.ok d
 |.o7 xs=>.ok (.lst xs)
 |.nx _=>.ok .non
 |_=>.bad
def aj:Out->R (List D)
 |.o7 xs=>.ok xs
 |_=>.bad
abbrev EN:Str->Hp->Prop:=fun _ _=>False
section
variable{P:Program}{w:World}{K:PySem.W.Frag}{mg:Str->Option Value}{base:Heap}
theorem Is.P0 {Q:Addr->Prop}{H H':Hp}{d:D}{v:V}(h:Is K ((⟨Q,H⟩:Gh).P []) H' d v):Is K (fun a=>Q a\/H a=none) H' d v:=Is.ext ⟨fun _ _ p _=>p.1,fun _ _ _ z=>z⟩ _ _ h
theorem U8{x qual:Str}{st:Stmt}{f:Addr}{fd:FuncData}{N ps:List Str}{k:Nat}{xc:Str->Value}{m:List D->R D}{b:DE->R Out}(F:yc K x qual st f fd)(S:aw N ps (ae st))
  (hm:∀ds d,m ds=.ok d->ds.length=ps.length/\(b (aH N.length ds)).bind ai=.ok d)(hne:∀ds c,m ds≠.err c)
  (hb:∀(cdv:Value)(A:Around)(outer:List Env)(s:Shared)(H:Hp)(E:XK),aT k (A.deeper (envOfC qual (ae st) s.heap.objs.size f cdv))->oN (oU jH P w K mg base N qual (ae st) f cdv A outer s H E).Dm (bg st) (tS K EN b)):
  bJ P w K mg base jH (k+1) f fd ps (A8 K xc m):=by
 refine F.ok S (fun vs H Q E h=>?_) (fun cdv A outer s H vs Q E hr h=>?_)
 ·obtain⟨Pa,ds,i,h⟩:=h
  cases e:m ds with
  |ok d=>rw[i.length];exact(hm ds d e).1
  |err c=>exact(hne ds c e).elim
  |bad=>rw[e]at h;exact h.elim
 ·obtain⟨Pa,ds,i,h⟩:=h
  refine⟨_,hb cdv A outer s H E hr,⟨⟨Pa,H⟩,aH N.length ds,[],qJ i,?_⟩⟩
  cases e:m ds with
  |err c=>exact(hne ds c e).elim
  |bad=>rw[e]at h;exact h.elim
  |ok d=>
   rw[e]at h
   obtain⟨_,q⟩:=hm ds d e
   cases eb:b (aH N.length ds)with
   |bad=>rw[eb]at q;cases q
   |err c=>rw[eb]at q;cases q
   |ok o=>
    rw[eb]at q
    cases o with
    |rt d'=>
     cases q
     exact fun v H' s' i'=>h v H' s' i'.P0
    |o7 xs=>
     cases q
     intro a A5 H' s' hn hH i'
     exact h _ H' s' ⟨a,A5,rfl,.inl ⟨.inr hn,.inl hH⟩,IsL.ext ⟨fun b o p _=>p.1,fun _ _ _ z=>z⟩ _ _ i'⟩
    |nx e'=>
     cases q
     exact fun σ' H' hU r' _=>h _ H' r'.ext rfl
    |H0 _=>cases q
    |G7 _=>cases q
    |HZ _=>cases q
    |A6 _=>cases q
    |bk _=>cases q
    |ct _=>cases q
theorem U9{x qual:Str}{st:Stmt}{f:Addr}{fd:FuncData}{N ps:List Str}{k:Nat}{xc:Str->Value}{m:List D->R (List D)}{b:DE->R Out}(F:yc K x qual st f fd)(S:aw N ps (ae st))
  (hm:∀ds d,m ds=.ok d->ds.length=ps.length/\(b (aH N.length ds)).bind aj=.ok d)(hne:∀ds c,m ds≠.err c)
  (hb:∀(cdv:Value)(A:Around)(outer:List Env)(s:Shared)(H:Hp)(E:XK),aT k (A.deeper (envOfC qual (ae st) s.heap.objs.size f cdv))->oN (oU jH P w K mg base N qual (ae st) f cdv A outer s H E).Dm (bg st) (tS K EN b)):
  bJ P w K mg base jH (k+1) f fd ps (G9 K xc m):=by
 refine F.ok S (fun vs H Q E h=>?_) (fun cdv A outer s H vs Q E hr h=>?_)
 ·obtain⟨Pa,ds,i,h⟩:=h
  cases e:m ds with
  |ok d=>rw[i.length];exact(hm ds d e).1
  |err c=>exact(hne ds c e).elim
  |bad=>rw[e]at h;exact h.elim
 ·obtain⟨Pa,ds,i,h⟩:=h
  refine⟨_,hb cdv A outer s H E hr,⟨⟨Pa,H⟩,aH N.length ds,[],qJ i,?_⟩⟩
  cases e:m ds with
  |err c=>exact(hne ds c e).elim
  |bad=>rw[e]at h;exact h.elim
  |ok d=>
   rw[e]at h
   obtain⟨_,q⟩:=hm ds d e
   cases eb:b (aH N.length ds)with
   |bad=>rw[eb]at q;cases q
   |err c=>rw[eb]at q;cases q
   |ok o=>
    rw[eb]at q
    cases o with
    |rt d'=>cases q
    |o7 xs=>
     cases q
     intro a A5 H' s' hn hH i'
     exact h a A5 H' s' hn hH (IsL.ext ⟨fun b o p _=>⟨p.1,fun z=>p.2 (by simp[z])⟩,fun _ _ _ z=>z⟩ _ _ i')
    |nx e'=>cases q
    |H0 _=>cases q
    |G7 _=>cases q
    |HZ _=>cases q
    |A6 _=>cases q
    |bk _=>cases q
    |ct _=>cases q
end
def vQ(cells:List (Str×Addr)):List (Str×NameKind)->List (Str×Addr)->List (Str×Addr)
 |[],acc=>acc
 |(n,k)::r,acc=>if(k==NameKind.free)=true then vQ cells r ((n,(cells.lookup n).getD 0)::acc)else vQ cells r acc
theorem j5{scope:Scope}{env:Env}(h:∀y∈scope.names,y.2=.free->∃c,env.cells.lookup y.1=some c):closureFor scope env=pure (vQ env.cells scope.names []):=by
 have gen:∀(l:List (Str×NameKind))(acc:List (Str×Addr)),(∀y∈l,y.2=.free->∃c,env.cells.lookup y.1=some c)->
   (forIn l acc fun(x:Str×NameKind)(r:List (Str×Addr))=>(if(x.2==NameKind.free)=true then(do let a<-cellOf env x.1;pure (ForInStep.yield ((x.1,a)::r)))else pure (ForInStep.yield r):Sem (ForInStep (List (Str×Addr)))))=pure (vQ env.cells l acc):=by
  intro l
  induction l with
  |nil=>intro acc _;rfl
  |cons y r ih=>
   intro acc hy
   obtain⟨n,k⟩:=y
   rw[List.forIn_cons]
   have hr:∀y∈r,y.2=.free->∃c,env.cells.lookup y.1=some c:=fun y h=>hy y (mem_cons_of_mem _ h)
   by_cases hk:(k==NameKind.free)=true
   ·obtain⟨c,hc⟩:=hy (n,k) mem_cons_self (by simpa using hk)
    have AO:env.cells.lookup n=some c:=hc
    simp only [hk,if_true,vQ,cellOf,AO,Option.getD_some]
    exact ih _ hr
   ·simp only [hk,vQ]
    exact ih _ hr
 show((forIn scope.names ([]:List (Str×Addr)) fun(x:Str×NameKind)(r:List (Str×Addr))=>(if(x.2==NameKind.free)=true then(do let a<-cellOf env x.1;pure (ForInStep.yield ((x.1,a)::r)))else pure (ForInStep.yield r):Sem (ForInStep (List (Str×Addr)))))>>=fun s=>pure s)=_
 rw[gen scope.names [] h]
 rfl
theorem kW{cells:List (Str×Addr)}{x:Str}:∀(l:List (Str×NameKind))(acc:List (Str×Addr)),(∀y∈l,y.2=.free->∃c,cells.lookup y.1=some c)->(∀c,acc.lookup x=some c->cells.lookup x=some c)->
  ∀c,(vQ cells l acc).lookup x=some c->cells.lookup x=some c
 |[],acc,_,h,c,e=>h c e
 |(n,k)::r,acc,hy,h,c,e=>by
  unfold vQ at e
  have hr:∀y∈r,y.2=.free->∃c,cells.lookup y.1=some c:=fun y h=>hy y (mem_cons_of_mem _ h)
  split at e
  ·rename_i hk
   refine kW r _ hr (fun c' e'=>?_) c e
   rw[lookup_cons]at e'
   obtain⟨c0,hc0⟩:=hy (n,k) mem_cons_self (by simpa using hk)
   have QO:cells.lookup n=some c0:=hc0
   cases hx:x==n with
   |true=>
    rw[hx]at e'
    have ex:x=n:=by simpa using hx
    rw[QO]at e'
    cases e'
    rw[ex];exact QO
   |false=>
    rw[hx]at e'
    exact h c' e'
  ·exact kW r _ hr h c e
theorem pG{cells:List (Str×Addr)}{x:Str}:∀(l:List (Str×NameKind))(acc:List (Str×Addr)),((∃c,acc.lookup x=some c)\/(x,NameKind.free)∈l)->∃c,(vQ cells l acc).lookup x=some c
 |[],acc,h=>h.elim (fun z=>z) fun z=>nomatch z
 |(n,k)::r,acc,h=>by
  unfold vQ
  split
  ·rename_i hk
   refine pG r _ ?_
   by_cases hx:x=n
   ·exact .inl ⟨_,by rw[lookup_cons,beq_iff_eq.mpr hx]⟩
   ·rcases h with⟨c,h⟩|h
    ·refine .inl ⟨c,?_⟩
     rw[lookup_cons,beq_eq_false_iff_ne.mpr hx];exact h
    ·rcases mem_cons.mp h with z|z
     ·cases z;exact absurd rfl hx
     ·exact .inr z
  ·rename_i hk
   refine pG r _ ?_
   rcases h with h|h
   ·exact .inl h
   ·rcases mem_cons.mp h with z|z
    ·cases z;exact absurd (by simp) hk
    ·exact .inr z
def qK(X:Cx)(scope:Scope)(N:List Str)(s:Shared)(H:Hp)(fp:List Addr)(C:Addr)(pl:List (Addr×Obj)):Cx where
 prog:=X.prog
 w:=X.w
 K:=X.K
 mg:=X.mg
 base:=X.base
 A:=X.A
 N:=N
 s₀:=s
 H₀:=H
 env:=compEnvC scope (vQ X.env.cells scope.names []) C X.env
 outer:=X.stack
 stack:=X.stack
 ex:=fp
 fn:=fun _=>false
 calm:=X.calm
 pn:=pl
 xe:=fun _ _=>False
structure gO(X:Cx)(scope:Scope)(N:List Str)(nt:Nat)(caps:List Nat):Prop where
 kind:scope.kind=.function
 cell:∀y∈scope.names,y.2≠.cell
 names:∀y∈scope.names,y.2=.local->scope.names.lookup y.1=some .local
 free:∀y∈scope.names,y.2=.free->X.env.kindOf y.1=some .cell\/X.env.kindOf y.1=some .free
 len:N.length=nt+caps.length
 nd:N.Nodup
 caps:∀(j i:Nat),caps[j]?=some i->∃x,N[nt+j]?=some x/\X.N[i]?=some x/\scope.names.lookup x=some .free/\vD X.env.scope x
theorem aX{scope:Scope}{env:Env}{x:Str}{k:NameKind}(h:(relabel scope env).names.lookup x=some k):∃k',scope.names.lookup x=some k'/\(k=k'\/(k'=.free/\k=.cell)):=by
 unfold relabel at h
 dsimp only at h
 generalize scope.names=l at h
 induction l with
 |nil=>cases h
 |cons y r ih=>
  obtain⟨n,kk⟩:=y
  rw[map_cons]at h
  by_cases hc:(kk==NameKind.free&&env.scope.kind==.function&&env.kindOf n==some .cell)=true
  ·simp only [hc,if_true]at h
   rw[lookup_cons]at h⊢
   cases hx:x==n with
   |true=>
    rw[hx]at h
    cases h
    simp only [and_eq_true]at hc
    exact⟨kk,rfl,.inr ⟨by simpa using hc.1.1,rfl⟩⟩
   |false=>
    rw[hx]at h
    exact ih h
  ·simp only [hc,false_eq_true,if_false]at h
   rw[lookup_cons]at h⊢
   cases hx:x==n with
   |true=>
    rw[hx]at h
    exact⟨kk,rfl,.inl (Option.some.inj h).symm⟩
   |false=>
    rw[hx]at h
    exact ih h
theorem mem_of_lookup{α:Type}{l:List (Str×α)}{x:Str}{k:α}(h:l.lookup x=some k):(x,k)∈l:=by
 induction l with
 |nil=>cases h
 |cons y r ih=>
  obtain⟨n,kk⟩:=y
  rw[lookup_cons]at h
  cases hx:x==n with
  |true=>
   rw[hx]at h
   cases h
   have ex:x=n:=by simpa using hx
   rw[ex];exact mem_cons_self
  |false=>
   rw[hx]at h
   exact mem_cons_of_mem _ (ih h)
section
variable{X:Cx}{scope:Scope}{N:List Str}{nt:Nat}{caps:List Nat}{pins:List (Addr×Obj)}{σ:St}{H:Hp}{s:Shared}
theorem gO.cells (S:gO X scope N nt caps)(I:Inv X pins σ H s):∀y∈scope.names,y.2=.free->∃c,X.env.cells.lookup y.1=some c:=fun y hy hf=>I.ok.has y.1 (S.free y hy hf)
theorem gO.lk (S:gO X scope N nt caps)(I:Inv X pins σ H s){x:Str}{c:Addr}(h:(vQ X.env.cells scope.names []).lookup x=some c):X.env.cells.lookup x=some c:=
 kW scope.names [] (S.cells I) (fun c e=>by cases e) c h
theorem gO.start (S:gO X scope N nt caps)(I:Inv X pins σ H s){fp:List Addr}(hf:∀b∈fp,jE X pins H b){C:Addr}{h':Heap}{m:Str->Option Value}{t':Nat}(hC:s.heap.objs.size<=C)(hn:h'.Ns C m)(k:∀b o,s.heap.get? b=some o->h'.get? b=some o)
  (hpin:∀b∈fp,∃o,s.heap.get? b=some o)
  {vs:List V}(hv:vs.length=caps.length)(hvs:∀(j i:Nat)(v:V),caps[j]?=some i->vs[j]?=some v->σ[i]?=some (some v))(σ':St)(hσ:σ'=replicate nt none++vs.map some):
  Inv (qK X scope N s H fp C (X.pn++pins)) [] σ' H {s with heap:=h',toks:=t'}:=by
 subst hσ
 have hH:∀b,s.heap.objs.size<=b->H b=none:=fun b hb=>I.hok.fresh hb
 have lk:=fun{x c}(h:(vQ X.env.cells scope.names []).lookup x=some c)=>S.lk I h
 have ok:(qK X scope N s H fp C (X.pn++pins)).Ok:={
  mod:=I.ok.mod
  kind:=S.kind
  glob:=I.ok.glob
  blt:=I.ok.blt
  above:=hC
  inj:=fun x y c h1 h2=>I.ok.inj x y c (lk h1) (lk h2)
  has:=fun x h=>by
   have h':(relabel scope X.env).names.lookup x=some .cell\/(relabel scope X.env).names.lookup x=some .free:=h
   have hfree:scope.names.lookup x=some .free:=by
    rcases h' with h'|h'
    ·obtain⟨k',e,q⟩:=aX h'
     rcases q with rfl|⟨rfl,_⟩
     ·exact absurd rfl (S.cell _ (mem_of_lookup e))
     ·exact e
    ·obtain⟨k',e,q⟩:=aX h'
     rcases q with rfl|⟨rfl,q⟩
     ·exact e
     ·exact e
   exact pG scope.names [] (.inr (mem_of_lookup hfree))
  LQ:=fun x c h=>nomatch h
  hd:=I.ok.hd
  frames:=I.ok.frames
  O6:=.inl rfl
  LR:=fun b hb=>by
   obtain⟨o,e⟩:=hpin b hb
   exact⟨fun z=>absurd (lt_of_lt_of_le (Heap.lt_size e) (by rw[z];exact hC)) (Nat.lt_irrefl _),fun x c h=>(hf b hb).2.2.2.2.1 x c (lk h)⟩
  bs:=I.bs
  Cn:=le_trans I.ok.Cn I.sz
  xX:=fun b o e hb=>by
   rcases(hf b hb).2.2.2.1 with z|z
   ·exact I.ok.xX b o e z
   ·exact absurd (lt_of_lt_of_le (Heap.lt_size e) (le_trans I.ok.Cn z)) (Nat.lt_irrefl _)
  wD:=fun b hb z=>by
   rcases mem_cons.mp (I.qu b z)with q|q
   ·exact(hf b hb).2.1 q
   ·exact(hf b hb).2.2.1 q
  o8:=I.stack
  Hs:=I.wF}
 refine⟨ok,rfl,I.bare,Un.kept k,⟨m,hn,fun i x v e1 e2 e3=>?_⟩,fun x c e=>?_,hH C hC,fun x c e=>I.mw x c (lk e),fun p hp=>?_,I.hok.kept k,?_⟩
 ·have hi:nt<=i:=by
   refine le_of_not_lt fun z=>?_
   rw[getElem?_append_left (by simpa using z),getElem?_replicate]at e2
   split at e2<;>cases e2
  rw[getElem?_append_right (by simpa using hi),getElem?_map]at e2
  have Ek:(vs[i-nt]?).map some=some (some v):=by simpa using e2
  cases q:vs[i-nt]? with
  |none=>rw[q]at Ek;cases Ek
  |some v'=>
   rw[q]at Ek
   cases Ek
   have hj:i-nt<caps.length:=by rw[<-hv];exact(List.getElem?_eq_some_iff.mp q).1
   obtain⟨x',h1,h2,h3,h4⟩:=S.caps (i-nt) caps[i-nt] (getElem?_eq_getElem hj)
   have ex:x'=x:=by
    have D7:N[i]?=some x:=e1
    rw[show nt+(i-nt)=i by omega,D7]at h1
    exact(Option.some.inj h1).symm
   subst ex
   have hs:=hvs (i-nt) _ v (getElem?_eq_getElem hj) q
   obtain⟨m0,hn0,Va⟩:=I.loc
   obtain⟨u,r,l⟩:=Va _ x' v h2 hs h4
   refine⟨u,r,?_⟩
   have hkx:=S.free _ (mem_of_lookup h3) rfl
   rcases l with⟨k1,_⟩|⟨k1,c,hc,hcell⟩
   ·have MI:X.env.kindOf x'=some .local:=k1
    rcases hkx with z|z
    ·have z':X.env.kindOf x'=some .cell:=z
     rw[MI]at z';cases z'
    ·have z':X.env.kindOf x'=some .free:=z
     rw[MI]at z';cases z'
   ·obtain⟨c',AO⟩:=pG (cells:=X.env.cells) (x:=x') scope.names [] (.inr (mem_of_lookup h3))
    have:=lk AO
    rw[hc]at this
    cases this
    refine .inr ⟨?_,c,AO,let⟨o,ho,hd⟩:=hcell;⟨o,k _ o ho,hd⟩⟩
    rcases e3 with z|z|z
    ·exfalso
     obtain⟨k',e,q⟩:=aX (show(relabel scope X.env).names.lookup x'=some .local from z)
     rcases q with rfl|⟨_,q⟩
     ·rw[h3]at e;cases e
     ·cases q
    ·exact .inl z
    ·exact .inr z
 ·obtain⟨v,z⟩:=I.cell x c (lk e)
  exact⟨v,let⟨o,ho,hd⟩:=z;⟨o,k _ o ho,hd⟩⟩
 ·have J0:p∈X.pn++pins:=by simpa[qK]using hp
  obtain⟨e,n,ne,nf,d⟩:=I.pin p J0
  refine⟨k _ _ e,n,fun z=>absurd (lt_of_lt_of_le (Heap.lt_size e) (by rw[z];exact hC)) (Nat.lt_irrefl _),fun z=>?_,d⟩
  rcases mem_cons.mp (I.qu _ z)with q|q
  ·exact ne q
  ·exact nf q
 ·show(replicate nt none++vs.map some).length=N.length
  rw[S.len];simp[hv]
end
section
variable{prog:Program}{w:World}{A:Around}{E:Value->Shared->Prop}{R:Result->Shared->Prop}{s:Shared}
theorem mC{elt target iter:Expr}{ifs:List Expr}{scope:Scope}{pos:Pos}{it acc:Value}{env:Env}(I:Nat->Shared->Prop)
  (turn:∀n s,I n s->wpAny (model prog w) A (pyNext it) (fun r s₁=>match r with
   |none=>R (.ok .next) s₁
   |some v=>wpAny (model prog w) A (letOwnedTupleGo target it v) (fun _ XW=>wpAny (model prog w) A (assign target env v) (fun _ s₂=>
     wpAny (model prog w) A (forIn ifs true fun c r=>if r=true then do let ok<-isTrue c env (eval c env);pure (ForInStep.yield ok)else pure (ForInStep.yield r)) (fun ok s₃=>
      if ok=true then wpAny (model prog w) A (eval elt env) (fun x s₄=>
       wpAny (model prog w) A (call (.builtin "list.append") [acc,x]) (fun _ s₅=>∃m,m<n/\I m s₅) (fun _ _=>False) s₄) (fun _ _=>False) s₃
      else∃m,m<n/\I m s₃) (fun _ _=>False) s₂) (fun _ _=>False) XW) (fun _ _=>False) s₁) (fun _ _=>False) s)
  (n:Nat)(h:I n s):
  codeAny (model prog w) A (.compLoop (.ListComp elt [⟨target,iter,ifs,0⟩] scope pos) 0 it acc env) R s:=by
 refine codeAny_loop rfl I (fun n s hI=>?_) n h
 show wpAny _ A ((compTurn (.ListComp elt [⟨target,iter,ifs,0⟩] scope pos) 0 it acc env).onRaise (fun x=>do noteFrame x env;theTreesLotGoes x)) _ _ s
 refine wpAny_noted ?_
 rw[compTurn_list]
 refine wpAny_bind (wpAny_standAt (wpAny_bind (wpAny_mono (turn n s hI) (fun r s₁ h₁=>?_) fun _ _ h'=>h'.elim)))
 cases r with
 |none=>exact wpAny_pure h₁
 |some v=>
  refine wpAny_bind (wpAny_mono h₁ (fun _ XW Z2=>?_) fun _ _ h'=>h'.elim)
  refine wpAny_bind (wpAny_mono Z2 (fun _ s₂ h₂=>wpAny_bind (wpAny_mono h₂ (fun ok s₃ h₃=>?_) fun _ _ h'=>h'.elim)) fun _ _ h'=>h'.elim)
  cases ok with
  |false=>exact wpAny_pure ⟨rfl,h₃⟩
  |true=>
   exact wpAny_bind (wpAny_bind (wpAny_mono h₃ (fun x s₄ h₄=>wpAny_bind (wpAny_mono h₄ (fun _ s₅ h₅=>wpAny_pure (wpAny_pure ⟨rfl,h₅⟩)) fun _ _ h'=>h'.elim)) fun _ _ h'=>h'.elim))
end
def Pe(X:Cx)(ifs:List Expr)(t:TT):Prop:=
 ∀(pins:List (Addr×Obj))(s:Shared)(σ:St)(H:Hp)(Q:Bool->Hp->Prop),Inv X pins σ H s->t σ H Q->
  wpAny (model X.prog X.w) X.A (forIn ifs true fun c r=>if r=true then do let ok<-isTrue c X.env (eval c X.env);pure (ForInStep.yield ok)else pure (ForInStep.yield r)) (TP X pins σ Q) X.xe s
theorem Ih{X:Cx}{E:Str->Hp->Prop}:Pe X [] (tT X.K E fun _=>.ok true):=fun pins s σ H Q I ⟨g,env,os,r,m⟩=>wpAny_tests_nil ⟨H,I,m H (aB.refl H)⟩
theorem Vb{X:Cx}{E:Str->Hp->Prop}{c:Expr}{f:DE->R Bool}(h:PT X c (tT X.K E f)):Pe X [c] (tT X.K E f):=fun pins s σ H Q I q=>wpAny_tests_one (h pins s σ H Q I q)
def bj(b:D->DE->R DE)(ct:DE->R Bool)(fe:DE->R D)(e₀:DE):List D->R (List D)
 |[]=>.ok []
 |x::xs=>(b x e₀).bind fun e=>(ct e).bind fun t=>if t=true then(fe e).bind fun d=>(bj b ct fe e₀ xs).bind fun ds=>.ok (d::ds)else bj b ct fe e₀ xs
def cM(env:DE):List Nat->R (List D)
 |[]=>.ok []
 |i::r=>(bU i env).bind fun d=>(cM env r).bind fun ds=>.ok (d::ds)
theorem Good.cM {K:PySem.W.Frag}{E:Str->Hp->Prop}{H₀ H:Hp}{g:Gh}{σ:St}{os:List Addr}{env:DE}(r:Rel K g env σ H os):∀{caps:List Nat}{p:List D->Prop},Good E H₀ (cM env caps) p->
  ∃ds vs,p ds/\vs.length=caps.length/\ds.length=caps.length/\IsL K (g.P os) H ds vs/\∀(j i:Nat)(v:V),caps[j]?=some i->vs[j]?=some v->σ[i]?=some (some v)
 |[],p,h=>⟨[],[],h,rfl,rfl,rfl,fun j i v e=>by simp at e⟩
 |i::rest,p,h=>by
  have h1:=h.bind
  unfold bU at h1
  split at h1
  ·rename_i d e
   have h2:Good E H₀ ((DL.cM env rest).bind fun ds=>.ok (d::ds)) p:=h1
   obtain⟨ds,vs,q1,q2,q3,q4,q5⟩:=Good.cM r h2.bind
   obtain⟨v,s1,s2⟩:=r.val i d e
   refine⟨d::ds,v::vs,q1,by simp[q2],by simp[q3],.cons s2 q4,fun j i' v' e1 e2=>?_⟩
   cases j with
   |zero=>simp at e1 e2;subst e1 e2;exact s1
   |succ j=>exact q5 j i' v' (by simpa using e1) (by simpa using e2)
  ·exact h1.elim
def dR(nt:Nat)(ds:List D):DE:=replicate nt Sl.no++ds.map .val
theorem wW{nt:Nat}{ds:List D}{i:Nat}{d:D}(h:(dR nt ds)[i]?=some (.val d)):nt<=i/\ds[i-nt]?=some d:=by
 unfold dR at h
 have hi:nt<=i:=by
  refine le_of_not_lt fun z=>?_
  rw[getElem?_append_left (by simpa using z),getElem?_replicate]at h
  split at h<;>cases h
 rw[getElem?_append_right (by simpa using hi),getElem?_map]at h
 refine⟨hi,?_⟩
 simp only [length_replicate]at h
 cases q:ds[i-nt]? with
 |none=>rw[q]at h;cases h
 |some d'=>rw[q]at h;cases h;rfl
theorem nM{nt:Nat}{ds:List D}{i:Nat}{xs:List D}(h:(dR nt ds)[i]?=some (.own xs)):False:=by
 unfold dR at h
 by_cases hi:i<nt
 ·rw[getElem?_append_left (by simpa using hi),getElem?_replicate]at h
  split at h<;>cases h
 ·rw[getElem?_append_right (by simp;omega),getElem?_map]at h
  cases q:ds[i-(replicate nt Sl.no).length]? with
  |none=>rw[q]at h;cases h
  |some d'=>rw[q]at h;cases h
theorem tU{nt:Nat}{ds:List D}{i:Nat}{w:Ct}(h:(dR nt ds)[i]?=some (.deep w)):False:=by
 unfold dR at h
 by_cases hi:i<nt
 ·rw[getElem?_append_left (by simpa using hi),getElem?_replicate]at h
  split at h<;>cases h
 ·rw[getElem?_append_right (by simp;omega),getElem?_map]at h
  cases q:ds[i-(replicate nt Sl.no).length]? with
  |none=>rw[q]at h;cases h
  |some d'=>rw[q]at h;cases h
theorem wX{nt:Nat}{ds:List D}{i:Nat}{w:V}(h:(dR nt ds)[i]?=some (.raw w)):False:=by
 unfold dR at h
 by_cases hi:i<nt
 ·rw[getElem?_append_left (by simpa using hi),getElem?_replicate]at h
  split at h<;>cases h
 ·rw[getElem?_append_right (by simp;omega),getElem?_map]at h
  cases q:ds[i-(replicate nt Sl.no).length]? with
  |none=>rw[q]at h;cases h
  |some d'=>rw[q]at h;cases h
section
variable{X:Cx}{pins:List (Addr×Obj)}{σ:St}{H:Hp}{s:Shared}{h':Heap}
theorem vR{fp:List Addr}{t':Nat}(I:Inv X pins σ H s)(hf:∀b∈fp,jE X pins H b)(k:∀b u,b∉fp->s.heap.get? b=some u->h'.get? b=some u):Inv X pins σ H {s with heap:=h',toks:=t'}:=by
 have QP:∀b u,H b=some u->b∉fp:=fun b u e z=>by rw[(hf b z).1]at e;cases e
 refine I.step (g':=s.gens) (d':=s.drawn) (ch:=fp) (fun b hb=>⟨(hf b hb).2.2.2.1,(hf b hb).2.1,(hf b hb).2.2.2.2.1,(hf b hb).2.2.2.2.2⟩) (fun b u _ _ hc e _=>k b u hc e) (fun b u _ _ hc e _=>⟨u.slots,k b u hc e⟩)
  (fun b u _ e n=>n) (fun b u hc e=>⟨u,k b u hc e⟩) (fun b xs e=>e) (fun b u xs e=>e) (fun b ps e=>⟨#[],by rw[e];simp⟩) (fun m hm=>?_) (fun b u e=>?_) I.bare
 ·obtain⟨ob,es,ep,ho,r⟩:=hm
  exact⟨ob,es,ep,k _ ob (fun z=>(hf _ z).2.1 rfl) ho,r⟩
 ·refine(I.hok b u e).zA (fun c v hc q=>k c v ?_ q) (fun c q=>q) fun c xs q=>q
  rcases hc with z|z
  ·rw[z];exact QP b u e
  ·exact QP c _ z
end
def R.ne {α:Type}:R α->R α
 |.ok a=>.ok a
 |_=>.bad
theorem R.El {α:Type}(a:α):(R.ok a).ne=.ok a:=rfl
theorem R.bM {α β:Type}{r:R α}{k:α->R β}{y:β}(h:r.bind k=.ok y):∃a,r=.ok a/\k a=.ok y:=by
 cases r with
 |ok a=>exact⟨a,rfl,h⟩
 |err c=>cases h
 |bad=>cases h
theorem kX{α:Type}{E:Str->Hp->Prop}{H₀:Hp}{r:R α}{a:α}{p:α->Prop}(e:r=.ok a)(h:p a):Good E H₀ r p:=by rw[e];exact h
section
variable{X:Cx}{E:Str->Hp->Prop}{pos:Pos}{scope:Scope}{N:List Str}{nt:Nat}{caps:List Nat}
theorem sI{K:PySem.W.Frag}{g:Gh}{e:DE}{σ:St}{H H':Hp}{a:Addr}{ds:List D}{ts:DE}(r:Rel K g e σ H [a])(he:e=ts++ds.map .val)(hl:ts.length=nt)(x:Ext (g.P [a]) (g.P [a]) H H')(s:aB g.H₀ H')(hn:∃o,H' a=some o):
  Rel K g (dR nt ds) σ H' [a]:=by
 subst he
 refine⟨by rw[r.len];simp[dR,hl],s,fun i d e=>?_,fun i xs e=>(nM e).elim,fun i j xs ys b e=>(nM e).elim,fun b hb=>?_,fun i w e=>(wX e).elim,yh.none fun i w e=>tU e⟩
 ·obtain⟨h1,h2⟩:=wW e
  obtain⟨v,q1,q2⟩:=r.val i d (by rw[getElem?_append_right (by omega),hl,getElem?_map,h2];rfl)
  exact⟨v,q1,Is.ext x _ _ q2⟩
 ·have e:b=a:=by simpa using hb
  subst e
  exact⟨(r.new b hb).1,hn⟩
def QQ(X:Cx)(pins:List (Addr×Obj))(σ:St)(g:Gh)(os:List Addr)(H:Hp)(use:Option (Value->Sem Unit))(Qv:Value->Shared->Prop)(ys:List D):Prop:=
 ∀(Dd C:Addr)(acc:List V)(Hx:Hp)(s6:Shared),Inv X pins σ Hx s6->(∃m,s6.heap.Ns C m)->jE X pins Hx C->aB H Hx->H Dd=none->Hx Dd=some (.lst acc)->IsL X.K (g.P (Dd::os)) Hx ys acc->
  compPost (model X.prog X.w) X.A X.xe use Qv (.ref Dd) C (.ok .next) s6
theorem Ii{elt tg iter:Expr}{ifs:List Expr}{fi:DE->R (List D)}{b:D->DE->R DE}{ct:DE->R Bool}{fe:DE->R D}(S:gO X scope N nt caps)(pH:X.calm=true)(hi:PI X tg iter (Pd X.K E fi))
  (hb1:∀ds d e,b d (dR nt ds)=.ok e->∃ts,e=ts++ds.map .val/\ts.length=nt)
  (hg:∀s H fp C pl,PG (qK X scope N s H fp C pl) tg (tG X.K EN b))(ht:∀s H fp C pl,Pe (qK X scope N s H fp C pl) ifs (tT X.K EN ct))(he:∀s H fp C pl,PE (qK X scope N s H fp C pl) elt (tD X.K EN fe))
  (hs:∀x,foldedSetIterable iter X.env x=pure x){use:Option (Value->Sem Unit)}{Qv:Value->Shared->Prop}{pins:List (Addr×Obj)}{s:Shared}{σ:St}{H:Hp}{env:DE}{os:List Addr}{g:Gh}(I:Inv X pins σ H s)(r:Rel X.K g env σ H os)
  (m:Good E g.H₀ ((fi env).bind fun xs=>(cM env caps).bind fun ds=>(bj b ct fe (dR nt ds) xs).ne.bind fit) (QQ X pins σ g os H use Qv)){ps:Pos}:
  wpAny (model X.prog X.w) X.A (comprehension (.ListComp elt [⟨tg,iter,ifs,0⟩] scope pos) scope X.env ps (newList []) false (eval iter X.env) use) Qv X.xe s:=by
 refine wpAny_comprehension_free (use:=use) rfl hs (j5 (S.cells I)) S.kind S.names ?_
 refine bz (hi pins s σ H (fun J H1=>∃xs,aB H H1/\U7 X.K (g.P os) J H1 xs/\Good E g.H₀ ((cM env caps).bind fun ds=>(bj b ct fe (dR nt ds) xs).ne.bind fit) _) I ⟨g,env,os,r,m.bind.mono fun xs _ m1 J H1 s1 yl=>⟨xs,s1,yl,m1⟩⟩) fun v s1 h1=>bz h1 fun itv s2 h2=>?_
 obtain⟨it,fp,tn,J,H2,rfl,I2,T,x6,f2,xs,CK,yl,m1⟩:=h2
 have r2:=r.same CK
 obtain⟨ds,vs,m2,MJ,Tc,hds,hvs⟩:=m1.bind.cM r2
 cases ec:bj b ct fe (dR nt ds) xs with
 |bad=>rw[ec]at m2;exact m2.elim
 |err c=>rw[ec]at m2;exact m2.elim
 |ok ys=>
 rw[ec]at m2
 obtain⟨hz,q⟩:=(show Good E g.H₀ (fit ys) _ from m2).fit
 refine wpAny_newObj_type (wpAny_newFunctionEnv S.cell (by intro y hy;simp at hy) (fun h₁ zV hsb₁=>?_) S.kind)
 dsimp only at zV hsb₁⊢
 have CL:H2 s2.heap.objs.size=none:=I2.hok.fresh (Nat.le_refl _)
 have I3:Inv X pins σ (upd H2 s2.heap.objs.size (.lst [])) {s2 with heap:=s2.heap.push {cls:=.type "list",dict:=none,data:=.seq ([]:List Value).toArray}}:=
  I2.laid (t':=s2.toks) (fun b u e=>Heap.get?_push_of_some _ e) (Nat.le_refl _) ⟨zero_le _,[],0,.nil,Heap.get?_push_size _ rfl⟩
 generalize J1:({s2 with heap:=s2.heap.push {cls:=.type "list",dict:=none,data:=.seq ([]:List Value).toArray}}:Shared)=s3 at I3
 have Em:s3.heap=s2.heap.push {cls:=.type "list",dict:=none,data:=.seq ([]:List Value).toArray}:=by rw[<-J1]
 rw[<-Em]at zV hsb₁⊢
 generalize QR:s2.heap.objs.size=Dd at*
 have k3:∀b o,s3.heap.get? b=some o->h₁.get? b=some o:=fun b o e=>hsb₁.extBut b o (ne_of_lt (Heap.lt_size e)) (Heap.get?_push_of_some _ e)
 have yo:∀b∈fp,∃o,s2.heap.get? b=some o:=fun b hb=>let⟨o,e,_⟩:=T.obj 0 _ x6 b hb;⟨o,e⟩
 have En:∀b∈fp,∃o,s3.heap.get? b=some o:=fun b hb=>let⟨o,e⟩:=yo b hb;⟨o,by rw[Em];exact Heap.get?_push_of_some _ e⟩
 have QS:∀b∈fp,b≠Dd:=fun b hb=>let⟨o,e⟩:=yo b hb;by rw[<-QR];exact ne_of_lt (Heap.lt_size e)
 have f3:∀b∈fp,jE X pins (upd H2 Dd (.lst [])) b:=fun b hb=>⟨by rw[ah (QS b hb)];exact(f2 b hb).1,(f2 b hb).2⟩
 have sD:aB H2 (upd H2 Dd (.lst [])):=aD CL _
 have I4:=S.start (t':=s2.toks+([]:List (Str×Value)).length) I3 f3 (Nat.le_refl _) zV k3 En MJ (fun j i v e1 e2=>hvs j i v e1 e2) _ rfl
 generalize hX:qK X scope N s3 (upd H2 Dd (.lst [])) fp s3.heap.objs.size (X.pn++pins)=X' at I4
 have J2:=hg s3 (upd H2 Dd (.lst [])) fp s3.heap.objs.size (X.pn++pins)
 have zW:=ht s3 (upd H2 Dd (.lst [])) fp s3.heap.objs.size (X.pn++pins)
 have Ha:=he s3 (upd H2 Dd (.lst [])) fp s3.heap.objs.size (X.pn++pins)
 rw[hX]at J2 zW Ha
 have eK:X'.K=X.K:=by rw[<-hX];rfl
 have eP:X'.prog=X.prog:=by rw[<-hX];rfl
 have eW:X'.w=X.w:=by rw[<-hX];rfl
 have eA:X'.A=X.A:=by rw[<-hX];rfl
 have eE:X'.xe=fun _ _=>False:=by rw[<-hX];rfl
 have eC:X'.calm=true:=by rw[<-hX];exact pH
 have eL:X'.env.locals=s3.heap.objs.size:=by rw[<-hX];rfl
 have eS:X'.s₀=s3:=by rw[<-hX];rfl
 have eX:X'.ex=fp:=by rw[<-hX];rfl
 have eF:X'.fs=xN X.stack:=by rw[<-hX];rfl
 have eN:X'.pn=X.pn++pins:=by rw[<-hX];rfl
 have eH:X'.H₀=upd H2 Dd (.lst []):=by rw[<-hX];rfl
 have eV:X'.env=compEnvC scope (vQ X.env.cells scope.names []) s3.heap.objs.size X.env:=by rw[<-hX];rfl
 have Eo:∀{Hx:Hp},(∀b∈fp,Hx b=none)->∀b∈fp,jE X' [] Hx b:=fun{Hx} hn b hb=>by
  obtain⟨_,c1,c2,c3,c4,c5⟩:=f3 b hb
  have q:=I4.ok.LR b (by rw[eX];exact hb)
  refine⟨hn b hb,q.1,I4.ok.wD b (by rw[eX];exact hb),.inl (by rw[eX];exact hb),q.2,fun p hp=>?_⟩
  rw[eN,append_nil]at hp
  exact c5 p hp
 let g':Gh:=⟨g.P os,H2⟩
 have QT:∀{Hx:Hp},aB H2 Hx->Ext (g.P os) (g'.P [Dd]) H2 Hx:=fun sx=>⟨fun a o p e=>⟨.inl p,fun z=>by
  have z':a=Dd:=by simpa using z
  rw[z',CL]at e;cases e⟩,fun a o _ e=>sx a o e⟩
 have MK:Rel X.K g' (dR nt ds) (replicate nt none++vs.map some) (upd H2 Dd (.lst [])) [Dd]:=by
  refine⟨by simp[dR,MJ,Tc],sD,fun i d e=>?_,fun i xs e=>(nM e).elim,fun i j xs ys b e=>(nM e).elim,fun b hb=>?_,fun i w e=>(wX e).elim,yh.none fun i w e=>tU e⟩
  ·obtain⟨h1,h2⟩:=wW e
   obtain⟨v,q1,q2⟩:=hds.get h2
   refine⟨v,?_,Is.ext (QT sD) _ _ q2⟩
   rw[getElem?_append_right (by simpa using h1),getElem?_map,length_replicate,q1]<;>rfl
  ·have e:b=Dd:=by simpa using hb
   subst e
   exact⟨CL,_,ak⟩
 have loop:∀s4:Shared,Inv X' [] (replicate nt none++vs.map some) (upd H2 Dd (.lst [])) s4->tn 0 s4.heap->
   codeAny (model X.prog X.w) X.A (.compLoop (.ListComp elt [⟨tg,iter,ifs,0⟩] scope pos) 0 (.ref it) (.ref Dd) (compEnvC scope (vQ X.env.cells scope.names []) s3.heap.objs.size X.env))
    (compPost (model X.prog X.w) X.A X.xe use Qv (.ref Dd) s3.heap.objs.size) s4:=by
  intro s4 J4 yp
  refine mC (fun n s'=>∃i acc as rest Hx σ',n=xs.length-i/\i<=xs.length/\Inv X' [] σ' Hx s'/\tn i s'.heap/\(∀b∈fp,Hx b=none)/\Hx Dd=some (.lst acc)/\IsL X.K (g'.P [Dd]) Hx as acc/\
   bj b ct fe (dR nt ds) (xs.drop i)=.ok rest/\as++rest=ys/\Rel X.K g' (dR nt ds) σ' Hx [Dd]) ?_ xs.length
   ⟨0,[],[],ys,_,_,by simp,zero_le _,J4,yp,fun b hb=>(f3 b hb).1,ak,rfl,by rw[drop_zero];exact ec,rfl,MK⟩
  rintro n s5 ⟨i,acc,as,rest,Hx,σ5,rfl,XX,J5,Dn,Cv,Hb,ML,c5,e5,r5⟩
  obtain⟨y1,y2⟩:=yl i Hx (g'.P [Dd]) r5.ext (QT r5.ext)
  by_cases hlt:i<xs.length
  ·have hx:xs[i]?=some xs[i]:=getElem?_eq_getElem hlt
   obtain⟨go,y3⟩:=y1 _ hx
   rw[List.drop_eq_getElem_cons hlt]at c5
   obtain⟨e1,Ij,c6⟩:=R.bM (show(b xs[i] (dR nt ds)).bind _=.ok rest from c5)
   obtain⟨t,Pf,c7⟩:=R.bM c6
   have TI:=T.item X' eP eW eK eC i [] s5 σ5 Hx (fun _ _=>False) J5 (Eo Cv) Dn go
   rw[eA]at TI
   refine bz TI fun r s6 h6=>?_
   obtain⟨u,rfl,h6⟩:=h6
   refine bz h6 fun _ s7 h7=>?_
   obtain⟨x,H7,J7,rx,hy,Ep,QU⟩:=h7
   obtain⟨CM,hix⟩:=y3 x H7 hy
   have ix:Is X.K (g'.P [Dd]) H7 xs[i] x:=Is.ext ⟨fun a o p _=>p.elim (fun z=>z) fun z=>r5.fresh z,fun _ _ _ z=>z⟩ _ _ hix
   have QV:=J7.pinned (Eo QU) (T.obj _ _ Ep)
   have TG:=J2 _ s7 σ5 H7 x u (fun σ8 H8=>∃e8,b xs[i] (dR nt ds)=.ok e8/\Rel X.K g' e8 σ8 H8 [Dd]/\H8=H7) QV rx ⟨g',dR nt ds,[Dd],xs[i],r5.same CM,ix,kX Ij fun σ8 r8=>⟨e1,Ij,r8,rfl⟩⟩
   rw[eP,eW,eA,eE,eV]at TG
   refine bz TG fun _ s8 h8=>?_
   obtain⟨σ8,H8,J8,e8,QW,r8,Td⟩:=h8
   rw[Td]at J8 r8
   rw[Ij]at QW
   cases QW
   have TT:=zW _ s8 σ8 H7 (fun t' H9=>t'=t/\aB H7 H9) J8 ⟨g',e1,[Dd],r8,kX Pf fun H9 s9=>⟨rfl,s9⟩⟩
   rw[eP,eW,eA,eE,eV]at TT
   refine bz TT fun ok s9 h9=>?_
   obtain⟨H9,J9,rfl,vj⟩:=h9
   obtain⟨ts,hts,Ik⟩:=hb1 ds _ _ Ij
   have tV:∀{σx:St}{Hy:Hp}{sx:Shared},Inv X' ([]++oO fp s7.heap) σx Hy sx->tn (i+1) sx.heap/\∀b∈fp,Hy b=none:=fun{σx Hy sx} Jx=>
    ⟨T.keep _ _ _ Ep fun b hb o e=>(Jx.pin (b,o) (mem_append_right _ (mem_append_right _ (dh hb e)))).1,fun b hb=>by
     obtain⟨o,e,d⟩:=T.obj _ _ Ep b hb
     exact(Jx.pin (b,o) (mem_append_right _ (mem_append_right _ (dh hb e)))).2.1⟩
   cases ok with
   |false=>
    rw[if_neg Bool.false_ne_true]
    have c8:bj b ct fe (dR nt ds) (xs.drop (i+1))=.ok rest:=c7
    obtain⟨k1,k2⟩:=tV J9
    exact⟨xs.length-(i+1),by omega,i+1,acc,as,rest,H9,σ8,rfl,hlt,J9.gZ,k1,k2,vj _ _ (CM _ _ Hb),(ML.same CM).same vj,c8,e5,
     sI r8 hts Ik (.same vj) (r8.ext.trans vj) ⟨_,vj _ _ (CM _ _ Hb)⟩⟩
   |true=>
    rw[if_pos rfl]
    obtain⟨d,Vc,c8⟩:=R.bM (show(fe e1).bind _=.ok rest from c7)
    obtain⟨tW,Vd,c9⟩:=R.bM c8
    have Ve:rest=d::tW:=by cases c9;rfl
    subst Ve
    have TE:=Ha _ s9 σ8 H9 (fun v pI=>aB H9 pI/\Is X.K (g'.P [Dd]) pI d v) J9 ⟨g',e1,[Dd],r8.same vj,kX Vc fun v pI Il Vf=>⟨Il,Vf⟩⟩
    rw[eP,eW,eA,eE,eV]at TE
    refine bz TE fun y Il QX=>?_
    obtain⟨v,pI,QY,rv,wY,iv⟩:=QX
    have Er:pI Dd=some (.lst acc):=wY _ _ (vj _ _ (CM _ _ Hb))
    have Es:IsL X.K (g'.P [Dd]) pI as acc:=((ML.same CM).same vj).same wY
    have TM:=cR (X:=X') _ Il σ8 pI (.ref Dd) [v] (.ref Dd) [y] (fun _ Im=>Im=upd pI Dd (.lst (acc++[v]))) QY rfl (.cons rv .nil) ⟨Dd,acc,v,rfl,rfl,Er,by
     rw[Es.length]
     have:(as++d::tW).length<=sizeLine:=by rw[e5];exact hz
     rw[length_append,length_cons]at this
     omega,rfl⟩
    rw[eP,eW,eA,eE]at TM
    refine bz TM fun _ XY h11=>?_
    obtain⟨v',Im,J3,_,rfl⟩:=h11
    obtain⟨k1,k2⟩:=tV J3
    have QZ:Ext (g'.P [Dd]) (g'.P [Dd]) pI (upd pI Dd (.lst (acc++[v]))):=⟨fun _ _ p _=>p,fun a o p e=>by rw[ah (fun z=>p.2 (by simp[z]))];exact e⟩
    have MM:aB H2 pI:=(r8.ext.trans vj).trans wY
    refine⟨xs.length-(i+1),by omega,i+1,acc++[v],as++[d],tW,_,σ8,rfl,hlt,J3.gZ,k1,k2,ak,IsL.ext QZ _ _ (Es.app (.one iv)),Vd,by rw[List.append_assoc];exact e5,?_⟩
    exact sI (r8.same (vj.trans wY)) hts Ik QZ (fun a o e=>by rw[ah (ao (show H2 a=some o from e) CL)];exact MM a o e) ⟨_,ak⟩
  ·have e:i=xs.length:=by omega
   subst e
   rw[drop_length]at c5
   have Vg:rest=[]:=by cases c5;rfl
   subst Vg
   rw[append_nil]at e5
   subst e5
   have TD:=T.done X' eP eW eK eC xs.length [] s5 σ5 Hx (fun _ _=>False) J5 (Eo Cv) Dn (y2 rfl)
   rw[eA]at TD
   refine bz TD fun r s6 h6=>?_
   obtain⟨rfl,J6⟩:=h6
   obtain⟨m6,Ds,_⟩:=J6.loc
   rw[eL]at Ds
   have Q0:Un (xN X.stack) fp (upd H2 Dd (.lst [])) Hx s3.heap s6.heap:=by
    have u:=J6.base
    rw[eF,eX,eH,eS]at u
    exact u
   have hxC:Hx s3.heap.objs.size=none:=by have:=J6.free;rw[eL]at this;exact this
   have Et:nE X.prog X.w Hx s6.heap:=by
    have z:=J6.hok
    rw[eP,eW]at z
    exact z
   have Q1:s6.os=s3.os:=by have:=J6.os;rw[eS]at this;exact this
   have I6:Inv X pins σ Hx s6:=I3.DD (s':=s6) Q1 Q0 Et J6.bare fun b hb=>by
    obtain⟨_,c1,c2,c3,c4,c5⟩:=f3 b hb
    exact⟨c3,c1,c4,c5⟩
   have fC:jE X pins Hx s3.heap.objs.size:=⟨hxC,(I3.zF (Nat.le_refl _) (I3.hok.fresh (Nat.le_refl _))).2⟩
   refine q Dd s3.heap.objs.size acc Hx s6 I6 ⟨m6,Ds⟩ fC (CK.trans r5.ext) (CK.free CL) Hb (IsL.ext ⟨fun a o p _=>?_,fun _ _ _ z=>z⟩ _ _ ML)
   have z:g.P os a:=p.1.elim (fun z=>z) fun z=>r2.fresh z
   exact⟨z.1,fun hm=>(mem_cons.mp hm).elim (fun z=>p.2 (by simp[z])) z.2⟩
 have yp:tn 0 h₁:=T.keep _ _ _ x6 fun b hb o e=>k3 b o (by rw[Em];exact Heap.get?_push_of_some _ e)
 have eG:({heap:=h₁,gens:=s3.gens,drawn:=s3.drawn,toks:=s2.toks+([]:List (Str×Value)).length,os:=s3.os}:Shared)={heap:=h₁,gens:=s2.gens,drawn:=s2.drawn,toks:=s2.toks+([]:List (Str×Value)).length,os:=s2.os}:=by rw[<-J1]
 rw[eG]at I4
 exact codeAny_compStart_list (loop _ I4 yp) (T.self _ 0 _ _ _ yp (loop _ I4 yp))
variable{elt tg iter:Expr}{ifs:List Expr}{fi:DE->R (List D)}{b:D->DE->R DE}{ct:DE->R Bool}{fe:DE->R D}
theorem mE(S:gO X scope N nt caps)(pH:X.calm=true)(hi:PI X tg iter (Pd X.K E fi))
  (hb1:∀ds d e,b d (dR nt ds)=.ok e->∃ts,e=ts++ds.map .val/\ts.length=nt)
  (hg:∀s H fp C pl,PG (qK X scope N s H fp C pl) tg (tG X.K EN b))(ht:∀s H fp C pl,Pe (qK X scope N s H fp C pl) ifs (tT X.K EN ct))(he:∀s H fp C pl,PE (qK X scope N s H fp C pl) elt (tD X.K EN fe))
  (hs:∀x,foldedSetIterable iter X.env x=pure x:=by intro _;rfl):
  PE X (.ListComp elt [⟨tg,iter,ifs,0⟩] scope pos) (tF X.K E fun env=>(fi env).bind fun xs=>(cM env caps).bind fun ds=>(bj b ct fe (dR nt ds) xs).ne.bind fit):=by
 intro pins s σ H Q I h
 obtain⟨g,env,os,r,m⟩:=h
 rw[eval_ListComp]
 refine Ii S pH hi hb1 hg ht he hs I r (m.mono fun ys _ q Dd C acc Hx s6 I6 hn fC sm hD hx ia=>?_)
 obtain⟨m6,Ds⟩:=hn
 refine⟨m6,Ds,fun h7 Q2=>⟨.ref Dd,Hx,vR (fp:=[C]) (t':=s6.toks) I6 (fun b hb=>by
  have z:b=C:=by simpa using hb
  rw[z];exact fC) (fun b u hb e=>(Q2.2 b (fun z=>hb (by simp[z]))).trans e),rfl,q Dd acc Hx sm hD hx ia⟩⟩
end
section
variable{X:Cx}{pins:List (Addr×Obj)}{σ:St}{H:Hp}{s:Shared}{h':Heap}
theorem Io{fp:List Addr}{t:Addr}{o:HO}{t':Nat}(I:Inv X pins σ H s)(hf:∀b∈fp,jE X pins H b)(k:∀b u,b∉fp->s.heap.get? b=some u->h'.get? b=some u)(hex:∀b∈fp,∀u,s.heap.get? b=some u->∃u',h'.get? b=some u')(ht:s.heap.objs.size<=t)
  (new:cu X.prog X.w (upd H t o) h' t o):Inv X pins σ (upd H t o) {s with heap:=h',toks:=t'}:=by
 have hn:H t=none:=I.hok.fresh ht
 have QP:∀b u,H b=some u->b∉fp:=fun b u e z=>by rw[(hf b z).1]at e;cases e
 refine I.step (g':=s.gens) (d':=s.drawn) (ch:=fp) (fun b hb=>⟨(hf b hb).2.2.2.1,(hf b hb).2.1,(hf b hb).2.2.2.2.1,(hf b hb).2.2.2.2.2⟩) (fun b u _ _ hc e _=>k b u hc e) (fun b u _ _ hc e _=>⟨u.slots,k b u hc e⟩)
  (fun b u _ e n=>by rw[ah (ne_of_lt (lt_of_lt_of_le (Heap.lt_size e) ht))];exact n) (fun b u hc e=>⟨u,k b u hc e⟩)
  (fun b xs e=>by rw[ah (ao e hn)];exact e) (fun b u xs e=>by rw[ah (ao e hn)];exact e) (fun b ps e=>⟨#[],by rw[ah (ao e hn),e];simp⟩)
  (fun m hm=>?_) (fun b u e=>?_) I.bare
 ·obtain⟨ob,es,ep,ho,r⟩:=hm
  exact⟨ob,es,ep,k _ ob (fun z=>(hf _ z).2.1 rfl) ho,r⟩
 ·by_cases hb:b=t
  ·subst hb;rw[ak]at e;cases e;exact new
  ·rw[ah hb]at e
   refine(I.hok b u e).zA (fun c v hc q=>k c v ?_ q) (fun c q=>by rw[ah (ao q hn)];exact q) fun c xs q=>by rw[ah (ao q hn)];exact q
   rcases hc with z|z
   ·rw[z];exact QP b u e
   ·exact QP c _ z
end
def X0(K:PySem.W.Frag)(l:Addr):It:=
 ⟨fun i H=>∃xs x,bW K H l xs/\xs[i]?=some x,fun i H x H'=>∃t y,H t=none/\H'=upd H t (.tup [.int (i:Nat),y])/\x=.ref t/\∀xs,bW K H l xs->xs[i]?=some y,fun i H=>∃xs,bW K H l xs/\xs.length<=i⟩
theorem CN{P:Program}{w:World}{K:PySem.W.Frag}{elts:List Expr}{kk:Nat}{pp:Pos}(l e it:Addr)(hei:e≠it):
  Turn P w K (.Tuple elts kk pp) (X0 K l) [e,it] e (fun i h=>(∃old,IsEnum h e it (i:Nat) old)/\h.IsListIter it l i) where
 mem:=by simp
 obj:=fun i h st b hb=>by
  obtain⟨⟨old,he⟩,o,e2,c,d⟩:=st
  rcases mem_cons.mp hb with rfl|hb
  ·exact⟨_,he,fun v z=>by cases z⟩
  ·have z:b=it:=by simpa using hb
   subst z
   exact⟨o,e2,fun v z=>by rw[d]at z;cases z⟩
 keep:=fun i h h' st k=>by
  obtain⟨⟨old,he⟩,hit⟩:=st
  exact⟨⟨old,k e (by simp) _ he⟩,hit.at fun o q=>k it (by simp) o q⟩
 item:=by
  intro X hP hw hK hc i pins s σ H E I hf st hg
  subst hP hw hK
  obtain⟨xs,x,hq,hx⟩:=hg
  obtain⟨its,rv,p,hz⟩:=I.list hq
  obtain⟨u,hu,ru⟩:=rv.get hx
  obtain⟨⟨old,he⟩,hit⟩:=st
  refine wpAny_pyNext_enum_item he hit p.isList (x:=u) (by simpa using hu) hei fun h' ho zX hT hsz hk=>?_
  refine⟨_,rfl,wpAny_letOwnedTupleGo_enum ho fun X1 Q3 Ip=>?_⟩
  have hlt:e<s.heap.objs.size:=Heap.lt_size he
  have Vh:it<s.heap.objs.size:=by obtain⟨_,z,_⟩:=hit;exact Heap.lt_size z
  have kk:∀b o,b∉[e,it]->s.heap.get? b=some o->X1.get? b=some o:=fun b o hb q=>by
   have h1:b≠e:=fun z=>hb (by simp[z])
   have h2:b≠it:=fun z=>hb (by simp[z])
   exact(Ip.2 b h1).trans (hk b o h1 h2 q)
  have Vi:X1.get? s.heap.objs.size=some {cls:=.type "tuple",data:=.seq #[.int i s.toks,u]}:=(Ip.2 _ (ne_of_gt hlt)).trans hT
  have hn:H s.heap.objs.size=none:=I.hok.fresh (Nat.le_refl _)
  refine⟨.ref s.heap.objs.size,upd H s.heap.objs.size (.tup [.int (i:Nat),x]),?_,rfl,⟨_,x,hn,rfl,rfl,fun ys hy=>by rw[I.o9 hy hq];exact hx⟩,⟨⟨u,by simpa using Q3⟩,zX.at fun o q=>(Ip.2 it hei.symm).trans q⟩,fun b hb=>?_⟩
  ·refine Io (s:=s) I hf kk (fun b hb u hu=>?_) (Nat.le_refl _) ⟨(by show 2<=sizeLine;decide),[.int i s.toks,u],.cons ⟨_,rfl⟩ (.cons ru .nil),⟨_,Vi,rfl,_,rfl⟩⟩
   rcases mem_cons.mp hb with rfl|hb
   ·exact⟨_,Q3⟩
   ·have z:b=it:=by simpa using hb
    subst z
    obtain⟨o,q,_⟩:=zX
    exact⟨o,(Ip.2 b hei.symm).trans q⟩
  ·rw[ah]
   ·exact(hf b hb).1
   ·rcases mem_cons.mp hb with rfl|hb
    ·exact ne_of_lt hlt
    ·have z:b=it:=by simpa using hb
     subst z
     exact ne_of_lt Vh
 done:=by
  intro X hP hw hK hc i pins s σ H E I hf st hg
  subst hP hw hK
  obtain⟨xs,hq,hx⟩:=hg
  obtain⟨its,rv,p,hz⟩:=I.list hq
  obtain⟨⟨old,he⟩,hit⟩:=st
  have hl:=rv.length
  refine wpAny_pyNext_enum_end (I.ok.hd hc) he hit p.isList (by simp;omega) fun h' eb=>⟨rfl,?_⟩
  exact vR (fp:=[e,it]) (t':=s.toks) I hf fun b o hb q=>eb b o (fun z=>hb (by simp[z])) q
 self:=fun _ _ _ _ _ st h=>by
  obtain⟨⟨old,he⟩,_⟩:=st
  exact wpAny_pyIter_enum he h
def X2(K:PySem.W.Frag)(l:Addr)(n:Nat):It:=
 ⟨fun i H=>i<n/\∃xs x,bW K H l xs/\xs.length=n/\xs[n-1-i]?=some x,fun i H x H'=>H'=H/\∀xs,bW K H l xs->xs[n-1-i]?=some x,fun i H=>i=n/\∃xs,bW K H l xs⟩
theorem Eu{P:Program}{w:World}{K:PySem.W.Frag}{tg:Expr}(l it:Addr)(n:Nat):Turn P w K tg (X2 K l n) [it] it (fun i h=>h.IsRevIter it l ((n:Int)-1-(i:Nat))) where
 mem:=by simp
 obj:=fun i h st b hb=>by
  have z:b=it:=by simpa using hb
  subst z
  obtain⟨o,e,c,d⟩:=st
  exact⟨o,e,fun v z=>by rw[d]at z;cases z⟩
 keep:=fun i h h' st k=>st.at fun o e=>k it (by simp) o e
 item:=by
  intro X hP hw hK hc i pins s σ H E I hf st hg
  subst hP hw hK
  obtain⟨hin,xs,x,hq,hl,hx⟩:=hg
  obtain⟨its,rv,p,hz⟩:=I.list hq
  obtain⟨u,hu,ru⟩:=rv.get hx
  have e1:(n:Int)-1-(i:Nat)=((n-1-i:Nat):Int):=by omega
  rw[e1]at st
  refine wpAny_pyNext_rev_item st p.isList (x:=u) (by simpa using hu) fun h' HB sb=>?_
  have I1:Inv X pins σ H {s with heap:=h'}:=vR (fp:=[it]) (t':=s.toks) I hf fun b o hb q=>(sb.2 b (fun z=>hb (by simp[z]))).trans q
  obtain⟨o,e,c,d⟩:=id HB
  have e2:((n-1-i:Nat):Int)-1=(n:Int)-1-((i+1:Nat):Int):=by omega
  rw[e2]at HB
  exact⟨u,rfl,DM (s:={s with heap:=h'}) e c d (by decide) ⟨x,H,I1,ru,⟨rfl,fun ys hy=>by rw[I.o9 hy hq];exact hx⟩,HB,fun b hb=>(hf b hb).1⟩⟩
 done:=by
  intro X hP hw hK hc i pins s σ H E I hf st hg
  subst hP hw hK
  obtain⟨rfl,xs,hq⟩:=hg
  have e1:(i:Int)-1-(i:Nat)= -1:=by omega
  rw[e1]at st
  exact wpAny_pyNext_rev_end (I.ok.hd hc) st fun h' eb=>⟨rfl,vR (fp:=[it]) (t':=s.toks) I hf fun b o hb q=>eb b o (fun z=>hb (by simp[z])) q⟩
 self:=fun _ _ _ _ _ st h=>wpAny_pyIter_revIter st h
section
variable{X:Cx}{E:Str->Hp->Prop}{pos:Pos}
def du(xs:List D):List D:=xs.zipIdx.map fun p=>.tup [.int (p.2:Nat),p.1]
theorem qL{xs:List D}{i:Nat}{d:D}(h:(du xs)[i]?=some d):∃x,xs[i]?=some x/\d=.tup [.int (i:Nat),x]:=by
 unfold du at h
 rw[getElem?_map,List.getElem?_zipIdx]at h
 cases q:xs[i]? with
 |none=>rw[q]at h;cases h
 |some x=>
  rw[q]at h
  refine⟨x,rfl,?_⟩
  have h':some (D.tup [.int ((0+i:Nat):Int),x])=some d:=h
  rw[zero_add]at h'
  exact(Option.some.inj h').symm
theorem iE{a:Expr}{elts:List Expr}{kk:Nat}{pp p:Pos}{f:DE->R D}(hm:X.mg "enumerate"=none)(ha:PE X a (tD X.K E f))(hg:Gl X "enumerate":=by rfl)(hs:starEach [a] X.env=[(false,eval a X.env)]:=by rfl):
  PI X (.Tuple elts kk pp) (.Call (.Name "enumerate" p) [a] [] pos) (tI X.K E fun env=>(f env).bind fun d=>(qG d).bind fun xs=>.ok (du xs)):=by
 intro pins s σ H Rr I h
 obtain⟨g,env,os,r,m⟩:=h
 have Q4:PA X [a] (D9 X.K E fun env=>(f env).bind fun x=>(R.ok []).bind fun xs=>.ok (x::xs)):=aG ha cj hs
 refine Call_ (dN I hg hm boot_enumerate (PyProof.Rows.callWith_type1 (bz (Q4 pos pins s σ H (fun vs H1=>aB H H1/\∃d,f env=.ok d/\∃v,vs=[v]/\Is X.K (g.P os) H1 d v/\Good E g.H₀ ((qG d).bind fun xs=>.ok (du xs)) (fun xs=>∀J H1,aB H H1->Yl X.K (g.P os) J H1 xs->Rr J H1)) I
  ⟨g,env,os,r,?_⟩) fun us s1 ⟨vs,H1,I1,r1,q1⟩=>?_) hs rfl))
 ·exact Good.A0 m.bind (fun d e q=>by
   show Good E g.H₀ (R.ok [d]) _
   exact fun vs H' s' i'=>by
    obtain⟨v,rfl,iv⟩:=IsL.vh i'
    exact⟨s',d,e,v,rfl,iv,q⟩)
 ·obtain⟨Vj,d,_,v,rfl,iv,q⟩:=q1
  cases d with
  |lst xs=>
   obtain⟨l,ws,rfl,h1,h2⟩:=iv
   obtain⟨u,rfl,ru⟩:=vals1 r1
   cases ru
   obtain⟨its,rv,pl,hz⟩:=I1.list h1.sq
   refine call_enumerate_list pl.isList fun h' he hit hsz hk=>?_
   refine wpAny_pyIter_enum he ?_
   have I2:Inv X pins σ H1 {s1 with heap:=h'}:=I1.kept (t':=s1.toks) hk
   have f1:∀b∈[s1.heap.objs.size+1,s1.heap.objs.size],jE X pins H1 b:=fun b hb=>by
    have Hc:s1.heap.objs.size<=b:=by
     simp only [mem_cons,not_mem_nil,or_false]at hb
     rcases hb with rfl|rfl<;>omega
    exact I1.zF Hc (I1.hok.fresh Hc)
   refine⟨s1.heap.objs.size+1,[s1.heap.objs.size+1,s1.heap.objs.size],_,X0 X.K l,H1,rfl,I2,CN l _ _ (ne_of_gt (lt_succ_self _)),⟨⟨_,he⟩,hit⟩,f1,?_⟩
   refine(show∀J H1,aB H H1->Yl X.K (g.P os) J H1 (du xs)->Rr J H1 from q) _ H1 Vj fun i H' P' ex=>⟨fun d hd=>?_,fun hi=>?_⟩
   ·obtain⟨x,hx,rfl⟩:=qL hd
    obtain⟨y,hy,iy⟩:=(IsL.ext ex _ _ h2).get hx
    refine⟨⟨ws,y,(h1.ext ex).sq,hy⟩,fun z H2 Vk=>?_⟩
    obtain⟨t,y',ht,rfl,rfl,hall⟩:=Vk
    have e2:=hall ws (h1.ext ex).sq
    rw[hy]at e2
    cases e2
    refine⟨aD ht _,t,_,rfl,.inl ⟨.inr ht,.inl ak⟩,IsL.cons rfl (IsL.one (Is.ext ⟨fun _ _ p _=>.inl p,fun a o _ e=>aD ht _ a o e⟩ _ _ iy))⟩
   ·refine⟨ws,(h1.ext ex).sq,?_⟩
    rw[IsL.length h2]
    refine le_of_eq ?_
    have:(du xs).length=xs.length:=by simp[du]
    omega
  |non=>exact q.elim
  |bl _=>exact q.elim
  |int _=>exact q.elim
  |str _=>exact q.elim
  |exc _=>exact q.elim
  |fn _=>exact q.elim
  |tup _=>exact q.elim
theorem mG:bootBuiltins "reversed"=some (.type "reversed"):=by decide +kernel
theorem iV{a tg:Expr}{p:Pos}{f:DE->R D}(hm:X.mg "reversed"=none)(ha:PE X a (tD X.K E f))(hg:Gl X "reversed":=by rfl)(hs:starEach [a] X.env=[(false,eval a X.env)]:=by rfl):
  PI X tg (.Call (.Name "reversed" p) [a] [] pos) (tI X.K E fun env=>(f env).bind fun d=>(qG d).bind fun xs=>.ok xs.reverse):=by
 intro pins s σ H Rr I h
 obtain⟨g,env,os,r,m⟩:=h
 have Q4:PA X [a] (D9 X.K E fun env=>(f env).bind fun x=>(R.ok []).bind fun xs=>.ok (x::xs)):=aG ha cj hs
 refine Call_ (dN I hg hm mG (PyProof.Rows.callWith_type1 (bz (Q4 pos pins s σ H (fun vs H1=>aB H H1/\∃d,f env=.ok d/\∃v,vs=[v]/\Is X.K (g.P os) H1 d v/\Good E g.H₀ ((qG d).bind fun xs=>.ok xs.reverse) (fun xs=>∀J H1,aB H H1->Yl X.K (g.P os) J H1 xs->Rr J H1)) I
  ⟨g,env,os,r,?_⟩) fun us s1 ⟨vs,H1,I1,r1,q1⟩=>?_) hs rfl))
 ·exact Good.A0 m.bind (fun d e q=>by
   show Good E g.H₀ (R.ok [d]) _
   exact fun vs H' s' i'=>by
    obtain⟨v,rfl,iv⟩:=IsL.vh i'
    exact⟨s',d,e,v,rfl,iv,q⟩)
 ·obtain⟨Vj,d,_,v,rfl,iv,q⟩:=q1
  cases d with
  |lst xs=>
   obtain⟨l,ws,rfl,h1,h2⟩:=iv
   obtain⟨u,rfl,ru⟩:=vals1 r1
   cases ru
   obtain⟨its,rv,pl,hz⟩:=I1.list h1.sq
   have hl:=rv.length
   have hl2:ws.length=xs.length:=IsL.length h2
   refine call_reversed_list pl.isList ?_
   have e0:((its.toArray.size:Nat):Int)-1=(xs.length:Int)-1:=by rw[size_toArray];omega
   rw[e0]
   have hit:({s1 with heap:=s1.heap.push (PySem.revObj l ((xs.length:Int)-1))}:Shared).heap.IsRevIter s1.heap.objs.size l ((xs.length:Int)-1):=⟨_,Heap.get?_push_size _ rfl,rfl,rfl⟩
   refine wpAny_pyIter_revIter hit ?_
   have I2:Inv X pins σ H1 {s1 with heap:=s1.heap.push (PySem.revObj l ((xs.length:Int)-1))}:=I1.kept (t':=s1.toks) fun b o e=>Heap.get?_push_of_some _ e
   have f1:∀b∈[s1.heap.objs.size],jE X pins H1 b:=fun b hb=>by
    have z:b=s1.heap.objs.size:=by simpa using hb
    subst z
    exact I1.zF (Nat.le_refl _) (I1.hok.fresh (Nat.le_refl _))
   refine⟨_,[s1.heap.objs.size],_,X2 X.K l xs.length,H1,rfl,I2,Eu l _ xs.length,?_,f1,?_⟩
   ·have e1:(xs.length:Int)-1-((0:Nat):Int)=(xs.length:Int)-1:=by omega
    rw[e1];exact hit
   refine(show∀J H1,aB H H1->Yl X.K (g.P os) J H1 xs.reverse->Rr J H1 from q) _ H1 Vj fun i H' P' ex=>⟨fun d hd=>?_,fun hi=>?_⟩
   ·have hi:i<xs.length:=by
     have:=(List.getElem?_eq_some_iff.mp hd).1
     simpa using this
    rw[getElem?_reverse hi]at hd
    obtain⟨y,hy,iy⟩:=(IsL.ext ex _ _ h2).get hd
    refine⟨⟨hi,ws,y,(h1.ext ex).sq,hl2,hy⟩,fun z H2 Vk=>?_⟩
    obtain⟨rfl,hall⟩:=Vk
    have e2:=hall ws (h1.ext ex).sq
    rw[hy]at e2
    cases e2
    exact⟨aB.refl _,Is.ext ⟨fun _ _ p _=>.inl p,fun _ _ _ e=>e⟩ _ _ iy⟩
   ·exact⟨by simpa using hi.symm,ws,(h1.ext ex).sq⟩
  |non=>exact q.elim
  |bl _=>exact q.elim
  |int _=>exact q.elim
  |str _=>exact q.elim
  |exc _=>exact q.elim
  |fn _=>exact q.elim
  |tup _=>exact q.elim
end
def wZ:D->String
 |.non=>"NoneType"
 |.bl _=>"bool"
 |.int _=>"int"
 |.str _=>"str"
 |.lst _=>"list"
 |.tup _=>"tuple"
 |.exc _=>"tuple"
 |.fn _=>"tuple"
def jg(t T:String):Bool:=t==T||(t=="bool"&&T=="int")
def yq(t T:String):Option Bool:=if((Value.type t)==(Value.type T))=true then some true else if PySem.W.kitMeta T=true then(fastBuiltinMro t).map (·.contains (.type T))else none
theorem Ir(K:PySem.W.Frag)(t T:String):kitOne K (.type t) (.type T)=yq t T:=rfl
def zY(T:String):Prop:=∀d:D,yq (wZ d) T=some (jg (wZ d) T)
theorem sJ{T:String}(h:yq "NoneType" T=some (jg "NoneType" T)/\yq "bool" T=some (jg "bool" T)/\yq "int" T=some (jg "int" T)/\yq "str" T=some (jg "str" T)/\yq "list" T=some (jg "list" T)/\yq "tuple" T=some (jg "tuple" T)):zY T:=fun d=>by
 cases d with
 |non=>exact h.1
 |bl _=>exact h.2.1
 |int _=>exact h.2.2.1
 |str _=>exact h.2.2.2.1
 |lst _=>exact h.2.2.2.2.1
 |tup _=>exact h.2.2.2.2.2
 |exc _=>exact h.2.2.2.2.2
 |fn _=>exact h.2.2.2.2.2
theorem Ew:zY "int":=sJ (by decide +kernel)
theorem A9:zY "bool":=sJ (by decide +kernel)
theorem Ba:zY "list":=sJ (by decide +kernel)
theorem Ex:zY "tuple":=sJ (by decide +kernel)
section
variable{X:Cx}{E:Str->Hp->Prop}{pos:Pos}
theorem MN{pins:List (Addr×Obj)}{σ:St}{H:Hp}{s:Shared}{A:Around}{E:Value->Shared->Prop}{Q:Value->Shared->Prop}{d:D}{x:V}{u:Value}{T:String}{P:Addr->Prop}(I:Inv X pins σ H s)(rx:RelV x u)(hd:Is X.K P H d x)(hne:∀n,d≠.exc n/\d≠.fn n)(kt:zY T)(h:∀tk,Q (.bool (jg (wZ d) T)) {s with toks:=tk}):
  wpAny (model X.prog X.w) A (call (.builtin "isinstance") [u,.type T]) Q E s:=by
 have e:kitOne X.K (.type (wZ d)) (.type T)=some (jg (wZ d) T):=(Ir _ _ _).trans (kt d)
 cases d with
 |non=>cases hd;exact nH I rx .non e h
 |bl b=>cases hd;exact nH I rx (.bl b) e h
 |int b=>cases hd;exact nH I rx (.int b) e h
 |str b=>cases hd;exact nH I rx (.str b) e h
 |lst ds=>
  obtain⟨a,vs,rfl,h1,h2⟩:=hd
  cases rx
  obtain⟨its,rv,⟨o,n,e1,c1,d1,t1⟩,hz⟩:=I.list h1.sq
  exact kia_one kitx_list I.qt ⟨o,e1,c1⟩ e (fun z=>nomatch z) h
 |tup ds=>
  obtain⟨a,vs,rfl,h1,h2⟩:=hd
  cases rx
  obtain⟨its,rv,⟨o,e1,c1,d1⟩,hz⟩:=I.tuple h1.sq
  exact kia_one kitx_tuple I.qt ⟨o,e1,c1⟩ e (fun z=>nomatch z) h
 |exc n=>exact((hne n).1 rfl).elim
 |fn n=>exact((hne n).2 rfl).elim
def zZ(T:String)(d:D):R D:=match d with
 |.exc _=>.bad
 |.fn _=>.bad
 |d=>.ok (.bl (jg (wZ d) T))
theorem MO{T:String}{d:D}(h:∀n,d≠.exc n/\d≠.fn n):zZ T d=.ok (.bl (jg (wZ d) T)):=by
 cases d with
 |exc n=>exact((h n).1 rfl).elim
 |fn n=>exact((h n).2 rfl).elim
 |_=>rfl
theorem vk:bootBuiltins "isinstance"=some (.builtin "isinstance"):=by decide +kernel
theorem Ey:bootBuiltins "int"=some (.type "int"):=by decide +kernel
theorem Bb:bootBuiltins "bool"=some (.type "bool"):=by decide +kernel
theorem jK:bootBuiltins "list"=some (.type "list"):=by decide +kernel
theorem yr:bootBuiltins "tuple"=some (.type "tuple"):=by decide +kernel
theorem dQ:bootBuiltins "len"=some (.builtin "len"):=by decide +kernel
theorem z0:bootBuiltins "abs"=some (.builtin "abs"):=by decide +kernel
theorem MP:bootBuiltins "max"=some (.builtin "max"):=by decide +kernel
theorem z4{T:String}{x:Str}{p p2:Pos}{a:Expr}{f:DE->R D}(kt:zY T)(hv:bootBuiltins x=some (.type T))(hm:X.mg "isinstance"=none)(hmt:X.mg x=none)(ha:PE X a (tB X.K E f))(hg:Gl X "isinstance":=by rfl)(Z3:Gl X x:=by rfl)
  (hn:x≠"__name__":=by decide)(hdb:(x==("__debug__":Str))=false:=by decide)
  (hs:starEach [a,.Name x p2] X.env=(false,eval a X.env)::starEach [.Name x p2] X.env:=by rfl)(hpl:(backTo pos (starEach [.Name x p2] X.env)).any (·.1)=false:=by rfl)(hs2:starEach [.Name x p2] X.env=(false,eval (.Name x p2) X.env)::starEach [] X.env:=by rfl):
  PE X (.Call (.Name "isinstance" p) [a,.Name x p2] [] pos) (tD X.K E fun env=>(f env).bind (zZ T)):=by
 have hty:PE X (.Name x p2) (tC (.ty T)):=Hw Z3 hmt hv rfl hn hdb
 refine imp (g4 (r:=fun xs H Q=>∃d v,xs=[v,.ty T]/\(∀n,d≠.exc n/\d≠.fn n)/\Is X.K Tr H d v/\Q (.bl (jg (wZ d) T)) H) ?_ hg hm vk (au ha (au hty aC hs2) hs) (by decide) (by decide) hs hpl) fun σ H Q ⟨g,env,os,r,m⟩=>⟨g,env,os,r,m.bind.mono fun d _ q v H' s i=>?_⟩
 ·intro pins s σ H xs us Q I r h
  obtain⟨d,v,rfl,hne,hd,q⟩:=h
  obtain⟨u,w,rfl,ru,mr⟩:=vals2 r
  have e:w=.type T:=mr
  subst e
  exact MN I ru hd hne kt fun tk=>⟨.bl _,H,I.tok _,rfl,q⟩
 ·by_cases hne:∀n,d≠.exc n/\d≠.fn n
  ·rw[MO hne]at q
   exact⟨d,v,rfl,hne,i,q _ H' s rfl⟩
  ·cases d with
   |exc n=>exact q.elim
   |fn n=>exact q.elim
   |_=>exact(hne fun n=>⟨fun z=>(nomatch z),fun z=>(nomatch z)⟩).elim
def bools:List D->Option (List Bool)
 |[]=>some []
 |.bl b::r=>(bools r).map (b::·)
 |_::_=>none
end
def Pg:D->D->Option Bool
 |.non,.non=>some true
 |.bl a,.bl b=>some (a==b)
 |.int a,.int b=>some (a==b)
 |.str a,.str b=>some (a==b)
 |.bl a,.int b=>some ((if a then 1 else 0)==b)
 |.int a,.bl b=>some (a==(if b then 1 else 0))
 |.non,.bl _=>some false
 |.non,.int _=>some false
 |.non,.str _=>some false
 |.bl _,.non=>some false
 |.bl _,.str _=>some false
 |.int _,.non=>some false
 |.int _,.str _=>some false
 |.str _,.non=>some false
 |.str _,.bl _=>some false
 |.str _,.int _=>some false
 |_,_=>none
def pJ(f:D->D->Option Bool):List D->List D->Option Bool
 |x::xs,y::ys=>(f x y).bind fun b=>(pJ f xs ys).map (b&&·)
 |_,_=>some true
def tX:Nat->D->D->Option Bool
 |0,x,y=>Pg x y
 |n+1,x,y=>match x,y with
  |.lst xs,.lst ys=>if xs.length=ys.length then pJ (tX n) xs ys else some false
  |.tup xs,.tup ys=>(pJ (tX n) xs ys).map (·&&xs.length==ys.length)
  |x,y=>Pg x y
def MQ(f:D->D->Option Bool)(xs ys:List D)(j:Nat):Bool:=((xs[j]?).bind fun x=>(ys[j]?).bind fun y=>f x y).getD false
theorem tY(n:Nat)(e:Nat->Bool):(range (n+1)).all e=(e 0&&(range n).all fun j=>e (j+1)):=by
 rw[List.range_succ_eq_map,List.all_cons,List.all_map]
 rfl
theorem qM{f:D->D->Option Bool}:∀{xs ys:List D}{b:Bool},pJ f xs ys=some b->(∀(j:Nat)(x y:D),xs[j]?=some x->ys[j]?=some y->f x y=some (MQ f xs ys j))/\b=(range (min xs.length ys.length)).all (MQ f xs ys)
 |[],ys,b,h=>by
  have h':some true=some b:=by cases ys<;>exact h
  cases h'
  exact⟨fun j x y e=>by simp at e,by simp⟩
 |x::xs,[],b,h=>by
  cases h
  exact⟨fun j x y _ e=>by simp at e,by simp⟩
 |x::xs,y::ys,b,h=>by
  unfold pJ at h
  cases e1:f x y with
  |none=>rw[e1]at h;cases h
  |some c=>
   cases e2:pJ f xs ys with
   |none=>rw[e1,e2]at h;cases h
   |some d=>
    rw[e1,e2]at h
    have h':(c&&d)=b:=Option.some.inj h
    obtain⟨q1,q2⟩:=qM e2
    refine⟨fun j x' y' h1 h2=>?_,?_⟩
    ·cases j with
     |zero=>
      simp at h1 h2
      subst h1 h2
      show f x y=some (((some x).bind fun x=>(some y).bind fun y=>f x y).getD false)
      simp[e1]
     |succ j=>exact q1 j x' y' (by simpa using h1) (by simpa using h2)
    ·have e3:min (x::xs).length (y::ys).length=min xs.length ys.length+1:=by simp[Nat.succ_min_succ]
     rw[e3,tY,<-h',q2]
     have e4:MQ f (x::xs) (y::ys) 0=c:=by
      show(((some x).bind fun x=>(some y).bind fun y=>f x y).getD false)=c
      simp[e1]
     rw[e4];rfl
section
variable{X:Cx}{pins:List (Addr×Obj)}{σ:St}{H:Hp}{s:Shared}
theorem Ez{A:Around}{P:Addr->Prop}{x y:D}{v w:V}{u u':Value}{b:Bool}(hx:Is X.K P H x v)(hy:Is X.K P H y w)(rv:RelV v u)(mr:RelV w u')(e:Pg x y=some b):SeqAt.EqAt A s u u' b/\SeqAt.RcAt A s u u' b/\SeqAt.RcNeAt A s u u' (!b):=by
 unfold Pg at e
 split at e<;>first|cases e|skip
 ·cases hx;cases hy;cases rv;cases mr;exact⟨.same _,.none_none,.none_none⟩
 ·cases hx;cases hy;cases rv;cases mr;exact⟨.bool_bool _ _,.bool_bool _ _,.bool_bool _ _⟩
 ·cases hx;cases hy;obtain⟨t,rfl⟩:=rv;obtain⟨t',rfl⟩:=mr;exact⟨.int_int _ _ _ _,.int_int _ _ _ _,.int_int _ _ _ _⟩
 ·cases hx;cases hy;obtain⟨t,rfl⟩:=rv;obtain⟨t',rfl⟩:=mr;exact⟨.str_str _ _ _ _,.str_str _ _ _ _,.str_str _ _ _ _⟩
 ·cases hx;cases hy;cases rv;obtain⟨t',rfl⟩:=mr;exact⟨.bool_int _ _ _,.bool_int _ _ _,.bool_int _ _ _⟩
 ·cases hx;cases hy;obtain⟨t,rfl⟩:=rv;cases mr;exact⟨.int_bool _ _ _,.int_bool _ _ _,.int_bool _ _ _⟩
 ·cases hx;cases hy;cases rv;cases mr;exact⟨.none_bool _,.none_bool _,.none_bool _⟩
 ·cases hx;cases hy;cases rv;obtain⟨t',rfl⟩:=mr;exact⟨.none_int _ _,.none_int _ _,.none_int _ _⟩
 ·cases hx;cases hy;cases rv;obtain⟨t',rfl⟩:=mr;exact⟨.none_str _ _,.none_str _ _,.none_str _ _⟩
 ·cases hx;cases hy;cases rv;cases mr;exact⟨.bool_none _,.bool_none _,.bool_none _⟩
 ·cases hx;cases hy;cases rv;obtain⟨t',rfl⟩:=mr;exact⟨.bool_str _ _ _,.bool_str _ _ _,.bool_str _ _ _⟩
 ·cases hx;cases hy;obtain⟨t,rfl⟩:=rv;cases mr;exact⟨.int_none _ _,.int_none _ _,.int_none _ _⟩
 ·cases hx;cases hy;obtain⟨t,rfl⟩:=rv;obtain⟨t',rfl⟩:=mr;exact⟨.int_str _ _ _ _,.int_str _ _ _ _,.int_str _ _ _ _⟩
 ·cases hx;cases hy;obtain⟨t,rfl⟩:=rv;cases mr;exact⟨.str_none _ _,.str_none _ _,.str_none _ _⟩
 ·cases hx;cases hy;obtain⟨t,rfl⟩:=rv;cases mr;exact⟨.str_bool _ _ _,.str_bool _ _ _,.str_bool _ _ _⟩
 ·cases hx;cases hy;obtain⟨t,rfl⟩:=rv;obtain⟨t',rfl⟩:=mr;exact⟨.str_int _ _ _ _,.str_int _ _ _ _,.str_int _ _ _ _⟩
theorem yt{P:Addr->Prop}{x y:D}{v:V}{b:Bool}(hx:Is X.K P H x v)(hy:Is X.K P H y v)(e:Pg x y=some b):b=true:=by
 unfold Pg at e
 split at e<;>first|cases e|skip
 all_goals cases hx
 all_goals cases hy
 all_goals simp
theorem tZ{P:Addr->Prop}{f:D->D->Option Bool}:∀{xs ys:List D}{vs:List V}{b:Bool},(∀x y v b,Is X.K P H x v->Is X.K P H y v->f x y=some b->b=true)->IsL X.K P H xs vs->IsL X.K P H ys vs->pJ f xs ys=some b->b=true/\xs.length=ys.length
 |[],ys,vs,b,_,hx,hy,e=>by
  have e':vs=[]:=hx
  subst e'
  have:=IsL.length hy
  cases ys with
  |nil=>cases e;exact⟨rfl,rfl⟩
  |cons _ _=>simp at this
 |x::xs,[],vs,b,_,hx,hy,e=>by
  have:=IsL.length hx
  have e':vs=[]:=hy
  subst e'
  simp at this
 |x::xs,y::ys,vs,b,hf,⟨v,r,e1,p1,q1⟩,⟨v',r',e2,p2,q2⟩,e=>by
  subst e1
  cases e2
  unfold pJ at e
  cases h1:f x y with
  |none=>rw[h1]at e;cases e
  |some c=>
   cases h2:pJ f xs ys with
   |none=>rw[h1,h2]at e;cases e
   |some d=>
    rw[h1,h2]at e
    have e':(c&&d)=b:=Option.some.inj e
    obtain⟨z1,z2⟩:=tZ hf q1 q2 h2
    have z3:=hf x y v c p1 p2 h1
    subst z1 z3 e'
    exact⟨rfl,by simp[z2]⟩
theorem pK(I:Inv X pins σ H s){P:Addr->Prop}:∀(n:Nat)(x y:D)(v:V)(b:Bool),Is X.K P H x v->Is X.K P H y v->tX n x y=some b->b=true
 |0,x,y,v,b,hx,hy,e=>yt hx hy e
 |n+1,x,y,v,b,hx,hy,e=>by
  unfold tX at e
  split at e
  ·rename_i xs ys
   obtain⟨a,vs,rfl,h1,h2⟩:=hx
   obtain⟨a',A5,ea,h3,h4⟩:=hy
   cases ea
   have ev:=I.o9 h1.sq h3.sq
   subst ev
   split at e
   ·exact(tZ (pK I n) h2 h4 e).1
   ·rename_i c
    exact absurd ((IsL.length h2).symm.trans (IsL.length h4)) c
  ·rename_i xs ys
   obtain⟨a,vs,rfl,h1,h2⟩:=hx
   obtain⟨a',A5,ea,h3,h4⟩:=hy
   cases ea
   have ev:=I.Cp h1.sq h3.sq
   subst ev
   cases ez:pJ (tX n) xs ys with
   |none=>rw[ez]at e;cases e
   |some c=>
    rw[ez]at e
    obtain⟨z1,z2⟩:=tZ (pK I n) h2 h4 ez
    subst z1
    have e':(true&&(xs.length==ys.length))=b:=Option.some.inj e
    rw[<-e',z2];simp
  ·exact yt hx hy e
theorem in1_units(A:Around):A.in1.units=A.units+1:=rfl
theorem Bc(I:Inv X pins σ H s){P:Addr->Prop}:∀(n:Nat)(A:Around)(x y:D)(v w:V)(u u':Value)(b:Bool),A.units+n<cLine->Is X.K P H x v->Is X.K P H y w->RelV v u->RelV w u'->tX n x y=some b->SeqAt.EqAt A s u u' b/\SeqAt.RcAt A s u u' b/\SeqAt.RcNeAt A s u u' (!b)
 |0,A,x,y,v,w,u,u',b,hu,hx,hy,rv,mr,e=>Ez hx hy rv mr e
 |n+1,A,x,y,v,w,u,u',b,hu,hx,hy,rv,mr,e=>by
  have e0:=e
  unfold tX at e
  have hu1:A.in1.units+n<cLine:=by rw[in1_units];omega
  have Ph:A.units<cLine:=by omega
  split at e
  ·rename_i xs ys
   have Vl:=hx
   have Vm:=hy
   obtain⟨a,vs,rfl,h1,h2⟩:=hx
   obtain⟨a',A5,rfl,h3,h4⟩:=hy
   cases rv
   cases mr
   obtain⟨its,Q5,pl,hz⟩:=I.list h1.sq
   obtain⟨its',EA,MR,Te⟩:=I.list h3.sq
   have l1:=Q5.length
   have l2:=EA.length
   have l3:vs.length=xs.length:=IsL.length h2
   have l4:A5.length=ys.length:=IsL.length h4
   have main:SeqAt.RcAt A s (.ref a) (.ref a') b/\SeqAt.RcNeAt A s (.ref a) (.ref a') (!b):=by
    split at e
    ·rename_i c
     obtain⟨q1,q2⟩:=qM e
     have hsz:its.toArray.size=its'.toArray.size:=by simp;omega
     have Vn:min xs.length ys.length=its.toArray.size:=by simp;omega
     rw[Vn]at q2
     subst q2
     have he:∀j (g1:j<its.toArray.size)(g2:j<its'.toArray.size),SeqAt.EqAt A.in1 s its.toArray[j] its'.toArray[j] (MQ (tX n) xs ys j):=fun j g1 g2=>by
      have j1:j<xs.length:=by simp at g1;omega
      have j2:j<ys.length:=by simp at g2;omega
      have f:=q1 j _ _ (getElem?_eq_getElem j1) (getElem?_eq_getElem j2)
      obtain⟨v1,hv1,Hd⟩:=IsL.get h2 (getElem?_eq_getElem j1)
      obtain⟨v2,hv2,He⟩:=IsL.get h4 (getElem?_eq_getElem j2)
      obtain⟨u1,MS,Vo⟩:=Q5.get hv1
      obtain⟨u2,MT,Vp⟩:=EA.get hv2
      have E1:its.toArray[j]=u1:=by
       have:=List.getElem?_eq_some_iff.mp MS
       obtain⟨_,h⟩:=this
       simpa using h
      have E2:its'.toArray[j]=u2:=by
       have:=List.getElem?_eq_some_iff.mp MT
       obtain⟨_,h⟩:=this
       simpa using h
      rw[E1,E2]
      exact(Bc I n A.in1 _ _ _ _ _ _ _ hu1 Hd He Vo Vp f).1
     exact⟨SeqAt.RcAt.lists pl.isList MR.isList hsz Ph he,SeqAt.RcNeAt.lists pl.isList MR.isList hsz Ph he⟩
    ·rename_i c
     cases e
     have hsz:(its.toArray.size !=its'.toArray.size)=true:=by simp;omega
     exact⟨SeqAt.RcAt.lists_lengths pl.isList MR.isList hsz Ph,SeqAt.RcNeAt.lists_lengths pl.isList MR.isList hsz Ph⟩
   refine⟨?_,main⟩
   by_cases ha:a=a'
   ·subst ha
    have:=pK I (n+1) _ _ _ _ Vl Vm e0
    subst this
    exact .same _
   ·exact .of_refs ha main.1
  ·rename_i xs ys
   have Vl:=hx
   have Vm:=hy
   obtain⟨a,vs,rfl,h1,h2⟩:=hx
   obtain⟨a',A5,rfl,h3,h4⟩:=hy
   cases rv
   cases mr
   obtain⟨its,Q5,pl,hz⟩:=I.tuple h1.sq
   obtain⟨its',EA,MR,Te⟩:=I.tuple h3.sq
   have l1:=Q5.length
   have l2:=EA.length
   have l3:vs.length=xs.length:=IsL.length h2
   have l4:A5.length=ys.length:=IsL.length h4
   have main:SeqAt.RcAt A s (.ref a) (.ref a') b/\SeqAt.RcNeAt A s (.ref a) (.ref a') (!b):=by
    cases ez:pJ (tX n) xs ys with
    |none=>rw[ez]at e;cases e
    |some c=>
     rw[ez]at e
     obtain⟨q1,q2⟩:=qM ez
     have s1:xs.length=its.toArray.size:=by simp;omega
     have s2:ys.length=its'.toArray.size:=by simp;omega
     have e':(c&&(xs.length==ys.length))=b:=Option.some.inj e
     rw[q2]at e'
     have he:∀j (g1:j<its.toArray.size)(g2:j<its'.toArray.size),SeqAt.EqAt A.in1 s its.toArray[j] its'.toArray[j] (MQ (tX n) xs ys j):=fun j g1 g2=>by
      have j1:j<xs.length:=by simp at g1;omega
      have j2:j<ys.length:=by simp at g2;omega
      have f:=q1 j _ _ (getElem?_eq_getElem j1) (getElem?_eq_getElem j2)
      obtain⟨v1,hv1,Hd⟩:=IsL.get h2 (getElem?_eq_getElem j1)
      obtain⟨v2,hv2,He⟩:=IsL.get h4 (getElem?_eq_getElem j2)
      obtain⟨u1,MS,Vo⟩:=Q5.get hv1
      obtain⟨u2,MT,Vp⟩:=EA.get hv2
      have E1:its.toArray[j]=u1:=by
       have:=List.getElem?_eq_some_iff.mp MS
       obtain⟨_,h⟩:=this
       simpa using h
      have E2:its'.toArray[j]=u2:=by
       have:=List.getElem?_eq_some_iff.mp MT
       obtain⟨_,h⟩:=this
       simpa using h
      rw[E1,E2]
      exact(Bc I n A.in1 _ _ _ _ _ _ _ hu1 Hd He Vo Vp f).1
     subst e'
     have R1:=SeqAt.RcAt.tuples (A:=A) (e:=MQ (tX n) xs ys) pl MR Ph he
     have R2:=SeqAt.RcNeAt.tuples (A:=A) (e:=MQ (tX n) xs ys) pl MR Ph he
     rw[<-s1,<-s2]at R1 R2
     exact⟨R1,R2⟩
   refine⟨?_,main⟩
   by_cases ha:a=a'
   ·subst ha
    have:=pK I (n+1) _ _ _ _ Vl Vm e0
    subst this
    exact .same _
   ·exact .of_refs ha main.1
  ·exact Ez hx hy rv mr e
end
section
variable{X:Cx}{E:Str->Hp->Prop}{pos:Pos}
def Iu(K:PySem.W.Frag)(ne:Bool):R2:=fun v w H Q=>∃x y b,Is K Tr H x v/\Is K Tr H y w/\tX 6 x y=some b/\Q (.bl (if ne=true then !b else b)) H
theorem iA(hu:X.A.units+6<cLine):qw X (compareOp .Eq) (Iu X.K false):=by
 intro pins s σ H v w u u' Q I rx ry h
 obtain⟨x,y,b,hx,hy,e,q⟩:=h
 exact(Bc I 6 X.A x y v w u u' b hu hx hy rx ry e).2.1 X.prog X.w _ _ ⟨.bl b,H,I,rfl,q⟩
theorem oW(hu:X.A.units+6<cLine):qw X (compareOp .NotEq) (Iu X.K true):=by
 intro pins s σ H v w u u' Q I rx ry h
 obtain⟨x,y,b,hx,hy,e,q⟩:=h
 exact(Bc I 6 X.A x y v w u u' b hu hx hy rx ry e).2.2 X.prog X.w _ _ ⟨.bl (!b),H,I,rfl,q⟩
def xQ(x y:D):Option D:=(tX 6 x y).map .bl
def Bd(x y:D):Option D:=(tX 6 x y).map fun b=>.bl (!b)
theorem ed:lW X (Iu X.K false) xQ:=fun x y d e=>by
 unfold xQ at e
 cases h:tX 6 x y with
 |none=>rw[h]at e;cases e
 |some b=>
  rw[h]at e;cases e
  exact⟨_,rfl,fun H v w Q i1 i2 q=>⟨x,y,b,i1,i2,h,q⟩⟩
theorem kY:lW X (Iu X.K true) Bd:=fun x y d e=>by
 unfold Bd at e
 cases h:tX 6 x y with
 |none=>rw[h]at e;cases e
 |some b=>
  rw[h]at e;cases e
  exact⟨_,rfl,fun H v w Q i1 i2 q=>⟨x,y,b,i1,i2,h,q⟩⟩
theorem aT.u6 {k:Nat}{A:Around}(r:aT k A):A.units+6<cLine:=by have:=r.un;omega
end
def Kp(nt:Nat)(b:D->DE->R DE):Prop:=∀(d:D)(r ts e':DE),ts.length=nt->b d (ts++r)=.ok e'->∃Q6,e'=Q6++r/\Q6.length=nt
def Ka(nt:Nat)(b:List D->DE->R DE):Prop:=∀(d:List D)(r ts e':DE),ts.length=nt->b d (ts++r)=.ok e'->∃Q6,e'=Q6++r/\Q6.length=nt
theorem Z4{nt:Nat}(i:Nat)(hi:i<nt:=by decide):Kp nt fun d env=>.ok (env.set i (.val d)):=fun d r ts e' hl h=>by
 cases h
 exact⟨ts.set i (.val d),by rw[List.set_append_left _ _ (by omega)],by simp[hl]⟩
theorem Q7{nt:Nat}:Ka nt fun ds env=>match ds with
  |[]=>.ok env
  |_=>.bad:=fun d r ts e' hl h=>by
 cases d with
 |nil=>cases h;exact⟨ts,rfl,hl⟩
 |cons _ _=>cases h
theorem MU{nt:Nat}{b:D->DE->R DE}{k:List D->DE->R DE}(hb:Kp nt b)(hk:Ka nt k):Ka nt fun ds env=>match ds with
   |d::r=>(b d env).bind fun e'=>k r e'
   |_=>.bad:=fun d r ts e' hl h=>by
 cases d with
 |nil=>cases h
 |cons x xs=>
  obtain⟨e1,h1,h2⟩:=R.bM (show(b x (ts++r)).bind (fun e'=>k xs e')=.ok e' from h)
  obtain⟨t1,rfl,l1⟩:=hb x r ts e1 hl h1
  exact hk xs r t1 e' l1 h2
theorem Z5{nt n:Nat}{b:List D->DE->R DE}(hb:Ka nt b):Kp nt fun d env=>match d with
   |.tup ds=>if ds.length=n then b ds env else .bad
   |_=>.bad:=fun d r ts e' hl h=>by
 cases d with
 |tup ds=>
  have h':(if ds.length=n then b ds (ts++r)else .bad)=.ok e':=h
  split at h'
  ·exact hb ds r ts e' hl h'
  ·cases h'
 |non=>cases h
 |bl _=>cases h
 |int _=>cases h
 |str _=>cases h
 |lst _=>cases h
 |exc _=>cases h
 |fn _=>cases h
theorem Kp.ok {nt:Nat}{b:D->DE->R DE}(h:Kp nt b):∀ds d e,b d (dR nt ds)=.ok e->∃ts,e=ts++ds.map Sl.val/\ts.length=nt:=fun ds d e q=>h d _ _ e (by simp) q
structure Df(K:PySem.W.Frag)(mg:Str->Option Value)(x:Str)(st:Stmt)(ps:List Str)(f:Addr)(fd:FuncData):Prop where
 F:yc K x x st f fd
 b:Binds K fd ps []
 m:mg x=some (.ref f)
 ns:nsIn K mainGlobals x=some (some (.ref f))
abbrev Dt:Str->Value:=fun _=>.none
section
variable{X:Cx}{E:Str->Hp->Prop}{pos:Pos}{k:Nat}{fa:Addr}{fd:FuncData}{st:Stmt}{ps:List Str}{x:Str}{p:Pos}{e:Expr}{es:List Expr}{f:DE->R (List D)}
theorem Kb{m:List D->R D}(d:Df X.K X.mg x st ps fa fd)(F:bJ X.prog X.w X.K X.mg X.base jH k fa fd ps (A8 X.K Dt m))(hr:aT k X.A)
  (ha:PA X (e::es) (D9 X.K E f))(hg:Gl X x:=by rfl)(hdb:(x==("__debug__":Str))=false:=by decide)(he:starEach (e::es) X.env=(false,eval e X.env)::starEach es X.env:=by rfl)(hpl:(backTo pos (starEach es X.env)).any (·.1)=false:=by rfl):
  PE X (.Call (.Name x p) (e::es) [] pos) (tD X.K E fun env=>(f env).bind m):=fD F d.m d.F.kp d.b hr jJ ha hg hdb he hpl
def X3(m:List D->R D):Prop:=∀ds d,m ds=.ok d->∃z,toV d=some z
def X4(m:List D->R (List D)):Prop:=∀ds xs,m ds=.ok xs->∀d∈xs,∃z,toV d=some z
theorem MV{m:List D->R D}(hsc:X3 m)(d:Df X.K X.mg x st ps fa fd)(F:bJ X.prog X.w X.K X.mg X.base jH k fa fd ps (A8 X.K Dt m))(hr:aT k X.A)
  (ha:PA X (e::es) (pC X.K E f))(hg:Gl X x:=by rfl)(hdb:(x==("__debug__":Str))=false:=by decide)(he:starEach (e::es) X.env=(false,eval e X.env)::starEach es X.env:=by rfl)(hpl:(backTo pos (starEach es X.env)).any (·.1)=false:=by rfl):
  PE X (.Call (.Name x p) (e::es) [] pos) (tD X.K E fun env=>(f env).bind m):=fB F hsc d.m d.F.kp d.b hr jJ ha hg hdb he hpl
theorem yu{m:List D->R (List D)}(d:Df X.K X.mg x st ps fa fd)(F:bJ X.prog X.w X.K X.mg X.base jH k fa fd ps (G9 X.K Dt m))(hr:aT k X.A)
  (ha:PA X (e::es) (D9 X.K E f))(hg:Gl X x:=by rfl)(hdb:(x==("__debug__":Str))=false:=by decide)(he:starEach (e::es) X.env=(false,eval e X.env)::starEach es X.env:=by rfl)(hpl:(backTo pos (starEach es X.env)).any (·.1)=false:=by rfl):
  PE X (.Call (.Name x p) (e::es) [] pos) (tF X.K E fun env=>(f env).bind m):=fF F d.m d.F.kp d.b hr jJ ha hg hdb he hpl
theorem Vq{m:List D->R (List D)}(hsc:X4 m)(d:Df X.K X.mg x st ps fa fd)(F:bJ X.prog X.w X.K X.mg X.base jH k fa fd ps (G9 X.K Dt m))(hr:aT k X.A)
  (ha:PA X (e::es) (pC X.K E f))(hg:Gl X x:=by rfl)(hdb:(x==("__debug__":Str))=false:=by decide)(he:starEach (e::es) X.env=(false,eval e X.env)::starEach es X.env:=by rfl)(hpl:(backTo pos (starEach es X.env)).any (·.1)=false:=by rfl):
  PE X (.Call (.Name x p) (e::es) [] pos) (tF X.K E fun env=>(f env).bind m):=ZZ F hsc d.m d.F.kp d.b hr jJ ha hg hdb he hpl
end
abbrev Ok(P:Program)(w:World)(K:PySem.W.Frag)(mg:Str->Option Value)(base:Heap)(k:Nat)(f:Addr)(fd:FuncData)(ps:List Str)(m:List D->R D):Prop:=bJ P w K mg base jH k f fd ps (A8 K Dt m)
abbrev lZ(P:Program)(w:World)(K:PySem.W.Frag)(mg:Str->Option Value)(base:Heap)(k:Nat)(f:Addr)(fd:FuncData)(ps:List Str)(m:List D->R (List D)):Prop:=bJ P w K mg base jH k f fd ps (G9 K Dt m)
section
variable{P:Program}{w:World}{K:PySem.W.Frag}{mg:Str->Option Value}{base:Heap}
theorem X5{x:Str}{st:Stmt}{f:Addr}{fd:FuncData}{N ps:List Str}{k:Nat}{m:List D->R D}{b:DE->R Out}(S:aw N ps (ae st))(d:Df K mg x st ps f fd)
  (hb:∀(cdv:Value)(A:Around)(outer:List Env)(s:Shared)(H:Hp)(E:XK),aT k (A.deeper (envOfC x (ae st) s.heap.objs.size f cdv))->oN (oU jH P w K mg base N x (ae st) f cdv A outer s H E).Dm (bg st) (tS K EN b))
  (hm:∀ds d,m ds=.ok d->ds.length=ps.length/\(b (aH N.length ds)).bind ai=.ok d)(hne:∀ds c,m ds≠.err c):
  Ok P w K mg base (k+1) f fd ps m:=U8 d.F S hm hne hb
theorem Z6{x:Str}{st:Stmt}{f:Addr}{fd:FuncData}{N ps:List Str}{k:Nat}{m:List D->R (List D)}{b:DE->R Out}(S:aw N ps (ae st))(d:Df K mg x st ps f fd)
  (hb:∀(cdv:Value)(A:Around)(outer:List Env)(s:Shared)(H:Hp)(E:XK),aT k (A.deeper (envOfC x (ae st) s.heap.objs.size f cdv))->oN (oU jH P w K mg base N x (ae st) f cdv A outer s H E).Dm (bg st) (tS K EN b))
  (hm:∀ds d,m ds=.ok d->ds.length=ps.length/\(b (aH N.length ds)).bind aj=.ok d)(hne:∀ds c,m ds≠.err c):
  lZ P w K mg base (k+1) f fd ps m:=U9 d.F S hm hne hb
end
section
variable{X:Cx}{E:Str->Hp->Prop}{pos:Pos}
def yv(x y:D):Option D:=match y with
 |.non=>some (.bl (match x with
  |.non=>false
  |_=>true))
 |_=>none
theorem Iw{K:PySem.W.Frag}{P:Addr->Prop}{H:Hp}{x:D}{v:V}(h:Is K P H x v):decide (v=V.non)=(match x with
  |.non=>true
  |_=>false):=by
 cases x with
 |non=>cases h;rfl
 |bl _=>cases h;rfl
 |int _=>cases h;rfl
 |str _=>cases h;rfl
 |lst _=>obtain⟨a,vs,rfl,_⟩:=h;rfl
 |tup _=>obtain⟨a,vs,rfl,_⟩:=h;rfl
 |exc _=>obtain⟨a,vs,rfl,_⟩:=h;rfl
 |fn _=>obtain⟨a,rfl,_⟩:=h;rfl
theorem EB:lW X (fun x y H Q=>y=.non/\Q (.bl (!decide (x=.non))) H) yv:=fun x y d e=>by
 unfold yv at e
 split at e
 ·cases e
  refine⟨_,rfl,fun H v w Q h1 h2 q=>⟨h2,?_⟩⟩
  rw[Iw h1]
  cases x<;>exact q
 ·cases e
def Iz(xs:List D):D->R (List D)
 |.int k=> @ite _ (-(2^63)<=k/\k<2^63/\xs.length*k.toNat<=sizeLine) (propDecidable _) (.ok (replicate k.toNat xs).flatten) .bad
 |_=>.bad
theorem IsL.rep {K:PySem.W.Frag}{P:Addr->Prop}{H:Hp}{ds:List D}{vs:List V}(h:IsL K P H ds vs):∀n:Nat,IsL K P H (replicate n ds).flatten (replicate n vs).flatten
 |0=>rfl
 |n+1=>by
  rw[replicate_succ,replicate_succ,flatten_cons,flatten_cons]
  exact h.app (IsL.rep h n)
theorem Vr{a b:Expr}{fa:DE->R (List D)}{fb:DE->R D}(ha:PE X a (tF X.K E fa))(hb:PE X b (tB X.K E fb)):PE X (.BinOp a .Mult b pos) (tF X.K E fun env=>(fa env).bind fun x=>(fb env).bind fun y=>Iz x y):=
 imp (pe Mp ha hb) fun σ H Q ⟨g,env,os,r,m⟩=>⟨g,env,os,r,m.bind.mono fun x _ m1 a1 v1 H1 s1 hn hH i1=>⟨g,env,os,r.same s1,m1.bind.mono fun y _ m2 w H2 s2 i2=>by
  unfold Iz at m2
  split at m2
  ·rename_i k _
   split at m2
   ·rename_i c
    have Pb:IsL X.K (g.P os) H1 x v1:=IsL.ext ⟨fun b o p _=>⟨p.1,fun z=>p.2 (mem_cons_of_mem _ z)⟩,fun _ _ _ q=>q⟩ _ _ i1
    refine⟨a1,k,v1,rfl,i2,s2 _ _ hH,c.1,c.2.1,by rw[Pb.length];exact c.2.2,fun p hp=>?_⟩
    obtain⟨b1,b2,b3,b4⟩:=zT r (s1.trans s2) hp ((Pb.same s2).rep k.toNat)
    exact m2 p _ _ b1 b2 b3 b4
   ·exact m2.elim
  ·exact m2.elim⟩⟩
theorem t8:bootBuiltins "range"=some (.type "range"):=by decide +kernel
def iT:List D->R (List D)
 |[.int j]=> @ite _ (0<=j/\j<=1000000) (propDecidable _) (.ok (lY 0 j.toNat)) .bad
 |_=>.bad
theorem IA{K:PySem.W.Frag}{P:Addr->Prop}{H:Hp}{n:Nat}:IsL K P H (lY 0 n) ((range n).map fun i=>V.int (0+(i:Nat))):=by
 unfold lY
 induction (range n)with
 |nil=>rfl
 |cons x r ih=>exact⟨_,_,rfl,rfl,ih⟩
theorem vm{acc:List Value}{n:Nat}(h1:acc.length=n)(h2:∀(j:Nat)(v:Value),acc[j]?=some v->∃t,v=.int (0+(j:Nat)) t):Vals ((range n).map fun i=>V.int (0+(i:Nat))) acc:=by
 have gen:∀(l:List Value)(k:Nat),(∀(j:Nat)(v:Value),l[j]?=some v->∃t,v=.int (0+((k+j:Nat):Int)) t)->Vals ((range' k l.length).map fun i=>V.int (0+(i:Nat))) l:=by
  intro l
  induction l with
  |nil=>intro k _;exact .nil
  |cons x r ih=>
   intro k hk
   rw[length_cons,range'_succ,map_cons]
   refine .cons ?_ (ih (k+1) fun j v e=>?_)
   ·obtain⟨t,e⟩:=hk 0 x (by simp)
    exact⟨t,e⟩
   ·obtain⟨t,e⟩:=hk (j+1) v (by simpa using e)
    exact⟨t,by rw[e];congr 2;omega⟩
 subst h1
 rw[List.range_eq_range']
 exact gen acc 0 fun j v e=>by
  obtain⟨t,q⟩:=h2 j v e
  exact⟨t,by rw[q];congr 2;omega⟩
theorem t9{a:Expr}{p p2 ko:Pos}{f:DE->R (List D)}(hc:X.calm=true)(CO:X.mg "list"=none)(MX:X.mg "range"=none)(ha:PA X [a] (pC X.K E f))(MY:Gl X "list":=by rfl)(hgr:Gl X "range":=by rfl)
  (hs:starEach [a] X.env=[(false,eval a X.env)]:=by rfl)(he:starEach [.Call (.Name "range" p2) [a] [] ko] X.env=(false,eval (.Call (.Name "range" p2) [a] [] ko) X.env)::starEach [] X.env:=by rfl)(hpl:(backTo pos (starEach [] X.env)).any (·.1)=false:=by rfl):
  PE X (.Call (.Name "list" p) [.Call (.Name "range" p2) [a] [] ko] [] pos) (tF X.K E fun env=>(f env).bind iT):=by
 intro pins s σ H Q I h
 obtain⟨g,env,os,r,m⟩:=h
 refine wpAny_Call_Name_kw (dN I MY CO jK ?_)
 refine PyProof.Rows.callWith_type1 ?_ he hpl
 rw[he]
 refine Calls.spliced_cons ?_
 refine Call_ (dN I hgr MX t8 (PyProof.Rows.callWith_type1 (bz (ha ko pins s σ H _ I ⟨g,env,os,r,m.bind.mono fun ds _ q vs H1 s1 i1=>(⟨ds,s1,i1,q⟩:∃ds,aB H H1/\IsL X.K Tr H1 ds vs/\Good E g.H₀ (iT ds) _)⟩) fun us s1 ⟨vs,H1,I1,r1,ds,sm,i1,q⟩=>?_) hs rfl))
 unfold iT at q
 split at q
 ·rename_i j
  split at q
  ·rename_i c
   obtain⟨v,rfl,iv⟩:=IsL.vh i1
   have Q8:v=.int j:=iv
   subst Q8
   obtain⟨u,rfl,t,rfl⟩:=vals1 r1
   refine call_range_1 ?_
   have I2:Inv X pins σ H1 {s1 with heap:=s1.heap.push {cls:=.type "range",data:=.fields #[.int 0 s1.toks,.int j t,.int 1 (s1.toks+1)]},toks:=s1.toks+1+1}:=I1.kept fun b o e=>Heap.get?_push_of_some _ e
   refine Calls.spliced_nil ?_
   have hd:X.A.handled=none:=I.ok.hd hc
   have hsz:Builtin.Range.rangeSize 0 j 1=(j.toNat:Nat):=by rw[rangeSize_one];split<;>omega
   refine call_list_range hd (IsRange.new ..) (small_one (by omega) (by omega) (by omega) (by omega)) hsz (by omega) fun h' tk dg c' hk hl hit=>?_
   obtain⟨hi1,hi2⟩:=hit
   have hv:Vals ((range j.toNat).map fun i=>V.int (0+(i:Nat))) dg.toList:=vm (by simpa using hi1) fun i v e=>by
    obtain⟨t,q⟩:=hi2 i v (by simpa using e)
    exact⟨t,by rw[q];congr 1;omega⟩
   have hlen:((range j.toNat).map fun i=>V.int (0+(i:Nat))).length<=sizeLine:=by
    rw[length_map,length_range]
    exact le_trans (show j.toNat<=1000000 by omega) (by decide)
   refine⟨.ref _,upd H1 _ (.lst ((range j.toNat).map fun i=>V.int (0+(i:Nat)))),I2.laid (a:=_) hk (Nat.le_refl _) ⟨hlen,dg.toList,c',hv,by simpa using hl⟩,rfl,?_⟩
   have hn:H1 (s1.heap.push {cls:=.type "range",data:=.fields #[.int 0 s1.toks,.int j t,.int 1 (s1.toks+1)]}).objs.size=none:=I2.hok.fresh (Nat.le_refl _)
   exact q _ _ _ (sm.trans (aD hn _)) (sm.free hn) ak IA
  ·exact q.elim
 ·exact q.elim
end
def g5:D->D->Option D
 |.int i,.int j=>some (.int (i+j))
 |_,_=>none
theorem bX{X:Cx}:lW X (AR fun i j=>.int (i+j)) g5:=mz (h:=fun i j=>.int (i+j)) (fun _ _=>rfl) fun x y d e=>by
 unfold g5 at e
 split at e<;>cases e
 exact⟨_,_,rfl,rfl,rfl⟩
def Kc(yw sc:Scope)(XN N:List Str)(nt:Nat)(caps:List Nat):Bool:=
 sc.kind==.function&&sc.names.all (fun y=>y.2 !=.cell&&(y.2 !=.local||sc.names.lookup y.1==some .local)&&(y.2 !=.free||yw.names.lookup y.1==some .cell||yw.names.lookup y.1==some .free))&&
 N.length==nt+caps.length&&decide N.Nodup&&(range caps.length).all fun j=>match caps[j]?,N[nt+j]? with
  |some i,some x=>XN[i]?==some x&&sc.names.lookup x==some .free&&(yw.names.lookup x==some .local||yw.names.lookup x==some .cell||yw.names.lookup x==some .free)
  |_,_=>false
theorem Du{X:Cx}{sc:Scope}{N:List Str}{nt:Nat}{caps:List Nat}(yw:Scope)(XN:List Str)(h:Kc yw sc XN N nt caps=true)(hsc:X.env.scope=yw:=by rfl)(hN:X.N=XN:=by rfl):gO X sc N nt caps:=by
 subst hsc hN
 unfold Kc at h
 simp only [and_eq_true,List.all_eq_true,or_eq_true,decide_eq_true_eq,beq_iff_eq,bne_iff_ne,ne_eq]at h
 obtain⟨⟨⟨⟨h1,h2⟩,h3⟩,h4⟩,h5⟩:=h
 refine⟨by simpa using h1,fun y hy=>(h2 y hy).1.1,fun y hy e=>?_,fun y hy e=>?_,h3,h4,fun j i e=>?_⟩
 ·rcases(h2 y hy).1.2 with q|q
  ·exact absurd e q
  ·exact q
 ·rcases(h2 y hy).2 with(q|q)|q
  ·exact absurd e q
  ·exact .inl q
  ·exact .inr q
 ·have hj:j<caps.length:=(List.getElem?_eq_some_iff.mp e).1
  have q:=h5 j (by simpa using hj)
  rw[e]at q
  cases hx:N[nt+j]? with
  |none=>rw[hx]at q;exact absurd q (by simp)
  |some x=>
   rw[hx]at q
   simp only [and_eq_true,or_eq_true,beq_iff_eq]at q
   obtain⟨⟨q1,q2⟩,q3⟩:=q
   refine⟨x,rfl,q1,q2,?_⟩
   rcases q3 with(q3|q3)|q3
   ·exact .inl q3
   ·exact .inr (.inl q3)
   ·exact .inr (.inr q3)
def Vs(i:Nat):Out->R Out
 |.nx e=>.ok (.nx (uW i e))
 |o=>.ok o
theorem w6(i j:Int):g5 (.int i) (.int j)=some (.int (i+j)):=rfl
theorem EC(i j:Int):ik (.int i) (.int j)=some (.int (i-j)):=rfl
theorem ED(i:Int):qH (.int i)=some (.int (-i)):=rfl
theorem Kd(i j:Int):JW (.int i) (.int j)=some (.bl (decide (i<j))):=rfl
theorem Ke(i j:Int):S9 (.int i) (.int j)=some (.bl (decide (i<=j))):=rfl
theorem Kf(i j:Int):zS (.int i) (.int j)=some (.bl (decide (j<i))):=rfl
theorem Kg(i j:Int):ZP (.int i) (.int j)=some (.bl (decide (j<=i))):=rfl
theorem Kh(i j:Int):xQ (.int i) (.int j)=some (.bl (i==j)):=rfl
theorem Kj(i j:Int):Bd (.int i) (.int j)=some (.bl (!(i==j))):=rfl
theorem Kl(i j:Str):xQ (.str i) (.str j)=some (.bl (i==j)):=rfl
theorem Km(i j:Str):Bd (.str i) (.str j)=some (.bl (!(i==j))):=rfl
theorem uc(i j:Int)(h:(-(2^64)<i/\i<2^64)\/(-(2^64)<j/\j<2^64)):yj (.int i) (.int j)=some (.int (i*j)):=if_pos h
theorem qN(i j:Int)(h:0<j/\j<1073741824):wO (.int i) (.int j)=some (.int (i/j)):=if_pos h
theorem iB(i j:Int)(h:0<j):oV (.int i) (.int j)=some (.int (i%j)):=if_pos h
theorem MZ(i j:Int)(h:0<=j/\j<=1000000/\i.natAbs<2^64):Ec (.int i) (.int j)=some (.int (i^j.toNat)):=if_pos h
theorem Vt:(10:Int)^(9:Nat)=1000000000:=by
 rw[show(10:Int)=((10:Nat):Int)from rfl,<-Int.natCast_pow]
 rfl
theorem Q9:(10:Int)^(9:Int).toNat=1000000000:=Vt
theorem EE:Ec (.int 10) (.int 9)=some (.int 1000000000):=(MZ 10 9 (by decide)).trans (by rw[Q9])
theorem EF(i:Int):CI [.int i]=some (.int (if i<0 then-i else i)):=rfl
theorem Be(i j:Int):A7 [.int i,.int j]=some (.int (if j>i then j else i)):=rfl
theorem EG(xs:List D):oh [.lst xs]=some (.int xs.length):=rfl
theorem EH(xs:List D):oh [.tup xs]=some (.int xs.length):=rfl
theorem Kn(b:Bool):jf (.bl b)=.ok b:=rfl
theorem Ko(xs:List D):qG (.lst xs)=.ok xs:=rfl
theorem Kq(i:Int):Ef (.int i)=.ok (some i):=rfl
theorem Kr(xs:List D)(i:Int):vg xs (.int i)=R.of (iP xs i):=rfl
theorem Ks(xs:List D)(i:Int):wR (.lst xs) (.int i)=R.of (iP xs i):=rfl
theorem Ku(xs:List D)(i:Int):wR (.tup xs) (.int i)=R.of (iP xs i):=rfl
theorem oX{α:Type}{xs:List α}(h:xs.length<=sizeLine):fit xs=.ok xs:=if_pos h
theorem big{n:Nat}(h:n<=1000000):n<=sizeLine:=le_trans h (by decide)
theorem Ra{α:Type}:fit ([]:List α)=.ok []:=oX (big (by simp))
theorem Rb{α:Type}(a:α):fit [a]=.ok [a]:=oX (big (by simp))
theorem Rc{α:Type}(a b:α):fit [a,b]=.ok [a,b]:=oX (big (by simp))
theorem Rf{α:Type}(a b c:α):fit [a,b,c]=.ok [a,b,c]:=oX (big (by simp))
theorem Rg{α:Type}(a b c d:α):fit [a,b,c,d]=.ok [a,b,c,d]:=oX (big (by simp))
theorem M0(j:Int)(h: -(2^62)<=j/\j<2^62):Ig [.int j]=.ok (lY 0 j.toNat):=if_pos h
theorem EI(i j:Int)(h: -(2^62)<=i/\i<2^62/\ -(2^62)<=j/\j<2^62):CJ [.int i,.int j]=.ok (lY i (j-i).toNat):=if_pos h
theorem nN(j:Int)(h:0<=j/\j<=1000000):iT [.int j]=.ok (lY 0 j.toNat):=if_pos h
theorem M4(xs:List D)(k:Int)(h: -(2^63)<=k/\k<2^63/\xs.length*k.toNat<=sizeLine):Iz xs (.int k)=.ok (replicate k.toNat xs).flatten:=if_pos h
theorem Bf(e:DE)(k:DE->R Out):aS (.ok (.nx e)) k=k e:=rfl
theorem Bg(d:D)(k:DE->R Out):aS (.ok (.rt d)) k=.ok (.rt d):=rfl
theorem yx(d:List D)(k:DE->R Out):aS (.ok (.o7 d)) k=.ok (.o7 d):=rfl
theorem Bh(i:Nat)(e:DE):Vs i (.nx e)=.ok (.nx (uW i e)):=rfl
theorem qO{S:Type}{b:D->DE->R Out}(J:Nat->S->Prop)(Ev:S->DE):∀(xs:List D)(i:Nat)(s:S),J i s->(∀(j:Nat)(s:S)(x:D),J (i+j) s->xs[j]?=some x->∃s',b x (Ev s)=.ok (.nx (Ev s'))/\J (i+j+1) s')->∃s',dH b xs (Ev s)=.ok (.nx (Ev s'))/\J (i+xs.length) s'
 |[],i,s,hI,h=>⟨s,rfl,hI⟩
 |x::xs,i,s,hI,h=>by
  obtain⟨s1,h1,h2⟩:=h 0 s x hI rfl
  obtain⟨s2,h3,h4⟩:=qO J Ev xs (i+1) s1 (by simpa using h2) fun j s y hs hy=>by
   have e:i+1+j=i+(j+1):=by omega
   rw[e]at hs⊢
   exact h (j+1) s y hs (by simpa using hy)
  refine⟨s2,?_,by rw[length_cons,show i+(xs.length+1)=i+1+xs.length by omega];exact h4⟩
  unfold dH
  rw[h1]
  exact h3
theorem nP{b:D->DE->R DE}{ct:DE->R Bool}{fe:DE->R D}{e₀:DE}(g:D->D):∀(xs:List D),(∀x∈xs,∃e,b x e₀=.ok e/\ct e=.ok true/\fe e=.ok (g x))->bj b ct fe e₀ xs=.ok (xs.map g)
 |[],_=>rfl
 |x::xs,h=>by
  obtain⟨e,h1,h2,h3⟩:=h x (by simp)
  have ih:=nP g xs fun y hy=>h y (by simp[hy])
  unfold bj
  rw[h1,R.bB,h2,R.bB,if_pos rfl,h3,R.bB,ih]
  rfl
def aA(ns:List Int):List D:=ns.map .int
theorem aY(ns:List Int):(aA ns).length=ns.length:=length_map _
def Bj:List D->Option (List Int)
 |[]=>some []
 |.int i::r=>(Bj r).map (i::·)
 |_::_=>none
theorem oY(ns:List Int):Bj (aA ns)=some ns:=by
 induction ns with
 |nil=>rfl
 |cons x r ih=>show(Bj (aA r)).map (x::·)=_;rw[ih];rfl
theorem ud:∀{xs:List D}{ns:List Int},Bj xs=some ns->xs=aA ns
 |[],ns,h=>by cases h;rfl
 |.int i::r,ns,h=>by
  unfold Bj at h
  cases e:Bj r with
  |none=>rw[e]at h;cases h
  |some ms=>rw[e]at h;cases h;rw[ud e];rfl
 |.non::r,_,h=>by cases h
 |.bl _::r,_,h=>by cases h
 |.str _::r,_,h=>by cases h
 |.lst _::r,_,h=>by cases h
 |.tup _::r,_,h=>by cases h
theorem vU(n:Nat):∀(a b:List Int),a.length=b.length->pJ (tX n) (aA a) (aA b)=some (decide (a=b))
 |[],[],_=>rfl
 |[],_::_,h=>by simp at h
 |_::_,[],h=>by simp at h
 |x::a,y::b,h=>by
  have ih:=vU n a b (by simpa using h)
  show(tX n (.int x) (.int y)).bind _=_
  have e:tX n (.int x) (.int y)=some (x==y):=by cases n<;>rfl
  rw[e]
  show(pJ (tX n) (aA a) (aA b)).map ((x==y)&&·)=_
  rw[ih]
  show some ((x==y)&&decide (a=b))=some (decide (x::a=y::b))
  congr 1
  rw[Bool.eq_iff_iff]
  simp
theorem yy(n:Nat)(a b:List Int):tX (n+1) (.lst (aA a)) (.lst (aA b))=some (decide (a=b)):=by
 show(if(aA a).length=(aA b).length then pJ (tX n) (aA a) (aA b)else some false)=_
 split
 ·rename_i h
  exact vU n a b (by simpa[aY]using h)
 ·rename_i h
  congr 1
  symm
  rw[decide_eq_false_iff_not]
  rintro rfl
  exact h rfl
theorem EJ(a b:List Int):xQ (.lst (aA a)) (.lst (aA b))=some (.bl (decide (a=b))):=by unfold xQ;rw[yy];rfl
theorem EK(a b:List Int):Bd (.lst (aA a)) (.lst (aA b))=some (.bl (!decide (a=b))):=by unfold Bd;rw[yy];rfl
theorem w9(ns:List Int)(i:Int):iP (aA ns) i=(iP ns i).map .int:=by
 unfold L2.iP
 rw[aY]
 cases o6 ns.length i with
 |none=>rfl
 |some j=>exact getElem?_map
theorem kZ(ns:List Int)(lo hi:Option Int):cut (aA ns) lo hi=aA (cut ns lo hi):=by
 unfold cut
 rw[aY]
 simp only [aA,List.map_take,map_drop]
theorem sL(lo:Int)(n:Nat):lY lo n=aA ((range n).map fun i=>lo+(i:Nat)):=by
 unfold lY aA
 rw[map_map];rfl
def bN(i:Nat)(d:D)(env:DE):R DE:=.ok (env.set i (.val d))
def xf:List D->DE->R DE
 |[],env=>.ok env
 |_::_,_=>.bad
def jL(b:D->DE->R DE)(k:List D->DE->R DE):List D->DE->R DE
 |d::r,env=>(b d env).bind fun e'=>k r e'
 |[],_=>.bad
def bT(n:Nat)(b:List D->DE->R DE):D->DE->R DE
 |.tup ds,env=>if ds.length=n then b ds env else .bad
 |_,_=>.bad
def M5(i:Nat)(env:DE)(xs:List D)(d:D):R Out:= @ite _ (xs.length<sizeLine) (propDecidable _) (.ok (.nx (env.set i (.own (xs++[d]))))) (.bad)
def M6(i:Nat)(env:DE)(xs:List D):R Out:=if 0<xs.length then .ok (.nx (env.set i (.own xs.dropLast)))else .bad
def yz(i:Nat)(env:DE)(d:D)(xs:List D):D->R Out
 |.int j=>(match o6 xs.length j with
  |some n=>.ok (.nx (env.set i (.own (xs.set n d))))
  |none=>.bad)
 |_=>.bad
def CP(h:Int->Int->Int)(i:Nat)(env:DE):D->D->R Out
 |.int u,.int w=>.ok (.nx (env.set i (.val (.int (h u w)))))
 |_,_=>.bad
section
variable{X:Cx}{E:Str->Hp->Prop}{pos:Pos}
theorem rJ(i:Nat){x:Str}(hN:X.N.Nodup)(hi:X.N[i]?=some x:=by rfl)(hx:Loc X.env.scope x:=by first|exact Or.inl rfl|exact Or.inr rfl)(hf:X.fn x=true\/X.env.scope.names.lookup x=some .local:=by first|exact .inl rfl|exact .inr rfl|assumption):
  PG X (.Name x pos) (tG X.K E (bN i)):=gN i hN hi hx hf
theorem z5:AQ X [] (JY X.K E xf):=by
 have e:xf=fun ds env=>match ds with
  |[]=>.ok env
  |_=>.bad:=by funext ds env;cases ds<;>rfl
 rw[e];exact QK
theorem nQ{e:Expr}{es:List Expr}{b:D->DE->R DE}{k:List D->DE->R DE}(h1:PG X e (tG X.K E b))(h2:AQ X es (JY X.K E k))(hs:(assignEach (e::es) X.env).map (·.2)=assign e X.env::(assignEach es X.env).map (·.2):=by rfl):
  AQ X (e::es) (JY X.K E (jL b k)):=by
 have e':jL b k=fun ds env=>match ds with
   |d::r=>(b d env).bind fun e'=>k r e'
   |_=>.bad:=by funext ds env;cases ds<;>rfl
 rw[e'];exact MH h1 h2 hs
theorem Vu{es:List Expr}{kk:Nat}{b:List D->DE->R DE}(n:Nat)(hc:X.calm=true)(h:AQ X es (JY X.K E b))(hn:(assignEach es X.env).length=n:=by rfl)(hst:(assignEach es X.env).findIdx? (·.1)=none:=by rfl):
  PG X (.Tuple es kk pos) (tG X.K E (bT n b)):=by
 have e':bT n b=fun d env=>match d with
   |.tup ds=>if ds.length=n then b ds env else .bad
   |_=>.bad:=by funext d env;cases d<;>rfl
 rw[e'];exact gT hc h hn hst
theorem qP{nt:Nat}(i:Nat)(hi:i<nt:=by decide):Kp nt (bN i):=Z4 i hi
theorem M7{nt:Nat}:Ka nt xf:=by
 have e:xf=fun ds env=>match ds with
  |[]=>.ok env
  |_=>.bad:=by funext ds env;cases ds<;>rfl
 rw[e];exact Q7
theorem Bk{nt:Nat}{b:D->DE->R DE}{k:List D->DE->R DE}(hb:Kp nt b)(hk:Ka nt k):Ka nt (jL b k):=by
 have e':jL b k=fun ds env=>match ds with
   |d::r=>(b d env).bind fun e'=>k r e'
   |_=>.bad:=by funext ds env;cases ds<;>rfl
 rw[e'];exact MU hb hk
theorem Vv{nt:Nat}{b:List D->DE->R DE}(n:Nat)(hb:Ka nt b):Kp nt (bT n b):=by
 have e':bT n b=fun d env=>match d with
   |.tup ds=>if ds.length=n then b ds env else .bad
   |_=>.bad:=by funext d env;cases d<;>rfl
 rw[e'];exact Z5 hb
theorem Rh(i:Nat){x:Str}{e:Expr}{f:DE->R D}{p apos aV:Pos}(he:PE X e (tD X.K E f))(hN:X.N[i]?=some x:=by rfl)(hv:vD X.env.scope x:=by first|exact Or.inl rfl|exact Or.inr (Or.inl rfl)|exact Or.inr (Or.inr rfl))(hd:(x==("__debug__":Str))=false:=by decide)
  (hcd:(x==("__classdict__":Str))=false:=by decide)
  (hbase:attributeBase (.Name x p) "append" X.env (eval (.Name x p) X.env)=eval (.Name x p) X.env:=by rfl)
  (hfew:((backTo aV (starEach [e] X.env)).all (fun x=> !x.1)&&(backToKw aV (keywordEach [] X.env)).all (fun x=>x.1.isSome)
   &&decide ([e].length+([]:List Keyword).length+(if([]:List Keyword).isEmpty then 0 else 1)<30))=true:=by rfl)
  (hline:(apos.endLine==aV.line)=true:=by rfl)(hst:starEach [e] X.env=(false,eval e X.env)::starEach [] X.env:=by rfl)(hplain:(backTo aV (starEach [] X.env)).any (·.1)=false:=by rfl)
  (hs:swapsWith (.Call (.Attribute (.Name x p) "append" apos) [e] [] aV) none pos.line X.env=pure false:=by rfl):
  PS X (.Expr (.Call (.Attribute (.Name x p) "append" apos) [e] [] aV) pos) (tS X.K E fun env=>(ownAt i env).bind fun xs=>(f env).bind fun d=>M5 i env xs d):=U4 i he hN hv hd hcd hbase hfew hline hst hplain hs
theorem Ri(i:Nat){x:Str}{p apos aV:Pos}(hN:X.N[i]?=some x:=by rfl)(hv:vD X.env.scope x:=by first|exact Or.inl rfl|exact Or.inr (Or.inl rfl)|exact Or.inr (Or.inr rfl))(hd:(x==("__debug__":Str))=false:=by decide)
  (hcd:(x==("__classdict__":Str))=false:=by decide)
  (hbase:attributeBase (.Name x p) "pop" X.env (eval (.Name x p) X.env)=eval (.Name x p) X.env:=by rfl)(hline:(apos.endLine==aV.line)=true:=by rfl)
  (hs:swapsWith (.Call (.Attribute (.Name x p) "pop" apos) [] [] aV) none pos.line X.env=pure false:=by rfl):
  PS X (.Expr (.Call (.Attribute (.Name x p) "pop" apos) [] [] aV) pos) (tS X.K E fun env=>(ownAt i env).bind fun xs=>M6 i env xs):=U5 i hN hv hd hcd hbase hline hs
theorem xg(i:Nat){x:Str}{ek e:Expr}{fk f:DE->R D}{p tp:Pos}(hk:PE X ek (tB X.K E fk))(he:PE X e (tD X.K E f))(hN:X.N[i]?=some x:=by rfl)(hv:vD X.env.scope x:=by first|exact Or.inl rfl|exact Or.inr (Or.inl rfl)|exact Or.inr (Or.inr rfl))(hd:(x==("__debug__":Str))=false:=by decide)
  (hcd:(x==("__classdict__":Str))=false:=by decide)
  (ha:∀v,assign (.Subscript (.Name x p) ek tp) X.env v=(do
   let ov<-holding [v] (eval (.Name x p) X.env)
   let iv<-holding [v,ov] (eval ek X.env)
   standAt tp
   holding [v,ov,iv] (setItem ov iv v)
   release [v,ov,iv] []):=by intro _;rfl)
  (hs:swapsWithSole [.Subscript (.Name x p) ek tp] e pos.line X.env=pure false:=by rfl)(hw:swappedStores [.Subscript (.Name x p) ek tp] e X.env=pure none:=by rfl)
  (h1:(assignEach [.Subscript (.Name x p) ek tp] X.env).map (·.2)=[assign (.Subscript (.Name x p) ek tp) X.env]:=by rfl):
  PS X (.Assign [.Subscript (.Name x p) ek tp] e pos) (tS X.K E fun env=>(f env).bind fun d=>(ownAt i env).bind fun xs=>(fk env).bind fun kd=>yz i env d xs kd):=by
 have h:=MF (pos:=pos) i hk he hN hv hd hcd ha hs hw h1
 have e':(fun env:DE=>(f env).bind fun d=>(ownAt i env).bind fun xs=>(fk env).bind fun kd=>yz i env d xs kd)=(fun env=>(f env).bind fun d=>(ownAt i env).bind fun xs=>(fk env).bind fun kd=>match kd with
   |.int j=>(match o6 xs.length j with
    |some n=>.ok (.nx (env.set i (.own (xs.set n d))))
    |none=>.bad)
   |_=>.bad):=by
  funext env
  refine congrArg (R.bind (f env)) (funext fun d=>congrArg (R.bind _) (funext fun xs=>congrArg (R.bind _) (funext fun kd=>?_)))
  cases kd<;>rfl
 rw[e'];exact h
theorem Kv(i:Nat){x:Str}{e:Expr}{op:Operator}{h:Int->Int->Int}{f:DE->R D}{pos':Pos}(ho:O7 X op (P1 h))(he:PE X e (tB X.K E f))(hN:X.N.Nodup)(hi:X.N[i]?=some x:=by rfl)(hx:Loc X.env.scope x:=by first|exact Or.inl rfl|exact Or.inr rfl)
  (hf:X.fn x=true\/X.env.scope.names.lookup x=some .local:=by first|exact .inl rfl|exact .inr rfl|assumption):
  PS X (.AugAssign (.Name x pos') op e pos) (tS X.K E fun env=>(bU i env).bind fun a=>(f env).bind fun b=>CP h i env a b):=by
 have h':=U6 (pos:=pos) (pos':=pos') i ho he hN hi hx hf
 have e':(fun env:DE=>(bU i env).bind fun a=>(f env).bind fun b=>CP h i env a b)=(fun env=>(bU i env).bind fun a=>(f env).bind fun b=>match a,b with
   |.int u,.int w=>.ok (.nx (env.set i (.val (.int (h u w)))))
   |_,_=>.bad):=by
  funext env
  refine congrArg (R.bind _) (funext fun a=>congrArg (R.bind _) (funext fun b=>?_))
  cases a<;>cases b<;>rfl
 rw[e'];exact h'
end
def IB(d:D):R D:=match toV d with
 |some _=>.ok d
 |none=>.bad
theorem z6{x d:D}(h:IB x=.ok d):x=d/\∃z,toV d=some z:=by
 unfold IB at h
 cases e:toV x with
 |none=>rw[e]at h;cases h
 |some z=>rw[e]at h;cases h;exact⟨rfl,z,e⟩
def Pj:List D->R (List D)
 |[]=>.ok []
 |x::r=>(IB x).bind fun y=>(Pj r).bind fun ys=>.ok (y::ys)
theorem z7:∀{xs ys:List D},Pj xs=.ok ys->xs=ys/\∀d∈ys,∃z,toV d=some z
 |[],ys,h=>by cases h;exact⟨rfl,fun d hd=>nomatch hd⟩
 |x::r,ys,h=>by
  unfold Pj at h
  obtain⟨y,h1,h2⟩:=R.bM h
  obtain⟨zs,h3,h4⟩:=R.bM h2
  cases h4
  obtain⟨rfl,hz⟩:=z6 h1
  obtain⟨rfl,hs⟩:=z7 h3
  exact⟨rfl,fun d hd=>(mem_cons.mp hd).elim (fun e=>by rw[e];exact hz) (hs d)⟩
theorem Kx(i:Int):IB (.int i)=.ok (.int i):=rfl
theorem Ky(i:Bool):IB (.bl i)=.ok (.bl i):=rfl
theorem Kz(i:Str):IB (.str i)=.ok (.str i):=rfl
theorem KA:IB .non=.ok .non:=rfl
theorem jh(ns:List Int):Pj (aA ns)=.ok (aA ns):=by
 induction ns with
 |nil=>rfl
 |cons x r ih=>show(IB (.int x)).bind (fun y=>(Pj (aA r)).bind fun ys=>.ok (y::ys))=_;rw[ih];rfl
def mD(n N:Nat)(b:DE->R Out)(ds:List D):R D:=if ds.length=n then((b (aH N ds)).bind ai).ne else .bad
def mS(n N:Nat)(b:DE->R Out)(ds:List D):R D:=if ds.length=n then(((b (aH N ds)).bind ai).bind IB).ne else .bad
def mF(n N:Nat)(b:DE->R Out)(ds:List D):R (List D):=if ds.length=n then((b (aH N ds)).bind aj).ne else .bad
def eR(n N:Nat)(b:DE->R Out)(ds:List D):R (List D):=if ds.length=n then(((b (aH N ds)).bind aj).bind Pj).ne else .bad
theorem R.br {α:Type}{r:R α}{a:α}(h:r.ne=.ok a):r=.ok a:=by
 cases r with
 |ok b=>exact h
 |err c=>cases h
 |bad=>cases h
theorem R.EL {α:Type}{r:R α}{c:Str}:r.ne≠.err c:=by
 cases r<;>intro h<;>cases h
theorem M8{n N:Nat}{b:DE->R Out}:X3 (mS n N b):=fun ds d h=>by
 unfold mS at h
 split at h
 ·obtain⟨x,_,h2⟩:=R.bM (R.br h)
  exact(z6 h2).2
 ·cases h
theorem Z7{n N:Nat}{b:DE->R Out}:X4 (eR n N b):=fun ds d h=>by
 unfold eR at h
 split at h
 ·obtain⟨x,_,h2⟩:=R.bM (R.br h)
  exact(z7 h2).2
 ·cases h
section
variable{P:Program}{w:World}{K:PySem.W.Frag}{mg:Str->Option Value}{base:Heap}
variable{x:Str}{st:Stmt}{f:Addr}{fd:FuncData}{N ps:List Str}{k:Nat}{b:DE->R Out}
theorem M9(S:aw N ps (ae st))(d:Df K mg x st ps f fd)
  (hb:∀(cdv:Value)(A:Around)(outer:List Env)(s:Shared)(H:Hp)(E:XK),aT k (A.deeper (envOfC x (ae st) s.heap.objs.size f cdv))->oN (oU jH P w K mg base N x (ae st) f cdv A outer s H E).Dm (bg st) (tS K EN b)):
  Ok P w K mg base (k+1) f fd ps (mD ps.length N.length b):=X5 S d hb (fun ds e h=>by
 unfold mD at h
 split at h
 ·rename_i c
  exact⟨c,R.br h⟩
 ·cases h) fun ds c h=>by
 unfold mD at h
 split at h
 ·exact R.EL h
 ·cases h
theorem KC(S:aw N ps (ae st))(d:Df K mg x st ps f fd)
  (hb:∀(cdv:Value)(A:Around)(outer:List Env)(s:Shared)(H:Hp)(E:XK),aT k (A.deeper (envOfC x (ae st) s.heap.objs.size f cdv))->oN (oU jH P w K mg base N x (ae st) f cdv A outer s H E).Dm (bg st) (tS K EN b)):
  Ok P w K mg base (k+1) f fd ps (mS ps.length N.length b):=X5 S d hb (fun ds e h=>by
 unfold mS at h
 split at h
 ·rename_i c
  obtain⟨y,h1,h2⟩:=R.bM (R.br h)
  obtain⟨rfl,_⟩:=z6 h2
  exact⟨c,h1⟩
 ·cases h) fun ds c h=>by
 unfold mS at h
 split at h
 ·exact R.EL h
 ·cases h
theorem pL(S:aw N ps (ae st))(d:Df K mg x st ps f fd)
  (hb:∀(cdv:Value)(A:Around)(outer:List Env)(s:Shared)(H:Hp)(E:XK),aT k (A.deeper (envOfC x (ae st) s.heap.objs.size f cdv))->oN (oU jH P w K mg base N x (ae st) f cdv A outer s H E).Dm (bg st) (tS K EN b)):
  lZ P w K mg base (k+1) f fd ps (eR ps.length N.length b):=Z6 S d hb (fun ds e h=>by
 unfold eR at h
 split at h
 ·rename_i c
  obtain⟨y,h1,h2⟩:=R.bM (R.br h)
  obtain⟨rfl,_⟩:=z7 h2
  exact⟨c,h1⟩
 ·cases h) fun ds c h=>by
 unfold eR at h
 split at h
 ·exact R.EL h
 ·cases h
end
section
variable{d:D}{xs:List D}{r:DE}{a:Sl}{i:Nat}
theorem KD:bU 0 (.val d::r)=.ok d:=rfl
theorem KG:bU (i+1) (a::r)=bU i r:=rfl
theorem KH:aU 0 (.val d::r)=.ok d:=rfl
theorem EO:aU 0 (.own xs::r)=.ok (.lst xs):=rfl
theorem KI:aU (i+1) (a::r)=aU i r:=rfl
theorem KJ:lN 0 (.val (.lst xs)::r)=.ok xs:=rfl
theorem ER:lN 0 (.own xs::r)=.ok xs:=rfl
theorem KN:lN (i+1) (a::r)=lN i r:=rfl
theorem KO:ownAt 0 (.own xs::r)=.ok xs:=rfl
theorem KP:ownAt (i+1) (a::r)=ownAt i r:=rfl
theorem KQ:uW 0 (.own xs::r)=.val (.lst xs)::r:=rfl
theorem KR:uW (i+1) (a::r)=a::uW i r:=by
 unfold uW
 rw[List.getElem?_cons_succ]
 cases e:r[i]? with
 |none=>rfl
 |some sl=>cases sl<;>rfl
end
theorem X6(i j:Nat)(a b:D)(env:DE):bT 2 (jL (bN i) (jL (bN j) xf)) (.tup [a,b]) env=.ok ((env.set i (.val a)).set j (.val b)):=rfl
theorem dJ(i:Nat)(a:D)(env:DE):bN i a env=.ok (env.set i (.val a)):=rfl
theorem bY{ns:List Int}(h:ns.length<=1000000):fit (aA ns)=.ok (aA ns):=oX (by rw[aY];exact big h)
theorem pM(a b:List Int):aA a++aA b=aA (a++b):=(map_append ..).symm
theorem my(n d:Nat):HT.tH n d none=d:=rfl
theorem kQ(n d:Nat)(i:Int)(h:0<=i):HT.tH n d (some i)=min i.toNat n:=by
 unfold HT.tH
 dsimp only
 split<;>omega
theorem ue{α:Type}(xs:List α)(m:Int)(h:0<=m):cut xs none (some m)=xs.take m.toNat:=by
 unfold cut
 rw[my,kQ _ _ _ h,drop_zero,sub_zero]
 rcases Nat.le_total m.toNat xs.length with q|q
 ·rw[min_eq_left q]
 ·rw[Nat.min_eq_right q,take_length,take_of_length_le q]
theorem yA{α:Type}(xs:List α)(m:Int)(h:0<=m):cut xs (some m) none=xs.drop m.toNat:=by
 unfold cut
 rw[my,kQ _ _ _ h]
 rcases Nat.le_total m.toNat xs.length with q|q
 ·rw[min_eq_left q,take_of_length_le (by rw[length_drop];exact Nat.le_refl _)]
 ·rw[Nat.min_eq_right q,sub_self,List.take_zero,List.drop_eq_nil_of_le q]
theorem vV{cells:List Int}{j:Nat}{x:D}(h:(du (aA cells))[j]?=some x):∃c,cells[j]?=some c/\x=.tup [.int (j:Nat),.int c]:=by
 obtain⟨d,hd,rfl⟩:=qL h
 unfold aA at hd
 rw[getElem?_map]at hd
 cases q:cells[j]? with
 |none=>rw[q]at hd;cases hd
 |some c=>rw[q]at hd;cases hd;exact⟨c,rfl,rfl⟩
theorem CQ(xs:List D):(du xs).length=xs.length:=by simp[du]
theorem Bl{i:Nat}{env:DE}{xs:List D}{d:D}(h:xs.length<1000000):M5 i env xs d=.ok (.nx (env.set i (.own (xs++[d])))):=if_pos (lt_of_lt_of_le h (by decide))
theorem IC{i:Nat}{env:DE}{xs:List D}(h:0<xs.length):M6 i env xs=.ok (.nx (env.set i (.own xs.dropLast))):=if_pos h
theorem yB{i:Nat}{env:DE}{d:D}{xs:List D}{j:Int}(h:0<=j)(h2:j<xs.length):yz i env d xs (.int j)=.ok (.nx (env.set i (.own (xs.set j.toNat d)))):=by
 unfold yz
 have:o6 xs.length j=some j.toNat:=by unfold L2.o6;rw[if_pos h,if_pos h2]
 simp only [this]
theorem Bm{α:Type}{xs:List α}{j:Int}(h:0<=j):iP xs j=xs[j.toNat]?:=by
 unfold L2.iP L2.o6
 rw[if_pos h]
 split
 ·rfl
 ·rename_i c
  symm
  show _=none
  rw[List.getElem?_eq_none_iff]
  omega
theorem ID(ns:List Int)(j:Nat)(x:Int):(aA ns).set j (.int x)=aA (ns.set j x):=map_set.symm
theorem IE(ns:List Int)(j:Nat):(aA ns)[j]?=(ns[j]?).map .int:=getElem?_map
theorem Bo(ns:List Int):(aA ns).reverse=aA ns.reverse:=map_reverse.symm
theorem mH(a:Int)(ns:List Int):D.int a::aA ns=aA (a::ns):=rfl
theorem KS(T:String)(i:Int):zZ T (.int i)=.ok (.bl (jg (wZ (.int i)) T)):=rfl
theorem KU(T:String)(i:Bool):zZ T (.bl i)=.ok (.bl (jg (wZ (.bl i)) T)):=rfl
theorem KW(T:String)(i:Str):zZ T (.str i)=.ok (.bl (jg (wZ (.str i)) T)):=rfl
theorem KY(T:String):zZ T .non=.ok (.bl (jg (wZ .non) T)):=rfl
theorem KZ(T:String)(i:List D):zZ T (.lst i)=.ok (.bl (jg (wZ (.lst i)) T)):=rfl
theorem K0(T:String)(i:List D):zZ T (.tup i)=.ok (.bl (jg (wZ (.tup i)) T)):=rfl
theorem q1:(type_of% @length_cons.{0})/\(type_of% @length_nil.{0})/\(type_of% @map_cons.{0,0})/\(type_of% @map_nil.{0,0})/\(type_of% @cons_append.{0})/\(type_of% @nil_append.{0})/\(type_of% @List.replicate_zero.{0})/\(type_of% @replicate_succ.{0})/\(type_of% @if_true.{1})/\(type_of% @ite_true.{1})/\(type_of% @false_eq_true)/\(type_of% @Bool.true_eq_false)/\(type_of% @KD)/\(type_of% @KG)/\(type_of% @KH)/\(type_of% @EO)/\(type_of% @KI)/\(type_of% @KJ)/\(type_of% @ER)/\(type_of% @KN):=⟨@length_cons.{0},@length_nil.{0},@map_cons.{0,0},@map_nil.{0,0},@cons_append.{0},@nil_append.{0},@List.replicate_zero.{0},@replicate_succ.{0},@if_true.{1},@ite_true.{1},@false_eq_true,@Bool.true_eq_false,@KD,@KG,@KH,@EO,@KI,@KJ,@ER,@KN⟩
theorem q2:(type_of% @KO)/\(type_of% @KP)/\(type_of% @KQ)/\(type_of% @KR)/\(type_of% @List.set_cons_zero.{0})/\(type_of% @List.set_cons_succ.{0})/\(type_of% @R.bB)/\(type_of% @R.jI)/\(type_of% @R.El)/\(type_of% @Kn)/\(type_of% @Ko)/\(type_of% @Kq)/\(type_of% @w6)/\(type_of% @EC)/\(type_of% @ED)/\(type_of% @Kd)/\(type_of% @Ke)/\(type_of% @Kf)/\(type_of% @Kg)/\(type_of% @Kh):=⟨@KO,@KP,@KQ,@KR,@List.set_cons_zero.{0},@List.set_cons_succ.{0},@R.bB,@R.jI,@R.El,@Kn,@Ko,@Kq,@w6,@EC,@ED,@Kd,@Ke,@Kf,@Kg,@Kh⟩
theorem q3:(type_of% @Kj)/\(type_of% @Kl)/\(type_of% @Km)/\(type_of% @EF)/\(type_of% @Be)/\(type_of% @EG)/\(type_of% @EH)/\(type_of% @Kr)/\(type_of% @Ks)/\(type_of% @Ku)/\(type_of% @Ra)/\(type_of% @Rb)/\(type_of% @Rc)/\(type_of% @Rf)/\(type_of% @Rg)/\(type_of% @Bf)/\(type_of% @Bg)/\(type_of% @yx)/\(type_of% @Kx)/\(type_of% @Ky):=⟨@Kj,@Kl,@Km,@EF,@Be,@EG,@EH,@Kr,@Ks,@Ku,@Ra,@Rb,@Rc,@Rf,@Rg,@Bf,@Bg,@yx,@Kx,@Ky⟩
theorem q4:(type_of% @Kz)/\(type_of% @KA)/\(type_of% @Bh)/\(type_of% @KS)/\(type_of% @KU)/\(type_of% @KW)/\(type_of% @KY)/\(type_of% @KZ)/\(type_of% @K0):=⟨@Kz,@KA,@Bh,@KS,@KU,@KW,@KY,@KZ,@K0⟩
section
variable{X:Cx}{E:Str->Hp->Prop}{pos:Pos}
theorem Rj{st:Stmt}:PS X st (tS X.K E fun _=>.bad):=fun pins s σ H De I ⟨g,env,os,r,m⟩=>m.elim
end
theorem IF:yv .non .non=some (.bl false):=rfl
theorem z8:typeLookup (.type "list_reverseiterator") "__len__"=pure none:=by rw[typeLookup_type,builtinLookup_eq_fast];kernel_rfl
theorem ES:typeLookup (.type "list_reverseiterator") "__length_hint__"=pure (some (.builtin "list_reverseiterator.__length_hint__")):=by rw[typeLookup_type,builtinLookup_eq_fast];kernel_rfl
theorem CS{prog:Program}{w:World}{A:Around}(hh:A.handled=none)(it l:Addr)(hne:l≠it)(items:Array Value):
  Walks prog w A it [it,l] [it] items.size (fun i v=>items[items.size-1-i]?=some v) (fun i h=>h.IsRevIter it l ((items.size:Int)-1-(i:Nat))/\h.IsList l items) where
 sub:=fun b hb=>by simp at hb;simp[hb]
 frame:=fun _ _ _ st hk=>⟨st.1.at fun o e=>hk it (by simp) o e,st.2.at fun o e=>hk l (by simp) o e⟩
 item:=fun i s Q E hi st hQ=>by
  obtain⟨Rk,x6⟩:=st
  have e1:(items.size:Int)-1-(i:Nat)=((items.size-1-i:Nat):Int):=by omega
  rw[e1]at Rk
  have hx:items[items.size-1-i]?=some (items[items.size-1-i]'(by omega)):=by simp
  refine wpAny_pyNext_rev_item Rk x6 hx fun h' zX Hf=>?_
  have e2:((items.size-1-i:Nat):Int)-1=(items.size:Int)-1-((i+1:Nat):Int):=by omega
  rw[e2]at zX
  exact hQ _ h' s.toks hx ⟨zX,x6.extBut Hf.extBut hne⟩ fun b o hb e=>Hf.extBut b o (fun h=>hb (by simp[h])) e
 done:=fun s Q E st hQ=>by
  obtain⟨Rk,x6⟩:=st
  have e1:(items.size:Int)-1-((items.size:Nat):Int)= -1:=by omega
  rw[e1]at Rk
  exact wpAny_pyNext_rev_end hh Rk fun h' Ha=>hQ h' s.toks fun b o hb e=>Ha b o (fun h=>hb (by simp[h])) e
 self:=fun _ _ _ _ st hQ=>wpAny_pyIter_revIter st.1 hQ
section
variable{prog:Program}{w:World}{A:Around}{E:Value->Shared->Prop}{s:Shared}
theorem ET{it l:Addr}{i:Int}{Q:Bool->Shared->Prop}(hit:s.heap.IsRevIter it l i)(h:Q false s):wpAny (model prog w) A (Builtin.List.listLengthHint (.ref it)) Q E s:=by
 unfold Builtin.List.listLengthHint
 refine wpAny_bind (wpAny_specialOf hit.typeIs z8 ?_)
 show wpAny _ A (specialOf (Value.ref it) (Str.ofString "__length_hint__")>>=_) _ _ _
 refine wpAny_bind (wpAny_specialOf hit.typeIs ES ?_)
 generalize hid:("list_reverseiterator.__length_hint__":String)=Vw
 wp_delta
 rw[show splitId Vw=some ("list_reverseiterator","__length_hint__")from by subst hid;decide +kernel]
 subst hid
 refine wpAny_bind (wpAny_isInstance (T:="list_reverseiterator") (b:=true) hit.typeIs (by rw[isSubtype_type];kernel_rfl) ?_)
 refine wpAny_ite_split (fun hab=>absurd hab (by decide)) (fun _=>?_)
 refine wpAny_ite_split (fun _=>?_) (fun hab=>absurd (by decide +kernel) hab)
 refine wpAny_ite_split (fun hab=>absurd hab (by decide)) (fun _=>?_)
 exact wpAny_pure h
theorem z9{R:Result->Shared->Prop}{it l:Addr}{items:Array Value}(hh:A.handled=none)(hit:s.heap.IsRevIter it l ((items.size:Int)-1))(hl:s.heap.IsList l items)(hlen:items.size<=sizeLine)(S:Addr)(res:Value)(c₀:Nat)
  (hS:s.heap.get? S=some {cls:=.type "list",data:=.seq #[] c₀})(Tf:S≠l)(K1:S≠it)(EU:l≠it)
  (hR:∀h' tk dg c',(∀b o,b≠S->b≠it->s.heap.get? b=some o->h'.get? b=some o)->h'.get? S=some {cls:=.type "list",dict:=none,data:=.seq dg c',slots:=#[]}->
   ItemsOf (fun i v=>items[items.size-1-i]?=some v) dg items.size->R (.ok (.ret res)) {s with heap:=h',toks:=tk}):
  wpAny (model prog w) A.in1 (Builtin.List.listExtendWith (.ref S) (.ref it) res)
   (fun fin s'=>match fin with|.done f=>R (.ok f) s'|.again c'=>c'.quiet=true/\codeAny (model prog w) A c' R s') (fun e s'=>R (.error e) s') s:=by
 have W:=(CS (prog:=prog) (w:=w) (A:=A.in1) hh it l EU items).toS
 unfold Builtin.List.listExtendWith
 refine wpAny_bind (wpAny_typeOf (T:="list_reverseiterator") hit.typeIs ?_)
 have h1:Builtin.List.listSameRef (.ref S) (.ref it)=false:=by simp[Builtin.List.listSameRef,K1]
 have h2:(Value.type "list_reverseiterator"==Value.type "list")=false:=by decide
 have h3:(Value.type "list_reverseiterator"==Value.type "tuple")=false:=by decide
 simp only [h1,h2,h3,Bool.or_false,false_eq_true,if_false]
 refine wpAny_bind (wpAny_pyIter_revIter hit ?_)
 refine wpAny_bind (wpAny_holding (ET hit ?_))
 refine wpAny_ite_split (fun hab=>absurd hab (by decide)) (fun _=>wpAny_pure ⟨plainId_quiet F.plain_extend_loop _,?_⟩)
 have Vx:s.heap.IsRevIter it l ((items.size:Int)-1-((0:Nat):Int)):=by
  rw[show(items.size:Int)-1-((0:Nat):Int)=(items.size:Int)-1 by omega];exact hit
 refine codeAny_extend_loopS W hlen S (fun hm=>?_) res items.size 0 _ #[] c₀ rfl (zero_le _) ⟨Vx,hl⟩ hS (ItemsOf.nil _) fun s' dg c' hm IG hacc=>?_
 ·rcases mem_cons.mp hm with z|z
  ·exact K1 z
  ·exact Tf (mem_singleton.mp z)
 ·rw[Moved.eq_with hm]
  refine hR s'.heap s'.toks dg c' (fun b o hb hb2 e=>hm.heap b o (fun hmem=>?_) e) IG hacc
  rcases mem_cons.mp hmem with z|z
  ·exact hb z
  ·exact hb2 (mem_singleton.mp z)
theorem vo{R:Result->Shared->Prop}{it l:Addr}{items:Array Value}(hh:A.handled=none)(hit:s.heap.IsRevIter it l ((items.size:Int)-1))(hl:s.heap.IsList l items)(hlen:items.size<=sizeLine)(S:Addr)
  (hS:s.heap.get? S=some {cls:=.type "list",data:=.seq #[]})(Tf:S≠l)(K1:S≠it)(EU:l≠it)
  (hR:∀h' tk dg c',(∀b o,b≠S->b≠it->s.heap.get? b=some o->h'.get? b=some o)->h'.get? S=some {cls:=.type "list",dict:=none,data:=.seq dg c',slots:=#[]}->
   ItemsOf (fun i v=>items[items.size-1-i]?=some v) dg items.size->R (.ok (.ret .none)) {s with heap:=h',toks:=tk}):
  wpAny (model prog w) A.in1 (Builtin.«list.Rl»⟨[.ref S,.ref it],[]⟩)
   (fun fin s'=>match fin with|.done f=>R (.ok f) s'|.again c'=>c'.quiet=true/\codeAny (model prog w) A c' R s') (fun e s'=>R (.error e) s') s:=by
 show wpAny _ _ (do let old<-Builtin.List.listItems (.ref S);Builtin.List.listUpdate (.ref S) (fun _=>#[]);letGo old.toList.reverse;Builtin.List.listExtendWith (.ref S) (.ref it) .none) _ _ s
 refine wpAny_bind ?_
 unfold Builtin.List.listItems
 refine wpAny_bind (wpAny_seqItems hS rfl (wpAny_pure ?_))
 show wpAny _ _ (updateSeq S (fun _=>#[])>>=fun _=>letGo (#[]:Array Value).toList.reverse>>=fun _=>Builtin.List.listExtendWith (.ref S) (.ref it) .none) _ _ s
 refine wpAny_bind (wpAny_updateSeq hS rfl ?_)
 have Z8:=Heap.get?_update_self (Obj.mapSeq (fun _=>(#[]:Array Value))) hS rfl
 have oth:∀b o,b≠S->s.heap.get? b=some o->(s.heap.update S (Obj.mapSeq (fun _=>(#[]:Array Value)))).get? b=some o:=
  fun b o hb e=>(Heap.get?_update_other _ _ (Ne.symm hb)).trans e
 refine wpAny_bind (wpAny_letGo ?_)
 refine z9 hh (hit.at fun o e=>oth it o (Ne.symm K1) e) (hl.at fun o e=>oth l o (Ne.symm Tf) e) hlen S .none _ Z8 Tf K1 EU fun h' tk dg c' hk IG hacc=>?_
 exact hR h' tk dg c' (fun b o hb hb2 e=>hk b o hb hb2 (oth b o hb e)) IG hacc
theorem vp{Q:Value->Shared->Prop}{it l:Addr}{items:Array Value}(hh:A.handled=none)(hit:s.heap.IsRevIter it l ((items.size:Int)-1))(hl:s.heap.IsList l items)(hlen:items.size<=sizeLine)(EU:l≠it)
  (hQ:∀h' tk dg c',(∀b o,b≠it->s.heap.get? b=some o->h'.get? b=some o)->
   h'.get? s.heap.objs.size=some {cls:=.type "list",dict:=none,data:=.seq dg c',slots:=#[]}->ItemsOf (fun i v=>items[items.size-1-i]?=some v) dg items.size->Q (.ref s.heap.objs.size) {s with heap:=h',toks:=tk}):
  wpAny (model prog w) A (call (.type "list") [.ref it]) Q E s:=by
 refine callType_codes (Q₁:=fun obj s₁=>obj=.ref s.heap.objs.size/\s₁={s with heap:=s.heap.push {cls:=.type "list",data:=.seq #[]}}) F.called_list (F.typeCall_list_1 _) F.entry_list_init
  (code_list_new _ ⟨rfl,rfl⟩) fun obj s₁ h₁=>?_
 obtain⟨rfl,rfl⟩:=h₁
 have hS:(s.heap.push {cls:=.type "list",data:=.seq #[]}).get? s.heap.objs.size=some {cls:=.type "list",data:=.seq #[]}:=Heap.get?_push_size _ rfl
 have hlt:l<s.heap.objs.size:=by obtain⟨o,e,_⟩:=hl;exact Heap.lt_size e
 have zX:it<s.heap.objs.size:=by obtain⟨o,e,_⟩:=hit;exact Heap.lt_size e
 refine⟨⟨_,hS,rfl⟩,F.args_list_init_2 _ _,vo (A:=A.in1) hh (hit.at fun o e=>Heap.get?_push_of_some _ e) (hl.at fun o e=>Heap.get?_push_of_some _ e) hlen _ hS (ne_of_gt hlt) (ne_of_gt zX) EU fun h' tk dg c' hk IG hacc=>?_⟩
 exact⟨rfl,hQ h' tk dg c' (fun b o hb e=>hk b o (ne_of_lt (Heap.lt_size e)) hb (Heap.get?_push_of_some _ e)) IG hacc⟩
end
section
variable{X:Cx}{E:Str->Hp->Prop}{pos:Pos}
theorem EV{vs:List V}{its acc:List Value}(r:Vals vs its)(h1:acc.length=its.length)(h2:∀(j:Nat)(v:Value),acc[j]?=some v->its[its.length-1-j]?=some v):Vals vs.reverse acc:=by
 have e:acc=its.reverse:=by
  refine List.ext_getElem? fun j=>?_
  by_cases hj:j<acc.length
  ·have:=h2 j _ (getElem?_eq_getElem hj)
   rw[getElem?_eq_getElem hj,getElem?_reverse (by omega),this]
  ·rw[getElem?_eq_none (by omega),getElem?_eq_none (by simp;omega)]
 subst e
 clear h1 h2
 induction r with
 |nil=>exact .nil
 |cons r1 r2 ih=>rw[reverse_cons,reverse_cons];exact ih.append (.cons r1 .nil)
theorem IsL.rev {K:PySem.W.Frag}{P:Addr->Prop}{H:Hp}:∀{ds:List D}{vs:List V},IsL K P H ds vs->IsL K P H ds.reverse vs.reverse
 |[],_,h=>by
  have h':_=[]:=h
  subst h';exact rfl
 |d::ds,_,⟨v,r,e,p,q⟩=>by
  subst e
  rw[reverse_cons,reverse_cons]
  exact IsL.app (IsL.rev q) (.one p)
theorem Na{a:Expr}{p p2 ko:Pos}{f:DE->R (List D)}(hc:X.calm=true)(CO:X.mg "list"=none)(MX:X.mg "reversed"=none)(ha:PE X a (tL X.K E f))(MY:Gl X "list":=by rfl)(hgr:Gl X "reversed":=by rfl)
  (hs:starEach [a] X.env=(false,eval a X.env)::starEach [] X.env:=by rfl)(he:starEach [.Call (.Name "reversed" p2) [a] [] ko] X.env=(false,eval (.Call (.Name "reversed" p2) [a] [] ko) X.env)::starEach [] X.env:=by rfl)(hpl:(backTo pos (starEach [] X.env)).any (·.1)=false:=by rfl):
  PE X (.Call (.Name "list" p) [.Call (.Name "reversed" p2) [a] [] ko] [] pos) (tF X.K E fun env=>(f env).bind fun xs=>R.ok (reverse xs)):=by
 intro pins s σ H Q I h
 obtain⟨g,env,os,r,m⟩:=h
 refine wpAny_Call_Name_kw (dN I MY CO jK ?_)
 refine PyProof.Rows.callWith_type1 ?_ he hpl
 rw[he]
 refine Calls.spliced_cons ?_
 have Q4:PA X [a] (DX (tL X.K E f) HL):=au ha aC hs
 refine Call_ (dN I hgr MX mG (PyProof.Rows.callWith_type1 (bz (Q4 ko pins s σ H (fun vs H1=>∃ds l ws,vs=[.ref l]/\aB H H1/\bW X.K H1 l ws/\IsL X.K (g.P os) H1 ds ws/\Good E g.H₀ (R.ok (reverse ds)) _) I ⟨g,env,os,r,m.bind.mono fun ds _ q a1 vs H1 s1 q1 i1=>⟨ds,a1,vs,rfl,s1,q1,i1,q⟩⟩) fun us s1 ⟨vs,H1,I1,r1,ds,l,ws,e1,sm,hq,i1,q⟩=>?_) hs rfl))
 subst e1
 obtain⟨u,rfl,ru⟩:=vals1 r1
 cases ru
 obtain⟨its,rv,pl,hz⟩:=I1.list hq
 have hl:=rv.length
 refine call_reversed_list pl.isList ?_
 have I2:Inv X pins σ H1 {s1 with heap:=s1.heap.push (PySem.revObj l ((its.toArray.size:Int)-1))}:=I1.kept (t':=s1.toks) fun b o e=>Heap.get?_push_of_some _ e
 refine Calls.spliced_nil ?_
 have hd:X.A.handled=none:=I.ok.hd hc
 have hlt:l<s1.heap.objs.size:=by obtain⟨o,n,e,_⟩:=pl;exact Heap.lt_size e
 refine vp hd ⟨_,Heap.get?_push_size _ rfl,rfl,rfl⟩ (pl.isList.at fun o e=>Heap.get?_push_of_some _ e) (by rw[size_toArray];omega) (ne_of_lt hlt) fun h' tk dg c' hk Vy hit=>?_
 obtain⟨hi1,hi2⟩:=hit
 have hv:Vals ws.reverse dg.toList:=EV rv (by simpa using hi1) fun i v e=>by
  have:=hi2 i v (by simpa using e)
  simpa using this
 have I3:Inv X pins σ H1 {s1 with heap:=s1.heap.push (PySem.revObj l ((its.toArray.size:Int)-1))}:=I2
 have Mx:∀b o,s1.heap.get? b=some o->h'.get? b=some o:=fun b o e=>hk b o (ne_of_lt (Heap.lt_size e)) (Heap.get?_push_of_some _ e)
 refine⟨.ref _,upd H1 _ (.lst ws.reverse),I1.laid (a:=(s1.heap.push (PySem.revObj l ((its.toArray.size:Int)-1))).objs.size) (t':=tk) Mx (by rw[Heap.size_push];exact le_succ _) ⟨by rw[length_reverse];exact hz,dg.toList,c',hv,by simpa using Vy⟩,rfl,?_⟩
 have hn:H1 (s1.heap.push (PySem.revObj l ((its.toArray.size:Int)-1))).objs.size=none:=I2.hok.fresh (Nat.le_refl _)
 obtain⟨b1,b2,b3,b4⟩:=zT r sm hn (IsL.rev i1)
 exact(show∀a vs H',aB H H'->H a=none->H' a=some (.lst vs)->IsL X.K (g.P (a::os)) H' ds.reverse vs->Q (.ref a) H' from q) _ _ _ b1 b2 b3 b4
end
def Kep(fs xs:List Addr)(h h':Heap):Prop:=∀b o,h.get? b=some o->b∉xs->(b∉fs->h'.get? b=some o)/\∃sl,h'.get? b=some {o with slots:=sl}
structure Exc(h:Heap)(e T C:Addr)(fl:Value):Prop where
 at_:∃vs,h.get? e=some {cls:=.ref C,data:=.fields vs}/\vs[1]?=some (.ref T)
 ne:T≠e
 tb:∃oT ts,h.get? T=some oT/\oT.data=.fields ts/\ts[3]?=some fl
section
variable{P:Program}{w:World}{H H':Hp}{h h1 h2:Heap}{fs XA xs:List Addr}
def Vz(P:Program)(w:World):Dq:=fun outer H s E ev s'=>∃e T C H',ev=.ref e/\Exc s'.heap e T C .none/\s.heap.get? e=none/\s.heap.get? T=none/\H' e=none/\H' T=none/\s'.os=s.os/\AllBare s'.gens/\
 Un (xN outer) [] H H' s.heap s'.heap/\nE P w H' s'.heap/\E (.ref C) none H'
end
def VA(K:PySem.W.Frag)(n:Str):Value:=match nsIn K mainGlobals n with
 |some (some v)=>v
 |_=>.none
section
variable{P:Program}{w:World}{K:PySem.W.Frag}{mg:Str->Option Value}{base:Heap}{N:List Str}{qual:Str}{scope:Scope}{f:Addr}{cd:Value}{A:Around}{outer:List Env}{s:Shared}{H:Hp}{E:XK}
abbrev EW(K:PySem.W.Frag)(E:XK):Str->Hp->Prop:=fun n H'=>E (VA K n) none H'
end
abbrev OkX(P:Program)(w:World)(K:PySem.W.Frag)(mg:Str->Option Value)(base:Heap)(k:Nat)(f:Addr)(fd:FuncData)(ps:List Str)(m:List D->R D):Prop:=bJ P w K mg base (Vz P w) k f fd ps (A8 K (VA K) m)
abbrev Z9(P:Program)(w:World)(K:PySem.W.Frag)(mg:Str->Option Value)(base:Heap)(k:Nat)(f:Addr)(fd:FuncData)(ps:List Str)(m:List D->R (List D)):Prop:=bJ P w K mg base (Vz P w) k f fd ps (G9 K (VA K) m)
section
variable{P:Program}{w:World}{K:PySem.W.Frag}{mg:Str->Option Value}{base:Heap}
variable{x:Str}{st:Stmt}{f:Addr}{fd:FuncData}{N ps:List Str}{k:Nat}{b:DE->R Out}
variable(S:aw N ps (ae st))(d:Df K mg x st ps f fd)
  (hb:∀(cdv:Value)(A:Around)(outer:List Env)(s:Shared)(H:Hp)(E:XK),aT k (A.deeper (envOfC x (ae st) s.heap.objs.size f cdv))->oN (oU (Vz P w) P w K mg base N x (ae st) f cdv A outer s H E) (bg st) (tS K (EW K E) b))
include S d hb
end
abbrev Tc(X:Cx)(e:Addr):Cx:={X with A:=X.A.mark (some (.ref e)),calm:=false,xe:=fun _ _=>False}
theorem ee{K:PySem.W.Frag}{P:Addr->Prop}{H:Hp}:∀{ns:List Int}{vs:List V},IsL K P H (aA ns) vs->vs=ns.map V.int
 |[],_,h=>h
 |n::ns,_,⟨v,r,e,p,q⟩=>by
  have p':v=.int n:=p
  rw[e,p',ee q];rfl
theorem Bp{K:PySem.W.Frag}{P:Addr->Prop}{H:Hp}:∀(ns:List Int),IsL K P H (aA ns) (ns.map V.int)
 |[]=>rfl
 |n::ns=>⟨_,_,rfl,rfl,Bp ns⟩
def mJ(xs:List D):Option D:=(Bj xs).map fun ns=>.int ns.sum
def sortI(ns:List Int):List Int:=ns.mergeSort (fun a b=>decide (a<=b))
def yD(xs:List D):R (List D):=match Bj xs with
 |some ns=>if ns.length<64 then .ok (aA (sortI ns))else .bad
 |none=>.bad
def mK(xs:List D):D->R D
 |.int k=>match Bj xs with
  |some ns=>if k∈ns then .ok (.int (ns.idxOf k:Nat))else .bad
  |none=>.bad
 |_=>.bad
theorem Nb:bootBuiltins "sum"=some (.builtin "sum"):=by decide +kernel
theorem CT:bootBuiltins "sorted"=some (.builtin "sorted"):=by decide +kernel
theorem yE{a b:List Int}(p:a.Perm b)(o:a.Pairwise (·<=·)):a=sortI b:=by
 refine PySem.W.lks_uniq (p.trans (List.mergeSort_perm b _).symm) o ?_
 have h:=List.pairwise_mergeSort (le:=fun a b:Int=>decide (a<=b)) (fun a b c h1 h2=>by simp only [decide_eq_true_eq]at h1 h2⊢;omega) (fun a b=>by simp only [or_eq_true,decide_eq_true_eq];omega) b
 exact h.imp fun h=>by simpa using h
section
variable{X:Cx}{E:Str->Hp->Prop}{pos:Pos}
theorem II{p:Pos}{a:Expr}{f:DE->R (List D)}(hc:X.calm=true)(hm:X.mg "sum"=none)(ha:PE X a (tL X.K E f))(hg:Gl X "sum":=by rfl)
  (he:starEach [a] X.env=(false,eval a X.env)::starEach [] X.env:=by rfl)(hpl:(backTo pos (starEach [] X.env)).any (·.1)=false:=by rfl):PE X (.Call (.Name "sum" p) [a] [] pos) (tD X.K E fun env=>(f env).bind fun xs=>R.of (mJ xs)):=by
 refine imp (g4 (r:=fun xs H Q=>∃(l:Addr)(ns:List Int),xs=[.ref l]/\bW X.K H l (ns.map V.int)/\Q (.int ns.sum) H) ?_ hg hm Nb (au ha aC he) (by decide) (by decide) he hpl) fun σ H Q ⟨g,env,os,r,m⟩=>⟨g,env,os,r,m.bind.mono fun xs _ q l vs H' s hl i=>?_⟩
 ·intro pins s σ H xs us Q I r h
  obtain⟨l,ns,rfl,hl,q⟩:=h
  obtain⟨u,rfl,ru⟩:=vals1 r
  have e:u=.ref l:=ru
  subst e
  obtain⟨its,rv,pl,hz⟩:=I.list hl
  have ia:=intsAre_of rv
  obtain⟨ys,hx⟩:=ia.allInts.items
  have IJ:s.heap.IsList l (intItems ys):=hx▸pl.isList
  have hh:X.A.handled=none:=I.ok.hd hc
  have e1:ns=ys.toList.map (·.1):=by
   rw[<-nums_intItems,<-hx]
   exact(show numsOf its.toArray.toList=ns from ia.numsOf).symm
  refine sum_intListG hh IJ fun h' tk t' hk=>?_
  have e2:preSum (numAt ys) ys.size=ns.sum:=by
   rw[preSum_eq,take_of_length_le (by simp),e1]
  rw[e2]
  exact⟨.int _,H,I.kept (s:=s) (t':=tk) hk,⟨_,rfl⟩,q⟩
 ·obtain⟨d,e,q2⟩:=q.of
  unfold mJ at e
  cases z:Bj xs with
  |none=>rw[z]at e;cases e
  |some ns=>
   rw[z]at e
   have ex:=ud z
   subst ex
   have ev:=ee i
   subst ev
   cases e
   exact⟨l,ns,rfl,hl,q2 _ H' s rfl⟩
theorem IK{p:Pos}{a:Expr}{f:DE->R (List D)}(hm:X.mg "sorted"=none)(ha:PE X a (tL X.K E f))(hg:Gl X "sorted":=by rfl)
  (he:starEach [a] X.env=(false,eval a X.env)::starEach [] X.env:=by rfl)(hpl:(backTo pos (starEach [] X.env)).any (·.1)=false:=by rfl):PE X (.Call (.Name "sorted" p) [a] [] pos) (tF X.K E fun env=>(f env).bind yD):=by
 refine imp (g4 (r:=fun xs H Q=>∃(l:Addr)(ns:List Int),xs=[.ref l]/\bW X.K H l (ns.map V.int)/\ns.length<64/\∀p,H p=none->Q (.ref p) (upd H p (.lst ((sortI ns).map V.int)))) ?_ hg hm CT (au ha aC he) (by decide) (by decide) he hpl) fun σ H Q ⟨g,env,os,r,m⟩=>⟨g,env,os,r,m.bind.mono fun xs _ q l vs H' s hl i=>?_⟩
 ·intro pins s σ H xs us Q I r h
  obtain⟨l,ns,rfl,hl,h64,q⟩:=h
  obtain⟨u,rfl,ru⟩:=vals1 r
  have e:u=.ref l:=ru
  subst e
  obtain⟨its,rv,pl,hz⟩:=I.list hl
  have ia:=intsAre_of rv
  refine PyProof.Rows.sorted_ints pl.isList ia (by rw[IntsAre.length ia];exact h64) fun out Pk a1 a2 a3=>?_
  have es:=yE a2 a3
  subst es
  obtain⟨n,hn⟩:=sortedAll_at s.heap its out
  refine⟨.ref _,_,I.laid (a:=s.heap.objs.size+1) (o:=.lst ((sortI ns).map V.int)) (t':=s.toks) (fun _ _=>sortedAll_old) (le_succ _) ⟨?_,out.toList,n,qA a1,?_⟩,rfl,q _ (I.hok.fresh (le_succ _))⟩
  ·rw[length_map,a2.length_eq]
   exact le_of_lt (lt_trans h64 (by decide))
  ·rw[hn]
 ·unfold yD at q
  split at q
  ·rename_i ns z
   split at q
   ·rename_i c
    have ex:=ud z
    subst ex
    have ev:=ee i
    subst ev
    refine⟨l,ns,rfl,hl,c,fun p hp=>?_⟩
    obtain⟨b1,b2,b3,b4⟩:=zT r s hp (Bp (K:=X.K) (P:=g.P os) (H:=H') (sortI ns))
    exact q p _ _ b1 b2 b3 b4
   ·exact q.elim
  ·exact q.elim
def Nc(K:PySem.W.Frag):V->List V->Hp->VK->Prop:=fun x xs H Q=>∃(l:Addr)(ns:List Int)(k:Int),x=.ref l/\xs=[.int k]/\bW K H l (ns.map V.int)/\k∈ns/\Q (.int (ns.idxOf k:Nat)) H
theorem EY:S5 X "list.index" (Nc X.K):=by
 intro pins s σ H x xs v us Q I rx r h
 obtain⟨l,ns,k,rfl,rfl,hl,hk,q⟩:=h
 obtain⟨u,rfl,t,ru⟩:=vals1 r
 subst ru
 cases rx
 obtain⟨its,rv,pl,hz⟩:=I.list hl
 have ia:=intsAre_of rv
 obtain⟨o,n,h1,h2,h3,h4⟩:=pl
 cases o
 simp only at h2 h3 h4
 subst h2 h3 h4
 have hlen:=ia.length
 have hj:ns.idxOf k<ns.length:=List.idxOf_lt_length_iff.mpr hk
 have hz2:ns.length<=sizeLine:=by simpa using hz
 refine call_meets PySem.F.slot_list_index ⟨_,h1,rfl⟩ PySem.F.entry_list_index (PySem.F.args_list_index_2 _ _)
  (SeqAt.list_indexAt l its.toArray n none _ (.int k t) (isInt k) (ns.idxOf k) (by simpa[hlen]using hj) (by have h63:=oQ;omega) ?_ ?_) ⟨h1,fun y hy=>(eq_isInt k t ia y (by simpa using hy)).at _ _,⟨.int _,H,I.tok _,⟨_,rfl⟩,q⟩⟩
 ·show isInt k its[ns.idxOf k]=true
  rw[isInt_at k ia _ (by omega) hj]
  simpa using getElem_idxOf hj
 ·intro j X7 hlt
  show isInt k its[j]=false
  rw[isInt_at k ia j (by simpa using X7) (by simp at X7;omega)]
  exact ne_of_lt_idxOf hlt _
theorem EZ{o e:Expr}{apos aV:Pos}{fo:DE->R (List D)}{f:DE->R D}(ho:PE X o (tL X.K E fo))(he:PE X e (tB X.K E f))
  (hbase:attributeBase o "index" X.env (eval o X.env)=eval o X.env:=by rfl)
  (hfew:((backTo aV (starEach [e] X.env)).all (fun x=> !x.1)&&(backToKw aV (keywordEach [] X.env)).all (fun x=>x.1.isSome)
   &&decide ([e].length+([]:List Keyword).length+(if([]:List Keyword).isEmpty then 0 else 1)<30))=true:=by rfl)
  (hline:(apos.endLine==aV.line)=true:=by rfl)(hst:starEach [e] X.env=(false,eval e X.env)::starEach [] X.env:=by rfl)(hplain:(backTo aV (starEach [] X.env)).any (·.1)=false:=by rfl):
  PE X (.Call (.Attribute o "index" apos) [e] [] aV) (tD X.K E fun env=>(fo env).bind fun xs=>(f env).bind fun k=>mK xs k):=
 imp (rH plainAttrs_list PySem.F.slot_list_index PySem.F.type_list_index EY ho (au he aC hst) hbase hfew hline hst hplain) fun σ H Q ⟨g,env,os,r,m⟩=>⟨g,env,os,r,m.bind.mono fun xs _ m1 l vs H1 s1 hl i=>⟨.inl ⟨rfl,vs,hl⟩,g,env,os,r.same s1,m1.bind.mono fun k _ q v H2 s2 i2=>by
  unfold mK at q
  split at q
  ·rename_i kk _
   split at q
   ·rename_i ns z
    split at q
    ·rename_i c
     have ex:=ud z
     subst ex
     have ev:=ee i
     subst ev
     have e2:v=.int kk:=i2
     subst e2
     exact⟨l,ns,kk,rfl,rfl,s2.seq hl,c,q _ H2 (s1.trans s2) rfl⟩
    ·exact q.elim
   ·exact q.elim
  ·exact q.elim⟩⟩
end
def E3(lo c:Int)(n:Nat):List D:=(range n).map fun i=>.int (lo+(i:Nat)*c)
abbrev RC(a b c:Int):Prop:= -1000000<=a/\a<=1000000/\ -1000000<=b/\b<=1000000/\c≠0/\ -1000000<=c/\c<=1000000
def E4:List D->R (List D)
 |[.int a,.int b,.int c]=> @ite _ (RC a b c) (propDecidable _) (.ok (E3 a c (Builtin.Range.rangeSize a b c).toNat)) .bad
 |_=>.bad
theorem pN{a b c:Int}(h:RC a b c):0<=Builtin.Range.rangeSize a b c/\Builtin.Range.rangeSize a b c<=2000000:=by
 unfold Builtin.Range.rangeSize
 have e:∀x y:Int,0<=x->x<2000000->1<=y->0<=x/y/\x/y<2000000:=fun x y h1 h2 h3=>⟨Int.ediv_nonneg h1 (by omega),Int.lt_of_le_of_lt (Int.ediv_le_self _ h1) h2⟩
 split
 ·split
  ·have:=e (b-a-1) c (by omega) (by omega) (by omega)
   omega
  ·omega
 ·split
  ·have:=e (a-b-1) (-c) (by omega) (by omega) (by omega)
   omega
  ·omega
theorem IL{a b c:Int}(h:RC a b c):Builtin.Range.small a b c=true:=by
 have hs:=pN h
 unfold Builtin.Range.small
 simp only [Builtin.Range.rangeFitsLong,and_eq_true,or_eq_true,decide_eq_true_eq,beq_iff_eq]
 refine⟨by omega,.inr ?_⟩
 split<;>simp only [and_eq_true,decide_eq_true_eq]<;>omega
section
variable{X:Cx}{E:Str->Hp->Prop}{pos:Pos}{tg:Expr}
theorem IsL.Nd {K:PySem.W.Frag}{P:Addr->Prop}{H:Hp}{d d2 d3:D}{vs:List V}(h:IsL K P H [d,d2,d3] vs):∃v w z,vs=[v,w,z]/\Is K P H d v/\Is K P H d2 w/\Is K P H d3 z:=by
 obtain⟨v,r,rfl,p,q⟩:=h
 obtain⟨w,z,rfl,p2,p3⟩:=IsL.ME q
 exact⟨v,w,z,rfl,p,p2,p3⟩
theorem vals3{x y z:V}{us:List Value}(r:Vals [x,y,z] us):∃u v w,us=[u,v,w]/\RelV x u/\RelV y v/\RelV z w:=by
 cases r with
 |cons p q=>
  obtain⟨v,w,rfl,p2,p3⟩:=vals2 q
  exact⟨_,v,w,rfl,p,p2,p3⟩
theorem IM{K:PySem.W.Frag}{P:Addr->Prop}{H:Hp}{lo c:Int}{n:Nat}:IsL K P H (E3 lo c n) ((range n).map fun i=>V.int (lo+(i:Nat)*c)):=by
 unfold E3
 induction (range n)with
 |nil=>rfl
 |cons x r ih=>exact⟨_,_,rfl,rfl,ih⟩
theorem uf{acc:List Value}{lo c:Int}{n:Nat}(h1:acc.length=n)(h2:∀(j:Nat)(v:Value),acc[j]?=some v->∃t,v=.int (lo+(j:Nat)*c) t):Vals ((range n).map fun i=>V.int (lo+(i:Nat)*c)) acc:=by
 have gen:∀(l:List Value)(k:Nat),(∀(j:Nat)(v:Value),l[j]?=some v->∃t,v=.int (lo+((k+j:Nat):Int)*c) t)->Vals ((range' k l.length).map fun i=>V.int (lo+(i:Nat)*c)) l:=by
  intro l
  induction l with
  |nil=>intro k _;exact .nil
  |cons x r ih=>
   intro k hk
   rw[length_cons,range'_succ,map_cons]
   refine .cons ?_ (ih (k+1) fun j v e=>?_)
   ·obtain⟨t,e⟩:=hk 0 x (by simp)
    exact⟨t,e⟩
   ·obtain⟨t,e⟩:=hk (j+1) v (by simpa using e)
    exact⟨t,by rw[e,show k+(j+1)=k+1+j by omega]⟩
 subst h1
 rw[List.range_eq_range']
 exact gen acc 0 fun j v e=>by
  obtain⟨t,q⟩:=h2 j v e
  exact⟨t,by rw[q,zero_add]⟩
theorem IP{a b c:Expr}{p p2 ko:Pos}{f:DE->R (List D)}(hc:X.calm=true)(CO:X.mg "list"=none)(MX:X.mg "range"=none)(ha:PA X [a,b,c] (pC X.K E f))(MY:Gl X "list":=by rfl)(hgr:Gl X "range":=by rfl)
  (hs:starEach [a,b,c] X.env=(false,eval a X.env)::starEach [b,c] X.env:=by rfl)(Nf:(backTo ko (starEach [b,c] X.env)).any (·.1)=false:=by rfl)(he:starEach [.Call (.Name "range" p2) [a,b,c] [] ko] X.env=(false,eval (.Call (.Name "range" p2) [a,b,c] [] ko) X.env)::starEach [] X.env:=by rfl)(hpl:(backTo pos (starEach [] X.env)).any (·.1)=false:=by rfl):
  PE X (.Call (.Name "list" p) [.Call (.Name "range" p2) [a,b,c] [] ko] [] pos) (tF X.K E fun env=>(f env).bind E4):=by
 intro pins s σ H Q I h
 obtain⟨g,env,os,r,m⟩:=h
 refine wpAny_Call_Name_kw (dN I MY CO jK ?_)
 refine PyProof.Rows.callWith_type1 ?_ he hpl
 rw[he]
 refine Calls.spliced_cons ?_
 refine Call_ (dN I hgr MX t8 (PyProof.Rows.callWith_type1 (bz (ha ko pins s σ H _ I ⟨g,env,os,r,m.bind.mono fun ds _ q vs H1 s1 i1=>(⟨ds,s1,i1,q⟩:∃ds,aB H H1/\IsL X.K Tr H1 ds vs/\Good E g.H₀ (E4 ds) _)⟩) fun us s1 ⟨vs,H1,I1,r1,ds,sm,i1,q⟩=>?_) hs Nf))
 unfold E4 at q
 split at q
 ·rename_i x y z
  split at q
  ·rename_i h
   obtain⟨v1,v2,v3,rfl,k1,k2,k3⟩:=IsL.Nd i1
   have MI:v1=.int x:=k1
   have k2':v2=.int y:=k2
   have k3':v3=.int z:=k3
   subst MI k2' k3'
   obtain⟨u1,u2,u3,rfl,⟨t1,rfl⟩,⟨t2,rfl⟩,⟨t3,rfl⟩⟩:=vals3 r1
   refine call_range_3 h.2.2.2.2.1 ?_ (.inl (PyProof.noPylong_small (by omega)))
   have I2:Inv X pins σ H1 {s1 with heap:=s1.heap.push {cls:=.type "range",data:=.fields #[.int x t1,.int y t2,.int z t3]},toks:=s1.toks}:=I1.kept fun b o e=>Heap.get?_push_of_some _ e
   refine Calls.spliced_nil ?_
   have hd:X.A.handled=none:=I.ok.hd hc
   have hn2:=pN h
   have hsz:Builtin.Range.rangeSize x y z=((Builtin.Range.rangeSize x y z).toNat:Nat):=by omega
   refine call_list_range hd (IsRange.new ..) (IL h) hsz (by omega) fun h' tk dg c' hk hl hit=>?_
   obtain⟨hi1,hi2⟩:=hit
   have hv:Vals ((range (Builtin.Range.rangeSize x y z).toNat).map fun i=>V.int (x+(i:Nat)*z)) dg.toList:=uf (by simpa using hi1) fun i v e=>hi2 i v (by simpa using e)
   have hlen:((range (Builtin.Range.rangeSize x y z).toNat).map fun i=>V.int (x+(i:Nat)*z)).length<=sizeLine:=by
    rw[length_map,length_range]
    exact le_trans (show(Builtin.Range.rangeSize x y z).toNat<=2000000 by omega) (by decide)
   refine⟨.ref _,upd H1 _ (.lst ((range (Builtin.Range.rangeSize x y z).toNat).map fun i=>V.int (x+(i:Nat)*z))),I2.laid (a:=_) hk (Nat.le_refl _) ⟨hlen,dg.toList,c',hv,by simpa using hl⟩,rfl,?_⟩
   have hn:H1 (s1.heap.push {cls:=.type "range",data:=.fields #[.int x t1,.int y t2,.int z t3]}).objs.size=none:=I2.hok.fresh (Nat.le_refl _)
   exact q _ _ _ (sm.trans (aD hn _)) (sm.free hn) ak IM
  ·exact q.elim
 ·exact q.elim
end
theorem cS:∀(names:List (Str×NameKind))(n:Nat)(acc:List (Str×Addr)),cellsFrom n names acc=cellsFrom n names []++acc
 |[],n,acc=>rfl
 |(x,k)::r,n,acc=>by
  unfold cellsFrom
  split
  ·rw[cS r (n+1) ((x,n)::acc),cS r (n+1) [(x,n)],List.append_assoc]
   rfl
  ·exact cS r n acc
theorem ji:∀(names:List (Str×NameKind))(n:Nat){x:Str}{c:Addr},(x,c)∈cellsFrom n names []->(x,NameKind.cell)∈names
 |[],n,x,c,h=>by cases h
 |(y,k)::r,n,x,c,h=>by
  unfold cellsFrom at h
  split at h
  ·rename_i hk
   rw[cS]at h
   rcases mem_append.mp h with z|z
   ·exact mem_cons_of_mem _ (ji r (n+1) z)
   ·rw[mem_singleton]at z
    cases z
    have:k=.cell:=by simpa using hk
    rw[this]
    exact mem_cons_self
  ·exact mem_cons_of_mem _ (ji r n h)
theorem Ng{α:Type}{a b:List (Str×α)}{x:Str}{c:α}(h:(a++b).lookup x=some c):a.lookup x=some c\/(a.lookup x=none/\b.lookup x=some c):=by
 rw[List.lookup_append]at h
 cases q:a.lookup x with
 |some d=>rw[q]at h;exact .inl h
 |none=>rw[q]at h;exact .inr ⟨rfl,h⟩
theorem pO{M:Model}{A:Around}{E:Value->Shared->Prop}{s:Shared}{scope:Scope}{globals:Addr}{cl:List (Str×Addr)}{qual:Str}{func:Option Addr}{code:Value}{around:Env}{builtins:Addr}{Q:Env->Shared->Prop}
  (hQ:Q {scope:=scope,locals:=s.heap.objs.size,globals:=globals,cells:=cellsFrom (s.heap.objs.size+1) scope.names cl,qual:=qual,func:=func,code:=around.code,frame:=around.frame,builtins:=around.builtins} {s with heap:=pushCells (s.heap.push {cls:=.type "dict",data:=.dict #[]}) scope.names}):
  wpAny M A (newFunctionEnv scope globals cl [] qual func code (some around) builtins) Q E s:=by
 simp only [newFunctionEnv,isSome_some,if_true]
 refine wpAny_bind (wpAny_alloc ?_)
 refine wpAny_bind (wpAny_layCells _ (fun name kind cells=>by cases hkc:kind==NameKind.cell<;>simp[hkc]) _ _ _ _ ?_)
 rw[show({s with heap:=s.heap.push {cls:=.type "dict",data:=.dict #[]}}:Shared).heap.objs.size=s.heap.objs.size+1 from Heap.size_push ..]
 rw[List.forIn_nil]
 exact wpAny_bind (wpAny_pure (wpAny_pure hQ))
def Pn(X:Cx)(scope:Scope)(C:Addr):List (Str×Addr):=cellsFrom (C+1) scope.names (vQ X.env.cells scope.names [])
def oy(X:Cx)(scope:Scope)(N:List Str)(s:Shared)(H:Hp)(fp:List Addr)(C:Addr)(pl:List (Addr×Obj)):Cx where
 prog:=X.prog
 w:=X.w
 K:=X.K
 mg:=X.mg
 base:=X.base
 A:=X.A
 N:=N
 s₀:=s
 H₀:=H
 env:=compEnvC scope (Pn X scope C) C X.env
 outer:=X.stack
 stack:=X.stack
 ex:=fp
 fn:=fun x=>scope.names.lookup x==some NameKind.cell
 calm:=X.calm
 pn:=pl
 xe:=fun _ _=>False
structure cB(X:Cx)(scope:Scope)(N:List Str)(nt:Nat)(caps:List Nat):Prop where
 kind:scope.kind=.function
 apart:∀x,scope.names.lookup x=some .free->(x,NameKind.cell)∉scope.names
 names:∀y∈scope.names,y.2=.local->scope.names.lookup y.1=some .local
 free:∀y∈scope.names,y.2=.free->X.env.kindOf y.1=some .cell\/X.env.kindOf y.1=some .free
 len:N.length=nt+caps.length
 nd:N.Nodup
 caps:∀(j i:Nat),caps[j]?=some i->∃x,N[nt+j]?=some x/\X.N[i]?=some x/\scope.names.lookup x=some .free/\vD X.env.scope x
section
variable{X:Cx}{scope:Scope}{N:List Str}{nt:Nat}{caps:List Nat}{pins:List (Addr×Obj)}{σ:St}{H:Hp}{s:Shared}
theorem cB.cells (S:cB X scope N nt caps)(I:Inv X pins σ H s):∀y∈scope.names,y.2=.free->∃c,X.env.cells.lookup y.1=some c:=fun y hy hf=>I.ok.has y.1 (S.free y hy hf)
theorem cB.lk (S:cB X scope N nt caps)(I:Inv X pins σ H s){x:Str}{c:Addr}(h:(vQ X.env.cells scope.names []).lookup x=some c):X.env.cells.lookup x=some c:=
 kW scope.names [] (S.cells I) (fun c e=>by cases e) c h
theorem cB.IQ (S:cB X scope N nt caps)(I:Inv X pins σ H s){C:Addr}(hC:s.heap.objs.size=C){x:Str}{c:Addr}(h:(Pn X scope C).lookup x=some c):
  ((cellsFrom (C+1) scope.names []).lookup x=some c/\C<c/\(pushCells (s.heap.push {cls:=.type "dict",data:=.dict #[]}) scope.names).IsCell c none)\/((cellsFrom (C+1) scope.names []).lookup x=none/\X.env.cells.lookup x=some c/\c<C):=by
 unfold Pn at h
 rw[cS]at h
 have ok:=cellsFrom_ok scope.names (s.heap.push {cls:=.type "dict",data:=.dict #[]}) (C+1) [] ⟨fun _ _ hm=>(nomatch hm),Pairwise.nil⟩ (by rw[Heap.size_push];omega)
 rw[Heap.size_push,hC]at ok
 rcases Ng h with z|⟨z1,z⟩
 ·have q:=ok.empty x c (PySem.mem_of_lookup z)
  exact .inl ⟨z,q.2,q.1⟩
 ·have q:=S.lk I z
  refine .inr ⟨z1,q,?_⟩
  obtain⟨v,hv⟩:=I.cell x c q
  exact hC▸hv.lt
theorem cB.VB (S:cB X scope N nt caps){C:Addr}{x y:Str}{c:Addr}(h1:(cellsFrom (C+1) scope.names []).lookup x=some c)(h2:(cellsFrom (C+1) scope.names []).lookup y=some c){h:Heap}(hC:h.objs.size=C+1):x=y:=by
 have ok:=cellsFrom_ok scope.names h (C+1) [] ⟨fun _ _ hm=>(nomatch hm),Pairwise.nil⟩ (by omega)
 rw[hC]at ok
 exact name_of_addr ok.apart (PySem.mem_of_lookup h1) (PySem.mem_of_lookup h2)
theorem cB.start (S:cB X scope N nt caps)(I:Inv X pins σ H s){fp:List Addr}(hf:∀b∈fp,jE X pins H b){C:Addr}(hC:s.heap.objs.size=C)
  (hpin:∀b∈fp,∃o,s.heap.get? b=some o)
  {vs:List V}(hv:vs.length=caps.length)(hvs:∀(j i:Nat)(v:V),caps[j]?=some i->vs[j]?=some v->σ[i]?=some (some v))(σ':St)(hσ:σ'=replicate nt none++vs.map some):
  Inv (oy X scope N s H fp C (X.pn++pins)) [] σ' H {s with heap:=pushCells (s.heap.push {cls:=.type "dict",data:=.dict #[]}) scope.names}:=by
 subst hσ
 have hH:∀b,s.heap.objs.size<=b->H b=none:=fun b hb=>I.hok.fresh hb
 have IQ:=fun{x c}(h:(Pn X scope C).lookup x=some c)=>S.IQ I hC h
 have k:∀b o,s.heap.get? b=some o->(pushCells (s.heap.push {cls:=.type "dict",data:=.dict #[]}) scope.names).get? b=some o:=fun b o e=>pushCells_keeps _ _ b o (Heap.get?_push_of_some _ e)
 have hn:(pushCells (s.heap.push {cls:=.type "dict",data:=.dict #[]}) scope.names).Ns C (fun _=>none):=by
  rw[<-hC]
  exact(Heap.Ns.new s.heap (.type "dict")).keeps (pushCells_keeps _ _)
 have ok:(oy X scope N s H fp C (X.pn++pins)).Ok:={
  mod:=I.ok.mod
  kind:=S.kind
  glob:=I.ok.glob
  blt:=I.ok.blt
  above:=le_of_eq hC
  inj:=fun x y c h1 h2=>by
   rcases IQ h1 with⟨a1,a2,_⟩|⟨_,a1,a2⟩<;>rcases IQ h2 with⟨b1,b2,_⟩|⟨_,b1,b2⟩
   ·exact S.VB a1 b1 (h:=s.heap.push {cls:=.type "dict",data:=.dict #[]}) (by rw[Heap.size_push,hC])
   ·exact absurd (lt_trans a2 b2) (Nat.lt_irrefl _)
   ·exact absurd (lt_trans a2 b2) (Nat.lt_irrefl _)
   ·exact I.ok.inj x y c a1 b1
  has:=fun x h=>by
   have h':(relabel scope X.env).names.lookup x=some .cell\/(relabel scope X.env).names.lookup x=some .free:=h
   have hk:scope.names.lookup x=some .free\/scope.names.lookup x=some .cell:=by
    rcases h' with h'|h'
    ·obtain⟨k',e,q⟩:=aX h'
     rcases q with rfl|⟨rfl,_⟩
     ·exact .inr e
     ·exact .inl e
    ·obtain⟨k',e,q⟩:=aX h'
     rcases q with rfl|⟨rfl,q⟩
     ·exact .inl e
     ·exact .inl e
   show∃c,(cellsFrom (C+1) scope.names (vQ X.env.cells scope.names [])).lookup x=some c
   rw[cS,List.lookup_append]
   rcases hk with hk|hk
   ·obtain⟨c,hc⟩:=pG (cells:=X.env.cells) (x:=x) scope.names [] (.inr (mem_of_lookup hk))
    cases q:(cellsFrom (C+1) scope.names []).lookup x with
    |some d=>exact⟨d,rfl⟩
    |none=>exact⟨c,hc⟩
   ·have q:=cellsFrom_some scope.names (C+1) [] (.inl hk)
    obtain⟨d,hd⟩:=isSome_iff_exists.mp q
    rw[hd]
    exact⟨d,rfl⟩
  LQ:=fun x c hx h=>by
   have hk:scope.names.lookup x=some .cell:=by
    have:(scope.names.lookup x==some NameKind.cell)=true:=hx
    simpa using this
   rcases IQ h with⟨_,a2,_⟩|⟨a0,_,_⟩
   ·show s.heap.objs.size<=c
    rw[hC]
    exact le_of_lt a2
   ·have q:=cellsFrom_some scope.names (C+1) [] (.inl hk)
    obtain⟨d,hd⟩:=isSome_iff_exists.mp q
    rw[hd]at a0
    cases a0
  hd:=I.ok.hd
  frames:=I.ok.frames
  O6:=.inl rfl
  LR:=fun b hb=>by
   obtain⟨o,e⟩:=hpin b hb
   have hlt:=Heap.lt_size e
   refine⟨fun z=>absurd (z▸hlt) (by show¬C<_;rw[hC];exact Nat.lt_irrefl _),fun x c h z=>?_⟩
   rcases IQ h with⟨_,a2,_⟩|⟨_,a1,_⟩
   ·rw[z]at a2
    exact absurd (lt_trans a2 (hC▸hlt)) (Nat.lt_irrefl _)
   ·exact(hf b hb).2.2.2.2.1 x c a1 z
  bs:=I.bs
  Cn:=le_trans I.ok.Cn I.sz
  xX:=fun b o e hb=>by
   rcases(hf b hb).2.2.2.1 with z|z
   ·exact I.ok.xX b o e z
   ·exact absurd (lt_of_lt_of_le (Heap.lt_size e) (le_trans I.ok.Cn z)) (Nat.lt_irrefl _)
  wD:=fun b hb z=>by
   rcases mem_cons.mp (I.qu b z)with q|q
   ·exact(hf b hb).2.1 q
   ·exact(hf b hb).2.2.1 q
  o8:=I.stack
  Hs:=I.wF}
 refine⟨ok,rfl,I.bare,Un.kept k,⟨_,hn,fun i x v e1 e2 e3=>?_⟩,fun x c e=>?_,hH C (le_of_eq hC),fun x c e=>?_,fun p hp=>?_,I.hok.kept k,?_⟩
 ·have hi:nt<=i:=by
   refine le_of_not_lt fun z=>?_
   rw[getElem?_append_left (by simpa using z),getElem?_replicate]at e2
   split at e2<;>cases e2
  rw[getElem?_append_right (by simpa using hi),getElem?_map]at e2
  have Ek:(vs[i-nt]?).map some=some (some v):=by simpa using e2
  cases q:vs[i-nt]? with
  |none=>rw[q]at Ek;cases Ek
  |some v'=>
   rw[q]at Ek
   cases Ek
   have hj:i-nt<caps.length:=by rw[<-hv];exact(List.getElem?_eq_some_iff.mp q).1
   obtain⟨x',h1,h2,h3,h4⟩:=S.caps (i-nt) caps[i-nt] (getElem?_eq_getElem hj)
   have ex:x'=x:=by
    have D7:N[i]?=some x:=e1
    rw[show nt+(i-nt)=i by omega,D7]at h1
    exact(Option.some.inj h1).symm
   subst ex
   have hs:=hvs (i-nt) _ v (getElem?_eq_getElem hj) q
   obtain⟨m0,hn0,Va⟩:=I.loc
   obtain⟨u,r,l⟩:=Va _ x' v h2 hs h4
   refine⟨u,r,?_⟩
   have hkx:=S.free _ (mem_of_lookup h3) rfl
   rcases l with⟨k1,_⟩|⟨k1,c,hc,hcell⟩
   ·have MI:X.env.kindOf x'=some .local:=k1
    rcases hkx with z|z
    ·have z':X.env.kindOf x'=some .cell:=z
     rw[MI]at z';cases z'
    ·have z':X.env.kindOf x'=some .free:=z
     rw[MI]at z';cases z'
   ·obtain⟨c',AO⟩:=ok.has x' (by
     rcases e3 with z|z|z
     ·exfalso
      obtain⟨k',e,q⟩:=aX (show(relabel scope X.env).names.lookup x'=some .local from z)
      rcases q with rfl|⟨_,q⟩
      ·rw[h3]at e;cases e
      ·cases q
     ·exact .inl z
     ·exact .inr z)
    have hc2:X.env.cells.lookup x'=some c':=by
     rcases IQ AO with⟨a1,_,_⟩|⟨_,a1,_⟩
     ·exact absurd (ji _ _ (PySem.mem_of_lookup a1)) (S.apart x' h3)
     ·exact a1
    rw[hc]at hc2
    cases hc2
    refine .inr ⟨?_,c,AO,let⟨o,ho,hd⟩:=hcell;⟨o,k _ o ho,hd⟩⟩
    rcases e3 with z|z|z
    ·exfalso
     obtain⟨k',e,q⟩:=aX (show(relabel scope X.env).names.lookup x'=some .local from z)
     rcases q with rfl|⟨_,q⟩
     ·rw[h3]at e;cases e
     ·cases q
    ·exact .inl z
    ·exact .inr z
 ·rcases IQ e with⟨_,_,a3⟩|⟨_,a1,_⟩
  ·exact⟨_,a3⟩
  ·obtain⟨v,z⟩:=I.cell x c a1
   exact⟨v,let⟨o,ho,hd⟩:=z;⟨o,k _ o ho,hd⟩⟩
 ·rcases IQ e with⟨_,a2,_⟩|⟨_,a1,_⟩
  ·exact hH c (by rw[hC];exact le_of_lt a2)
  ·exact I.mw x c a1
 ·have J0:p∈X.pn++pins:=by simpa[oy]using hp
  obtain⟨e,n,ne,nf,d⟩:=I.pin p J0
  refine⟨k _ _ e,n,fun z=>absurd (Heap.lt_size e) (by rw[z];show¬C<_;rw[hC];exact Nat.lt_irrefl _),fun z=>?_,d⟩
  rcases mem_cons.mp (I.qu _ z)with q|q
  ·exact ne q
  ·exact nf q
 ·show(replicate nt none++vs.map some).length=N.length
  rw[S.len];simp[hv]
end
section
variable{X:Cx}{E:Str->Hp->Prop}{pos:Pos}{scope:Scope}{N:List Str}{nt:Nat}{caps:List Nat}
theorem E5{elt tg iter:Expr}{ifs:List Expr}{fi:DE->R (List D)}{b:D->DE->R DE}{ct:DE->R Bool}{fe:DE->R D}(S:cB X scope N nt caps)(pH:X.calm=true)(hi:PI X tg iter (Pd X.K E fi))
  (hb1:∀ds d e,b d (dR nt ds)=.ok e->∃ts,e=ts++ds.map .val/\ts.length=nt)
  (hg:∀s H fp C pl,PG (oy X scope N s H fp C pl) tg (tG X.K EN b))(ht:∀s H fp C pl,Pe (oy X scope N s H fp C pl) ifs (tT X.K EN ct))(he:∀s H fp C pl,PE (oy X scope N s H fp C pl) elt (tD X.K EN fe))
  (hs:∀x,foldedSetIterable iter X.env x=pure x){use:Option (Value->Sem Unit)}{Qv:Value->Shared->Prop}{pins:List (Addr×Obj)}{s:Shared}{σ:St}{H:Hp}{env:DE}{os:List Addr}{g:Gh}(I:Inv X pins σ H s)(r:Rel X.K g env σ H os)
  (m:Good E g.H₀ ((fi env).bind fun xs=>(cM env caps).bind fun ds=>(bj b ct fe (dR nt ds) xs).ne.bind fit) (QQ X pins σ g os H use Qv)){ps:Pos}:
  wpAny (model X.prog X.w) X.A (comprehension (.ListComp elt [⟨tg,iter,ifs,0⟩] scope pos) scope X.env ps (newList []) false (eval iter X.env) use) Qv X.xe s:=by
 refine wpAny_comprehension_free (use:=use) rfl hs (j5 (S.cells I)) S.kind S.names ?_
 refine bz (hi pins s σ H (fun J H1=>∃xs,aB H H1/\U7 X.K (g.P os) J H1 xs/\Good E g.H₀ ((cM env caps).bind fun ds=>(bj b ct fe (dR nt ds) xs).ne.bind fit) _) I ⟨g,env,os,r,m.bind.mono fun xs _ m1 J H1 s1 yl=>⟨xs,s1,yl,m1⟩⟩) fun v s1 h1=>bz h1 fun itv s2 h2=>?_
 obtain⟨it,fp,tn,J,H2,rfl,I2,T,x6,f2,xs,CK,yl,m1⟩:=h2
 have r2:=r.same CK
 obtain⟨ds,vs,m2,MJ,Tc,hds,hvs⟩:=m1.bind.cM r2
 cases ec:bj b ct fe (dR nt ds) xs with
 |bad=>rw[ec]at m2;exact m2.elim
 |err c=>rw[ec]at m2;exact m2.elim
 |ok ys=>
 rw[ec]at m2
 obtain⟨hz,q⟩:=(show Good E g.H₀ (fit ys) _ from m2).fit
 refine wpAny_newObj_type (pO ?_)
 dsimp only
 have CL:H2 s2.heap.objs.size=none:=I2.hok.fresh (Nat.le_refl _)
 have I3:Inv X pins σ (upd H2 s2.heap.objs.size (.lst [])) {s2 with heap:=s2.heap.push {cls:=.type "list",dict:=none,data:=.seq ([]:List Value).toArray}}:=
  I2.laid (t':=s2.toks) (fun b u e=>Heap.get?_push_of_some _ e) (Nat.le_refl _) ⟨zero_le _,[],0,.nil,Heap.get?_push_size _ rfl⟩
 generalize J1:({s2 with heap:=s2.heap.push {cls:=.type "list",dict:=none,data:=.seq ([]:List Value).toArray}}:Shared)=s3 at I3
 have Em:s3.heap=s2.heap.push {cls:=.type "list",dict:=none,data:=.seq ([]:List Value).toArray}:=by rw[<-J1]
 rw[<-Em]
 generalize QR:s2.heap.objs.size=Dd at*
 have k3:∀b o,s3.heap.get? b=some o->(pushCells (s3.heap.push {cls:=.type "dict",data:=.dict #[]}) scope.names).get? b=some o:=fun b o e=>pushCells_keeps _ _ b o (Heap.get?_push_of_some _ e)
 have yo:∀b∈fp,∃o,s2.heap.get? b=some o:=fun b hb=>let⟨o,e,_⟩:=T.obj 0 _ x6 b hb;⟨o,e⟩
 have En:∀b∈fp,∃o,s3.heap.get? b=some o:=fun b hb=>let⟨o,e⟩:=yo b hb;⟨o,by rw[Em];exact Heap.get?_push_of_some _ e⟩
 have QS:∀b∈fp,b≠Dd:=fun b hb=>let⟨o,e⟩:=yo b hb;by rw[<-QR];exact ne_of_lt (Heap.lt_size e)
 have f3:∀b∈fp,jE X pins (upd H2 Dd (.lst [])) b:=fun b hb=>⟨by rw[ah (QS b hb)];exact(f2 b hb).1,(f2 b hb).2⟩
 have sD:aB H2 (upd H2 Dd (.lst [])):=aD CL _
 have I4:=S.start I3 f3 rfl En MJ (fun j i v e1 e2=>hvs j i v e1 e2) _ rfl
 generalize hX:oy X scope N s3 (upd H2 Dd (.lst [])) fp s3.heap.objs.size (X.pn++pins)=X' at I4
 have J2:=hg s3 (upd H2 Dd (.lst [])) fp s3.heap.objs.size (X.pn++pins)
 have zW:=ht s3 (upd H2 Dd (.lst [])) fp s3.heap.objs.size (X.pn++pins)
 have Ha:=he s3 (upd H2 Dd (.lst [])) fp s3.heap.objs.size (X.pn++pins)
 rw[hX]at J2 zW Ha
 have eK:X'.K=X.K:=by rw[<-hX];rfl
 have eP:X'.prog=X.prog:=by rw[<-hX];rfl
 have eW:X'.w=X.w:=by rw[<-hX];rfl
 have eA:X'.A=X.A:=by rw[<-hX];rfl
 have eE:X'.xe=fun _ _=>False:=by rw[<-hX];rfl
 have eC:X'.calm=true:=by rw[<-hX];exact pH
 have eL:X'.env.locals=s3.heap.objs.size:=by rw[<-hX];rfl
 have eS:X'.s₀=s3:=by rw[<-hX];rfl
 have eX:X'.ex=fp:=by rw[<-hX];rfl
 have eF:X'.fs=xN X.stack:=by rw[<-hX];rfl
 have eN:X'.pn=X.pn++pins:=by rw[<-hX];rfl
 have eH:X'.H₀=upd H2 Dd (.lst []):=by rw[<-hX];rfl
 have eV:X'.env=compEnvC scope (Pn X scope s3.heap.objs.size) s3.heap.objs.size X.env:=by rw[<-hX];rfl
 have Eo:∀{Hx:Hp},(∀b∈fp,Hx b=none)->∀b∈fp,jE X' [] Hx b:=fun{Hx} hn b hb=>by
  obtain⟨_,c1,c2,c3,c4,c5⟩:=f3 b hb
  have q:=I4.ok.LR b (by rw[eX];exact hb)
  refine⟨hn b hb,q.1,I4.ok.wD b (by rw[eX];exact hb),.inl (by rw[eX];exact hb),q.2,fun p hp=>?_⟩
  rw[eN,append_nil]at hp
  exact c5 p hp
 let g':Gh:=⟨g.P os,H2⟩
 have QT:∀{Hx:Hp},aB H2 Hx->Ext (g.P os) (g'.P [Dd]) H2 Hx:=fun sx=>⟨fun a o p e=>⟨.inl p,fun z=>by
  have z':a=Dd:=by simpa using z
  rw[z',CL]at e;cases e⟩,fun a o _ e=>sx a o e⟩
 have MK:Rel X.K g' (dR nt ds) (replicate nt none++vs.map some) (upd H2 Dd (.lst [])) [Dd]:=by
  refine⟨by simp[dR,MJ,Tc],sD,fun i d e=>?_,fun i xs e=>(nM e).elim,fun i j xs ys b e=>(nM e).elim,fun b hb=>?_,fun i w e=>(wX e).elim,yh.none fun i w e=>tU e⟩
  ·obtain⟨h1,h2⟩:=wW e
   obtain⟨v,q1,q2⟩:=hds.get h2
   refine⟨v,?_,Is.ext (QT sD) _ _ q2⟩
   rw[getElem?_append_right (by simpa using h1),getElem?_map,length_replicate,q1]<;>rfl
  ·have e:b=Dd:=by simpa using hb
   subst e
   exact⟨CL,_,ak⟩
 have loop:∀s4:Shared,Inv X' [] (replicate nt none++vs.map some) (upd H2 Dd (.lst [])) s4->tn 0 s4.heap->
   codeAny (model X.prog X.w) X.A (.compLoop (.ListComp elt [⟨tg,iter,ifs,0⟩] scope pos) 0 (.ref it) (.ref Dd) (compEnvC scope (Pn X scope s3.heap.objs.size) s3.heap.objs.size X.env))
    (compPost (model X.prog X.w) X.A X.xe use Qv (.ref Dd) s3.heap.objs.size) s4:=by
  intro s4 J4 yp
  refine mC (fun n s'=>∃i acc as rest Hx σ',n=xs.length-i/\i<=xs.length/\Inv X' [] σ' Hx s'/\tn i s'.heap/\(∀b∈fp,Hx b=none)/\Hx Dd=some (.lst acc)/\IsL X.K (g'.P [Dd]) Hx as acc/\
   bj b ct fe (dR nt ds) (xs.drop i)=.ok rest/\as++rest=ys/\Rel X.K g' (dR nt ds) σ' Hx [Dd]) ?_ xs.length
   ⟨0,[],[],ys,_,_,by simp,zero_le _,J4,yp,fun b hb=>(f3 b hb).1,ak,rfl,by rw[drop_zero];exact ec,rfl,MK⟩
  rintro n s5 ⟨i,acc,as,rest,Hx,σ5,rfl,XX,J5,Dn,Cv,Hb,ML,c5,e5,r5⟩
  obtain⟨y1,y2⟩:=yl i Hx (g'.P [Dd]) r5.ext (QT r5.ext)
  by_cases hlt:i<xs.length
  ·have hx:xs[i]?=some xs[i]:=getElem?_eq_getElem hlt
   obtain⟨go,y3⟩:=y1 _ hx
   rw[List.drop_eq_getElem_cons hlt]at c5
   obtain⟨e1,Ij,c6⟩:=R.bM (show(b xs[i] (dR nt ds)).bind _=.ok rest from c5)
   obtain⟨t,Pf,c7⟩:=R.bM c6
   have TI:=T.item X' eP eW eK eC i [] s5 σ5 Hx (fun _ _=>False) J5 (Eo Cv) Dn go
   rw[eA]at TI
   refine bz TI fun r s6 h6=>?_
   obtain⟨u,rfl,h6⟩:=h6
   refine bz h6 fun _ s7 h7=>?_
   obtain⟨x,H7,J7,rx,hy,Ep,QU⟩:=h7
   obtain⟨CM,hix⟩:=y3 x H7 hy
   have ix:Is X.K (g'.P [Dd]) H7 xs[i] x:=Is.ext ⟨fun a o p _=>p.elim (fun z=>z) fun z=>r5.fresh z,fun _ _ _ z=>z⟩ _ _ hix
   have QV:=J7.pinned (Eo QU) (T.obj _ _ Ep)
   have TG:=J2 _ s7 σ5 H7 x u (fun σ8 H8=>∃e8,b xs[i] (dR nt ds)=.ok e8/\Rel X.K g' e8 σ8 H8 [Dd]/\H8=H7) QV rx ⟨g',dR nt ds,[Dd],xs[i],r5.same CM,ix,kX Ij fun σ8 r8=>⟨e1,Ij,r8,rfl⟩⟩
   rw[eP,eW,eA,eE,eV]at TG
   refine bz TG fun _ s8 h8=>?_
   obtain⟨σ8,H8,J8,e8,QW,r8,Td⟩:=h8
   rw[Td]at J8 r8
   rw[Ij]at QW
   cases QW
   have TT:=zW _ s8 σ8 H7 (fun t' H9=>t'=t/\aB H7 H9) J8 ⟨g',e1,[Dd],r8,kX Pf fun H9 s9=>⟨rfl,s9⟩⟩
   rw[eP,eW,eA,eE,eV]at TT
   refine bz TT fun ok s9 h9=>?_
   obtain⟨H9,J9,rfl,vj⟩:=h9
   obtain⟨ts,hts,Ik⟩:=hb1 ds _ _ Ij
   have tV:∀{σx:St}{Hy:Hp}{sx:Shared},Inv X' ([]++oO fp s7.heap) σx Hy sx->tn (i+1) sx.heap/\∀b∈fp,Hy b=none:=fun{σx Hy sx} Jx=>
    ⟨T.keep _ _ _ Ep fun b hb o e=>(Jx.pin (b,o) (mem_append_right _ (mem_append_right _ (dh hb e)))).1,fun b hb=>by
     obtain⟨o,e,d⟩:=T.obj _ _ Ep b hb
     exact(Jx.pin (b,o) (mem_append_right _ (mem_append_right _ (dh hb e)))).2.1⟩
   cases ok with
   |false=>
    rw[if_neg Bool.false_ne_true]
    have c8:bj b ct fe (dR nt ds) (xs.drop (i+1))=.ok rest:=c7
    obtain⟨k1,k2⟩:=tV J9
    exact⟨xs.length-(i+1),by omega,i+1,acc,as,rest,H9,σ8,rfl,hlt,J9.gZ,k1,k2,vj _ _ (CM _ _ Hb),(ML.same CM).same vj,c8,e5,
     sI r8 hts Ik (.same vj) (r8.ext.trans vj) ⟨_,vj _ _ (CM _ _ Hb)⟩⟩
   |true=>
    rw[if_pos rfl]
    obtain⟨d,Vc,c8⟩:=R.bM (show(fe e1).bind _=.ok rest from c7)
    obtain⟨tW,Vd,c9⟩:=R.bM c8
    have Ve:rest=d::tW:=by cases c9;rfl
    subst Ve
    have TE:=Ha _ s9 σ8 H9 (fun v pI=>aB H9 pI/\Is X.K (g'.P [Dd]) pI d v) J9 ⟨g',e1,[Dd],r8.same vj,kX Vc fun v pI Il Vf=>⟨Il,Vf⟩⟩
    rw[eP,eW,eA,eE,eV]at TE
    refine bz TE fun y Il QX=>?_
    obtain⟨v,pI,QY,rv,wY,iv⟩:=QX
    have Er:pI Dd=some (.lst acc):=wY _ _ (vj _ _ (CM _ _ Hb))
    have Es:IsL X.K (g'.P [Dd]) pI as acc:=((ML.same CM).same vj).same wY
    have TM:=cR (X:=X') _ Il σ8 pI (.ref Dd) [v] (.ref Dd) [y] (fun _ Im=>Im=upd pI Dd (.lst (acc++[v]))) QY rfl (.cons rv .nil) ⟨Dd,acc,v,rfl,rfl,Er,by
     rw[Es.length]
     have:(as++d::tW).length<=sizeLine:=by rw[e5];exact hz
     rw[length_append,length_cons]at this
     omega,rfl⟩
    rw[eP,eW,eA,eE]at TM
    refine bz TM fun _ XY h11=>?_
    obtain⟨v',Im,J3,_,rfl⟩:=h11
    obtain⟨k1,k2⟩:=tV J3
    have QZ:Ext (g'.P [Dd]) (g'.P [Dd]) pI (upd pI Dd (.lst (acc++[v]))):=⟨fun _ _ p _=>p,fun a o p e=>by rw[ah (fun z=>p.2 (by simp[z]))];exact e⟩
    have MM:aB H2 pI:=(r8.ext.trans vj).trans wY
    refine⟨xs.length-(i+1),by omega,i+1,acc++[v],as++[d],tW,_,σ8,rfl,hlt,J3.gZ,k1,k2,ak,IsL.ext QZ _ _ (Es.app (.one iv)),Vd,by rw[List.append_assoc];exact e5,?_⟩
    exact sI (r8.same (vj.trans wY)) hts Ik QZ (fun a o e=>by rw[ah (ao (show H2 a=some o from e) CL)];exact MM a o e) ⟨_,ak⟩
  ·have e:i=xs.length:=by omega
   subst e
   rw[drop_length]at c5
   have Vg:rest=[]:=by cases c5;rfl
   subst Vg
   rw[append_nil]at e5
   subst e5
   have TD:=T.done X' eP eW eK eC xs.length [] s5 σ5 Hx (fun _ _=>False) J5 (Eo Cv) Dn (y2 rfl)
   rw[eA]at TD
   refine bz TD fun r s6 h6=>?_
   obtain⟨rfl,J6⟩:=h6
   obtain⟨m6,Ds,_⟩:=J6.loc
   rw[eL]at Ds
   have Q0:Un (xN X.stack) fp (upd H2 Dd (.lst [])) Hx s3.heap s6.heap:=by
    have u:=J6.base
    rw[eF,eX,eH,eS]at u
    exact u
   have hxC:Hx s3.heap.objs.size=none:=by have:=J6.free;rw[eL]at this;exact this
   have Et:nE X.prog X.w Hx s6.heap:=by
    have z:=J6.hok
    rw[eP,eW]at z
    exact z
   have Q1:s6.os=s3.os:=by have:=J6.os;rw[eS]at this;exact this
   have I6:Inv X pins σ Hx s6:=I3.DD (s':=s6) Q1 Q0 Et J6.bare fun b hb=>by
    obtain⟨_,c1,c2,c3,c4,c5⟩:=f3 b hb
    exact⟨c3,c1,c4,c5⟩
   have fC:jE X pins Hx s3.heap.objs.size:=⟨hxC,(I3.zF (Nat.le_refl _) (I3.hok.fresh (Nat.le_refl _))).2⟩
   refine q Dd s3.heap.objs.size acc Hx s6 I6 ⟨m6,Ds⟩ fC (CK.trans r5.ext) (CK.free CL) Hb (IsL.ext ⟨fun a o p _=>?_,fun _ _ _ z=>z⟩ _ _ ML)
   have z:g.P os a:=p.1.elim (fun z=>z) fun z=>r2.fresh z
   exact⟨z.1,fun hm=>(mem_cons.mp hm).elim (fun z=>p.2 (by simp[z])) z.2⟩
 have yp:tn 0 (pushCells (s3.heap.push {cls:=.type "dict",data:=.dict #[]}) scope.names):=T.keep _ _ _ x6 fun b hb o e=>k3 b o (by rw[Em];exact Heap.get?_push_of_some _ e)
 have eG:({s3 with heap:=pushCells (s3.heap.push {cls:=.type "dict",data:=.dict #[]}) scope.names}:Shared)={s2 with heap:=pushCells (s3.heap.push {cls:=.type "dict",data:=.dict #[]}) scope.names}:=by rw[<-J1]
 rw[eG]at I4
 exact codeAny_compStart_list (loop _ I4 yp) (T.self _ 0 _ _ _ yp (loop _ I4 yp))
variable{elt tg iter:Expr}{ifs:List Expr}{fi:DE->R (List D)}{b:D->DE->R DE}{ct:DE->R Bool}{fe:DE->R D}
theorem Nh(S:cB X scope N nt caps)(pH:X.calm=true)(hi:PI X tg iter (Pd X.K E fi))
  (hb1:∀ds d e,b d (dR nt ds)=.ok e->∃ts,e=ts++ds.map .val/\ts.length=nt)
  (hg:∀s H fp C pl,PG (oy X scope N s H fp C pl) tg (tG X.K EN b))(ht:∀s H fp C pl,Pe (oy X scope N s H fp C pl) ifs (tT X.K EN ct))(he:∀s H fp C pl,PE (oy X scope N s H fp C pl) elt (tD X.K EN fe))
  (hs:∀x,foldedSetIterable iter X.env x=pure x:=by intro _;rfl):
  PE X (.ListComp elt [⟨tg,iter,ifs,0⟩] scope pos) (tF X.K E fun env=>(fi env).bind fun xs=>(cM env caps).bind fun ds=>(bj b ct fe (dR nt ds) xs).ne.bind fit):=by
 intro pins s σ H Q I h
 obtain⟨g,env,os,r,m⟩:=h
 rw[eval_ListComp]
 refine E5 S pH hi hb1 hg ht he hs I r (m.mono fun ys _ q Dd C acc Hx s6 I6 hn fC sm hD hx ia=>?_)
 obtain⟨m6,Ds⟩:=hn
 refine⟨m6,Ds,fun h7 Q2=>⟨.ref Dd,Hx,vR (fp:=[C]) (t':=s6.toks) I6 (fun b hb=>by
  have z:b=C:=by simpa using hb
  rw[z];exact fC) (fun b u hb e=>(Q2.2 b (fun z=>hb (by simp[z]))).trans e),rfl,q Dd acc Hx sm hD hx ia⟩⟩
end
def E6(yw sc:Scope)(XN N:List Str)(nt:Nat)(caps:List Nat):Bool:=
 sc.kind==.function&&sc.names.all (fun y=>(y.2 !=.free||sc.names.all fun z=> !(z.1==y.1&&z.2==.cell))&&(y.2 !=.local||sc.names.lookup y.1==some .local)&&(y.2 !=.free||yw.names.lookup y.1==some .cell||yw.names.lookup y.1==some .free))&&
 N.length==nt+caps.length&&decide N.Nodup&&(range caps.length).all fun j=>match caps[j]?,N[nt+j]? with
  |some i,some x=>XN[i]?==some x&&sc.names.lookup x==some .free&&(yw.names.lookup x==some .local||yw.names.lookup x==some .cell||yw.names.lookup x==some .free)
  |_,_=>false
theorem VC{X:Cx}{sc:Scope}{N:List Str}{nt:Nat}{caps:List Nat}(yw:Scope)(XN:List Str)(h:E6 yw sc XN N nt caps=true)(hsc:X.env.scope=yw:=by rfl)(hN:X.N=XN:=by rfl):cB X sc N nt caps:=by
 subst hsc hN
 unfold E6 at h
 simp only [and_eq_true,List.all_eq_true,or_eq_true,decide_eq_true_eq,beq_iff_eq,bne_iff_ne,ne_eq,Bool.not_eq_true',Bool.and_eq_false_iff,beq_eq_false_iff_ne]at h
 obtain⟨⟨⟨⟨h1,h2⟩,h3⟩,h4⟩,h5⟩:=h
 refine⟨by simpa using h1,fun x hx hm=>?_,fun y hy e=>?_,fun y hy e=>?_,h3,h4,fun j i e=>?_⟩
 ·rcases(h2 _ (mem_of_lookup hx)).1.1 with q|q
  ·exact q rfl
  ·rcases q _ hm with z|z
   ·exact z rfl
   ·exact z rfl
 ·rcases(h2 y hy).1.2 with q|q
  ·exact absurd e q
  ·exact q
 ·rcases(h2 y hy).2 with(q|q)|q
  ·exact absurd e q
  ·exact .inl q
  ·exact .inr q
 ·have hj:j<caps.length:=(List.getElem?_eq_some_iff.mp e).1
  have q:=h5 j (by simpa using hj)
  rw[e]at q
  cases hx:N[nt+j]? with
  |none=>rw[hx]at q;exact absurd q (by simp)
  |some x=>
   rw[hx]at q
   simp only [and_eq_true,or_eq_true,beq_iff_eq]at q
   obtain⟨⟨q1,q2⟩,q3⟩:=q
   refine⟨x,rfl,q1,q2,?_⟩
   rcases q3 with(q3|q3)|q3
   ·exact .inl q3
   ·exact .inr (.inl q3)
   ·exact .inr (.inr q3)
section
variable{K:PySem.W.Frag}{g:Gh}{env:DE}{σ:St}{H H':Hp}{os:List Addr}
theorem jM{α:Type}{l:List α}{i j:Nat}{x y:α}(e:(l.set i x)[j]?=some y)(h:y≠x):i≠j/\l[j]?=some y:=by
 by_cases hj:i=j
 ·subst hj
  exact(h (aR e)).elim
 ·rw[getElem?_set_ne hj]at e
  exact⟨hj,e⟩
theorem jN:∀{a b:List Addr},a.map V.ref=b.map V.ref->a=b
 |[],[],_=>rfl
 |[],_::_,h=>by cases h
 |_::_,[],h=>by cases h
 |x::a,y::b,h=>by
  injection h with h1 h2
  injection h1 with h1
  rw[h1,jN h2]
theorem Rel.Ni (r:Rel K g env σ H os){l:List Addr}(s:aB H H')(hn:∀a∈l,H a=none):Ext (g.P os) (g.P (l++os)) H H':=
 ⟨fun b o p e=>⟨p.1,fun hm=>by
  rcases mem_append.mp hm with z|z
  ·rw[hn b z]at e;cases e
  ·exact p.2 z⟩,fun b o _ e=>s b o e⟩
theorem Rel.VD (r:Rel K g env σ H os)(s:aB H H')(i:Nat){nss:List (List Int)}{a:Addr}{as:List Addr}(hn:∀b∈a::as,H b=none)(nd:(a::as).Nodup)(hl:as.length=nss.length)(hH:H' a=some (.lst (as.map V.ref)))
  (hi:∀(k:Nat)(b:Addr)(ns:List Int),as[k]?=some b->nss[k]?=some ns->H' b=some (.lst (ns.map V.int))):
  Rel K g (env.set i (.deep nss)) (σ.set i (some (.ref a))) H' ((a::as)++os):=by
 have ap:=r.Ni s hn
 have f:∀(j:Nat)(sl:Sl),(env.set i (Sl.deep nss))[j]?=some sl->sl≠.deep nss->i≠j/\env[j]?=some sl:=fun j sl q hn=>jM q hn
 have dp:Dp H' ((a::as)++os) a as nss:=⟨by simp,hH,hl,nd,fun k b ns e1 e2=>⟨mem_append_left _ (mem_cons_of_mem _ (mem_of_getElem? e1)),hi k b ns e1 e2⟩⟩
 have hnew:∀x∈a::as,x∉os:=fun x hx hm=>by
  obtain⟨o,ho⟩:=(r.new x hm).2
  rw[hn x hx]at ho
  cases ho
 refine⟨by simp[r.len],r.ext.trans s,fun j d q=>?_,fun j xs q=>?_,fun j k xs ys b q1 q2 q3 q4=>?_,fun b hb=>?_,fun j v q=>?_,?_⟩
 ·obtain⟨hj,q⟩:=f j _ q (fun z=>nomatch z)
  obtain⟨v,h1,h2⟩:=r.val j d q
  exact⟨v,by rw[getElem?_set_ne hj];exact h1,Is.ext ap _ _ h2⟩
 ·obtain⟨hj,q⟩:=f j _ q (fun z=>nomatch z)
  obtain⟨b,vs,h1,h2,h3,h4⟩:=r.own j xs q
  exact⟨b,vs,by rw[getElem?_set_ne hj];exact h1,mem_append_right _ h2,s _ _ h3,IsL.ext ap _ _ h4⟩
 ·obtain⟨hj,q1⟩:=f j _ q1 (fun z=>nomatch z)
  obtain⟨hk,q2⟩:=f k _ q2 (fun z=>nomatch z)
  rw[getElem?_set_ne hj]at q3
  rw[getElem?_set_ne hk]at q4
  exact r.inj j k xs ys b q1 q2 q3 q4
 ·rcases mem_append.mp hb with z|z
  ·exact⟨r.ext.free (hn b z),(dp.mem b z).2⟩
  ·obtain⟨h1,o,h2⟩:=r.new b z
   exact⟨h1,o,s _ _ h2⟩
 ·obtain⟨hj,q⟩:=f j _ q (fun z=>nomatch z)
  rw[getElem?_set_ne hj]
  exact r.raw j v q
 ·obtain⟨A,dd⟩:=r.D8
  refine⟨fun j=>if j=i then a::as else A j,fun j ou q=>?_,fun j ou k xs b q1 q2 q3=>?_,fun j k ou Nj X8 q1 q2 x hx=>?_⟩
  ·by_cases hj:j=i
   ·subst hj
    have z:=aR q
    cases z
    exact⟨a,as,if_pos rfl,by rw[getElem?_set_self (by rw[r.len];exact vM q)],dp⟩
   ·have q':=q
    rw[getElem?_set_ne (Ne.symm hj)]at q'
    obtain⟨b,bs,h1,h2,h3⟩:=dd.dp j ou q'
    refine⟨b,bs,by rw[if_neg hj];exact h1,by rw[getElem?_set_ne (Ne.symm hj)];exact h2,h3.to fun x hx=>?_⟩
    obtain⟨z1,o,z2⟩:=h3.mem x hx
    exact⟨mem_append_right _ z1,by rw[s x o z2,z2]⟩
  ·obtain⟨hk,q2⟩:=f k _ q2 (fun z=>nomatch z)
   rw[getElem?_set_ne hk]at q3
   show b∉if j=i then a::as else A j
   by_cases hj:j=i
   ·rw[if_pos hj]
    obtain⟨c,vs,h1,h2,_⟩:=r.own k xs q2
    rw[q3]at h1
    cases h1
    exact fun z=>hnew b z h2
   ·rw[if_neg hj]
    rw[getElem?_set_ne (Ne.symm hj)]at q1
    exact dd.ow j ou k xs b q1 q2 q3
  ·show x∉if k=i then a::as else A k
   have E7:x∈if j=i then a::as else A j:=hx
   by_cases hj:j=i
   ·have hk:k≠i:=fun z=>X8 (by rw[hj,z])
    rw[if_pos hj]at E7
    rw[if_neg hk]
    rw[getElem?_set_ne (Ne.symm hk)]at q2
    exact fun z=>hnew x E7 (dd.mem q2 x z).1
   ·rw[if_neg hj]at E7
    rw[getElem?_set_ne (Ne.symm hj)]at q1
    by_cases hk:k=i
    ·rw[if_pos hk]
     exact fun z=>hnew x z (dd.mem q1 x E7).1
    ·rw[if_neg hk]
     rw[getElem?_set_ne (Ne.symm hk)]at q2
     exact dd.dj j k ou Nj X8 q1 q2 x E7
theorem Rel.VE (r:Rel K g env σ H os){i:Nat}{nss:List (List Int)}(e:env[i]?=some (.deep nss)){a:Addr}{as:List Addr}(hσ:σ[i]?=some (some (.ref a)))(ha:H a=some (.lst (as.map V.ref))){k:Nat}{b:Addr}{ns:List Int}(hk:as[k]?=some b)(hns:k<nss.length)(Pk:List Int):
  b∈os/\Rel K g (env.set i (.deep (nss.set k Pk))) σ (upd H b (.lst (Pk.map V.int))) os:=by
 obtain⟨A,dd⟩:=r.D8
 obtain⟨a0,uT,hA,h1,h3⟩:=dd.dp i nss e
 rw[hσ]at h1
 cases h1
 have has:uT=as:=by
  have z:=h3.ha
  rw[ha]at z
  have z2:as.map V.ref=uT.map V.ref:=by injection z with z;injection z
  exact(jN z2).symm
 subst has
 have oZ:b∈os:=(h3.it k b nss[k] hk (getElem?_eq_getElem hns)).1
 have Rm:b∈A i:=by rw[hA];exact mem_cons_of_mem _ (mem_of_getElem? hk)
 refine⟨oZ,?_⟩
 have ex:Ext (g.P os) (g.P os) H (upd H b (.lst (Pk.map V.int))):=⟨fun _ _ p _=>p,fun c o p q=>by rw[ah (fun z=>p.2 (by rw[z];exact oZ))];exact q⟩
 have f:∀(j:Nat)(sl:Sl),(env.set i (Sl.deep (nss.set k Pk)))[j]?=some sl->sl≠.deep (nss.set k Pk)->i≠j/\env[j]?=some sl:=fun j sl q hn=>jM q hn
 have VF:b≠a:=fun z=>(nodup_cons.mp h3.nd).1 (by rw[<-z];exact mem_of_getElem? hk)
 refine⟨by simp[r.len],fun c o q=>?_,fun j d q=>?_,fun j xs q=>?_,fun j k xs ys c q1 q2 q3 q4=>?_,fun c hc=>?_,fun j v q=>?_,?_⟩
 ·rw[ah (fun z=>by rw[z,(r.new b oZ).1]at q;cases q)]
  exact r.ext c o q
 ·obtain⟨hj,q⟩:=f j _ q (fun z=>nomatch z)
  obtain⟨v,h1,h2⟩:=r.val j d q
  exact⟨v,h1,Is.ext ex _ _ h2⟩
 ·obtain⟨hj,q⟩:=f j _ q (fun z=>nomatch z)
  obtain⟨c,vs,h1,h2,Rn,h4⟩:=r.own j xs q
  have VG:c≠b:=fun z=>dd.ow i nss j xs c e q h1 (by rw[z];exact Rm)
  exact⟨c,vs,h1,h2,by rw[ah VG];exact Rn,IsL.ext ex _ _ h4⟩
 ·obtain⟨hj,q1⟩:=f j _ q1 (fun z=>nomatch z)
  obtain⟨hk,q2⟩:=f k _ q2 (fun z=>nomatch z)
  exact r.inj j k xs ys c q1 q2 q3 q4
 ·obtain⟨z1,o,z2⟩:=r.new c hc
  refine⟨z1,?_⟩
  by_cases z:c=b
  ·exact⟨_,by rw[z];exact ak⟩
  ·exact⟨o,by rw[ah z];exact z2⟩
 ·obtain⟨hj,q⟩:=f j _ q (fun z=>nomatch z)
  exact r.raw j v q
 ·have h3k:∀(m:Nat),uT[m]?=some b->m=k:=fun m hm=>by
   have VH:=(nodup_cons.mp h3.nd).2
   have hm1:=(List.getElem?_eq_some_iff.mp hm).1
   have hk1:=(List.getElem?_eq_some_iff.mp hk).1
   exact(List.getElem_inj VH).mp (by rw[(List.getElem?_eq_some_iff.mp hm).2,(List.getElem?_eq_some_iff.mp hk).2])
  refine⟨A,fun j ou q=>?_,fun j ou m xs c q1 q2 q3=>?_,fun j m ou Nj Po q1 q2 x hx=>?_⟩
  ·by_cases hj:i=j
   ·subst hj
    have z:=aR q
    cases z
    refine⟨a,uT,hA,hσ,h3.ma,by rw[ah (Ne.symm VF)];exact h3.ha,by rw[length_set];exact h3.len,h3.nd,fun m c ms e1 e2=>?_⟩
    by_cases hm:c=b
    ·subst hm
     have VI:=h3k m e1
     subst VI
     rw[getElem?_set_self hns]at e2
     cases e2
     exact⟨oZ,ak⟩
    ·have VI:k≠m:=fun z=>hm (by rw[z]at hk;rw[hk]at e1;cases e1;rfl)
     rw[getElem?_set_ne VI]at e2
     rw[ah hm]
     exact h3.it m c ms e1 e2
   ·rw[getElem?_set_ne hj]at q
    obtain⟨c,cs,z1,z2,z3⟩:=dd.dp j ou q
    refine⟨c,cs,z1,z2,z3.to fun x hx=>?_⟩
    have hxb:x≠b:=fun z=>dd.dj i j nss ou hj e q b Rm (by rw[z1,<-z];exact hx)
    exact⟨(z3.mem x hx).1,ah hxb⟩
  ·obtain⟨_,q2⟩:=f m _ q2 (fun z=>nomatch z)
   by_cases hj:i=j
   ·subst hj
    exact dd.ow i nss m xs c e q2 q3
   ·rw[getElem?_set_ne hj]at q1
    exact dd.ow j ou m xs c q1 q2 q3
  ·have p1:∃ms,env[j]?=some (.deep ms):=by
    by_cases hj:i=j
    ·subst hj;exact⟨nss,e⟩
    ·rw[getElem?_set_ne hj]at q1;exact⟨ou,q1⟩
   have p2:∃ms,env[m]?=some (.deep ms):=by
    by_cases hj:i=m
    ·subst hj;exact⟨nss,e⟩
    ·rw[getElem?_set_ne hj]at q2;exact⟨Nj,q2⟩
   obtain⟨m1,p1⟩:=p1
   obtain⟨m2,p2⟩:=p2
   exact dd.dj j m m1 m2 Po p1 p2 x hx
end
section
variable{X:Cx}{E:Str->Hp->Prop}{pos:Pos}
def X9(K:PySem.W.Frag)(E:Str->Hp->Prop)(f:DE->R (List (List Int))):TA:=fun σ H Q=>∃g env os,Rel K g env σ H os/\Good E g.H₀ (f env) fun nss=>∀(as:List Addr)(H':Hp),aB H H'->(∀b∈as,H b=none)->as.Nodup->as.length=nss.length->
 (∀(k:Nat)(b:Addr)(ns:List Int),as[k]?=some b->nss[k]?=some ns->H' b=some (.lst (ns.map V.int)))->Q (as.map V.ref) H'
theorem K2:PA X [] (X9 X.K E fun _=>.ok []):=Eb aC fun σ H Q ⟨g,env,os,r,m⟩=>m [] H (aB.refl H) (fun _ z=>nomatch z) .nil rfl (fun _ _ _ z=>by simp at z)
theorem K3(i:Nat){x:Str}{es:List Expr}{f:DE->R (List (List Int))}{pos' p:Pos}(he:PA X es (X9 X.K E f))(hN:X.N.Nodup)(hi:X.N[i]?=some x:=by rfl)(hx:Loc X.env.scope x:=by first|exact Or.inl rfl|exact Or.inr rfl)(hs:swapsWith (.List es p) (some (.Name x pos')) pos.line X.env=pure false:=by rfl)
  (hf:X.fn x=true\/X.env.scope.names.lookup x=some .local:=by first|exact .inl rfl|exact .inr rfl|assumption):PS X (.Assign [.Name x pos'] (.List es p) pos) (tS X.K E fun env=>(f env).bind fun nss=>(fit nss).bind fun nss=>.ok (.nx (env.set i (.deep nss)))):=
 og (cz hN hi hx (qz he) hs hf) fun De σ H ⟨g,env,os,r,m⟩=>⟨g,env,os,r,m.bind.mono fun nss _ m1 as H1 s1 hn nd hl hc=>by
  obtain⟨hz,q⟩:=m1.bind.fit
  refine⟨by rw[length_map,hl];exact hz,fun p hp=>?_⟩
  have VJ:p∉as:=fun z=>by
   obtain⟨k,hk,rfl⟩:=getElem_of_mem z
   have:=hc k _ _ (getElem?_eq_getElem hk) (getElem?_eq_getElem (by rw[<-hl];exact hk))
   rw[hp]at this
   cases this
  have sp:=aD hp (.lst (as.map V.ref))
  have hnew:∀b∈p::as,H b=none:=fun b hb=>by
   rcases mem_cons.mp hb with rfl|hb
   ·exact s1.free hp
   ·exact hn b hb
  have s2:=s1.trans sp
  refine q _ _ ((p::as)++os) (r.VD s2 i hnew (nodup_cons.mpr ⟨VJ,nd⟩) hl ak fun k b ns e1 e2=>sp _ _ (hc k b ns e1 e2)) ⟨fun b hb=>?_,fun b hb=>s2.free hb,fun b o _ hb=>s2 b o hb⟩
  rcases mem_append.mp hb with z|z
  ·exact .inr (hnew b z)
  ·exact .inl z⟩
end
def E8:Out->R (List (List Int))
 |.A6 nss=>.ok nss
 |_=>.bad
def spT(K:PySem.W.Frag)(m:List D->R (List (List Int))):Sp:=fun vs H Q E=>∃P ds,IsL K P H ds vs/\(match m ds with
 |.ok nss=>∀(a:Addr)(as:List Addr)(H':Hp),aB H H'->Mz H H' a as nss->Q (.ref a) H'
 |_=>False)
def mT(n N:Nat)(b:DE->R Out)(ds:List D):R (List (List Int)):=if ds.length=n then((b (aH N ds)).bind E8).ne else .bad
abbrev Pp(P:Program)(w:World)(K:PySem.W.Frag)(mg:Str->Option Value)(base:Heap)(k:Nat)(f:Addr)(fd:FuncData)(ps:List Str)(m:List D->R (List (List Int))):Prop:=bJ P w K mg base jH k f fd ps (spT K m)
section
variable{P:Program}{w:World}{K:PySem.W.Frag}{mg:Str->Option Value}{base:Heap}
theorem Yb{x:Str}{st:Stmt}{f:Addr}{fd:FuncData}{N ps:List Str}{k:Nat}{b:DE->R Out}(S:aw N ps (ae st))(d:Df K mg x st ps f fd)
  (hb:∀(cdv:Value)(A:Around)(outer:List Env)(s:Shared)(H:Hp)(E:XK),aT k (A.deeper (envOfC x (ae st) s.heap.objs.size f cdv))->oN (oU jH P w K mg base N x (ae st) f cdv A outer s H E).Dm (bg st) (tS K EN b)):
  Pp P w K mg base (k+1) f fd ps (mT ps.length N.length b):=by
 refine d.F.ok S (fun vs H Q E h=>?_) (fun cdv A outer s H vs Q E hr h=>?_)
 ·obtain⟨Pa,ds,i,h⟩:=h
  cases e:mT ps.length N.length b ds with
  |ok nss=>
   rw[i.length]
   unfold mT at e
   split at e
   ·assumption
   ·cases e
  |err c=>rw[e]at h;exact h.elim
  |bad=>rw[e]at h;exact h.elim
 ·obtain⟨Pa,ds,i,h⟩:=h
  refine⟨_,hb cdv A outer s H E hr,⟨⟨Pa,H⟩,aH N.length ds,[],qJ i,?_⟩⟩
  cases e:mT ps.length N.length b ds with
  |err c=>rw[e]at h;exact h.elim
  |bad=>rw[e]at h;exact h.elim
  |ok nss=>
   rw[e]at h
   unfold mT at e
   split at e
   ·have q:=R.br e
    cases eb:b (aH N.length ds)with
    |bad=>rw[eb]at q;cases q
    |err c=>rw[eb]at q;cases q
    |ok o=>
     rw[eb]at q
     cases o with
     |A6 ou=>
      cases q
      exact fun a as H' s' nd=>h a as H' s' nd
     |H0 _=>cases q
     |G7 _=>cases q
     |HZ _=>cases q
     |o7 _=>cases q
     |rt _=>cases q
     |nx _=>cases q
     |bk _=>cases q
     |ct _=>cases q
   ·cases e
end
section
variable{X:Cx}{E:Str->Hp->Prop}{pos:Pos}
def Yc(K:PySem.W.Frag)(E:Str->Hp->Prop)(f:DE->R (List (List Int))):TE:=fun σ H Q=>∃g env os,Rel K g env σ H os/\Good E g.H₀ (f env) fun nss=>∀(a:Addr)(as:List Addr)(H':Hp),aB H H'->Mz H H' a as nss->Q (.ref a) H'
theorem fT1{x:Str}{st:Stmt}{ps:List Str}{fa:Addr}{fd:FuncData}{k:Nat}{p:Pos}{e:Expr}{es:List Expr}{f:DE->R (List D)}{m:List D->R (List (List Int))}(d:Df X.K X.mg x st ps fa fd)(F:Pp X.prog X.w X.K X.mg X.base k fa fd ps m)(hr:aT k X.A)
  (ha:PA X (e::es) (pC X.K E f))(hg:Gl X x:=by rfl)(hdb:(x==("__debug__":Str))=false:=by decide)(he:starEach (e::es) X.env=(false,eval e X.env)::starEach es X.env:=by rfl)(hpl:(backTo pos (starEach es X.env)).any (·.1)=false:=by rfl):
  PE X (.Call (.Name x p) (e::es) [] pos) (Yc X.K E fun env=>((f env).bind m).ne):=
 imp (cU (E:=fun _ _ _=>False) F hr hg d.m d.F.kp d.b .nil jJ ha hdb he hpl) fun σ H Q ⟨g,env,os,r,q⟩=>⟨g,env,os,r,by
  dsimp only at q
  cases ef:f env with
  |bad=>rw[ef]at q;exact q.elim
  |err c=>rw[ef]at q;exact q.elim
  |ok ds=>
   rw[ef]at q
   cases em:m ds with
   |bad=>rw[show((R.ok ds).bind m)=m ds from rfl,em]at q;exact q.elim
   |err c=>rw[show((R.ok ds).bind m)=m ds from rfl,em]at q;exact q.elim
   |ok nss=>
    rw[show((R.ok ds).bind m)=m ds from rfl,em]at q
    intro vs H1 s1 i1
    show spT X.K m (vs++[]) H1 Q _
    rw[append_nil]
    refine⟨_,ds,i1,?_⟩
    rw[em]
    exact fun a as H' s' nd=>q a as H' (s1.trans s') (nd.back s1)⟩
def eU(i:Nat)(env:DE):R (List (List Int)):=match env[i]? with
 |some (.deep (.ls nss))=>.ok nss
 |_=>.bad
theorem Good.deep {H₀:Hp}{i:Nat}{env:DE}{p:List (List Int)->Prop}(h:Good E H₀ (eU i env) p):∃nss:List (List Int),env[i]?=some (.deep nss)/\p nss:=by
 unfold eU at h
 split at h
 ·rename_i nss e
  exact⟨nss,e,h⟩
 ·exact h.elim
theorem K4(i:Nat){x:Str}{p:Pos}(hN:X.N[i]?=some x:=by rfl)(hv:vD X.env.scope x:=by first|exact Or.inl rfl|exact Or.inr (Or.inl rfl)|exact Or.inr (Or.inr rfl))(hd:(x==("__debug__":Str))=false:=by decide)
  (hcd:(x==("__classdict__":Str))=false:=by decide):PS X (.Return (some (.Name x p)) pos) (tS X.K E fun env=>(eU i env).bind fun nss=>.ok (.A6 nss)):=
 og (j0 (ie hN hv hd hcd)) fun De σ H ⟨g,env,os,r,m⟩=>by
  obtain⟨nss,e,q⟩:=m.bind.deep
  obtain⟨A,dd⟩:=r.D8
  obtain⟨a,as,hA,h1,h3⟩:=dd.dp i nss e
  exact⟨.ref a,h1,(show gy X.K g H os De (.A6 nss)from q) a as H r.ext ⟨fun b hb=>(r.new b (h3.mem b hb).1).1,h3.nd,h3.len,h3.ha,fun k b ns e1 e2=>(h3.it k b ns e1 e2).2⟩⟩
end
section
variable{X:Cx}{E:Str->Hp->Prop}{pos:Pos}
theorem Rel.xh {K:PySem.W.Frag}{g:Gh}{env:DE}{σ:St}{H:Hp}{os:List Addr}(r:Rel K g env σ H os){ix:Nat}{nss:List (List Int)}(e:env[ix]?=some (.deep nss)):∃(a:Addr)(as:List Addr),σ[ix]?=some (some (.ref a))/\H a=some (.lst (as.map V.ref))/\as.length=nss.length/\∀(k:Nat)(ns:List Int),nss[k]?=some ns->∃b,as[k]?=some b/\H b=some (.lst (ns.map V.int)):=by
 obtain⟨A,dd⟩:=r.D8
 obtain⟨a,as,_,h1,h3⟩:=dd.dp ix nss e
 refine⟨a,as,h1,h3.ha,h3.len,fun k ns hk=>?_⟩
 have hl:k<as.length:=by rw[h3.len];exact(List.getElem?_eq_some_iff.mp hk).1
 exact⟨as[k],getElem?_eq_getElem hl,(h3.it k _ ns (getElem?_eq_getElem hl) hk).2⟩
def yF(nss:List (List Int)):D->R (Nat×List Int)
 |.int i=>(match o6 nss.length i with
  |some k=>(match nss[k]? with
   |some ns=>.ok (k,ns)
   |none=>.bad)
  |none=>.bad)
 |_=>.bad
theorem Good.yF {H₀:Hp}{nss:List (List Int)}{a:D}{p:Nat×List Int->Prop}(h:Good E H₀ (yF nss a) p):∃i k ns,a=.int i/\o6 nss.length i=some k/\nss[k]?=some ns/\p (k,ns):=by
 unfold DL.yF at h
 split at h
 ·rename_i i
  split at h
  ·rename_i k hk
   split at h
   ·rename_i ns hns
    exact⟨i,k,ns,rfl,hk,hns,h⟩
   ·exact h.elim
  ·exact h.elim
 ·exact h.elim
theorem Nk{α:Type}{xs:List α}{i:Int}{k:Nat}{x:α}(h:o6 xs.length i=some k)(hx:xs[k]?=some x):iP xs i=some x:=by
 unfold L2.iP
 rw[h]
 exact hx
end
section
variable{K:PySem.W.Frag}{g:Gh}{env:DE}{σ:St}{H H1:Hp}{os:List Addr}
theorem Rel.Ro (r:Rel K g env σ H os)(s:aB H H1){i:Nat}{nss:List (List Int)}(e:env[i]?=some (.deep nss)){a b:Addr}{as:List Addr}{ns:List Int}(hσ:σ[i]?=some (some (.ref a)))(ha:H a=some (.lst (as.map V.ref)))(hn:H b=none)(hb:H1 b=some (.lst (ns.map V.int))):
  a∈os/\Rel K g (env.set i (.deep (nss++[ns]))) σ (upd H1 a (.lst (as.map V.ref++[.ref b]))) (b::os):=by
 obtain⟨A,dd⟩:=r.D8
 obtain⟨a0,uT,hA,h1,h3⟩:=dd.dp i nss e
 rw[hσ]at h1
 cases h1
 have has:uT=as:=by
  have z:=h3.ha
  rw[ha]at z
  have z2:as.map V.ref=uT.map V.ref:=by injection z with z;injection z
  exact(jN z2).symm
 subst has
 have oZ:a∈os:=h3.ma
 have hnew:b∉os:=fun hm=>by
  obtain⟨o,ho⟩:=(r.new b hm).2
  rw[hn]at ho
  cases ho
 have hab:b≠a:=fun z=>hnew (by rw[z];exact oZ)
 refine⟨oZ,?_⟩
 have ex:Ext (g.P os) (g.P (b::os)) H (upd H1 a (.lst (uT.map V.ref++[.ref b]))):=⟨fun c o p q=>⟨p.1,fun hm=>by
  rcases mem_cons.mp hm with z|z
  ·rw[z,hn]at q;cases q
  ·exact p.2 z⟩,fun c o p q=>by rw[ah (fun z=>p.2 (by rw[z];exact oZ))];exact s c o q⟩
 have f:∀(j:Nat)(sl:Sl),(env.set i (Sl.deep (nss++[ns])))[j]?=some sl->sl≠.deep (nss++[ns])->i≠j/\env[j]?=some sl:=fun j sl q hn=>jM q hn
 have keep:∀c∈os,c≠a->∀o,H c=some o->(upd H1 a (.lst (uT.map V.ref++[.ref b]))) c=some o:=fun c _ hc o ho=>by rw[ah hc];exact s c o ho
 refine⟨by simp[r.len],fun c o q=>?_,fun j d q=>?_,fun j xs q=>?_,fun j k xs ys c q1 q2 q3 q4=>?_,fun c hc=>?_,fun j v q=>?_,?_⟩
 ·rw[ah (fun z=>by rw[z,(r.new a oZ).1]at q;cases q)]
  exact s _ _ (r.ext c o q)
 ·obtain⟨hj,q⟩:=f j _ q (fun z=>nomatch z)
  obtain⟨v,h1,h2⟩:=r.val j d q
  exact⟨v,h1,Is.ext ex _ _ h2⟩
 ·obtain⟨hj,q⟩:=f j _ q (fun z=>nomatch z)
  obtain⟨c,vs,h1,h2,Rn,h4⟩:=r.own j xs q
  have hca:c≠a:=fun z=>dd.ow i nss j xs c e q h1 (by rw[z,hA];exact mem_cons_self)
  exact⟨c,vs,h1,mem_cons_of_mem _ h2,keep c h2 hca _ Rn,IsL.ext ex _ _ h4⟩
 ·obtain⟨hj,q1⟩:=f j _ q1 (fun z=>nomatch z)
  obtain⟨hk,q2⟩:=f k _ q2 (fun z=>nomatch z)
  exact r.inj j k xs ys c q1 q2 q3 q4
 ·rcases mem_cons.mp hc with z|z
  ·rw[z]
   exact⟨r.ext.free hn,_,by rw[ah hab];exact hb⟩
  ·obtain⟨z1,o,z2⟩:=r.new c z
   refine⟨z1,?_⟩
   by_cases w:c=a
   ·exact⟨_,by rw[w];exact ak⟩
   ·exact⟨o,keep c z w o z2⟩
 ·obtain⟨hj,q⟩:=f j _ q (fun z=>nomatch z)
  exact r.raw j v q
 ·have sub:∀(j':Nat)(y:Addr),(y∈if j'=i then a::(uT++[b])else A j')->y∈A j'\/(j'=i/\y=b):=fun j' y hy=>by
   by_cases hj:j'=i
   ·rw[if_pos hj]at hy
    rw[hj,hA]
    rcases mem_cons.mp hy with w|w
    ·rw[w];exact .inl mem_cons_self
    ·rcases mem_append.mp w with w|w
     ·exact .inl (mem_cons_of_mem _ w)
     ·exact .inr ⟨rfl,by simpa using w⟩
   ·rw[if_neg hj]at hy
    exact .inl hy
  have p1:∀(j:Nat)(ms:Ct),(env.set i (Sl.deep (nss++[ns])))[j]?=some (.deep ms)->∃Nm,env[j]?=some (.deep Nm):=fun j ms q=>by
   by_cases hj:i=j
   ·subst hj;exact⟨nss,e⟩
   ·rw[getElem?_set_ne hj]at q;exact⟨ms,q⟩
  refine⟨fun j=>if j=i then a::(uT++[b])else A j,fun j ou q=>?_,fun j ou m xs c q1 q2 q3 hx=>?_,fun j m ou Nj Po q1 q2 x hx QM=>?_⟩
  ·by_cases hj:j=i
   ·have q':=q
    rw[hj]at q'
    have z:=aR q'
    cases z
    refine⟨a,uT++[b],if_pos hj,by rw[hj];exact hσ,mem_cons_of_mem _ h3.ma,by rw[map_append];exact ak,by rw[length_append,length_append,h3.len];rfl,?_,fun m c ms e1 e2=>?_⟩
    ·have VL:b∉uT:=fun z=>hnew (h3.mem b (mem_cons_of_mem _ z)).1
     have nd:=nodup_cons.mp h3.nd
     refine nodup_cons.mpr ⟨fun z=>?_,?_⟩
     ·rcases mem_append.mp z with w|w
      ·exact nd.1 w
      ·have:a=b:=by simpa using w
       exact hab this.symm
     ·rw[List.nodup_append]
      refine⟨nd.2,by simp,fun x hx y hy=>?_⟩
      have UH:y=b:=by simpa using hy
      rw[UH]
      exact fun z=>VL (by rw[<-z];exact hx)
    ·by_cases hm:m<uT.length
     ·rw[getElem?_append_left hm]at e1
      rw[getElem?_append_left (by rw[<-h3.len];exact hm)]at e2
      obtain⟨w1,w2⟩:=h3.it m c ms e1 e2
      have hca:c≠a:=fun z=>(nodup_cons.mp h3.nd).1 (by rw[<-z];exact mem_of_getElem? e1)
      exact⟨mem_cons_of_mem _ w1,keep c w1 hca _ w2⟩
     ·have hk2:m=uT.length:=by
       have:=(List.getElem?_eq_some_iff.mp e1).1
       rw[length_append]at this
       simp at this
       omega
      subst hk2
      have z1':b=c:=by simpa using e1
      rw[h3.len]at e2
      have z2':ns=ms:=by simpa using e2
      subst z1' z2'
      exact⟨mem_cons_self,by rw[ah hab];exact hb⟩
   ·rw[getElem?_set_ne (Ne.symm hj)]at q
    obtain⟨c,cs,z1,z2,z3⟩:=dd.dp j ou q
    refine⟨c,cs,by rw[if_neg hj];exact z1,z2,z3.to fun x hx=>?_⟩
    have hxa:x≠a:=fun z=>dd.dj i j nss ou (Ne.symm hj) e q a (by rw[hA];exact mem_cons_self) (by rw[z1,<-z];exact hx)
    obtain⟨w1,o,w2⟩:=z3.mem x hx
    exact⟨mem_cons_of_mem _ w1,by rw[keep x w1 hxa o w2,w2]⟩
  ·have Tg:=(f m _ q2 (fun z=>nomatch z)).2
   obtain⟨Nm,p⟩:=p1 j ou q1
   rcases sub j c hx with w|⟨_,w⟩
   ·exact dd.ow j Nm m xs c p Tg q3 w
   ·obtain⟨c',vs,w1,w2,_⟩:=r.own m xs Tg
    rw[q3]at w1
    cases w1
    exact hnew (by rw[<-w];exact w2)
  ·obtain⟨m1,w1⟩:=p1 j ou q1
   obtain⟨m2,w2⟩:=p1 m Nj q2
   rcases sub j x hx with u|⟨u1,u⟩<;>rcases sub m x QM with v|⟨v1,v⟩
   ·exact dd.dj j m m1 m2 Po w1 w2 x u v
   ·exact hnew (by rw[<-v];exact(dd.mem w1 x u).1)
   ·exact hnew (by rw[<-u];exact(dd.mem w2 x v).1)
   ·exact Po (by rw[u1,v1])
end
section
variable{X:Cx}{E:Str->Hp->Prop}{pos:Pos}
def Aa(ix:Nat)(env:DE)(nss:List (List Int))(kn:Nat×List Int):D->R Out
 |.int v=> @ite _ (kn.2.length<sizeLine) (propDecidable _) (.ok (.nx (env.set ix (.deep (nss.set kn.1 (kn.2++[v])))))) .bad
 |_=>.bad
theorem Good.Aa {H₀:Hp}{ix:Nat}{env:DE}{nss:List (List Int)}{kn:Nat×List Int}{d:D}{p:Out->Prop}(h:Good E H₀ (Aa ix env nss kn d) p):∃v,d=.int v/\kn.2.length<sizeLine/\p (.nx (env.set ix (.deep (nss.set kn.1 (kn.2++[v]))))):=by
 unfold DL.Aa at h
 split at h
 ·split at h
  ·rename_i c
   exact⟨_,rfl,c,h⟩
  ·exact h.elim
 ·exact h.elim
theorem Nn(ix:Nat){x:Str}{ei e:Expr}{fi f:DE->R D}{p Rp apos aV:Pos}(hi:PE X ei (tB X.K E fi))(he:PE X e (tB X.K E f))(hN:X.N[ix]?=some x:=by rfl)(hv:vD X.env.scope x:=by first|exact Or.inl rfl|exact Or.inr (Or.inl rfl)|exact Or.inr (Or.inr rfl))(hd:(x==("__debug__":Str))=false:=by decide)
  (hcd:(x==("__classdict__":Str))=false:=by decide)(hpi:sG ei:=by exact fun _ _=>rfl)
  (hbase:attributeBase (.Subscript (.Name x p) ei Rp) "append" X.env (eval (.Subscript (.Name x p) ei Rp) X.env)=eval (.Subscript (.Name x p) ei Rp) X.env:=by rfl)
  (hfew:((backTo aV (starEach [e] X.env)).all (fun x=> !x.1)&&(backToKw aV (keywordEach [] X.env)).all (fun x=>x.1.isSome)
   &&decide ([e].length+([]:List Keyword).length+(if([]:List Keyword).isEmpty then 0 else 1)<30))=true:=by rfl)
  (hline:(apos.endLine==aV.line)=true:=by rfl)(hst:starEach [e] X.env=(false,eval e X.env)::starEach [] X.env:=by rfl)(hplain:(backTo aV (starEach [] X.env)).any (·.1)=false:=by rfl)
  (hs:swapsWith (.Call (.Attribute (.Subscript (.Name x p) ei Rp) "append" apos) [e] [] aV) none pos.line X.env=pure false:=by rfl):
  PS X (.Expr (.Call (.Attribute (.Subscript (.Name x p) ei Rp) "append" apos) [e] [] aV) pos) (tS X.K E fun env=>(eU ix env).bind fun nss=>(fi env).bind fun a=>(yF nss a).bind fun kn=>(f env).bind fun d=>Aa ix env nss kn d):=
 og (fG (rH plainAttrs_list PySem.F.slot_list_append PySem.F.type_list_append cR (gx cJ (ie hN hv hd hcd) hi hpi) (au he aC hst) hbase hfew hline hst hplain) hs) fun De σ H ⟨g,env,os,r,m⟩=>by
  obtain⟨nss,e1,m2⟩:=m.bind.deep
  obtain⟨a,as,q1,q2,q3,q4⟩:=r.xh e1
  refine⟨.ref a,q1,g,env,os,r,m2.bind.mono fun da _ m3 w H2 s2 i2=>?_⟩
  obtain⟨i,k,ns,rfl,hk,hns,m4⟩:=m3.bind.yF
  obtain⟨b,hb1,hb2⟩:=q4 k ns hns
  refine⟨a,as.map V.ref,i,.ref b,rfl,i2,bW.of (s2 _ _ q2),Nk (by rw[length_map,q3];exact hk) (by rw[getElem?_map,hb1];rfl),.inl ⟨rfl,_,bW.of (s2 _ _ hb2)⟩,g,env,os,r.same s2,m4.bind.mono fun d _ m5 v H3 s3 i3=>?_⟩
  obtain⟨u,rfl,hl,m6⟩:=m5.Aa
  have iu:v=.int u:=i3
  subst iu
  have r3:=r.same (s2.trans s3)
  have VM:=s3 _ _ (s2 _ _ hb2)
  obtain⟨oZ,r4⟩:=r3.VE (ns:=ns) e1 q1 (s3 _ _ (s2 _ _ q2)) hb1 (List.getElem?_eq_some_iff.mp hns).1 (ns++[u])
  refine⟨b,ns.map V.int,.int u,rfl,rfl,VM,by rw[length_map];exact hl,?_⟩
  rw[map_append]at r4
  exact(show gy X.K g H os De (.nx _)from m6) σ _ os r4 ((qE.same (s2.trans s3) os).trans (.mut oZ))
def E9(ix:Nat)(env:DE)(nss:List (List Int))(ns:List Int):R Out:= @ite _ (nss.length<sizeLine) (propDecidable _) (.ok (.nx (env.set ix (.deep (nss++[ns]))))) .bad
theorem K5(ix:Nat){x:Str}{e:Expr}{f:DE->R (List D)}{p apos aV:Pos}(he:PE X e (tF X.K E f))(hN:X.N[ix]?=some x:=by rfl)(hv:vD X.env.scope x:=by first|exact Or.inl rfl|exact Or.inr (Or.inl rfl)|exact Or.inr (Or.inr rfl))(hd:(x==("__debug__":Str))=false:=by decide)
  (hcd:(x==("__classdict__":Str))=false:=by decide)
  (hbase:attributeBase (.Name x p) "append" X.env (eval (.Name x p) X.env)=eval (.Name x p) X.env:=by rfl)
  (hfew:((backTo aV (starEach [e] X.env)).all (fun x=> !x.1)&&(backToKw aV (keywordEach [] X.env)).all (fun x=>x.1.isSome)
   &&decide ([e].length+([]:List Keyword).length+(if([]:List Keyword).isEmpty then 0 else 1)<30))=true:=by rfl)
  (hline:(apos.endLine==aV.line)=true:=by rfl)(hst:starEach [e] X.env=(false,eval e X.env)::starEach [] X.env:=by rfl)(hplain:(backTo aV (starEach [] X.env)).any (·.1)=false:=by rfl)
  (hs:swapsWith (.Call (.Attribute (.Name x p) "append" apos) [e] [] aV) none pos.line X.env=pure false:=by rfl):
  PS X (.Expr (.Call (.Attribute (.Name x p) "append" apos) [e] [] aV) pos) (tS X.K E fun env=>(eU ix env).bind fun nss=>(f env).bind fun xs=>(R.of (Bj xs)).bind fun ns=>E9 ix env nss ns):=
 og (fG (rH plainAttrs_list PySem.F.slot_list_append PySem.F.type_list_append cR (ie hN hv hd hcd) (au he aC hst) hbase hfew hline hst hplain) hs) fun De σ H ⟨g,env,os,r,m⟩=>by
  obtain⟨nss,e1,m2⟩:=m.bind.deep
  obtain⟨a,as,q1,q2,q3,q4⟩:=r.xh e1
  refine⟨.ref a,q1,.inl ⟨rfl,_,bW.of q2⟩,g,env,os,r,m2.bind.mono fun xs _ m3 b vs H1 s1 hn hH i1=>?_⟩
  obtain⟨ns,e2,m4⟩:=m3.bind.of
  have e3:=ud e2
  subst e3
  have e4:=ee i1
  subst e4
  unfold E9 at m4
  split at m4
  ·rename_i c
   obtain⟨hos,r2⟩:=r.Ro s1 e1 q1 q2 hn hH
   refine⟨a,as.map V.ref,.ref b,rfl,rfl,s1 _ _ q2,by rw[length_map,q3];exact c,?_⟩
   refine(show gy X.K g H os De (.nx _)from m4) σ _ (b::os) r2 ⟨fun y hy=>?_,fun y hy=>?_,fun y o hy ho=>?_⟩
   ·rcases mem_cons.mp hy with z|z
    ·rw[z];exact .inr hn
    ·exact .inl z
   ·by_cases z:y=a
    ·rw[z,ak]at hy;cases hy
    ·rw[ah z]at hy;exact s1.free hy
   ·rw[ah (fun z=>hy (by rw[z];exact hos))];exact s1 _ _ ho
  ·exact m4.elim
end
section
variable{X:Cx}{E:Str->Hp->Prop}{pos:Pos}{k:Nat}{fa:Addr}{fd:FuncData}{st:Stmt}{ps:List Str}{x:Str}{p:Pos}{e:Expr}{es:List Expr}{f:DE->R (List D)}
abbrev VN:=List (Str×(List D->R (List D)))
def FnR(X:Cx)(n:Str)(m:List D->R (List D)):Prop:=∃st ps fa fd k,Df X.K X.mg n st ps fa fd/\bJ X.prog X.w X.K X.mg X.base jH k fa fd ps (G9 X.K Dt m)/\aT k X.A
def FnT(X:Cx)(tab:VN):Prop:=∀n m,tab.lookup n=some m->FnR X n m
end
def Yd:D->R Int
 |.int i=>.ok i
 |_=>.bad
def VO:Out->R (List (List Int))
 |.G7 nss=>.ok nss
 |_=>.bad
def mP(n N:Nat)(b:DE->R Out)(ds:List D):R (List (List Int)):=if ds.length=n then((b (aH N ds)).bind VO).ne else .bad
section
variable{X:Cx}{E:Str->Hp->Prop}{pos:Pos}
def toS:List D->Option (List Str)
 |[]=>some []
 |.str x::r=>(toS r).map (x::·)
 |_::_=>none
def Ye:D->R Str
 |.str i=>.ok i
 |_=>.bad
theorem pP{K:PySem.W.Frag}{P:Addr->Prop}{H:Hp}:∀{as:List Addr}{nss:List (List Int)},as.length=nss.length->(∀b∈as,P b)->(∀(k:Nat)(b:Addr)(ns:List Int),as[k]?=some b->nss[k]?=some ns->H b=some (.lst (ns.map V.int)))->IsL K P H (nss.map fun ns=>D.lst (ns.map D.int)) (as.map V.ref)
 |[],[],_,_,_=>rfl
 |[],_::_,h,_,_=>by simp at h
 |_::_,[],h,_,_=>by simp at h
 |a::as,ns::nss,h,hp,hi=>⟨_,_,rfl,⟨a,_,rfl,.inl ⟨hp a (by simp),.inl (hi 0 a ns rfl rfl)⟩,bE ns⟩,pP (by simpa using h) (fun b hb=>hp b (by simp[hb])) fun k b ms e1 e2=>hi (k+1) b ms e1 e2⟩
theorem PE.VP {e:Expr}{f:DE->R (List (List Int))}(h:PE X e (Yc X.K E f)):PE X e (tL X.K E fun env=>(f env).bind fun nss=>.ok (nss.map fun ns=>D.lst (ns.map D.int))):=
 imp h fun σ H Q ⟨g,env,os,r,m⟩=>⟨g,env,os,r,m.bind.mono fun nss _ q a as H' s nd=>q a _ H' s (bW.of nd.ha) (pP nd.len (fun b hb=>r.fresh (nd.fr b (mem_cons_of_mem _ hb))) nd.it)⟩
end
section
variable{X:Cx}{E:Str->Hp->Prop}{pos:Pos}
def VQ(T:List (Str×Int)):List (Str×PyData):=T.map fun p=>(p.1,PyData.int p.2)
def Yg(K:PySem.W.Frag)(a:Addr)(T:List (Str×Int)):Prop:=KTD.tabLook KTD.flatLooks (fun b=>K.lookup b) a (VQ T)=true
end
section
variable{X:Cx}{E:Str->Hp->Prop}{pos:Pos}
def Yh:D->R Unit
 |.int 1=>.ok ()
 |_=>.bad
end
section
variable{X:Cx}{E:Str->Hp->Prop}{pos:Pos}
def Yi:D->R Unit
 |.int 2=>.ok ()
 |_=>.bad
end
section
variable{X:Cx}{E:Str->Hp->Prop}{pos:Pos}
def Yj:D->R Unit
 |.int 0=>.ok ()
 |_=>.bad
end
def IS:D->D->Option D
 |.int i,.int j=> @ite _ (Cw i j) (propDecidable _) (some (.int (i*2^j.toNat))) none
 |_,_=>none
section
variable{X:Cx}{E:Str->Hp->Prop}{pos:Pos}
theorem IU:lW X (rI Cw fun i j=>.int (i*2^j.toNat)) IS:=pD (h:=fun i j=>.int (i*2^j.toNat)) (fun _ _=>rfl) fun x y d e=>by
 unfold IS at e
 split at e
 ·split at e
  ·rename_i i j c
   cases e
   exact⟨i,j,rfl,rfl,c,rfl⟩
  ·cases e
 ·cases e
theorem Rq:O7 X .BitOr (P1 fun i j=>Builtin.bitOr i j):=by
 intro pins s σ H x y v u Q I r1 r2 h
 obtain⟨i,j,rfl,rfl,q⟩:=h
 obtain⟨t,rfl⟩:=r1
 obtain⟨t',rfl⟩:=r2
 exact ior_int ⟨.int _,H,I.tok _,⟨_,rfl⟩,q⟩
end
section
variable{K:PySem.W.Frag}{g:Gh}{env:DE}{σ:St}{H H1:Hp}{os:List Addr}
theorem Rel.Rt (r:Rel K g env σ H os){i:Nat}{c c':Ct}(e:env[i]?=some (.deep c)){a:Addr}(hσ:σ[i]?=some (some (.ref a))){o:HO}{as':List Addr}
  (hd:∀as,Dp H os a as c->(∀x,x∈as'↔x∈as)/\Dp (upd H a o) os a as' c'):a∈os/\Rel K g (env.set i (.deep c')) σ (upd H a o) os:=by
 obtain⟨A,dd⟩:=r.D8
 obtain⟨a0,uT,hA,h1,h3⟩:=dd.dp i c e
 rw[hσ]at h1
 cases h1
 obtain⟨hm,Ht⟩:=hd uT h3
 have oZ:a∈os:=(h3.mem a (by simp)).1
 have Rm:a∈A i:=by rw[hA];simp
 refine⟨oZ,?_⟩
 have ex:Ext (g.P os) (g.P os) H (upd H a o):=⟨fun _ _ p _=>p,fun c o p q=>by rw[ah (fun z=>p.2 (by rw[z];exact oZ))];exact q⟩
 have f:∀(j:Nat)(sl:Sl),(env.set i (Sl.deep c'))[j]?=some sl->sl≠.deep c'->i≠j/\env[j]?=some sl:=fun j sl q hn=>jM q hn
 refine⟨by simp[r.len],fun b o' q=>?_,fun j d q=>?_,fun j xs q=>?_,fun j k xs ys b q1 q2 q3 q4=>?_,fun b hc=>?_,fun j v q=>?_,?_⟩
 ·rw[ah (fun z=>by rw[z,(r.new a oZ).1]at q;cases q)]
  exact r.ext b o' q
 ·obtain⟨hj,q⟩:=f j _ q (fun z=>nomatch z)
  obtain⟨v,h1,h2⟩:=r.val j d q
  exact⟨v,h1,Is.ext ex _ _ h2⟩
 ·obtain⟨hj,q⟩:=f j _ q (fun z=>nomatch z)
  obtain⟨b,vs,h1,h2,Rn,h4⟩:=r.own j xs q
  have VG:b≠a:=fun z=>dd.ow i c j xs b e q h1 (by rw[z];exact Rm)
  exact⟨b,vs,h1,h2,by rw[ah VG];exact Rn,IsL.ext ex _ _ h4⟩
 ·obtain⟨hj,q1⟩:=f j _ q1 (fun z=>nomatch z)
  obtain⟨hk,q2⟩:=f k _ q2 (fun z=>nomatch z)
  exact r.inj j k xs ys b q1 q2 q3 q4
 ·obtain⟨z1,o',z2⟩:=r.new b hc
  refine⟨z1,?_⟩
  by_cases z:b=a
  ·exact⟨_,by rw[z];exact ak⟩
  ·exact⟨o',by rw[ah z];exact z2⟩
 ·obtain⟨hj,q⟩:=f j _ q (fun z=>nomatch z)
  exact r.raw j v q
 ·have sub:∀(j:Nat)(y:Addr),(y∈if j=i then a::as' else A j)->y∈A j:=fun j y hy=>by
   by_cases hj:j=i
   ·rw[if_pos hj]at hy
    rw[hj,hA]
    rcases mem_cons.mp hy with w|w
    ·rw[w];exact mem_cons_self
    ·exact mem_cons_of_mem _ ((hm y).mp w)
   ·rw[if_neg hj]at hy
    exact hy
  have p1:∀(j:Nat)(ms:Ct),(env.set i (Sl.deep c'))[j]?=some (.deep ms)->∃Nm,env[j]?=some (.deep Nm):=fun j ms q=>by
   by_cases hj:i=j
   ·subst hj;exact⟨c,e⟩
   ·rw[getElem?_set_ne hj]at q;exact⟨ms,q⟩
  refine⟨fun j=>if j=i then a::as' else A j,fun j ou q=>?_,fun j ou m xs b q1 q2 q3 hx=>?_,fun j m ou Nj Po q1 q2 x hx QM=>?_⟩
  ·by_cases hj:j=i
   ·have q':=q
    rw[hj]at q'
    have z:=aR q'
    cases z
    exact⟨a,as',if_pos hj,by rw[hj];exact hσ,Ht⟩
   ·rw[getElem?_set_ne (Ne.symm hj)]at q
    obtain⟨b,cs,z1,z2,z3⟩:=dd.dp j ou q
    refine⟨b,cs,by rw[if_neg hj];exact z1,z2,z3.to fun x hx=>?_⟩
    have hxb:x≠a:=fun z=>dd.dj i j c ou (Ne.symm hj) e q a Rm (by rw[z1,<-z];exact hx)
    exact⟨(z3.mem x hx).1,ah hxb⟩
  ·have Tg:=(f m _ q2 (fun z=>nomatch z)).2
   obtain⟨Nm,p⟩:=p1 j ou q1
   exact dd.ow j Nm m xs b p Tg q3 (sub j b hx)
  ·obtain⟨m1,w1⟩:=p1 j ou q1
   obtain⟨m2,w2⟩:=p1 m Nj q2
   exact dd.dj j m m1 m2 Po w1 w2 x (sub j x hx) (sub m x QM)
end
section
variable{X:Cx}{E:Str->Hp->Prop}{pos:Pos}
theorem Ru(ix:Nat){x:Str}{p apos aV:Pos}(hN:X.N[ix]?=some x:=by rfl)(hv:vD X.env.scope x:=by first|exact Or.inl rfl|exact Or.inr (Or.inl rfl)|exact Or.inr (Or.inr rfl))(hd:(x==("__debug__":Str))=false:=by decide)
  (hcd:(x==("__classdict__":Str))=false:=by decide)
  (hbase:attributeBase (.Name x p) "reverse" X.env (eval (.Name x p) X.env)=eval (.Name x p) X.env:=by rfl)(hline:(apos.endLine==aV.line)=true:=by rfl)
  (hs:swapsWith (.Call (.Attribute (.Name x p) "reverse" apos) [] [] aV) none pos.line X.env=pure false:=by rfl):
  PS X (.Expr (.Call (.Attribute (.Name x p) "reverse" apos) [] [] aV) pos) (tS X.K E fun env=>(eU ix env).bind fun nss=>.ok (.nx (env.set ix (.deep (.ls nss.reverse))))):=
 og (fG (wM plainAttrs_list PySem.F.slot_list_reverse PySem.F.type_list_reverse zQ (ie hN hv hd hcd) hbase hline) hs) fun De σ H ⟨g,env,os,r,m⟩=>by
  obtain⟨nss,e1,m2⟩:=m.bind.deep
  obtain⟨a,as,q1,q2,q3,q4⟩:=r.xh e1
  refine⟨.ref a,q1,.inl ⟨rfl,_,bW.of q2⟩,a,as.map V.ref,rfl,rfl,q2,?_⟩
  obtain⟨hos,r2⟩:=r.Rt (c':=.ls nss.reverse) (o:=.lst (as.map V.ref).reverse) (as':=as.reverse) e1 q1 (fun uT dp=>by
   have d:xO HO.lst H os a uT nss:=dp
   have has:uT=as:=by
    have z:=d.ha
    rw[q2]at z
    have z2:as.map V.ref=uT.map V.ref:=by injection z with z;injection z
    exact(jN z2).symm
   subst has
   refine⟨fun x=>mem_reverse,d.ma,by rw[<-map_reverse];exact ak,by rw[length_reverse,length_reverse];exact d.len,?_,fun k b ns e1 e2=>?_⟩
   ·have nd:=nodup_cons.mp d.nd
    exact nodup_cons.mpr ⟨fun z=>nd.1 (mem_reverse.mp z),(reverse_perm uT).nodup_iff.mpr nd.2⟩
   ·have hk:=(List.getElem?_eq_some_iff.mp e1).1
    rw[length_reverse]at hk
    rw[getElem?_reverse hk]at e1
    rw[getElem?_reverse (by rw[<-d.len];exact hk),<-d.len]at e2
    obtain⟨w1,w2⟩:=d.it _ b ns e1 e2
    have VF:b≠a:=fun z=>(nodup_cons.mp d.nd).1 (by rw[<-z];exact mem_of_getElem? e1)
    exact⟨w1,by rw[ah VF];exact w2⟩)
  exact(show gy X.K g H os De (.nx _)from m2) σ _ os r2 (.mut hos)
end
theorem dfm{K:PySem.W.Frag}{h:Heap}{mg:Str->Option Value}{x:Str}{st:Stmt}{ps:List Str}{f:Addr}{oc:Value}{od an:Option Addr}{Dr:Array (Option Value)}{kV doc pm cdv ct:Value}(X:K.In h)(G:h.Ns mainGlobals mg)(a:nsIn K mainGlobals x=some (some (.ref f)))
  (l:K.lookup f=some ⟨oc,od,.func (PySem.W.fnOf x x (cV st) (bg st) (ae st) .none kV doc pm an cdv ct),Dr⟩)(c:codeIn K cdv x=true)(k:keepIn K (.ref f)=true)
  (hb:∀(kV doc pm:Value)(an:Option Addr)(cdv ct:Value)(us:List Value),us.length=ps.length->bindArgs (PySem.W.fnOf x x (cV st) (bg st) (ae st) .none kV doc pm an cdv ct) ⟨us,[]⟩=pure (ps.zip us)):
  Df K mg x st ps f (PySem.W.fnOf x x (cV st) (bg st) (ae st) .none kV doc pm an cdv ct):=⟨zR l c k,(zR l c k).binds hb,mg_of X G a,a⟩
theorem oA{N P:List Str}{sc:Scope}(h1:sc.kind=.function:=by rfl)(h2:sc.isCoroutine=false:=by rfl)(h3:sc.isGenerator=false:=by rfl)(h4:N.Nodup:=by decide +kernel)(h5:N.take P.length=P:=by rfl)
  (h6:∀x∈P,sc.names.lookup x=some .local\/sc.names.lookup x=some .cell:=by decide +kernel)(h7:∀y∈sc.names,y.2≠.free:=by decide +kernel):aw N P sc:=⟨h1,h2,h3,h4,h5,h6,h7⟩
def rY(n:Int):Obj:={cls:=.type "range_iterator",data:=.fields #[rawInt (0+(n-1)*1),rawInt n,rawInt (-1)]}
theorem IV:isSubtype (.type "range_iterator") (.type "reversed")=pure false:=by rw[isSubtype_type];kernel_rfl
section
variable{prog:Program}{w:World}{A:Around}{E:Value->Shared->Prop}{s:Shared}
theorem IW{r:Addr}{n:Int}{t u v:Tok}{Q:Value->Shared->Prop}(h0:0<=n)(h1:n<=1000000)(hr:IsRange s.heap r 0 n 1 t u v)
  (h:Q (.ref s.heap.objs.size) {s with heap:=s.heap.push (rY n)}):wpAny (model prog w) A (call (.builtin "range.__reversed__") [.ref r]) Q E s:=by
 refine wpAny_call_entry slot_range_reversed ⟨_,hr,rfl⟩ PySem.F.entry_range_reversed ?_ (PySem.F.args_range_reversed_1 _)
 have hsz:Builtin.Range.rangeSize 0 n 1=n:=by rw[rangeSize_one];split<;>omega
 have hsm:(Builtin.Range.rangeFitsLong 0&&Builtin.Range.rangeFitsLong n&&Builtin.Range.rangeFitsLong 1&&Builtin.Range.rangeFitsLong (-1)&&Builtin.Range.rangeFitsLong (0-1)&&Builtin.Range.rangeFitsLong n)=true:=by
  unfold Builtin.Range.rangeFitsLong
  simp only [and_eq_true,decide_eq_true_eq]
  omega
 obtain⟨hp,g,d,tk,os⟩:=s
 wp_walk using AutoSeq1.wpAny_loadPart' hr
 rw[hsz,hsm,if_neg (show¬((!true)=true)from Bool.false_ne_true)]
 dsimp only
 rw[if_pos rfl]
 exact wpAny_bind (wpAny_newObj_type (wpAny_pure ⟨_,rfl,h⟩))
theorem Np{r:Addr}{n:Int}{t u v:Tok}{Q:Value->Shared->Prop}(h0:0<=n)(h1:n<=1000000)(hr:IsRange s.heap r 0 n 1 t u v)
  (h:Q (.ref s.heap.objs.size) {s with heap:=s.heap.push (rY n)}):codeAny (model prog w) A (.call (.builtin "reversed.__new__") ⟨[.type "reversed",.ref r],[]⟩) (wants Q E) s:=by
 have hT:s.TypeIs (.ref r) "range":=⟨_,hr,rfl⟩
 have nb:¬((Value.builtin "range.__reversed__"==Value.none)=true):=Bool.false_ne_true
 refine codeAny_of_tree (show wpAny _ A.in1 (do
  checkBuiltinCall "reversed.__new__" ⟨[.type "reversed",.ref r],[]⟩
  again (.builtin "reversed.__new__" ⟨[.type "reversed",.ref r],[]⟩)) _ _ s from ?_)
 refine wpAny_bind (wpAny_of_eq (PySem.F.newCall_reversed_1 _) (wpAny_pure ⟨plainId_quiet PySem.F.plain_reversed_new _,?_⟩))
 refine codeAny_builtin PySem.F.entry_reversed_new ?_
 rw[Around.under_plainId PySem.F.plain_reversed_new _]
 show wpAny _ _ (do
  let x<-Builtin.SmallTypes.newClass "reversed" ⟨[.type "reversed",.ref r],[]⟩
  _) _ _ _
 refine wpAny_bind (wpAny_of_eq (newClass_reversed (.ref r)) ?_)
 try dsimp only
 refine wpAny_bind (wpAny_of_eq (a:=()) (by kernel_rfl) (wpAny_bind (wpAny_of_eq (a:=()) (by kernel_rfl) ?_)))
 try dsimp only
 refine wpAny_bind (wpAny_specialOf hT slot_range_reversed.lookup ?_)
 try dsimp only
 refine wpAny_bind (wpAny_of_eq (slot_range_reversed.bind (.ref r)) ?_)
 try dsimp only
 rw[if_neg nb]
 refine wpAny_bind (wpAny_rule (wpAny_bind (m:=runValue (.call (.builtin "range.__reversed__") ⟨[.ref r],[]⟩)) ?_))
 show wpAny _ _ (call (.builtin "range.__reversed__") [.ref r]) _ _ _
 refine IW h0 h1 hr ?_
 first
 |exact wpAny_pure h
 |exact wpAny_bind (wpAny_pure (wpAny_pure h))
theorem Nq{r:Addr}{n:Int}{t u v:Tok}{Q:Value->Shared->Prop}(h0:0<=n)(h1:n<=1000000)(hr:IsRange s.heap r 0 n 1 t u v)
  (h:Q (.ref s.heap.objs.size) {s with heap:=s.heap.push (rY n)}):wpAny (model prog w) A (call (.type "reversed") [.ref r]) Q E s:=by
 have hc:codeAny (model prog w) A.in1 (.call (.builtin "reversed.__new__") ⟨.type "reversed"::[.ref r],[]⟩) (wants (fun o z=>o=.ref s.heap.objs.size/\z={s with heap:=s.heap.push (rY n)}) E) s:=Np h0 h1 hr ⟨rfl,rfl⟩
 refine callType_other (U:="range_iterator") (by decide +kernel) PySem.F.create_reversed ⟨_,_,PySem.F.mro_reversed⟩ PySem.F.made_reversed IV (PySem.F.typeCall_reversed_1 _) hc ?_
 rintro o z ⟨rfl,rfl⟩
 exact⟨⟨_,Heap.get?_push_size _ rfl,rfl⟩,h⟩
theorem IX{it:Addr}{x left c:Int}{Q:Bool->Shared->Prop}(hit:IsRangeIter s.heap it x left c)(h0:0<=left)(h1:left<=1000000)(h:∀tk,Q false {s with toks:=tk}):wpAny (model prog w) A (Builtin.List.listLengthHint (.ref it)) Q E s:=by
 have hT:s.TypeIs (.ref it) "range_iterator":=⟨_,hit,rfl⟩
 have hcall:∀(Q':Value->Shared->Prop),(∀u tk,Q' (.int left u) {s with toks:=tk})->wpAny (model prog w) A (call (.builtin "range_iterator.__length_hint__") [.ref it]) Q' E s:=fun Q' hq=>by
  refine wpAny_call_entry PySem.F.slot_range_iterator_length_hint hT PySem.F.entry_range_iterator_length_hint ?_ (PySem.F.args_range_iterator_length_hint_1 _)
  obtain⟨hp,g,d,tk,os⟩:=s
  wp_walk using AutoSeq1.wpAny_loadPart' hit
  exact⟨_,rfl,hq _ _⟩
 have Ik:Builtin.List.listTooLong left.toNat=false:=by simp[Builtin.List.listTooLong,sizeLine];omega
 unfold Builtin.List.listLengthHint
 refine wpAny_bind (wpAny_specialOf hT PySem.F.nolen_ra (show wpAny _ A (specialOf (Value.ref it) (Str.ofString "__length_hint__")>>=_) _ _ _ from wpAny_bind (wpAny_specialOf hT PySem.F.hint_ra ?_)))
 generalize hid:("range_iterator.__length_hint__":String)=Vw
 wp_delta
 rw[show splitId Vw=some ("range_iterator","__length_hint__")from by subst hid;decide +kernel]
 subst hid
 refine wpAny_bind (wpAny_isInstance (b:=true) hT (by rw[isSubtype_type];kernel_rfl) ?_)
 refine wpAny_ite_split (fun z=>absurd z (by decide)) fun _=>wpAny_ite_split (fun _=>?_) fun z=>absurd (by decide +kernel) z
 refine wpAny_ite_split (fun _=>?_) fun z=>absurd rfl z
 refine wpAny_bind (hcall _ fun u tk=>wpAny_bind (m:=asInt? (.int left u)) (wpAny_pure ?_))
 dsimp only
 rw[if_neg (by rw[Ik];decide)]
 exact wpAny_pure (h tk)
theorem Nr{R:Result->Shared->Prop}{it:Addr}{n:Nat}(hh:A.handled=none)(hn:n<=1000000)(hit:IsRangeIter s.heap it ((n:Int)-1) n (-1))(S:Addr)(res:Value)(c₀:Nat)
  (hS:s.heap.get? S=some {cls:=.type "list",data:=.seq #[] c₀})(K1:S≠it)
  (hR:∀h' tk dg c',(∀b o,b≠S->b≠it->s.heap.get? b=some o->h'.get? b=some o)->h'.get? S=some {cls:=.type "list",dict:=none,data:=.seq dg c',slots:=#[]}->
   ItemsOf (fun i v=>∃t,v=.int ((n:Int)-1+i*(-1)) t) dg n->R (.ok (.ret res)) {s with heap:=h',toks:=tk}):
  wpAny (model prog w) A.in1 (Builtin.List.listExtendWith (.ref S) (.ref it) res)
   (fun fin s'=>match fin with|.done f=>R (.ok f) s'|.again c'=>c'.quiet=true/\codeAny (model prog w) A c' R s') (fun e s'=>R (.error e) s') s:=by
 have hT:s.TypeIs (.ref it) "range_iterator":=⟨_,hit,rfl⟩
 have W:=(Walks.range (prog:=prog) (w:=w) (A:=A.in1) hh it ((n:Int)-1) (-1) n).toS
 have e1:Builtin.List.listSameRef (.ref S) (.ref it)=false:=by simp[Builtin.List.listSameRef,K1]
 have e2:(Value.type "range_iterator"==Value.type "list")=false:=by decide
 have e3:(Value.type "range_iterator"==Value.type "tuple")=false:=by decide
 have Yk:∀tk,IsRangeIter ({s with toks:=tk}:Shared).heap it ((n:Int)-1+((0:Nat):Int)*(-1)) ((n:Int)-((0:Nat):Int)) (-1):=fun tk=>by
  rw[show(n:Int)-1+((0:Nat):Int)*(-1)=(n:Int)-1 by omega,show(n:Int)-((0:Nat):Int)=n by omega]
  exact hit
 unfold Builtin.List.listExtendWith
 refine wpAny_bind (wpAny_typeOf hT ?_)
 simp only [e1,e2,e3,Bool.or_false,false_eq_true,if_false]
 refine wpAny_bind (W.self 0 _ _ _ (Yk s.toks) (wpAny_bind (wpAny_holding (IX hit (by omega) (by omega) fun tk=>?_))))
 refine wpAny_ite_split (fun z=>absurd z (by decide)) fun _=>wpAny_pure ⟨plainId_quiet PySem.F.plain_extend_loop _,?_⟩
 refine codeAny_extend_loopS W (le_trans hn (by decide)) S (fun hm=>K1 (mem_singleton.mp hm)) res n 0 _ #[] c₀ rfl (zero_le _) (Yk tk) hS (ItemsOf.nil _) fun s' dg c' hm IG hacc=>?_
 rw[Moved.eq_with hm]
 exact hR s'.heap s'.toks dg c' (fun b o hb hb2 e=>hm.heap b o (fun hmem=>by
  rcases mem_cons.mp hmem with z|z
  ·exact hb z
  ·exact hb2 (mem_singleton.mp z)) e) IG hacc
theorem IY{Q:Value->Shared->Prop}{it:Addr}{n:Nat}(hh:A.handled=none)(hn:n<=1000000)(hit:IsRangeIter s.heap it ((n:Int)-1) n (-1))
  (hQ:∀h' tk dg c',(∀b o,b≠it->s.heap.get? b=some o->h'.get? b=some o)->h'.get? s.heap.objs.size=some {cls:=.type "list",dict:=none,data:=.seq dg c',slots:=#[]}->
   ItemsOf (fun i v=>∃t,v=.int ((n:Int)-1+i*(-1)) t) dg n->Q (.ref s.heap.objs.size) {s with heap:=h',toks:=tk}):wpAny (model prog w) A (call (.type "list") [.ref it]) Q E s:=by
 have hlt:it<s.heap.objs.size:=Heap.lt_size hit
 have hS:(s.heap.push {cls:=.type "list",data:=.seq #[]}).get? s.heap.objs.size=some {cls:=.type "list",data:=.seq #[]}:=Heap.get?_push_size _ rfl
 refine callType_codes (Q₁:=fun o z=>o=.ref s.heap.objs.size/\z={s with heap:=s.heap.push {cls:=.type "list",data:=.seq #[]}}) PySem.F.called_list (PySem.F.typeCall_list_1 _) PySem.F.entry_list_init (code_list_new _ ⟨rfl,rfl⟩) ?_
 rintro o z ⟨rfl,rfl⟩
 refine⟨⟨_,hS,rfl⟩,PySem.F.args_list_init_2 _ _,?_⟩
 show wpAny _ _ (do
  let old<-Builtin.List.listItems (.ref s.heap.objs.size)
  Builtin.List.listUpdate (.ref s.heap.objs.size) (fun _=>#[])
  letGo old.toList.reverse
  Builtin.List.listExtendWith (.ref s.heap.objs.size) (.ref it) .none) _ _ _
 refine wpAny_bind ?_
 unfold Builtin.List.listItems
 refine wpAny_bind (wpAny_seqItems hS rfl (wpAny_pure ?_))
 show wpAny _ _ (do
  updateSeq s.heap.objs.size (fun _=>#[])
  letGo (#[]:Array Value).toList.reverse
  Builtin.List.listExtendWith (.ref s.heap.objs.size) (.ref it) .none) _ _ _
 refine wpAny_bind (wpAny_updateSeq hS rfl (wpAny_bind (wpAny_letGo ?_)))
 have hS2:=Heap.get?_update_self (Obj.mapSeq (fun _=>(#[]:Array Value))) hS rfl
 have oth:∀b o,b≠s.heap.objs.size->s.heap.get? b=some o->((s.heap.push {cls:=.type "list",data:=.seq #[]}).update s.heap.objs.size (Obj.mapSeq (fun _=>(#[]:Array Value)))).get? b=some o:=
  fun b o hb e=>(Heap.get?_update_other _ _ (Ne.symm hb)).trans (Heap.get?_push_of_some _ e)
 refine Nr (A:=A.in1) hh hn (oth it _ (ne_of_lt hlt) hit) s.heap.objs.size .none _ hS2 (ne_of_gt hlt) fun h' tk dg c' hk IG hacc=>⟨rfl,?_⟩
 exact hQ h' tk dg c' (fun b o hb e=>hk b o (ne_of_lt (Heap.lt_size e)) hb (oth b o (ne_of_lt (Heap.lt_size e)) e)) IG hacc
end
def Nt(n:Nat):List D:=(range n).map fun i=>D.int ((n:Int)-1-(i:Nat))
def ug(n:Nat):List V:=(range n).map fun i=>V.int ((n:Int)-1-(i:Nat))
def yG:List D->R (List D)
 |[.int j]=> @ite _ (0<=j/\j<=1000000) (propDecidable _) (.ok (Nt j.toNat)) .bad
 |_=>.bad
theorem IZ{K:PySem.W.Frag}{P:Addr->Prop}{H:Hp}(n:Nat):IsL K P H (Nt n) (ug n):=by
 unfold Nt ug
 induction (range n)with
 |nil=>rfl
 |cons x r ih=>exact⟨_,_,rfl,rfl,ih⟩
theorem CU{acc:List Value}{n:Nat}(h1:acc.length=n)(h2:∀(j:Nat)(v:Value),acc[j]?=some v->∃t,v=.int ((n:Int)-1-(j:Nat)) t):Vals (ug n) acc:=by
 have gen:∀(l:List Value)(k:Nat),(∀(j:Nat)(v:Value),l[j]?=some v->∃t,v=.int ((n:Int)-1-((k+j:Nat):Int)) t)->Vals ((range' k l.length).map fun i=>V.int ((n:Int)-1-(i:Nat))) l:=by
  intro l
  induction l with
  |nil=>intro k _;exact .nil
  |cons x r ih=>
   intro k hk
   rw[length_cons,range'_succ,map_cons]
   obtain⟨t,e⟩:=hk 0 x rfl
   refine .cons ⟨t,e⟩ (ih (k+1) fun j v e=>?_)
   obtain⟨t,e⟩:=hk (j+1) v (by simpa using e)
   exact⟨t,by rw[e,show k+(j+1)=k+1+j by omega]⟩
 have:=gen acc 0 fun j v e=>by rw[zero_add];exact h2 j v e
 rw[h1,<-List.range_eq_range']at this
 exact this
section
variable{X:Cx}{E:Str->Hp->Prop}{pos:Pos}
theorem Nu{a:Expr}{p p2 p3 ko CV:Pos}{f:DE->R (List D)}(hc:X.calm=true)(CO:X.mg "list"=none)(hmv:X.mg "reversed"=none)(MX:X.mg "range"=none)(ha:PA X [a] (pC X.K E f))(MY:Gl X "list":=by rfl)(hgv:Gl X "reversed":=by rfl)(hgr:Gl X "range":=by rfl)
  (hs:starEach [a] X.env=[(false,eval a X.env)]:=by rfl)(Ym:starEach [.Call (.Name "range" p3) [a] [] CV] X.env=(false,eval (.Call (.Name "range" p3) [a] [] CV) X.env)::starEach [] X.env:=by rfl)
  (he:starEach [.Call (.Name "reversed" p2) [.Call (.Name "range" p3) [a] [] CV] [] ko] X.env=(false,eval (.Call (.Name "reversed" p2) [.Call (.Name "range" p3) [a] [] CV] [] ko) X.env)::starEach [] X.env:=by rfl)
  (hpl:(backTo pos (starEach [] X.env)).any (·.1)=false:=by rfl)(Nf:(backTo ko (starEach [] X.env)).any (·.1)=false:=by rfl):
  PE X (.Call (.Name "list" p) [.Call (.Name "reversed" p2) [.Call (.Name "range" p3) [a] [] CV] [] ko] [] pos) (tF X.K E fun env=>(f env).bind yG):=by
 intro pins s σ H Q I ⟨g,env,os,r,m⟩
 refine wpAny_Call_Name_kw (dN I MY CO jK (PyProof.Rows.callWith_type1 ?_ he hpl))
 rw[he]
 refine Calls.spliced_cons (Call_ (dN I hgv hmv mG (PyProof.Rows.callWith_type1 ?_ Ym Nf)))
 rw[Ym]
 refine Calls.spliced_cons (Call_ (dN I hgr MX t8 (PyProof.Rows.callWith_type1 (bz (ha CV pins s σ H _ I ⟨g,env,os,r,m.bind.mono fun ds _ q vs H1 s1 i1=>(⟨ds,s1,i1,q⟩:∃ds,aB H H1/\IsL X.K Tr H1 ds vs/\Good E g.H₀ (yG ds) _)⟩) fun us s1 ⟨vs,H1,I1,r1,ds,sm,i1,q⟩=>?_) hs rfl)))
 unfold yG at q
 split at q
 ·rename_i j
  split at q
  ·rename_i c
   obtain⟨v,rfl,iv⟩:=IsL.vh i1
   have Q8:v=.int j:=iv
   subst Q8
   obtain⟨u,rfl,t,rfl⟩:=vals1 r1
   obtain⟨n,rfl⟩:∃n:Nat,j=n:=⟨j.toNat,by omega⟩
   rw[toNat_natCast]at q
   have hd:X.A.handled=none:=I.ok.hd hc
   refine call_range_1 (Calls.spliced_nil ?_)
   generalize hR:({cls:=.type "range",data:=.fields #[.int 0 s1.toks,.int (n:Int) t,.int 1 (s1.toks+1)]}:Obj)=oR
   refine Nq (n:=n) (by omega) c.2 (show IsRange _ _ 0 (n:Int) 1 s1.toks t (s1.toks+1)from by rw[<-hR];exact IsRange.new ..) (Calls.spliced_nil ?_)
   have k1:∀b o,s1.heap.get? b=some o->((s1.heap.push oR).push (rY n)).get? b=some o:=fun b o e=>Heap.get?_push_of_some _ (Heap.get?_push_of_some _ e)
   have hit:((s1.heap.push oR).push (rY n)).get? (s1.heap.push oR).objs.size=some (rY n):=Heap.get?_push_size _ rfl
   refine IY (n:=n) hd (by omega) (by
    show((s1.heap.push oR).push (rY n)).get? (s1.heap.push oR).objs.size=_
    rw[hit]
    unfold rY
    rw[show 0+((n:Int)-1)*1=(n:Int)-1 by omega]) fun h' tk dg c' hk hl VR=>?_
   obtain⟨hi1,hi2⟩:=VR
   have hv:Vals (ug n) dg.toList:=CU (by simpa using hi1) fun i v e=>by
    obtain⟨t,q⟩:=hi2 i v (by simpa using e)
    exact⟨t,by rw[q];congr 1;omega⟩
   have hlen:(ug n).length<=sizeLine:=by
    unfold ug
    rw[length_map,length_range]
    exact le_trans (show n<=1000000 by omega) (by decide)
   have Mx:∀b o,s1.heap.get? b=some o->h'.get? b=some o:=fun b o e=>hk b o (ne_of_lt (lt_trans (Heap.lt_size e) (by rw[Heap.size_push];exact lt_succ_self _))) (k1 b o e)
   have hsz:s1.heap.objs.size<=((s1.heap.push oR).push (rY n)).objs.size:=by rw[Heap.size_push,Heap.size_push];omega
   have hn1:H1 ((s1.heap.push oR).push (rY n)).objs.size=none:=I1.hok.fresh hsz
   refine⟨.ref _,upd H1 _ (.lst (ug n)),I1.laid (a:=((s1.heap.push oR).push (rY n)).objs.size) (t':=tk) Mx hsz ⟨hlen,dg.toList,c',hv,by simpa using hl⟩,rfl,?_⟩
   exact q _ _ _ (sm.trans (aD hn1 _)) (sm.free hn1) ak (IZ n)
  ·exact q.elim
 ·exact q.elim
end
def uh(env:DE):R Out:=
 (R.bind (R.bind (R.bind (R.bind (R.bind (R.bind (R.bind (R.bind (aU 0 env) fun gu=>R.bind (R.ok (D.int 1000003)) fun kq=>R.of (oV gu kq)) fun k9=>R.bind (R.ok (D.int 7)) fun km=>R.of (yj k9 km)) fun v10=>R.bind (R.bind (aU 1 env) fun lg=>R.bind (aU 1 env) fun kO=>R.of (yj lg kO)) fun v11=>R.of (g5 v10 v11)) fun v8=>R.bind (R.ok (D.int 1)) fun v9=>R.of (g5 v8 v9)) fun v6=>R.bind (aU 2 env) fun v7=>R.of (yj v6 v7)) fun v4=>R.bind (R.ok (D.int 2147483647)) fun v5=>R.of (oV v4 v5)) fun v2=>R.bind (R.ok (D.int 16)) fun v3=>R.of (wO v2 v3)) fun v1=>R.ok (Out.rt v1))
def eY:=mS 3 3 uh
def mO(env:DE):R Out:=
 (aS (R.bind (R.bind (R.bind (aU 1 env) fun v4=>R.bind (R.ok (D.int 1)) fun v5=>R.bind (R.of (xQ v4 v5)) jf) fun v3=>if v3=true then(R.bind (R.bind (aU 0 env) fun v8=>R.bind (R.ok (D.int 13)) fun v9=>R.of (oV v8 v9)) fun v6=>R.bind (R.ok (D.int 5)) fun v7=>R.bind (R.of (xQ v6 v7)) jf)else R.ok false) fun v2=>if v2=true then(R.bind (R.ok (D.int 1)) fun v10=>R.ok (Out.rt v10))else(R.ok (Out.nx env))) fun v1=>
 (aS (R.bind (R.bind (R.bind (R.ok (D.int 2)) fun gu=>R.bind (R.bind (aU 1 v1) fun lg=>R.bind (R.ok []) fun kO=>R.ok (lg::kO)) fun kq=>R.ok (gu::kq)) fun km=>R.of (A7 km)) fun k9=>R.ok (Out.nx (List.set v1 1 (Sl.val k9)))) fun v11=>
 (R.bind (R.bind (aU 1 v11) fun mQ=>R.bind (R.bind (R.bind (aU 0 v11) fun qQ=>R.bind (R.ok (D.int 13)) fun qR=>R.of (wO qQ qR)) fun qT=>R.bind (R.bind (R.bind (aU 2 v11) fun vq=>R.bind (aU 1 v11) fun xj=>R.of (ik vq xj)) fun qU=>R.bind (R.ok (D.int 1)) fun ui=>R.of (g5 qU ui)) fun kP=>R.of (oV qT kP)) fun v20=>R.of (g5 mQ v20)) fun l9=>R.ok (Out.rt l9))))
def dw:=mS 3 3 mO
def lQ(env:DE):R Out:=
 (aS (R.bind (R.bind (R.ok (D.int 1)) fun v3=>R.bind (R.bind (aU 0 env) fun v5=>R.bind (R.bind (aU 1 env) fun v7=>R.bind (R.ok (D.int 1)) fun v8=>R.of (ik v7 v8)) fun v6=>R.of (oV v5 v6)) fun v4=>R.of (g5 v3 v4)) fun v2=>R.ok (Out.nx (List.set env 2 (Sl.val v2)))) fun v1=>
 (aS (R.bind (R.bind (R.bind (R.bind (aU 0 v1) fun kq=>R.bind (R.ok (D.int 8)) fun lg=>R.of (wO kq lg)) fun km=>R.bind (R.ok (D.int 2)) fun gu=>R.of (oV km gu)) fun v11=>R.bind (R.ok (D.int 1)) fun k9=>R.bind (R.of (xQ v11 k9)) jf) fun v10=>if v10=true then(R.bind (R.bind (aU 2 v1) fun l9=>R.of (qH l9)) fun kO=>R.ok (Out.rt kO))else(R.ok (Out.nx v1))) fun v9=>
 (R.bind (bU 2 v9) fun mQ=>R.ok (Out.rt mQ))))
def cO:=mS 2 3 lQ
def pQ(env:DE):R Out:=
 (aS (R.bind (R.bind (R.bind (aU 0 env) fun v3=>R.bind (R.bind (aU 1 env) fun v5=>R.bind (R.ok []) fun v6=>R.ok (v5::v6)) fun v4=>R.ok (v3::v4)) cO) fun v2=>R.ok (Out.nx (List.set env 2 (Sl.val v2)))) fun v1=>
 (aS (R.bind (R.bind (R.bind (R.bind (R.bind (aU 0 v1) fun gu=>R.bind (R.ok (D.int 16)) fun kq=>R.of (wO gu kq)) fun k9=>R.bind (R.ok (D.int 4)) fun km=>R.of (oV k9 km)) fun v10=>R.bind (R.ok (D.int 0)) fun v11=>R.bind (R.of (zS v10 v11)) jf) fun v9=>if v9=true then R.ok true else(R.bind (aU 1 v1) fun lg=>R.bind (R.ok (D.int 3)) fun kO=>R.bind (R.of (JW lg kO)) jf)) fun v8=>if v8=true then(R.bind (R.bind (R.bind (R.bind (bU 2 v1) fun v20=>R.bind (R.ok []) fun qT=>R.ok (v20::qT)) fit) fun mQ=>R.ok (D.lst mQ)) fun l9=>R.ok (Out.rt l9))else(R.ok (Out.nx v1))) fun v7=>
 (aS (R.bind (R.bind (R.bind (R.bind (R.bind (R.bind (R.bind (aU 2 v7) fun Fb=>R.bind (R.ok (D.int 1)) fun Fc=>R.of (g5 Fb Fc)) fun Ab=>R.bind (R.ok []) fun v30=>R.ok (Ab::v30)) fun xj=>R.of (CI xj)) fun ui=>R.bind (aU 1 v7) fun vq=>R.bind (R.of (JW ui vq)) jf) fun qU=>if qU=true then(R.bind (R.bind (aU 2 v7) fun Fd=>R.bind (R.ok (D.int 1)) fun Ac=>R.of (g5 Fd Ac)) fun Fe=>R.bind (R.ok (D.int 0)) fun Dv=>R.bind (R.of (Bd Fe Dv)) jf)else R.ok false) fun qR=>if qR=true then(R.bind (aU 2 v7) fun Ff=>R.bind (R.ok (D.int 1)) fun Hg=>R.of (g5 Ff Hg))else(R.bind (aU 2 v7) fun Fg=>R.bind (R.ok (D.int 1)) fun Hh=>R.of (ik Fg Hh))) fun qQ=>R.ok (Out.nx (List.set v7 3 (Sl.val qQ)))) fun kP=>
 (R.bind (R.bind (R.bind (R.bind (R.bind (R.bind (R.bind (bU 2 kP) fun I0=>R.bind (R.bind (bU 3 kP) fun I8=>R.bind (R.bind (bU 2 kP) fun Fi=>R.bind (R.ok []) fun Hi=>R.ok (Fi::Hi)) fun Dw=>R.ok (I8::Dw)) fun I9=>R.ok (I0::I9)) fit) fun Ja=>R.ok (D.lst Ja)) fun Hj=>R.bind (R.bind (R.bind (R.bind (R.bind (bU 2 kP) fun Nv=>R.bind (R.bind (bU 3 kP) fun Nx=>R.bind (R.ok []) fun Ny=>R.ok (Nx::Ny)) fun Fj=>R.ok (Nv::Fj)) fit) fun Nz=>R.ok (D.lst Nz)) fun NB=>R.bind (R.bind (R.bind (R.bind (R.bind (bU 2 kP) fun ND=>R.bind (R.bind (bU 2 kP) fun NF=>R.bind (R.ok []) fun NG=>R.ok (NF::NG)) fun NH=>R.ok (ND::NH)) fit) fun K6=>R.ok (D.lst K6)) fun NI=>R.bind (R.bind (R.bind (R.bind (R.bind (bU 2 kP) fun NJ=>R.bind (R.bind (R.bind (aU 3 kP) fun NK=>R.of (qH NK)) fun NN=>R.bind (R.bind (bU 2 kP) fun VS=>R.bind (R.ok []) fun VU=>R.ok (VS::VU)) fun Dy=>R.ok (NN::Dy)) fun NP=>R.ok (NJ::NP)) fit) fun NQ=>R.ok (D.lst NQ)) fun NR=>R.bind (R.ok []) fun NS=>R.ok (NR::NS)) fun Fl=>R.ok (NI::Fl)) fun Rv=>R.ok (NB::Rv)) fun Dz=>R.ok (Hj::Dz)) fit) fun Bq=>R.bind (R.bind (R.bind (aU 0 kP) fun Rw=>R.bind (R.ok (D.int 64)) fun Rx=>R.of (wO Rw Rx)) fun NT=>R.bind (R.ok (D.int 4)) fun NU=>R.of (oV NT NU)) fun Ae=>vg Bq Ae) fun Jb=>R.ok (Out.rt Jb)))))
def fK:=mD 2 4 pQ
def iC(d:D)(env:DE):R Out:=
 R.bind ((bT 2 (jL (bN 4) (jL (bN 5) xf))) d env) fun v8=>
  (R.bind (R.bind (aU 1 v8) fun v10=>R.bind (R.ok (D.int 1)) fun v11=>R.bind (R.of (zS v10 v11)) jf) fun v9=>if v9=true then(R.bind (R.bind (R.bind (lN 3 v8) fun gu=>R.bind (R.bind (R.bind (R.bind (R.bind (R.bind (aU 5 v8) fun l9=>R.bind (R.bind (aU 4 v8) fun v20=>R.bind (R.bind (R.ok (D.int 48271)) fun kP=>R.bind (R.ok []) fun qQ=>R.ok (kP::qQ)) fun qT=>R.ok (v20::qT)) fun mQ=>R.ok (l9::mQ)) eY) fun lg=>R.bind (R.bind (bU 1 v8) fun qR=>R.bind (R.ok []) fun qU=>R.ok (qR::qU)) fun kO=>R.ok (lg::kO)) fK) qG) fun kq=>fit (gu++kq)) fun km=>R.ok (D.lst km)) fun k9=>R.ok (Out.nx (List.set v8 3 (Sl.val k9))))else(R.ok (Out.nx v8)))
def pR(env:DE):R Out:=
 (aS (R.bind (R.bind (R.bind (R.ok []) fit) fun v3=>R.ok (D.lst v3)) fun v2=>R.ok (Out.nx (List.set env 3 (Sl.val v2)))) fun v1=>
 (aS (R.bind (R.bind (bU 0 v1) fun ui=>R.bind (qG ui) fun xs=>R.ok (du xs)) fun v5=>dH iC v5 v1) fun v4=>
 (R.bind (R.bind (lN 3 v4) fun xj=>R.bind (R.ok none) fun Ab=>R.bind (R.bind (aU 2 v4) Ef) fun v30=>R.ok (cut xj Ab v30)) fun vq=>R.ok (Out.o7 vq))))
def fM:=eR 3 6 pR
def Af(c k f:Int):Int:=(c%1000003*7+k*k+1)*f%2147483647/16
theorem Fo(c k f:Int)(hk:0<=k/\k<1000000)(hf:0<=f/\f<2147483647):eY [.int c,.int k,.int f]=.ok (.int (Af c k f)):=by
 have h1:=emod_nonneg c (show(1000003:Int)≠0 by decide)
 have h2:=emod_lt_of_pos c (show(0:Int)<1000003 by decide)
 unfold eY uh
 simp -implicitDefEqProofs only [mS,mD,mF,eR,aH,reduceAdd,reduceSub,reduceEqDiff,reduceIte,ai,aj,q1,q2,q3,q4]
 rw[iB c 1000003 (by decide)]
 simp -implicitDefEqProofs only [R.jI,R.bB]
 rw[uc _ 7 (.inr (by decide))]
 simp -implicitDefEqProofs only [R.jI,R.bB]
 rw[uc k k (.inl (by omega))]
 simp -implicitDefEqProofs only [R.jI,R.bB,w6]
 rw[uc _ f (.inr (by omega))]
 simp -implicitDefEqProofs only [R.jI,R.bB]
 rw[iB _ 2147483647 (by decide)]
 simp -implicitDefEqProofs only [R.jI,R.bB]
 rw[qN _ 16 (by decide)]
 rfl
def kr(s:Int):Int:=if s%13=5 then 1 else 2+s/13%6
theorem Ag(s:Int):dw [.int s,.int 1,.int 7]=.ok (.int (kr s)):=by
 unfold dw mO kr
 simp -implicitDefEqProofs only [mS,mD,mF,eR,aH,reduceAdd,reduceSub,reduceEqDiff,reduceIte,ai,aj,q1,q2,q3,q4]
 rw[iB s 13 (by decide)]
 simp -implicitDefEqProofs only [reduceIte,ai,aj,q1,q2,q3,q4,beq_self_eq_true]
 by_cases h:s%13=5
 ·simp -implicitDefEqProofs only [h,beq_self_eq_true,reduceIte,ai,aj,q1,q2,q3,q4]
 ·have h':(s%13==5)=false:=beq_false_of_ne h
  simp -implicitDefEqProofs only [h',h,reduceIte,ai,aj,q1,q2,q3,q4]
  rw[qN s 13 (by decide)]
  simp -implicitDefEqProofs only [reduceIte,ai,aj,q1,q2,q3,q4]
  rw[iB _ _ (by decide)]
  rfl
theorem yH(s:Int):1<=kr s/\kr s<=7:=by
 unfold kr
 split<;>omega
def cT(x n:Int):Int:=if x/8%2=1 then-(1+x%(n-1))else 1+x%(n-1)
theorem Fp(x n:Int)(h:2<=n):cO [.int x,.int n]=.ok (.int (cT x n)):=by
 unfold cO lQ cT
 simp -implicitDefEqProofs only [mS,mD,mF,eR,aH,reduceAdd,reduceSub,reduceEqDiff,reduceIte,ai,aj,q1,q2,q3,q4]
 rw[iB x (n-1) (by omega)]
 simp -implicitDefEqProofs only [reduceIte,ai,aj,q1,q2,q3,q4]
 rw[qN x 8 (by decide)]
 simp -implicitDefEqProofs only [reduceIte,ai,aj,q1,q2,q3,q4]
 rw[iB _ 2 (by decide)]
 simp -implicitDefEqProofs only [reduceIte,ai,aj,q1,q2,q3,q4]
 by_cases hc:x/8%2=1
 ·simp -implicitDefEqProofs only [hc,beq_self_eq_true,reduceIte,ai,aj,q1,q2,q3,q4]
 ·have AO:(x/8%2==1)=false:=beq_false_of_ne hc
  simp -implicitDefEqProofs only [hc,AO,reduceIte,ai,aj,q1,q2,q3,q4]
def rK(n k:Int):Prop:=k≠0/\ -n<k/\k<n
theorem Fq(x n:Int)(h:2<=n):rK n (cT x n):=by
 unfold cT rK
 have h1:=emod_nonneg x (show n-1≠0 by omega)
 have h2:=emod_lt_of_pos x (show 0<n-1 by omega)
 split<;>omega
def qV(k n:Int):Int:=if(if k+1<0 then-(k+1)else k+1)<n/\k+1≠0 then k+1 else k-1
def mR(x n:Int):List Int:=
 if x/16%4>0\/n<3 then[cT x n]else
  let k:=cT x n
  let o:=qV k n
  if x/64%4=0 then[k,o,k]else if x/64%4=1 then[k,o]else if x/64%4=2 then[k,k]else[k,-o,k]
theorem Ft{k n:Int}(h:3<=n)(hk:rK n k):rK n (qV k n):=by
 unfold qV rK at*
 split<;>split at* <;>omega
theorem Fv{x n:Int}(h:2<=n):∀k∈mR x n,rK n k:=by
 have h1:=Fq x n h
 unfold mR
 split
 ·simp[h1]
 ·rename_i hc
  have h2:=Ft (n:=n) (by omega) h1
  have h3:rK n (-qV (cT x n) n):=by unfold rK at*;omega
  dsimp only
  split
  ·simp[h1,h2]
  ·split
   ·simp[h1,h2]
   ·split<;>simp[h1,h3]
theorem vW(x n:Int):(mR x n).length<=3:=by
 unfold mR
 split
 ·simp
 ·dsimp only
  split
  ·simp
  ·split
   ·simp
   ·split<;>simp
theorem Fw(x n:Int)(h:2<=n):fK [.int x,.int n]=.ok (.lst (aA (mR x n))):=by
 unfold fK pQ mR
 simp -implicitDefEqProofs only [mS,mD,mF,eR,aH,reduceAdd,reduceSub,reduceEqDiff,reduceIte,ai,aj,q1,q2,q3,q4]
 rw[Fp x n h]
 simp -implicitDefEqProofs only [reduceIte,ai,aj,q1,q2,q3,q4]
 rw[qN x 16 (by decide)]
 simp -implicitDefEqProofs only [reduceIte,ai,aj,q1,q2,q3,q4]
 rw[iB _ 4 (by decide)]
 simp -implicitDefEqProofs only [reduceIte,ai,aj,q1,q2,q3,q4]
 by_cases h1:0<x/16%4
 ·have Ry:x/16%4>0\/n<3:=.inl h1
  rw[if_pos Ry]
  simp -implicitDefEqProofs only [h1,decide_true,reduceIte,ai,aj,q1,q2,q3,q4]
  rfl
 ·by_cases h2:n<3
  ·have Ry:x/16%4>0\/n<3:=.inr h2
   rw[if_pos Ry]
   simp -implicitDefEqProofs only [h1,h2,decide_true,decide_false,reduceIte,ai,aj,q1,q2,q3,q4]
   rfl
  ·have Ry:¬(x/16%4>0\/n<3):=by omega
   rw[if_neg Ry]
   simp -implicitDefEqProofs only [h1,h2,decide_false,reduceIte,ai,aj,q1,q2,q3,q4]
   have ho:(R.bind (if decide ((if cT x n+1<0 then-(cT x n+1)else cT x n+1)<n)=true then R.ok (!(cT x n+1==0))else R.ok false) fun t=>if t=true then R.ok (D.int (cT x n+1))else R.ok (D.int (cT x n-1)))=R.ok (D.int (qV (cT x n) n)):=by
    unfold qV
    by_cases c1:(if cT x n+1<0 then-(cT x n+1)else cT x n+1)<n
    ·by_cases c2:cT x n+1=0
     ·simp[c1,c2,R.bB]
     ·simp[c1,c2,R.bB]
    ·simp[c1,R.bB]
   rw[ho]
   simp -implicitDefEqProofs only [reduceIte,ai,aj,q1,q2,q3,q4]
   rw[qN x 64 (by decide)]
   simp -implicitDefEqProofs only [reduceIte,ai,aj,q1,q2,q3,q4]
   rw[iB _ 4 (by decide)]
   simp -implicitDefEqProofs only [reduceIte,ai,aj,q1,q2,q3,q4]
   have h5:=emod_nonneg (x/64) (show(4:Int)≠0 by decide)
   have h6:=emod_lt_of_pos (x/64) (show(0:Int)<4 by decide)
   have h7:x/64%4=0\/x/64%4=1\/x/64%4=2\/x/64%4=3:=by omega
   rcases h7 with q|q|q|q<;>simp[q,L2.iP,L2.o6,R.jI,R.bB,R.El,ai,aA]
def lh(n:Int)(cells:List Int)(i:Nat):List Int:=((range i).map fun k=>match cells[k]? with
 |some c=>mR (Af c k 48271) n
 |none=>[]).flatten
theorem Fx{n:Int}{cells:List Int}{i:Nat}{c:Int}(h:cells[i]?=some c):lh n cells (i+1)=lh n cells i++mR (Af c i 48271) n:=by
 unfold lh
 rw[range_succ,map_append,flatten_append]
 simp[h]
theorem Br(n:Int)(cells:List Int):∀i:Nat,(lh n cells i).length<=3*i
 |0=>by simp[lh]
 |i+1=>by
  unfold lh
  rw[range_succ,map_append,flatten_append,length_append]
  have ih:=Br n cells i
  unfold lh at ih
  cases h:cells[i]? with
  |none=>simp -implicitDefEqProofs only [h,map_cons,map_nil,flatten_cons,List.flatten_nil,length_append,length_nil];omega
  |some c=>
   have:=vW (Af c i 48271) n
   simp -implicitDefEqProofs only [h,map_cons,map_nil,flatten_cons,List.flatten_nil,length_append,length_nil];omega
theorem NV{n:Int}(hn:2<=n)(cells:List Int)(i:Nat):∀k∈lh n cells i,rK n k:=by
 intro k hk
 unfold lh at hk
 rw[List.mem_flatten]at hk
 obtain⟨l,hl,hk⟩:=hk
 rw[mem_map]at hl
 obtain⟨j,_,rfl⟩:=hl
 cases h:cells[j]? with
 |none=>rw[h]at hk;cases hk
 |some c=>rw[h]at hk;exact Fv hn k hk
def xm(cells:List Int)(n most:Int):List Int:=(if 1<n then lh n cells cells.length else[]).take most.toNat
theorem Fy{cells:List Int}{n most:Int}:∀k∈xm cells n most,rK n k:=by
 intro k hk
 unfold xm at hk
 have:=mem_of_mem_take hk
 split at this
 ·exact NV (by omega) _ _ k this
 ·cases this
theorem Fz(cells:List Int)(n most:Int)(hc:cells.length<=1000)(hn:1<=n)(hm:0<=most):fM [.lst (aA cells),.int n,.int most]=.ok (aA (xm cells n most)):=by
 unfold fM pR
 simp -implicitDefEqProofs only [mS,mD,mF,eR,aH,reduceAdd,reduceSub,reduceEqDiff,reduceIte,ai,aj,q1,q2,q3,q4]
 obtain⟨s',e,hj⟩:=qO (S:=List Int×Sl×Sl) (b:=iC)
  (fun i s=>s.1=if 1<n then lh n cells i else[]) (fun s=>[.val (.lst (aA cells)),.val (.int n),.val (.int most),.val (.lst (aA s.1)),s.2.1,s.2.2]) (du (aA cells)) 0 ([],.no,.no) (by simp[lh]) (by
   rintro j ⟨wd,s4,s5⟩ x hs hx
   obtain⟨c,Yn,rfl⟩:=vV hx
   have hj:j<cells.length:=(List.getElem?_eq_some_iff.mp Yn).1
   rw[zero_add]at hs⊢
   have Hf:wd=if 1<n then lh n cells j else[]:=hs
   unfold iC
   simp -implicitDefEqProofs only [X6,reduceIte,ai,aj,q1,q2,q3,q4]
   by_cases h1:1<n
   ·rw[if_pos h1]at Hf
    subst Hf
    have hl:=Br n cells j
    have hl2:=vW (Af c j 48271) n
    refine⟨(lh n cells (j+1),.val (.int (j:Nat)),.val (.int c)),?_,by simp[h1]⟩
    simp -implicitDefEqProofs only [h1,decide_true,reduceIte,ai,aj,q1,q2,q3,q4]
    rw[Fo c j 48271 (by omega) (by decide)]
    simp -implicitDefEqProofs only [reduceIte,ai,aj,q1,q2,q3,q4]
    rw[Fw _ n (by omega)]
    simp -implicitDefEqProofs only [reduceIte,ai,aj,q1,q2,q3,q4,pM]
    rw[bY (by rw[length_append];omega)]
    simp -implicitDefEqProofs only [reduceIte,ai,aj,q1,q2,q3,q4,Fx Yn]
   ·rw[if_neg h1]at Hf
    subst Hf
    exact⟨([],.val (.int (j:Nat)),.val (.int c)),by simp -implicitDefEqProofs only [h1,decide_false,reduceIte,ai,aj,q1,q2,q3,q4],by simp[h1]⟩)
 obtain⟨wd,s4,s5⟩:=s'
 have Ah:wd=if 1<n then lh n cells (0+(du (aA cells)).length)else[]:=hj
 have he:(du (aA cells)).length=cells.length:=by rw[CQ,aY]
 rw[zero_add,he]at Ah
 rw[show aA []=[]from rfl]at e
 rw[e]
 simp -implicitDefEqProofs only [reduceIte,ai,aj,q1,q2,q3,q4,kZ]
 rw[ue _ _ hm,jh]
 simp -implicitDefEqProofs only [reduceIte,ai,aj,q1,q2,q3,q4,Ah]
 rfl
theorem Bs{w:List Int}{j:Nat}{x:D}(h:(aA w)[j]?=some x):∃k,w[j]?=some k/\x=.int k:=by
 rw[IE]at h
 cases q:w[j]? with
 |none=>rw[q]at h;cases h
 |some k=>rw[q]at h;cases h;exact⟨k,rfl,rfl⟩
theorem yI{α:Type}{w:List α}{j:Nat}{k:α}(h:w[j]?=some k):w.take (j+1)=w.take j++[k]:=by
 rw[take_succ,h];rfl
theorem Rz{K:PySem.W.Frag}{H:Hp}{a:Addr}{m:List D->R D}{ns:List Int}(h:m [.lst (aA ns)]=.ok (.bl true))(hS:bW K H a (ns.map V.int)):A8 K Dt m [.ref a] H (fun v _=>v=.bl true) fun _ _ _=>False:=by
 refine⟨Tr,[.lst (aA ns)],IsL.one ⟨a,_,rfl,rW.any hS,?_⟩,?_⟩
 ·clear h hS
  induction ns with
  |nil=>rfl
  |cons x r ih=>exact⟨_,_,rfl,rfl,ih⟩
 ·rw[h]
  intro v H' _ i
  exact i
def yJ(env:DE):R Bool:=
 R.ok true
def yK(env:DE):R D:=
 (R.bind (aU 0 env) fun v6=>R.of (qH v6))
def yL(env:DE):R Out:=
 (R.bind (R.bind (R.bind (bU 0 env) fun v7=>R.bind (qG v7) fun xs=>R.ok (reverse xs)) fun v2=>R.bind (cM env []) fun v3=>R.bind (R.ne (bj (bN 0) yJ yK (dR 1 v3) v2)) fit) fun v1=>R.ok (Out.o7 v1))
def mU:=eR 1 1 yL
def lj(d:D)(env:DE):R Out:=
 R.bind ((bN 2) d env) fun v7=>
  (R.bind (R.bind (R.bind (R.bind (R.bind (aU 1 v7) fun km=>R.bind (R.ok []) fun gu=>R.ok (km::gu)) fun k9=>R.of (oh k9)) fun v10=>R.bind (R.ok (D.int 0)) fun v11=>R.bind (R.of (zS v10 v11)) jf) fun v9=>if v9=true then(R.bind (R.bind (lN 1 v7) fun kO=>R.bind (R.bind (R.ok (D.int 1)) fun mQ=>R.of (qH mQ)) fun l9=>vg kO l9) fun kq=>R.bind (R.bind (aU 2 v7) fun v20=>R.of (qH v20)) fun lg=>R.bind (R.of (xQ kq lg)) jf)else R.ok false) fun v8=>if v8=true then(R.bind (ownAt 1 v7) fun qT=>M6 1 v7 qT)else(R.bind (ownAt 1 v7) fun kP=>R.bind (bU 2 v7) fun qQ=>M5 1 v7 kP qQ))
def vX(env:DE):R Out:=
 (aS (R.bind (R.bind (R.ok []) fit) fun v2=>R.ok (Out.nx (List.set env 1 (Sl.own v2)))) fun v1=>
 (aS (R.bind (R.bind (bU 0 v1) qG) fun v4=>dH lj v4 v1) fun v3=>
 (R.bind (ownAt 1 v3) fun qR=>R.ok (Out.o7 qR))))
def ky:=eR 1 3 vX
def uj(env:DE):R Out:=
 (R.bind (R.bind (R.bind (aU 0 env) fun v2=>R.bind (R.ok []) fun v3=>R.ok (v2::v3)) iT) fun v1=>R.ok (Out.o7 v1))
def ck:=eR 1 1 uj
def FA(env:DE):R Out:=
 (R.bind (R.bind (R.bind (R.bind (aU 0 env) fun v4=>R.bind (R.ok (D.int 1)) fun v5=>R.of (ik v4 v5)) fun v2=>R.bind (R.bind (R.bind (R.ok (D.int 1)) fun v8=>R.of (qH v8)) fun v6=>R.bind (R.bind (R.bind (R.ok (D.int 1)) fun v11=>R.of (qH v11)) fun v9=>R.bind (R.ok []) fun v10=>R.ok (v9::v10)) fun v7=>R.ok (v6::v7)) fun v3=>R.ok (v2::v3)) E4) fun v1=>R.ok (Out.o7 v1))
def uk:=eR 1 1 FA
def jj(d:D)(env:DE):R Out:=
 R.bind ((bT 2 (jL (bN 2) (jL (bN 3) xf))) d env) fun gu=>
  (R.bind (bU 2 gu) fun kq=>R.bind (ownAt 1 gu) fun lg=>R.bind (aU 3 gu) fun kO=>yz 1 gu kq lg kO)
def rL(env:DE):R Out:=
 (aS (R.bind (R.bind (R.bind (R.bind (R.ok (D.int 0)) fun v5=>R.bind (R.ok []) fun v6=>R.ok (v5::v6)) fit) fun v3=>R.bind (R.bind (R.bind (aU 0 env) fun v8=>R.bind (R.ok []) fun v9=>R.ok (v8::v9)) fun v7=>R.of (oh v7)) fun v4=>Iz v3 v4) fun v2=>R.ok (Out.nx (List.set env 1 (Sl.own v2)))) fun v1=>
 (aS (R.bind (R.bind (bU 0 v1) fun l9=>R.bind (qG l9) fun xs=>R.ok (du xs)) fun v11=>dH jj v11 v1) fun v10=>
 (R.bind (ownAt 1 v10) fun mQ=>R.ok (Out.o7 mQ))))
def bG:=eR 1 4 rL
def um(env:DE):R Bool:=
 (R.bind (R.bind (lN 1 env) fun v8=>R.bind (R.bind (aU 0 env) fun v10=>R.bind (R.ok (D.int 1)) fun v11=>R.of (ik v10 v11)) fun v9=>vg v8 v9) fun v6=>R.bind (R.bind (lN 1 env) fun k9=>R.bind (aU 0 env) fun km=>vg k9 km) fun v7=>R.bind (R.of (zS v6 v7)) jf)
def uo(env:DE):R D:=
 (bU 0 env)
def Bt(env:DE):R Out:=
 (R.bind (R.bind (R.bind (R.bind (R.ok (D.int 1)) fun gu=>R.bind (R.bind (R.bind (R.bind (aU 0 env) fun mQ=>R.bind (R.ok []) fun v20=>R.ok (mQ::v20)) fun l9=>R.of (oh l9)) fun lg=>R.bind (R.ok []) fun kO=>R.ok (lg::kO)) fun kq=>R.ok (gu::kq)) CJ) fun v2=>R.bind (cM env [0]) fun v3=>R.bind (R.ne (bj (bN 0) um uo (dR 1 v3) v2)) fit) fun v1=>R.ok (Out.o7 v1))
def nR:=eR 1 1 Bt
def fO(env:DE):R Out:=
 (R.bind (R.bind (R.bind (R.bind (lN 0 env) fun v6=>R.bind (R.ok none) fun v7=>R.bind (R.bind (R.bind (aU 1 env) fun v9=>R.bind (R.ok (D.int 1)) fun v10=>R.of (ik v9 v10)) Ef) fun v8=>R.ok (cut v6 v7 v8)) fun v4=>R.bind (R.bind (R.bind (R.bind (lN 0 env) fun km=>R.bind (aU 1 env) fun gu=>vg km gu) fun v11=>R.bind (R.bind (R.bind (lN 0 env) fun kO=>R.bind (R.bind (aU 1 env) fun mQ=>R.bind (R.ok (D.int 1)) fun v20=>R.of (ik mQ v20)) fun l9=>vg kO l9) fun kq=>R.bind (R.ok []) fun lg=>R.ok (kq::lg)) fun k9=>R.ok (v11::k9)) fit) fun v5=>fit (v4++v5)) fun v2=>R.bind (R.bind (lN 0 env) fun qT=>R.bind (R.bind (R.bind (aU 1 env) fun qR=>R.bind (R.ok (D.int 1)) fun qU=>R.of (g5 qR qU)) Ef) fun kP=>R.bind (R.ok none) fun qQ=>R.ok (cut qT kP qQ)) fun v3=>fit (v2++v3)) fun v1=>R.ok (Out.o7 v1))
def aL:=eR 2 2 fO
def qW(env:DE):R Bool:=
 R.ok true
def kB(env:DE):R D:=
 (R.bind (R.bind (R.bind (R.bind (aU 1 env) fun v11=>R.bind (R.ok []) fun k9=>R.ok (v11::k9)) fun v10=>R.of (oh v10)) fun v8=>R.bind (R.ok (D.int 1)) fun v9=>R.of (ik v8 v9)) fun v6=>R.bind (aU 0 env) fun v7=>R.of (ik v6 v7))
def oB(env:DE):R Out:=
 (R.bind (R.bind (R.bind (bU 0 env) fun km=>R.bind (qG km) fun xs=>R.ok (reverse xs)) fun v2=>R.bind (cM env [0]) fun v3=>R.bind (R.ne (bj (bN 0) qW kB (dR 1 v3) v2)) fit) fun v1=>R.ok (Out.o7 v1))
def dS:=eR 1 1 oB
def iU(d:D)(env:DE):R Out:=
 R.bind ((bN 2) d env) fun v7=>
  (R.bind (bU 1 v7) fun v8=>R.bind (R.bind (R.ok (D.int 1)) fun v10=>R.bind (R.bind (aU 2 v7) fun k9=>R.bind (R.ok (D.int 1)) fun km=>R.of (ik k9 km)) fun v11=>R.of (IS v10 v11)) fun v9=>CP (fun i j=>PySem.Builtin.bitOr i j) 1 v7 v8 v9)
def vY(env:DE):R Out:=
 (aS (R.bind (R.ok (D.int 0)) fun v2=>R.ok (Out.nx (List.set env 1 (Sl.val v2)))) fun v1=>
 (aS (R.bind (R.bind (bU 0 v1) qG) fun v4=>dH iU v4 v1) fun v3=>
 (R.bind (bU 1 v3) fun gu=>R.ok (Out.rt gu))))
def kC:=mS 1 3 vY
def mV(env:DE):R Out:=
 (aS (R.bind (R.bind (aU 1 env) fun v3=>R.bind (R.bind (R.bind (aU 0 env) fun v6=>R.bind (R.ok []) fun v7=>R.ok (v6::v7)) fun v5=>R.of (oh v5)) fun v4=>R.bind (R.of (JW v3 v4)) jf) fun v2=>if v2=true then(R.bind (R.bind (lN 0 env) fun v9=>R.bind (aU 1 env) fun v10=>vg v9 v10) fun v8=>R.ok (Out.rt v8))else(R.ok (Out.nx env))) fun v1=>
 (R.bind (R.ok (D.int 0)) fun v11=>R.ok (Out.rt v11)))
def cC:=mS 2 2 mV
def eg(d:D)(env:DE):R Out:=
 R.bind ((bN 3) d env) fun v10=>
  (aS (R.bind (R.bind (R.bind (aU 3 v10) fun gu=>R.bind (R.ok []) fun kq=>R.ok (gu::kq)) fun km=>R.of (CI km)) fun k9=>R.ok (Out.nx (List.set v10 4 (Sl.val k9)))) fun v11=>
 (R.bind (R.bind (R.bind (R.bind (R.bind (lN 2 v11) fun kP=>R.bind (R.ok none) fun qQ=>R.bind (R.bind (R.bind (aU 4 v11) fun qU=>R.bind (R.ok (D.int 1)) fun ui=>R.of (ik qU ui)) Ef) fun qR=>R.ok (cut kP qQ qR)) fun v20=>R.bind (R.bind (R.bind (R.bind (lN 2 v11) fun Ab=>R.bind (aU 4 v11) fun v30=>vg Ab v30) fun vq=>R.bind (R.bind (R.bind (lN 2 v11) fun Fe=>R.bind (R.bind (aU 4 v11) fun Fd=>R.bind (R.ok (D.int 1)) fun Ac=>R.of (ik Fd Ac)) fun Dv=>vg Fe Dv) fun Fb=>R.bind (R.ok []) fun Fc=>R.ok (Fb::Fc)) fun xj=>R.ok (vq::xj)) fit) fun qT=>fit (v20++qT)) fun l9=>R.bind (R.bind (lN 2 v11) fun Ff=>R.bind (R.bind (R.bind (aU 4 v11) fun Hh=>R.bind (R.ok (D.int 1)) fun Jb=>R.of (g5 Hh Jb)) Ef) fun Hg=>R.bind (R.ok none) fun Fg=>R.ok (cut Ff Hg Fg)) fun mQ=>fit (l9++mQ)) fun kO=>R.ok (D.lst kO)) fun lg=>R.ok (Out.nx (List.set v11 2 (Sl.val lg)))))
def pS(env:DE):R Out:=
 (aS (R.bind (R.bind (R.bind (R.bind (aU 0 env) fun v4=>R.bind (R.ok []) fun v5=>R.ok (v4::v5)) iT) fun v3=>R.ok (D.lst v3)) fun v2=>R.ok (Out.nx (List.set env 2 (Sl.val v2)))) fun v1=>
 (aS (R.bind (R.bind (bU 1 v1) qG) fun v7=>dH eg v7 v1) fun v6=>
 (R.bind (bU 2 v6) fun Bq=>R.ok (Out.rt Bq))))
def fQ:=mD 2 5 pS
def pT(env:DE):R Bool:=
 R.ok true
def jO(env:DE):R Bool:=
 (R.bind (aU 0 env) fun kq=>R.bind (R.bind (lN 1 env) fun kO=>R.bind (aU 2 env) fun l9=>vg kO l9) fun lg=>R.bind (R.of (zS kq lg)) jf)
def jP(env:DE):R D:=
 (bU 0 env)
def jQ(env:DE):R D:=
 (R.bind (R.bind (R.bind (R.bind (R.bind (R.bind (R.bind (lN 1 env) fun v20=>R.bind (R.ok none) fun qT=>R.bind (R.bind (aU 0 env) Ef) fun kP=>R.ok (cut v20 qT kP)) fun mQ=>R.ok (D.lst mQ)) qG) fun v11=>R.bind (cM env [1,0]) fun k9=>R.bind (R.ne (bj (bN 0) jO jP (dR 1 k9) v11)) fit) fun v10=>R.ok (D.lst v10)) fun v8=>R.bind (R.ok []) fun v9=>R.ok (v8::v9)) fun v7=>R.of (oh v7))
def mW(env:DE):R Out:=
 (R.bind (R.bind (R.bind (R.bind (R.bind (R.bind (R.bind (aU 0 env) fun ui=>R.bind (R.ok []) fun vq=>R.ok (ui::vq)) fun qU=>R.of (oh qU)) fun qQ=>R.bind (R.ok []) fun qR=>R.ok (qQ::qR)) Ig) fun v3=>R.bind (cM env [0]) fun v4=>R.bind (R.ne (bj (bN 0) pT jQ (dR 1 v4) v3)) fit) fun v2=>R.of (mJ v2)) fun v1=>R.ok (Out.rt v1))
def dz:=mS 1 1 mW
def pU(env:DE):R Bool:=
 (R.bind (R.bind (R.bind (R.bind (aU 0 env) fun Fj=>zZ "int" Fj) jf) fun Nv=>R.ok (!Nv)) fun Nz=>if Nz=true then R.ok true else(R.bind (R.bind (aU 0 env) fun Nx=>zZ "bool" Nx) jf))
def pV(env:DE):R D:=
 (bU 0 env)
def cW(d:D)(env:DE):R Out:=
 R.bind ((bN 4) d env) fun DA=>
  (R.bind (R.bind (R.bind (aU 2 DA) fun VV=>R.bind (R.ok D.non) fun VW=>R.bind (R.of (yv VV VW)) jf) fun VX=>if VX=true then(R.bind (R.bind (R.bind (lN 3 DA) fun VY=>R.bind (R.bind (aU 4 DA) fun VZ=>R.bind (R.ok (D.int 1)) fun V0=>R.of (ik VZ V0)) fun V1=>mK VY V1) fun V2=>R.bind (R.bind (lN 3 DA) fun V3=>R.bind (aU 4 DA) fun V4=>mK V3 V4) fun V5=>R.bind (R.of (zS V2 V5)) jf) fun V6=>if V6=true then(R.bind (R.bind (bU 2 DA) fun NW=>R.bind (R.bind (aU 4 DA) fun NX=>R.bind (R.ok (D.int 1)) fun NY=>R.of (ik NX NY)) fun NZ=>wR NW NZ) fun N2=>R.bind (R.bind (bU 2 DA) fun N3=>R.bind (aU 4 DA) fun V7=>wR N3 V7) fun N4=>R.bind (R.of (JW N2 N4)) jf)else R.ok false)else R.ok false) fun V8=>if V8=true then(R.bind (R.ok (D.bl false)) fun V9=>R.ok (Out.rt V9))else(R.ok (Out.nx DA)))
def cX(d:D)(env:DE):R Out:=
 R.bind ((bN 3) d env) fun Bq=>
  (aS (R.bind (R.bind (R.bind (R.bind (R.bind (aU 3 Bq) fun I0=>zZ "list" I0) jf) fun Ja=>R.ok (!Ja)) fun Dz=>if Dz=true then R.ok true else(R.bind (R.bind (R.bind (R.bind (bU 3 Bq) qG) fun Fi=>R.bind (cM Bq []) fun Hi=>R.bind (R.ne (bj (bN 0) pU pV (dR 1 Hi) Fi)) fit) fun Dw=>R.ok (D.lst Dw)) fun I9=>R.bind (R.bind (R.bind (R.ok []) fit) fun Ny=>R.ok (D.lst Ny)) fun I8=>R.bind (R.of (Bd I9 I8)) jf)) fun Hj=>if Hj=true then(R.bind (R.ok (D.bl false)) fun NI=>R.ok (Out.rt NI))else(R.ok (Out.nx Bq))) fun Ae=>
 (aS (R.bind (R.bind (R.bind (R.bind (R.bind (lN 3 Ae) yD) fun NG=>R.ok (D.lst NG)) fun NH=>R.bind (R.bind (R.bind (R.bind (aU 1 Ae) fun NS=>R.bind (R.ok []) fun NQ=>R.ok (NS::NQ)) iT) fun NR=>R.ok (D.lst NR)) fun NF=>R.bind (R.of (Bd NH NF)) jf) fun ND=>if ND=true then R.ok true else(R.bind (R.bind (aU 3 Ae) fun NP=>R.bind (R.bind (R.bind (R.bind (aU 1 Ae) fun NK=>R.bind (R.ok []) fun VS=>R.ok (NK::VS)) iT) fun Dy=>R.ok (D.lst Dy)) fun NN=>R.bind (R.of (xQ NP NN)) jf) fun NJ=>if NJ=true then R.ok true else(R.bind (aU 3 Ae) fun VU=>R.bind (R.bind (R.bind (R.bind (aU 1 Ae) fun Rw=>R.bind (R.ok []) fun Rx=>R.ok (Rw::Rx)) yG) fun NU=>R.ok (D.lst NU)) fun NT=>R.bind (R.of (xQ VU NT)) jf))) fun K6=>if K6=true then(R.bind (R.ok (D.bl false)) fun Wa=>R.ok (Out.rt Wa))else(R.ok (Out.nx Ae))) fun Fl=>
 (aS (R.bind (R.bind (R.bind (R.ok (D.int 1)) fun N5=>R.bind (R.bind (aU 1 Fl) fun N6=>R.bind (R.ok []) fun N7=>R.ok (N6::N7)) fun N8=>R.ok (N5::N8)) CJ) fun v83=>dH cW v83 Fl) fun Th=>
 (R.bind (bU 3 Th) fun Wb=>R.ok (Out.nx (List.set Th 2 (Sl.val Wb)))))))
def mX(env:DE):R Out:=
 (aS (R.bind (R.bind (R.bind (R.bind (R.bind (aU 0 env) fun v5=>zZ "tuple" v5) jf) fun v4=>R.ok (!v4)) fun v3=>if v3=true then R.ok true else(R.bind (R.bind (R.bind (R.bind (aU 0 env) fun v10=>R.bind (R.ok []) fun v11=>R.ok (v10::v11)) fun v9=>R.of (oh v9)) fun v7=>R.bind (R.ok (D.int 2)) fun v8=>R.bind (R.of (Bd v7 v8)) jf) fun v6=>if v6=true then R.ok true else(R.bind (R.bind (R.bind (R.bind (bU 0 env) fun gu=>R.bind (R.ok (D.int 1)) fun kq=>wR gu kq) fun km=>zZ "list" km) jf) fun k9=>R.ok (!k9)))) fun v2=>if v2=true then(R.bind (R.ok (D.bl false)) fun lg=>R.ok (Out.rt lg))else(R.ok (Out.nx env))) fun v1=>
 (aS (R.bind (R.bind (R.bind (R.bind (R.bind (R.bind (bU 0 v1) fun kP=>R.bind (R.ok (D.int 0)) fun qQ=>wR kP qQ) fun qT=>zZ "int" qT) jf) fun v20=>R.ok (!v20)) fun mQ=>if mQ=true then R.ok true else(R.bind (R.bind (R.bind (R.bind (bU 0 v1) fun ui=>R.bind (R.ok (D.int 0)) fun vq=>wR ui vq) fun qU=>zZ "bool" qU) jf) fun qR=>if qR=true then R.ok true else(R.bind (R.bind (aU 1 v1) fun Ab=>R.bind (R.ok (D.int 1)) fun v30=>R.bind (R.of (xQ Ab v30)) jf) fun xj=>if xj=true then(R.bind (R.bind (bU 0 v1) fun Fe=>R.bind (R.ok (D.int 0)) fun Dv=>wR Fe Dv) fun Fb=>R.bind (R.ok (D.int 0)) fun Fc=>R.bind (R.of (Bd Fb Fc)) jf)else R.ok false))) fun l9=>if l9=true then(R.bind (R.ok (D.bl false)) fun Fd=>R.ok (Out.rt Fd))else(R.ok (Out.nx v1))) fun kO=>
 (aS (R.bind (R.ok D.non) fun Ff=>R.ok (Out.nx (List.set kO 2 (Sl.val Ff)))) fun Ac=>
 (aS (R.bind (R.bind (R.bind (bU 0 Ac) fun Wc=>R.bind (R.ok (D.int 1)) fun Wd=>wR Wc Wd) qG) fun Fg=>dH cX Fg Ac) fun Hg=>
 (R.bind (R.ok (D.bl true)) fun We=>R.ok (Out.rt We))))))
def dA:=mS 2 5 mX
def yM(env:DE):R Out:=
 (R.bind (R.bind (R.bind (R.bind (R.bind (R.bind (bU 0 env) fun v5=>R.bind (R.ok []) fun v6=>R.ok (v5::v6)) bG) fun v4=>R.ok (D.lst v4)) fun v2=>R.bind (R.ok []) fun v3=>R.ok (v2::v3)) nR) fun v1=>R.ok (Out.o7 v1))
def pW:=eR 1 1 yM
def gz(env:DE):R Out:=
 (R.bind (R.bind (R.bind (R.bind (R.bind (R.bind (R.bind (R.bind (R.bind (bU 0 env) fun v8=>R.bind (R.ok []) fun v9=>R.ok (v8::v9)) bG) fun v7=>R.ok (D.lst v7)) fun v5=>R.bind (R.bind (bU 1 env) fun v10=>R.bind (R.ok []) fun v11=>R.ok (v10::v11)) fun v6=>R.ok (v5::v6)) aL) fun v4=>R.ok (D.lst v4)) fun v2=>R.bind (R.ok []) fun v3=>R.ok (v2::v3)) bG) fun v1=>R.ok (Out.o7 v1))
def bO:=eR 2 2 gz
def jR(d:D)(env:DE):R Out:=
 R.bind ((bN 3) d env) fun v9=>
  (aS (R.bind (R.bind (aU 3 v9) fun k9=>R.bind (R.ok (D.int 0)) fun km=>R.bind (R.of (JW k9 km)) jf) fun v11=>if v11=true then(R.bad:R Out)else(R.ok (Out.nx v9))) fun v10=>
 (aS (R.bind (R.bind (R.bind (lN 2 v10) fun l9=>R.bind (R.bind (aU 3 v10) fun v20=>R.bind (R.ok (D.int 1)) fun qT=>R.of (ik v20 qT)) fun mQ=>vg l9 mQ) fun lg=>R.bind (R.bind (lN 2 v10) fun kP=>R.bind (aU 3 v10) fun qQ=>vg kP qQ) fun kO=>R.bind (R.of (zS lg kO)) jf) fun kq=>if kq=true then(R.bad:R Out)else(R.ok (Out.nx v10))) fun gu=>
 (R.bind (R.bind (R.bind (aU 2 gu) fun qU=>R.bind (R.bind (aU 3 gu) fun vq=>R.bind (R.ok []) fun xj=>R.ok (vq::xj)) fun ui=>R.ok (qU::ui)) aL) fun qR=>R.ok (Out.nx (List.set gu 2 (Sl.own qR))))))
def yN(env:DE):R Out:=
 (aS (R.bind (R.bind (R.bind (bU 0 env) fun v3=>R.bind (R.ok []) fun v4=>R.ok (v3::v4)) ck) fun v2=>R.ok (Out.nx (List.set env 2 (Sl.own v2)))) fun v1=>
 (aS (R.bind (R.bind (bU 1 v1) qG) fun v6=>dH jR v6 v1) fun v5=>
 (R.bind (ownAt 2 v5) fun Ab=>R.ok (Out.o7 Ab))))
def kD:=eR 2 4 yN
def Ai(env:DE):R Bool:=
 R.ok true
def uq(env:DE):R D:=
 (R.bind (R.bind (R.bind (R.bind (aU 1 env) fun v11=>R.bind (R.ok []) fun k9=>R.ok (v11::k9)) fun v10=>R.of (oh v10)) fun v8=>R.bind (R.ok (D.int 1)) fun v9=>R.of (ik v8 v9)) fun v6=>R.bind (aU 0 env) fun v7=>R.of (ik v6 v7))
def Bu(env:DE):R Out:=
 (R.bind (R.bind (R.bind (R.bind (R.bind (R.bind (bU 0 env) fun gu=>R.bind (R.ok []) fun kq=>R.ok (gu::kq)) bG) fun km=>R.ok (D.lst km)) qG) fun v2=>R.bind (cM env [0]) fun v3=>R.bind (R.ne (bj (bN 0) Ai uq (dR 1 v3) v2)) fit) fun v1=>R.ok (Out.o7 v1))
def pX:=eR 1 1 Bu
def mY(d:D)(env:DE):R Out:=
 R.bind ((bN 5) d env) fun km=>
  (aS (R.bind (R.bind (R.bind (aU 5 km) fun kO=>R.bind (R.ok []) fun l9=>R.ok (kO::l9)) fun lg=>R.of (CI lg)) fun kq=>R.ok (Out.nx (List.set km 6 (Sl.val kq)))) fun gu=>
 (aS (R.bind (R.bind (R.bind (R.bind (R.bind (aU 2 gu) fun qU=>R.bind (R.ok []) fun ui=>R.ok (qU::ui)) fun qR=>R.of (oh qR)) fun kP=>R.bind (R.ok (D.int 0)) fun qQ=>R.bind (R.of (xQ kP qQ)) jf) fun qT=>if qT=true then R.ok true else(R.bind (R.bind (aU 4 gu) fun xj=>R.bind (R.bind (aU 5 gu) fun v30=>R.bind (R.ok (D.int 0)) fun Fb=>R.of (zS v30 Fb)) fun Ab=>R.bind (R.of (Bd xj Ab)) jf) fun vq=>if vq=true then R.ok true else(R.bind (R.bind (lN 3 gu) fun Dv=>R.bind (R.bind (aU 6 gu) fun Ac=>R.bind (R.ok (D.int 1)) fun Ff=>R.of (ik Ac Ff)) fun Fd=>vg Dv Fd) fun Fc=>R.bind (R.bind (lN 3 gu) fun Hg=>R.bind (aU 6 gu) fun Fg=>vg Hg Fg) fun Fe=>R.bind (R.of (zS Fc Fe)) jf))) fun v20=>if v20=true then(aS (R.bind (eU 2 gu) fun Jb=>R.bind (R.bind (R.ok []) fit) fun Bq=>R.bind (R.of (Bj Bq)) fun Ae=>E9 2 gu Jb Ae) fun Hh=>
 (aS (R.bind (R.bind (R.bind (bU 0 Hh) fun Ja=>R.bind (R.ok []) fun I0=>R.ok (Ja::I0)) ck) fun Dz=>R.ok (Out.nx (List.set Hh 3 (Sl.own Dz)))) fun Hj=>
 (R.bind (R.bind (aU 5 Hj) fun I8=>R.bind (R.ok (D.int 0)) fun Dw=>R.of (zS I8 Dw)) fun I9=>R.ok (Out.nx (List.set Hj 4 (Sl.val I9))))))else(R.ok (Out.nx gu))) fun mQ=>
 (aS (R.bind (eU 2 mQ) fun Hi=>R.bind (R.bind (R.ok (D.int 1)) fun Nv=>R.of (qH Nv)) fun NB=>R.bind (yF Hi NB) fun Rv=>R.bind (aU 5 mQ) fun Nz=>Aa 2 mQ Hi Rv Nz) fun Fi=>
 (aS (R.bind (R.bind (lN 3 Fi) fun Ny=>R.bind (aU 6 Fi) fun NI=>vg Ny NI) fun Nx=>R.ok (Out.nx (List.set Fi 7 (Sl.val Nx)))) fun Fj=>
 (aS (R.bind (R.bind (lN 3 Fj) fun NF=>R.bind (R.bind (aU 6 Fj) fun NR=>R.bind (R.ok (D.int 1)) fun NS=>R.of (ik NR NS)) fun NG=>vg NF NG) fun K6=>R.bind (ownAt 3 Fj) fun ND=>R.bind (aU 6 Fj) fun NH=>yz 3 Fj K6 ND NH) fun Fl=>
 (R.bind (bU 7 Fl) fun NQ=>R.bind (ownAt 3 Fl) fun NJ=>R.bind (R.bind (aU 6 Fl) fun NN=>R.bind (R.ok (D.int 1)) fun Dy=>R.of (ik NN Dy)) fun NP=>yz 3 Fl NQ NJ NP))))))
def K7(env:DE):R Out:=
 (aS (R.bind (R.ok ([]:List (List Int))) fun v2=>(R.bind (fit v2) fun y=>R.ok (Out.nx (List.set env 2 (Sl.deep (Ct.ls y)))))) fun v1=>
 (aS (R.bind (R.bind (R.bind (bU 0 v1) fun v5=>R.bind (R.ok []) fun v6=>R.ok (v5::v6)) ck) fun v4=>R.ok (Out.nx (List.set v1 3 (Sl.own v4)))) fun v3=>
 (aS (R.bind (R.ok (D.bl false)) fun v8=>R.ok (Out.nx (List.set v3 4 (Sl.val v8)))) fun v7=>
 (aS (R.bind (R.bind (bU 1 v7) qG) fun v10=>dH mY v10 v7) fun v9=>
 (R.bind (eU 2 v9) fun NK=>R.ok (Out.A6 NK))))))
def yO:=mT 2 8 K7
def oE(env:DE):R Out:=
 (aS (R.bind (R.bind (R.bind (aU 0 env) fun v5=>R.bind (R.ok (D.int 2)) fun v6=>R.of (oV v5 v6)) fun v3=>R.bind (R.ok (D.int 0)) fun v4=>R.bind (R.of (xQ v3 v4)) jf) fun v2=>if v2=true then(R.bind (lN 1 env) fun v7=>R.ok (Out.o7 v7))else(R.ok (Out.nx env))) fun v1=>
 (R.bind (R.bind (R.bind (bU 1 v1) fun v9=>R.bind (R.ok []) fun v10=>R.ok (v9::v10)) dS) fun v8=>R.ok (Out.o7 v8)))
def dU:=eR 2 2 oE
def oF(env:DE):R Out:=
 (R.bind (R.bind (R.bind (R.bind (R.bind (R.ok (D.int 1)) fun v4=>R.of (qH v4)) fun v2=>R.bind (R.bind (R.bind (R.bind (R.bind (bU 0 env) fun v8=>R.bind (R.ok []) fun v9=>R.ok (v8::v9)) pX) fun v7=>R.ok (D.lst v7)) fun v5=>R.bind (R.ok []) fun v6=>R.ok (v5::v6)) fun v3=>R.ok (v2::v3)) fit) fun ds=>R.ok (D.tup ds)) fun v1=>R.ok (Out.rt v1))
def gP:=mD 1 1 oF
def cD(d:D)(env:DE):R Out:=
 R.bind ((bN 3) d env) fun v9=>
  (aS (R.bind (eU 1 v9) fun v11=>R.bind (R.bind (R.bind (bU 2 v9) fun gu=>R.bind (R.bind (R.bind (bU 3 v9) fun l9=>R.bind (R.ok (D.int 1)) fun mQ=>wR l9 mQ) fun lg=>R.bind (R.ok []) fun kO=>R.ok (lg::kO)) fun kq=>R.ok (gu::kq)) dU) fun k9=>R.bind (R.of (Bj k9)) fun km=>E9 1 v9 v11 km) fun v10=>
 (R.bind (bU 2 v10) fun v20=>R.bind (R.bind (bU 3 v10) fun kP=>R.bind (R.ok (D.int 0)) fun qQ=>wR kP qQ) fun qT=>CP (fun i j=>i+j) 2 v10 v20 qT))
def g6(env:DE):R Out:=
 (aS (R.bind (R.ok ([]:List (List Int))) fun v2=>(R.bind (fit v2) fun y=>R.ok (Out.nx (List.set env 1 (Sl.deep (Ct.ls y)))))) fun v1=>
 (aS (R.bind (R.ok (D.int 0)) fun v4=>R.ok (Out.nx (List.set v1 2 (Sl.val v4)))) fun v3=>
 (aS (R.bind (R.bind (bU 0 v3) fun qR=>R.bind (qG qR) fun xs=>R.ok (reverse xs)) fun v6=>dH cD v6 v3) fun v5=>
 (aS (R.bind (eU 1 v5) fun ui=>R.ok (Out.nx (List.set v5 1 (Sl.deep (Ct.ls (reverse ui)))))) fun qU=>
 (R.bind (eU 1 qU) fun vq=>R.ok (Out.A6 vq))))))
def aO:=mT 1 4 g6
def vZ(env:DE):R Out:=
 (aS (R.bind (R.bind (R.bind (lN 1 env) fun v5=>R.bind (R.ok (D.int 0)) fun v6=>vg v5 v6) fun v3=>R.bind (R.ok (D.int 0)) fun v4=>R.bind (R.of (zS v3 v4)) jf) fun v2=>if v2=true then(R.bind (R.bind (R.bind (R.bind (R.ok (D.int 0)) fun v8=>R.bind (R.bind (R.bind (R.bind (R.bind (bU 0 env) fun km=>R.bind (R.bind (bU 1 env) fun kq=>R.bind (R.ok []) fun lg=>R.ok (kq::lg)) fun gu=>R.ok (km::gu)) kD) fun k9=>R.ok (D.lst k9)) fun v10=>R.bind (R.ok []) fun v11=>R.ok (v10::v11)) fun v9=>R.ok (v8::v9)) fit) fun ds=>R.ok (D.tup ds)) fun v7=>R.ok (Out.rt v7))else(R.ok (Out.nx env))) fun v1=>
 (R.bind (R.bind (R.bind (R.bind (R.bind (R.bind (bU 0 v1) fun qT=>R.bind (R.bind (R.bind (R.bind (R.bind (bU 1 v1) fun ui=>R.bind (R.ok []) fun vq=>R.ok (ui::vq)) mU) fun qU=>R.ok (D.lst qU)) fun qQ=>R.bind (R.ok []) fun qR=>R.ok (qQ::qR)) fun kP=>R.ok (qT::kP)) kD) fun v20=>R.ok (D.lst v20)) fun l9=>R.bind (R.ok []) fun mQ=>R.ok (l9::mQ)) gP) fun kO=>R.ok (Out.rt kO)))
def kE:=mD 2 2 vZ
def mZ(env:DE):R Bool:=
 R.ok true
def jk(env:DE):R D:=
 (R.bind (R.bind (aU 1 env) fun Ab=>R.bind (R.bind (aU 0 env) fun Fb=>R.bind (R.bind (R.ok (D.int 16807)) fun Fe=>R.bind (R.ok []) fun Dv=>R.ok (Fe::Dv)) fun Fc=>R.ok (Fb::Fc)) fun v30=>R.ok (Ab::v30)) eY)
def rM(env:DE):R Out:=
 (aS (R.bind (R.bind (R.bind (R.bind (R.bind (R.bind (lN 0 env) fun v7=>R.bind (R.ok none) fun v8=>R.bind (R.bind (R.ok (D.int 63)) Ef) fun v9=>R.ok (cut v7 v8 v9)) fun v6=>R.ok (D.lst v6)) fun v4=>R.bind (R.bind (bU 1 env) fun v10=>R.bind (R.bind (R.ok (D.int 189)) fun k9=>R.bind (R.ok []) fun km=>R.ok (k9::km)) fun v11=>R.ok (v10::v11)) fun v5=>R.ok (v4::v5)) fM) fun v3=>R.ok (D.lst v3)) fun v2=>R.ok (Out.nx (List.set env 3 (Sl.val v2)))) fun v1=>
 (aS (R.bind (R.bind (R.bind (R.bind (aU 3 v1) fun mQ=>R.bind (R.ok []) fun v20=>R.ok (mQ::v20)) fun l9=>R.of (oh l9)) fun lg=>R.bind (aU 2 v1) fun kO=>R.bind (R.of (S9 lg kO)) jf) fun kq=>if kq=true then(R.bind (bU 3 v1) fun qT=>R.ok (Out.rt qT))else(R.ok (Out.nx v1))) fun gu=>
 (aS (R.bind (R.bind (R.bind (R.bind (bU 0 gu) fun Fd=>R.bind (qG Fd) fun xs=>R.ok (du xs)) fun qU=>R.bind (cM gu []) fun ui=>R.bind (R.ne (bj (bT 2 (jL (bN 0) (jL (bN 1) xf))) mZ jk (dR 2 ui) qU)) fit) fun qR=>R.of (mJ qR)) fun qQ=>R.ok (Out.nx (List.set gu 4 (Sl.val qQ)))) fun kP=>
 (aS (R.bind (R.bind (aU 4 kP) fun Hg=>R.bind (R.bind (R.bind (R.bind (R.bind (aU 3 kP) fun Dz=>R.bind (R.ok []) fun Ja=>R.ok (Dz::Ja)) fun Hj=>R.of (oh Hj)) fun Bq=>R.bind (aU 2 kP) fun Ae=>R.of (ik Bq Ae)) fun Hh=>R.bind (R.ok (D.int 1)) fun Jb=>R.of (g5 Hh Jb)) fun Fg=>R.of (oV Hg Fg)) fun Ff=>R.ok (Out.nx (List.set kP 5 (Sl.val Ff)))) fun Ac=>
 (R.bind (R.bind (R.bind (lN 3 Ac) fun I8=>R.bind (R.bind (aU 5 Ac) Ef) fun Dw=>R.bind (R.bind (R.bind (aU 5 Ac) fun Hi=>R.bind (aU 2 Ac) fun NB=>R.of (g5 Hi NB)) Ef) fun Fi=>R.ok (cut I8 Dw Fi)) fun I9=>R.ok (D.lst I9)) fun I0=>R.ok (Out.rt I0))))))
def g7:=mD 3 6 rM
def eZ(env:DE):R Bool:=
 R.ok true
def bK(env:DE):R D:=
 (R.bind (R.bind (bU 1 env) fun v7=>R.bind (R.bind (bU 0 env) fun v9=>R.bind (R.ok []) fun v10=>R.ok (v9::v10)) fun v8=>R.ok (v7::v8)) kE)
def lR(env:DE):R Out:=
 (R.bind (R.bind (R.bind (R.bind (R.ne (R.bind (R.bind (aU 0 env) fun k9=>R.bind (R.bind (R.bind (R.bind (R.bind (bU 1 env) fun kO=>R.bind (R.ok []) fun l9=>R.ok (kO::l9)) ky) fun lg=>R.ok (D.lst lg)) fun gu=>R.bind (R.ok []) fun kq=>R.ok (gu::kq)) fun km=>R.ok (k9::km)) yO)) fun v11=>R.ok (map (fun ns=>D.lst (map D.int ns)) v11)) fun v3=>R.bind (cM env [0]) fun v4=>R.bind (R.ne (bj (bN 0) eZ bK (dR 1 v4) v3)) fit) fun v2=>R.ok (D.lst v2)) fun v1=>R.ok (Out.rt v1))
def cP:=mD 2 2 lR
section
variable{X:Cx}
theorem FD{A:Around}{E:Value->Shared->Prop}{s:Shared}{d:Addr}{xs:List (List Key×Addr×Value)}{Q:Value->Shared->Prop}(hd:(d==sysModules)=false)
  (m:Heap.DictOfH (tupleKind (cy X.prog X.w)) s.heap d xs)(z:xs.length<=sizeLine)(q:Q (.int xs.length (s.toks+1)) {s with toks:=s.toks+1+1}):wpAny (model X.prog X.w) A (call (.builtin "len") [.ref d]) Q E s:=by
 have z':xs.length<=16777216:=z
 have inner:∀A,wpAny (model X.prog X.w) A (call (.builtin "dict.__len__") [.ref d]) (fun r s'=>r=.int xs.length s.toks/\s'={s with toks:=s.toks+1}) E s:=fun A=>by
  refine call_meetsIn (S:=fun _ R s'=>s'=s/\R (.ok (.ret (.int xs.length s.toks))) {s with toks:=s.toks+1}) slot_dict_len m.typeIs PySem.F.entry_dict_len (PySem.F.args_dict_len_1 _) (.of_wp fun A R s' h=>?_) ⟨rfl,rfl,rfl⟩
  obtain⟨rfl,h⟩:=h
  obtain⟨o,es,ep,h1,h2,h3,h4,_⟩:=m
  show wpAny _ _ (dictSize d>>=fun n=>_) _ _ _
  unfold dictSize
  refine wpAny_bind (wpAny_bind (wpAny_dictEntries h1 h3 (wpAny_pure (wpAny_bind (wpAny_pendingCount_other hd (wpAny_ret_mkInt ?_))))))
  rw[size_of_entries h4]
  exact h
 refine Calls.call_function_entry kind_len plain_len entry_len (args_len1 _) ?_
 unfold Builtin.«len»
 refine wpAny_bind (wpAny_pure (wpAny_bind (wpAny_callSpecial?_slot (name:=Str.ofString "__len__") m.typeIs slot_dict_len (bz (inner _) fun r s' h=>?_))))
 obtain⟨rfl,rfl⟩:=h
 refine wpAny_bind (wpAny_holding (wpAny_pure (wpAny_bind (wpAny_letGo ?_))))
 show wpAny _ _ (if((xs.length:Nat):Int)<0 then _ else _) _ _ _
 rw[if_neg (by omega)]
 show wpAny _ _ (if 2^63<=((xs.length:Nat):Int)then _ else _) _ _ _
 rw[if_neg (by omega)]
 exact wpAny_bind (wpAny_mkInt (wpAny_pure ⟨_,rfl,q⟩))
theorem CW:om X (.builtin "len") (fun xs H Q=>∃a kvs,xs=[V.ref a]/\H a=some (.dT kvs)/\Q (.int kvs.length) H):=by
 intro pins s σ H xs us Q I r h
 obtain⟨a,kvs,rfl,ha,q⟩:=h
 obtain⟨u,rfl,ru⟩:=vals1 r
 cases ru
 obtain⟨z,hd,ys,rel,dd⟩:=tM I.hok (.inl ha)
 have e:kvs.length=ys.length:=Paired.length rel
 exact FD hd dd (by omega) ⟨.int kvs.length,H,I.tok _,⟨_,by rw[e]⟩,q⟩
theorem Jc:S5 X "int.bit_length" (fun x vs H Q=>∃i,x=.int i/\vs=[]/\Q (.int (Builtin.Int.intBits i)) H):=by
 intro pins s σ H x xs v us Q I r rs h
 obtain⟨i,rfl,rfl,q⟩:=h
 obtain⟨t,rfl⟩:=r
 have e:=rs.zero
 subst e
 exact call_int_bit_length ⟨.int _,H,I.tok _,⟨_,rfl⟩,q⟩
end
theorem gB{b:D->DE->R DE}{ct:DE->R Bool}{fe:DE->R D}{e₀:DE}(g:Int->Int)(w:List Int)(h:∀k∈w,∃e,b (.int k) e₀=.ok e/\ct e=.ok true/\fe e=.ok (.int (g k))):bj b ct fe e₀ (aA w)=.ok (aA (w.map g)):=by
 rw[nP (fun d=>match d with
  |.int k=>.int (g k)
  |_=>.non) _ fun x hx=>by
   obtain⟨k,hk,rfl⟩:=mem_map.mp hx
   exact h k hk]
 unfold aA
 rw[map_map,map_map]
 rfl
def upTo(n:Nat):List Int:=(range n).map fun i=>((i:Nat):Int)
theorem ar(n:Nat):(upTo n).length=n:=by simp[upTo]
theorem m7(n j:Nat)(h:j<n):(upTo n)[j]?=some (j:Int):=by simp[upTo,h]
theorem mem_upTo{n:Nat}{x:Int}:x∈upTo n↔0<=x/\x<n:=by
 simp -implicitDefEqProofs only [upTo,mem_map,mem_range]
 constructor
 ·rintro⟨i,h,rfl⟩;omega
 ·rintro⟨h1,h2⟩;exact⟨x.toNat,by omega,by omega⟩
theorem kF(n:Nat):lY 0 n=aA (upTo n):=by
 rw[sL];congr 1;simp[upTo]
theorem yP(n:Nat):(upTo n).Pairwise (·<=·):=by
 unfold upTo
 rw[pairwise_map]
 exact List.pairwise_lt_range.imp fun h=>by omega
theorem ur(n:Nat):(upTo n).Nodup:=by
 unfold upTo
 unfold Nodup
 rw[pairwise_map]
 exact List.pairwise_lt_range.imp fun h=>by omega
def bp(n:Nat)(r:List Int):Prop:=r.Perm (upTo n)
theorem bp.len {n:Nat}{r:List Int}(h:bp n r):r.length=n:=by rw[h.length_eq,ar]
theorem bp.nd {n:Nat}{r:List Int}(h:bp n r):r.Nodup:=h.nodup_iff.mpr (ur n)
theorem bp.mem {n:Nat}{r:List Int}(h:bp n r){x:Int}:x∈r↔0<=x/\x<n:=h.mem_iff.trans mem_upTo
theorem bp.get {n:Nat}{r:List Int}(h:bp n r){j:Nat}{x:Int}(e:r[j]?=some x):0<=x/\x<n:=h.mem.mp (mem_of_getElem? e)
theorem FE{n:Nat}{r:List Int}(h:bp n r):sortI r=upTo n:=(yE h.symm (yP n)).symm
def aa(ns:List Int)(k:Nat):Int:=(ns[k]?).getD 0
theorem cF{l:List Int}{j:Nat}(h:j<l.length):l[j]?=some (aa l j):=by
 unfold aa
 rw[getElem?_eq_getElem h]
 rfl
theorem bF{a b:List Int}(hl:a.length=b.length)(h:∀j,j<a.length->aa a j=aa b j):a=b:=by
 refine List.ext_getElem? fun j=>?_
 by_cases hj:j<a.length
 ·rw[cF hj,cF (hl▸hj),h j hj]
 ·rw[getElem?_eq_none (by omega),getElem?_eq_none (by omega)]
theorem aI{n j:Nat}(h:j<n):aa (upTo n) j=j:=by unfold aa;rw[m7 n j h];rfl
theorem uu{l:List Int}{j i:Nat}{x:Int}(h:j<l.length):aa (l.set i x) j=if i=j then x else aa l j:=by
 unfold aa
 rw[List.getElem?_set]
 split
 ·subst_vars
  rw[if_pos h]
  rfl
 ·rfl
def fA:List Int->Nat->List Int
 |x::y::l,0=>y::x::l
 |x::l,a+1=>x::fA l a
 |l,_=>l
theorem rN(x:Int)(l:List Int)(a:Nat):fA (x::l) (a+1)=x::fA l a:=by cases l<;>rfl
theorem fR:∀(l:List Int)(a:Nat),(fA l a).length=l.length
 |[],a=>by cases a<;>rfl
 |[x],0=>rfl
 |x::y::l,0=>rfl
 |x::l,a+1=>by rw[rN,length_cons,length_cons,fR l a]
theorem kG:∀(l:List Int)(a:Nat),a+1<l.length->∀j,aa (fA l a) j=if j=a then aa l (a+1)else if j=a+1 then aa l a else aa l j
 |[],a,h,j=>by simp at h
 |[x],a,h,j=>by simp at h
 |x::y::l,0,h,j=>by
  match j with
  |0=>rfl
  |1=>rfl
  |j+2=>rw[if_neg (by omega),if_neg (by omega)];rfl
 |x::y::l,a+1,h,j=>by
  rw[rN]
  match j with
  |0=>rw[if_neg (by omega),if_neg (by omega)];rfl
  |j+1=>
   show aa (fA (y::l) a) j=if j+1=a+1 then aa (y::l) (a+1)else if j+1=a+1+1 then aa (y::l) a else aa (y::l) j
   rw[kG (y::l) a (by simpa using h) j]
   repeat' split
   all_goals first|rfl|omega
theorem xn:∀(l:List Int)(a:Nat),a+1<l.length->l.take a++[aa l (a+1),aa l a]++l.drop (a+2)=fA l a
 |[],a,h=>by simp at h
 |[x],a,h=>by simp at h
 |x::y::l,0,h=>rfl
 |x::y::l,a+1,h=>by
  rw[rN,<-xn (y::l) a (by simpa using h)]
  rfl
def sg(a:Nat)(x:Int):Int:=if x=a then(a:Int)+1 else if x=(a:Int)+1 then a else x
def zw(r:List Int)(a:Nat):List Int:=r.map (sg a)
theorem Jd(r:List Int)(a:Nat):(zw r a).length=r.length:=length_map _
theorem dW{r:List Int}{a p:Nat}(h:p<r.length):aa (zw r a) p=sg a (aa r p):=by
 have:=cF h
 unfold zw
 conv=>lhs;unfold aa
 rw[getElem?_map,this]
 rfl
structure Iv(n:Nat)(r s:List Int):Prop where
 lr:r.length=n
 ls:s.length=n
 rs:∀p,p<n->0<=aa r p/\aa r p<n/\aa s (aa r p).toNat=p
 sr:∀v,v<n->0<=aa s v/\aa s v<n/\aa r (aa s v).toNat=v
theorem Iv.symm {n:Nat}{r s:List Int}(h:Iv n r s):Iv n s r:=⟨h.ls,h.lr,h.sr,h.rs⟩
theorem Iv.step {n:Nat}{r s:List Int}(h:Iv n r s){a:Nat}(ha:a+1<n):Iv n (zw r a) (fA s a):=by
 refine⟨by rw[Jd,h.lr],by rw[fR,h.ls],fun p hp=>?_,fun v hv=>?_⟩
 ·obtain⟨h1,h2,h3⟩:=h.rs p hp
  rw[dW (h.lr.symm▸hp),kG _ _ (h.ls.symm▸ha)]
  generalize aa r p=v at h1 h2 h3
  unfold sg
  by_cases e1:v=a
  ·rw[if_pos e1]
   refine⟨by omega,by omega,?_⟩
   rw[if_neg (by omega),if_pos (by omega),<-h3,show v.toNat=a by omega]
  ·rw[if_neg e1]
   by_cases e2:v=(a:Int)+1
   ·rw[if_pos e2]
    refine⟨by omega,by omega,?_⟩
    rw[if_pos (by omega),<-h3,show v.toNat=a+1 by omega]
   ·rw[if_neg e2]
    refine⟨h1,h2,?_⟩
    rw[if_neg (by omega),if_neg (by omega),h3]
 ·rw[kG _ _ (h.ls.symm▸ha)]
  by_cases e1:v=a
  ·obtain⟨h1,h2,h3⟩:=h.sr (a+1) ha
   rw[if_pos e1]
   refine⟨h1,h2,?_⟩
   rw[dW (by rw[h.lr];omega),h3]
   unfold sg
   rw[if_neg (by omega),if_pos (by omega),e1]
  ·rw[if_neg e1]
   by_cases e2:v=a+1
   ·obtain⟨h1,h2,h3⟩:=h.sr a (by omega)
    rw[if_pos e2]
    refine⟨h1,h2,?_⟩
    rw[dW (by rw[h.lr];omega),h3]
    unfold sg
    rw[if_pos rfl,e2]
    omega
   ·obtain⟨h1,h2,h3⟩:=h.sr v hv
    rw[if_neg e2]
    refine⟨h1,h2,?_⟩
    rw[dW (by rw[h.lr];omega),h3]
    unfold sg
    rw[if_neg (by omega),if_neg (by omega)]
theorem Iv.DB {n:Nat}{r s:List Int}(h:Iv n r s){v w:Nat}(hv:v<n)(hw:w<n)(e:aa s v=aa s w):v=w:=by
 have h1:=(h.sr v hv).2.2
 have h2:=(h.sr w hw).2.2
 rw[e]at h1
 omega
theorem N9{n:Nat}{r:List Int}(h:bp n r):∃s,Iv n r s:=by
 have hc:∀v,v<n->aa ((upTo n).map fun v=>((r.idxOf v:Nat):Int)) v=(r.idxOf ((v:Nat):Int):Nat):=fun v hv=>by
  unfold aa
  rw[getElem?_map,m7 n v hv]
  rfl
 refine⟨(upTo n).map fun v=>((r.idxOf v:Nat):Int),h.len,by rw[length_map,ar],fun p hp=>?_,fun v hv=>?_⟩
 ·have J0:p<r.length:=by rw[h.len];exact hp
  have hg:=h.get (cF J0)
  refine⟨hg.1,hg.2,?_⟩
  rw[hc _ (by omega),show(((aa r p).toNat:Nat):Int)=aa r p by omega]
  have e:aa r p=r[p]:=by
   have:=cF J0
   rw[getElem?_eq_getElem J0]at this
   exact(Option.some.inj this).symm
  rw[e,h.nd.idxOf_getElem p J0]
 ·have hm:(v:Int)∈r:=h.mem.mpr (by omega)
  have hl:=List.idxOf_lt_length_of_mem hm
  rw[hc v hv]
  have IJ:=hl
  rw[h.len]at IJ
  refine⟨by omega,by omega,?_⟩
  rw[toNat_natCast]
  have:=cF hl
  rw[getElem?_eq_getElem hl,getElem_idxOf hl]at this
  exact(Option.some.inj this).symm
theorem Iv.idx {n:Nat}{r s:List Int}(h:Iv n r s){v:Nat}(hv:v<n):(v:Int)∈r/\((r.idxOf (v:Int):Nat):Int)=aa s v:=by
 obtain⟨h1,h2,h3⟩:=h.sr v hv
 have hm:(v:Int)∈r:=by
  have:=cF (l:=r) (j:=(aa s v).toNat) (by rw[h.lr];omega)
  rw[h3]at this
  exact mem_of_getElem? this
 refine⟨hm,?_⟩
 have hl:=List.idxOf_lt_length_of_mem hm
 have:=cF hl
 rw[getElem?_eq_getElem hl,getElem_idxOf hl]at this
 have e:=Option.some.inj this
 have IJ:=hl
 rw[h.lr]at IJ
 have h4:=(h.rs _ IJ).2.2
 rw[<-e,toNat_natCast]at h4
 exact h4.symm
def xR(l:List Int):List Int:=((range (l.length-1)).map fun i=>1+((i:Nat):Int)).filter fun k=>decide (aa l k.toNat<aa l (k-1).toNat)
theorem pY{l:List Int}{k:Int}:k∈xR l↔∃a:Nat,k=(a:Int)+1/\a+1<l.length/\aa l (a+1)<aa l a:=by
 unfold xR
 rw[mem_filter,mem_map]
 constructor
 ·rintro⟨⟨i,hi,rfl⟩,h⟩
  rw[mem_range]at hi
  rw[decide_eq_true_eq,show(1+(i:Int)).toNat=i+1 by omega,show(1+(i:Int)-1).toNat=i by omega]at h
  exact⟨i,by omega,by omega,h⟩
 ·rintro⟨a,rfl,h1,h2⟩
  refine⟨⟨a,mem_range.mpr (by omega),by omega⟩,?_⟩
  rw[decide_eq_true_eq,show((a:Int)+1).toNat=a+1 by omega,show((a:Int)+1-1).toNat=a by omega]
  exact h2
theorem Je(l:List Int):(xR l).length<=l.length:=by
 have h:=List.length_filter_le (fun k=>decide (aa l k.toNat<aa l (k-1).toNat)) ((range (l.length-1)).map fun i=>1+((i:Nat):Int))
 unfold xR
 rw[length_map,length_range]at h
 omega
theorem Jf{n:Nat}{r s:List Int}(h:Iv n r s)(hd:∀a,a+1<n->¬aa s (a+1)<aa s a):r=upTo n:=by
 have hlt:∀a,a+1<n->aa s a<aa s (a+1):=fun a ha=>by
  have h1:=hd a ha
  have h2:aa s a≠aa s (a+1):=fun z=>by
   have:=h.DB (by omega) ha z
   omega
  omega
 have hge:∀a,a<n->(a:Int)<=aa s a:=fun a=>by
  induction a with
  |zero=>intro ha;exact(h.sr 0 ha).1
  |succ a ih=>
   intro ha
   have h1:=ih (by omega)
   have h2:=hlt a ha
   omega
 have hle:∀d a,a+d+1=n->aa s a<=a:=fun d=>by
  induction d with
  |zero=>
   intro a ha
   have:=(h.sr a (by omega)).2.1
   omega
  |succ d ih=>
   intro a ha
   have h1:=ih (a+1) (by omega)
   have h2:=hlt a (by omega)
   omega
 have hs:∀a,a<n->aa s a=a:=fun a ha=>by
  have h1:=hge a ha
  have h2:=hle (n-1-a) a (by omega)
  omega
 refine bF (by rw[h.lr,ar]) fun p hp=>?_
 rw[h.lr]at hp
 obtain⟨h1,h2,h3⟩:=h.rs p hp
 rw[hs _ (by omega)]at h3
 rw[aI hp]
 omega
structure Od(n:Nat)(o r z:List Int):Prop where
 lo:o.length=n
 lz:z.length=n
 at_:∀p,p<n->aa o (aa r p).toNat=aa z p
 cr:∀p q,p<q->q<n->aa r q<aa r p->aa z q<aa z p
def S(n:Nat)(f:Nat->Nat):Nat:=((range n).map f).sum
theorem Oa(f:Nat->Nat):S 0 f=0:=rfl
theorem gC(n:Nat)(f:Nat->Nat):S (n+1) f=S n f+f n:=by
 unfold S
 rw[range_succ,map_append,sum_append]
 simp
theorem Bv(n:Nat)(f:Nat->Nat):S (n+1) f=f 0+S n fun i=>f (i+1):=by
 unfold S
 rw[List.range_succ_eq_map,map_cons,sum_cons,map_map]
 rfl
theorem eu{n:Nat}{f g:Nat->Nat}(h:∀i,i<n->f i=g i):S n f=S n g:=by
 induction n with
 |zero=>rfl
 |succ n ih=>rw[gC,gC,ih fun i hi=>h i (by omega),h n (by omega)]
theorem yQ(n:Nat)(f g:Nat->Nat):S n (fun i=>f i+g i)=S n f+S n g:=by
 induction n with
 |zero=>rfl
 |succ n ih=>rw[gC,gC,gC,ih];omega
theorem Jg(n c:Nat):S n (fun _=>c)=n*c:=by
 induction n with
 |zero=>rw[Nat.zero_mul];rfl
 |succ n ih=>rw[gC,ih,Nat.succ_mul]
theorem FG(n m:Nat)(f:Nat->Nat->Nat):S n (fun i=>S m fun j=>f i j)=S m fun j=>S n fun i=>f i j:=by
 induction n with
 |zero=>
  rw[Oa,show(fun j=>S 0 fun i=>f i j)=fun _=>0 from rfl,Jg,Nat.mul_zero]
 |succ n ih=>
  rw[gC,ih,<-yQ]
  exact eu fun j _=>(gC n fun i=>f i j).symm
theorem Ob(n q:Nat)(g:Nat->Nat):S n (fun p=>if p<q then g p else 0)=S (min n q) g:=by
 induction n with
 |zero=>rw[Nat.zero_min];rfl
 |succ n ih=>
  rw[gC,ih]
  by_cases h:n<q
  ·rw[if_pos h,show min n q=n by omega,show min (n+1) q=n+1 by omega,gC]
  ·rw[if_neg h,show min n q=q by omega,show min (n+1) q=q by omega]
   rfl
theorem FH{n:Nat}{r s:List Int}(h:Iv n r s)(f:Nat->Nat):S n (fun v=>f (aa s v).toNat)=S n f:=by
 unfold S
 have p:((range n).map fun v=>(aa s v).toNat).Perm (range n):=by
  refine(List.perm_ext_iff_of_nodup ?_ List.nodup_range).mpr fun x=>?_
  ·unfold Nodup
   rw[pairwise_map]
   refine Pairwise.imp_of_mem ?_ List.nodup_range
   intro a b ha hb hab e
   rw[mem_range]at ha hb
   have h1:=h.sr a ha
   have h2:=h.sr b hb
   exact hab (h.DB ha hb (by omega))
  ·rw[mem_map]
   constructor
   ·rintro⟨v,hv,rfl⟩
    rw[mem_range]at hv⊢
    have:=h.sr v hv
    omega
   ·intro hx
    rw[mem_range]at hx
    obtain⟨h1,h2,h3⟩:=h.rs x hx
    exact⟨(aa r x).toNat,mem_range.mpr (by omega),by rw[h3,toNat_natCast]⟩
 have:=(p.map f).sum_nat
 rw[map_map]at this
 exact this
def uv(x:Int)(pre:List Int):Nat:=(pre.filter fun s=>decide (x<s)).length
theorem Aj(x y:Int)(pre:List Int):uv x (pre++[y])=uv x pre+if x<y then 1 else 0:=by
 unfold uv
 rw[List.filter_append,length_append]
 congr 1
 rw[List.filter_cons]
 by_cases h:x<y
 ·rw[if_pos (decide_eq_true h),if_pos h];rfl
 ·rw[if_neg (by rw[decide_eq_true_eq];exact h),if_neg h];rfl
theorem Jh{x:Int}{a b:List Int}(p:a.Perm b):uv x a=uv x b:=(p.filter _).length_eq
def xS:List Int->List Int->Nat
 |_,[]=>0
 |pre,x::l=>uv x pre+xS (pre++[x]) l
theorem yR:∀(l:List Int){a b:List Int},a.Perm b->xS a l=xS b l
 |[],a,b,p=>rfl
 |x::l,a,b,p=>by
  unfold xS
  rw[Jh p,yR l (p.append_right [x])]
theorem sM:∀(l:List Int)(a:Nat)(pre:List Int),a+1<l.length->xS pre (fA l a)+(if aa l (a+1)<aa l a then 1 else 0)=xS pre l+(if aa l a<aa l (a+1)then 1 else 0)
 |[],a,pre,h=>by simp at h
 |[x],a,pre,h=>by simp at h
 |x::y::l,0,pre,h=>by
  show uv y pre+(uv x (pre++[y])+xS (pre++[y]++[x]) l)+(if y<x then 1 else 0)=uv x pre+(uv y (pre++[x])+xS (pre++[x]++[y]) l)+(if x<y then 1 else 0)
  rw[Aj,Aj,yR l (show(pre++[y]++[x]).Perm (pre++[x]++[y])by
   rw[List.append_assoc,List.append_assoc]
   exact Perm.append_left pre (Perm.swap x y []))]
  omega
 |x::y::l,a+1,pre,h=>by
  rw[rN]
  show uv x pre+xS (pre++[x]) (fA (y::l) a)+(if aa (y::l) (a+1)<aa (y::l) a then 1 else 0)=uv x pre+xS (pre++[x]) (y::l)+(if aa (y::l) a<aa (y::l) (a+1)then 1 else 0)
  have:=sM (y::l) a (pre++[x]) (by simpa using h)
  omega
theorem FI:∀(l pre:List Int),xS pre l=S l.length fun j=>uv (aa l j) (pre++l.take j)
 |[],pre=>rfl
 |x::l,pre=>by
  rw[length_cons,Bv]
  show uv x pre+xS (pre++[x]) l=_
  rw[FI l (pre++[x]),show uv (aa (x::l) 0) (pre++(x::l).take 0)=uv x pre by rw[List.take_zero,append_nil];rfl]
  congr 1
  refine eu fun i _=>?_
  show uv (aa l i) (pre++[x]++l.take i)=uv (aa l i) (pre++x::l.take i)
  rw[List.append_assoc]
  rfl
theorem RA(x:Int)(l:List Int):∀q,q<=l.length->uv x (l.take q)=S q fun p=>if x<aa l p then 1 else 0
 |0,_=>rfl
 |q+1,h=>by
  have hq:q<l.length:=by omega
  have e:l.take (q+1)=l.take q++[aa l q]:=by
   rw[take_succ,cF hq]
   rfl
  rw[e,Aj,RA x l q (by omega),gC]
def dM(l:List Int):Nat:=xS [] l
theorem wb(l:List Int):dM l=S l.length fun q=>S l.length fun p=>if p<q then(if aa l q<aa l p then 1 else 0)else 0:=by
 unfold dM
 rw[FI]
 refine eu fun q hq=>?_
 rw[nil_append,RA _ _ q (by omega),Ob,show min l.length q=q by omega]
theorem Ak{n:Nat}{r s:List Int}(h:Iv n r s):dM r=dM s:=by
 rw[wb,wb,h.lr,h.ls,<-FH h (fun q=>S n fun p=>if p<q then(if aa r q<aa r p then 1 else 0)else 0),FG n n fun q p=>if p<q then(if aa s q<aa s p then 1 else 0)else 0]
 refine eu fun w hw=>?_
 rw[<-FH h (fun p=>if p<(aa s w).toNat then(if aa r (aa s w).toNat<aa r p then 1 else 0)else 0)]
 refine eu fun v hv=>?_
 obtain⟨h1,h2,h3⟩:=h.sr w hw
 obtain⟨g1,g2,g3⟩:=h.sr v hv
 rw[h3,g3]
 repeat' split
 all_goals first|rfl|omega
theorem bZ{l:List Int}{i:Int}(h:0<=i)(h2:i<l.length):iP (aA l) i=some (.int (aa l i.toNat)):=by
 rw[w9,Bm h,cF (by omega)]
 rfl
theorem lu{b:D->DE->R DE}{ct:DE->R Bool}{fe:DE->R D}{e₀:DE}(P:Int->Bool):∀(w:List Int),(∀k∈w,∃e,b (.int k) e₀=.ok e/\ct e=.ok (P k)/\fe e=.ok (.int k))->bj b ct fe e₀ (aA w)=.ok (aA (w.filter P))
 |[],_=>rfl
 |k::w,h=>by
  obtain⟨e,h1,h2,h3⟩:=h k (by simp)
  have ih:=lu P w fun x hx=>h x (by simp[hx])
  rw[<-mH]
  unfold bj
  rw[h1,R.bB,h2,R.bB,List.filter_cons]
  by_cases hp:P k=true
  ·rw[if_pos hp,if_pos hp,h3,R.bB,ih]
   rfl
  ·rw[if_neg hp,if_neg hp,ih]
theorem Ji(n:Nat)(h:n<=7):CJ [.int 1,.int n]=.ok (aA ((range (n-1)).map fun i=>1+((i:Nat):Int))):=by
 rw[EI 1 n (by omega),show((n:Int)-1).toNat=n-1 by omega,sL]
theorem Jj{n:Nat}{k:Int}(h:k∈(range (n-1)).map fun i=>1+((i:Nat):Int)):∃a:Nat,k=(a:Int)+1/\a+1<n:=by
 obtain⟨i,hi,rfl⟩:=mem_map.mp h
 rw[mem_range]at hi
 exact⟨i,by omega,by omega⟩
theorem yS{n:Nat}{r s:List Int}(h:Iv n r s){v:Nat}(hv:v<n):mK (aA r) (.int v)=.ok (.int (aa s v)):=by
 unfold mK
 rw[oY]
 obtain⟨h1,h2⟩:=h.idx hv
 show(if(v:Int)∈r then R.ok (D.int (r.idxOf (v:Int):Nat))else R.bad)=_
 rw[if_pos h1,h2]
theorem yT:∀n:Nat,(replicate n [D.int 0]).flatten=aA (replicate n 0)
 |0=>rfl
 |n+1=>by
  rw[replicate_succ,flatten_cons,yT n]
  rfl
theorem nS{n:Nat}{r s:List Int}(h:Iv n r s)(hn:n<=7):bG [.lst (aA r)]=.ok (aA s):=by
 unfold bG rL
 simp -implicitDefEqProofs only [mS,mD,mF,eR,aH,reduceAdd,reduceSub,reduceEqDiff,reduceIte,ai,aj,q1,q2,q3,q4,aY,h.lr]
 rw[M4 _ _ ⟨by omega,by omega,big (by rw[toNat_natCast,length_cons,length_nil];omega)⟩,toNat_natCast]
 have e0:=yT n
 rw[e0]
 simp -implicitDefEqProofs only [reduceIte,ai,aj,q1,q2,q3,q4]
 obtain⟨t,e,hj⟩:=qO (S:=List Int×Sl×Sl) (b:=jj) (fun i t=>t.1.length=n/\∀p,p<i->p<n->aa t.1 (aa r p).toNat=p) (fun t=>[.val (.lst (aA r)),.own (aA t.1),t.2.1,t.2.2]) (du (aA r)) 0 (replicate n 0,.no,.no) ⟨length_replicate,fun p hp=>by omega⟩ (by
  rintro j ⟨l,s2,s3⟩ x ⟨hl,hs⟩ hx
  obtain⟨c,hc,rfl⟩:=vV hx
  rw[zero_add]at hs⊢
  have Yo:j<n:=by
   have:=(List.getElem?_eq_some_iff.mp hc).1
   rwa [h.lr]at this
  rw[cF (by rw[h.lr];exact Yo)]at hc
  have AO:=Option.some.inj hc
  obtain⟨h1,h2,h3⟩:=h.rs j Yo
  unfold jj
  simp -implicitDefEqProofs only [X6,reduceIte,ai,aj,q1,q2,q3,q4]
  rw[yB (by omega) (by rw[aY];have:l.length=n:=hl;omega),ID,<-AO]
  refine⟨(l.set (aa r j).toNat j,_,_),rfl,by rw[length_set];exact hl,fun p hp Yp=>?_⟩
  obtain⟨p1,p2,p3⟩:=h.rs p Yp
  have Ti:l.length=n:=hl
  show aa (l.set (aa r j).toNat j) (aa r p).toNat=p
  rw[uu (by omega)]
  by_cases ep:p=j
  ·subst ep
   rw[if_pos rfl]
  ·rw[if_neg fun z=>by rw[<-z,h3]at p3;omega]
   exact hs p (by omega) Yp)
 obtain⟨l,s2,s3⟩:=t
 obtain⟨hl,hs⟩:=hj
 dsimp only at e
 rw[e]
 have el:l=s:=by
  have IJ:l.length=n:=hl
  refine bF (by rw[IJ,h.ls]) fun v hv=>?_
  rw[IJ]at hv
  obtain⟨h1,h2,h3⟩:=h.sr v hv
  have:=hs (aa s v).toNat (by rw[zero_add];unfold du;rw[length_map,length_zipIdx,aY,h.lr];omega) (by omega)
  rw[h3,toNat_natCast]at this
  dsimp only at this
  omega
 rw[el]
 simp -implicitDefEqProofs only [reduceIte,ai,aj,q1,q2,q3,q4,jh]
theorem yU(l:List Int)(hn:l.length<=7):nR [.lst (aA l)]=.ok (aA (xR l)):=by
 unfold nR Bt
 simp -implicitDefEqProofs only [mS,mD,mF,eR,aH,reduceAdd,reduceSub,reduceEqDiff,reduceIte,ai,aj,q1,q2,q3,q4,aY]
 rw[Ji _ hn]
 simp -implicitDefEqProofs only [reduceIte,ai,aj,q1,q2,q3,q4,cM]
 rw[lu (fun k=>decide (aa l k.toNat<aa l (k-1).toNat)) _ fun k hk=>⟨_,dJ _ _ _,by
  obtain⟨a,rfl,ha⟩:=Jj hk
  unfold um dR
  simp -implicitDefEqProofs only [reduceIte,ai,aj,q1,q2,q3,q4]
  rw[bZ (by omega) (by omega),bZ (by omega) (by omega)]
  simp -implicitDefEqProofs only [reduceIte,ai,aj,q1,q2,q3,q4],by
  unfold uo dR
  simp -implicitDefEqProofs only [reduceIte,ai,aj,q1,q2,q3,q4]⟩]
 simp -implicitDefEqProofs only [reduceIte,ai,aj,q1,q2,q3,q4,R.iD]
 have hd:=Je l
 rw[show List.filter _ _=xR l from rfl,bY (by omega)]
 simp -implicitDefEqProofs only [reduceIte,ai,aj,q1,q2,q3,q4,jh]
theorem CY{n:Nat}{r s:List Int}(h:Iv n r s)(hn:n<=7):pW [.lst (aA r)]=.ok (aA (xR s)):=by
 unfold pW yM
 simp -implicitDefEqProofs only [mS,mD,mF,eR,aH,reduceAdd,reduceSub,reduceEqDiff,reduceIte,ai,aj,q1,q2,q3,q4]
 rw[nS h hn]
 simp -implicitDefEqProofs only [reduceIte,ai,aj,q1,q2,q3,q4]
 rw[yU s (by rw[h.ls];exact hn)]
 simp -implicitDefEqProofs only [reduceIte,ai,aj,q1,q2,q3,q4,jh]
theorem qX{l:List Int}(hn:l.length<=7){a:Nat}(ha:a+1<l.length):aL [.lst (aA l),.int ((a:Int)+1)]=.ok (aA (fA l a)):=by
 unfold aL fO
 simp -implicitDefEqProofs only [mS,mD,mF,eR,aH,reduceAdd,reduceSub,reduceEqDiff,reduceIte,ai,aj,q1,q2,q3,q4,kZ]
 rw[ue _ _ (by omega),yA _ _ (by omega),bZ (by omega) (by omega),bZ (by omega) (by omega),show((a:Int)+1-1).toNat=a by omega,show((a:Int)+1+1).toNat=a+2 by omega,show((a:Int)+1).toNat=a+1 by omega]
 simp -implicitDefEqProofs only [reduceIte,ai,aj,q1,q2,q3,q4]
 rw[show[D.int (aa l (a+1)),D.int (aa l a)]=aA [aa l (a+1),aa l a]from rfl,pM,bY (by simp -implicitDefEqProofs only [length_append,length_take,length_cons,length_nil];omega)]
 simp -implicitDefEqProofs only [reduceIte,ai,aj,q1,q2,q3,q4]
 rw[pM,xn l a ha,bY (by rw[fR];omega)]
 simp -implicitDefEqProofs only [reduceIte,ai,aj,q1,q2,q3,q4,jh]
theorem FJ{n:Nat}{r s:List Int}(h:Iv n r s)(hn:n<=7){a:Nat}(ha:a+1<n):bO [.lst (aA r),.int ((a:Int)+1)]=.ok (aA (zw r a)):=by
 unfold bO gz
 simp -implicitDefEqProofs only [mS,mD,mF,eR,aH,reduceAdd,reduceSub,reduceEqDiff,reduceIte,ai,aj,q1,q2,q3,q4]
 rw[nS h hn]
 simp -implicitDefEqProofs only [reduceIte,ai,aj,q1,q2,q3,q4]
 rw[qX (by rw[h.ls];exact hn) (by rw[h.ls];exact ha)]
 simp -implicitDefEqProofs only [reduceIte,ai,aj,q1,q2,q3,q4]
 rw[nS (h.step ha).symm hn]
 simp -implicitDefEqProofs only [reduceIte,ai,aj,q1,q2,q3,q4,jh]
abbrev RP:=List Int×List Int
structure Ad where
 dx:Addr
 kn:Addr
 nu:Addr
 fi:Addr
 la:Addr
 sh:Addr
 lo:Addr
 ke:Addr
 li:Addr
 ks:List Addr
def Ad.hd (A:Ad):List Addr:=[A.dx,A.kn,A.nu,A.fi,A.la,A.sh,A.lo,A.ke,A.li]
def Ad.all (A:Ad):List Addr:=A.hd++A.ks
def rZ(A:Ad):List (Str×V):=[("known",.ref A.kn),("numbers",.ref A.nu),("firsts",.ref A.fi),("lasts",.ref A.la),("shorter",.ref A.sh),("longer",.ref A.lo),("kept",.ref A.ke),("line",.ref A.li)]
def kk(r:List Int):List Key:=r.map Sum.inl
theorem Wf(r:List Int):(kk r).map kV=r.map V.int:=by unfold kk;rw[map_map];rfl
theorem FN{r s:List Int}(h:kk r=kk s):r=s:=by
 unfold kk at h
 exact(List.map_inj_right (fun x y e=>Sum.inl.inj e)).mp h
def Al(ks:List Int):Int:=ks.foldl (fun b k=>Builtin.bitOr b (1*2^(k-1).toNat)) 0
def r6(l:List Int):Int:=Al (xR l)
def yV(p:RP)(a:Nat):RP:=(fA p.1 a,zw p.2 a)
def zx(p:RP)(a:Nat):RP:=(zw p.1 a,fA p.2 a)
def mf(p q:RP):List Int:=(xR q.2).filter fun k=> !decide (k∈xR p.1)
def fj:Nat->RP->RP->RP×RP
 |0,p,q=>(p,q)
 |f+1,p,q=>match (mf p q).getLast? with
  |none=>(p,q)
  |some k=>fj f (yV p (k-1).toNat) (zx q (k-1).toNat)
theorem Iv.uniq {n:Nat}{r r' s:List Int}(h:Iv n r s)(g:Iv n r' s):r=r':=by
 refine bF (by rw[h.lr,g.lr]) fun j hj=>?_
 obtain⟨a1,a2,a3⟩:=h.rs j (by rw[h.lr]at hj;exact hj)
 obtain⟨b1,b2,b3⟩:=g.sr (aa r j).toNat (by omega)
 rw[a3,toNat_natCast]at b3
 omega
theorem Bw{n:Nat}{p q:RP}(h:Iv n p.1 p.2)(g:Iv n q.1 q.2)(e:p.1=q.1):p=q:=by
 have h':=h.symm
 rw[e]at h'
 exact Prod.ext e (Iv.uniq h' g.symm)
structure gw(C:Addr)(H:Hp)(a:Addr)(A:Ad)(ex:List (Str×V))(n:Nat)(kn:List RP)(ln:List Int)(B:Nat)(nu sh lo ke:List (List Key×V)):Prop where
 ob:H a=some (.ins C A.dx (rZ A++ex))
 dx:∃o,H A.dx=some o
 nd:(a::A.all).Nodup
 hkn:H A.kn=some (.lst (A.ks.map V.ref))
 yW:A.ks.length=kn.length
 hks:∀(i:Nat)(b:Addr)(p:RP),A.ks[i]?=some b->kn[i]?=some p->H b=some (.lst (p.1.map V.int))
 vv:H A.nu=some (.dT nu)
 uU:H A.fi=some (.lst (kn.map fun p=>V.int (r6 p.2)))
 hla:H A.la=some (.lst (kn.map fun p=>V.int (r6 p.1)))
 hsh:H A.sh=some (.dT sh)
 hlo:H A.lo=some (.dT lo)
 hke:H A.ke=some (.dT ke)
 hli:H A.li=some (.lst (ln.map V.int))
 rw:∀p∈kn,Iv n p.1 p.2
 n1:∀(i:Nat)(p:RP),kn[i]?=some p->cA nu (kk p.1)=some (.int i)
 n2:∀r:List Int,(∀p∈kn,p.1≠r)->cA nu (kk r)=none
 s1:∀(i:Nat)(k:Int)(v:V),cA sh [.inl (i:Int),.inl k]=some v->∃(j:Nat)(p:RP),kn[i]?=some p/\kn[j]?=some (zx p (k-1).toNat)/\v=.int j
 l1:∀(i:Nat)(k:Int)(v:V),cA lo [.inl (i:Int),.inl k]=some v->∃(j:Nat)(p:RP),kn[i]?=some p/\kn[j]?=some (yV p (k-1).toNat)/\v=.int j
 k1:∀(i j:Nat)(v:V),cA ke [.inl (i:Int),.inl (j:Int)]=some v->∃(t:Addr)(i' j':Nat)(p q:RP),kn[i]?=some p/\kn[j]?=some q/\v=.ref t/\H t=some (.tup [.int i',.int j'])/\kn[i']?=some (fj 50 p q).1/\kn[j']?=some (fj 50 p q).2
 z:kn.length<=B/\nu.length<=B/\sh.length<=B/\lo.length<=B/\ke.length<=B
 li:∀m∈ln,0<=m/\m<kn.length
theorem gw.same {C:Addr}{H H':Hp}{a:Addr}{A:Ad}{ex:List (Str×V)}{n:Nat}{kn:List RP}{ln:List Int}{B:Nat}{nu sh lo ke:List (List Key×V)}(c:gw C H a A ex n kn ln B nu sh lo ke)(s:aB H H'):gw C H' a A ex n kn ln B nu sh lo ke:=
 ⟨s _ _ c.ob,let⟨o,h⟩:=c.dx;⟨o,s _ _ h⟩,c.nd,s _ _ c.hkn,c.yW,fun i b p e1 e2=>s _ _ (c.hks i b p e1 e2),s _ _ c.vv,s _ _ c.uU,s _ _ c.hla,s _ _ c.hsh,s _ _ c.hlo,s _ _ c.hke,s _ _ c.hli,c.rw,c.n1,c.n2,c.s1,c.l1,
  fun i j v e=>by
   obtain⟨t,i',j',p,q,h1,h2,h3,h4,h5⟩:=c.k1 i j v e
   exact⟨t,i',j',p,q,h1,h2,h3,s _ _ h4,h5⟩,c.z,c.li⟩
theorem gw.more {C:Addr}{H:Hp}{a:Addr}{A:Ad}{ex:List (Str×V)}{n:Nat}{kn:List RP}{ln:List Int}{B B':Nat}{nu sh lo ke:List (List Key×V)}(c:gw C H a A ex n kn ln B nu sh lo ke)(h:B<=B'):gw C H a A ex n kn ln B' nu sh lo ke:=
 {c with z:=by have:=c.z;omega}
theorem gw.Oc {C:Addr}{H:Hp}{a:Addr}{A:Ad}{ex:List (Str×V)}{n:Nat}{kn:List RP}{ln:List Int}{B:Nat}{nu sh lo ke:List (List Key×V)}(c:gw C H a A ex n kn ln B nu sh lo ke):
  (A.kn≠A.fi/\A.kn≠A.la/\A.kn≠A.li/\A.fi≠A.la/\A.fi≠A.li/\A.la≠A.li)/\(A.nu≠A.sh/\A.nu≠A.lo/\A.nu≠A.ke/\A.sh≠A.lo/\A.sh≠A.ke/\A.lo≠A.ke)/\
  (∀b∈A.ks,b≠A.kn/\b≠A.fi/\b≠A.la/\b≠A.li)/\(A.dx≠A.kn/\A.dx≠A.nu/\A.dx≠A.fi/\A.dx≠A.la/\A.dx≠A.sh/\A.dx≠A.lo/\A.dx≠A.ke/\A.dx≠A.li/\a≠A.dx)/\(∀b∈A.ks,b≠A.dx):=by
 have nd:=c.nd
 unfold Ad.all Ad.hd at nd
 simp only [cons_append,nil_append,nodup_cons,mem_cons,not_or]at nd
 obtain⟨⟨a1,a2⟩,⟨d1,d2,d3,d4,d5,d6,d7,d8,d9⟩,⟨k1,k2,k3,k4,k5,k6,k7,k8⟩,⟨n1,n2,n3,n4,n5,n6,n7⟩,⟨f1,f2,f3,f4,f5,f6⟩,⟨l1,l2,l3,l4,l5⟩,⟨s1,s2,s3,s4⟩,⟨o1,o2,o3⟩,⟨e1,e2⟩,i1,_⟩:=nd
 refine⟨⟨k2,k3,k7,f1,f5,l4⟩,⟨n3,n4,n5,s1,s2,o1⟩,fun b hb=>⟨fun z=>k8 (z▸hb),fun z=>f6 (z▸hb),fun z=>l5 (z▸hb),fun z=>i1 (z▸hb)⟩,⟨d1,d2,d3,d4,d5,d6,d7,d8,a1⟩,fun b hb z=>d9 (z▸hb)⟩
structure gp(H H':Hp)(F F':List Addr):Prop where
 kp:∀x o,x∉F->H x=some o->H' x=some o
 nw:∀x∈F',x∈F\/H x=none
 gr:∀x,H' x=none->H x=none
theorem gp.refl (H:Hp)(F:List Addr):gp H H F F:=⟨fun _ _ _ h=>h,fun _ h=>.inl h,fun _ h=>h⟩
theorem gp.trans {H H1 H2:Hp}{F F1 F2:List Addr}(a:gp H H1 F F1)(b:gp H1 H2 F1 F2):gp H H2 F F2:=
 ⟨fun x o hx h=>b.kp x o (fun z=>(a.nw x z).elim hx fun q=>by rw[h]at q;cases q) (a.kp x o hx h),fun x hx=>(b.nw x hx).elim (fun z=>a.nw x z) fun z=>.inr (a.gr x z),fun x hx=>a.gr x (b.gr x hx)⟩
theorem gp.same {H H1:Hp}(s:aB H H1)(F:List Addr):gp H H1 F F:=⟨fun x o _ h=>s x o h,fun _ h=>.inl h,fun _ h=>s.free h⟩
theorem gp.upd {H:Hp}{F:List Addr}{x:Addr}(hx:x∈F)(o:HO):gp H (upd H x o) F F:=⟨fun y o' hy h=>by rw[ah (fun z=>hy (by rw[z];exact hx))];exact h,fun _ h=>.inl h,fun y hy=>by
 by_cases z:y=x
 ·rw[z,ak]at hy;cases hy
 ·rw[ah z]at hy;exact hy⟩
theorem gw.there {C:Addr}{H:Hp}{a:Addr}{A:Ad}{ex:List (Str×V)}{n:Nat}{kn:List RP}{ln:List Int}{B:Nat}{nu sh lo ke:List (List Key×V)}(c:gw C H a A ex n kn ln B nu sh lo ke){x:Addr}(hx:x∈a::A.all):∃o,H x=some o:=by
 rcases mem_cons.mp hx with rfl|hx
 ·exact⟨_,c.ob⟩
 ·rcases mem_append.mp hx with hx|hx
  ·unfold Ad.hd at hx
   simp only [mem_cons,not_mem_nil,or_false]at hx
   rcases hx with rfl|rfl|rfl|rfl|rfl|rfl|rfl|rfl|rfl
   ·exact c.dx
   ·exact⟨_,c.hkn⟩
   ·exact⟨_,c.vv⟩
   ·exact⟨_,c.uU⟩
   ·exact⟨_,c.hla⟩
   ·exact⟨_,c.hsh⟩
   ·exact⟨_,c.hlo⟩
   ·exact⟨_,c.hke⟩
   ·exact⟨_,c.hli⟩
  ·obtain⟨i,hi,ei⟩:=getElem_of_mem hx
   exact⟨_,c.hks i x (kn[i]'(by rw[<-c.yW];exact hi)) (by rw[getElem?_eq_getElem hi,ei]) (getElem?_eq_getElem (by rw[<-c.yW];exact hi))⟩
theorem m8{α:Type}{l:List α}{x y:α}{i:Nat}(e:(l++[x])[i]?=some y)(h:¬i<l.length):i=l.length/\x=y:=by
 have h1:=(List.getElem?_eq_some_iff.mp e).1
 rw[length_append,length_singleton]at h1
 have h2:i=l.length:=by omega
 subst h2
 exact⟨rfl,by simpa using e⟩
theorem bD{α:Type}{l m:List α}{x:α}{i:Nat}(e:l[i]?=some x):(l++m)[i]?=some x:=by
 rw[getElem?_append_left (List.getElem?_eq_some_iff.mp e).1]
 exact e
theorem gw.add {C:Addr}{H H9:Hp}{a:Addr}{A:Ad}{ex:List (Str×V)}{n:Nat}{kn:List RP}{ln:List Int}{B:Nat}{nu sh lo ke:List (List Key×V)}(c:gw C H a A ex n kn ln B nu sh lo ke){p:RP}(hm:¬∃q∈kn,q.1=p.1)(iv:Iv n p.1 p.2){l2:Addr}(Pq:H l2=none)
  (Tj:H9 a=some (.ins C A.dx (rZ A++ex)))(Tn:H9 A.nu=some (.dT (putK nu (kk p.1) (.int (kn.length:Int)))))(Wg:H9 A.kn=some (.lst (A.ks.map V.ref++[.ref l2])))
  (Wh:H9 A.fi=some (.lst ((kn.map fun p=>V.int (r6 p.2))++[V.int (r6 p.2)])))(Wi:H9 A.la=some (.lst ((kn.map fun p=>V.int (r6 p.1))++[V.int (r6 p.1)])))(Wj:H9 l2=some (.lst (p.1.map V.int)))
  (keep:∀x o,x≠A.nu->x≠A.kn->x≠A.fi->x≠A.la->H x=some o->H9 x=some o):gw C H9 a {A with ks:=A.ks++[l2]} ex n (kn++[p]) ln (B+1) (putK nu (kk p.1) (.int (kn.length:Int))) sh lo ke:=by
 have vx:∀j,cA (putK nu (kk p.1) (.int (kn.length:Int))) j=if j=kk p.1 then some (.int (kn.length:Int))else cA nu j:=fun j=>je nu (kk p.1) j _
 have hz:(kn++[p]).length<=B+1/\(putK nu (kk p.1) (.int (kn.length:Int))).length<=B+1/\sh.length<=B+1/\lo.length<=B+1/\ke.length<=B+1:=by
  have h0:=c.z
  have h1:=fg nu (kk p.1) (.int (kn.length:Int))
  rw[length_append,length_singleton]
  omega
 have hli:∀m∈ln,0<=m/\m<((kn++[p]).length:Int):=fun m hm'=>by
  have:=c.li m hm'
  rw[length_append]
  omega
 have nl:∀{x y:Addr}{xs:List V}{kv:List (List Key×V)},H x=some (.lst xs)->H y=some (.dT kv)->x≠y:=fun h1 h2=>br h1 h2 (by intro z;cases z)
 obtain⟨⟨n1,n2,n3,n4,n5,n6⟩,⟨m1,m2,m3,m4,m5,m6⟩,Oe,⟨d1,d2,d3,d4,d5,d6,d7,d8,d9⟩,RB⟩:=c.Oc
 refine⟨Tj,?_,?_,by rw[map_append];exact Wg,by rw[length_append,length_append,c.yW];rfl,fun i b' q' e1 e2=>?_,Tn,by rw[map_append];exact Wh,by rw[map_append];exact Wi,
  keep _ _ (Ne.symm m1) (Ne.symm (nl c.hkn c.hsh)) (Ne.symm (nl c.uU c.hsh)) (Ne.symm (nl c.hla c.hsh)) c.hsh,
  keep _ _ (Ne.symm m2) (Ne.symm (nl c.hkn c.hlo)) (Ne.symm (nl c.uU c.hlo)) (Ne.symm (nl c.hla c.hlo)) c.hlo,
  keep _ _ (Ne.symm m3) (Ne.symm (nl c.hkn c.hke)) (Ne.symm (nl c.uU c.hke)) (Ne.symm (nl c.hla c.hke)) c.hke,
  keep _ _ (nl c.hli c.vv) (Ne.symm n3) (Ne.symm n5) (Ne.symm n6) c.hli,fun q' HM=>?_,fun i q' e=>?_,fun r Yq=>?_,fun i k' v e=>?_,fun i k' v e=>?_,fun i j v e=>?_,hz,hli⟩
 ·obtain⟨o,ho⟩:=c.dx
  exact⟨o,keep _ _ d2 d1 d3 d4 ho⟩
 ·show(a::(A.hd++(A.ks++[l2]))).Nodup
  rw[<-List.append_assoc,<-cons_append,List.nodup_append]
  refine⟨c.nd,by simp,fun x hx y hy=>?_⟩
  have ey:y=l2:=by simpa using hy
  rw[ey]
  intro z
  obtain⟨o,ho⟩:=c.there hx
  rw[z,Pq]at ho
  cases ho
 ·have D7:(A.ks++[l2])[i]?=some b':=e1
  by_cases hi:i<kn.length
  ·rw[getElem?_append_left (by rw[c.yW];exact hi)]at D7
   rw[getElem?_append_left hi]at e2
   have Hc:=Oe b' (mem_of_getElem? D7)
   have Yr:=c.hks i b' q' D7 e2
   exact keep _ _ (nl Yr c.vv) Hc.1 Hc.2.1 Hc.2.2.1 Yr
  ·obtain⟨_,z2⟩:=m8 e2 hi
   obtain⟨_,z1⟩:=m8 D7 (by rw[c.yW];exact hi)
   rw[<-z1,<-z2]
   exact Wj
 ·rcases mem_append.mp HM with h|h
  ·exact c.rw q' h
  ·have:q'=p:=by simpa using h
   rw[this];exact iv
 ·rw[vx]
  by_cases hi:i<kn.length
  ·rw[getElem?_append_left hi]at e
   have hne:¬kk q'.1=kk p.1:=fun z=>hm ⟨q',mem_of_getElem? e,FN z⟩
   rw[if_neg hne]
   exact c.n1 i q' e
  ·obtain⟨z1,z2⟩:=m8 e hi
   rw[<-z2,if_pos rfl,z1]
 ·rw[vx,if_neg (fun z=>Yq p (by simp) (FN z).symm)]
  exact c.n2 r fun q' HM=>Yq q' (by simp[HM])
 ·obtain⟨j,p',h1,h2,h3⟩:=c.s1 i k' v e
  exact⟨j,p',bD h1,bD h2,h3⟩
 ·obtain⟨j,p',h1,h2,h3⟩:=c.l1 i k' v e
  exact⟨j,p',bD h1,bD h2,h3⟩
 ·obtain⟨t',i',j',p',q',h1,h2,h3,h4,h5,h6⟩:=c.k1 i j v e
  have nt:∀{y:Addr}{xs:List V},H y=some (.lst xs)->t'≠y:=fun h=>br h4 h (by intro z;cases z)
  exact⟨t',i',j',p',q',bD h1,bD h2,h3,keep _ _ (br h4 c.vv (by intro z;cases z)) (nt c.hkn) (nt c.uU) (nt c.hla) h4,bD h5,bD h6⟩
theorem gw.Og {C:Addr}{H:Hp}{a:Addr}{A:Ad}{ex:List (Str×V)}{n:Nat}{kn:List RP}{ln:List Int}{B:Nat}{nu sh lo ke:List (List Key×V)}(c:gw C H a A ex n kn ln B nu sh lo ke){i j:Nat}{k:Int}{p:RP}(hi:kn[i]?=some p)(hj:kn[j]?=some (zx p (k-1).toNat)):
  gw C (upd H A.sh (.dT (putK sh [.inl (i:Int),.inl k] (.int j)))) a A ex n kn ln (B+1) nu (putK sh [.inl (i:Int),.inl k] (.int j)) lo ke:=by
 have hz:kn.length<=B+1/\nu.length<=B+1/\(putK sh ([.inl (i:Int),.inl k]:List Key) (.int j)).length<=B+1/\lo.length<=B+1/\ke.length<=B+1:=by
  have h0:=c.z
  have h1:=fg sh ([.inl (i:Int),.inl k]:List Key) (.int j)
  omega
 have vx:∀x,cA (putK sh ([.inl (i:Int),.inl k]:List Key) (.int j)) x=if x=[.inl (i:Int),.inl k]then some (.int j)else cA sh x:=fun x=>je sh _ x _
 have nl:∀{x:Addr}{xs:List V},H x=some (.lst xs)->x≠A.sh:=fun h1=>br h1 c.hsh (by intro z;cases z)
 obtain⟨_,⟨m1,m2,m3,m4,m5,m6⟩,Oe,⟨d1,d2,d3,d4,d5,d6,d7,d8,d9⟩,RB⟩:=c.Oc
 have kp:∀x o,x≠A.sh->H x=some o->(upd H A.sh (.dT (putK sh [.inl (i:Int),.inl k] (.int j)))) x=some o:=fun x o hx h=>by rw[ah hx];exact h
 have Wk:∀(i':Nat)(k':Int)(v:V),cA (putK sh ([.inl (i:Int),.inl k]:List Key) (.int j)) [.inl (i':Int),.inl k']=some v->∃(j:Nat)(p:RP),kn[i']?=some p/\kn[j]?=some (zx p (k'-1).toNat)/\v=.int j:=fun i' k' v e=>by
  rw[vx]at e
  split at e
  ·rename_i z
   injection z with z1 z2
   injection z2 with z2 _
   have q1:(i':Int)=i:=Sum.inl.inj z1
   have q2:k'=k:=Sum.inl.inj z2
   have q3:i'=i:=by omega
   subst q2 q3
   cases e
   exact⟨j,p,hi,hj,rfl⟩
  ·exact c.s1 i' k' v e
 refine⟨kp _ _ (br c.ob c.hsh (by intro z;cases z)) c.ob,?_,c.nd,kp _ _ (nl c.hkn) c.hkn,c.yW,fun i b p e1 e2=>kp _ _ (nl (c.hks i b p e1 e2)) (c.hks i b p e1 e2),kp _ _ m1 c.vv,kp _ _ (nl c.uU) c.uU,kp _ _ (nl c.hla) c.hla,ak,kp _ _ (Ne.symm m4) c.hlo,kp _ _ (Ne.symm m5) c.hke,kp _ _ (nl c.hli) c.hli,c.rw,c.n1,c.n2,Wk,c.l1,fun i j v e=>?_,hz,c.li⟩
 ·obtain⟨o,h⟩:=c.dx
  exact⟨o,kp _ _ d5 h⟩
 ·obtain⟨t,i',j',p,q,h1,h2,h3,h4,h5⟩:=c.k1 i j v e
  exact⟨t,i',j',p,q,h1,h2,h3,kp _ _ (br h4 c.hsh (by intro z;cases z)) h4,h5⟩
theorem gw.Oh {C:Addr}{H:Hp}{a:Addr}{A:Ad}{ex:List (Str×V)}{n:Nat}{kn:List RP}{ln:List Int}{B:Nat}{nu sh lo ke:List (List Key×V)}(c:gw C H a A ex n kn ln B nu sh lo ke){i j:Nat}{k:Int}{p:RP}(hi:kn[i]?=some p)(hj:kn[j]?=some (yV p (k-1).toNat)):
  gw C (upd H A.lo (.dT (putK lo [.inl (i:Int),.inl k] (.int j)))) a A ex n kn ln (B+1) nu sh (putK lo [.inl (i:Int),.inl k] (.int j)) ke:=by
 have hz:kn.length<=B+1/\nu.length<=B+1/\sh.length<=B+1/\(putK lo ([.inl (i:Int),.inl k]:List Key) (.int j)).length<=B+1/\ke.length<=B+1:=by
  have h0:=c.z
  have h1:=fg lo ([.inl (i:Int),.inl k]:List Key) (.int j)
  omega
 have vx:∀x,cA (putK lo ([.inl (i:Int),.inl k]:List Key) (.int j)) x=if x=[.inl (i:Int),.inl k]then some (.int j)else cA lo x:=fun x=>je lo _ x _
 have nl:∀{x:Addr}{xs:List V},H x=some (.lst xs)->x≠A.lo:=fun h1=>br h1 c.hlo (by intro z;cases z)
 obtain⟨_,⟨m1,m2,m3,m4,m5,m6⟩,Oe,⟨d1,d2,d3,d4,d5,d6,d7,d8,d9⟩,RB⟩:=c.Oc
 have kp:∀x o,x≠A.lo->H x=some o->(upd H A.lo (.dT (putK lo [.inl (i:Int),.inl k] (.int j)))) x=some o:=fun x o hx h=>by rw[ah hx];exact h
 have Wk:∀(i':Nat)(k':Int)(v:V),cA (putK lo ([.inl (i:Int),.inl k]:List Key) (.int j)) [.inl (i':Int),.inl k']=some v->∃(j:Nat)(p:RP),kn[i']?=some p/\kn[j]?=some (yV p (k'-1).toNat)/\v=.int j:=fun i' k' v e=>by
  rw[vx]at e
  split at e
  ·rename_i z
   injection z with z1 z2
   injection z2 with z2 _
   have q1:(i':Int)=i:=Sum.inl.inj z1
   have q2:k'=k:=Sum.inl.inj z2
   have q3:i'=i:=by omega
   subst q2 q3
   cases e
   exact⟨j,p,hi,hj,rfl⟩
  ·exact c.l1 i' k' v e
 refine⟨kp _ _ (br c.ob c.hlo (by intro z;cases z)) c.ob,?_,c.nd,kp _ _ (nl c.hkn) c.hkn,c.yW,fun i b p e1 e2=>kp _ _ (nl (c.hks i b p e1 e2)) (c.hks i b p e1 e2),kp _ _ m2 c.vv,kp _ _ (nl c.uU) c.uU,kp _ _ (nl c.hla) c.hla,kp _ _ m4 c.hsh,ak,kp _ _ (Ne.symm m6) c.hke,kp _ _ (nl c.hli) c.hli,c.rw,c.n1,c.n2,c.s1,Wk,fun i j v e=>?_,hz,c.li⟩
 ·obtain⟨o,h⟩:=c.dx
  exact⟨o,kp _ _ d6 h⟩
 ·obtain⟨t,i',j',p,q,h1,h2,h3,h4,h5⟩:=c.k1 i j v e
  exact⟨t,i',j',p,q,h1,h2,h3,kp _ _ (br h4 c.hlo (by intro z;cases z)) h4,h5⟩
theorem gw.Oi {C:Addr}{H:Hp}{a:Addr}{A:Ad}{ex:List (Str×V)}{n:Nat}{kn:List RP}{ln:List Int}{B:Nat}{nu sh lo ke:List (List Key×V)}(c:gw C H a A ex n kn ln B nu sh lo ke){i j i' j':Nat}{p q:RP}{t:Addr}(hi:kn[i]?=some p)(hj:kn[j]?=some q)(ht:H t=some (.tup [.int i',.int j']))(Am:kn[i']?=some (fj 50 p q).1)(Ah:kn[j']?=some (fj 50 p q).2):
  gw C (upd H A.ke (.dT (putK ke [.inl (i:Int),.inl (j:Int)] (.ref t)))) a A ex n kn ln (B+1) nu sh lo (putK ke [.inl (i:Int),.inl (j:Int)] (.ref t)):=by
 have hz:kn.length<=B+1/\nu.length<=B+1/\sh.length<=B+1/\lo.length<=B+1/\(putK ke ([.inl (i:Int),.inl (j:Int)]:List Key) (.ref t)).length<=B+1:=by
  have h0:=c.z
  have h1:=fg ke ([.inl (i:Int),.inl (j:Int)]:List Key) (.ref t)
  omega
 have vx:∀x,cA (putK ke ([.inl (i:Int),.inl (j:Int)]:List Key) (.ref t)) x=if x=[.inl (i:Int),.inl (j:Int)]then some (.ref t)else cA ke x:=fun x=>je ke _ x _
 have nl:∀{x:Addr}{xs:List V},H x=some (.lst xs)->x≠A.ke:=fun h1=>br h1 c.hke (by intro z;cases z)
 have nt:∀{x:Addr}{xs:List V},H x=some (.tup xs)->x≠A.ke:=fun h1=>br h1 c.hke (by intro z;cases z)
 obtain⟨_,⟨m1,m2,m3,m4,m5,m6⟩,Oe,⟨d1,d2,d3,d4,d5,d6,d7,d8,d9⟩,RB⟩:=c.Oc
 have kp:∀x o,x≠A.ke->H x=some o->(upd H A.ke (.dT (putK ke [.inl (i:Int),.inl (j:Int)] (.ref t)))) x=some o:=fun x o hx h=>by rw[ah hx];exact h
 refine⟨kp _ _ (br c.ob c.hke (by intro z;cases z)) c.ob,?_,c.nd,kp _ _ (nl c.hkn) c.hkn,c.yW,fun i b p e1 e2=>kp _ _ (nl (c.hks i b p e1 e2)) (c.hks i b p e1 e2),kp _ _ m3 c.vv,kp _ _ (nl c.uU) c.uU,kp _ _ (nl c.hla) c.hla,kp _ _ m5 c.hsh,kp _ _ m6 c.hlo,ak,kp _ _ (nl c.hli) c.hli,c.rw,c.n1,c.n2,c.s1,c.l1,fun x y v e=>?_,hz,c.li⟩
 ·obtain⟨o,h⟩:=c.dx
  exact⟨o,kp _ _ d7 h⟩
 ·rw[vx]at e
  split at e
  ·rename_i z
   injection z with z1 z2
   injection z2 with z2 _
   have q1:(x:Int)=i:=Sum.inl.inj z1
   have q2:(y:Int)=j:=Sum.inl.inj z2
   have q3:x=i:=by omega
   have q4:y=j:=by omega
   subst q3 q4
   cases e
   exact⟨t,i',j',p,q,hi,hj,rfl,kp _ _ (nt ht) ht,Am,Ah⟩
  ·obtain⟨t,i',j',p,q,h1,h2,h3,h4,h5⟩:=c.k1 x y v e
   exact⟨t,i',j',p,q,h1,h2,h3,kp _ _ (nt h4) h4,h5⟩
section
variable{A:Ad}{ex:List (Str×V)}
theorem wc:(rZ A++ex).lookup ("known":Str)=some (.ref A.kn):=rfl
theorem Bx:(rZ A++ex).lookup ("numbers":Str)=some (.ref A.nu):=rfl
theorem FO:(rZ A++ex).lookup ("firsts":Str)=some (.ref A.fi):=rfl
theorem FP:(rZ A++ex).lookup ("lasts":Str)=some (.ref A.la):=rfl
theorem By:(rZ A++ex).lookup ("shorter":Str)=some (.ref A.sh):=rfl
theorem BA:(rZ A++ex).lookup ("longer":Str)=some (.ref A.lo):=rfl
theorem FQ:(rZ A++ex).lookup ("kept":Str)=some (.ref A.ke):=rfl
theorem yX:(rZ A++ex).lookup ("line":Str)=some (.ref A.li):=rfl
end
def rO(z w:Int):List (Str×V):=[("none",.int z),("whole",.int w)]
theorem K8{A:Ad}{z w:Int}:(rZ A++rO z w).lookup ("none":Str)=some (.int z):=rfl
theorem RD{A:Ad}{z w:Int}:(rZ A++rO z w).lookup ("whole":Str)=some (.int w):=rfl
abbrev six:List Int:=[1,2,3,4,5,6]
def Oj(l:List (Int×Bool)):List Int:=(l.filter (·.2)).map (·.1)
def sel(b1 b2 b3 b4 b5 b6:Bool):List Int:=Oj [(1,b1),(2,b2),(3,b3),(4,b4),(5,b5),(6,b6)]
theorem uw(f:Int->Bool):∀l:List Int,l.filter f=Oj (l.map fun k=>(k,f k))
 |[]=>rfl
 |k::l=>by
  have ih:=uw f l
  unfold Oj at ih⊢
  rw[map_cons]
  cases h:f k with
  |true=>rw[List.filter_cons_of_pos h,List.filter_cons_of_pos (by rfl),map_cons,ih]
  |false=>rw[List.filter_cons_of_neg (by rw[h];decide),List.filter_cons_of_neg (by simp),ih]
theorem pZ(f:Int->Bool):six.filter f=sel (f 1) (f 2) (f 3) (f 4) (f 5) (f 6):=uw f six
theorem Jk(f:Int->Bool):∀m:Nat,m<=7->((range (m-1)).map fun i=>1+((i:Nat):Int)).filter f=six.filter fun k=>decide (k.toNat<m)&&f k
 |0,_=>rfl
 |1,_=>rfl
 |2,_=>rfl
 |3,_=>rfl
 |4,_=>rfl
 |5,_=>rfl
 |6,_=>rfl
 |7,_=>rfl
 |m+8,h=>by omega
def RE(l:List Int)(k:Int):Bool:=decide (k.toNat<l.length)&&decide (aa l k.toNat<aa l (k-1).toNat)
theorem sN{l:List Int}(h:l.length<=7):xR l=six.filter (RE l):=Jk _ l.length h
theorem FT:∀b1 b2 b3 b4 b5 b6 c1 c2 c3 c4 c5 c6:Bool,Builtin.bitAnd (Al (sel b1 b2 b3 b4 b5 b6)) (Builtin.bitNot (Al (sel c1 c2 c3 c4 c5 c6)))=Al (sel (b1&& !c1) (b2&& !c2) (b3&& !c3) (b4&& !c4) (b5&& !c5) (b6&& !c6)):=by decide +kernel
theorem yY:∀b1 b2 b3 b4 b5 b6:Bool,decide (0<Al (sel b1 b2 b3 b4 b5 b6))=(sel b1 b2 b3 b4 b5 b6).getLast?.isSome/\∀k∈(sel b1 b2 b3 b4 b5 b6).getLast?,((Builtin.Int.intBits (Al (sel b1 b2 b3 b4 b5 b6)):Nat):Int)=k:=by decide +kernel
theorem xo{p q:RP}(hp:p.1.length<=7)(hq:q.2.length<=7):mf p q=six.filter fun k=>RE q.2 k&& !RE p.1 k:=by
 unfold mf
 rw[sN hq,sN hp,List.filter_filter]
 refine List.filter_congr fun k hk=>?_
 have:decide (k∈six.filter (RE p.1))=RE p.1 k:=by
  rw[Bool.eq_iff_iff,decide_eq_true_iff,mem_filter]
  exact⟨fun h=>h.2,fun h=>⟨hk,h⟩⟩
 rw[this,Bool.and_comm]
theorem BC{p q:RP}(hp:p.1.length<=7)(hq:q.2.length<=7):Builtin.bitAnd (r6 q.2) (Builtin.bitNot (r6 p.1))=Al (mf p q):=by
 unfold r6
 rw[sN hq,sN hp,xo hp hq,pZ,pZ,pZ]
 exact FT ..
theorem FU{p q:RP}(hp:p.1.length<=7)(hq:q.2.length<=7):decide (0<Al (mf p q))=(mf p q).getLast?.isSome:=by
 rw[xo hp hq,pZ]
 exact(yY ..).1
theorem FW{p q:RP}(hp:p.1.length<=7)(hq:q.2.length<=7){k:Int}(h:(mf p q).getLast?=some k):((Builtin.Int.intBits (Al (mf p q)):Nat):Int)=k:=by
 rw[xo hp hq,pZ]at h⊢
 exact(yY ..).2 k h
theorem we:∀(l pre:List Int),xS pre l<=l.length*(pre.length+l.length)
 |[],pre=>by simp[xS]
 |x::l,pre=>by
  have h1:uv x pre<=pre.length:=List.length_filter_le _ _
  have h2:=we l (pre++[x])
  rw[length_append,length_singleton]at h2
  show uv x pre+xS (pre++[x]) l<=(l.length+1)*(pre.length+(l.length+1))
  rw[Nat.add_mul,show pre.length+(l.length+1)=pre.length+1+l.length by omega]
  omega
theorem qY{n:Nat}{p:RP}(hn:n<=7)(h:Iv n p.1 p.2):dM p.1<=49:=by
 have h1:=we p.1 []
 rw[h.lr,length_nil,zero_add]at h1
 have h2:n*n<=7*7:=Nat.mul_le_mul hn hn
 unfold dM
 omega
theorem nT{n:Nat}{p q:RP}(hp:Iv n p.1 p.2)(hq:Iv n q.1 q.2){k:Int}(h:k∈mf p q):∃j:Nat,k=(j:Int)+1/\j+1<n/\aa p.1 j<aa p.1 (j+1)/\aa q.2 (j+1)<aa q.2 j:=by
 unfold mf at h
 obtain⟨h1,h2⟩:=mem_filter.mp h
 obtain⟨j,e,h3,h4⟩:=pY.mp h1
 rw[hq.ls]at h3
 have h5:k∉xR p.1:=by simpa using h2
 have h6:¬aa p.1 (j+1)<aa p.1 j:=fun z=>h5 (pY.mpr ⟨j,e,by rw[hp.lr];exact h3,z⟩)
 have h7:aa p.1 j≠aa p.1 (j+1):=fun z=>by
  have:=hp.symm.DB (v:=j) (w:=j+1) (by omega) h3 z
  omega
 exact⟨j,e,h3,by omega,h4⟩
theorem qZ{n:Nat}{p:RP}(h:Iv n p.1 p.2){j:Nat}(hj:j+1<n):Iv n (yV p j).1 (yV p j).2:=(h.symm.step hj).symm
theorem q8{n:Nat}{p:RP}(h:Iv n p.1 p.2){j:Nat}(hj:j+1<n):Iv n (zx p j).1 (zx p j).2:=h.step hj
theorem m9{p q:RP}{k:Int}(f:Nat)(h:(mf p q).getLast?=some k):fj (f+1) p q=fj f (yV p (k-1).toNat) (zx q (k-1).toNat):=by
 show(match (mf p q).getLast? with
  |none=>(p,q)
  |some k=>fj f (yV p (k-1).toNat) (zx q (k-1).toNat))=_
 rw[h]
theorem nc{p q:RP}(f:Nat)(h:(mf p q).getLast?=none):fj f p q=(p,q):=by
 cases f with
 |zero=>rfl
 |succ f=>
  show(match (mf p q).getLast? with
   |none=>(p,q)
   |some k=>fj f (yV p (k-1).toNat) (zx q (k-1).toNat))=_
  rw[h]
theorem FY{n:Nat}{p:RP}(h:Iv n p.1 p.2){j:Nat}(hj:j+1<n)(hl:aa p.1 j<aa p.1 (j+1)):dM p.1<dM (yV p j).1:=by
 have e:=sM p.1 j [] (by rw[h.lr];exact hj)
 show xS [] p.1<xS [] (fA p.1 j)
 rw[if_pos hl,if_neg (by omega)]at e
 omega
def nI(ls:List Nat):List Int:=ls.map fun(m:Nat)=>(m:Int)
def b7(kn:List RP)(ls:List Nat)(R:List RP):Prop:=ls.map (fun m=>kn[m]?)=R.map some
theorem b7.len {kn:List RP}{ls:List Nat}{R:List RP}(h:b7 kn ls R):ls.length=R.length:=by
 have:=congrArg length h
 simpa using this
theorem b7.at {kn:List RP}{ls:List Nat}{R:List RP}(h:b7 kn ls R){i:Nat}{r:RP}(e:R[i]?=some r):∃m,ls[i]?=some m/\kn[m]?=some r:=by
 have h1:(ls.map fun m=>kn[m]?)[i]?=(R.map some)[i]?:=by rw[show ls.map (fun m=>kn[m]?)=R.map some from h]
 rw[getElem?_map,getElem?_map,e]at h1
 cases h2:ls[i]? with
 |none=>rw[h2]at h1;cases h1
 |some m=>rw[h2]at h1;exact⟨m,rfl,Option.some.inj h1⟩
theorem b7.mem {kn:List RP}{ls:List Nat}{R:List RP}(h:b7 kn ls R){m:Nat}(hm:m∈ls):m<kn.length:=by
 have:kn[m]?∈R.map some:=by rw[<-show ls.map (fun m=>kn[m]?)=R.map some from h];exact mem_map.mpr ⟨m,hm,rfl⟩
 obtain⟨r,_,e⟩:=mem_map.mp this
 exact(List.getElem?_eq_some_iff.mp e.symm).1
theorem b7.li {kn:List RP}{ls:List Nat}{R:List RP}(h:b7 kn ls R):∀m∈nI ls,0<=m/\m<kn.length:=fun m hm=>by
 obtain⟨x,hx,rfl⟩:=mem_map.mp hm
 have:=h.mem hx
 omega
theorem b7.pre {kn mo:List RP}{ls:List Nat}{R:List RP}(h:b7 kn ls R):b7 (kn++mo) ls R:=by
 unfold b7
 rw[<-show ls.map (fun m=>kn[m]?)=R.map some from h]
 refine map_congr_left fun m hm=>?_
 rw[getElem?_append_left (h.mem hm)]
theorem b7.app {kn:List RP}{ls:List Nat}{R:List RP}(h:b7 kn ls R){m:Nat}{r:RP}(e:kn[m]?=some r):b7 kn (ls++[m]) (R++[r]):=by
 unfold b7
 rw[map_append,map_append,show ls.map (fun m=>kn[m]?)=R.map some from h]
 simp[e]
theorem b7.set {kn:List RP}{ls:List Nat}{R:List RP}(h:b7 kn ls R)(i:Nat){m:Nat}{r:RP}(e:kn[m]?=some r):b7 kn (ls.set i m) (R.set i r):=by
 unfold b7
 rw[map_set,map_set,show ls.map (fun m=>kn[m]?)=R.map some from h,e]
theorem b7.drop {kn:List RP}{ls:List Nat}{R:List RP}(h:b7 kn ls R):b7 kn ls.dropLast R.dropLast:=by
 unfold b7
 rw[map_dropLast,map_dropLast,show ls.map (fun m=>kn[m]?)=R.map some from h]
theorem j6(ls:List Nat):(nI ls).length=ls.length:=length_map _
def ux:List RP->RP->List RP
 |[],c=>[c]
 |p::ps,c=>if(fj 50 p c).1=p then c::p::ps else(fj 50 p c).2::ux ps (fj 50 p c).1
def sO(R:List RP)(p:RP):List RP:=(ux R.reverse p).reverse
def fU(n:Nat)(R:List RP)(p:RP):List RP:=if(sO R p).getLast?=some (upTo n,upTo n)then(sO R p).dropLast else sO R p
theorem BD:∀(R:List RP)(p:RP),(ux R p).length=R.length+1
 |[],p=>rfl
 |r::R,p=>by
  unfold ux
  split
  ·rfl
  ·rw[length_cons,BD R,length_cons]
theorem sP(R:List RP)(p:RP):(sO R p).length=R.length+1:=by unfold sO;rw[length_reverse,BD,length_reverse]
theorem gw.yZ {C:Addr}{H:Hp}{a:Addr}{A:Ad}{ex:List (Str×V)}{n:Nat}{kn:List RP}{ln:List Int}{B:Nat}{nu sh lo ke:List (List Key×V)}(c:gw C H a A ex n kn ln B nu sh lo ke){To:List Int}(h:∀m∈To,0<=m/\m<kn.length):
  gw C (upd H A.li (.lst (To.map V.int))) a A ex n kn To B nu sh lo ke:=by
 have nd:∀{x:Addr}{xs:List (List Key×V)},H x=some (.dT xs)->x≠A.li:=fun h1=>br h1 c.hli (by intro z;cases z)
 have nt:∀{x:Addr}{xs:List V},H x=some (.tup xs)->x≠A.li:=fun h1=>br h1 c.hli (by intro z;cases z)
 obtain⟨⟨n1,n2,n3,n4,n5,n6⟩,_,Oe,⟨d1,d2,d3,d4,d5,d6,d7,d8,d9⟩,RB⟩:=c.Oc
 have kp:∀x o,x≠A.li->H x=some o->(upd H A.li (.lst (To.map V.int))) x=some o:=fun x o hx h=>by rw[ah hx];exact h
 refine⟨kp _ _ (br c.ob c.hli (by intro z;cases z)) c.ob,?_,c.nd,kp _ _ n3 c.hkn,c.yW,fun i b p e1 e2=>kp _ _ (Oe b (mem_of_getElem? e1)).2.2.2 (c.hks i b p e1 e2),kp _ _ (nd c.vv) c.vv,kp _ _ n5 c.uU,kp _ _ n6 c.hla,kp _ _ (nd c.hsh) c.hsh,kp _ _ (nd c.hlo) c.hlo,kp _ _ (nd c.hke) c.hke,ak,c.rw,c.n1,c.n2,c.s1,c.l1,fun i j v e=>?_,c.z,h⟩
 ·obtain⟨o,h⟩:=c.dx
  exact⟨o,kp _ _ d8 h⟩
 ·obtain⟨t,i',j',p,q,h1,h2,h3,h4,h5⟩:=c.k1 i j v e
  exact⟨t,i',j',p,q,h1,h2,h3,kp _ _ (nt h4) h4,h5⟩
theorem gw.inj {C:Addr}{H:Hp}{a:Addr}{A:Ad}{ex:List (Str×V)}{n:Nat}{kn:List RP}{ln:List Int}{B:Nat}{nu sh lo ke:List (List Key×V)}(c:gw C H a A ex n kn ln B nu sh lo ke){i j:Nat}{p q:RP}(hi:kn[i]?=some p)(hj:kn[j]?=some q):((i:Int)=j↔p=q):=by
 constructor
 ·intro e
  have:i=j:=by omega
  subst this
  rw[hi]at hj
  exact Option.some.inj hj
 ·rintro rfl
  have h1:=c.n1 i p hi
  rw[c.n1 j p hj]at h1
  injection h1 with h1
  injection h1 with h1
  exact h1.symm
theorem gw.xp {n:Nat}:∀(f:Nat){p q:RP},Iv n p.1 p.2->Iv n q.1 q.2->Iv n (fj f p q).1.1 (fj f p q).1.2/\Iv n (fj f p q).2.1 (fj f p q).2.2
 |0,p,q,h1,h2=>⟨h1,h2⟩
 |f+1,p,q,h1,h2=>by
  cases hl:(mf p q).getLast? with
  |none=>rw[nc _ hl];exact⟨h1,h2⟩
  |some k=>
   rw[m9 f hl]
   obtain⟨j,rfl,hj,_⟩:=nT h1 h2 (mem_of_getLast? hl)
   rw[show((j:Int)+1-1).toNat=j by omega]
   exact gw.xp f (qZ h1 hj) (q8 h2 hj)
theorem tJ{α:Type}{l:List α}{x:α}(h:l.getLast?=some x):iP l (-1)=some x:=by
 obtain⟨ys,rfl⟩:=List.getLast?_eq_some_iff.mp h
 unfold L2.iP L2.o6
 rw[if_neg (by decide),length_append,length_singleton,if_pos (by omega)]
 simp
 rw[show(-1+((ys.length:Int)+1)).toNat=ys.length by omega]
 simp
theorem BE{α:Type}{l:List α}{x:α}(h:l.getLast?=some x):l[l.length-1]?=some x:=by
 obtain⟨ys,rfl⟩:=List.getLast?_eq_some_iff.mp h
 simp
theorem b7.last {kn:List RP}{ls:List Nat}{R:List RP}(h:b7 kn ls R)(hp:0<R.length):∃m r,ls.getLast?=some m/\R.getLast?=some r/\kn[m]?=some r:=by
 have e:R[R.length-1]?=some (R[R.length-1]'(by omega)):=getElem?_eq_getElem (by omega)
 obtain⟨m,h1,h2⟩:=h.at e
 refine⟨m,_,?_,?_,h2⟩
 ·rw[List.getLast?_eq_getElem?,h.len];exact h1
 ·rw[List.getLast?_eq_getElem?];exact e
theorem Ol(ls:List Nat)(m:Nat):(nI (ls++[m])).map V.int=(nI ls).map V.int++[V.int m]:=by unfold nI;simp
theorem q9{ls:List Nat}{i m:Nat}(h:ls[i]?=some m):((nI ls).map V.int)[i]?=some (V.int m):=by unfold nI;rw[getElem?_map,getElem?_map,h];rfl
theorem FZ(ls:List Nat)(i m:Nat):((nI ls).map V.int).set i (V.int m)=(nI (ls.set i m)).map V.int:=by unfold nI;rw[map_set,map_set]
theorem BF(ls:List Nat):((nI ls).map V.int).dropLast=(nI ls.dropLast).map V.int:=by unfold nI;rw[map_dropLast,map_dropLast]
theorem sQ{ls:List Nat}{m:Nat}(h:ls.getLast?=some m):((nI ls).map V.int).getLast?=some (V.int m):=by unfold nI;rw[List.getLast?_map,List.getLast?_map,h];rfl
theorem F0{R:List RP}{t:Nat}{r c:RP}(h:R[t]?=some r):ux (R.take (t+1)).reverse c=if(fj 50 r c).1=r then c::(R.take (t+1)).reverse else(fj 50 r c).2::ux (R.take t).reverse (fj 50 r c).1:=by
 have e:R.take (t+1)=R.take t++[r]:=by rw[take_succ,h];rfl
 rw[e,List.reverse_append]
 rfl
theorem gw.K9 {C:Addr}{H:Hp}{a:Addr}{A:Ad}{ex:List (Str×V)}{n:Nat}{kn:List RP}{ln:List Int}{B:Nat}{nu sh lo ke:List (List Key×V)}(c:gw C H a A ex n kn ln B nu sh lo ke)(SX:List (Str×V)):
  gw C (upd H a (.ins C A.dx (rZ A++SX))) a A SX n kn ln B nu sh lo ke:=by
 have nl:∀{x:Addr}{xs:List V},H x=some (.lst xs)->x≠a:=fun h1=>br h1 c.ob (by intro z;cases z)
 have nd:∀{x:Addr}{xs:List (List Key×V)},H x=some (.dT xs)->x≠a:=fun h1=>br h1 c.ob (by intro z;cases z)
 have nt:∀{x:Addr}{xs:List V},H x=some (.tup xs)->x≠a:=fun h1=>br h1 c.ob (by intro z;cases z)
 obtain⟨_,_,_,⟨d1,d2,d3,d4,d5,d6,d7,d8,d9⟩,_⟩:=c.Oc
 have kp:∀x o,x≠a->H x=some o->(upd H a (.ins C A.dx (rZ A++SX))) x=some o:=fun x o hx h=>by rw[ah hx];exact h
 refine⟨ak,?_,c.nd,kp _ _ (nl c.hkn) c.hkn,c.yW,fun i b p e1 e2=>kp _ _ (nl (c.hks i b p e1 e2)) (c.hks i b p e1 e2),kp _ _ (nd c.vv) c.vv,kp _ _ (nl c.uU) c.uU,kp _ _ (nl c.hla) c.hla,kp _ _ (nd c.hsh) c.hsh,kp _ _ (nd c.hlo) c.hlo,kp _ _ (nd c.hke) c.hke,kp _ _ (nl c.hli) c.hli,c.rw,c.n1,c.n2,c.s1,c.l1,fun i j v e=>?_,c.z,c.li⟩
 ·obtain⟨o,h⟩:=c.dx
  exact⟨o,kp _ _ (Ne.symm d9) h⟩
 ·obtain⟨t,i',j',p,q,h1,h2,h3,h4,h5⟩:=c.k1 i j v e
  exact⟨t,i',j',p,q,h1,h2,h3,kp _ _ (nt h4) h4,h5⟩
theorem g8{H:Hp}{a C dx:Addr}{fs:List (Str×V)}(hob:H a=some (.ins C dx fs)){l:Addr}(hl:H l=none)(o:HO)(f:Str):
  l≠a/\(upd H l o) a=some (.ins C dx fs)/\(upd (upd H l o) a (.ins C dx (jd f (.ref l) fs))) a=some (.ins C dx (jd f (.ref l) fs))/\(upd (upd H l o) a (.ins C dx (jd f (.ref l) fs))) l=some o/\(∀x u,x≠a->H x=some u->(upd (upd H l o) a (.ins C dx (jd f (.ref l) fs))) x=some u)/\∀x,(upd (upd H l o) a (.ins C dx (jd f (.ref l) fs))) x=none->H x=none:=by
 have hla:l≠a:=fun z=>by rw[z,hob]at hl;cases hl
 refine⟨hla,by rw[ah (Ne.symm hla)];exact hob,ak,by rw[ah hla];exact ak,fun x u hx h=>?_,fun x hx=>?_⟩
 ·rw[ah hx,ah (fun z=>by rw[z,hl]at h;cases h)]
  exact h
 ·by_cases z:x=a
  ·rw[z,ak]at hx;cases hx
  ·rw[ah z]at hx
   by_cases z2:x=l
   ·rw[z2];exact hl
   ·rw[ah z2]at hx;exact hx
def mh(n:Nat):RP:=((upTo n).reverse,(upTo n).reverse)
def j7(n:Nat)(R:List RP):Nat:=(R.takeWhile fun r=>decide (r=mh n)).length
def rP(n:Nat)(R:List RP):D:=.tup [.int (j7 n R),.lst ((R.drop (j7 n R)).map fun p=>D.lst (aA p.1))]
theorem y0{n:Nat}{R:List RP}{i:Nat}(h:∀j<i,R[j]?=some (mh n))(hs:R[i]?≠some (mh n)):j7 n R=i:=by
 induction R generalizing i with
 |nil=>
  cases i with
  |zero=>rfl
  |succ i=>have:=h 0 (by omega);simp at this
 |cons r R ih=>
  unfold j7
  cases i with
  |zero=>
   have hr:¬r=mh n:=fun e=>hs (by rw[e];rfl)
   rw[List.takeWhile_cons_of_neg (by simp[hr])]
   rfl
  |succ i=>
   have hr:r=mh n:=by have:=h 0 (by omega);simpa using this
   rw[List.takeWhile_cons_of_pos (by simp[hr]),length_cons]
   have:=ih (i:=i) (fun j hj=>by have:=h (j+1) (by omega);simpa using this) (by simpa using hs)
   unfold j7 at this
   rw[this]
theorem F3(n:Nat)(R:List RP)(p:RP):(fU n R p).length<=R.length+1:=by
 unfold fU
 split
 ·rw[List.length_dropLast,sP];omega
 ·rw[sP];omega
def uy(r:List Int):List Int:=(upTo r.length).map fun v=>((r.idxOf v:Nat):Int)
theorem o4{n:Nat}{r:List Int}(h:bp n r):Iv n r (uy r):=by
 obtain⟨s,iv⟩:=N9 h
 have e:uy r=s:=by
  refine bF (by unfold uy;rw[length_map,ar,iv.lr,iv.ls]) fun j hj=>?_
  have Ah:j<n:=by unfold uy at hj;rwa [length_map,ar,iv.lr]at hj
  have hg:(uy r)[j]?=some ((r.idxOf (j:Int):Nat):Int):=by
   unfold uy
   rw[getElem?_map,m7 _ j (by rw[iv.lr];exact Ah)]
   rfl
  rw[<-(iv.idx Ah).2]
  unfold aa
  rw[hg]
  rfl
 rw[e]
 exact iv
def fV(n:Nat)(rs:List (List Int)):List RP:=rs.foldl (fun R r=>fU n R (r,uy r)) []
theorem CZ{n:Nat}{rs:List (List Int)}{i:Nat}{r:List Int}(h:rs[i]?=some r):fV n (rs.take (i+1))=fU n (fV n (rs.take i)) (r,uy r):=by
 unfold fV
 rw[take_succ,h,foldl_append]
 rfl
theorem p4(n:Nat):∀(rs:List (List Int))(R:List RP),(rs.foldl (fun R r=>fU n R (r,uy r)) R).length<=R.length+rs.length
 |[],R=>Nat.le_refl _
 |r::rs,R=>by
  have h:=p4 n rs (fU n R (r,uy r))
  have h2:=F3 n R (r,uy r)
  rw[foldl_cons,length_cons]
  omega
def La(n:Nat)(p y:RP):Prop:=∀i j,i<j->j<n->aa y.2 j<aa y.2 i->aa p.1 i<aa p.1 j
def Lb(n:Nat)(w q x:RP):Prop:=∀t,t<n->aa w.2 t=aa x.2 (aa q.2 t).toNat
structure F4(n:Nat)(p0 q0 p q y:RP):Prop where
 iy:Iv n y.1 y.2
 pp:Lb n p p0 y
 pq:Lb n q0 y q
 ap:La n p0 y
 aq:La n y q
 pl:∀t,t<n->aa p.1 t=aa p0.1 (aa y.1 t).toNat
def sw(a t:Nat):Nat:=if t=a then a+1 else if t=a+1 then a else t
theorem F5{a t n:Nat}(ha:a+1<n)(ht:t<n):sw a t<n:=by
 unfold sw
 repeat' split
 all_goals omega
theorem RG(a:Nat){x:Int}(h:0<=x):sw a (sg a x).toNat=x.toNat:=by
 unfold sg sw
 repeat' split
 all_goals omega
theorem ly{l:List Int}{a:Nat}(h:a+1<l.length)(t:Nat):aa (fA l a) t=aa l (sw a t):=by
 rw[kG _ _ h]
 unfold sw
 repeat' split
 all_goals rfl
theorem F4.start {n:Nat}{p q:RP}(ip:Iv n p.1 p.2)(hi:Iv n (upTo n) (upTo n)):F4 n p q p q (upTo n,upTo n):=by
 have c:∀t,t<n->(aa (upTo n) t).toNat=t:=fun t ht=>by rw[aI ht];exact toNat_natCast t
 refine⟨hi,fun t ht=>?_,fun t ht=>?_,fun i j hij hj h=>?_,fun i j hij hj h=>?_,fun t ht=>?_⟩
 ·obtain⟨h1,h2,_⟩:=ip.sr t ht
  show _=aa (upTo n) (aa p.2 t).toNat
  rw[aI (by omega)]
  omega
 ·show _=aa q.2 (aa (upTo n) t).toNat
  rw[c t ht]
 ·dsimp only at h
  rw[aI hj,aI (by omega)]at h
  omega
 ·dsimp only
  rw[aI hj,aI (by omega)]
  omega
 ·show _=aa p.1 (aa (upTo n) t).toNat
  rw[c t ht]
theorem F4.step {n:Nat}{p0 q0 p q y:RP}(o:F4 n p0 q0 p q y)(RH:Iv n p0.1 p0.2)(ip:Iv n p.1 p.2)(iq:Iv n q.1 q.2){j:Nat}(hj:j+1<n)(hup:aa p.1 j<aa p.1 (j+1))(hdn:aa q.2 (j+1)<aa q.2 j):F4 n p0 q0 (yV p j) (zx q j) (yV y j):=by
 have iy:=o.iy
 refine⟨qZ iy hj,fun t ht=>?_,fun t ht=>?_,fun i i' Ys Am h=>?_,fun i i' Ys Am h=>?_,fun t ht=>?_⟩
 ·obtain⟨h1,h2,_⟩:=RH.sr t ht
  show aa (zw p.2 j) t=aa (zw y.2 j) (aa p0.2 t).toNat
  rw[dW (by rw[ip.ls];exact ht),dW (by rw[iy.ls];omega),o.pp t ht]
 ·obtain⟨h1,h2,_⟩:=iy.sr t ht
  show aa q0.2 t=aa (fA q.2 j) (aa (zw y.2 j) t).toNat
  rw[dW (by rw[iy.ls];exact ht),ly (by rw[iq.ls];exact hj),RG j h1,o.pq t ht]
 ·have h':aa (zw y.2 j) i'<aa (zw y.2 j) i:=h
  rw[dW (by rw[iy.ls];exact Am),dW (by rw[iy.ls];omega)]at h'
  by_cases hb:aa y.2 i'<aa y.2 i
  ·exact o.ap i i' Ys Am hb
  ·obtain⟨a1,a2,a3⟩:=iy.sr i (by omega)
   obtain⟨b1,b2,b3⟩:=iy.sr i' Am
   have hne:aa y.2 i≠aa y.2 i':=fun e=>by
    have:=iy.DB (v:=i) (w:=i') (by omega) Am e
    omega
   have hab:aa y.2 i=j/\aa y.2 i'=j+1:=by
    unfold sg at h'
    repeat' split at h'
    all_goals omega
   have e1:=o.pl j (by omega)
   have e2:=o.pl (j+1) hj
   rw[hab.1,toNat_natCast]at a3
   rw[hab.2,show((j:Int)+1).toNat=j+1 by omega]at b3
   rw[a3,toNat_natCast]at e1
   rw[b3,toNat_natCast]at e2
   omega
 ·have h':aa (fA q.2 j) i'<aa (fA q.2 j) i:=h
  show aa (fA y.1 j) i<aa (fA y.1 j) i'
  rw[ly (by rw[iq.ls];exact hj),ly (by rw[iq.ls];exact hj)]at h'
  rw[ly (by rw[iy.lr];exact hj),ly (by rw[iy.lr];exact hj)]
  by_cases hc:i=j/\i'=j+1
  ·obtain⟨rfl,rfl⟩:=hc
   unfold sw at h'
   rw[if_pos rfl,if_neg (by omega),if_pos rfl]at h'
   omega
  ·refine o.aq (sw j i) (sw j i') ?_ (F5 hj Am) h'
   unfold sw
   repeat' split
   all_goals omega
 ·obtain⟨h1,h2,_⟩:=iy.rs (sw j t) (F5 hj ht)
  show aa (fA p.1 j) t=aa p0.1 (aa (fA y.1 j) t).toNat
  rw[ly (by rw[ip.lr];exact hj),ly (by rw[iy.lr];exact hj),o.pl _ (F5 hj ht)]
theorem BG{n:Nat}{p0 q0:RP}(RH:Iv n p0.1 p0.2):∀(f:Nat)(p q y:RP),Iv n p.1 p.2->Iv n q.1 q.2->F4 n p0 q0 p q y->∃y',F4 n p0 q0 (fj f p q).1 (fj f p q).2 y'
 |0,p,q,y,_,_,o=>⟨y,o⟩
 |f+1,p,q,y,ip,iq,o=>by
  cases h:(mf p q).getLast? with
  |none=>rw[nc _ h];exact⟨y,o⟩
  |some k=>
   obtain⟨j,rfl,hj,h1,h2⟩:=nT ip iq (mem_of_getLast? h)
   rw[m9 f h,show((j:Int)+1-1).toNat=j by omega]
   exact BG RH f _ _ _ (qZ ip hj) (q8 iq hj) (o.step RH ip iq hj h1 h2)
theorem BH{n:Nat}(hn:n<=7):∀(f:Nat)(p q:RP),Iv n p.1 p.2->Iv n q.1 q.2->49<f+dM p.1->mf (fj f p q).1 (fj f p q).2=[]
 |0,p,q,ip,iq,h=>by have:=qY hn ip;omega
 |f+1,p,q,ip,iq,h=>by
  cases hk:(mf p q).getLast? with
  |none=>
   rw[nc _ hk]
   exact List.getLast?_eq_none_iff.mp hk
  |some k=>
   obtain⟨j,rfl,hj,h1,h2⟩:=nT ip iq (mem_of_getLast? hk)
   rw[m9 f hk,show((j:Int)+1-1).toNat=j by omega]
   have:=FY ip hj h1
   exact BH hn f _ _ (qZ ip hj) (q8 iq hj) (by omega)
theorem Lb.calm {n:Nat}{w q x:RP}(hp:Lb n w q x)(iq:Iv n q.1 q.2)(ix:Iv n x.1 x.2)(ad:La n q x){i j:Nat}(hij:i<=j)(hj:j<n)(h:aa w.2 i<=aa w.2 j):aa q.2 i<=aa q.2 j:=by
 refine byContradiction fun hc=>?_
 obtain⟨a1,a2,a3⟩:=iq.sr i (by omega)
 obtain⟨b1,b2,b3⟩:=iq.sr j hj
 rw[hp i (by omega),hp j hj]at h
 have hne:(aa q.2 j).toNat<(aa q.2 i).toNat:=by omega
 have hx:aa x.2 (aa q.2 i).toNat≠aa x.2 (aa q.2 j).toNat:=fun e=>by
  have:=ix.DB (v:=(aa q.2 i).toNat) (w:=(aa q.2 j).toNat) (by omega) (by omega) e
  omega
 have:=ad (aa q.2 j).toNat (aa q.2 i).toNat hne (by omega) (by omega)
 rw[a3,b3]at this
 omega
theorem kH{p q:RP}{n:Nat}(ip:Iv n p.1 p.2)(iq:Iv n q.1 q.2):mf p q=[]↔∀j,j+1<n->aa q.2 (j+1)<aa q.2 j->aa p.1 (j+1)<aa p.1 j:=by
 constructor
 ·intro h j hj hd
  refine byContradiction fun hc=>?_
  have hm:((j:Int)+1)∈mf p q:=by
   unfold mf
   rw[mem_filter]
   refine⟨pY.mpr ⟨j,rfl,by rw[iq.ls];exact hj,hd⟩,?_⟩
   have:((j:Int)+1)∉xR p.1:=fun z=>by
    obtain⟨a,e,_,h2⟩:=pY.mp z
    have:a=j:=by omega
    subst this
    exact hc h2
   rw[decide_eq_false this]
   rfl
  rw[h]at hm
  cases hm
 ·intro h
  cases e:mf p q with
  |nil=>rfl
  |cons k t=>
   obtain⟨j,_,hj,h1,h2⟩:=nT ip iq (k:=k) (by rw[e];exact mem_cons_self)
   have:=h j hj h2
   omega
theorem switch(f:Nat->Bool):∀(d u:Nat),f u=false->f (u+d)=true->∃i,u<=i/\i<u+d/\f i=false/\f (i+1)=true
 |0,u,h1,h2=>by rw[Nat.add_zero,h1]at h2;cases h2
 |d+1,u,h1,h2=>by
  cases h:f (u+d)with
  |true=>
   obtain⟨i,a,b,c,e⟩:=switch f d u h1 h
   exact⟨i,a,by omega,c,e⟩
  |false=>exact⟨u+d,by omega,by omega,h,h2⟩
theorem Om{n:Nat}{r q x s' w y w2 s:RP}(ir:Iv n r.1 r.2)(iq:Iv n q.1 q.2)(ix:Iv n x.1 x.2)(Yt:Iv n s'.1 s'.2)(iw:Iv n w.1 w.2)(iy:Iv n y.1 y.2)(Jl:Iv n w2.1 w2.2)
  (hrq:mf r q=[])(hws:mf w s'=[])(hw:Lb n w q x)(Yu:La n q x)(axs:La n x s')(Lc:Lb n w y w2)(Yv:La n y w2)(ary:La n r y):mf w2 s'=[]:=by
 refine(kH Jl Yt).mpr fun j hj hd=>byContradiction fun hc=>?_
 have hstop:=(kH iw Yt).mp hws j hj hd
 obtain⟨v0,v1,v2⟩:=iw.rs j (by omega)
 obtain⟨u0,u1,u2⟩:=iw.rs (j+1) hj
 generalize hv:(aa w.1 j).toNat=v at*
 generalize hu:(aa w.1 (j+1)).toNat=u at*
 have huv:u<v:=by omega
 have hy:aa y.2 v<aa y.2 u:=by
  refine byContradiction fun hz=>?_
  obtain⟨a1,a2,a3⟩:=iy.sr u (by omega)
  obtain⟨b1,b2,b3⟩:=iy.sr v (by omega)
  have e1:=Lc u (by omega)
  have e2:=Lc v (by omega)
  rw[u2]at e1
  rw[v2]at e2
  obtain⟨c1,c2,c3⟩:=Jl.sr (aa y.2 u).toNat (by omega)
  obtain⟨d1,d2,d3⟩:=Jl.sr (aa y.2 v).toNat (by omega)
  rw[<-e1,show(((j+1:Nat):Int)).toNat=j+1 by omega]at c3
  rw[<-e2,toNat_natCast]at d3
  have hne:aa y.2 u≠aa y.2 v:=fun e=>by
   have:=iy.DB (v:=u) (w:=v) (by omega) (by omega) e
   omega
  omega
 have hq:aa q.2 v<aa q.2 u:=by
  refine byContradiction fun hz=>?_
  obtain⟨a1,a2,a3⟩:=iq.sr u (by omega)
  obtain⟨b1,b2,b3⟩:=iq.sr v (by omega)
  have e1:=hw u (by omega)
  have e2:=hw v (by omega)
  rw[u2]at e1
  rw[v2]at e2
  have:=axs j (j+1) (by omega) hj hd
  obtain⟨c1,c2,c3⟩:=ix.sr (aa q.2 u).toNat (by omega)
  obtain⟨d1,d2,d3⟩:=ix.sr (aa q.2 v).toNat (by omega)
  rw[<-e1,show(((j+1:Nat):Int)).toNat=j+1 by omega]at c3
  rw[<-e2,toNat_natCast]at d3
  have hne:aa q.2 u≠aa q.2 v:=fun e=>by
   have:=iq.DB (v:=u) (w:=v) (by omega) (by omega) e
   omega
  omega
 obtain⟨i,i1,i2,i3,i4⟩:=switch (fun t=>decide (aa w.2 t<=j)) (v-u) u (by rw[decide_eq_false];omega) (by rw[show u+(v-u)=v by omega,decide_eq_true];omega)
 have i3':=of_decide_eq_false i3
 have i4':=of_decide_eq_true i4
 have y1:=Lc.calm iy Jl Yv (i:=u) (j:=i) i1 (by omega) (by omega)
 have y2:=Lc.calm iy Jl Yv (i:=i+1) (j:=v) (by omega) (by omega) (by omega)
 have q1:=hw.calm iq ix Yu (i:=u) (j:=i) i1 (by omega) (by omega)
 have q2:=hw.calm iq ix Yu (i:=i+1) (j:=v) (by omega) (by omega) (by omega)
 have hr:=(kH ir iq).mp hrq i (by omega) (by omega)
 have:=ary i (i+1) (by omega) (by omega) (by omega)
 omega
def y4:List RP->Prop
 |q::p::ps=>mf p q=[]/\y4 (p::ps)
 |_=>True
def xq(n:Nat)(R:List RP):Prop:=∀x∈R,Iv n x.1 x.2
theorem y4.tail {q:RP}{R:List RP}(h:y4 (q::R)):y4 R:=by
 cases R with
 |nil=>trivial
 |cons p ps=>exact h.2
structure Oo(n:Nat)(p c p' c':RP):Prop where
 ip:Iv n p'.1 p'.2
 ic:Iv n c'.1 c'.2
 fr:mf p' c'=[]
 ex:∃y,F4 n p c p' c' y
theorem iW{n:Nat}(hn:n<=7){p c:RP}(ip:Iv n p.1 p.2)(ic:Iv n c.1 c.2)(hi:Iv n (upTo n) (upTo n)):Oo n p c (fj 50 p c).1 (fj 50 p c).2:=
 ⟨(gw.xp 50 ip ic).1,(gw.xp 50 ip ic).2,BH hn 50 p c ip ic (by omega),BG ip 50 p c _ ip ic (F4.start ip hi)⟩
theorem Oo.none {n:Nat}{p c p' c':RP}(s:Oo n p c p' c')(ic:Iv n c.1 c.2)(ip:Iv n p.1 p.2)(e:p'=p):c'=c:=by
 obtain⟨y,o⟩:=s.ex
 subst e
 have hy:∀t,t<n->aa y.2 t=t:=fun t ht=>by
  have h1:=ip.rs t ht
  have:=o.pp (aa p'.1 t).toNat (by omega)
  rw[h1.2.2,toNat_natCast]at this
  exact this.symm
 refine Bw (n:=n) s.ic ic ?_
 refine Iv.uniq (n:=n) (s:=c.2) ?_ ic
 have:c'.2=c.2:=bF (by rw[s.ic.ls,ic.ls]) fun t ht=>by
  rw[s.ic.ls]at ht
  rw[o.pq t ht,hy t ht,toNat_natCast]
 rw[<-this]
 exact s.ic
theorem F6{n:Nat}(hn:n<=7)(hi:Iv n (upTo n) (upTo n)):∀(ps:List RP)(p c:RP),xq n (p::ps)->Iv n c.1 c.2->y4 (p::ps)->y4 ((fj 50 p c).2::ux ps (fj 50 p c).1)
 |[],p,c,hI,ic,_=>by
  have s:=iW hn (hI p (by simp)) ic hi
  exact⟨s.fr,trivial⟩
 |r::ps,p,c,hI,ic,hL=>by
  have ip:=hI p (by simp)
  have ir:=hI r (by simp)
  have s:=iW hn ip ic hi
  have s2:=iW hn ir s.ip hi
  unfold ux
  by_cases e:(fj 50 r (fj 50 p c).1).1=r
  ·rw[if_pos e]
   have e2:=s2.none s.ip ir e
   have f2:=s2.fr
   rw[e,e2]at f2
   exact⟨s.fr,f2,hL.2⟩
  ·rw[if_neg e]
   refine⟨?_,F6 hn hi ps r _ (fun x hx=>hI x (mem_cons_of_mem _ hx)) s.ip hL.2⟩
   obtain⟨x,o⟩:=s.ex
   obtain⟨y,o2⟩:=s2.ex
   exact Om (s:=c) ir ip o.iy s.ic s.ip o2.iy s2.ic hL.1 s.fr o.pp o.ap o.aq o2.pq o2.aq o2.ap
theorem Oq{n:Nat}(hn:n<=7)(hi:Iv n (upTo n) (upTo n)){R:List RP}{c:RP}(hI:xq n R)(ic:Iv n c.1 c.2)(hL:y4 R.reverse):y4 (ux R.reverse c):=by
 cases h:R.reverse with
 |nil=>exact trivial
 |cons p ps=>
  rw[h]at hL
  have Ot:xq n (p::ps):=fun x hx=>hI x (by rw[<-mem_reverse,h];exact hx)
  have s:=iW hn (Ot p (by simp)) ic hi
  unfold ux
  by_cases e:(fj 50 p c).1=p
  ·rw[if_pos e]
   have e2:=s.none ic (Ot p (by simp)) e
   have f:=s.fr
   rw[e,e2]at f
   exact⟨f,hL⟩
  ·rw[if_neg e]
   exact F6 hn hi ps p c Ot ic hL
def Ld(n:Nat)(p:RP):Prop:=∃a,a+1<n/\aa p.2 (a+1)<aa p.2 a
theorem BI{n:Nat}{p:RP}(ip:Iv n p.1 p.2)(hi:Iv n (upTo n) (upTo n))(h:¬Ld n p):p=(upTo n,upTo n):=
 Bw (n:=n) ip hi (Jf ip fun a ha hd=>h ⟨a,ha,hd⟩)
theorem Ou{n:Nat}{p:RP}(h:Ld n p):p≠(upTo n,upTo n):=fun e=>by
 obtain⟨a,ha,hd⟩:=h
 rw[e]at hd
 dsimp only at hd
 rw[aI ha,aI (by omega)]at hd
 omega
theorem Lb.Yw {n:Nat}{w q x:RP}(hp:Lb n w q x)(iq:Iv n q.1 q.2)(ix:Iv n x.1 x.2)(ad:La n q x){a:Nat}(ha:a+1<n)(h:aa q.2 (a+1)<aa q.2 a):aa w.2 (a+1)<aa w.2 a:=by
 refine byContradiction fun hc=>?_
 have:=hp.calm iq ix ad (i:=a) (j:=a+1) (by omega) ha (by omega)
 omega
theorem F7{n:Nat}(hn:n<=7)(hi:Iv n (upTo n) (upTo n)):∀(ps:List RP)(p c:RP),xq n (p::ps)->Iv n c.1 c.2->y4 (p::ps)->(∀x∈p::ps,Ld n x)->∀x∈ux ps (fj 50 p c).1,Ld n x
 |[],p,c,hI,ic,_,hN,x,hx=>by
  have s:=iW hn (hI p (by simp)) ic hi
  obtain⟨y,o⟩:=s.ex
  obtain⟨a,ha,hd⟩:=hN p (by simp)
  rw[mem_singleton.mp hx]
  exact⟨a,ha,o.pp.Yw (hI p (by simp)) o.iy o.ap ha hd⟩
 |r::ps,p,c,hI,ic,hL,hN,x,hx=>by
  have ip:=hI p (by simp)
  have ir:=hI r (by simp)
  have s:=iW hn ip ic hi
  have s2:=iW hn ir s.ip hi
  obtain⟨z,o⟩:=s.ex
  obtain⟨y,o2⟩:=s2.ex
  obtain⟨a,ha,hd⟩:=hN p (by simp)
  have Ht:=o.pp.Yw ip o.iy o.ap ha hd
  unfold ux at hx
  by_cases e:(fj 50 r (fj 50 p c).1).1=r
  ·rw[if_pos e]at hx
   rcases mem_cons.mp hx with rfl|hx
   ·exact⟨a,ha,Ht⟩
   ·exact hN x (mem_cons_of_mem _ hx)
  ·rw[if_neg e]at hx
   rcases mem_cons.mp hx with rfl|hx
   ·refine byContradiction fun hc=>?_
    have e2:=BI s2.ic hi hc
    have hy:∀t,t<n->aa (fj 50 p c).1.2 t=aa y.2 t:=fun t ht=>by
     have h1:=o2.iy.sr t ht
     have:=o2.pq t ht
     rw[e2]at this
     dsimp only at this
     rw[aI (by omega)]at this
     omega
    rw[hy _ ha,hy _ (by omega)]at Ht
    have h1:=o2.ap a (a+1) (by omega) ha Ht
    have h2:=(kH ir ip).mp hL.1 a ha hd
    omega
   ·exact F7 hn hi ps r _ (fun x hx=>hI x (mem_cons_of_mem _ hx)) s.ip hL.2 (fun x hx=>hN x (mem_cons_of_mem _ hx)) x hx
structure An(n:Nat)(R:List RP):Prop where
 iv:xq n R
 lw:y4 R.reverse
 ns:∀x∈R,Ld n x
theorem xr{n:Nat}:∀(R:List RP)(p:RP),(∀x∈R,Iv n x.1 x.2)->Iv n p.1 p.2->∀x∈ux R p,Iv n x.1 x.2
 |[],p,_,hp,x,hx=>by rw[mem_singleton.mp hx];exact hp
 |r::R,p,hR,hp,x,hx=>by
  obtain⟨i1,i2⟩:=gw.xp 50 (hR r (by simp)) hp
  unfold ux at hx
  split at hx
  ·rcases mem_cons.mp hx with rfl|hx
   ·exact hp
   ·exact hR x hx
  ·rcases mem_cons.mp hx with rfl|hx
   ·exact i2
   ·exact xr R _ (fun y hy=>hR y (by simp[hy])) i1 x hx
theorem F8{n:Nat}(hn:n<=7)(hi:Iv n (upTo n) (upTo n)){R:List RP}{c:RP}(h:An n R)(ic:Iv n c.1 c.2):∃d T,ux R.reverse c=d::T/\∀x∈T,Ld n x:=by
 cases hr:R.reverse with
 |nil=>exact⟨c,[],rfl,fun x hx=>nomatch hx⟩
 |cons p ps=>
  have Ot:xq n (p::ps):=fun x hx=>h.iv x (by rw[<-mem_reverse,hr];exact hx)
  have Yx:∀x∈p::ps,Ld n x:=fun x hx=>h.ns x (by rw[<-mem_reverse,hr];exact hx)
  have hL:=h.lw
  rw[hr]at hL
  unfold ux
  by_cases e:(fj 50 p c).1=p
  ·rw[if_pos e]
   exact⟨c,p::ps,rfl,Yx⟩
  ·rw[if_neg e]
   exact⟨_,_,rfl,F7 hn hi ps p c Ot ic hL Yx⟩
theorem F9{n:Nat}(hn:n<=7)(hi:Iv n (upTo n) (upTo n)){R:List RP}{c:RP}(h:An n R)(ic:Iv n c.1 c.2):An n (fU n R c):=by
 have Wl:=Oq hn hi h.iv ic h.lw
 have Pr:=xr R.reverse c (fun x hx=>h.iv x (by simpa using hx)) ic
 obtain⟨d,T,e,hT⟩:=F8 hn hi h ic
 have RJ:(sO R c).getLast?=some d:=by unfold sO;rw[e];simp
 have RK:(sO R c).dropLast=T.reverse:=by unfold sO;rw[e];simp
 unfold fU
 rw[RJ]
 by_cases hd:some d=some (upTo n,upTo n)
 ·rw[if_pos hd,RK]
  rw[e]at Wl Pr
  exact⟨fun x hx=>Pr x (mem_cons_of_mem _ (by simpa using hx)),by rw[reverse_reverse];exact Wl.tail,fun x hx=>hT x (by simpa using hx)⟩
 ·rw[if_neg hd]
  unfold sO
  refine⟨fun x hx=>Pr x (by simpa using hx),by rw[reverse_reverse];exact Wl,fun x hx=>?_⟩
  rw[mem_reverse,e]at hx
  rcases mem_cons.mp hx with rfl|hx
  ·refine byContradiction fun hc=>hd ?_
   rw[BI (Pr x (by rw[e];exact mem_cons_self)) hi hc]
  ·exact hT x hx
theorem BJ{n:Nat}(hn:n<=7)(hi:Iv n (upTo n) (upTo n)):∀(rs:List (List Int))(R:List RP),(∀r∈rs,bp n r)->An n R->An n (rs.foldl (fun R r=>fU n R (r,uy r)) R)
 |[],R,_,h=>h
 |r::rs,R,hr,h=>BJ hn hi rs _ (fun x hx=>hr x (by simp[hx])) (F9 hn hi h (o4 (hr r (by simp))))
theorem C0{n:Nat}{r s:List Int}(h:Iv n r s)(hd:∀j,j+1<n->aa r (j+1)<aa r j):r=(upTo n).reverse:=by
 have up:∀j,j<n->aa r j<=(n:Int)-1-j:=fun j=>by
  induction j with
  |zero=>intro h0;have:=(h.rs 0 h0).2.1;omega
  |succ j ih=>intro hj;have:=ih (by omega);have:=hd j hj;omega
 have dn:∀d j,j+d+1=n->(d:Int)<=aa r j:=fun d=>by
  induction d with
  |zero=>intro j hj;exact(h.rs j (by omega)).1
  |succ d ih=>intro j hj;have:=ih (j+1) (by omega);have:=hd j (by omega);omega
 refine bF (by rw[h.lr,length_reverse,ar]) fun j hj=>?_
 rw[h.lr]at hj
 have h1:=up j hj
 have h2:=dn (n-1-j) j (by omega)
 have h3:aa (upTo n).reverse j=((n-1-j:Nat):Int):=by
  unfold aa
  rw[getElem?_reverse (by rw[ar];exact hj),ar,m7 n _ (by omega)]
  rfl
 omega
theorem Ao{n:Nat}{p:RP}(ip:Iv n p.1 p.2)(hh:Iv n (mh n).1 (mh n).2)(h:mf p (mh n)=[]):p=mh n:=by
 refine Bw (n:=n) ip hh (C0 ip fun j hj=>(kH ip hh).mp h j hj ?_)
 have c:∀p,p<n->aa (upTo n).reverse p=((n-1-p:Nat):Int):=fun p hp=>by
  unfold aa
  rw[getElem?_reverse (by rw[ar];exact hp),ar,m7 n _ (by omega)]
  rfl
 show aa (upTo n).reverse (j+1)<aa (upTo n).reverse j
 rw[c _ hj,c _ (by omega)]
 omega
theorem y4.at_:∀{l A B:List RP}{p q:RP},y4 l->l=A++q::p::B->mf p q=[]
 |_,[],B,p,q,h,e=>by rw[e]at h;exact h.1
 |l,a::A,B,p,q,h,e=>by
  rw[e,cons_append]at h
  exact y4.at_ h.tail rfl
theorem An.nb {n:Nat}{R A B:List RP}{p q:RP}(h:An n R)(e:R=A++p::q::B):mf p q=[]:=
 h.lw.at_ (A:=B.reverse) (B:=A.reverse) (by rw[e];simp)
theorem BK{n:Nat}(hh:Iv n (mh n).1 (mh n).2){R:List RP}(h:An n R):∀(B A:List RP)(p:RP),R=A++p::B->p≠mh n->∀x∈p::B,x≠mh n
 |[],A,p,e,hp,x,hx=>by rw[mem_singleton.mp hx];exact hp
 |q::B,A,p,e,hp,x,hx=>by
  have ip:=h.iv p (by rw[e];simp)
  have hq:q≠mh n:=fun z=>by
   have:=h.nb e
   rw[z]at this
   exact hp (Ao ip hh this)
  rcases mem_cons.mp hx with rfl|hx
  ·exact hp
  ·exact BK hh h B (A++[p]) q (by rw[e];simp) hq x hx
theorem y6{n:Nat}(R:List RP):R=replicate (j7 n R) (mh n)++R.drop (j7 n R):=by
 unfold j7
 induction R with
 |nil=>rfl
 |cons p R ih=>
  by_cases h:p=mh n
  ·rw[List.takeWhile_cons_of_pos (by simpa using h),length_cons,replicate_succ,List.drop_succ_cons,cons_append,<-ih,h]
  ·rw[List.takeWhile_cons_of_neg (by simpa using h)]
   rfl
theorem Ga{n:Nat}(R:List RP):∀p B,R.drop (j7 n R)=p::B->p≠mh n:=by
 unfold j7
 induction R with
 |nil=>intro p B h;cases h
 |cons q R ih=>
  intro p B h
  by_cases hq:q=mh n
  ·rw[List.takeWhile_cons_of_pos (by simpa using hq),length_cons,List.drop_succ_cons]at h
   exact ih p B h
  ·rw[List.takeWhile_cons_of_neg (by simpa using hq)]at h
   have:q=p:=(List.cons.inj h).1
   rw[<-this];exact hq
theorem C1{n:Nat}(hh:Iv n (mh n).1 (mh n).2){R:List RP}(h:An n R):∀x∈R.drop (j7 n R),x≠mh n:=fun x hx=>by
 cases e:R.drop (j7 n R)with
 |nil=>rw[e]at hx;cases hx
 |cons p B=>
  rw[e]at hx
  exact BK hh h B (replicate (j7 n R) (mh n)) p (by rw[<-e];exact y6 R) (Ga R p B e) x hx
def cmp(o r:List Int):List Int:=r.map fun s=>aa o s.toNat
def sS(o:List Int)(R:List (List Int)):List Int:=R.foldl cmp o
def iF(R:List (List Int)):Nat:=(R.map dM).sum
theorem cG{o r:List Int}{t:Nat}(h:t<r.length):aa (cmp o r) t=aa o (aa r t).toNat:=by
 unfold cmp
 have:=cF h
 unfold aa at this⊢
 rw[getElem?_map,this]
 rfl
theorem lA(o:List Int)(a b:List (List Int)):sS o (a++b)=sS (sS o a) b:=foldl_append
theorem p6(a b:List (List Int)):iF (a++b)=iF a+iF b:=by unfold iF;rw[map_append,sum_append]
theorem BL{n:Nat}{o r q s:List Int}(iq:Iv n q s)(hr:r.length=n):cmp (cmp o r) q=cmp o (cmp r q):=by
 refine bF (by unfold cmp;simp) fun t ht=>?_
 have zW:t<q.length:=by unfold cmp at ht;simpa using ht
 have h1:=iq.rs t (by rw[<-iq.lr];exact zW)
 rw[cG zW,cG (by rw[hr];omega),cG (by unfold cmp;simpa using zW),cG zW]
theorem F4.prd {n:Nat}{p0 q0 p q y:RP}(o:F4 n p0 q0 p q y)(Tp:Iv n q0.1 q0.2)(RH:Iv n p0.1 p0.2)(ip:Iv n p.1 p.2)(iq:Iv n q.1 q.2):cmp p.1 q.1=cmp p0.1 q0.1:=by
 refine bF (by unfold cmp;simp[iq.lr,Tp.lr]) fun t ht=>?_
 have zW:t<n:=by unfold cmp at ht;rw[length_map,iq.lr]at ht;exact ht
 rw[cG (by rw[iq.lr];exact zW),cG (by rw[Tp.lr];exact zW)]
 obtain⟨a1,a2,a3⟩:=iq.rs t zW
 obtain⟨b1,b2,b3⟩:=Tp.rs t zW
 obtain⟨c1,c2,c3⟩:=o.iy.rs (aa q.1 t).toNat (by omega)
 rw[o.pl _ (by omega)]
 have h1:=o.pq (aa y.1 (aa q.1 t).toNat).toNat (by omega)
 rw[c3,toNat_natCast,a3]at h1
 have:=Tp.DB (v:=(aa y.1 (aa q.1 t).toNat).toNat) (w:=(aa q0.1 t).toNat) (by omega) (by omega) (by rw[h1,b3])
 rw[this]
theorem Gb{n:Nat}{o s:List Int}(h:Iv n o s){a:Nat}(ha:a+1<n):(aa o a<aa o (a+1)->dM (fA o a)=dM o+1)/\(aa o (a+1)<aa o a->dM (fA o a)+1=dM o):=by
 have e:=sM o a [] (by rw[h.lr];exact ha)
 unfold dM
 constructor
 ·intro c
  rw[if_neg (by omega),if_pos c]at e
  omega
 ·intro c
  rw[if_pos c,if_neg (by omega)]at e
  omega
theorem BN{n:Nat}:∀(f:Nat)(p q:RP),Iv n p.1 p.2->Iv n q.1 q.2->dM (fj f p q).1.1+dM (fj f p q).2.1=dM p.1+dM q.1
 |0,p,q,_,_=>rfl
 |f+1,p,q,ip,iq=>by
  cases h:(mf p q).getLast? with
  |none=>rw[nc _ h]
  |some k=>
   obtain⟨j,rfl,hj,h1,h2⟩:=nT ip iq (mem_of_getLast? h)
   rw[m9 f h,show((j:Int)+1-1).toNat=j by omega,BN f _ _ (qZ ip hj) (q8 iq hj)]
   have e1:=(Gb ip hj).1 h1
   have e2:=(Gb iq.symm hj).2 h2
   have e3:=Ak iq
   have e4:=Ak (q8 iq hj)
   show dM (fA p.1 j)+dM (zx q j).1=_
   have e5:dM (zx q j).2=dM (fA q.2 j):=rfl
   omega
theorem Gd{n:Nat}(hn:n<=7)(hi:Iv n (upTo n) (upTo n)){p c:RP}(ip:Iv n p.1 p.2)(ic:Iv n c.1 c.2):cmp (fj 50 p c).1.1 (fj 50 p c).2.1=cmp p.1 c.1:=by
 have s:=iW hn ip ic hi
 obtain⟨y,o⟩:=s.ex
 exact o.prd ic ip s.ip s.ic
def fwd(R:List RP):List (List Int):=(R.reverse).map (·.1)
theorem kI(p:RP)(R:List RP):fwd (p::R)=fwd R++[p.1]:=by unfold fwd;simp
theorem BO{n:Nat}(hn:n<=7)(hi:Iv n (upTo n) (upTo n)):∀(R:List RP)(c:RP),xq n R->Iv n c.1 c.2->(∀o,sS o (fwd (ux R c))=sS o (fwd R++[c.1]))/\iF (fwd (ux R c))=iF (fwd R)+dM c.1
 |[],c,_,_=>⟨fun o=>rfl,by unfold ux iF fwd;simp⟩
 |p::ps,c,hI,ic=>by
  have ip:=hI p (by simp)
  have s:=iW hn ip ic hi
  unfold ux
  by_cases e:(fj 50 p c).1=p
  ·rw[if_pos e]
   exact⟨fun o=>by rw[kI],by rw[kI,p6];simp[iF]⟩
  ·rw[if_neg e]
   obtain⟨h1,h2⟩:=BO hn hi ps (fj 50 p c).1 (fun x hx=>hI x (by simp[hx])) s.ip
   refine⟨fun o=>?_,?_⟩
   ·rw[kI,lA,h1 o,kI,List.append_assoc,lA,lA]
    show cmp (cmp (sS o (fwd ps)) (fj 50 p c).1.1) (fj 50 p c).2.1=cmp (cmp (sS o (fwd ps)) p.1) c.1
    rw[BL s.ic s.ip.lr,Gd hn hi ip ic,<-BL ic ip.lr]
   ·rw[kI,p6,h2,kI,p6]
    have:=BN 50 p c ip ic
    have e1:∀r:List Int,iF [r]=dM r:=fun r=>by simp[iF]
    rw[e1,e1]
    omega
theorem Jm{n:Nat}(hn:n<=7)(hi:Iv n (upTo n) (upTo n))(c0:dM (upTo n)=0){R:List RP}{c:RP}(hI:xq n R)(ic:Iv n c.1 c.2):(∀o:List Int,o.length=n->sS o ((fU n R c).map (·.1))=sS o (R.map (·.1)++[c.1]))/\iF ((fU n R c).map (·.1))=iF (R.map (·.1))+dM c.1:=by
 have Ot:xq n R.reverse:=fun x hx=>hI x (by simpa using hx)
 obtain⟨h1,h2⟩:=BO hn hi R.reverse c Ot ic
 have ef:fwd (ux R.reverse c)=(sO R c).map (·.1):=rfl
 have er:fwd R.reverse=R.map (·.1):=by unfold fwd;rw[reverse_reverse]
 rw[ef,er]at h2
 unfold fU
 by_cases hd:(sO R c).getLast?=some (upTo n,upTo n)
 ·rw[if_pos hd]
  have hne:sO R c≠[]:=fun z=>by rw[z]at hd;cases hd
  have wI:(sO R c).dropLast++[(upTo n,upTo n)]=sO R c:=by
   have:=List.dropLast_concat_getLast hne
   rw[List.getLast?_eq_some_getLast hne]at hd
   rw[Option.some.inj hd]at this
   exact this
  rw[<-wI,map_append,p6]at h2
  have e1:iF ([((upTo n,upTo n):RP)].map (·.1))=0:=by simp[iF,c0]
  rw[e1]at h2
  refine⟨fun o ho=>?_,h2⟩
  have h3:=h1 o
  rw[ef,er,<-wI,map_append,lA]at h3
  rw[<-h3]
  show _=cmp (sS o ((sO R c).dropLast.map (·.1))) (upTo n)
  have hl:(sS o ((sO R c).dropLast.map (·.1))).length=n:=by
   have Pr:=xr R.reverse c (fun x hx=>hI x (by simpa using hx)) ic
   have ha:∀x∈(sO R c).dropLast,x.1.length=n:=fun x hx=>by
    rw[dropLast_eq_take]at hx
    have:=mem_of_mem_take hx
    unfold sO at this
    exact(Pr x (by simpa using this)).lr
   generalize (sO R c).dropLast=Z at ha
   clear wI h3 h2 h1
   induction Z generalizing o with
   |nil=>exact ho
   |cons z Z ih=>
    refine ih (cmp o z.1) ?_ fun x hx=>ha x (by simp[hx])
    unfold cmp
    rw[length_map]
    exact ha z (by simp)
  refine bF (by unfold cmp;rw[length_map,hl,ar]) fun t ht=>?_
  rw[hl]at ht
  rw[cG (by rw[ar];exact ht),aI ht,toNat_natCast]
 ·rw[if_neg hd]
  exact⟨fun o _=>by have:=h1 o;rw[ef,er]at this;exact this,h2⟩
def tCI(K:PySem.W.Frag)(caps:List Nat)(tl te:TE):TE:=fun σ H Q=>DN K tl σ H fun J H1=>∃(l:Addr)(xs vs:List V),J=L8 K l/\bW K H1 l xs/\vs.length=caps.length/\(∀(j i:Nat)(v:V),caps[j]?=some i->vs[j]?=some v->σ[i]?=some (some v))/\
 ∀Dd,H1 Dd=none->∃Pv:Nat->List V->Hp->Prop,Pv 0 [] (upd H1 Dd (.lst []))/\(∀i acc Hx,Pv i acc Hx->bW K Hx l xs/\Hx Dd=some (.lst acc))/\
  (∀i acc Hx x,Pv i acc Hx->xs[i]?=some x->te (some x::vs.map some) Hx fun v H2=>H2 Dd=some (.lst acc)/\acc.length<sizeLine/\Pv (i+1) (acc++[v]) (upd H2 Dd (.lst (acc++[v]))))/\∀acc Hx,Pv xs.length acc Hx->Q (.ref Dd) Hx
section
variable{X:Cx}{pos:Pos}{scope:Scope}{N:List Str}{caps:List Nat}
theorem Ge{elt tg iter:Expr}{tl te:TE}(S:gO X scope N 1 caps)(pH:X.calm=true)(hi:PI X tg iter (DN X.K tl))(hg:∀s H fp C pl,PG (qK X scope N s H fp C pl) tg (DI 0))(he:∀s H fp C pl,PE (qK X scope N s H fp C pl) elt te)
  (hs:∀x,foldedSetIterable iter X.env x=pure x:=by intro _;rfl):PE X (.ListComp elt [⟨tg,iter,[],0⟩] scope pos) (tCI X.K caps tl te):=by
 intro pins s σ H Q I h
 rw[eval_ListComp]
 refine wpAny_comprehension_free (use:=none) rfl hs (j5 (S.cells I)) S.kind S.names ?_
 refine bz (hi pins s σ H (fun J H1=>∃(l:Addr)(xs vs:List V),J=L8 X.K l/\bW X.K H1 l xs/\vs.length=caps.length/\(∀(j i:Nat)(v:V),caps[j]?=some i->vs[j]?=some v->σ[i]?=some (some v))/\
  ∀Dd,H1 Dd=none->∃Pv:Nat->List V->Hp->Prop,Pv 0 [] (upd H1 Dd (.lst []))/\(∀i acc Hx,Pv i acc Hx->bW X.K Hx l xs/\Hx Dd=some (.lst acc))/\
   (∀i acc Hx x,Pv i acc Hx->xs[i]?=some x->te (some x::vs.map some) Hx fun v H2=>H2 Dd=some (.lst acc)/\acc.length<sizeLine/\Pv (i+1) (acc++[v]) (upd H2 Dd (.lst (acc++[v]))))/\∀acc Hx,Pv xs.length acc Hx->Q (.ref Dd) Hx) I ?_) fun v s1 h1=>bz h1 fun itv s2 h2=>?_
 ·exact h
 obtain⟨it,fp,tn,J,H2,rfl,I2,T,x6,f2,l,xs,vs,rfl,hq,MJ,hvs,hinv⟩:=h2
 refine wpAny_newObj_type (wpAny_newFunctionEnv S.cell (by intro y hy;simp at hy) (fun h₁ zV hsb₁=>?_) S.kind)
 dsimp only at zV hsb₁⊢
 have CL:H2 s2.heap.objs.size=none:=I2.hok.fresh (Nat.le_refl _)
 have I3:Inv X pins σ (upd H2 s2.heap.objs.size (.lst [])) {s2 with heap:=s2.heap.push {cls:=.type "list",dict:=none,data:=.seq ([]:List Value).toArray}}:=
  I2.laid (t':=s2.toks) (fun b u e=>Heap.get?_push_of_some _ e) (Nat.le_refl _) ⟨zero_le _,[],0,.nil,Heap.get?_push_size _ rfl⟩
 generalize J1:({s2 with heap:=s2.heap.push {cls:=.type "list",dict:=none,data:=.seq ([]:List Value).toArray}}:Shared)=s3 at I3
 have Em:s3.heap=s2.heap.push {cls:=.type "list",dict:=none,data:=.seq ([]:List Value).toArray}:=by rw[<-J1]
 rw[<-Em]at zV hsb₁⊢
 generalize QR:s2.heap.objs.size=Dd at*
 have k3:∀b o,s3.heap.get? b=some o->h₁.get? b=some o:=fun b o e=>hsb₁.extBut b o (ne_of_lt (Heap.lt_size e)) (Heap.get?_push_of_some _ e)
 have yo:∀b∈fp,∃o,s2.heap.get? b=some o:=fun b hb=>let⟨o,e,_⟩:=T.obj 0 _ x6 b hb;⟨o,e⟩
 have En:∀b∈fp,∃o,s3.heap.get? b=some o:=fun b hb=>let⟨o,e⟩:=yo b hb;⟨o,by rw[Em];exact Heap.get?_push_of_some _ e⟩
 have QS:∀b∈fp,b≠Dd:=fun b hb=>let⟨o,e⟩:=yo b hb;by rw[<-QR];exact ne_of_lt (Heap.lt_size e)
 have f3:∀b∈fp,jE X pins (upd H2 Dd (.lst [])) b:=fun b hb=>⟨by rw[ah (QS b hb)];exact(f2 b hb).1,(f2 b hb).2⟩
 have I4:=S.start (t':=s2.toks+([]:List (Str×Value)).length) I3 f3 (Nat.le_refl _) zV k3 En MJ (fun j i v e1 e2=>hvs j i v e1 e2) _ rfl
 generalize hX:qK X scope N s3 (upd H2 Dd (.lst [])) fp s3.heap.objs.size (X.pn++pins)=X' at I4
 have J2:=hg s3 (upd H2 Dd (.lst [])) fp s3.heap.objs.size (X.pn++pins)
 have Ha:=he s3 (upd H2 Dd (.lst [])) fp s3.heap.objs.size (X.pn++pins)
 rw[hX]at J2 Ha
 have eK:X'.K=X.K:=by rw[<-hX];rfl
 have eP:X'.prog=X.prog:=by rw[<-hX];rfl
 have eW:X'.w=X.w:=by rw[<-hX];rfl
 have eA:X'.A=X.A:=by rw[<-hX];rfl
 have eE:X'.xe=fun _ _=>False:=by rw[<-hX];rfl
 have eC:X'.calm=true:=by rw[<-hX];exact pH
 have eL:X'.env.locals=s3.heap.objs.size:=by rw[<-hX];rfl
 have eS:X'.s₀=s3:=by rw[<-hX];rfl
 have eX:X'.ex=fp:=by rw[<-hX];rfl
 have eF:X'.fs=xN X.stack:=by rw[<-hX];rfl
 have eN:X'.pn=X.pn++pins:=by rw[<-hX];rfl
 have eH:X'.H₀=upd H2 Dd (.lst []):=by rw[<-hX];rfl
 have eV:X'.env=compEnvC scope (vQ X.env.cells scope.names []) s3.heap.objs.size X.env:=by rw[<-hX];rfl
 have Eo:∀{Hx:Hp},(∀b∈fp,Hx b=none)->∀b∈fp,jE X' [] Hx b:=fun{Hx} hn b hb=>by
  obtain⟨_,c1,c2,c3,c4,c5⟩:=f3 b hb
  have q:=I4.ok.LR b (by rw[eX];exact hb)
  refine⟨hn b hb,q.1,I4.ok.wD b (by rw[eX];exact hb),.inl (by rw[eX];exact hb),q.2,fun p hp=>?_⟩
  rw[eN,append_nil]at hp
  exact c5 p hp
 obtain⟨Pv,pv0,pvl,pvs,pvd⟩:=hinv Dd CL
 have loop:∀s4:Shared,Inv X' [] (replicate 1 none++vs.map some) (upd H2 Dd (.lst [])) s4->tn 0 s4.heap->
   codeAny (model X.prog X.w) X.A (.compLoop (.ListComp elt [⟨tg,iter,[],0⟩] scope pos) 0 (.ref it) (.ref Dd) (compEnvC scope (vQ X.env.cells scope.names []) s3.heap.objs.size X.env))
    (compPost (model X.prog X.w) X.A X.xe none (EP X pins σ Q) (.ref Dd) s3.heap.objs.size) s4:=by
  intro s4 J4 yp
  refine mC (fun n s'=>∃(i:Nat)(acc:List V)(Hx:Hp)(t0:Option V),n=xs.length-i/\i<=xs.length/\Inv X' [] (t0::vs.map some) Hx s'/\tn i s'.heap/\(∀b∈fp,Hx b=none)/\Pv i acc Hx) ?_ xs.length
   ⟨0,[],_,none,by simp,zero_le _,J4,yp,fun b hb=>(f3 b hb).1,pv0⟩
  rintro n s5 ⟨i,acc,Hx,t0,rfl,XX,J5,Dn,Cv,p5⟩
  obtain⟨Wm,Hb⟩:=pvl i acc Hx p5
  by_cases hlt:i<xs.length
  ·have hx:xs[i]?=some xs[i]:=getElem?_eq_getElem hlt
   have TI:=T.item X' eP eW eK eC i [] s5 _ Hx (fun _ _=>False) J5 (Eo Cv) Dn ⟨xs,xs[i],Wm,hx⟩
   rw[eA]at TI
   refine bz TI fun r s6 h6=>?_
   obtain⟨u,rfl,h6⟩:=h6
   refine bz h6 fun _ s7 h7=>?_
   obtain⟨x,H7,J7,rx,⟨rfl,hy⟩,Ep,QU⟩:=h7
   have exi:=hy xs Wm
   have QV:=J7.pinned (Eo QU) (T.obj _ _ Ep)
   have TG:=J2 _ s7 _ H7 x u (fun σ8 H8=>σ8=some x::vs.map some/\H8=H7) QV rx ⟨rfl,rfl⟩
   rw[eP,eW,eA,eE,eV]at TG
   refine bz TG fun _ s8 h8=>?_
   obtain⟨σ8,H8,J8,rfl,rfl⟩:=h8
   refine bz (wpAny_tests_nil (Q:=fun b s'=>b=true/\s'=s8) ⟨rfl,rfl⟩) fun ok s9 h9=>?_
   obtain⟨rfl,rfl⟩:=h9
   have tV:∀{σx:St}{Hy:Hp}{sx:Shared},Inv X' ([]++oO fp s7.heap) σx Hy sx->tn (i+1) sx.heap/\∀b∈fp,Hy b=none:=fun{σx Hy sx} Jx=>
    ⟨T.keep _ _ _ Ep fun b hb o e=>(Jx.pin (b,o) (mem_append_right _ (mem_append_right _ (dh hb e)))).1,fun b hb=>by
     obtain⟨o,e,d⟩:=T.obj _ _ Ep b hb
     exact(Jx.pin (b,o) (mem_append_right _ (mem_append_right _ (dh hb e)))).2.1⟩
   rw[if_pos rfl]
   have TE:=Ha _ s9 _ H8 _ J8 (pvs i acc H8 x p5 exi)
   rw[eP,eW,eA,eE,eV]at TE
   refine bz TE fun y Il QX=>?_
   obtain⟨v,pI,QY,rv,Er,hlen,p10⟩:=QX
   have TM:=cR (X:=X') _ Il _ pI (.ref Dd) [v] (.ref Dd) [y] (fun _ Im=>Im=upd pI Dd (.lst (acc++[v]))) QY rfl (.cons rv .nil) ⟨Dd,acc,v,rfl,rfl,Er,hlen,rfl⟩
   rw[eP,eW,eA,eE]at TM
   refine bz TM fun _ XY h11=>?_
   obtain⟨v',Im,J3,_,rfl⟩:=h11
   obtain⟨k1,k2⟩:=tV J3
   exact⟨xs.length-(i+1),by omega,i+1,acc++[v],_,some x,rfl,hlt,J3.gZ,k1,k2,p10⟩
  ·have e:i=xs.length:=by omega
   subst e
   have TD:=T.done X' eP eW eK eC xs.length [] s5 _ Hx (fun _ _=>False) J5 (Eo Cv) Dn ⟨xs,Wm,Nat.le_refl _⟩
   rw[eA]at TD
   refine bz TD fun r s6 h6=>?_
   obtain⟨rfl,J6⟩:=h6
   obtain⟨m6,Ds,_⟩:=J6.loc
   rw[eL]at Ds
   have Q0:Un (xN X.stack) fp (upd H2 Dd (.lst [])) Hx s3.heap s6.heap:=by
    have u:=J6.base
    rw[eF,eX,eH,eS]at u
    exact u
   have hxC:Hx s3.heap.objs.size=none:=by have:=J6.free;rw[eL]at this;exact this
   have Et:nE X.prog X.w Hx s6.heap:=by
    have z:=J6.hok
    rw[eP,eW]at z
    exact z
   have Q1:s6.os=s3.os:=by have:=J6.os;rw[eS]at this;exact this
   have I6:Inv X pins σ Hx s6:=I3.DD (s':=s6) Q1 Q0 Et J6.bare fun b hb=>by
    obtain⟨_,c1,c2,c3,c4,c5⟩:=f3 b hb
    exact⟨c3,c1,c4,c5⟩
   have fC:jE X pins Hx s3.heap.objs.size:=⟨hxC,(I3.zF (Nat.le_refl _) (I3.hok.fresh (Nat.le_refl _))).2⟩
   refine⟨m6,Ds,fun h7 Q2=>⟨.ref Dd,Hx,vR (fp:=[s3.heap.objs.size]) (t':=s6.toks) I6 (fun b hb=>by
    have z:b=s3.heap.objs.size:=by simpa using hb
    rw[z];exact fC) (fun b u hb e=>(Q2.2 b (fun z=>hb (by simp[z]))).trans e),rfl,pvd acc Hx p5⟩⟩
 have yp:tn 0 h₁:=T.keep _ _ _ x6 fun b hb o e=>k3 b o (by rw[Em];exact Heap.get?_push_of_some _ e)
 have eG:({heap:=h₁,gens:=s3.gens,drawn:=s3.drawn,toks:=s2.toks+([]:List (Str×Value)).length,os:=s3.os}:Shared)={heap:=h₁,gens:=s2.gens,drawn:=s2.drawn,toks:=s2.toks+([]:List (Str×Value)).length,os:=s2.os}:=by rw[<-J1]
 rw[eG]at I4
 exact codeAny_compStart_list (loop _ I4 yp) (T.self _ 0 _ _ _ yp (loop _ I4 yp))
end
def jl(env:DE):R Bool:=
 R.ok true
def jm(env:DE):R D:=
 (R.bind (bU 0 env) fun km=>R.bind (R.ok (D.int 0)) fun gu=>wR km gu)
def BP(env:DE):R Out:=
 (R.bind (R.bind (R.bind (R.bind (R.bind (R.bind (bU 4 env) fun v6=>R.bind (R.ok (D.int 0)) fun v7=>wR v6 v7) fun v4=>R.bind (R.bind (R.bind (R.bind (bU 1 env) qG) fun v9=>R.bind (cM env []) fun v10=>R.bind (R.ne (bj (bN 0) jl jm (dR 1 v10) v9)) fit) fun v8=>R.of (mJ v8)) fun v5=>R.of (g5 v4 v5)) fun v2=>R.bind (R.bind (R.bind (bU 4 env) fun kO=>R.bind (R.ok (D.int 1)) fun l9=>wR kO l9) fun kq=>R.bind (R.ok []) fun lg=>R.ok (kq::lg)) fun v3=>R.ok (v2::v3)) fit) fun ds=>R.ok (D.tup ds)) fun v1=>R.ok (Out.rt v1))
def cQ(ds:List D):R D:=match ds with
 |[.int n,d]=>R.ne (R.bind (aO [d]) fun rs=> @ite _ ((1<=n/\n<=7)/\rs.length<=40/\∀r∈rs,bp n.toNat r) (propDecidable _) (R.bind (BP [.val (.int n),.val d,.no,.no,.val (rP n.toNat (fV n.toNat rs))]) ai) .bad)
 |_=>.bad
def Gf(env:DE):R Out:=
 (R.bind (R.bind (R.bind (bU 0 env) fun v2=>R.bind (R.bind (R.bind (R.bind (bU 0 env) fun v6=>R.bind (R.bind (bU 1 env) fun v8=>R.bind (R.ok []) fun v9=>R.ok (v8::v9)) fun v7=>R.ok (v6::v7)) cP) fun v4=>R.bind (R.ok []) fun v5=>R.ok (v4::v5)) fun v3=>R.ok (v2::v3)) cQ) fun v1=>R.ok (Out.rt v1))
def uz:=mD 2 2 Gf
def y7(env:DE):R Bool:=
 R.ok true
def uA(env:DE):R D:=
 (R.bind (lN 1 env) fun v85=>R.bind (aU 0 env) fun DA=>vg v85 DA)
def kJ(d:D)(env:DE):R Out:=
 R.bind ((bN 7) d env) fun NT=>
  (aS (R.bind (R.bind (R.bind (R.bind (bU 7 NT) qG) fun Wa=>R.bind (cM NT [5]) fun Th=>R.bind (R.ne (bj (bN 0) y7 uA (dR 1 Th) Wa)) fit) fun Rx=>R.ok (D.lst Rx)) fun Rw=>R.ok (Out.nx (List.set NT 5 (Sl.val Rw)))) fun NU=>
 (R.bind (R.bind (aU 6 NU) fun VX=>R.bind (R.bind (R.bind (aU 7 NU) fun VW=>R.bind (R.ok []) fun V6=>R.ok (VW::V6)) dz) fun VV=>R.of (g5 VX VV)) fun V8=>R.ok (Out.nx (List.set NU 6 (Sl.val V8)))))
def y8(env:DE):R Bool:=
 R.ok true
def uB(env:DE):R D:=
 (R.bind (R.bind (aU 0 env) fun N8=>R.bind (R.ok (D.int 0)) fun N6=>R.bind (R.of (zS N8 N6)) jf) fun N5=>if N5=true then(R.ok (D.int 1))else(R.bind (R.ok (D.int 1)) fun N7=>R.of (qH N7)))
def Le(env:DE):R Out:=
 (aS (R.bind (R.bind (R.bind (R.bind (R.bind (R.bind (aU 0 env) fun v7=>R.bind (R.bind (R.ok (D.int 0)) fun v9=>R.bind (R.ok []) fun v10=>R.ok (v9::v10)) fun v8=>R.ok (v7::v8)) cC) fun v5=>R.bind (R.bind (R.ok (D.int 10)) fun v11=>R.bind (R.ok (D.int 9)) fun k9=>R.of (Ec v11 k9)) fun v6=>R.of (oV v5 v6)) fun v3=>R.bind (R.bind (R.ok (D.int 1)) fun km=>R.bind (R.bind (R.ok (D.int 7)) fun kq=>R.bind (R.ok []) fun lg=>R.ok (kq::lg)) fun gu=>R.ok (km::gu)) fun v4=>R.ok (v3::v4)) dw) fun v2=>R.ok (Out.nx (List.set env 1 (Sl.val v2)))) fun v1=>
 (aS (R.bind (R.bind (R.bind (bU 0 v1) fun mQ=>R.bind (R.bind (bU 1 v1) fun qT=>R.bind (R.bind (R.ok (D.int 24)) fun qQ=>R.bind (R.ok []) fun qR=>R.ok (qQ::qR)) fun kP=>R.ok (qT::kP)) fun v20=>R.ok (mQ::v20)) g7) fun l9=>R.ok (Out.nx (List.set v1 2 (Sl.val l9)))) fun kO=>
 (aS (R.bind (R.bind (lN 2 kO) fun vq=>R.ok (D.lst vq)) fun ui=>R.ok (Out.nx (List.set kO 3 (Sl.val ui)))) fun qU=>
 (aS (R.bind (R.bind (R.bind (bU 1 qU) fun v30=>R.bind (R.bind (bU 3 qU) fun Fc=>R.bind (R.ok []) fun Fe=>R.ok (Fc::Fe)) fun Fb=>R.ok (v30::Fb)) uz) fun Ab=>R.ok (Out.nx (List.set qU 4 (Sl.val Ab)))) fun xj=>
 (aS (R.bind (R.bind (R.bind (aU 3 xj) fun Ff=>R.bind (aU 2 xj) fun Hg=>R.bind (R.of (Bd Ff Hg)) jf) fun Ac=>if Ac=true then R.ok true else(R.bind (R.bind (R.bind (R.bind (aU 4 xj) fun Hh=>R.bind (R.bind (aU 1 xj) fun Bq=>R.bind (R.ok []) fun Ae=>R.ok (Bq::Ae)) fun Jb=>R.ok (Hh::Jb)) dA) jf) fun Fg=>R.ok (!Fg))) fun Fd=>if Fd=true then(R.bind (R.ok (D.bl false)) fun Hj=>R.ok (Out.rt Hj))else(R.ok (Out.nx xj))) fun Dv=>
 (aS (R.bind (R.bind (R.bind (R.bind (aU 1 Dv) fun I9=>R.bind (R.ok []) fun I8=>R.ok (I9::I8)) iT) fun I0=>R.ok (D.lst I0)) fun Ja=>R.ok (Out.nx (List.set Dv 5 (Sl.val Ja)))) fun Dz=>
 (aS (R.bind (R.bind (R.bind (bU 4 Dz) fun Rv=>R.bind (R.ok (D.int 0)) fun Nz=>wR Rv Nz) fun Hi=>R.bind (R.bind (R.bind (aU 1 Dz) fun Nx=>R.bind (R.bind (aU 1 Dz) fun NI=>R.bind (R.ok (D.int 1)) fun Fl=>R.of (ik NI Fl)) fun Ny=>R.of (yj Nx Ny)) fun Nv=>R.bind (R.ok (D.int 2)) fun Fj=>R.of (wO Nv Fj)) fun NB=>R.of (yj Hi NB)) fun Fi=>R.ok (Out.nx (List.set Dz 6 (Sl.val Fi)))) fun Dw=>
 (aS (R.bind (R.bind (R.bind (R.bind (bU 4 Dw) fun NS=>R.bind (R.ok (D.int 0)) fun NQ=>wR NS NQ) fun NG=>R.bind (R.ok (D.int 2)) fun NR=>R.of (oV NG NR)) fun NH=>R.bind (R.ok (D.int 1)) fun NF=>R.bind (R.of (xQ NH NF)) jf) fun ND=>if ND=true then(R.bind (R.bind (R.bind (lN 5 Dw) fun NN=>R.ok (reverse NN)) fun NP=>R.ok (D.lst NP)) fun NJ=>R.ok (Out.nx (List.set Dw 5 (Sl.val NJ))))else(R.ok (Out.nx Dw))) fun K6=>
 (aS (R.bind (R.bind (R.bind (bU 4 K6) fun V2=>R.bind (R.ok (D.int 1)) fun V5=>wR V2 V5) qG) fun NK=>dH kJ NK K6) fun Dy=>
 (R.bind (R.bind (R.bind (aU 5 Dy) fun VZ=>R.bind (R.bind (R.bind (bU 1 Dy) fun V3=>R.bind (R.bind (bU 2 Dy) fun N2=>R.bind (R.ok []) fun N4=>R.ok (N2::N4)) fun V4=>R.ok (V3::V4)) fQ) fun V0=>R.of (xQ VZ V0)) fun V1=>R.bind (jf V1) fun t=>if t=true then(R.bind (aU 6 Dy) fun NW=>R.bind (R.bind (R.bind (R.bind (bU 2 Dy) qG) fun NY=>R.bind (cM Dy []) fun N3=>R.bind (R.ne (bj (bN 0) y8 uB (dR 1 N3) NY)) fit) fun NX=>R.of (mJ NX)) fun NZ=>R.of (xQ NW NZ))else R.ok (D.bl false)) fun VY=>R.ok (Out.rt VY)))))))))))
def uC:=mS 1 8 Le
end DL
namespace DL.ng
open PySem PySem.Spec PyProof.Rows L2 DL
def top(i:Nat):Stmt:=PySem.Challenge.pw_braidcomb_k31_forms_are_sound.main.body.getD i (.Pass ⟨0,0,0,0⟩)
abbrev rf:Stmt:=top 4
theorem Aq:aw ["word"] ["word"] (ae rf):=oA
abbrev uD:Stmt:=top 5
theorem ni:aw ["word","left","k"] ["word"] (ae uD):=oA
abbrev rQ:Stmt:=top 7
theorem xt:aw ["n"] ["n"] (ae rQ):=oA
abbrev BQ:Stmt:=top 8
theorem Gg:aw ["n"] ["n"] (ae BQ):=oA
abbrev p7:Stmt:=top 9
theorem gQ:aw ["row","places","place","string"] ["row"] (ae p7):=oA
abbrev uE:Stmt:=top 10
theorem C2:aw ["row"] ["row"] (ae uE):=oA
abbrev wg:Stmt:=top 11
theorem Ar:aw ["row"] ["row"] (ae wg):=oA
abbrev fq:Stmt:=top 12
theorem j8:aw ["row","k"] ["row","k"] (ae fq):=oA
abbrev fW:Stmt:=top 13
theorem kK:aw ["row","k"] ["row","k"] (ae fW):=oA
abbrev wj:Stmt:=top 14
theorem lB:aw ["n","word","row","k"] ["n","word"] (ae wj):=oA
abbrev uF:Stmt:=top 15
theorem C3:aw ["row"] ["row"] (ae uF):=oA
abbrev jn:Stmt:=top 16
theorem r9:aw ["row"] ["row"] (ae jn):=oA
abbrev uG:Stmt:=top 19
theorem jS:aw ["crossings","bits","k"] ["crossings"] (ae uG):=oA
abbrev Gi:Stmt:=top 22
theorem iX:aw ["n","word","pieces","order","sign_above","k","place","held"] ["n","word"] (ae Gi):=oA
abbrev nj:Stmt:=top 23
theorem se:aw ["row"] ["row"] (ae nj):=oA
abbrev uH:Stmt:=top 24
theorem y9:aw ["n","piece"] ["n","piece"] (ae uH):=oA
abbrev nk:Stmt:=top 25
theorem si:aw ["halves","row"] ["halves","row"] (ae nk):=oA
abbrev gA:Stmt:=top 26
theorem bf:aw ["steps","rows","halves","step"] ["steps"] (ae gA):=oA
abbrev gD:Stmt:=top 27
theorem cY:aw ["n","steps","comb","row","found"] ["n","steps"] (ae gD):=oA
abbrev gE:Stmt:=top 28
theorem p8:aw ["n","word"] ["n","word"] (ae gE):=oA
abbrev BR:Stmt:=top 29
theorem Gj:aw ["n","word"] ["n","word"] (ae BR):=oA
abbrev rR:Stmt:=top 31
theorem xu:aw ["_law_cell","_law_k","_law_factor"] ["_law_cell","_law_k","_law_factor"] (ae rR):=oA
abbrev lS:Stmt:=top 32
theorem rg:aw ["_law_script","_law_k"] ["_law_script","_law_k"] (ae lS):=oA
abbrev lT:Stmt:=top 33
theorem kL:aw ["_law_seed","_law_least","_law_most"] ["_law_seed","_law_least","_law_most"] (ae lT):=oA
abbrev kM:Stmt:=top 34
theorem jT:aw ["_law_number","_law_n","_law_k"] ["_law_number","_law_n"] (ae kM):=oA
abbrev oG:Stmt:=top 35
theorem jo:aw ["_law_number","_law_n","_law_k","_law_other"] ["_law_number","_law_n"] (ae oG):=oA
abbrev oH:Stmt:=top 36
theorem dB:aw ["_law_cells","_law_n","_law_most","_law_word","_law_k","_law_cell"] ["_law_cells","_law_n","_law_most"] (ae oH):=oA
abbrev lC:Stmt:=top 37
theorem gR:aw ["_law_cells","_law_n","_law_most","_law_word","_law_total","_law_at"] ["_law_cells","_law_n","_law_most"] (ae lC):=oA
abbrev oJ:Stmt:=top 38
theorem dC:aw ["_law_n","_law_word","_law_hung","_law_k","_law_at"] ["_law_n","_law_word"] (ae oJ):=oA
abbrev iG:Stmt:=top 39
theorem rh:aw ["_law_row"] ["_law_row"] (ae iG):=oA
abbrev iH:Stmt:=top 40
theorem cH:aw ["_law_found","_law_n","_law_last","_law_row","_law_k"] ["_law_found","_law_n"] (ae iH):=oA
abbrev xw:Stmt:=top 41
theorem fX:aw ["_law_script","_law_n","_law_word","_law_handed","_law_found","_law_order_here","_law_many","_law_row"] ["_law_script"] (ae xw):=oA
structure Tb(K:PySem.W.Frag)(mg:Str->Option Value) where
 p9:Addr
 qb:FuncData
 uI:Df K mg "turned" rf ["word"] p9 qb
 nU:Addr
 nV:FuncData
 rm:Df K mg "trimmed" uD ["word"] nU nV
 gF:Addr
 gG:FuncData
 dD:Df K mg "straight" rQ ["n"] gF gG
 xx:Addr
 xy:FuncData
 uJ:Df K mg "half" BQ ["n"] xx xy
 fu:Addr
 fx:FuncData
 fy:Df K mg "places_of" p7 ["row"] fu fx
 qc:Addr
 qd:FuncData
 nW:Df K mg "stops" uE ["row"] qc qd
 qe:Addr
 qg:FuncData
 nq:Df K mg "starts" wg ["row"] qe qg
 aP:Addr
 aQ:FuncData
 aM:Df K mg "with_crossing_behind" fq ["row","k"] aP aQ
 bQ:Addr
 bR:FuncData
 bq:Df K mg "with_crossing_ahead" fW ["row","k"] bQ bR
 qh:Addr
 qi:FuncData
 qj:Df K mg "row_of" wj ["n","word"] qh qi
 sU:Addr
 sV:FuncData
 xA:Df K mg "ahead" uF ["row"] sU sV
 gS:Addr
 gU:FuncData
 j9:Df K mg "flipped_row" jn ["row"] gS gU
 nX:Addr
 nY:FuncData
 fz:Df K mg "as_bits" uG ["crossings"] nX nY
 BU:Addr
 BV:FuncData
 Gk:Df K mg "cut" Gi ["n","word"] BU BV
 gV:Addr
 gW:FuncData
 kc:Df K mg "turned_step" nj ["row"] gV gW
 nZ:Addr
 n8:FuncData
 rn:Df K mg "step_of" uH ["n","piece"] nZ n8
 gX:Addr
 gY:FuncData
 kg:Df K mg "past_halves" nk ["halves","row"] gX gY
 b8:Addr
 b9:FuncData
 bx:Df K mg "rows_behind_halves" gA ["steps"] b8 b9
 eB:Addr
 eI:FuncData
 iI:Df K mg "form_of_steps" gD ["n","steps"] eB eI
 eJ:Addr
 eM:FuncData
 iJ:Df K mg "steps_of_word" gE ["n","word"] eJ eM
 xB:Addr
 xC:FuncData
 Au:Df K mg "form" BR ["n","word"] xB xC
 jq:Addr
 jr:FuncData
 lD:Df K mg "_law_mix" rR ["_law_cell","_law_k","_law_factor"] jq jr
 fY:Addr
 fZ:FuncData
 jt:Df K mg "_law_cell_at" lS ["_law_script","_law_k"] fY fZ
 f9:Addr
 gb:FuncData
 ju:Df K mg "_law_strings" lT ["_law_seed","_law_least","_law_most"] f9 gb
 eO:Addr
 eQ:FuncData
 iK:Df K mg "_law_crossing" kM ["_law_number","_law_n"] eO eQ
 iY:Addr
 iZ:FuncData
 lE:Df K mg "_law_piece" oG ["_law_number","_law_n"] iY iZ
 i6:Addr
 i7:FuncData
 lF:Df K mg "_law_drawn" oH ["_law_cells","_law_n","_law_most"] i6 i7
 jU:Addr
 jV:FuncData
 nv:Df K mg "_law_part" lC ["_law_cells","_law_n","_law_most"] jU jV
 i9:Addr
 ja:FuncData
 lG:Df K mg "_law_order" oJ ["_law_n","_law_word"] i9 ja
 gf:Addr
 gg:FuncData
 jv:Df K mg "_law_crossed" iG ["_law_row"] gf gg
 gh:Addr
 gj:FuncData
 jw:Df K mg "_law_is_form" iH ["_law_found","_law_n"] gh gj
 Gm:Addr
 BW:FuncData
 Lf:Df K mg "law" xw ["_law_script"] Gm BW
 BX:mg "abs"=none
 Av:mg "bool"=none
 jW:mg "enumerate"=none
 Gn:mg "int"=none
 cg:mg "isinstance"=none
 jX:mg "len"=none
 gk:mg "list"=none
 Lg:mg "max"=none
 gm:mg "range"=none
 gH:mg "reversed"=none
 za:mg "sorted"=none
 zb:mg "sum"=none
 xD:mg "tuple"=none
 qk:Tok
 ql:mg "MOST_KEPT"=some (.int 200000 qk)
end DL.ng
namespace DL.H
open PySem PySem.W L2
noncomputable section
def vi(i:Int)(t:Nat):Value:=.int i t
def vs(s:String)(t:Nat):Value:=.str (Str.ofString s) t
def vr(a:Nat):Value:=.ref a
def vy(s:String):Value:=.type s
def vb(s:String):Value:=.builtin s
def vn:Value:=.none
def vt:Value:=.bool true
def vf:Value:=.bool false
def pl:Data:=.plain
def ob(c:Value)(d:Data)(s:List (Option Value)):Obj:=⟨c,none,d,⟨s⟩⟩
def en(P:Params)(x:String)(t:Nat)(v:Value):DictEntry:=⟨PyData.keyHash P (Str.ofString x),.str (Str.ofString x) t,v⟩
def cd(n:String)(b m:List Value)(s:Addr)(q:String)(hd:Bool)(sn:List Str)(su:List Value)(ab:Bool)(c:Option Bool)(de:Bool):ClassData:=⟨Str.ofString n,b,m,s,Str.ofString q,hd,sn,su,ab,c,de⟩
def E:Obj:=ob (vy "tuple") (.seq ⟨[]⟩ 0) []
def F:Obj:=ob vn (.fields ⟨[]⟩) []
def Z:String:="/claim/cut.py"
def nO(s:Stmt):Str:=match s with|.FunctionDef n _ _ _ _ _ _ _ _ _=>n|_=>Str.empty
def lO(s:Stmt):Nat:=match s with|.FunctionDef _ _ _ _ _ _ _ _ _ p=>p.line|_=>0
def tf(s:Stmt)(q:Str):Obj:=⟨.none,none,.func {name:=nO s,qualname:=q,params:=cV s,body:=.stmts (bg s),scope:=ae s,globals:=0,closure:=[],defaults:=.none,kwdefaults:=.none},⟨[]⟩⟩
def hf(n q:Str)(s:Stmt)(m:Value)(c:Nat):Obj:=⟨.type "function",none,.func (fnOf n q (cV s) (bg s) (ae s) .none .none .none m none (.ref c) .none),⟨[]⟩⟩
def cf(n q:Str)(t l k:Nat)(f:Value)(a b:Nat)(x y z:Value)(u:Nat):Obj:=ob (vy "code") (.fields ⟨[.str n t,.str q (t+1),vs Z (t+2),.int l 0,.int k 0,vi 0 0,vi 0 0,f,vr a,.bool (f !=vi 0 0),vi 181 0,vr b,vn,x,y,z,.int u 0,.int l 0,vs Z (u+1)]⟩) []
def tu:List String->Nat->List Value
 |[],_=>[]
 |x::l,t=>vs x t::tu l (t+1)
def Lh(s:Stmt)(q:Str)(a t:Nat)(m:Value)(ns:List String):List Obj:=[E,F,ob (vy "tuple") (.seq ⟨tu ns (t+3)⟩ 0) [],E,tf s q,cf (nO s) q t (lO s) (cV s).args.length (vi 3 0) a (a+1) (vr (a+2)) (vr (a+3)) (vr (a+4)) (t+3+ns.length),hf (nO s) q s m (a+5)]
def Yy(s:Stmt)(q:Str)(a t:Nat)(m:Value):List Obj:=[E,F,tf s q,cf (nO s) q t (lO s) (cV s).args.length (vi 3 0) a (a+1) vn vn (vr (a+2)) (t+3),hf (nO s) q s m (a+3)]
def xb(P:Params)(n:String)(a t:Nat)(m:Value)(b:Nat)(l:Nat):List Obj:=
 [ob (vy "tuple") (.seq ⟨[vr b]⟩ 0) [],ob (vy "builtin_function_or_method") (.fields ⟨[vb "type.__prepare__",vy "type"]⟩) [],
  ob (vy "dict") (.dict ⟨[en P "__module__" (t+5) m,en P "__qualname__" (t+7) (vs n (t+6)),en P "__firstlineno__" (t+9) (.int l (t+8)),en P "__static_attributes__" (t+10) (vr (a+7))]⟩ 4) [],E,F,
  cf (Str.ofString n) (Str.ofString n) t l 0 (vi 0 0) (a+3) (a+4) vn vn vn (t+3),ob (vy "frame") pl [some (vr (a+5)),some (vr 3),some (vr (a+2)),none,some m,none,some (vr 0)],E,
  ob (vy "dict") (.dict ⟨[en P "__module__" (t+5) m,en P "__firstlineno__" (t+9) (.int l (t+8)),en P "__static_attributes__" (t+10) (vr (a+7)),en P "__doc__" (t+11) vn]⟩ 2) [],
  ob (vy "type") (.cls (cd n [vr b] [vr (a+9),vr b,vy "ValueError",vy "Exception",vy "BaseException",vy "object"] (a+8) n true [] [] false none false)) [some (vr a),none,some (vs n (t-2)),some (vs n (t+6)),some (vb "ValueError.__new__"),some vt],
  ob (vy "super") (.fields ⟨[vr (a+9),vr (a+9),vr (a+9)]⟩) [],ob (vy "builtin_function_or_method") (.fields ⟨[vb "object.__init_subclass__",vr (a+9)]⟩) []]
def sp:List Obj->List Obj×List Obj
 |[]=>([],[])
 |x::l=>(x::(sp l).2,(sp l).1)
def bt:Nat->List Obj->BT
 |0,_=>.nil
 |_+1,[]=>.nil
 |n+1,x::l=>.node x (bt n (sp l).1) (bt n (sp l).2)
end
end DL.H
namespace DL.ng.H
open PySem PySem.W DL.H L2
noncomputable section
abbrev pw:Program:=PySem.Challenge.pw_braidcomb_k31_forms_are_sound
abbrev T(i:Nat):Stmt:=DL.ng.top i
def J(i j:Nat):Stmt:=match T i with|.ClassDef _ _ _ b _ _ _ _ _ _ _=>b.getD j (.Pass ⟨0,0,0,0⟩)|s=>s
def M3(P:Params):List DictEntry:=[en P "__doc__" 166 vn,en P "__package__" 167 vn,en P "__loader__" 168 (vb "__main__.__loader__#opaque"),en P "__spec__" 169 vn,en P "__annotations__" 170 (vr 6),en P "__builtins__" 171 (vr 4),en P "__file__" 173 (vs "/claim/cut.py" 172),en P "__cached__" 174 vn,en P "BraidError" 206 (vr 24),en P "NoRow" 222 (vr 37),en P "turned" 230 (vr 44),en P "trimmed" 239 (vr 51),en P "straight" 248 (vr 58),en P "half" 255 (vr 65),en P "places_of" 265 (vr 72),en P "stops" 271 (vr 77),en P "starts" 278 (vr 84),en P "with_crossing_behind" 286 (vr 91),en P "with_crossing_ahead" 294 (vr 98),en P "row_of" 304 (vr 105),en P "ahead" 310 (vr 110),en P "flipped_row" 316 (vr 115),en P "MOST_KEPT" 320 (vi 200000 319),en P "as_bits" 329 (vr 122),en P "Comb" 435 (vr 186),en P "cut" 451 (vr 197),en P "turned_step" 458 (vr 204),en P "step_of" 466 (vr 211),en P "past_halves" 474 (vr 218),en P "rows_behind_halves" 484 (vr 225),en P "form_of_steps" 490 (vr 230),en P "steps_of_word" 496 (vr 235),en P "form" 504 (vr 242),en P "_law_mix" 515 (vr 249),en P "_law_cell_at" 523 (vr 256),en P "_law_strings" 532 (vr 263),en P "_law_crossing" 541 (vr 270),en P "_law_piece" 551 (vr 277),en P "_law_drawn" 563 (vr 284),en P "_law_part" 569 (vr 289),en P "_law_order" 580 (vr 296),en P "_law_crossed" 586 (vr 301),en P "_law_is_form" 592 (vr 306),en P "law" 598 (vr 311)]
def m3(P:Params)(v:Value)(k e:Nat):Obj:=ob (vy "dict") (.dict ⟨en P "__name__" 165 v::(M3 P).take k⟩ e) []
def L12:List (Nat×Nat):=[(2,20),(4,33),(7,43),(9,50),(18,57),(20,64),(22,71),(27,76),(29,83),(31,90),(33,97),(35,104),(44,109),(46,114),(50,121),(55,128),(128,196),(143,203),(145,210),(149,217),(153,224),(161,229),(167,234),(169,241),(172,248),(174,255),(178,262),(183,269),(188,276),(194,283),(200,288),(207,295),(213,300),(215,305),(231,310)]
def Pu(k:Nat):Obj:=ob vn (.fields ⟨(L12.take k).flatMap fun x=>[.int x.1 0,vi 0 0,vr x.2]⟩) []
def w0:Value:=vs "braidcomb.errors" 187
def w1:Value:=vs "braidcomb.words" 223
def w2:Value:=vs "braidcomb.rows" 240
def w3:Value:=vs "braidcomb.sliding" 317
def w4:Value:=vs "braidcomb.forms" 436
def w5:Value:=vs "law_braidcomb_k31_forms_are_sound" 505
def f7(i a t:Nat)(m:Value)(ns:List String):List Obj:=Lh (T i) (nO (T i)) a t m ns
def f5(i a t:Nat)(m:Value):List Obj:=Yy (T i) (nO (T i)) a t m
def FL(P:Params):List Obj:=[boot_o_0 P,boot_o_1 P,boot_o_2 P,m3 P w5 44 45,boot_o_4 P,boot_o_5 P,boot_o_6 P,boot_o_7 P,boot_o_8 P,boot_o_9 P,boot_o_10 P]
 ++[E,(Pu 35),(ob (vy "code") (.fields ⟨[(vs "<module>" 182),(vs "<module>" 183),(vs "/claim/cut.py" 184),(vi 1 0),(vi 0 0),(vi 0 0),(vi 0 0),(vi 0 0),(vr 11),vf,(vi 181 0),(vr 12),vn,vn,vn,vn,(vi 185 0),(vi 1 0),(vs "/claim/cut.py" 186)]⟩) []),(ob (vy "frame") pl [(some (vr 13)),(some (vr 3)),(some (vr 3)),none,(some (vs "__main__" 164)),none,(some (vr 0))]),(ob (vy "tuple") (.seq ⟨[(vy "ValueError")]⟩ 0) []),(ob (vy "builtin_function_or_method") (.fields ⟨[(vb "type.__prepare__"),(vy "type")]⟩) []),(ob (vy "dict") (.dict ⟨[(en P "__module__" 196 (vs "braidcomb.errors" 187)),(en P "__qualname__" 198 (vs "BraidError" 197)),(en P "__firstlineno__" 200 (vi 2 199)),(en P "__static_attributes__" 201 (vr 22))]⟩ 4) []),E,F,(ob (vy "code") (.fields ⟨[(vs "BraidError" 191),(vs "BraidError" 192),(vs "/claim/cut.py" 193),(vi 2 0),(vi 0 0),(vi 0 0),(vi 0 0),(vi 0 0),(vr 18),vf,(vi 181 0),(vr 19),vn,vn,vn,vn,(vi 194 0),(vi 2 0),(vs "/claim/cut.py" 195)]⟩) []),(ob (vy "frame") pl [(some (vr 20)),(some (vr 3)),(some (vr 17)),none,(some (vs "braidcomb.errors" 187)),none,(some (vr 0))]),E,(ob (vy "dict") (.dict ⟨[(en P "__module__" 196 (vs "braidcomb.errors" 187)),(en P "__firstlineno__" 200 (vi 2 199)),(en P "__static_attributes__" 201 (vr 22)),(en P "__weakref__" 203 (vr 25)),(en P "__doc__" 204 vn)]⟩ 3) []),(ob (vy "type") (.cls (cd "BraidError" [(vy "ValueError")] [(vr 24),(vy "ValueError"),(vy "Exception"),(vy "BaseException"),(vy "object")] 23 "BraidError" true [] [(vr 37)] false none false)) [(some (vr 15)),none,(some (vs "BraidError" 189)),(some (vs "BraidError" 197)),(some (vb "ValueError.__new__")),(some vt)]),(ob (vy "getset_descriptor") (.fields ⟨[(vs "__weakref__" 202),(vr 24),(vb "ExceptionGroup.__weakref__"),vn]⟩) []),(ob (vy "super") (.fields ⟨[(vr 24),(vr 24),(vr 24)]⟩) []),(ob (vy "builtin_function_or_method") (.fields ⟨[(vb "object.__init_subclass__"),(vr 24)]⟩) [])]
 ++xb P "NoRow" 28 209 w0 24 4
 ++f5 4 40 225 w1
 ++f7 5 45 231 w1 ["word","left","k"]
 ++f7 7 52 242 w2 ["n"]
 ++f7 8 59 249 w2 ["n"]
 ++f7 9 66 256 w2 ["row","places","place","string"]
 ++f5 10 73 266 w2
 ++f7 11 78 272 w2 ["row"]
 ++f7 12 85 279 w2 ["row","k"]
 ++f7 13 92 287 w2 ["row","k"]
 ++f7 14 99 295 w2 ["n","word","row","k"]
 ++f5 15 106 305 w2
 ++f5 16 111 311 w2
 ++f7 19 116 321 w3 ["crossings","bits","k"]
 ++[E,(ob (vy "builtin_function_or_method") (.fields ⟨[(vb "type.__prepare__"),(vy "type")]⟩) []),(ob (vy "dict") (.dict ⟨[(en P "__module__" 337 w3),(en P "__qualname__" 339 (vs "Comb" 338)),(en P "__firstlineno__" 341 (vi 55 340)),(en P "__init__" 349 (vr 136)),(en P "number_of" 358 (vr 143)),(en P "without_first" 368 (vr 150)),(en P "with_last" 378 (vr 157)),(en P "slide" 389 (vr 164)),(en P "slide_kept" 400 (vr 171)),(en P "put" 411 (vr 178)),(en P "form_told" 417 (vr 183)),(en P "__static_attributes__" 428 (vr 184))]⟩ 12) []),E,(ob vn (.fields ⟨[(vi 57 0),(vi 4 0),(vr 135),(vi 69 0),(vi 4 0),(vr 142),(vi 78 0),(vi 4 0),(vr 149),(vi 84 0),(vi 4 0),(vr 156),(vi 90 0),(vi 4 0),(vr 163),(vi 99 0),(vi 4 0),(vr 170),(vi 108 0),(vi 4 0),(vr 177),(vi 122 0),(vi 4 0),(vr 182)]⟩) []),(ob (vy "code") (.fields ⟨[(vs "Comb" 332),(vs "Comb" 333),(vs "/claim/cut.py" 334),(vi 55 0),(vi 0 0),(vi 0 0),(vi 0 0),(vi 0 0),(vr 126),vf,(vi 181 0),(vr 127),vn,vn,vn,vn,(vi 335 0),(vi 55 0),(vs "/claim/cut.py" 336)]⟩) []),(ob (vy "frame") pl [(some (vr 128)),(some (vr 3)),(some (vr 125)),none,(some w3),none,(some (vr 0))])]
 ++Lh (J 20 0) "Comb.__init__" 130 342 w3 ["self","n"]
 ++Lh (J 20 1) "Comb.number_of" 137 350 w3 ["self","row","key"]
 ++Lh (J 20 2) "Comb.without_first" 144 359 w3 ["self","number","k","step"]
 ++Lh (J 20 3) "Comb.with_last" 151 369 w3 ["self","number","k","step"]
 ++Lh (J 20 4) "Comb.slide" 158 379 w3 ["self","one","other","free","k"]
 ++Lh (J 20 5) "Comb.slide_kept" 165 390 w3 ["self","one","other","pair","found"]
 ++Lh (J 20 6) "Comb.put" 172 401 w3 ["self","row","line","place","pair"]
 ++Yy (J 20 7) "Comb.form_told" 179 412 w3
 ++[(ob (vy "tuple") (.seq ⟨[(vs "firsts" 418),(vs "kept" 419),(vs "known" 420),(vs "lasts" 421),(vs "line" 422),(vs "longer" 423),(vs "none" 424),(vs "numbers" 425),(vs "shorter" 426),(vs "whole" 427)]⟩ 0) []),(ob (vy "dict") (.dict ⟨[(en P "__module__" 337 w3),(en P "__firstlineno__" 341 (vi 55 340)),(en P "__init__" 349 (vr 136)),(en P "number_of" 358 (vr 143)),(en P "without_first" 368 (vr 150)),(en P "with_last" 378 (vr 157)),(en P "slide" 389 (vr 164)),(en P "slide_kept" 400 (vr 171)),(en P "put" 411 (vr 178)),(en P "form_told" 417 (vr 183)),(en P "__static_attributes__" 428 (vr 184)),(en P "__dict__" 430 (vr 187)),(en P "__weakref__" 432 (vr 188)),(en P "__doc__" 433 vn)]⟩ 4) []),(ob (vy "type") (.cls (cd "Comb" [(vy "object")] [(vr 186),(vy "object")] 185 "Comb" true [] [] false none false)) [none,none,(some (vs "Comb" 330)),(some (vs "Comb" 338)),(some (vb "object.__new__")),(some vt)]),(ob (vy "getset_descriptor") (.fields ⟨[(vs "__dict__" 429),(vr 186),(vb "function.__dict__"),(vb "function.__dict__#set")]⟩) []),(ob (vy "getset_descriptor") (.fields ⟨[(vs "__weakref__" 431),(vr 186),(vb "ExceptionGroup.__weakref__"),vn]⟩) []),(ob (vy "super") (.fields ⟨[(vr 186),(vr 186),(vr 186)]⟩) []),(ob (vy "builtin_function_or_method") (.fields ⟨[(vb "object.__init_subclass__"),(vr 186)]⟩) [])]
 ++f7 22 191 438 w4 ["n","word","pieces","order","sign_above","k","place","held"]
 ++f7 23 198 452 w4 ["row"]
 ++f7 24 205 459 w4 ["n","piece"]
 ++f7 25 212 467 w4 ["halves","row"]
 ++f7 26 219 475 w4 ["steps","rows","halves","step"]
 ++f5 27 226 485 w4
 ++f5 28 231 491 w4
 ++f7 29 236 497 w4 ["n","word"]
 ++f7 31 243 507 w5 ["_law_cell","_law_k","_law_factor"]
 ++f7 32 250 516 w5 ["_law_script","_law_k"]
 ++f7 33 257 524 w5 ["_law_seed","_law_least","_law_most"]
 ++f7 34 264 533 w5 ["_law_number","_law_n","_law_k"]
 ++f7 35 271 542 w5 ["_law_number","_law_n","_law_k","_law_other"]
 ++f7 36 278 552 w5 ["_law_cells","_law_n","_law_most","_law_word","_law_k","_law_cell"]
 ++f5 37 285 564 w5
 ++f7 38 290 570 w5 ["_law_n","_law_word","_law_hung","_law_k","_law_at"]
 ++f5 39 297 581 w5
 ++f5 40 302 587 w5
 ++f5 41 307 593 w5
def as:List Addr:=2::3::(range 301).map (·+11)
def K(P:Params):Frag:=as.map fun a=>(a,(FL P).getD a E)
def q:Program:=view pw [1,2,4,5,7,8,9,10,11,12,13,14,15,16,18,19,20,22,23,24,25,26,27,28,29,31,32,33,34,35,36,37,38,39,40,41]
def env:Env:={scope:=pw.main.scope,locals:=mainNs,globals:=mainNs,cells:=[],code:=vr 13,frame:=some 14}
def bd:List Stmt:=behindTheImports pw
abbrev cE:Code:=.body bd env
abbrev fr:List Frame:=[topFrame ⟨0,0,0,0⟩]
abbrev an:Option Value:=(some (vr 6))
def S(P:Params):Nat->List Obj
 |0=>(((FL P).take 15).set 12 (Pu 0)).set 3 (boot_o_3 P)
 |1=>(((FL P).take 45).set 3 (m3 P w1 11 12)).set 12 (Pu 3)
 |2=>(((FL P).take 123).set 3 (m3 P w3 24 25)).set 12 (Pu 15)
 |3=>(((FL P).take 191).set 3 (m3 P w3 25 26)).set 12 (Pu 16)
 |4=>(((FL P).take 285).set 3 (m3 P w5 39 40)).set 12 (Pu 30)
 |5=>(FL P).take 312
 |_=>[]
abbrev st(i n t:Nat)(w:World)(os:OsState):SharedT:=⟨bt 12 (S w.params i),n,(boot_heap w.params).life,⟨[]⟩,boot_drawn,t,os⟩
theorem pre(w:World)(os:OsState):topGo treeTable pw w 11 an 12 ⟨boot_heap w.params,⟨[]⟩,boot_drawn,boot_toks,os⟩ (topStub pw)=some ((st 0 15 187 w os).abs,⟨denote treeTable cE,cE,⟨0,0,0,0⟩,fr⟩):=by kernel_rfl
theorem blk(w:World)(os:OsState):segRun treeTable pw w 11 an 1 1 (st 0 15 187 w os).abs (blockOf bd env cE ⟨0,0,0,0⟩ fr)=some (.next,(st 0 15 187 w os).abs,cE,⟨0,0,0,0⟩):=by kernel_rfl
abbrev Pc(N i n t d k:Nat)(p:Pos)(n2 t2:Nat)(p2:Pos)(w:World)(os:OsState):Prop:=segRunT treeTable pw w 11 an 1 N (st i n t w os) (piecesOf ((bd.drop d).take k) env cE p fr)=some (.next,st (i+1) n2 t2 w os,cE,p2)
theorem pc0(w:World)(os:OsState):Pc 444 0 15 187 0 5 ⟨0,0,0,0⟩ 45 231 ⟨7,0,8,39⟩ w os:=by kernel_rfl
theorem pc1(w:World)(os:OsState):Pc 379 1 45 231 5 15 ⟨7,0,8,39⟩ 123 330 ⟨50,0,54,15⟩ w os:=by kernel_rfl
theorem pc2(w:World)(os:OsState):Pc 466 2 123 330 20 1 ⟨50,0,54,15⟩ 191 436 ⟨55,0,126,80⟩ w os:=by kernel_rfl
theorem pc3(w:World)(os:OsState):Pc 447 3 191 436 21 16 ⟨55,0,126,80⟩ 285 564 ⟨194,0,199,32⟩ w os:=by kernel_rfl
theorem pc4(w:World)(os:OsState):Pc 138 4 285 564 37 5 ⟨194,0,199,32⟩ 312 599 ⟨231,0,245,131⟩ w os:=by kernel_rfl
theorem fin(w:World)(os:OsState):topRun treeTable pw w 11 an 2 (st 5 312 599 w os).abs (restOf [] env cE ⟨231,0,245,131⟩ fr)=some (st 5 312 599 w os).abs:=by kernel_rfl
theorem cut:bd=((bd.drop 0).take 5++((bd.drop 5).take 15++((bd.drop 20).take 1++((bd.drop 21).take 16++((bd.drop 37).take 5++[]))))):=by kernel_rfl
theorem rest{tb:String->Option Builtin}{p:Program}{w:World}{n₀ N:Nat}{ann:Option Value}{s r:Shared}{b b':List Stmt}{e:Env}{c:Code}{ps:Pos}{B:List Frame}(h:b=b')(k:topRun tb p w n₀ ann N s (restOf b' e c ps B)=some r):topRun tb p w n₀ ann N s (restOf b e c ps B)=some r:=h▸k
theorem run(w:World)(os:OsState):topRun treeTable pw w 11 an (12+(1+(444+(379+(466+(447+(138+2))))))) ⟨boot_heap w.params,⟨[]⟩,boot_drawn,boot_toks,os⟩ (topStub pw)=some (st 5 312 599 w os).abs:=go_top (pre w os) (piece_block (blk w os) (rest cut (piece_app (segRun_of (pc0 w os)) (piece_app (segRun_of (pc1 w os)) (piece_app (segRun_of (pc2 w os)) (piece_app (segRun_of (pc3 w os)) (piece_app (segRun_of (pc4 w os)) (fin w os))))))))
def lo:List Str:=[]
def hk:Hook:=kHook K as (fun _=>by kernel_rfl)
def Xt(s:Shared):Bool:=xlAt q [] s&&recOk (OpenLaw.row PySem.Challenge.rw_braidcomb_k31_forms_are_sound).toRowW.records s
abbrev H1(P:Params):Heap:=absHeap (bt 12 (S P 5)) 312 (boot_heap P).life
theorem RL(w:World)(os:OsState):(staticsOk (importedModules pw.main.body) (boot_heap w.params) (H1 w.params)&&namesBound pw (H1 w.params)&&gensDone ⟨H1 w.params,⟨[]⟩,boot_drawn,599,os⟩&&laidKept (boot_heap w.params) (H1 w.params))=true:=by kernel_rfl
theorem RM(w:World)(os:OsState):(openSeen q lo (importedModules pw.main.body) Xt true ⟨H1 w.params,⟨[]⟩,boot_drawn,599,os⟩)=openGood q lo:=by kernel_rfl
theorem RN(w:World)(os:OsState):(hk.obs ⟨H1 w.params,⟨[]⟩,boot_drawn,599,os⟩)=hk.val w:=by kernel_rfl
theorem o1:opening pw=plainProg pw.main.scope.names:=by kernel_rfl
theorem o2(s:Shared):fenceModules? pw s=some s:=by kernel_rfl
theorem o3:ble 600 3864=true:=by kernel_rfl
theorem op(w:World):(fencedOpening treeTable pw w 3864).map (fun s=>(s.heap,s.gens,s.drawn,s.toks))=some (boot_heap w.params,⟨[]⟩,boot_drawn,boot_toks):=boot_open o1 o3 o2 w
theorem sz(w:World):((boot_heap w.params).isNs mainGlobals&&(⟨[]⟩:Array GenState).size==0,(boot_heap w.params).objs.size,(boot_heap w.params).nsMap mainGlobals "__annotations__")=(true,11,an):=by kernel_rfl
theorem le:ble (12+(1+(444+(379+(466+(447+(138+2))))))) 3864=true:=by kernel_rfl
theorem ab(w:World)(os:OsState):some (st 5 312 599 w os).abs=some ⟨H1 w.params,⟨[]⟩,boot_drawn,599,os⟩:=by kernel_rfl
theorem run'(w:World)(os:OsState):topRun treeTable pw w 11 an (12+(1+(444+(379+(466+(447+(138+2))))))) ⟨boot_heap w.params,⟨[]⟩,boot_drawn,boot_toks,os⟩ (topStub pw)=some ⟨H1 w.params,⟨[]⟩,boot_drawn,599,os⟩:=Eq.trans (run w os) (ab w os)
theorem left:LeftO pw q lo Xt hk.obs hk.val 3864 true:=
 @LeftO.of_pieces pw q lo Xt hk.α hk.obs hk.val 3864 true boot_heap H1 ⟨[]⟩ ⟨[]⟩ boot_drawn boot_drawn boot_toks 599 11 an (12+(1+(444+(379+(466+(447+(138+2))))))) op sz run' le (fun w=>funext fun os=>Prod.ext (RL w os) (Prod.ext (RM w os) (RN w os)))
end
end DL.ng.H
namespace DL.ng
open PySem PySem.Spec PyProof.Rows L2 DL
abbrev Gq:Stmt:=inClass (top 20) 1
structure Hk(K:PySem.W.Frag)(mg:Str->Option Value)(C:Addr):Prop where
 cl:DW K C
 kn:dO K C "known"
 nu:dO K C "numbers"
 fi:dO K C "firsts"
 la:dO K C "lasts"
 sh:dO K C "shorter"
 lo:dO K C "longer"
 ke:dO K C "kept"
 li:dO K C "line"
 no:dO K C "none"
 wh:dO K C "whole"
 mgC:mg "Comb"=some (.ref C)
 mtu:mg "tuple"=none
 Yz:mg "list"=none
 Tq:mg "len"=none
def zc(K:PySem.W.Frag)(C:Addr):Sp:=fun vs H Q _=>∃(a:Addr)(A:Ad)(ex:List (Str×V))(n:Nat)(kn:List RP)(ln:List Int)(B:Nat)(nu sh lo ke:List (List Key×V))(p:RP)(v:V),
 vs=[.ref a,v]/\gw C H a A ex n kn ln B nu sh lo ke/\n<=7/\B<1000000/\Iv n p.1 p.2/\Is K (fun x=>x∉a::A.all) H (.lst (aA p.1)) v/\
 ∀(i:Nat)(H':Hp)(A':Ad)(mo:List RP)(Aw:List (List Key×V)),gw C H' a A' ex n (kn++mo) ln (B+1) Aw sh lo ke->(kn++mo)[i]?=some p->gp H H' (a::A.all) (a::A'.all)->A'.li=A.li->Q (.int i) H'
section
variable{P:Program}{w:World}{K:PySem.W.Frag}{mg:Str->Option Value}{base:Heap}
theorem YA:aw ["self","row","key"] ["self","row"] (ae Gq):=⟨rfl,rfl,rfl,by decide +kernel,rfl,by decide +kernel,by decide +kernel⟩
theorem Ov{f C:Addr}{fd:FuncData}(F:yc K "number_of" "Comb.number_of" Gq f fd)(T:Hk K mg C)(t:Tb K mg)
  (uK:lZ P w K mg base 2 t.qe t.qg ["row"] pW)(n9:lZ P w K mg base 1 t.qc t.qd ["row"] nR)(Gr:Ok P w K mg base 1 t.nX t.nY ["crossings"] kC)
  (Li:∀ks:List Int,(∀k∈ks,1<=k/\k<=7)->kC [.lst (aA ks)]=.ok (.int (Al ks))):bJ P w K mg base jH 3 f fd ["self","row"] (zc K C):=by
 refine F.ok YA (fun vs H Q E h=>?_) (fun cdv A outer s H vs Q E hr h=>?_)
 ·obtain⟨a,A,ex,n,kn,ln,B,nu,sh,lo,ke,p,v,rfl,_⟩:=h
  rfl
 ·obtain⟨a,A,ex,n,kn,ln,B,nu,sh,lo,ke,p,v,rfl,c,hn,hB,iv,He,k⟩:=h
  have hu:=ph hr
  refine⟨_,az (cz (i:=2) YA.nd rfl (Or.inl rfl) (nJ vc (by rfl) T.mtu yr (au (pv 1) aC)))
   (az (rE (zB (qD hu (pv 2) (bc (pv 0) rfl)))
    (az (sH hu (bc (pv 0) rfl) (pv 2) (g4 kR (by rfl) T.Tq dQ (au (bc (pv 0) rfl) aC)) rfl)
    (az (fG (rH plainAttrs_list PySem.F.slot_list_append PySem.F.type_list_append cR (bc (pv 0) rfl) (au (nJ kT (by rfl) T.Yz jK (au (pv 1) aC)) aC)) rfl)
    (az (fG (rH plainAttrs_list PySem.F.slot_list_append PySem.F.type_list_append cR (bc (pv 0) rfl) (au (cU (E:=fun _ _ _=>False) Gr (hr.mono (by decide)) (by rfl) t.fz.m t.fz.F.kp t.fz.b .nil jJ (au (cU (E:=fun _ _ _=>False) uK (hr.mono (by decide)) (by rfl) t.nq.m t.nq.F.kp t.nq.b .nil jJ (au (pv 1) aC)) aC)) aC)) rfl)
    (bA (fG (rH plainAttrs_list PySem.F.slot_list_append PySem.F.type_list_append cR (bc (pv 0) rfl) (au (cU (E:=fun _ _ _=>False) Gr (hr.mono (by decide)) (by rfl) t.fz.m t.fz.F.kp t.fz.b .nil jJ (au (cU (E:=fun _ _ _=>False) n9 (hr.mono (by decide)) (by rfl) t.nW.m t.nW.F.kp t.nW.b .nil jJ (au (pv 1) aC)) aC)) aC)) rfl))))) jF)
   (bA (j0 (wN hu (bc (pv 0) rfl) (pv 2) (fun _ _=>rfl))))),?_⟩
  obtain⟨b,vs,rfl,lb,il⟩:=id He
  have ev:=ee il
  subst ev
  refine⟨_,rfl,b,_,rfl,.inl ⟨lb.sq,fun l hl=>?_⟩⟩
  have s1:aB H (upd H l (.tup (p.1.map V.int))):=aD hl _
  have c1:=c.same s1
  have hkey:(upd H l (.tup (p.1.map V.int))) l=some (.tup ((kk p.1).map kV)):=by rw[Wf];exact ak
  have xE:=gp.same s1 (a::A.all)
  generalize hH1:upd H l (.tup (p.1.map V.int))=H1 at s1 c1 hkey xE
  refine⟨_,rfl,_,rfl,a,C,A.dx,_,_,rfl,c1.ob,T.cl,T.nu,Bx,A.nu,_,rfl,kU.t c1.vv hkey,_,rfl,?_⟩
  by_cases hm:∃q∈kn,q.1=p.1
  ·obtain⟨q,hq,eq⟩:=hm
   have hqp:q=p:=Bw (c.rw q hq) iv eq
   subst hqp
   obtain⟨i,hi,ei⟩:=getElem_of_mem hq
   have Am:kn[i]?=some q:=by rw[getElem?_eq_getElem hi,ei]
   have hv:=c.n1 i q Am
   rw[hv]
   refine qB ?_
   refine⟨_,rfl,a,C,A.dx,_,_,rfl,c1.ob,T.cl,T.nu,Bx,_,rfl,A.nu,.int i,rfl,?_,?_⟩
   ·have:=kU.t (k:=kk q.1) c1.vv hkey
    rw[hv]at this
    exact this
   ·exact k i H1 A [] nu (by rw[append_nil];exact c1.more (by omega)) (by rw[append_nil];exact Am) xE rfl
  ·have hv:cA nu (kk p.1)=none:=c.n2 p.1 fun q hq e=>hm ⟨q,hq,e⟩
   rw[hv]
   refine rV ?_
   have hz:=c.z
   obtain⟨⟨n1,n2,n3,n4,n5,n6⟩,⟨m1,m2,m3,m4,m5,m6⟩,Oe,⟨d1,d2,d3,d4,d5,d6,d7,d8,d9⟩,RB⟩:=c.Oc
   have big:∀{x:Nat},x<=1000001->x<sizeLine:=fun h=>Nat.lt_of_le_of_lt h (by decide)
   have Jo:∀x∈A.hd,x∈a::A.all:=fun x hx=>mem_cons_of_mem _ (mem_append_left _ hx)
   refine⟨_,rfl,a,C,A.dx,_,_,rfl,c1.ob,T.cl,T.kn,wc,A.kn,_,rfl,.inl (bW.of c1.hkn),_,rfl,a,C,A.dx,_,_,rfl,c1.ob,T.cl,T.nu,Bx,_,rfl,A.nu,_,rfl,yf.t c1.vv hkey (big (by omega)),?_⟩
   rw[length_map,c.yW]
   have YB:A.kn≠A.nu:=br c.hkn c.vv (by intro z;cases z)
   have fin:A.fi≠A.nu:=br c.uU c.vv (by intro z;cases z)
   have YC:A.la≠A.nu:=br c.hla c.vv (by intro z;cases z)
   have an:a≠A.nu:=br c.ob c.vv (by intro z;cases z)
   have YD:a≠A.kn:=br c.ob c.hkn (by intro z;cases z)
   have YE:a≠A.fi:=br c.ob c.uU (by intro z;cases z)
   have ala:a≠A.la:=br c.ob c.hla (by intro z;cases z)
   have ln1:l≠A.nu:=fun z=>by rw[z,c.vv]at hl;cases hl
   generalize hH2:upd H1 A.nu (.dT (putK nu (kk p.1) (.int (kn.length:Int))))=H2
   have RO:H2 a=some (.ins C A.dx (rZ A++ex)):=by rw[<-hH2,ah an];exact c1.ob
   have Lj:H2 A.kn=some (.lst (A.ks.map V.ref)):=by rw[<-hH2,ah YB];exact c1.hkn
   have Ay:gp H H2 (a::A.all) (a::A.all):=xE.trans (by rw[<-hH2];exact gp.upd (Jo _ (by simp[Ad.hd])) _)
   have lb2:rW K (fun _=>True) H2 b (p.1.map V.int):=lb.ext ⟨fun _ _ _ _=>trivial,fun x o px hx=>Ay.kp x o px hx⟩
   refine⟨_,rfl,a,C,A.dx,_,_,rfl,RO,T.cl,T.kn,wc,.inl ⟨rfl,_,bW.of Lj⟩,_,rfl,b,_,rfl,.inl lb2.sq,fun l2 hl2=>?_⟩
   have Pq:H l2=none:=Ay.gr l2 hl2
   have l2k:A.kn≠l2:=fun z=>by rw[<-z,Lj]at hl2;cases hl2
   refine⟨A.kn,A.ks.map V.ref,.ref l2,rfl,rfl,by rw[ah l2k];exact Lj,by rw[length_map,c.yW];exact big (by omega),?_⟩
   generalize Hl:upd (upd H2 l2 (.lst (p.1.map V.int))) A.kn (.lst (A.ks.map V.ref++[.ref l2]))=H3
   have qv:gp H H3 (a::A.all) (a::A.all):=by
    rw[<-Hl]
    exact(Ay.trans (gp.same (aD hl2 _) _)).trans (gp.upd (Jo _ (by simp[Ad.hd])) _)
   have RQ:H3 a=some (.ins C A.dx (rZ A++ex)):=by rw[<-Hl,ah YD];exact aD hl2 _ _ _ RO
   have YF:H3 A.fi=some (.lst (kn.map fun p=>V.int (r6 p.2))):=by
    rw[<-Hl,ah (Ne.symm n1)]
    refine aD hl2 _ _ _ ?_
    rw[<-hH2,ah fin]
    exact c1.uU
   have lb3:rW K (fun _=>True) H3 b (p.1.map V.int):=lb.ext ⟨fun _ _ _ _=>trivial,fun x o px hx=>qv.kp x o px hx⟩
   refine⟨_,rfl,a,C,A.dx,_,_,rfl,RQ,T.cl,T.fi,FO,.inl ⟨rfl,_,bW.of YF⟩,_,rfl,_,[.lst (aA p.1)],⟨.ref b,[],rfl,⟨b,_,rfl,lb3,bE p.1⟩,rfl⟩,?_⟩
   have YG:∀(m:Nat)(x y:List Int),m<=7->Iv m x y->∀k∈xR y,1<=k/\k<=7:=fun m x y hm h k hk=>by
    obtain⟨a',e,h1,_⟩:=pY.mp hk
    rw[h.ls]at h1
    omega
   rw[CY iv hn]
   intro q ws H4 s4 hq4 hw4 iw4
   have ew:=ee iw4
   subst ew
   refine⟨fun _=>True,[.lst (aA (xR p.2))],⟨.ref q,[],rfl,⟨q,_,rfl,.inl ⟨trivial,.inl hw4⟩,bE _⟩,rfl⟩,?_⟩
   rw[Li _ (YG n p.1 p.2 hn iv)]
   intro v5 H5 s5 i5
   have e5:v5=.int (Al (xR p.2)):=i5
   subst e5
   have Jp:=s4.trans s5
   refine⟨A.fi,_,.int (r6 p.2),rfl,rfl,Jp _ _ YF,by rw[length_map];exact big (by omega),?_⟩
   generalize Hm:upd H5 A.fi (.lst ((kn.map fun p=>V.int (r6 p.2))++[V.int (r6 p.2)]))=H6
   have Tt:gp H H6 (a::A.all) (a::A.all):=by
    rw[<-Hm]
    exact(qv.trans (gp.same Jp _)).trans (gp.upd (Jo _ (by simp[Ad.hd])) _)
   have Tu:H6 a=some (.ins C A.dx (rZ A++ex)):=by rw[<-Hm,ah YE];exact Jp _ _ RQ
   have YH:H6 A.la=some (.lst (kn.map fun p=>V.int (r6 p.1))):=by
    rw[<-Hm,ah (Ne.symm n4)]
    refine Jp _ _ ?_
    rw[<-Hl,ah (Ne.symm n2)]
    refine aD hl2 _ _ _ ?_
    rw[<-hH2,ah YC]
    exact c1.hla
   have lb6:rW K (fun _=>True) H6 b (p.1.map V.int):=lb.ext ⟨fun _ _ _ _=>trivial,fun x o px hx=>Tt.kp x o px hx⟩
   refine⟨_,rfl,a,C,A.dx,_,_,rfl,Tu,T.cl,T.la,FP,.inl ⟨rfl,_,bW.of YH⟩,_,rfl,_,[.lst (aA p.1)],⟨.ref b,[],rfl,⟨b,_,rfl,lb6,bE p.1⟩,rfl⟩,?_⟩
   rw[yU p.1 (by rw[iv.lr];exact hn)]
   intro q7 ws7 H7 s7 hq7 hw7 iw7
   have ew7:=ee iw7
   subst ew7
   refine⟨fun _=>True,[.lst (aA (xR p.1))],⟨.ref q7,[],rfl,⟨q7,_,rfl,.inl ⟨trivial,.inl hw7⟩,bE _⟩,rfl⟩,?_⟩
   rw[Li _ (YG n p.2 p.1 hn iv.symm)]
   intro v8 H8 s8 i8
   have e8:v8=.int (Al (xR p.1)):=i8
   subst e8
   have Lk:=s7.trans s8
   refine⟨A.la,_,.int (r6 p.1),rfl,rfl,Lk _ _ YH,by rw[length_map];exact big (by omega),?_⟩
   generalize Ll:upd H8 A.la (.lst ((kn.map fun p=>V.int (r6 p.1))++[V.int (r6 p.1)]))=H9
   have YJ:gp H H9 (a::A.all) (a::A.all):=by
    rw[<-Ll]
    exact(Tt.trans (gp.same Lk _)).trans (gp.upd (Jo _ (by simp[Ad.hd])) _)
   have keep:∀x o,x≠A.nu->x≠A.kn->x≠A.fi->x≠A.la->H x=some o->H9 x=some o:=fun x o x1 x2 x3 x4 hx=>by
    rw[<-Ll,ah x4]
    refine Lk _ _ ?_
    rw[<-Hm,ah x3]
    refine Jp _ _ ?_
    rw[<-Hl,ah x2]
    refine aD hl2 _ _ _ ?_
    rw[<-hH2,ah x1]
    exact s1 _ _ hx
   have Tj:H9 a=some (.ins C A.dx (rZ A++ex)):=keep a _ an YD YE ala c.ob
   have Tn:H9 A.nu=some (.dT (putK nu (kk p.1) (.int (kn.length:Int)))):=by
    rw[<-Ll,ah (Ne.symm YC)]
    refine Lk _ _ ?_
    rw[<-Hm,ah (Ne.symm fin)]
    refine Jp _ _ ?_
    rw[<-Hl,ah (Ne.symm YB)]
    refine aD hl2 _ _ _ ?_
    rw[<-hH2]
    exact ak
   have Wn:H9 l=some (.tup ((kk p.1).map kV)):=by
    have lk:∀{x:Addr}{o:HO},H x=some o->l≠x:=fun hx z=>by rw[z,hx]at hl;cases hl
    rw[<-Ll,ah (lk c.hla)]
    refine Lk _ _ ?_
    rw[<-Hm,ah (lk c.uU)]
    refine Jp _ _ ?_
    rw[<-Hl,ah (lk c.hkn)]
    refine aD hl2 _ _ _ ?_
    rw[<-hH2,ah (lk c.vv)]
    exact hkey
   have Wj:H9 l2=some (.lst (p.1.map V.int)):=by
    have lk:∀{x:Addr}{o:HO},H x=some o->l2≠x:=fun hx z=>by rw[z,hx]at Pq;cases Pq
    rw[<-Ll,ah (lk c.hla)]
    refine Lk _ _ ?_
    rw[<-Hm,ah (lk c.uU)]
    refine Jp _ _ ?_
    rw[<-Hl,ah (lk c.hkn)]
    exact ak
   have Wg:H9 A.kn=some (.lst (A.ks.map V.ref++[.ref l2])):=by
    rw[<-Ll,ah n2]
    refine Lk _ _ ?_
    rw[<-Hm,ah n1]
    refine Jp _ _ ?_
    rw[<-Hl]
    exact ak
   have Wh:H9 A.fi=some (.lst ((kn.map fun p=>V.int (r6 p.2))++[V.int (r6 p.2)])):=by
    rw[<-Ll,ah n4]
    refine Lk _ _ ?_
    rw[<-Hm]
    exact ak
   have Wi:H9 A.la=some (.lst ((kn.map fun p=>V.int (r6 p.1))++[V.int (r6 p.1)])):=by
    rw[<-Ll]
    exact ak
   have vx:∀j,cA (putK nu (kk p.1) (.int (kn.length:Int))) j=if j=kk p.1 then some (.int (kn.length:Int))else cA nu j:=fun j=>je nu (kk p.1) j _
   have c9:=c.add hm iv Pq Tj Tn Wg Wh Wi Wj keep
   refine⟨_,rfl,a,C,A.dx,_,_,rfl,Tj,T.cl,T.nu,Bx,_,rfl,A.nu,.int (kn.length:Int),rfl,?_,?_⟩
   ·have:=kU.t (k:=kk p.1) Tn Wn
    rw[vx,if_pos rfl]at this
    exact this
   ·refine k kn.length H9 _ [p] _ c9 (by simp) ⟨YJ.kp,fun x hx=>?_,YJ.gr⟩ rfl
    have E7:x∈a::(A.hd++(A.ks++[l2])):=hx
    rw[<-List.append_assoc,<-cons_append]at E7
    rcases mem_append.mp E7 with h|h
    ·exact .inl h
    ·have:x=l2:=by simpa using h
     rw[this];exact .inr Pq
end
end DL.ng
namespace DL.ng
open PySem PySem.Spec PyProof.Rows L2 DL
abbrev Gs:Stmt:=inClass (top 20) 2
def Ln(C:Addr):Sp:=fun vs H Q _=>∃(a:Addr)(A:Ad)(z w:Int)(n:Nat)(kn:List RP)(ln:List Int)(B:Nat)(nu sh lo ke:List (List Key×V))(p:RP)(i j:Nat),
 vs=[.ref a,.int i,.int ((j:Int)+1)]/\gw C H a A (rO z w) n kn ln B nu sh lo ke/\n<=7/\B+1<1000000/\kn[i]?=some p/\j+1<n/\
 ∀(i':Nat)(H':Hp)(A':Ad)(mo:List RP)(Aw Ow:List (List Key×V)),gw C H' a A' (rO z w) n (kn++mo) ln (B+2) Aw Ow lo ke->(kn++mo)[i']?=some (zx p j)->gp H H' (a::A.all) (a::A'.all)->A'.li=A.li->Q (.int i') H'
section
variable{P:Program}{w:World}{K:PySem.W.Frag}{mg:Str->Option Value}{base:Heap}
theorem YK:aw ["self","number","k","step"] ["self","number","k"] (ae Gs):=⟨rfl,rfl,rfl,by decide +kernel,rfl,by decide +kernel,by decide +kernel⟩
theorem RT{f C fN:Addr}{fd Gu:FuncData}(F:yc K "without_first" "Comb.without_first" Gs f fd)(T:Hk K mg C)(t:Tb K mg)
  (mN:Meth K C "number_of" fN)(bN:Binds K Gu ["self","row"] [])(GN:bJ P w K mg base jH 3 fN Gu ["self","row"] (zc K C))
  (Wo:lZ P w K mg base 2 t.bQ t.bR ["row","k"] bO):bJ P w K mg base jH 4 f fd ["self","number","k"] (Ln C):=by
 refine F.ok YK (fun vs H Q E h=>?_) (fun cdv A outer s H vs Q E hr h=>?_)
 ·obtain⟨a,A,z,w,n,kn,ln,B,nu,sh,lo,ke,p,i,j,rfl,_⟩:=h
  rfl
 ·obtain⟨a,A,z,w,n,kn,ln,B,nu,sh,lo,ke,p,i,j,rfl,c,hn,hB,hi,hj,k⟩:=h
  have hu:=ph hr
  refine⟨_,az (cz (i:=3) YK.nd rfl (Or.inl rfl) (qy (au (pv 1) (au (pv 2) aC))))
   (az (rE (zB (qD hu (pv 3) (bc (pv 0) rfl)))
    (bA (sH hu (bc (pv 0) rfl) (pv 3) (gJ (pv 0) T.cl mN GN (hr.mono (by decide)) bN .nil lM (au (cU (E:=fun _ _ _=>False) Wo (hr.mono (by decide)) (by rfl) t.bq.m t.bq.F.kp t.bq.b .nil jJ (au (gx cJ (bc (pv 0) rfl) (pv 1) (fun _ _=>rfl)) (au (pv 2) aC))) aC)) rfl)) jF)
   (bA (j0 (wN hu (bc (pv 0) rfl) (pv 3) (fun _ _=>rfl))))),?_⟩
  refine⟨_,rfl,_,rfl,(by show 2<=sizeLine;decide),fun l hl=>?_⟩
  have s1:aB H (upd H l (.tup [.int i,.int ((j:Int)+1)])):=aD hl _
  have c1:=c.same s1
  have hkey:(upd H l (.tup [.int i,.int ((j:Int)+1)])) l=some (.tup (([.inl (i:Int),.inl ((j:Int)+1)]:List Key).map kV)):=ak
  have xE:=gp.same s1 (a::A.all)
  have RU:l∉a::A.all:=fun hx=>by
   obtain⟨o,ho⟩:=c.there hx
   rw[hl]at ho
   cases ho
  generalize hH1:upd H l (.tup [.int i,.int ((j:Int)+1)])=H1 at s1 c1 hkey xE
  refine⟨_,rfl,_,rfl,a,C,A.dx,_,_,rfl,c1.ob,T.cl,T.sh,By,A.sh,_,rfl,kU.t c1.hsh hkey,_,rfl,?_⟩
  have ej:((j:Int)+1-1).toNat=j:=by omega
  cases hv:cA sh ([.inl (i:Int),.inl ((j:Int)+1)]:List Key)with
  |some v=>
   refine qB ?_
   obtain⟨j',p',h1,h2,rfl⟩:=c.s1 i ((j:Int)+1) v hv
   rw[hi]at h1
   cases h1
   rw[ej]at h2
   refine⟨_,rfl,a,C,A.dx,_,_,rfl,c1.ob,T.cl,T.sh,By,_,rfl,A.sh,.int j',rfl,?_,?_⟩
   ·have:=kU.t (k:=[.inl (i:Int),.inl ((j:Int)+1)]) c1.hsh hkey
    rw[hv]at this
    exact this
   ·exact k j' H1 A [] nu sh (by rw[append_nil];exact c1.more (by omega)) (by rw[append_nil];exact h2) xE rfl
  |none=>
   refine rV ?_
   have iv:=c.rw p (mem_of_getElem? hi)
   have EU:i<A.ks.length:=by rw[c.yW];exact(List.getElem?_eq_some_iff.mp hi).1
   have hb1:=c1.hks i A.ks[i] p (getElem?_eq_getElem EU) hi
   refine⟨_,rfl,a,A.dx,_,rfl,c1.ob,rfl,_,rfl,a,C,A.dx,_,_,rfl,c1.ob,T.cl,T.kn,wc,_,rfl,A.kn,A.ks.map V.ref,i,.ref A.ks[i],rfl,rfl,bW.of c1.hkn,gK (by rw[getElem?_map,getElem?_eq_getElem EU];rfl),_,rfl,fun _=>True,[.lst (aA p.1),.int ((j:Int)+1)],⟨_,_,rfl,⟨_,_,rfl,.inl ⟨trivial,.inl hb1⟩,bE _⟩,⟨_,_,rfl,rfl,rfl⟩⟩,?_⟩
   rw[FJ iv hn hj]
   intro q ws H2 s2 hq2 Lc Jl
   have ew:=ee Jl
   subst ew
   have c2:=c1.same s2
   have Wq:q∉a::A.all:=fun hx=>by
    obtain⟨o,ho⟩:=c1.there hx
    rw[hq2]at ho
    cases ho
   refine⟨a,A,rO z w,n,kn,ln,B,nu,sh,lo,ke,zx p j,.ref q,rfl,c2,hn,by omega,iv.step hj,⟨q,_,rfl,.inl ⟨Wq,.inl Lc⟩,bE _⟩,fun i' H3 A' mo Aw c3 Ox qv Wr=>?_⟩
   have qm:H3 l=some (.tup (([.inl (i:Int),.inl ((j:Int)+1)]:List Key).map kV)):=qv.kp l _ RU (s2 _ _ hkey)
   have hz:=c3.z
   refine⟨_,rfl,a,C,A'.dx,_,_,rfl,c3.ob,T.cl,T.sh,By,_,rfl,A'.sh,_,rfl,yf.t c3.hsh qm (Nat.lt_of_le_of_lt (show sh.length<=1000001 by omega) (by decide)),?_⟩
   have Am:(kn++mo)[i]?=some p:=bD hi
   have c4:=c3.Og (i:=i) (j:=i') (k:=(j:Int)+1) Am (by rw[ej];exact Ox)
   have Ws:A'.sh≠l:=fun zz=>by rw[<-zz,c3.hsh]at qm;cases qm
   refine⟨_,rfl,a,C,A'.dx,_,_,rfl,c4.ob,T.cl,T.sh,By,_,rfl,A'.sh,.int i',rfl,?_,?_⟩
   ·have Wt:(upd H3 A'.sh (.dT (putK sh [.inl (i:Int),.inl ((j:Int)+1)] (.int i')))) l=some (.tup (([.inl (i:Int),.inl ((j:Int)+1)]:List Key).map kV)):=by rw[ah (Ne.symm Ws)];exact qm
    have:=kU.t (k:=[.inl (i:Int),.inl ((j:Int)+1)]) c4.hsh Wt
    rw[je,if_pos rfl]at this
    exact this
   ·refine k i' _ A' mo Aw _ c4 Ox ?_ Wr
    exact((xE.trans (gp.same s2 _)).trans qv).trans (gp.upd (mem_cons_of_mem _ (mem_append_left _ (by simp[Ad.hd]))) _)
end
abbrev Gv:Stmt:=inClass (top 20) 3
def Lo(C:Addr):Sp:=fun vs H Q _=>∃(a:Addr)(A:Ad)(z w:Int)(n:Nat)(kn:List RP)(ln:List Int)(B:Nat)(nu sh lo ke:List (List Key×V))(p:RP)(i j:Nat),
 vs=[.ref a,.int i,.int ((j:Int)+1)]/\gw C H a A (rO z w) n kn ln B nu sh lo ke/\n<=7/\B+1<1000000/\kn[i]?=some p/\j+1<n/\
 ∀(i':Nat)(H':Hp)(A':Ad)(mo:List RP)(Aw Oz:List (List Key×V)),gw C H' a A' (rO z w) n (kn++mo) ln (B+2) Aw sh Oz ke->(kn++mo)[i']?=some (yV p j)->gp H H' (a::A.all) (a::A'.all)->A'.li=A.li->Q (.int i') H'
section
variable{P:Program}{w:World}{K:PySem.W.Frag}{mg:Str->Option Value}{base:Heap}
theorem YL:aw ["self","number","k","step"] ["self","number","k"] (ae Gv):=⟨rfl,rfl,rfl,by decide +kernel,rfl,by decide +kernel,by decide +kernel⟩
theorem RV{f C fN:Addr}{fd Gu:FuncData}(F:yc K "with_last" "Comb.with_last" Gv f fd)(T:Hk K mg C)(t:Tb K mg)
  (mN:Meth K C "number_of" fN)(bN:Binds K Gu ["self","row"] [])(GN:bJ P w K mg base jH 3 fN Gu ["self","row"] (zc K C))
  (Wo:lZ P w K mg base 1 t.aP t.aQ ["row","k"] aL):bJ P w K mg base jH 4 f fd ["self","number","k"] (Lo C):=by
 refine F.ok YL (fun vs H Q E h=>?_) (fun cdv A outer s H vs Q E hr h=>?_)
 ·obtain⟨a,A,z,w,n,kn,ln,B,nu,sh,lo,ke,p,i,j,rfl,_⟩:=h
  rfl
 ·obtain⟨a,A,z,w,n,kn,ln,B,nu,sh,lo,ke,p,i,j,rfl,c,hn,hB,hi,hj,k⟩:=h
  have hu:=ph hr
  refine⟨_,az (cz (i:=3) YL.nd rfl (Or.inl rfl) (qy (au (pv 1) (au (pv 2) aC))))
   (az (rE (zB (qD hu (pv 3) (bc (pv 0) rfl)))
    (bA (sH hu (bc (pv 0) rfl) (pv 3) (gJ (pv 0) T.cl mN GN (hr.mono (by decide)) bN .nil lM (au (cU (E:=fun _ _ _=>False) Wo (hr.mono (by decide)) (by rfl) t.aM.m t.aM.F.kp t.aM.b .nil jJ (au (gx cJ (bc (pv 0) rfl) (pv 1) (fun _ _=>rfl)) (au (pv 2) aC))) aC)) rfl)) jF)
   (bA (j0 (wN hu (bc (pv 0) rfl) (pv 3) (fun _ _=>rfl))))),?_⟩
  refine⟨_,rfl,_,rfl,(by show 2<=sizeLine;decide),fun l hl=>?_⟩
  have s1:aB H (upd H l (.tup [.int i,.int ((j:Int)+1)])):=aD hl _
  have c1:=c.same s1
  have hkey:(upd H l (.tup [.int i,.int ((j:Int)+1)])) l=some (.tup (([.inl (i:Int),.inl ((j:Int)+1)]:List Key).map kV)):=ak
  have xE:=gp.same s1 (a::A.all)
  have RU:l∉a::A.all:=fun hx=>by
   obtain⟨o,ho⟩:=c.there hx
   rw[hl]at ho
   cases ho
  generalize hH1:upd H l (.tup [.int i,.int ((j:Int)+1)])=H1 at s1 c1 hkey xE
  refine⟨_,rfl,_,rfl,a,C,A.dx,_,_,rfl,c1.ob,T.cl,T.lo,BA,A.lo,_,rfl,kU.t c1.hlo hkey,_,rfl,?_⟩
  have ej:((j:Int)+1-1).toNat=j:=by omega
  cases hv:cA lo ([.inl (i:Int),.inl ((j:Int)+1)]:List Key)with
  |some v=>
   refine qB ?_
   obtain⟨j',p',h1,h2,rfl⟩:=c.l1 i ((j:Int)+1) v hv
   rw[hi]at h1
   cases h1
   rw[ej]at h2
   refine⟨_,rfl,a,C,A.dx,_,_,rfl,c1.ob,T.cl,T.lo,BA,_,rfl,A.lo,.int j',rfl,?_,?_⟩
   ·have:=kU.t (k:=[.inl (i:Int),.inl ((j:Int)+1)]) c1.hlo hkey
    rw[hv]at this
    exact this
   ·exact k j' H1 A [] nu lo (by rw[append_nil];exact c1.more (by omega)) (by rw[append_nil];exact h2) xE rfl
  |none=>
   refine rV ?_
   have iv:=c.rw p (mem_of_getElem? hi)
   have EU:i<A.ks.length:=by rw[c.yW];exact(List.getElem?_eq_some_iff.mp hi).1
   have hb1:=c1.hks i A.ks[i] p (getElem?_eq_getElem EU) hi
   refine⟨_,rfl,a,A.dx,_,rfl,c1.ob,rfl,_,rfl,a,C,A.dx,_,_,rfl,c1.ob,T.cl,T.kn,wc,_,rfl,A.kn,A.ks.map V.ref,i,.ref A.ks[i],rfl,rfl,bW.of c1.hkn,gK (by rw[getElem?_map,getElem?_eq_getElem EU];rfl),_,rfl,fun _=>True,[.lst (aA p.1),.int ((j:Int)+1)],⟨_,_,rfl,⟨_,_,rfl,.inl ⟨trivial,.inl hb1⟩,bE _⟩,⟨_,_,rfl,rfl,rfl⟩⟩,?_⟩
   rw[qX (by rw[iv.lr];exact hn) (by rw[iv.lr];exact hj)]
   intro q ws H2 s2 hq2 Lc Jl
   have ew:=ee Jl
   subst ew
   have c2:=c1.same s2
   have Wq:q∉a::A.all:=fun hx=>by
    obtain⟨o,ho⟩:=c1.there hx
    rw[hq2]at ho
    cases ho
   refine⟨a,A,rO z w,n,kn,ln,B,nu,sh,lo,ke,yV p j,.ref q,rfl,c2,hn,by omega,(iv.symm.step hj).symm,⟨q,_,rfl,.inl ⟨Wq,.inl Lc⟩,bE _⟩,fun i' H3 A' mo Aw c3 Ox qv Wr=>?_⟩
   have qm:H3 l=some (.tup (([.inl (i:Int),.inl ((j:Int)+1)]:List Key).map kV)):=qv.kp l _ RU (s2 _ _ hkey)
   have hz:=c3.z
   refine⟨_,rfl,a,C,A'.dx,_,_,rfl,c3.ob,T.cl,T.lo,BA,_,rfl,A'.lo,_,rfl,yf.t c3.hlo qm (Nat.lt_of_le_of_lt (show lo.length<=1000001 by omega) (by decide)),?_⟩
   have Am:(kn++mo)[i]?=some p:=bD hi
   have c4:=c3.Oh (i:=i) (j:=i') (k:=(j:Int)+1) Am (by rw[ej];exact Ox)
   have Ws:A'.lo≠l:=fun zz=>by rw[<-zz,c3.hlo]at qm;cases qm
   refine⟨_,rfl,a,C,A'.dx,_,_,rfl,c4.ob,T.cl,T.lo,BA,_,rfl,A'.lo,.int i',rfl,?_,?_⟩
   ·have Wt:(upd H3 A'.lo (.dT (putK lo [.inl (i:Int),.inl ((j:Int)+1)] (.int i')))) l=some (.tup (([.inl (i:Int),.inl ((j:Int)+1)]:List Key).map kV)):=by rw[ah (Ne.symm Ws)];exact qm
    have:=kU.t (k:=[.inl (i:Int),.inl ((j:Int)+1)]) c4.hlo Wt
    rw[je,if_pos rfl]at this
    exact this
   ·refine k i' _ A' mo Aw _ c4 Ox ?_ Wr
    exact((xE.trans (gp.same s2 _)).trans qv).trans (gp.upd (mem_cons_of_mem _ (mem_append_left _ (by simp[Ad.hd]))) _)
end
end DL.ng
namespace DL.ng
open PySem PySem.Spec PyProof.Rows L2 DL
abbrev Gw:Stmt:=inClass (top 20) 4
def Lp(C:Addr):Sp:=fun vs H Q _=>∃(a:Addr)(A:Ad)(z w:Int)(n:Nat)(kn:List RP)(ln:List Int)(B:Nat)(nu sh lo ke:List (List Key×V))(p q:RP)(i j:Nat),
 vs=[.ref a,.int i,.int j]/\gw C H a A (rO z w) n kn ln B nu sh lo ke/\n<=7/\B+300<1000000/\kn[i]?=some p/\kn[j]?=some q/\
 ∀(t:Addr)(i' j':Nat)(H':Hp)(A':Ad)(mo:List RP)(Aw Ow Oz:List (List Key×V)),gw C H' a A' (rO z w) n (kn++mo) ln (B+200) Aw Ow Oz ke->(kn++mo)[i']?=some (fj 50 p q).1->(kn++mo)[j']?=some (fj 50 p q).2->
  H t=none->H' t=some (.tup [.int i',.int j'])->gp H H' (a::A.all) (a::A'.all)->A'.li=A.li->Q (.ref t) H'
section
variable{P:Program}{w:World}{K:PySem.W.Frag}{mg:Str->Option Value}{base:Heap}
theorem Pw:aw ["self","one","other","free","k"] ["self","one","other"] (ae Gw):=⟨rfl,rfl,rfl,by decide +kernel,rfl,by decide +kernel,by decide +kernel⟩
theorem RW{f C fS fL:Addr}{fd Lq YM:FuncData}(F:yc K "slide" "Comb.slide" Gw f fd)(T:Hk K mg C)
  (mS:Meth K C "without_first" fS)(bS:Binds K Lq ["self","number","k"] [])(GS:bJ P w K mg base jH 4 fS Lq ["self","number","k"] (Ln C))
  (mL:Meth K C "with_last" fL)(bL:Binds K YM ["self","number","k"] [])(GL:bJ P w K mg base jH 4 fL YM ["self","number","k"] (Lo C)):bJ P w K mg base jH 5 f fd ["self","one","other"] (Lp C):=by
 refine F.ok Pw (fun vs H Q E h=>?_) (fun cdv A outer s H vs Q E hr h=>?_)
 ·obtain⟨a,A,z,w,n,kn,ln,B,nu,sh,lo,ke,p,q,i,j,rfl,_⟩:=h
  rfl
 ·obtain⟨a,A,z,w,n,kn,ln,B,nu,sh,lo,ke,p,q,i,j,rfl,c,hn,hB,hi,hj,k⟩:=h
  have hu:=ph hr
  refine⟨_,az (cz (i:=3) Pw.nd rfl (Or.inl rfl) (pe DR (gx cJ (bc (pv 0) rfl) (pv 2) (fun _ _=>rfl)) (AS DS (gx cJ (bc (pv 0) rfl) (pv 1) (fun _ _=>rfl)))))
   (az (sZ PassesOwn.never (iS jG (pv 3) fE (aK _))
    (az (cz (i:=4) Pw.nd rfl (Or.inl rfl) (wM PySem.F.plainAttrs_int PySem.F.slot_int_bit_length PySem.F.type_int_bit_length Jc (pv 3)))
    (az (cz (i:=1) Pw.nd rfl (Or.inl rfl) (gJ (pv 0) T.cl mL GL (hr.mono (by decide)) bL .nil lM (au (pv 1) (au (pv 4) aC))))
    (az (cz (i:=2) Pw.nd rfl (Or.inl rfl) (gJ (pv 0) T.cl mS GS (hr.mono (by decide)) bS .nil lM (au (pv 2) (au (pv 4) aC))))
    (bA (cz (i:=3) Pw.nd rfl (Or.inl rfl) (pe DR (gx cJ (bc (pv 0) rfl) (pv 2) (fun _ _=>rfl)) (AS DS (gx cJ (bc (pv 0) rfl) (pv 1) (fun _ _=>rfl))))))))))
   (bA (j0 (qy (au (pv 1) (au (pv 2) aC)))))),?_⟩
  have Tv:∀{H2:Hp}{A2:Ad}{Lj:List RP}{B2:Nat}{sW uL lo2:List (List Key×V)}{i2:Nat}{p2:RP},gw C H2 a A2 (rO z w) n Lj ln B2 sW uL lo2 ke->Lj[i2]?=some p2->iP (Lj.map fun p=>V.int (r6 p.2)) (i2:Int)=some (.int (r6 p2.2))/\iP (Lj.map fun p=>V.int (r6 p.1)) (i2:Int)=some (.int (r6 p2.1)):=fun c2 h2=>
   ⟨gK (by rw[getElem?_map,h2];rfl),gK (by rw[getElem?_map,h2];rfl)⟩
  have l7:∀{x:RP},Iv n x.1 x.2->x.1.length<=7/\x.2.length<=7:=fun h=>⟨by rw[h.lr];exact hn,by rw[h.ls];exact hn⟩
  have Wu:=c.rw p (mem_of_getElem? hi)
  have ivq:=c.rw q (mem_of_getElem? hj)
  refine⟨_,rfl,a,C,A.dx,_,_,rfl,c.ob,T.cl,T.fi,FO,_,rfl,A.fi,_,j,_,rfl,rfl,bW.of c.uU,(Tv c hj).1,_,rfl,a,C,A.dx,_,_,rfl,c.ob,T.cl,T.la,FP,_,rfl,A.la,_,i,_,rfl,rfl,bW.of c.hla,(Tv c hi).2,_,rfl,_,_,rfl,rfl,?_⟩
  dsimp only
  rw[BC (l7 Wu).1 (l7 ivq).2]
  refine⟨fun m σ H2=>∃(A2:Ad)(mo:List RP)(sW uL lo2:List (List Key×V))(i2 j2:Nat)(p2 q2:RP)(s:Nat)(kv:Option V),σ=[some (.ref a),some (.int i2),some (.int j2),some (.int (Al (mf p2 q2))),kv]/\gw C H2 a A2 (rO z w) n (kn++mo) ln (B+4*s) sW uL lo2 ke/\
    (kn++mo)[i2]?=some p2/\(kn++mo)[j2]?=some q2/\fj (50-s) p2 q2=fj 50 p q/\s<=dM p2.1/\m=50-s/\gp H H2 (a::A.all) (a::A2.all)/\A2.li=A.li,⟨50,A,[],nu,sh,lo,i,j,p,q,0,none,rfl,by rw[append_nil];exact c,by rw[append_nil];exact hi,by rw[append_nil];exact hj,rfl,zero_le _,rfl,gp.refl _ _,rfl⟩,?_⟩
  rintro m σ H2 ⟨A2,mo,sW,uL,lo2,i2,j2,p2,q2,s,kv,rfl,c2,hi2,Jq,hs,hsc,hm,Ay,Px⟩
  have Hd:=c2.rw p2 (mem_of_getElem? hi2)
  have He:=c2.rw q2 (mem_of_getElem? Jq)
  have aaU:=qY hn Hd
  refine⟨_,rfl,_,_,rfl,rfl,_,rfl,?_⟩
  dsimp only
  rw[FU (l7 Hd).1 (l7 He).2]
  cases hl:(mf p2 q2).getLast? with
  |none=>
   refine qB ?_
   rw[nc _ hl]at hs
   refine⟨_,rfl,_,rfl,(by show 2<=sizeLine;decide),fun t ht=>?_⟩
   have st:=aD ht (.tup [V.int i2,V.int j2])
   refine k t i2 j2 _ A2 mo sW uL lo2 ((c2.same st).more (by omega)) (by rw[<-hs];exact hi2) (by rw[<-hs];exact Jq) (Ay.gr t ht) ak (Ay.trans (gp.same st _)) Px
  |some kk'=>
   refine rV ?_
   obtain⟨j',rfl,Ah,hlt,_⟩:=nT Hd He (mem_of_getLast? hl)
   have hup:=FY Hd Ah hlt
   have YN:=qZ Hd Ah
   have aaV:=qY hn YN
   have hsl:fj (50-(s+1)) (yV p2 j') (zx q2 j')=fj 50 p q:=by
    rw[<-hs,show 50-s=(50-(s+1))+1 by omega,m9 _ hl,show((j':Int)+1-1).toNat=j' by omega]
   refine⟨fun σ' H'=>∃m'<m,∃(A2:Ad)(mo:List RP)(sW uL lo2:List (List Key×V))(i2 j2:Nat)(p2 q2:RP)(s:Nat)(kv:Option V),σ'=[some (.ref a),some (.int i2),some (.int j2),some (.int (Al (mf p2 q2))),kv]/\gw C H' a A2 (rO z w) n (kn++mo) ln (B+4*s) sW uL lo2 ke/\
    (kn++mo)[i2]?=some p2/\(kn++mo)[j2]?=some q2/\fj (50-s) p2 q2=fj 50 p q/\s<=dM p2.1/\m'=50-s/\gp H H' (a::A.all) (a::A2.all)/\A2.li=A.li,fun σ' H' h=>h,?_⟩
   refine⟨_,rfl,(by first|exact rfl|exact trivial),_,rfl,rfl,?_⟩
   dsimp only
   rw[FW (l7 Hd).1 (l7 He).2 hl]
   refine⟨_,rfl,a,A2.dx,_,rfl,c2.ob,rfl,_,rfl,_,rfl,a,A2,z,w,n,kn++mo,ln,B+4*s,sW,uL,lo2,ke,p2,i2,j',rfl,c2,hn,by omega,hi2,Ah,fun i3 H3 A3 Tw Wv Tz c3 Ox qv RX=>?_⟩
   have hj3:(kn++mo++Tw)[j2]?=some q2:=bD Jq
   refine⟨_,rfl,a,A3.dx,_,rfl,c3.ob,rfl,_,rfl,_,rfl,a,A3,z,w,n,kn++mo++Tw,ln,B+4*s+2,Wv,uL,Tz,ke,q2,j2,j',rfl,c3,hn,by omega,hj3,Ah,fun j4 H4 A4 BZ RY RZ c4 R0 OA Ww=>?_⟩
   have OB:(kn++mo++Tw++BZ)[i3]?=some (yV p2 j'):=bD Ox
   refine⟨_,rfl,a,C,A4.dx,_,_,rfl,c4.ob,T.cl,T.fi,FO,_,rfl,A4.fi,_,j4,_,rfl,rfl,bW.of c4.uU,(Tv c4 R0).1,_,rfl,a,C,A4.dx,_,_,rfl,c4.ob,T.cl,T.la,FP,_,rfl,A4.la,_,i3,_,rfl,rfl,bW.of c4.hla,(Tv c4 OB).2,_,rfl,_,_,rfl,rfl,?_⟩
   have iva:=q8 He Ah
   dsimp only
   rw[BC (l7 YN).1 (l7 iva).2]
   rw[List.append_assoc,List.append_assoc]at c4 OB R0
   refine⟨50-(s+1),by omega,A4,mo++(Tw++BZ),RY,RZ,Tz,i3,j4,yV p2 j',zx q2 j',s+1,_,rfl,?_,OB,R0,hsl,by omega,rfl,(Ay.trans qv).trans OA,Ww.trans (RX.trans Px)⟩
   rw[show B+4*(s+1)=B+4*s+2+2 by omega]
   exact c4
end
end DL.ng
namespace DL.ng
open PySem PySem.Spec PyProof.Rows L2 DL
abbrev Gx:Stmt:=inClass (top 20) 5
def Lr(C:Addr):Sp:=fun vs H Q _=>∃(a:Addr)(A:Ad)(z w:Int)(n:Nat)(kn:List RP)(ln:List Int)(B:Nat)(nu sh lo ke:List (List Key×V))(p q:RP)(i j:Nat),
 vs=[.ref a,.int i,.int j]/\gw C H a A (rO z w) n kn ln B nu sh lo ke/\n<=7/\B+400<1000000/\kn[i]?=some p/\kn[j]?=some q/\
 ∀(t:Addr)(i' j':Nat)(H':Hp)(A':Ad)(mo:List RP)(Aw Ow Oz Wx:List (List Key×V)),gw C H' a A' (rO z w) n (kn++mo) ln (B+201) Aw Ow Oz Wx->(kn++mo)[i']?=some (fj 50 p q).1->(kn++mo)[j']?=some (fj 50 p q).2->
  H' t=some (.tup [.int i',.int j'])->gp H H' (a::A.all) (a::A'.all)->A'.li=A.li->Q (.ref t) H'
section
variable{P:Program}{w:World}{K:PySem.W.Frag}{mg:Str->Option Value}{base:Heap}
theorem TF:aw ["self","one","other","pair","found"] ["self","one","other"] (ae Gx):=⟨rfl,rfl,rfl,by decide +kernel,rfl,by decide +kernel,by decide +kernel⟩
theorem R3{f C fS:Addr}{fd Lq:FuncData}(F:yc K "slide_kept" "Comb.slide_kept" Gx f fd)(T:Hk K mg C)(t:Tb K mg)
  (mS:Meth K C "slide" fS)(bS:Binds K Lq ["self","one","other"] [])(GS:bJ P w K mg base jH 5 fS Lq ["self","one","other"] (Lp C)):bJ P w K mg base jH 6 f fd ["self","one","other"] (Lr C):=by
 refine F.ok TF (fun vs H Q E h=>?_) (fun cdv A outer s H vs Q E hr h=>?_)
 ·obtain⟨a,A,z,w,n,kn,ln,B,nu,sh,lo,ke,p,q,i,j,rfl,_⟩:=h
  rfl
 ·obtain⟨a,A,z,w,n,kn,ln,B,nu,sh,lo,ke,p,q,i,j,rfl,c,hn,hB,hi,hj,k⟩:=h
  have hu:=ph hr
  refine⟨_,az (cz (i:=3) TF.nd rfl (Or.inl rfl) (qy (au (pv 1) (au (pv 2) aC))))
   (az (cz (i:=4) TF.nd rfl (Or.inl rfl) (D6 hu (bc (pv 0) rfl) (pv 3) ⟨rfl,rfl,rfl,rfl⟩))
   (az (rE (iS Mg (pv 4) DF (aK _))
    (az (cz (i:=4) TF.nd rfl (Or.inl rfl) (gJ (pv 0) T.cl mS GS (hr.mono (by decide)) bS .nil lM (au (pv 1) (au (pv 2) aC))))
    (bA (rE (iS tm (g4 CW (by rfl) T.Tq dQ (au (bc (pv 0) rfl) aC)) (Hv (by rfl) t.ql (v:=.int 200000) ⟨_,rfl⟩) (aK _))
     (bA (sH hu (bc (pv 0) rfl) (pv 3) (pv 4) rfl)) jF))) jF)
   (bA (j0 (pv 4))))),?_⟩
  refine⟨_,rfl,_,rfl,(by show 2<=sizeLine;decide),fun l hl=>?_⟩
  have s1:aB H (upd H l (.tup [.int i,.int j])):=aD hl _
  have c1:=c.same s1
  have hkey:(upd H l (.tup [.int i,.int j])) l=some (.tup (([.inl (i:Int),.inl (j:Int)]:List Key).map kV)):=ak
  have xE:=gp.same s1 (a::A.all)
  have RU:l∉a::A.all:=fun hx=>by
   obtain⟨o,ho⟩:=c.there hx
   rw[hl]at ho
   cases ho
  generalize hH1:upd H l (.tup [.int i,.int j])=H1 at s1 c1 hkey xE
  refine⟨_,rfl,a,C,A.dx,_,_,rfl,c1.ob,T.cl,T.ke,FQ,A.ke,rfl,.inr ⟨_,.inl c1.hke⟩,_,rfl,_,kU.t c1.hke hkey,?_⟩
  cases hv:cA ke ([.inl (i:Int),.inl (j:Int)]:List Key)with
  |some v=>
   obtain⟨t',i',j',p',q',h1,h2,rfl,h4,h5,h6⟩:=c1.k1 i j v hv
   rw[hi]at h1
   rw[hj]at h2
   cases h1
   cases h2
   refine⟨_,rfl,rfl,_,rfl,?_⟩
   rw[decide_eq_false (show¬((some (V.ref t')).getD .non=.non)from fun zz=>nomatch zz)]
   refine qB ?_
   exact⟨_,rfl,k t' i' j' H1 A [] nu sh lo ke (by rw[append_nil];exact c1.more (by omega)) (by rw[append_nil];exact h5) (by rw[append_nil];exact h6) h4 xE rfl⟩
  |none=>
   refine⟨_,rfl,rfl,_,rfl,?_⟩
   rw[decide_eq_true (show((none:Option V).getD .non=.non)from rfl)]
   refine rV ?_
   refine⟨_,rfl,a,A.dx,_,rfl,c1.ob,rfl,_,rfl,_,rfl,a,A,z,w,n,kn,ln,B,nu,sh,lo,ke,p,q,i,j,rfl,c1,hn,by omega,hi,hj,fun t' i' j' H2 A2 mo sW uL lo2 c2 hi2 Jq htn TH Ay Px=>?_⟩
   have hz:=c2.z
   have R4:=xE.trans Ay
   refine⟨_,rfl,a,C,A2.dx,_,_,rfl,c2.ob,T.cl,T.ke,FQ,A2.ke,_,rfl,c2.hke,_,_,rfl,rfl,_,rfl,?_⟩
   generalize decide ((ke.length:Int)<200000)=bb
   cases bb with
   |true=>
    refine rV ?_
    have R5:H2 l=some (.tup (([.inl (i:Int),.inl (j:Int)]:List Key).map kV)):=Ay.kp l _ RU hkey
    refine⟨_,rfl,_,rfl,a,C,A2.dx,_,_,rfl,c2.ob,T.cl,T.ke,FQ,_,rfl,A2.ke,_,rfl,yf.t c2.hke R5 (Nat.lt_of_le_of_lt (show ke.length<=1000001 by omega) (by decide)),?_⟩
    have c3:=c2.Oi (bD hi) (bD hj) TH hi2 Jq
    refine⟨_,rfl,k t' i' j' _ A2 mo sW uL lo2 _ c3 hi2 Jq ?_ (R4.trans (gp.upd (mem_cons_of_mem _ (mem_append_left _ (by simp[Ad.hd]))) _)) Px⟩
    rw[ah (br TH c2.hke (by intro zz;cases zz))]
    exact TH
   |false=>
    refine qB ?_
    exact⟨_,rfl,k t' i' j' H2 A2 mo sW uL lo2 ke (c2.more (by omega)) hi2 Jq TH R4 Px⟩
end
end DL.ng
namespace DL.ng
open PySem PySem.Spec PyProof.Rows L2 DL
abbrev Gy:Stmt:=inClass (top 20) 6
def Ls(K:PySem.W.Frag)(C:Addr):Sp:=fun vs H Q _=>∃(a:Addr)(A:Ad)(zn:Nat)(w:Int)(n:Nat)(kn:List RP)(ls:List Nat)(R:List RP)(B:Nat)(nu sh lo ke:List (List Key×V))(p:RP)(v:V),
 vs=[.ref a,v]/\gw C H a A (rO zn w) n kn (nI ls) B nu sh lo ke/\b7 kn ls R/\kn[zn]?=some (upTo n,upTo n)/\n<=7/\B+402*(R.length+1)<900000/\R.length<=1000/\Iv n p.1 p.2/\Is K (fun x=>x∉a::A.all) H (.lst (aA p.1)) v/\
 ∀(H':Hp)(A':Ad)(mo:List RP)(YQ:List Nat)(Aw Ow Oz Wx:List (List Key×V)),gw C H' a A' (rO zn w) n (kn++mo) (nI YQ) (B+402*(R.length+1)) Aw Ow Oz Wx->b7 (kn++mo) YQ (fU n R p)->gp H H' (a::A.all) (a::A'.all)->Q .non H'
section
variable{P:Program}{w:World}{K:PySem.W.Frag}{mg:Str->Option Value}{base:Heap}
theorem R6:aw ["self","row","line","place","pair"] ["self","row"] (ae Gy):=⟨rfl,rfl,rfl,by decide +kernel,rfl,by decide +kernel,by decide +kernel⟩
theorem R7{f C fN fS:Addr}{fd Gu Lq:FuncData}(F:yc K "put" "Comb.put" Gy f fd)(T:Hk K mg C)
  (mN:Meth K C "number_of" fN)(bN:Binds K Gu ["self","row"] [])(GN:bJ P w K mg base jH 3 fN Gu ["self","row"] (zc K C))
  (mS:Meth K C "slide_kept" fS)(bS:Binds K Lq ["self","one","other"] [])(GS:bJ P w K mg base jH 6 fS Lq ["self","one","other"] (Lr C)):bJ P w K mg base jH 7 f fd ["self","row"] (Ls K C):=by
 refine F.ok R6 (fun vs H Q E h=>?_) (fun cdv A outer s H vs Q E hr h=>?_)
 ·obtain⟨a,A,zn,w,n,kn,ls,R,B,nu,sh,lo,ke,p,v,rfl,_⟩:=h
  rfl
 ·obtain⟨a,A,zn,w,n,kn,ls,R,B,nu,sh,lo,ke,p,v,rfl,c,hR,YR,hn,hB,hRl,Wu,isr,k⟩:=h
  have hu:=ph hr
  refine⟨_,az (cz (i:=2) R6.nd rfl (Or.inl rfl) (bc (pv 0) rfl))
   (az (fG (rH plainAttrs_list PySem.F.slot_list_append PySem.F.type_list_append cR (pv 2) (au (gJ (pv 0) T.cl mN GN (hr.mono (by decide)) bN .nil lM (au (pv 1) aC)) aC)) rfl)
   (az (cz (i:=3) R6.nd rfl (Or.inl rfl) (pe bu (g4 kR (by rfl) T.Tq dQ (au (pv 2) aC)) fE))
   (az (sZ PassesOwn.never (iS jG (pv 3) fE (aK _))
    (az (cz (i:=4) R6.nd rfl (Or.inl rfl) (gJ (pv 0) T.cl mS GS (hr.mono (by decide)) bS .nil lM (au (gx cJ (pv 2) (pe bu (pv 3) fE) (fun _ _=>rfl)) (au (gx cJ (pv 2) (pv 3) (fun _ _=>rfl)) aC))))
    (az (rE (iS DT (gx wK (pv 4) fE (fun _ _=>rfl)) (gx cJ (pv 2) (pe bu (pv 3) fE) (fun _ _=>rfl)) (aK _)) (bA DH) jF)
    (az (zD (gx wK (pv 4) fE (fun _ _=>rfl)) (zC (pv 2) (pe bu (pv 3) fE) set_list (by intro _;rfl)) rfl rfl rfl)
    (az (zD (gx wK (pv 4) fE (fun _ _=>rfl)) (zC (pv 2) (pv 3) set_list (by intro _;rfl)) rfl rfl rfl)
    (bA (zE (i:=3) R6.nd rfl (Or.inl rfl) fE L6)))))))
   (bA (rE (iS DT (gx cJ (pv 2) (AS jc fE) (fun _ _=>rfl)) (bc (pv 0) rfl) (aK _))
    (bA (fG (wM plainAttrs_list slot_list_pop type_list_pop D2 (pv 2)) rfl)) jF))))),?_⟩
  refine⟨_,rfl,a,C,A.dx,_,_,rfl,c.ob,T.cl,T.li,yX,?_⟩
  refine⟨_,rfl,.inl ⟨rfl,_,bW.of c.hli⟩,_,rfl,a,A.dx,_,rfl,c.ob,rfl,_,rfl,a,A,rO zn w,n,kn,nI ls,B,nu,sh,lo,ke,p,v,rfl,c,hn,by omega,Wu,isr,fun i1 H1 A1 R8 R9 c1 hi1 xE Py=>?_⟩
  have hz:=c1.z
  have Ti:=hR.len
  have big:∀{x:Nat},x<=1000001->x<sizeLine:=fun h=>Nat.lt_of_le_of_lt h (by decide)
  refine⟨A.li,(nI ls).map V.int,.int i1,rfl,rfl,by rw[<-Py];exact c1.hli,by rw[length_map,j6];exact big (by omega),?_⟩
  have YS:b7 (kn++R8) (ls++[i1]) (R++[p]):=hR.pre.app hi1
  have c2:=c1.yZ YS.li
  rw[Ol,Py]at c2
  have Ay:gp H (upd H1 A.li (.lst ((nI ls).map V.int++[.int i1]))) (a::A.all) (a::A1.all):=xE.trans (gp.upd (by rw[<-Py];exact mem_cons_of_mem _ (mem_append_left _ (by simp[Ad.hd]))) _)
  generalize upd H1 A.li (.lst ((nI ls).map V.int++[.int i1]))=H2 at c2 Ay
  have Wy:H2 A.li=some (.lst ((nI (ls++[i1])).map V.int)):=by rw[<-Py];exact c2.hli
  refine⟨_,rfl,A.li,_,rfl,.inl (bW.of Wy),_,_,rfl,rfl,?_⟩
  have epl:((((nI (ls++[i1])).map V.int).length:Nat):Int)-1=(R.length:Nat):=by
   rw[length_map,j6,length_append,length_singleton]
   omega
  dsimp only
  rw[epl]
  refine⟨fun m σ H2=>∃(A2:Ad)(mo:List RP)(sW uL lo2 Hn:List (List Key×V))(Sd:List Nat)(t:Nat)(cr:RP)(dn:List RP)(pr:Option V),σ=[some (.ref a),some v,some (.ref A.li),some (.int t),pr]/\gw C H2 a A2 (rO zn w) n (kn++mo) (nI Sd) (B+1+201*(R.length-t)) sW uL lo2 Hn/\
    b7 (kn++mo) Sd (R.take t++cr::dn)/\t<=R.length/\(ux (R.take t).reverse cr).reverse++dn=sO R p/\m=t/\gp H H2 (a::A.all) (a::A2.all)/\A2.li=A.li,
   ⟨R.length,A1,R8,R9,sh,lo,ke,ls++[i1],R.length,p,[],none,rfl,by rw[sub_self];exact c2,by rw[take_length];exact YS,Nat.le_refl _,by rw[take_length,append_nil];rfl,rfl,Ay,Py⟩,?_⟩
  rintro m σ H3 ⟨A3,mo,Wv,sh3,Tz,ke3,uV,t,cr,dn,pr,rfl,c3,hL,htR,hT,rfl,qv,RX⟩
  have hli:H3 A.li=some (.lst ((nI uV).map V.int)):=by rw[<-RX];exact c3.hli
  refine⟨_,rfl,_,_,rfl,rfl,_,rfl,?_⟩
  cases m with
  |zero=>
   rw[decide_eq_false (by omega)]
   refine qB ?_
   have Lu:b7 (kn++mo) uV (sO R p):=by
    rw[<-hT]
    exact hL
   obtain⟨m1,r1,hm1,hm2,Pz⟩:=Lu.last (by rw[sP];omega)
   refine⟨_,rfl,_,rfl,A.li,_,-1,_,rfl,rfl,bW.of hli,tJ (sQ hm1),_,rfl,a,C,A3.dx,_,_,rfl,c3.ob,T.cl,T.no,K8,rfl,_,rfl,?_⟩
   have hz2:(kn++mo)[zn]?=some (upTo n,upTo n):=bD YR
   by_cases hq:r1=(upTo n,upTo n)
   ·rw[decide_eq_true (show V.int (m1:Int)=V.int (zn:Int)from congrArg V.int ((c3.inj Pz hz2).mpr hq))]
    refine rV ?_
    refine⟨_,rfl,.inl ⟨rfl,_,bW.of hli⟩,A.li,_,_,rfl,rfl,hli,BE (sQ hm1),?_⟩
    rw[BF,<-RX]
    have hdr:b7 (kn++mo) uV.dropLast (fU n R p):=by
     unfold fU
     rw[if_pos (by rw[hm2,hq])]
     exact Lu.drop
    exact k _ A3 mo uV.dropLast _ _ _ _ ((c3.yZ hdr.li).more (by omega)) hdr (qv.trans (gp.upd (mem_cons_of_mem _ (mem_append_left _ (by simp[Ad.hd]))) _))
   ·rw[decide_eq_false (show¬V.int (m1:Int)=V.int (zn:Int)from fun e=>hq ((c3.inj Pz hz2).mp (by injection e)))]
    refine qB ?_
    have hdr:b7 (kn++mo) uV (fU n R p):=by
     unfold fU
     rw[if_neg (by rw[hm2];exact fun e=>hq (Option.some.inj e))]
     exact Lu
    exact k _ A3 mo uV _ _ _ _ (c3.more (by omega)) hdr qv
  |succ t=>
   rw[decide_eq_true (by omega)]
   refine rV ?_
   have Wz:R[t]?=some (R[t]'(by omega)):=getElem?_eq_getElem (by omega)
   generalize R[t]'(by omega)=r at Wz
   have YT:R.take (t+1)=R.take t++[r]:=by rw[take_succ,Wz];rfl
   have YU:(R.take t).length=t:=by rw[length_take];omega
   have g1:(R.take (t+1)++cr::dn)[t]?=some r:=by
    rw[YT,List.append_assoc,getElem?_append_right (by omega),YU,sub_self]
    rfl
   have g2:(R.take (t+1)++cr::dn)[t+1]?=some cr:=by
    rw[getElem?_append_right (by rw[length_take];omega),show t+1-(R.take (t+1)).length=0 by rw[length_take];omega]
    rfl
   obtain⟨ma,la,ka⟩:=hL.at g1
   obtain⟨mb,lb,kb⟩:=hL.at g2
   refine⟨fun σ' H'=>∃m'<t+1,∃(A2:Ad)(mo:List RP)(sW uL lo2 Hn:List (List Key×V))(Sd:List Nat)(t:Nat)(cr:RP)(dn:List RP)(pr:Option V),σ'=[some (.ref a),some v,some (.ref A.li),some (.int t),pr]/\gw C H' a A2 (rO zn w) n (kn++mo) (nI Sd) (B+1+201*(R.length-t)) sW uL lo2 Hn/\
    b7 (kn++mo) Sd (R.take t++cr::dn)/\t<=R.length/\(ux (R.take t).reverse cr).reverse++dn=sO R p/\m'=t/\gp H H' (a::A.all) (a::A2.all)/\A2.li=A.li,fun σ' H' h=>h,?_⟩
   have TJ:((t+1:Nat):Int)-1=(t:Nat):=by omega
   refine⟨_,rfl,a,A3.dx,_,rfl,c3.ob,rfl,_,rfl,_,rfl,_,_,rfl,rfl,A.li,_,((t+1:Nat):Int)-1,.int ma,rfl,rfl,bW.of hli,by rw[TJ];exact gK (q9 la),_,rfl,_,rfl,A.li,_,((t+1:Nat):Int),.int mb,rfl,rfl,bW.of hli,gK (q9 lb),
    a,A3,zn,w,n,kn++mo,nI uV,_,Wv,sh3,Tz,ke3,r,cr,ma,mb,rfl,c3,hn,by omega,ka,kb,fun tt i4 j4 H4 A4 BZ RY RZ WA WB c4 OB R0 TN OA Ww=>?_⟩
   have zd:=Ww.trans RX
   have Jr:H4 A.li=some (.lst ((nI uV).map V.int)):=by rw[<-zd];exact c4.hli
   refine⟨_,rfl,tt,_,0,_,rfl,rfl,xZ.of TN,rfl,_,rfl,_,rfl,_,_,rfl,rfl,A.li,_,((t+1:Nat):Int)-1,.int ma,rfl,rfl,bW.of Jr,by rw[TJ];exact gK (q9 la),rfl,_,rfl,?_⟩
   have YV:(kn++mo++BZ)[ma]?=some r:=bD ka
   have hsl:=F0 (c:=cr) Wz
   by_cases TQ:(fj 50 r cr).1=r
   ·rw[decide_eq_true (show V.int (i4:Int)=V.int (ma:Int)from congrArg V.int ((c4.inj OB YV).mpr TQ))]
    refine rV ?_
    have Lu:b7 (kn++mo++BZ) uV (sO R p):=by
     rw[<-hT,hsl,if_pos TQ,reverse_cons,reverse_reverse,show R.take (t+1)++[cr]++dn=R.take (t+1)++cr::dn by rw[List.append_assoc];rfl]
     exact hL.pre
    have hli:=Jr
    obtain⟨m1,r1,hm1,hm2,Pz⟩:=Lu.last (by rw[sP];omega)
    rw[List.append_assoc]at c4 Pz Lu
    refine⟨_,rfl,_,rfl,A.li,_,-1,_,rfl,rfl,bW.of hli,tJ (sQ hm1),_,rfl,a,C,A4.dx,_,_,rfl,c4.ob,T.cl,T.no,K8,rfl,_,rfl,?_⟩
    have hz2:(kn++(mo++BZ))[zn]?=some (upTo n,upTo n):=bD YR
    by_cases hq:r1=(upTo n,upTo n)
    ·rw[decide_eq_true (show V.int (m1:Int)=V.int (zn:Int)from congrArg V.int ((c4.inj Pz hz2).mpr hq))]
     refine rV ?_
     refine⟨_,rfl,.inl ⟨rfl,_,bW.of hli⟩,A.li,_,_,rfl,rfl,hli,BE (sQ hm1),?_⟩
     rw[BF,<-zd]
     have hdr:b7 (kn++(mo++BZ)) uV.dropLast (fU n R p):=by
      unfold fU
      rw[if_pos (by rw[hm2,hq])]
      exact Lu.drop
     exact k _ A4 (mo++BZ) uV.dropLast _ _ _ _ ((c4.yZ hdr.li).more (by omega)) hdr ((qv.trans OA).trans (gp.upd (mem_cons_of_mem _ (mem_append_left _ (by simp[Ad.hd]))) _))
    ·rw[decide_eq_false (show¬V.int (m1:Int)=V.int (zn:Int)from fun e=>hq ((c4.inj Pz hz2).mp (by injection e)))]
     refine qB ?_
     have hdr:b7 (kn++(mo++BZ)) uV (fU n R p):=by
      unfold fU
      rw[if_neg (by rw[hm2];exact fun e=>hq (Option.some.inj e))]
      exact Lu
     exact k _ A4 (mo++BZ) uV _ _ _ _ (c4.more (by omega)) hdr (qv.trans OA)
   ·rw[decide_eq_false (show¬V.int (i4:Int)=V.int (ma:Int)from fun e=>TQ ((c4.inj OB YV).mp (by injection e)))]
    refine qB ?_
    have lt1:t+1<uV.length:=(List.getElem?_eq_some_iff.mp lb).1
    have ixa:o6 ((nI uV).map V.int).length (((t+1:Nat):Int)-1)=some t:=by
     unfold L2.o6
     rw[TJ,if_pos (by omega),if_pos (by rw[length_map,j6];omega),toNat_natCast]
    refine⟨_,rfl,tt,_,0,_,rfl,rfl,xZ.of TN,rfl,_,rfl,_,rfl,_,_,rfl,rfl,A.li,_,_,t,rfl,rfl,Jr,ixa,?_⟩
    have YW:b7 (kn++mo++BZ) (uV.set t i4) ((R.take (t+1)++cr::dn).set t (fj 50 r cr).1):=hL.pre.set t OB
    have c5:=c4.yZ YW.li
    rw[zd,<-FZ]at c5
    have Cv:gp H (upd H4 A.li (.lst (((nI uV).map V.int).set t (.int i4)))) (a::A.all) (a::A4.all):=(qv.trans OA).trans (gp.upd (by rw[<-zd];exact mem_cons_of_mem _ (mem_append_left _ (by simp[Ad.hd]))) _)
    have Pf:(upd H4 A.li (.lst (((nI uV).map V.int).set t (.int i4)))) tt=some (.tup [.int i4,.int j4]):=by rw[ah (br TN Jr (by intro zz;cases zz))];exact TN
    generalize upd H4 A.li (.lst (((nI uV).map V.int).set t (.int i4)))=H5 at c5 Cv Pf
    have WC:H5 A.li=some (.lst ((nI (uV.set t i4)).map V.int)):=by rw[<-zd];exact c5.hli
    have ixb:o6 ((nI (uV.set t i4)).map V.int).length ((t+1:Nat):Int)=some (t+1):=by
     unfold L2.o6
     rw[if_pos (by omega),if_pos (by rw[length_map,j6,length_set];omega),toNat_natCast]
    refine⟨_,rfl,tt,_,1,_,rfl,rfl,xZ.of Pf,rfl,_,rfl,_,rfl,A.li,_,_,t+1,rfl,rfl,WC,ixb,?_⟩
    have TR:=YW.set (t+1) R0
    have c6:=c5.yZ TR.li
    rw[zd,<-FZ]at c6
    have Tt:gp H (upd H5 A.li (.lst (((nI (uV.set t i4)).map V.int).set (t+1) (.int j4)))) (a::A.all) (a::A4.all):=Cv.trans (gp.upd (by rw[<-zd];exact mem_cons_of_mem _ (mem_append_left _ (by simp[Ad.hd]))) _)
    refine⟨_,rfl,_,_,rfl,rfl,?_⟩
    have WD:((R.take (t+1)++cr::dn).set t (fj 50 r cr).1).set (t+1) (fj 50 r cr).2=R.take t++(fj 50 r cr).1::(fj 50 r cr).2::dn:=by
     rw[YT,List.append_assoc,List.set_append_right _ _ (by omega),List.set_append_right _ _ (by omega),YU,sub_self,show t+1-t=1 by omega]
     rfl
    rw[WD]at TR
    rw[List.append_assoc]at c6 TR
    dsimp only
    rw[TJ]
    refine⟨t,by omega,A4,mo++BZ,RY,RZ,WA,WB,_,t,(fj 50 r cr).1,(fj 50 r cr).2::dn,_,rfl,c6.more (by omega),TR,by omega,?_,rfl,Tt,zd⟩
    rw[<-hT,hsl,if_neg TQ,reverse_cons,List.append_assoc]
    rfl
end
end DL.ng
namespace DL.ng
open PySem PySem.Spec PyProof.Rows L2 DL
abbrev B0:Stmt:=inClass (top 20) 7
def WE(K:PySem.W.Frag):TE:=Uz (fun xs H Q=>∃p ys,xs=[V.ref p]/\(bW K H p ys\/xZ K H p ys)/\∀l,H l=none->Q (.ref l) (upd H l (.lst ys))) (DX (P9 (Mi K) (Qh K (Hu 1) "known") (Hu 0)) HL)
def Lv(K:PySem.W.Frag)(C:Addr):Sp:=fun vs H Q _=>∃(a:Addr)(A:Ad)(z:Int)(wn n:Nat)(kn:List RP)(ls:List Nat)(R:List RP)(B:Nat)(nu sh lo ke:List (List Key×V)),
 vs=[.ref a]/\gw C H a A (rO z wn) n kn (nI ls) B nu sh lo ke/\b7 kn ls R/\kn[wn]?=some (mh n)/\R.length<=1000/\∀(v:V)(H':Hp),aB H H'->Is K (fun x=>H x=none) H' (rP n R) v->Q v H'
section
variable{P:Program}{w:World}{K:PySem.W.Frag}{mg:Str->Option Value}{base:Heap}
theorem WG:aw ["self","many"] ["self"] (ae B0):=⟨rfl,rfl,rfl,by decide +kernel,rfl,by decide +kernel,by decide +kernel⟩
theorem Se{f C:Addr}{fd:FuncData}(F:yc K "form_told" "Comb.form_told" B0 f fd)(T:Hk K mg C):bJ P w K mg base jH 1 f fd ["self"] (Lv K C):=by
 refine F.ok WG (fun vs H Q E h=>?_) (fun cdv A outer s H vs Q E hr h=>?_)
 ·obtain⟨a,A,z,wn,n,kn,ls,R,B,nu,sh,lo,ke,rfl,_⟩:=h
  rfl
 ·obtain⟨a,A,z,wn,n,kn,ls,R,B,nu,sh,lo,ke,rfl,c,hR,YX,hRl,k⟩:=h
  have hu:=ph hr
  refine⟨_,az (cz (i:=1) WG.nd rfl (Or.inl rfl) fE)
   (az (sZ PassesOwn.never (pw_and (iS tm (pv 1) (g4 kR (by rfl) T.Tq dQ (au (bc (pv 0) rfl) aC)) (aK _)) (pw_and1 (iS DT (gx cJ (bc (pv 0) rfl) (pv 1) (fun _ _=>rfl)) (bc (pv 0) rfl) (aK _)))).pt
    (bA (zE (i:=1) WG.nd rfl (Or.inl rfl) fE DK)))
   (bA (j0 (qy (au (pv 1) (au (Ge (te:=WE K) (Du (N:=["number","self"]) (nt:=1) (caps:=[0]) (ae B0) ["self","many"] (by decide +kernel)) rfl (sE (x9 AX (bc (pv 0) rfl) (AV (pv 1)) AU)) (fun _ _ _ _ _=>wH (i:=0) (by show Nodup (["number","self"]:List Str);decide +kernel) rfl (Or.inl rfl)) (fun _ _ _ _ _=>by exact nJ kT (by rfl) T.Yz jK (au (gx cJ (bc (pv 1) rfl) (pv 0) (fun _ _=>rfl)) aC))) aC)))))),?_⟩
  refine⟨fun m σ H2=>∃i:Nat,σ=[some (.ref a),some (.int i)]/\H2=H/\i<=R.length/\(∀j<i,R[j]?=some (mh n))/\m=R.length-i,⟨R.length,0,rfl,rfl,zero_le _,fun j hj=>absurd hj (Nat.not_lt_zero _),rfl⟩,?_⟩
  rintro m σ H2 ⟨i,rfl,rfl,YY,hal,hm⟩
  refine⟨_,rfl,_,rfl,a,C,A.dx,_,_,rfl,c.ob,T.cl,T.li,yX,A.li,_,rfl,.inl (bW.of c.hli),_,_,rfl,rfl,_,rfl,?_⟩
  by_cases hlt:i<R.length
  ·rw[decide_eq_true (show(i:Int)<(((nI ls).map V.int).length:Nat)by rw[length_map,j6,hR.len];omega)]
   refine rV ?_
   obtain⟨mi,hm1,hm2⟩:=hR.at (getElem?_eq_getElem hlt)
   refine⟨_,rfl,a,C,A.dx,_,_,rfl,c.ob,T.cl,T.li,yX,_,rfl,A.li,_,i,.int mi,rfl,rfl,bW.of c.hli,gK (q9 hm1),_,rfl,a,C,A.dx,_,_,rfl,c.ob,T.cl,T.wh,RD,rfl,_,rfl,?_⟩
   by_cases he:R[i]=mh n
   ·rw[decide_eq_true (show V.int (mi:Int)=V.int (wn:Int)from congrArg V.int ((c.inj hm2 YX).mpr he))]
    refine rV ?_
    refine⟨fun σ' H'=>∃m'<m,∃i:Nat,σ'=[some (.ref a),some (.int i)]/\H'=H2/\i<=R.length/\(∀j<i,R[j]?=some (mh n))/\m'=R.length-i,fun _ _ h=>h,_,rfl,_,_,rfl,rfl,R.length-(i+1),by omega,i+1,rfl,rfl,hlt,fun j hj=>?_,rfl⟩
    by_cases hji:j<i
    ·exact hal j hji
    ·have:j=i:=by omega
     subst this
     rw[getElem?_eq_getElem hlt,he]
   ·rw[decide_eq_false (show¬V.int (mi:Int)=V.int (wn:Int)from fun e=>he ((c.inj hm2 YX).mp (by injection e)))]
    refine qB ?_
    have hcn:j7 n R=i:=y0 hal (by rw[getElem?_eq_getElem hlt];exact fun e=>he (Option.some.inj e))
    have OC:uZ ((nI ls).map V.int) (some (i:Int)) none=(nI (ls.drop i)).map V.int:=by
     unfold uZ nI
     rw[kQ _ _ _ (by omega),my,toNat_natCast,length_map,length_map,hR.len,min_eq_left YY,map_drop,map_drop]
     refine take_of_length_le ?_
     rw[length_drop,length_map,length_map,hR.len]
     exact Nat.le_refl _
    refine⟨_,rfl,_,rfl,a,C,A.dx,_,_,rfl,c.ob,T.cl,T.li,yX,_,rfl,_,rfl,A.li,_,rfl,bW.of c.hli,fun q hq=>?_⟩
    rw[OC]
    have s1:=aD hq (.lst ((nI (ls.drop i)).map V.int))
    have hq1:(upd H2 q (.lst ((nI (ls.drop i)).map V.int))) q=some (.lst ((nI (ls.drop i)).map V.int)):=ak
    generalize upd H2 q (.lst ((nI (ls.drop i)).map V.int))=H1 at s1 hq1
    have OD:b7 kn (ls.drop i) (R.drop i):=by
     unfold b7
     rw[map_drop,map_drop,show ls.map (fun m=>kn[m]?)=R.map some from hR]
    refine⟨q,rfl,⟨_,bW.of hq1⟩,q,_,[.ref a],rfl,bW.of hq1,rfl,fun j i' v e1 e2=>?_,fun Dd hD=>?_⟩
    ·match j with
     |0=>
      have z1:0=i':=by simpa using e1
      have z2:V.ref a=v:=by simpa using e2
      subst z1 z2
      rfl
     |j+1=>simp at e1
    ·refine⟨fun j acc Hx=>∃as:List Addr,acc=as.map V.ref/\as.length=j/\j<=(R.drop i).length/\aB H1 Hx/\Hx Dd=some (.lst acc)/\(∀b∈as,H1 b=none/\b≠Dd)/\∀(k:Nat)(b:Addr)(r:RP),as[k]?=some b->(R.drop i)[k]?=some r->Hx b=some (.lst (r.1.map V.int)),⟨[],rfl,rfl,zero_le _,aD hD _,ak,(fun b hb=>nomatch hb),fun k b r e=>by simp at e⟩,?_,?_,?_⟩
     ·rintro j acc Hx ⟨as,rfl,_,_,sx,C4,_⟩
      exact⟨bW.of (sx _ _ hq1),C4⟩
     ·rintro j acc Hx x ⟨as,rfl,hj,OE,sx,C4,hnew,hat⟩ hx
      have WH:j<(ls.drop i).length:=by
       have:=(List.getElem?_eq_some_iff.mp hx).1
       rwa [length_map,j6]at this
      have Js:j<(R.drop i).length:=by rw[<-OD.len];exact WH
      obtain⟨m,hm1,hm2⟩:=OD.at (getElem?_eq_getElem Js)
      rw[q9 hm1]at hx
      cases hx
      have cx:=c.same (s1.trans sx)
      have CO:m<A.ks.length:=by rw[c.yW];exact(List.getElem?_eq_some_iff.mp hm2).1
      have hb:=cx.hks m A.ks[m] _ (getElem?_eq_getElem CO) hm2
      refine⟨_,rfl,a,C,A.dx,_,_,rfl,cx.ob,T.cl,T.kn,wc,_,rfl,A.kn,A.ks.map V.ref,m,.ref A.ks[m],rfl,rfl,bW.of cx.hkn,gK (by rw[getElem?_map,getElem?_eq_getElem CO];rfl),A.ks[m],_,rfl,.inl (bW.of hb),fun l2 hl2=>?_⟩
      have OG:Dd≠l2:=fun zz=>by rw[<-zz,C4]at hl2;cases hl2
      have hl1:H1 l2=none:=sx.free hl2
      refine⟨by rw[ah OG];exact C4,by rw[length_map,hj];exact lt_of_lt_of_le (show j<1000001 by rw[length_drop]at Js;omega) (by decide),as++[l2],by rw[map_append];rfl,by rw[length_append,hj];rfl,Js,?_,ak,fun b Hc=>?_,fun k' b r e1 e2=>?_⟩
      ·intro y o hy
       have WI:y≠Dd:=fun zz=>by rw[zz,hD]at hy;cases hy
       rw[ah WI]
       exact aD hl2 _ _ _ (sx _ _ hy)
      ·rcases mem_append.mp Hc with h|h
       ·exact hnew b h
       ·have:b=l2:=by simpa using h
        rw[this];exact⟨hl1,Ne.symm OG⟩
      ·by_cases hk:k'<as.length
       ·rw[getElem?_append_left hk]at e1
        have Qw:=hat k' b r e1 e2
        rw[ah (hnew b (mem_of_getElem? e1)).2]
        exact aD hl2 _ _ _ Qw
       ·obtain⟨z1,z2⟩:=m8 e1 hk
        rw[hj]at z1
        rw[z1,getElem?_eq_getElem Js]at e2
        cases e2
        rw[<-z2,ah (Ne.symm OG)]
        exact ak
     ·rintro acc Hx ⟨as,rfl,hj,OE,sx,C4,hnew,hat⟩
      refine⟨(by show 2<=sizeLine;decide),fun pt Sf=>?_⟩
      have st:=aD Sf (.tup [V.int i,V.ref Dd])
      have hlen:as.length=((R.drop i).map (·.1)).length:=by
       rw[hj,length_map,j6,length_map]
       exact OD.len
      have WK:H2 Dd=none:=s1.free hD
      refine k _ _ ((s1.trans sx).trans st) ?_
      unfold rP
      rw[hcn]
      refine⟨pt,_,rfl,.inl ⟨(s1.trans sx).free Sf,.inl ak⟩,_,_,rfl,rfl,_,_,rfl,⟨Dd,_,rfl,.inl ⟨WK,.inl (st _ _ C4)⟩,?_⟩,rfl⟩
      have:=pP (K:=K) (P:=fun x=>H2 x=none) (H:=upd Hx pt (.tup [V.int i,V.ref Dd])) hlen (fun b hb=>s1.free (hnew b hb).1) fun k' b ns e1 e2=>by
       rw[getElem?_map]at e2
       cases hr:(R.drop i)[k']? with
       |none=>rw[hr]at e2;cases e2
       |some r=>
        rw[hr]at e2
        cases e2
        exact st _ _ (hat k' b r e1 hr)
      rw[map_map]at this
      exact this
  ·rw[decide_eq_false (show¬(i:Int)<(((nI ls).map V.int).length:Nat)by rw[length_map,j6,hR.len];omega)]
   refine qB ?_
   refine qB ?_
   have hcn:j7 n R=i:=y0 hal (by rw[getElem?_eq_none (by omega)];exact fun e=>nomatch e)
   have OC:uZ ((nI ls).map V.int) (some (i:Int)) none=(nI (ls.drop i)).map V.int:=by
    unfold uZ nI
    rw[kQ _ _ _ (by omega),my,toNat_natCast,length_map,length_map,hR.len,min_eq_left YY,map_drop,map_drop]
    refine take_of_length_le ?_
    rw[length_drop,length_map,length_map,hR.len]
    exact Nat.le_refl _
   refine⟨_,rfl,_,rfl,a,C,A.dx,_,_,rfl,c.ob,T.cl,T.li,yX,_,rfl,_,rfl,A.li,_,rfl,bW.of c.hli,fun q hq=>?_⟩
   rw[OC]
   have s1:=aD hq (.lst ((nI (ls.drop i)).map V.int))
   have hq1:(upd H2 q (.lst ((nI (ls.drop i)).map V.int))) q=some (.lst ((nI (ls.drop i)).map V.int)):=ak
   generalize upd H2 q (.lst ((nI (ls.drop i)).map V.int))=H1 at s1 hq1
   have OD:b7 kn (ls.drop i) (R.drop i):=by
    unfold b7
    rw[map_drop,map_drop,show ls.map (fun m=>kn[m]?)=R.map some from hR]
   refine⟨q,rfl,⟨_,bW.of hq1⟩,q,_,[.ref a],rfl,bW.of hq1,rfl,fun j i' v e1 e2=>?_,fun Dd hD=>?_⟩
   ·match j with
    |0=>
     have z1:0=i':=by simpa using e1
     have z2:V.ref a=v:=by simpa using e2
     subst z1 z2
     rfl
    |j+1=>simp at e1
   ·refine⟨fun j acc Hx=>∃as:List Addr,acc=as.map V.ref/\as.length=j/\j<=(R.drop i).length/\aB H1 Hx/\Hx Dd=some (.lst acc)/\(∀b∈as,H1 b=none/\b≠Dd)/\∀(k:Nat)(b:Addr)(r:RP),as[k]?=some b->(R.drop i)[k]?=some r->Hx b=some (.lst (r.1.map V.int)),⟨[],rfl,rfl,zero_le _,aD hD _,ak,(fun b hb=>nomatch hb),fun k b r e=>by simp at e⟩,?_,?_,?_⟩
    ·rintro j acc Hx ⟨as,rfl,_,_,sx,C4,_⟩
     exact⟨bW.of (sx _ _ hq1),C4⟩
    ·rintro j acc Hx x ⟨as,rfl,hj,OE,sx,C4,hnew,hat⟩ hx
     have WH:j<(ls.drop i).length:=by
      have:=(List.getElem?_eq_some_iff.mp hx).1
      rwa [length_map,j6]at this
     have Js:j<(R.drop i).length:=by rw[<-OD.len];exact WH
     obtain⟨m,hm1,hm2⟩:=OD.at (getElem?_eq_getElem Js)
     rw[q9 hm1]at hx
     cases hx
     have cx:=c.same (s1.trans sx)
     have CO:m<A.ks.length:=by rw[c.yW];exact(List.getElem?_eq_some_iff.mp hm2).1
     have hb:=cx.hks m A.ks[m] _ (getElem?_eq_getElem CO) hm2
     refine⟨_,rfl,a,C,A.dx,_,_,rfl,cx.ob,T.cl,T.kn,wc,_,rfl,A.kn,A.ks.map V.ref,m,.ref A.ks[m],rfl,rfl,bW.of cx.hkn,gK (by rw[getElem?_map,getElem?_eq_getElem CO];rfl),A.ks[m],_,rfl,.inl (bW.of hb),fun l2 hl2=>?_⟩
     have OG:Dd≠l2:=fun zz=>by rw[<-zz,C4]at hl2;cases hl2
     have hl1:H1 l2=none:=sx.free hl2
     refine⟨by rw[ah OG];exact C4,by rw[length_map,hj];exact lt_of_lt_of_le (show j<1000001 by rw[length_drop]at Js;omega) (by decide),as++[l2],by rw[map_append];rfl,by rw[length_append,hj];rfl,Js,?_,ak,fun b Hc=>?_,fun k' b r e1 e2=>?_⟩
     ·intro y o hy
      have WI:y≠Dd:=fun zz=>by rw[zz,hD]at hy;cases hy
      rw[ah WI]
      exact aD hl2 _ _ _ (sx _ _ hy)
     ·rcases mem_append.mp Hc with h|h
      ·exact hnew b h
      ·have:b=l2:=by simpa using h
       rw[this];exact⟨hl1,Ne.symm OG⟩
     ·by_cases hk:k'<as.length
      ·rw[getElem?_append_left hk]at e1
       have Qw:=hat k' b r e1 e2
       rw[ah (hnew b (mem_of_getElem? e1)).2]
       exact aD hl2 _ _ _ Qw
      ·obtain⟨z1,z2⟩:=m8 e1 hk
       rw[hj]at z1
       rw[z1,getElem?_eq_getElem Js]at e2
       cases e2
       rw[<-z2,ah (Ne.symm OG)]
       exact ak
    ·rintro acc Hx ⟨as,rfl,hj,OE,sx,C4,hnew,hat⟩
     refine⟨(by show 2<=sizeLine;decide),fun pt Sf=>?_⟩
     have st:=aD Sf (.tup [V.int i,V.ref Dd])
     have hlen:as.length=((R.drop i).map (·.1)).length:=by
      rw[hj,length_map,j6,length_map]
      exact OD.len
     have WK:H2 Dd=none:=s1.free hD
     refine k _ _ ((s1.trans sx).trans st) ?_
     unfold rP
     rw[hcn]
     refine⟨pt,_,rfl,.inl ⟨(s1.trans sx).free Sf,.inl ak⟩,_,_,rfl,rfl,_,_,rfl,⟨Dd,_,rfl,.inl ⟨WK,.inl (st _ _ C4)⟩,?_⟩,rfl⟩
     have:=pP (K:=K) (P:=fun x=>H2 x=none) (H:=upd Hx pt (.tup [V.int i,V.ref Dd])) hlen (fun b hb=>s1.free (hnew b hb).1) fun k' b ns e1 e2=>by
      rw[getElem?_map]at e2
      cases hr:(R.drop i)[k']? with
      |none=>rw[hr]at e2;cases e2
      |some r=>
       rw[hr]at e2
       cases e2
       exact st _ _ (hat k' b r e1 hr)
     rw[map_map]at this
     exact this
end
end DL.ng
namespace DL.ng
open PySem PySem.Spec PyProof.Rows L2 DL
abbrev Az:Stmt:=inClass (top 20) 0
def PB(i:Int):List (Str×V):=[("none",.int i)]
def Lw(K:PySem.W.Frag)(C:Addr):Sp:=fun vs H Q _=>∃(a dx:Addr)(n:Nat),vs=[.ref a,.int n]/\(1<=n/\n<=7)/\H a=some (.ins C dx [])/\(∃o,H dx=some o)/\a≠dx/\
 ∀(H':Hp)(A':Ad)(kn:List RP)(zn wn:Nat)(nu:List (List Key×V)),gw C H' a A' (rO zn wn) n kn (nI []) 2 nu [] [] []->kn[zn]?=some (upTo n,upTo n)->kn[wn]?=some (mh n)->(∀x u,x≠a->H x=some u->x≠dx->H' x=some u)->(∀x∈A'.all,x=dx\/H x=none)->(∀x,H' x=none->H x=none)->Q .non H'
section
variable{P:Program}{w:World}{K:PySem.W.Frag}{mg:Str->Option Value}{base:Heap}
theorem sc0:aw ["self","n"] ["self","n"] (ae Az):=⟨rfl,rfl,rfl,by decide +kernel,rfl,by decide +kernel,by decide +kernel⟩
theorem Sg{f C fN:Addr}{fd Gu:FuncData}(F:yc K "__init__" "Comb.__init__" Az f fd)(T:Hk K mg C)(t:Tb K mg)
  (mN:Meth K C "number_of" fN)(bN:Binds K Gu ["self","row"] [])(GN:bJ P w K mg base jH 3 fN Gu ["self","row"] (zc K C))
  (G_s:lZ P w K mg base 1 t.gF t.gG ["n"] ck)(G_h:lZ P w K mg base 1 t.xx t.xy ["n"] uk)
  (es:∀n:Nat,n<=7->ck [.int n]=.ok (aA (upTo n)))(eh:∀n:Nat,1<=n/\n<=7->uk [.int n]=.ok (aA (upTo n).reverse))(ivh:∀n:Nat,Iv n (upTo n).reverse (upTo n).reverse)(ivs:∀n:Nat,Iv n (upTo n) (upTo n)):bJ P w K mg base jH 4 f fd ["self","n"] (Lw K C):=by
 refine F.ok sc0 (fun vs H Q E h=>?_) (fun cdv A outer s H vs Q E hr h=>?_)
 ·obtain⟨a,dx,n,rfl,_⟩:=h
  rfl
 ·obtain⟨a,dx,n,rfl,hn,hob,hdx,hne,k⟩:=h
  have hu:=ph hr
  refine⟨_,(az (j3 (pv 0) (qz aC) rfl) (az (j3 (pv 0) pB rfl) (az (j3 (pv 0) (qz aC) rfl) (az (j3 (pv 0) (qz aC) rfl) (az (j3 (pv 0) pB rfl) (az (j3 (pv 0) pB rfl) (az (j3 (pv 0) pB rfl) (az (j3 (pv 0) (qz aC) rfl) (az (j3 (pv 0) (gJ (pv 0) T.cl mN GN (hr.mono (by decide)) bN .nil lM (au (cU (E:=fun _ _ _=>False) G_s (hr.mono (by decide)) (by rfl) t.dD.m t.dD.F.kp t.dD.b .nil jJ (au (pv 1) aC)) aC)) rfl) (bA (j3 (pv 0) (gJ (pv 0) T.cl mN GN (hr.mono (by decide)) bN .nil lM (au (cU (E:=fun _ _ _=>False) G_h (hr.mono (by decide)) (by rfl) t.uJ.m t.uJ.F.kp t.uJ.b .nil jJ (au (pv 1) aC)) aC)) rfl))))))))))),?_⟩
  refine⟨(by show 0<=sizeLine;decide),fun l1 h1=>?_⟩
  obtain⟨ne1,Sh,YZ,at1,TU,Ho⟩:=g8 hob h1 (.lst []) "known"
  refine⟨_,rfl,a,C,dx,_,rfl,Sh,T.cl,T.kn,(by show 0<1000;decide),?_⟩
  generalize hH1:upd (upd H l1 (.lst [])) a _=H1 at YZ at1 TU Ho
  intro l2 h2
  obtain⟨ne2,Si,RO,at2,Jt,Lx⟩:=g8 YZ h2 (.dT []) "numbers"
  refine⟨_,rfl,a,C,dx,_,rfl,Si,T.cl,T.nu,(by show 1<1000;decide),?_⟩
  generalize hH2:upd (upd H1 l2 (.dT [])) a _=H2 at RO at2 Jt Lx
  refine⟨(by show 0<=sizeLine;decide),fun l3 h3=>?_⟩
  obtain⟨ne3,Sn,RQ,OH,B1,OI⟩:=g8 RO h3 (.lst []) "firsts"
  refine⟨_,rfl,a,C,dx,_,rfl,Sn,T.cl,T.fi,(by show 2<1000;decide),?_⟩
  generalize Hl:upd (upd H2 l3 (.lst [])) a _=H3 at RQ OH B1 OI
  refine⟨(by show 0<=sizeLine;decide),fun l4 h4=>?_⟩
  obtain⟨ne4,So,Y0,PD,ze,PF⟩:=g8 RQ h4 (.lst []) "lasts"
  refine⟨_,rfl,a,C,dx,_,rfl,So,T.cl,T.la,(by show 3<1000;decide),?_⟩
  generalize hH4:upd (upd H3 l4 (.lst [])) a _=H4 at Y0 PD ze PF
  intro l5 h5
  obtain⟨ne5,Sq,Y1,Ss,xT,Su⟩:=g8 Y0 h5 (.dT []) "shorter"
  refine⟨_,rfl,a,C,dx,_,rfl,Sq,T.cl,T.sh,(by show 4<1000;decide),?_⟩
  generalize hH5:upd (upd H4 l5 (.dT [])) a _=H5 at Y1 Ss xT Su
  intro l6 h6
  obtain⟨TV,Sv,Tu,TX,zf,TY⟩:=g8 Y1 h6 (.dT []) "longer"
  refine⟨_,rfl,a,C,dx,_,rfl,Sv,T.cl,T.lo,(by show 5<1000;decide),?_⟩
  generalize Hm:upd (upd H5 l6 (.dT [])) a _=H6 at Tu TX zf TY
  intro l7 h7
  obtain⟨Y2,Sw,Y3,WL,B3,WM⟩:=g8 Tu h7 (.dT []) "kept"
  refine⟨_,rfl,a,C,dx,_,rfl,Sw,T.cl,T.ke,(by show 6<1000;decide),?_⟩
  generalize hH7:upd (upd H6 l7 (.dT [])) a _=H7 at Y3 WL B3 WM
  refine⟨(by show 0<=sizeLine;decide),fun l8 h8=>?_⟩
  obtain⟨ne8,Sx,TZ,Y4,Ju,Y5⟩:=g8 Y3 h8 (.lst []) "line"
  refine⟨_,rfl,a,C,dx,_,rfl,Sx,T.cl,T.li,(by show 7<1000;decide),?_⟩
  generalize Td:upd (upd H7 l8 (.lst [])) a _=H8 at TZ Y4 Ju Y5
  have v1:H8 l1=some (.lst []):=(Ju _ _ ne1 (B3 _ _ ne1 (zf _ _ ne1 (xT _ _ ne1 (ze _ _ ne1 (B1 _ _ ne1 (Jt _ _ ne1 at1)))))))
  have v2:H8 l2=some (.dT []):=(Ju _ _ ne2 (B3 _ _ ne2 (zf _ _ ne2 (xT _ _ ne2 (ze _ _ ne2 (B1 _ _ ne2 at2))))))
  have v3:H8 l3=some (.lst []):=(Ju _ _ ne3 (B3 _ _ ne3 (zf _ _ ne3 (xT _ _ ne3 (ze _ _ ne3 OH)))))
  have v4:H8 l4=some (.lst []):=(Ju _ _ ne4 (B3 _ _ ne4 (zf _ _ ne4 (xT _ _ ne4 PD))))
  have v5:H8 l5=some (.dT []):=(Ju _ _ ne5 (B3 _ _ ne5 (zf _ _ ne5 Ss)))
  have v6:H8 l6=some (.dT []):=(Ju _ _ TV (B3 _ _ TV TX))
  have v7:H8 l7=some (.dT []):=(Ju _ _ Y2 WL)
  have v8:H8 l8=some (.lst []):=Y4
  have kp:∀x u,x≠a->H x=some u->H8 x=some u:=fun x u hn hx=>(Ju _ _ hn (B3 _ _ hn (zf _ _ hn (xT _ _ hn (ze _ _ hn (B1 _ _ hn (Jt _ _ hn (TU _ _ hn hx))))))))
  have gr:∀x,H8 x=none->H x=none:=fun x hx=>(Ho _ (Lx _ (OI _ (PF _ (Su _ (TY _ (WM _ (Y5 _ hx))))))))
  have f1:H l1=none:=h1
  have f2:H l2=none:=(Ho _ h2)
  have f3:H l3=none:=(Ho _ (Lx _ h3))
  have f4:H l4=none:=(Ho _ (Lx _ (OI _ h4)))
  have f5:H l5=none:=(Ho _ (Lx _ (OI _ (PF _ h5))))
  have f6:H l6=none:=(Ho _ (Lx _ (OI _ (PF _ (Su _ h6)))))
  have f7:H l7=none:=(Ho _ (Lx _ (OI _ (PF _ (Su _ (TY _ h7))))))
  have f8:H l8=none:=(Ho _ (Lx _ (OI _ (PF _ (Su _ (TY _ (WM _ h8)))))))
  have WN:l1≠l2:=ao at1 h2
  have WO:l1≠l3:=ao (Jt _ _ ne1 at1) h3
  have WQ:l2≠l3:=ao at2 h3
  have WR:l1≠l4:=ao (B1 _ _ ne1 (Jt _ _ ne1 at1)) h4
  have WS:l2≠l4:=ao (B1 _ _ ne2 at2) h4
  have WT:l3≠l4:=ao OH h4
  have WU:l1≠l5:=ao (ze _ _ ne1 (B1 _ _ ne1 (Jt _ _ ne1 at1))) h5
  have WV:l2≠l5:=ao (ze _ _ ne2 (B1 _ _ ne2 at2)) h5
  have WW:l3≠l5:=ao (ze _ _ ne3 OH) h5
  have WX:l4≠l5:=ao PD h5
  have WY:l1≠l6:=ao (xT _ _ ne1 (ze _ _ ne1 (B1 _ _ ne1 (Jt _ _ ne1 at1)))) h6
  have WZ:l2≠l6:=ao (xT _ _ ne2 (ze _ _ ne2 (B1 _ _ ne2 at2))) h6
  have W0:l3≠l6:=ao (xT _ _ ne3 (ze _ _ ne3 OH)) h6
  have W2:l4≠l6:=ao (xT _ _ ne4 PD) h6
  have W3:l5≠l6:=ao Ss h6
  have W4:l1≠l7:=ao (zf _ _ ne1 (xT _ _ ne1 (ze _ _ ne1 (B1 _ _ ne1 (Jt _ _ ne1 at1))))) h7
  have W5:l2≠l7:=ao (zf _ _ ne2 (xT _ _ ne2 (ze _ _ ne2 (B1 _ _ ne2 at2)))) h7
  have W6:l3≠l7:=ao (zf _ _ ne3 (xT _ _ ne3 (ze _ _ ne3 OH))) h7
  have W7:l4≠l7:=ao (zf _ _ ne4 (xT _ _ ne4 PD)) h7
  have W8:l5≠l7:=ao (zf _ _ ne5 Ss) h7
  have W9:l6≠l7:=ao TX h7
  have Xa:l1≠l8:=ao (B3 _ _ ne1 (zf _ _ ne1 (xT _ _ ne1 (ze _ _ ne1 (B1 _ _ ne1 (Jt _ _ ne1 at1)))))) h8
  have Xb:l2≠l8:=ao (B3 _ _ ne2 (zf _ _ ne2 (xT _ _ ne2 (ze _ _ ne2 (B1 _ _ ne2 at2))))) h8
  have Xc:l3≠l8:=ao (B3 _ _ ne3 (zf _ _ ne3 (xT _ _ ne3 (ze _ _ ne3 OH)))) h8
  have Xd:l4≠l8:=ao (B3 _ _ ne4 (zf _ _ ne4 (xT _ _ ne4 PD))) h8
  have Xe:l5≠l8:=ao (B3 _ _ ne5 (zf _ _ ne5 Ss)) h8
  have Xf:l6≠l8:=ao (B3 _ _ TV TX) h8
  have Xg:l7≠l8:=ao WL h8
  have vd:∃o,H8 dx=some o:=by
   obtain⟨o,ho⟩:=hdx
   exact⟨o,kp _ _ (Ne.symm hne) ho⟩
  have Ly:∀{l:Addr},H l=none->l≠dx:=fun hl z=>by
   obtain⟨o,ho⟩:=hdx
   rw[<-z,hl]at ho
   cases ho
  have c:gw C H8 a ⟨dx,l1,l2,l3,l4,l5,l6,l7,l8,[]⟩ [] n [] [] 0 [] [] [] []:=by
   refine⟨TZ,vd,?_,v1,rfl,(fun i b p e=>by simp at e),v2,v3,v4,v5,v6,v7,v8,(fun p hp=>by simp at hp),(fun i p e=>by simp at e),(fun r _=>rfl),(fun i k v e=>by cases e),(fun i k v e=>by cases e),(fun i j v e=>by cases e),⟨Nat.le_refl _,Nat.le_refl _,Nat.le_refl _,Nat.le_refl _,Nat.le_refl _⟩,(fun m hm=>by simp at hm)⟩
   show(a::dx::l1::l2::l3::l4::l5::l6::l7::l8::[]).Nodup
   simp only [nodup_cons,mem_cons,not_mem_nil,or_false,not_or,not_false_eq_true,List.nodup_nil,and_true]
   exact⟨⟨hne,Ne.symm ne1,Ne.symm ne2,Ne.symm ne3,Ne.symm ne4,Ne.symm ne5,Ne.symm TV,Ne.symm Y2,Ne.symm ne8⟩,⟨Ne.symm (Ly f1),Ne.symm (Ly f2),Ne.symm (Ly f3),Ne.symm (Ly f4),Ne.symm (Ly f5),Ne.symm (Ly f6),Ne.symm (Ly f7),Ne.symm (Ly f8)⟩,⟨WN,WO,WR,WU,WY,W4,Xa⟩,⟨WQ,WS,WV,WZ,W5,Xb⟩,⟨WT,WW,W0,W6,Xc⟩,⟨WX,W2,W7,Xd⟩,⟨W3,W8,Xe⟩,⟨W9,Xf⟩,Xg⟩
  generalize TZ=TZ at c
  clear Sh Si Sn So Sq Sv Sw Sx
  have Xh:∀x∈(⟨dx,l1,l2,l3,l4,l5,l6,l7,l8,[]⟩:Ad).all,x=dx\/H x=none:=fun x hx=>by
   unfold Ad.all Ad.hd at hx
   simp only [append_nil,mem_cons,not_mem_nil,or_false]at hx
   rcases hx with rfl|rfl|rfl|rfl|rfl|rfl|rfl|rfl|rfl
   ·exact .inl rfl
   ·exact .inr f1
   ·exact .inr f2
   ·exact .inr f3
   ·exact .inr f4
   ·exact .inr f5
   ·exact .inr f6
   ·exact .inr f7
   ·exact .inr f8
  generalize (⟨dx,l1,l2,l3,l4,l5,l6,l7,l8,[]⟩:Ad)=A at c Xh
  refine⟨_,rfl,a,A.dx,_,rfl,c.ob,rfl,_,rfl,fun _=>True,[.int n],⟨_,_,rfl,rfl,rfl⟩,?_⟩
  rw[es n hn.2]
  intro q ws H9 s9 hq9 hw9 iw9
  have ew:=ee iw9
  subst ew
  have c9:=c.same s9
  have nF:∀{Hx Hy:Hp}{Ax:Ad}{y:Addr}{exx:List (Str×V)}{knn:List RP}{lnn:List Int}{BB:Nat}{nn ss ll kk:List (List Key×V)},gw C Hx a Ax exx n knn lnn BB nn ss ll kk->Hx y=none->y∉a::Ax.all:=fun cx hy hx=>by
   obtain⟨o,ho⟩:=cx.there hx
   rw[hy]at ho
   cases ho
  refine⟨a,A,[],n,[],[],0,[],[],[],[],(upTo n,upTo n),.ref q,rfl,c9,hn.2,by decide,ivs n,⟨q,_,rfl,.inl ⟨nF (Hy:=H9) c hq9,.inl hw9⟩,bE _⟩,fun i1 pI A1 R8 R9 Y6 hi1 xE Py=>?_⟩
  refine⟨_,rfl,a,C,A1.dx,_,rfl,Y6.ob,T.cl,T.no,(by show 8<1000;decide),?_⟩
  have T3:=Y6.K9 (PB i1)
  have Sy:gp H8 (upd pI a (.ins C A1.dx (rZ A1++(PB i1)))) (a::A.all) (a::A1.all):=((gp.same s9 _).trans xE).trans (gp.upd mem_cons_self _)
  rw[show jd ("none":Str) (.int (i1:Int)) (rZ A1++[])=rZ A1++(PB i1)from rfl]
  generalize upd pI a (.ins C A1.dx (rZ A1++(PB i1)))=Im at T3 Sy
  refine⟨_,rfl,a,A1.dx,_,rfl,T3.ob,rfl,_,rfl,fun _=>True,[.int n],⟨_,_,rfl,rfl,rfl⟩,?_⟩
  rw[eh n hn]
  intro q2 ws2 H12 CK Xi Xj Xk
  have ew2:=ee Xk
  subst ew2
  have c12:=T3.same CK
  refine⟨a,A1,(PB i1),n,[]++R8,[],1,R9,[],[],[],mh n,.ref q2,rfl,c12,hn.2,by decide,ivh n,⟨q2,_,rfl,.inl ⟨nF (Hy:=H12) T3 Xi,.inl Xj⟩,bE _⟩,fun i2 H13 A2 mo2 sW Y7 hi2 Ay Px=>?_⟩
  refine⟨_,rfl,a,C,A2.dx,_,rfl,Y7.ob,T.cl,T.wh,(by show 9<1000;decide),?_⟩
  have Y8:=Y7.K9 (rO i1 i2)
  rw[show jd ("whole":Str) (.int (i2:Int)) (rZ A2++(PB i1))=rZ A2++rO i1 i2 from rfl]
  have OJ:gp H8 (upd H13 a (.ins C A2.dx (rZ A2++rO i1 i2))) (a::A.all) (a::A2.all):=((Sy.trans (gp.same CK _)).trans Ay).trans (gp.upd mem_cons_self _)
  refine k _ A2 ([]++R8++mo2) i1 i2 sW Y8 (bD hi1) hi2 (fun x u hx h1 h2=>?_) (fun x hx=>?_) (fun x hx=>gr x (OJ.gr x hx))
  ·refine OJ.kp x u (fun hm=>?_) (kp x u hx h1)
   rcases mem_cons.mp hm with z|z
   ·exact hx z
   ·rcases Xh x z with z|z
    ·exact h2 z
    ·rw[z]at h1;cases h1
  ·rcases OJ.nw x (mem_cons_of_mem _ hx)with z|z
   ·rcases mem_cons.mp z with z|z
    ·rw[z]at hx
     exact absurd hx (nodup_cons.mp Y8.nd).1
    ·exact Xh x z
   ·exact .inr (gr x z)
end
end DL.ng
namespace DL.ng
open PySem PySem.Spec PyProof.Rows L2 DL
theorem OO{α:Type}(r:R α)(c:Str):r.ne≠.err c:=by cases r<;>exact fun z=>nomatch z
structure CbM(P:Program)(w:World)(K:PySem.W.Frag)(mg:Str->Option Value)(base:Heap)(C:Addr) where
 fI:Addr
 dI:FuncData
 fP:Addr
 dP:FuncData
 fT:Addr
 dT:FuncData
 M:Mk K C fI
 bI:Binds K dI ["self","n"] []
 GI:bJ P w K mg base jH 4 fI dI ["self","n"] (Lw K C)
 mP:Meth K C "put" fP
 bP:Binds K dP ["self","row"] []
 GP:bJ P w K mg base jH 7 fP dP ["self","row"] (Ls K C)
 mT:Meth K C "form_told" fT
 bT:Binds K dT ["self"] []
 GT:bJ P w K mg base jH 1 fT dT ["self"] (Lv K C)
section
variable{P:Program}{w:World}{K:PySem.W.Frag}{mg:Str->Option Value}{base:Heap}
theorem OP{C:Addr}(T:Hk K mg C)(Z:CbM P w K mg base C)(t:Tb K mg)(G_r:Pp P w K mg base 3 t.b8 t.b9 ["steps"] aO):
  Ok P w K mg base 9 t.eB t.eI ["n","steps"] cQ:=by
 refine t.iI.F.ok cY (fun vs H Q E h=>?_) (fun cdv A outer s H vs Q E hr h=>?_)
 ·obtain⟨Pa,ds,i,h⟩:=h
  match ds,h with
  |[.int n,d],h=>
   obtain⟨v,r,rfl,_,v',r',rfl,_,e⟩:=i
   have e':r'=[]:=e
   subst e'
   rfl
 ·obtain⟨Pa,ds,i,h⟩:=h
  obtain⟨n,d,rfl⟩:∃n d,ds=[.int n,d]:=by
   match ds,h with
   |[.int n,d],h=>exact⟨n,d,rfl⟩
  obtain⟨v0,r0,rfl,i0,v1,r1,rfl,i1,e2⟩:=i
  have Ek:r1=[]:=e2
  have e0':v0=.int n:=i0
  subst Ek e0'
  cases em:cQ [.int n,d]with
  |bad=>rw[em]at h;exact h.elim
  |err c=>exact absurd em (OO _ c)
  |ok Xl=>
  rw[em]at h
  have em':R.bind (aO [d]) (fun rs=> @ite _ ((1<=n/\n<=7)/\rs.length<=40/\∀r∈rs,bp n.toNat r) (propDecidable _) (R.bind (BP [.val (.int n),.val d,.no,.no,.val (rP n.toNat (fV n.toNat rs))]) ai) .bad)=.ok Xl:=R.br em
  obtain⟨rs,hrs,Sz⟩:=R.bM em'
  by_cases hg:(1<=n/\n<=7)/\rs.length<=40/\∀r∈rs,bp n.toNat r
  case neg=>
   rw[if_neg hg]at Sz
   cases Sz
  case pos=>
  rw[if_pos hg]at Sz
  obtain⟨hn,abt,SA⟩:=hg
  obtain⟨m,rfl⟩:∃m:Nat,n=m:=⟨n.toNat,by omega⟩
  rw[toNat_natCast]at Sz SA
  have hu:=ph hr
  refine⟨_,az (cz (i:=2) cY.nd rfl (Or.inl rfl) (HN Z.M Z.GI (hr.mono (by decide)) (by rfl) T.mgC Z.bI .nil lM (au (pv 0) aC)))
   (az (DP PassesOwn.never rfl (sE (cU (E:=fun _ _ _=>False) G_r (hr.mono (by decide)) (by rfl) t.bx.m t.bx.F.kp t.bx.b .nil jJ (au (pv 1) aC))) (wH (i:=3) cY.nd rfl (Or.inl rfl))
    (bA (fG (gJ (pv 2) T.cl Z.mP Z.GP (hr.mono (by decide)) Z.bP .nil lM (au (pv 3) aC)) rfl)))
   (az (cz (i:=4) cY.nd rfl (Or.inl rfl) (DY (pv 2) T.cl Z.mT Z.GT (hr.mono (by decide)) Z.bT .nil lM))
   (aW (gq (E:=EN) (MC (aG (aZ fH bX (PE.aF (zU (nD 4) (PE.aF cI))) (PE.aF (II rfl t.zb (PE.qF (mE (Du (N:=["step"]) (nt:=1) (caps:=[]) (ae gD) ["n","steps","comb","row","found"] (by decide +kernel)) rfl (tQ (iL (nD 1))) (Kp.ok (qP (nt:=1) 0)) (fun _ _ _ _ _=>(rJ 0 (by show Nodup (["step"]:List Str);decide +kernel))) (fun _ _ _ _ _=>Ih) (fun _ _ _ _ _=>(zU (nD 0) (PE.aF cI)))))))) (aG (zU (nD 4) (PE.aF cI)) cj))))))),?_⟩
  refine⟨_,rfl,fun x dx hx hdx hne=>?_⟩
  refine⟨x,dx,m,rfl,by omega,ak,⟨_,by rw[ah hne];exact ak⟩,Ne.symm hne,fun H1 A1 T4 zn wn R9 c1 hz1 hw1 TU nw1 Ho=>⟨rfl,?_⟩⟩
  have Y9:aB H H1:=fun y u hy=>by
   have hyx:y≠x:=fun z=>by rw[z,hx]at hy;cases hy
   have Za:y≠dx:=fun z=>by rw[z,hdx]at hy;cases hy
   exact TU y u hyx (by rw[ah hyx,ah Za];exact hy) Za
  have nF1:∀y∈x::A1.all,H y=none:=fun y hy=>by
   rcases mem_cons.mp hy with rfl|hy
   ·exact hx
   ·rcases nw1 y hy with rfl|hy
    ·exact hdx
    ·by_cases z1:y=x
     ·rw[z1];exact hx
     ·by_cases z2:y=dx
      ·rw[z2];exact hdx
      ·rw[ah z1,ah z2]at hy;exact hy
  refine⟨_,rfl,fun _=>True,[d],⟨_,_,rfl,(i1.same Y9).weak,rfl⟩,?_⟩
  rw[hrs]
  intro la as H2 CK SD
  have c2:=c1.same CK
  have hlen:=SD.len
  have Zb:∀b∈la::as,b∉x::A1.all:=fun b hb hF=>by
   obtain⟨o,ho⟩:=c1.there hF
   rw[SD.fr b hb]at ho
   cases ho
  refine⟨la,rfl,⟨_,bW.of SD.ha⟩,DQ (K:=K) (a:=la) (xs:=as.map V.ref) (fun i σ Hx=>∃(A2:Ad)(mo:List RP)(ls:List Nat)(B2:Nat)(sW uL lo2 Hn:List (List Key×V))(rv:Option V),σ=[some (.int (m:Int)),some v1,some (.ref x),rv,none]/\gw C Hx x A2 (rO zn wn) m (T4++mo) (nI ls) B2 sW uL lo2 Hn/\
    b7 (T4++mo) ls (fV m (rs.take i))/\B2<=2+402*41*i/\i<=rs.length/\gp H2 Hx (x::A1.all) (x::A2.all)) ⟨A1,[],[],2,R9,[],[],[],none,rfl,by rw[append_nil];exact c2,rfl,by omega,zero_le _,gp.refl _ _⟩ ?_ ?_ ?_⟩
  ·rintro i σ Hx hi ⟨A2,mo,ls,B2,sW,uL,lo2,Hn,rv,rfl,c3,hL,hB,Zc,qv⟩
   exact bW.of (qv.kp la _ (Zb la (by simp)) SD.ha)
  ·rintro i y σ Hx hy ⟨A2,mo,ls,B2,sW,uL,lo2,Hn,rv,rfl,c3,hL,hB,Zc,qv⟩
   have Xm:i<as.length:=by
    have:=(List.getElem?_eq_some_iff.mp hy).1
    rwa [length_map]at this
   have SE:i<rs.length:=by rw[<-hlen];exact Xm
   rw[getElem?_map,getElem?_eq_getElem Xm]at hy
   cases hy
   have Zd:rs[i]?=some rs[i]:=getElem?_eq_getElem SE
   have hb2:=SD.it i as[i] rs[i] (getElem?_eq_getElem Xm) Zd
   have Ze:=Zb as[i] (mem_cons_of_mem _ (getElem_mem _))
   have VM:=qv.kp _ _ Ze hb2
   have Xn:as[i]∉x::A2.all:=fun hF=>by
    rcases qv.nw _ hF with z|z
    ·exact Ze z
    ·rw[hb2]at z;cases z
   have hcl:=p4 m (rs.take i) []
   have Jv:(fV m (rs.take i)).length<=40:=by
    unfold fV
    rw[length_nil,length_take]at hcl
    omega
   refine⟨_,rfl,x,A2.dx,_,rfl,c3.ob,rfl,_,rfl,x,A2,zn,wn,m,T4++mo,ls,fV m (rs.take i),B2,sW,uL,lo2,Hn,(rs[i],uy rs[i]),.ref as[i],rfl,c3,hL,bD hz1,by omega,by omega,by omega,o4 (SA _ (getElem_mem _)),⟨as[i],_,rfl,.inl ⟨Xn,.inl VM⟩,bE _⟩,fun H4 A4 BZ ls4 RY RZ WA WB c4 Zf OA=>?_⟩
   rw[List.append_assoc]at c4 Zf
   exact⟨A4,mo++BZ,ls4,_,RY,RZ,WA,WB,_,rfl,c4,by rw[CZ Zd];exact Zf,by omega,SE,qv.trans OA⟩
  ·rintro σ Hx ⟨A2,mo,ls,B2,sW,uL,lo2,Hn,rv,rfl,c3,hL,hB,Zc,qv⟩
   rw[length_map,hlen,take_length]at hL
   have hcl:=p4 m rs []
   have Jv:(fV m rs).length<=1000:=by
    unfold fV
    rw[length_nil]at hcl
    omega
   refine⟨_,rfl,x,A2.dx,_,rfl,c3.ob,rfl,x,A2,zn,wn,m,T4++mo,ls,fV m rs,B2,sW,uL,lo2,Hn,rfl,c3,hL,bD hw1,Jv,fun fv H5 s5 i5=>?_⟩
   have Zg:aB H Hx:=fun y u hy=>qv.kp y u (fun hF=>by rw[nF1 y hF]at hy;cases hy) (CK _ _ (Y9 _ _ hy))
   have Zh:=Zg.trans s5
   refine⟨⟨Pa,H⟩,[.val (.int (m:Int)),.val d,.no,.no,.val (rP m (fV m rs))],[],⟨rfl,Zh,fun i dd e=>?_,fun i xs e=>?_,fun i j xs ys b e=>?_,(fun b hb=>nomatch hb),fun i v e=>?_,yh.none fun i w e=>?_⟩,?_⟩
   ·match i with
    |0=>cases e;exact⟨_,rfl,rfl⟩
    |1=>cases e;exact⟨_,rfl,Is.ext ⟨fun a o p _=>⟨.inl p,fun z=>nomatch z⟩,fun a o _ q=>Zh a o q⟩ _ _ i1⟩
    |2=>cases e
    |3=>cases e
    |4=>cases e;exact⟨_,rfl,Is.ext ⟨fun a o p _=>⟨.inr (Zg.free p),fun z=>nomatch z⟩,fun a o _ q=>q⟩ _ _ i5⟩
    |i+5=>cases e
   ·match i with
    |0=>cases e
    |1=>cases e
    |2=>cases e
    |3=>cases e
    |4=>cases e
    |i+5=>cases e
   ·match i with
    |0=>cases e
    |1=>cases e
    |2=>cases e
    |3=>cases e
    |4=>cases e
    |i+5=>cases e
   ·match i with
    |0=>cases e
    |1=>cases e
    |2=>cases e
    |3=>cases e
    |4=>cases e
    |i+5=>cases e
   ·match i with
    |0=>cases e
    |1=>cases e
    |2=>cases e
    |3=>cases e
    |4=>cases e
    |i+5=>cases e
   ·obtain⟨o,ho,hv⟩:=R.bM Sz
    obtain⟨dd,hdd,ho2⟩:=R.bM (show R.bind _ (fun v1=>R.ok (Out.rt v1))=.ok o from ho)
    cases ho2
    cases hv
    exact kX ho fun v H' sH' Q8=>h v H' sH' (Is.ext ⟨fun a o p _=>p.1,fun a o _ q=>q⟩ _ _ Q8)
end
end DL.ng
namespace DL
open PySem PySem.Spec PyProof.Rows L2
def dX:List Int->List Int->Option (List Int)
 |[],o=>some o
 |k::w,o=>if k<0\/aa o k.toNat<aa o (k-1).toNat then none else dX w (fA o (k-1).toNat)
theorem jb{n a:Nat}{o w:List Int}:dX (((a:Int)+1)::w) o=if aa o (a+1)<aa o a then none else dX w (fA o a):=by
 conv=>lhs;unfold dX
 rw[show((a:Int)+1).toNat=a+1 by omega,show((a:Int)+1-1).toNat=a by omega]
 by_cases h:aa o (a+1)<aa o a
 ·rw[if_pos (.inr h),if_pos h]
 ·rw[if_neg (by rintro(z|z);omega;exact h z),if_neg h]
def Ps(n:Nat)(w:List Int):Prop:=∀k∈w,∃a:Nat,k=(a:Int)+1/\a+1<n
def jD(w o:List Int):List Int:=w.foldl (fun o k=>fA o (k-1).toNat) o
theorem B4(f:Int->Int):∀(l:List Int)(a:Nat),fA (l.map f) a=(fA l a).map f
 |[],a=>by cases a<;>rfl
 |[x],0=>rfl
 |[x],a+1=>by cases a<;>rfl
 |x::y::l,0=>rfl
 |x::y::l,a+1=>by
  show fA (f x::map f (y::l)) (a+1)=_
  rw[rN,rN,B4 f (y::l) a]
  rfl
theorem Gz{n a:Nat}(h:a+1<n):fA (upTo n) a=(upTo n).map (sg a):=by
 refine bF (by rw[fR,length_map]) fun j hj=>?_
 rw[fR,ar]at hj
 have e:=dW (r:=upTo n) (a:=a) (p:=j) (by rw[ar];exact hj)
 unfold zw at e
 rw[e,kG _ _ (by rw[ar];exact h),aI hj]
 unfold sg
 by_cases h1:j=a
 ·rw[if_pos h1,aI (by omega),if_pos (show(j:Int)=a by omega)]
  omega
 ·rw[if_neg h1,if_neg (show¬(j:Int)=a by omega)]
  by_cases h2:j=a+1
  ·rw[if_pos h2,aI (by omega),if_pos (show(j:Int)=a+1 by omega)]
  ·rw[if_neg h2,if_neg (show¬(j:Int)=a+1 by omega)]
theorem xF(f:Int->Int):∀(w o:List Int),jD w (o.map f)=(jD w o).map f
 |[],o=>rfl
 |k::w,o=>by
  show jD w (fA (o.map f) (k-1).toNat)=(jD w (fA o (k-1).toNat)).map f
  rw[B4,xF f w]
theorem lU(n:Nat):Iv n (upTo n) (upTo n):=⟨ar n,ar n,fun p hp=>by rw[aI hp,toNat_natCast];exact⟨by omega,by omega,aI hp⟩,fun p hp=>by rw[aI hp,toNat_natCast];exact⟨by omega,by omega,aI hp⟩⟩
theorem AA{n:Nat}:∀w:List Int,Ps n w->Iv n (jD w.reverse (upTo n)) (jD w (upTo n))
 |[],_=>lU n
 |k::w,h=>by
  obtain⟨a,rfl,ha⟩:=h k (by simp)
  have ih:=AA w fun x hx=>h x (by simp[hx])
  rw[reverse_cons]
  have e1:jD (((a:Int)+1)::w) (upTo n)=zw (jD w (upTo n)) a:=by
   show jD w (fA (upTo n) ((a:Int)+1-1).toNat)=_
   rw[show((a:Int)+1-1).toNat=a by omega,Gz ha,xF]
   rfl
  have e2:jD (w.reverse++[(a:Int)+1]) (upTo n)=fA (jD w.reverse (upTo n)) a:=by
   unfold jD
   rw[foldl_append]
   show fA _ ((a:Int)+1-1).toNat=_
   rw[show((a:Int)+1-1).toNat=a by omega]
  rw[e1,e2]
  exact(ih.symm.step ha).symm
theorem SG{n:Nat}{o s:List Int}(h:Iv n o s){a:Nat}(ha:a+1<n):aa o a≠aa o (a+1):=fun e=>by
 have:=h.symm.DB (v:=a) (w:=a+1) (by omega) ha e
 omega
theorem B5{n:Nat}{o s:List Int}(h:Iv n o s){a:Nat}(ha:a+1<n):dM (fA o a)=dM o+1/\aa o a<aa o (a+1)\/dM (fA o a)+1=dM o/\aa o (a+1)<aa o a:=by
 have e:=sM o a [] (by rw[h.lr];exact ha)
 have d:=SG h ha
 unfold dM
 by_cases c:aa o a<aa o (a+1)
 ·rw[if_neg (by omega),if_pos c]at e
  exact .inl ⟨by omega,c⟩
 ·rw[if_pos (by omega),if_neg c]at e
  exact .inr ⟨by omega,by omega⟩
theorem nz{n:Nat}:∀(w o s z:List Int),Ps n w->Iv n o s->dX w o=some z->z=jD w o/\dM z=dM o+w.length
 |[],o,s,z,_,_,h=>by cases h;exact⟨rfl,rfl⟩
 |k::w,o,s,z,hw,hi,h=>by
  obtain⟨a,rfl,ha⟩:=hw k (by simp)
  rw[jb (n:=n)]at h
  split at h
  ·cases h
  ·rename_i hc
   obtain⟨e1,e2⟩:=nz w (fA o a) (zw s a) z (fun x hx=>hw x (by simp[hx])) (hi.symm.step ha).symm h
   have:=B5 hi ha
   refine⟨?_,by rw[e2,length_cons];omega⟩
   rw[e1]
   show _=jD w (fA o ((a:Int)+1-1).toNat)
   rw[show((a:Int)+1-1).toNat=a by omega]
theorem zg{n:Nat}:∀(w o s:List Int),Ps n w->Iv n o s->dM (jD w o)<=dM o+w.length/\(dM (jD w o)=dM o+w.length->dX w o=some (jD w o))
 |[],o,s,_,_=>⟨Nat.le_refl _,fun _=>rfl⟩
 |k::w,o,s,hw,hi=>by
  obtain⟨a,rfl,ha⟩:=hw k (by simp)
  have e0:jD (((a:Int)+1)::w) o=jD w (fA o a):=by
   show jD w (fA o ((a:Int)+1-1).toNat)=_
   rw[show((a:Int)+1-1).toNat=a by omega]
  obtain⟨e1,e2⟩:=zg w (fA o a) (zw s a) (fun x hx=>hw x (by simp[hx])) (hi.symm.step ha).symm
  rw[jb (n:=n),e0,length_cons]
  rcases B5 hi ha with⟨c1,c2⟩|⟨c1,c2⟩
  ·exact⟨by omega,fun h=>by rw[if_neg (by omega)];exact e2 (by omega)⟩
  ·exact⟨by omega,fun h=>by omega⟩
theorem Jw:∀n:Nat,n<8->dM (upTo n)=0:=by decide +kernel
theorem GA{n:Nat}{w z:List Int}(hw:Ps n w)(h:dX w (upTo n)=some z):dX w.reverse (upTo n)=some (jD w.reverse (upTo n)):=by
 obtain⟨e1,e2⟩:=nz w _ _ z hw (lU n) h
 refine(zg w.reverse (upTo n) (upTo n) (fun k hk=>hw k (by simpa using hk)) (lU n)).2 ?_
 rw[Ak (AA w hw),<-e1,e2,length_reverse]
theorem B6{n:Nat}{w z:List Int}(hw:Ps n w)(h:dX w (upTo n)=some z):Iv n z (jD w.reverse (upTo n)):=by
 rw[(nz w _ _ z hw (lU n) h).1]
 exact(AA w hw).symm
theorem wk:∀(w o:List Int)(k:Int),dX (w++[k]) o=(dX w o).bind fun z=>dX [k] z
 |[],o,k=>rfl
 |x::w,o,k=>by
  rw[cons_append]
  unfold dX
  split
  ·rfl
  ·exact wk w _ k
theorem Iv.nd {n:Nat}{r s:List Int}(h:Iv n r s):s.Nodup:=by
 unfold Nodup
 rw[List.pairwise_iff_getElem]
 intro i j hi hj hij e
 rw[h.ls]at hi hj
 have e2:aa s i=aa s j:=by
  unfold aa
  rw[getElem?_eq_getElem,getElem?_eq_getElem]
  ·exact e
 have:=h.DB hi hj e2
 omega
theorem xG{n:Nat}{r s:List Int}(h:Iv n r s):bp n r:=by
 refine(List.perm_ext_iff_of_nodup h.symm.nd (ur n)).mpr fun x=>?_
 rw[mem_upTo]
 constructor
 ·intro hx
  obtain⟨p,hp,rfl⟩:=getElem_of_mem hx
  rw[h.lr]at hp
  have:=h.rs p hp
  rw[show aa r p=r[p]by
   unfold aa
   rw[getElem?_eq_getElem]
   rfl]at this
  exact⟨this.1,this.2.1⟩
 ·rintro⟨h0,h1⟩
  have:=(h.idx (v:=x.toNat) (by omega)).1
  rwa [show((x.toNat:Nat):Int)=x by omega]at this
def fl(n:Nat)(l:List Int):List Int:=l.map fun x=>(n:Int)-1-x
theorem lH(n:Nat)(l:List Int):(fl n l).length=l.length:=length_map _
theorem qo{n:Nat}{l:List Int}{p:Nat}(h:p<l.length):aa (fl n l) p=(n:Int)-1-aa l p:=by
 have:=cF h
 unfold fl
 conv=>lhs;unfold aa
 rw[getElem?_map,this]
 rfl
theorem dE{l:List Int}{p:Nat}(h:p<l.length):aa l.reverse p=aa l (l.length-1-p):=by
 unfold aa
 rw[getElem?_reverse h]
theorem Lz(n:Nat):fl n (upTo n).reverse=upTo n:=by
 refine bF (by rw[lH,length_reverse]) fun p hp=>?_
 rw[lH,length_reverse,ar]at hp
 rw[qo (by rw[length_reverse,ar];exact hp),dE (by rw[ar];exact hp),ar,aI (by omega),aI hp]
 omega
theorem GB{n:Nat}{r:List Int}(h:bp n r):bp n (fl n r):=by
 have e:fl n (upTo n)=(upTo n).reverse:=by
  rw[<-Lz n]
  unfold fl
  rw[map_reverse,reverse_reverse,<-map_reverse]
  congr 1
  have:=Lz n
  unfold fl at this
  rw[this]
 exact(Perm.map _ h).trans (by
  show(fl n (upTo n)).Perm _
  rw[e]
  exact reverse_perm _)
theorem B7{n:Nat}{r:List Int}(h:bp n r):bp n r.reverse:=(reverse_perm r).trans h
theorem jY(n:Nat)(hn:n<=7):ck [.int n]=.ok (aA (upTo n)):=by
 unfold ck uj
 simp -implicitDefEqProofs only [mS,mD,mF,eR,aH,reduceAdd,reduceSub,reduceEqDiff,reduceIte,ai,aj,q1,q2,q3,q4]
 rw[nN _ (by omega),toNat_natCast,kF]
 simp -implicitDefEqProofs only [reduceIte,ai,aj,q1,q2,q3,q4,jh]
theorem C5{n:Nat}{r s:List Int}(h:Iv n r s)(hn:n<=7):pX [.lst (aA r)]=.ok (aA (fl n s)):=by
 unfold pX Bu
 simp -implicitDefEqProofs only [mS,mD,mF,eR,aH,reduceAdd,reduceSub,reduceEqDiff,reduceIte,ai,aj,q1,q2,q3,q4]
 rw[nS h hn]
 simp -implicitDefEqProofs only [reduceIte,ai,aj,q1,q2,q3,q4,cM]
 rw[gB (fun k=>(n:Int)-1-k) s fun k _=>⟨_,dJ _ _ _,rfl,by
  unfold uq dR
  simp -implicitDefEqProofs only [reduceIte,ai,aj,q1,q2,q3,q4,aY,h.lr]⟩]
 simp -implicitDefEqProofs only [reduceIte,ai,aj,q1,q2,q3,q4,R.iD]
 rw[bY (by rw[length_map,h.ls];omega)]
 simp -implicitDefEqProofs only [reduceIte,ai,aj,q1,q2,q3,q4,jh]
 rfl
theorem AB{n:Nat}{r:List Int}(h:r.length=n)(hn:n<=7):dS [.lst (aA r)]=.ok (aA (fl n r.reverse)):=by
 unfold dS oB
 simp -implicitDefEqProofs only [mS,mD,mF,eR,aH,reduceAdd,reduceSub,reduceEqDiff,reduceIte,ai,aj,q1,q2,q3,q4,Bo,cM]
 rw[gB (fun k=>(n:Int)-1-k) r.reverse fun k _=>⟨_,dJ _ _ _,rfl,by
  unfold kB dR
  simp -implicitDefEqProofs only [reduceIte,ai,aj,q1,q2,q3,q4,aY,h]⟩]
 simp -implicitDefEqProofs only [reduceIte,ai,aj,q1,q2,q3,q4,R.iD]
 rw[bY (by rw[length_map,length_reverse];omega)]
 simp -implicitDefEqProofs only [reduceIte,ai,aj,q1,q2,q3,q4,jh]
 rfl
theorem GC{b:D->DE->R Out}{x:D}{xs:List D}{e e':DE}(h:b x e=.ok (.nx e')):dH b (x::xs) e=dH b xs e':=by
 rw[dH,h];rfl
theorem rq(gs:List (List Int))(c:List Int):yF (gs++[c]) (.int (-1))=.ok (gs.length,c):=by
 have hk:o6 (gs++[c]).length (-1)=some gs.length:=by
  unfold L2.o6
  rw[if_neg (by decide),length_append,length_singleton,if_pos (by omega)]
  congr 1
  omega
 have hg:(gs++[c])[gs.length]?=some c:=by simp
 unfold yF
 simp -implicitDefEqProofs only [hk,hg]
theorem B8{ix:Nat}{env:DE}{nss:List (List Int)}{k:Nat}{l:List Int}{v:Int}(h:l.length<1000):Aa ix env nss (k,l) (.int v)=.ok (.nx (env.set ix (.deep (Ct.ls (nss.set k (l++[v])))))):=if_pos (lt_of_lt_of_le h (by decide))
theorem B9{ix:Nat}{env:DE}{nss:List (List Int)}{ns:List Int}(h:nss.length<1000):E9 ix env nss ns=.ok (.nx (env.set ix (.deep (Ct.ls (nss++[ns]))))):=if_pos (lt_of_lt_of_le h (by decide))
theorem jx(nss:List (List Int))(r:DE):eU 0 (.deep (Ct.ls nss)::r)=.ok nss:=rfl
theorem jy(i:Nat)(a:Sl)(r:DE):eU (i+1) (a::r)=eU i r:=rfl
theorem GD(nss:List (List Int))(r:DE):aU 0 (.deep (Ct.ls nss)::r)=.ok (.lst (nss.map fun ns=>.lst (aA ns))):=rfl
theorem OQ{n:Nat}(hn:n<=7){o:List Int}(ho:o.length=n)(s0 s1 s3:Sl){a:Nat}(ha:a+1<n)(hc:¬aa o (a+1)<aa o a):jR (.int ((a:Int)+1)) [s0,s1,.own (aA o),s3]=.ok (.nx [s0,s1,.own (aA (fA o a)),.val (.int ((a:Int)+1))]):=by
 unfold jR
 have h0:¬(a:Int)+1<0:=by omega
 simp -implicitDefEqProofs only [dJ,mS,mD,mF,eR,aH,reduceAdd,reduceSub,reduceEqDiff,reduceIte,ai,aj,q1,q2,q3,q4,h0,decide_false]
 rw[bZ (by omega) (by omega),bZ (by omega) (by omega),show((a:Int)+1-1).toNat=a by omega,show((a:Int)+1).toNat=a+1 by omega]
 simp -implicitDefEqProofs only [reduceIte,ai,aj,q1,q2,q3,q4,hc,decide_false]
 rw[qX (by omega) (by omega)]
 simp -implicitDefEqProofs only [reduceIte,ai,aj,q1,q2,q3,q4]
theorem zh{n:Nat}(hn:n<=7)(s0 s1:Sl):∀(w o z:List Int)(s3:Sl),Ps n w->o.length=n->dX w o=some z->∃OS,dH jR (aA w) [s0,s1,.own (aA o),s3]=.ok (.nx [s0,s1,.own (aA z),OS])
 |[],o,z,s3,_,_,h=>by cases h;exact⟨s3,rfl⟩
 |k::w,o,z,s3,hv,ho,h=>by
  obtain⟨a,rfl,ha⟩:=hv k (by simp)
  rw[jb (n:=n)]at h
  split at h
  ·cases h
  ·rename_i hc
   rw[<-mH,GC (OQ hn ho s0 s1 s3 ha hc)]
   exact zh hn s0 s1 w (fA o a) z _ (fun x hx=>hv x (by simp[hx])) (by rw[fR,ho]) h
theorem wm{n:Nat}(hn:n<=7){w z:List Int}(hv:Ps n w)(h:dX w (upTo n)=some z):kD [.int n,.lst (aA w)]=.ok (aA z):=by
 unfold kD yN
 simp -implicitDefEqProofs only [mS,mD,mF,eR,aH,reduceAdd,reduceSub,reduceEqDiff,reduceIte,ai,aj,q1,q2,q3,q4]
 rw[jY n hn]
 simp -implicitDefEqProofs only [reduceIte,ai,aj,q1,q2,q3,q4]
 obtain⟨s3,e⟩:=zh hn (.val (.int n)) (.val (.lst (aA w))) w (upTo n) z .no hv (ar n) h
 rw[e]
 simp -implicitDefEqProofs only [reduceIte,ai,aj,q1,q2,q3,q4,jh]
def iR(l:List Int)(k:Int):List Int:=if l.getLast?=some (-k)then l.dropLast else l++[k]
def g9(s w:List Int):List Int:=w.foldl iR s
theorem GF(s a b:List Int):g9 s (a++b)=g9 (g9 s a) b:=foldl_append
theorem uM:∀(w s:List Int),(g9 s w).length<=s.length+w.length
 |[],s=>by simp[g9]
 |k::w,s=>by
  have:=uM w (iR s k)
  show(g9 (iR s k) w).length<=_
  have h2:(iR s k).length<=s.length+1:=by
   unfold iR
   split
   ·rw[List.length_dropLast];omega
   ·simp
  rw[length_cons];omega
theorem AD(l:List Int):iP l (-1)=l.getLast?:=by
 rw[List.getLast?_eq_getElem?]
 unfold L2.iP L2.o6
 rw[if_neg (by decide)]
 cases l with
 |nil=>rfl
 |cons x r=>
  rw[if_pos (by simp;omega)]
  show(x::r)[(-1+((x::r).length:Int)).toNat]?=_
  congr 1
  simp;omega
theorem AE(w:List Int)(hw:w.length<=100000):ky [.lst (aA w)]=.ok (aA (g9 [] w)):=by
 unfold ky vX
 simp -implicitDefEqProofs only [mS,mD,mF,eR,aH,reduceAdd,reduceSub,reduceEqDiff,reduceIte,ai,aj,q1,q2,q3,q4]
 obtain⟨s',e,hj⟩:=qO (S:=List Int×Sl) (b:=lj) (fun i s=>s.1=g9 [] (w.take i))
  (fun s=>[.val (.lst (aA w)),.own (aA s.1),s.2]) (aA w) 0 ([],.no) rfl (by
   rintro j ⟨l,s2⟩ x hs hx
   obtain⟨k,hk,rfl⟩:=Bs hx
   rw[zero_add]at hs⊢
   have Hf:l=g9 [] (w.take j):=hs
   have Ti:=uM (w.take j) []
   rw[<-Hf,length_take]at Ti
   simp -implicitDefEqProofs only [length_nil]at Ti
   refine⟨(iR l k,.val (.int k)),?_,by show iR l k=_;rw[yI hk,GF,Hf];rfl⟩
   unfold lj iR
   simp -implicitDefEqProofs only [dJ,reduceIte,ai,aj,q1,q2,q3,q4,aY]
   cases l with
   |nil=>
    simp -implicitDefEqProofs only [length_nil,reduceIte,ai,aj,q1,q2,q3,q4,Int.natCast_zero,Int.lt_irrefl,decide_false,List.getLast?_nil]
    rw[Bl (by simp[aA])]
    rfl
   |cons y r=>
    have h0:(0:Int)<((y::r).length:Nat):=by simp
    generalize hyr:y::r=l at*
    simp -implicitDefEqProofs only [h0,decide_true,reduceIte,ai,aj,q1,q2,q3,q4]
    rw[w9,AD]
    cases hq:l.getLast? with
    |none=>rw[<-hyr]at hq;simp at hq
    |some z=>
     simp -implicitDefEqProofs only [map_some,reduceIte,ai,aj,q1,q2,q3,q4]
     by_cases hz:z= -k
     ·have Te:(z== -k)=true:=by rw[beq_iff_eq];exact hz
      subst hz
      simp -implicitDefEqProofs only [beq_self_eq_true,reduceIte,ai,aj,q1,q2,q3,q4]
      rw[IC (by rw[aY];omega)]
      simp -implicitDefEqProofs only [reduceIte,ai,aj,q1,q2,q3,q4]
      show _=R.ok (Out.nx [_,Sl.own (aA l.dropLast),_])
      unfold aA
      rw[map_dropLast]
     ·have Te:(z== -k)=false:=beq_false_of_ne hz
      have hz2:¬(some z=some (-k)):=fun e=>hz (Option.some.inj e)
      simp -implicitDefEqProofs only [Te,reduceIte,ai,aj,q1,q2,q3,q4]
      rw[Bl (by rw[aY];omega),if_neg hz2]
      simp -implicitDefEqProofs only [reduceIte,ai,aj,q1,q2,q3,q4]
      unfold aA
      rw[map_append]
      rfl)
 obtain⟨l,s2⟩:=s'
 rw[zero_add,aY,take_length]at hj
 have Ah:l=g9 [] w:=hj
 dsimp only at e
 rw[show([]:List D)=aA []from rfl,e,Ah]
 simp -implicitDefEqProofs only [reduceIte,ai,aj,q1,q2,q3,q4,jh]
theorem zj:∀(w s:List Int),∀k∈g9 s w,k∈s\/k∈w
 |[],s,k,h=>.inl h
 |x::w,s,k,h=>by
  rcases zj w (iR s x) k h with h|h
  ·unfold iR at h
   split at h
   ·exact .inl (mem_of_mem_take (by rw[dropLast_eq_take]at h;exact h))
   ·rcases mem_append.mp h with h|h
    ·exact .inl h
    ·exact .inr (by rw[mem_singleton.mp h];exact mem_cons_self)
  ·exact .inr (mem_cons_of_mem _ h)
theorem Jy(s0:Sl)(b k:Int)(hk:1<=k/\k<=7)(s2:Sl):iU (.int k) [s0,.val (.int b),s2]=.ok (.nx [s0,.val (.int (Builtin.bitOr b (1*2^(k-1).toNat))),.val (.int k)]):=by
 unfold iU
 simp -implicitDefEqProofs only [dJ,mS,mD,mF,eR,aH,reduceAdd,reduceSub,reduceEqDiff,reduceIte,ai,aj,q1,q2,q3,q4]
 rw[show IS (.int 1) (.int (k-1))=some (.int (1*2^(k-1).toNat))from if_pos (by
  unfold Cw
  exact⟨by omega,by omega,by decide⟩)]
 simp -implicitDefEqProofs only [reduceIte,ai,aj,q1,q2,q3,q4,CP]
theorem wo(s0:Sl):∀(ks:List Int)(b:Int)(s2:Sl),(∀k∈ks,1<=k/\k<=7)->∃Xo,dH iU (aA ks) [s0,.val (.int b),s2]=.ok (.nx [s0,.val (.int (ks.foldl (fun b k=>Builtin.bitOr b (1*2^(k-1).toNat)) b)),Xo])
 |[],b,s2,_=>⟨s2,rfl⟩
 |k::ks,b,s2,h=>by
  rw[<-mH,GC (Jy s0 b k (h k (by simp)) s2)]
  exact wo s0 ks _ _ fun x hx=>h x (by simp[hx])
theorem Jz:∀ks:List Int,(∀k∈ks,1<=k/\k<=7)->kC [.lst (aA ks)]=.ok (.int (Al ks)):=fun ks h=>by
 unfold kC vY
 simp -implicitDefEqProofs only [mS,mD,mF,eR,aH,reduceAdd,reduceSub,reduceEqDiff,reduceIte,ai,aj,q1,q2,q3,q4]
 obtain⟨s2,e⟩:=wo (.val (.lst (aA ks))) ks 0 .no h
 rw[e]
 simp -implicitDefEqProofs only [reduceIte,ai,aj,q1,q2,q3,q4]
 rfl
theorem JA(n:Nat):Iv n (upTo n).reverse (upTo n).reverse:=by
 have c:∀p,p<n->aa (upTo n).reverse p=((n-1-p:Nat):Int):=fun p hp=>by
  rw[dE (by rw[ar];exact hp),ar,aI (by omega)]
 have h:∀p,p<n->0<=aa (upTo n).reverse p/\aa (upTo n).reverse p<n/\aa (upTo n).reverse (aa (upTo n).reverse p).toNat=p:=fun p hp=>by
  rw[c p hp,toNat_natCast,c _ (by omega)]
  refine⟨by omega,by omega,?_⟩
  omega
 exact⟨by rw[length_reverse,ar],by rw[length_reverse,ar],h,h⟩
theorem JB(n:Nat)(hn:1<=n/\n<=7):uk [.int n]=.ok (aA (upTo n).reverse):=by
 unfold uk FA
 simp -implicitDefEqProofs only [mS,mD,mF,eR,aH,reduceAdd,reduceSub,reduceEqDiff,reduceIte,ai,aj,q1,q2,q3,q4]
 have er:E4 [.int ((n:Int)-1),.int (-1),.int (-1)]=.ok (E3 ((n:Int)-1) (-1) (Builtin.Range.rangeSize ((n:Int)-1) (-1) (-1)).toNat):=if_pos (by unfold RC;omega)
 rw[er]
 have e2:E3 ((n:Int)-1) (-1) (Builtin.Range.rangeSize ((n:Int)-1) (-1) (-1)).toNat=aA (upTo n).reverse:=by
  have hc:n=1\/n=2\/n=3\/n=4\/n=5\/n=6\/n=7:=by omega
  rcases hc with rfl|rfl|rfl|rfl|rfl|rfl|rfl<;>rfl
 rw[e2]
 simp -implicitDefEqProofs only [reduceIte,ai,aj,q1,q2,q3,q4,jh]
theorem LA(n:Nat)(f:Nat->Nat):S n (fun i=>f (n-1-i))=S n f:=by
 induction n with
 |zero=>rfl
 |succ n ih=>
  rw[Bv,gC,<-ih]
  rw[show n+1-1-0=n by omega,Nat.add_comm]
  congr 1
  exact eu fun i _=>by rw[show n+1-1-(i+1)=n-1-i by omega]
def T2(n:Nat):Nat:=S n fun q=>S n fun p=>if p<q then 1 else 0
theorem JC{n:Nat}(h:1<=n/\n<=7):((T2 n:Nat):Int)=(n:Int)*((n:Int)-1)/2:=by
 have hc:n=1\/n=2\/n=3\/n=4\/n=5\/n=6\/n=7:=by omega
 rcases hc with rfl|rfl|rfl|rfl|rfl|rfl|rfl<;>rfl
theorem GG{n:Nat}{r s:List Int}(h:Iv n r s):dM (fl n s)+dM s=T2 n:=by
 rw[wb,wb,lH,h.ls,<-yQ]
 unfold T2
 refine eu fun q hq=>?_
 rw[<-yQ]
 refine eu fun p hp=>?_
 by_cases hpq:p<q
 ·rw[if_pos hpq,if_pos hpq,if_pos hpq,qo (by rw[h.ls];exact hq),qo (by rw[h.ls];exact hp)]
  have hne:aa s p≠aa s q:=fun z=>by
   have:=h.DB hp hq z
   omega
  repeat' split
  all_goals omega
 ·rw[if_neg hpq,if_neg hpq,if_neg hpq]
theorem Ca{n:Nat}{r s:List Int}(h:Iv n r s):dM s.reverse+dM s=T2 n:=by
 have e1:dM s.reverse=S n fun q=>S n fun p=>if p<q then(if aa s p<aa s q then 1 else 0)else 0:=by
  rw[wb,length_reverse,h.ls,FG n n fun q p=>if p<q then(if aa s p<aa s q then 1 else 0)else 0,<-LA n fun p=>S n fun q=>if p<q then(if aa s p<aa s q then 1 else 0)else 0]
  refine eu fun q hq=>?_
  rw[<-LA n fun Zi=>if n-1-q<Zi then(if aa s (n-1-q)<aa s Zi then 1 else 0)else 0]
  refine eu fun p hp=>?_
  rw[dE (by rw[h.ls];exact hq),dE (by rw[h.ls];exact hp),h.ls]
  by_cases hpq:p<q
  ·have hq2:n-1-q<n-1-p:=by omega
   rw[if_pos hpq,if_pos hq2]
  ·have hq2:¬n-1-q<n-1-p:=by omega
   rw[if_neg hpq,if_neg hq2]
 rw[e1,wb,h.ls,<-yQ]
 unfold T2
 refine eu fun q hq=>?_
 rw[<-yQ]
 refine eu fun p hp=>?_
 by_cases hpq:p<q
 ·rw[if_pos hpq,if_pos hpq,if_pos hpq]
  have hne:aa s p≠aa s q:=fun z=>by
   have:=h.DB hp hq z
   omega
  repeat' split
  all_goals omega
 ·rw[if_neg hpq,if_neg hpq,if_neg hpq]
def Cb(k:Int):Int:=if 0<k then 1 else-1
def o5(w:List Int):Int:=(w.map Cb).sum
theorem xH(a b:List Int):o5 (a++b)=o5 a+o5 b:=by unfold o5;rw[map_append,sum_append]
def gn(h:Int)(o:List Int):List Int:=if h%2=0 then o else o.reverse
theorem uN(h:Int)(o:List Int):(gn h o).length=o.length:=by unfold gn;split<;>simp
theorem cK(o r:List Int):(cmp o r).length=r.length:=by unfold cmp;exact length_map _
theorem Cc:∀(w o:List Int),(jD w o).length=o.length
 |[],o=>rfl
 |k::w,o=>by
  show(jD w (fA o _)).length=_
  rw[Cc w,fR]
theorem OT{n:Nat}{o:List Int}(h:o.length=n):cmp o (upTo n)=o:=by
 refine bF (by rw[cK,ar,h]) fun t ht=>?_
 rw[cK,ar]at ht
 rw[cG (by rw[ar];exact ht),aI ht,toNat_natCast]
theorem Cd{n:Nat}{o:List Int}(h:o.length=n)(w:List Int):jD w o=cmp o (jD w (upTo n)):=by
 conv=>lhs;rw[<-OT h]
 unfold cmp
 exact xF _ w _
theorem qp(a b o:List Int):jD (a++b) o=jD b (jD a o):=foldl_append
theorem OU{n:Nat}{o r s:List Int}(h:o.length=n)(i:Iv n r s):cmp o.reverse (fl n s)=cmp o s:=by
 refine bF (by rw[cK,cK,lH]) fun t ht=>?_
 rw[cK,lH,i.ls]at ht
 obtain⟨a1,a2,_⟩:=i.sr t ht
 rw[cG (by rw[lH,i.ls];exact ht),cG (by rw[i.ls];exact ht),qo (by rw[i.ls];exact ht),dE (by rw[h];omega),h]
 congr 1
 omega
theorem GH{n:Nat}{r s:List Int}(h:Iv n r s)(hr:Iv n r.reverse (uy r.reverse)):dM (fl n r.reverse)=dM r:=by
 have e1:=GG hr.symm
 have e2:=Ca h.symm
 omega
theorem zk{n:Nat}{o r s:List Int}(h:o.length=n)(i:Iv n r s):cmp o.reverse (fl n r.reverse)=(cmp o r).reverse:=by
 refine bF (by rw[cK,lH,length_reverse,length_reverse,cK]) fun t ht=>?_
 rw[cK,lH,length_reverse,i.lr]at ht
 obtain⟨a1,a2,_⟩:=i.rs (n-1-t) (by omega)
 have e1:aa r.reverse t=aa r (n-1-t):=by rw[dE (by rw[i.lr];exact ht),i.lr]
 have e2:aa (cmp o r).reverse t=aa (cmp o r) (n-1-t):=by rw[dE (by rw[cK,i.lr];exact ht),cK,i.lr]
 rw[cG (by rw[lH,length_reverse,i.lr];exact ht),qo (by rw[length_reverse,i.lr];exact ht),e1,e2,dE (by rw[h];omega),h,cG (by rw[i.lr];omega)]
 congr 1
 omega
def jZ(n:Nat)(h:Int)(r:List Int):List Int:=if h%2=0 then r else fl n r.reverse
theorem C6{n:Nat}(h:Int){r:List Int}(hr:bp n r):bp n (jZ n h r):=by
 unfold jZ
 split
 ·exact hr
 ·exact GB (B7 hr)
theorem C7{n:Nat}(h:Int){r:List Int}(hr:bp n r):dM (jZ n h r)=dM r:=by
 unfold jZ
 split
 ·rfl
 ·exact GH (o4 hr) (o4 (B7 hr))
theorem C8{n:Nat}(h g:Int){o r:List Int}(ho:o.length=n)(hr:bp n r):cmp (gn (g+h) o) (jZ n h r)=gn h (cmp (gn g o) r):=by
 unfold jZ gn
 by_cases c:h%2=0
 ·rw[if_pos c,if_pos c]
  by_cases d:g%2=0
  ·rw[if_pos d,if_pos (by omega)]
  ·rw[if_neg d,if_neg (by omega)]
 ·rw[if_neg c,if_neg c]
  by_cases d:g%2=0
  ·rw[if_pos d,if_neg (by omega),zk ho (o4 hr)]
  ·rw[if_neg d,if_pos (by omega)]
   have:=zk (o:=o.reverse) (by rw[length_reverse];exact ho) (o4 hr)
   rw[reverse_reverse]at this
   exact this
abbrev hS(qs:List (Int×List Int)):Int:=(qs.map (·.1)).sum
def cZ(n:Nat):List (Int×List Int)->List (List Int)
 |[]=>[]
 |q::qs=>jZ n (hS qs) q.2::cZ n qs
def GJ(o:List Int)(qs:List (Int×List Int)):List Int:=qs.foldl (fun o q=>cmp (gn q.1 o) q.2) o
theorem rz(n:Nat):∀qs,(cZ n qs).length=qs.length
 |[]=>rfl
 |q::qs=>by show(cZ n qs).length+1=_;rw[rz n qs];rfl
theorem wq{n:Nat}:∀(qs:List (Int×List Int)),(∀q∈qs,bp n q.2)->∀r∈cZ n qs,bp n r
 |[],_,r,hr=>nomatch hr
 |q::qs,h,r,hr=>by
  rcases mem_cons.mp hr with rfl|hr
  ·exact C6 _ (h q (by simp))
  ·exact wq qs (fun x hx=>h x (by simp[hx])) r hr
theorem wt{n:Nat}:∀(qs:List (Int×List Int))(o:List Int),(∀q∈qs,bp n q.2)->o.length=n->sS (gn (hS qs) o) (cZ n qs)=GJ o qs
 |[],o,_,_=>by
  show gn 0 o=o
  rfl
 |q::qs,o,h,ho=>by
  have hq:=h q (by simp)
  have ih:=wt qs (cmp (gn q.1 o) q.2) (fun x hx=>h x (by simp[hx])) (by rw[cK,hq.len])
  show sS (cmp (gn (hS (q::qs)) o) (jZ n (hS qs) q.2)) (cZ n qs)=GJ (cmp (gn q.1 o) q.2) qs
  rw[<-ih,show hS (q::qs)=q.1+hS qs from rfl,C8 _ _ ho hq]
theorem wu{n:Nat}:∀(qs:List (Int×List Int)),(∀q∈qs,bp n q.2)->iF (cZ n qs)=iF (qs.map (·.2))
 |[],_=>rfl
 |q::qs,h=>by
  have ih:=wu qs fun x hx=>h x (by simp[hx])
  have e:∀(r:List Int)(R:List (List Int)),iF (r::R)=dM r+iF R:=fun r R=>by unfold iF;rw[map_cons,sum_cons]
  show iF (jZ n (hS qs) q.2::cZ n qs)=iF (q.2::qs.map (·.2))
  rw[e,e,ih,C7 _ (h q (by simp))]
abbrev oi(k:Int):Int:=if k<0 then-k else k
theorem GK{n:Nat}{k:Int}(h:rK n k):∃a:Nat,oi k=(a:Int)+1/\a+1<n:=by
 unfold rK at h
 unfold oi
 split
 ·exact⟨(-k-1).toNat,by omega,by omega⟩
 ·exact⟨(k-1).toNat,by omega,by omega⟩
theorem OV{n:Nat}{p:List Int}(h:∀k∈p,rK n k):Ps n (p.map oi):=fun k hk=>by
 obtain⟨x,hx,rfl⟩:=mem_map.mp hk
 exact GK (h x hx)
theorem GO(a b:Bool):Bd (.bl a) (.bl b)=some (.bl (!(a==b))):=rfl
theorem JD:Bj []=some []:=rfl
theorem zm{α:Type}(l:List α)(x y:α):(l++[x]).set l.length y=l++[y]:=by simp
structure Gp(n:Nat)(p:List Int):Prop where
 ne:p≠[]
 x:∀k∈p,rK n k
 sg:(∀k∈p,0<k)\/∀k∈p,k<0
 le:∃z,dX (p.map oi) (upTo n)=some z
structure OW(n i:Nat)(u:List Int)(lh:List (List Int))(o:List Int)(s:Bool):Prop where
 len:lh.length<=i
 lo:o.length=n
 good:∀p∈lh,Gp n p/\p.length<=i
 fla:lh.flatten=u
 last:lh=[]\/∃ini cur,lh=ini++[cur]/\(∀k∈cur,s=decide (0<k))/\dX (cur.map oi) (upTo n)=some o
theorem sX{i:Nat}{env:DE}{a v:Int}{l:List Int}(h:0<=a)(h2:a<l.length):yz i env (.int v) (aA l) (.int a)=.ok (.nx (env.set i (.own (aA (l.set a.toNat v))))):=by
 rw[yB h (by rw[aY];exact h2)]
 unfold aA
 rw[map_set]
theorem Ce{l:List Int}{a:Nat}(h:a+1<l.length):(l.set (a+1) (aa l a)).set a (aa l (a+1))=fA l a:=by
 refine bF (by rw[length_set,length_set,fR]) fun j hj=>?_
 rw[length_set,length_set]at hj
 rw[uu (by rw[length_set];exact hj),uu hj,kG _ _ h]
 repeat' split
 all_goals first|rfl|omega|(subst_vars;rfl)
theorem OY{n i:Nat}(hn:n<=7)(hi:i<100){lh:List (List Int)}{o:List Int}{s:Bool}{u:List Int}(J:OW n i u lh o s){k:Int}(hk:rK n k)(s1 s5 s6 s7:Sl):
  ∃SH o' s' t5 t6 t7,mY (.int k) [.val (.int n),s1,.deep (.ls lh),.own (aA o),.val (.bl s),s5,s6,s7]=.ok (.nx [.val (.int n),s1,.deep (.ls SH),.own (aA o'),.val (.bl s'),t5,t6,t7])/\OW n (i+1) (u++[k]) SH o' s':=by
 obtain⟨a,ea,ha⟩:=GK hk
 have lo:=J.lo
 have hlen:=J.len
 have at1:iP (aA o) ((a:Int)+1-1)=some (.int (aa o a)):=by rw[bZ (by omega) (by omega),show((a:Int)+1-1).toNat=a by omega]
 have at2:iP (aA o) ((a:Int)+1)=some (.int (aa o (a+1))):=by rw[bZ (by omega) (by omega),show((a:Int)+1).toNat=a+1 by omega]
 have ku:iP (aA (upTo n)) ((a:Int)+1-1)=some (.int (aa (upTo n) a)):=by rw[bZ (by omega) (by rw[ar];omega),show((a:Int)+1-1).toNat=a by omega]
 have ku2:iP (aA (upTo n)) ((a:Int)+1)=some (.int (aa (upTo n) (a+1))):=by rw[bZ (by omega) (by rw[ar];omega),show((a:Int)+1).toNat=a+1 by omega]
 have hgk:Gp n [k]:=⟨by simp,fun x hx=>by rw[mem_singleton.mp hx];exact hk,by
  unfold rK at hk
  by_cases c:0<k
  ·exact .inl fun x hx=>by rw[mem_singleton.mp hx];exact c
  ·exact .inr fun x hx=>by rw[mem_singleton.mp hx];omega,⟨fA (upTo n) a,by
   show dX [oi k] (upTo n)=_
   rw[ea,jb (n:=n),if_neg (by rw[aI (by omega),aI (by omega)];omega)]
   rfl⟩⟩
 have hkl:dX [oi k] (upTo n)=some (fA (upTo n) a):=by
  rw[ea,jb (n:=n),if_neg (by rw[aI (by omega),aI (by omega)];omega)]
  rfl
 by_cases hnew:lh=[]\/s≠decide (0<k)\/aa o (a+1)<aa o a
 ·refine⟨lh++[[k]],fA (upTo n) a,decide (0<k),.val (.int k),.val (.int ((a:Int)+1)),.val (.int (aa (upTo n) (a+1))),?_,⟨by simp;omega,by rw[fR,ar],fun p hp=>?_,by rw[flatten_append,J.fla];simp,.inr ⟨lh,[k],rfl,fun x hx=>by rw[mem_singleton.mp hx],hkl⟩⟩⟩
  ·have GQ:(if(((lh.length:Nat):Int)==0)=true then R.ok true else if(!(s==decide (0<k)))=true then R.ok true else R.ok (decide (aa o (a+1)<aa o a)):R Bool)=.ok true:=by
    rcases hnew with h|h|h
    ·rw[if_pos (by rw[h];rfl)]
    ·split
     ·rfl
     ·rw[if_pos (by simpa using h)]
    ·rw[decide_eq_true h]
     repeat' split
     all_goals rfl
   unfold mY
   simp -implicitDefEqProofs only [dJ,mS,mD,mF,eR,aH,reduceAdd,reduceSub,reduceEqDiff,reduceIte,ai,aj,q1,q2,q3,q4,GD,GO,ea,at1,at2,length_map,GQ,jx,jy,JD]
   rw[B9 (by omega)]
   simp -implicitDefEqProofs only [reduceIte,ai,aj,q1,q2,q3,q4,jx,jy,rq]
   rw[jY n hn]
   simp -implicitDefEqProofs only [reduceIte,ai,aj,q1,q2,q3,q4,jx,jy,rq]
   rw[B8 (by simp)]
   simp -implicitDefEqProofs only [reduceIte,ai,aj,q1,q2,q3,q4,ku,ku2]
   rw[sX (by omega) (by rw[ar];omega)]
   simp -implicitDefEqProofs only [reduceIte,ai,aj,q1,q2,q3,q4]
   rw[sX (by omega) (by rw[length_set,ar];omega)]
   simp -implicitDefEqProofs only [reduceIte,ai,aj,q1,q2,q3,q4]
   rw[show((a:Int)+1).toNat=a+1 by omega,show((a:Int)+1-1).toNat=a by omega,Ce (by rw[ar];omega),zm]
  ·rcases mem_append.mp hp with h|h
   ·exact⟨(J.good p h).1,by have:=(J.good p h).2;omega⟩
   ·rw[mem_singleton.mp h]
    exact⟨hgk,by simp⟩
 ·have h1:lh≠[]:=fun z=>hnew (.inl z)
  have h2:s=decide (0<k):=byContradiction fun z=>hnew (.inr (.inl z))
  have h3:¬aa o (a+1)<aa o a:=fun z=>hnew (.inr (.inr z))
  obtain⟨ini,cur,rfl,hs,hl⟩:=J.last.resolve_left h1
  obtain⟨gc,gl⟩:=J.good cur (by simp)
  have SJ:dX ((cur++[k]).map oi) (upTo n)=some (fA o a):=by
   rw[map_append,map_cons,map_nil,wk,hl,ea]
   show dX [(a:Int)+1] o=_
   rw[jb (n:=n),if_neg h3]
   rfl
  refine⟨ini++[cur++[k]],fA o a,s,.val (.int k),.val (.int ((a:Int)+1)),.val (.int (aa o (a+1))),?_,⟨by simp at hlen⊢;omega,by rw[fR,lo],fun p hp=>?_,by have:=J.fla;rw[flatten_append]at this⊢;rw[<-this];simp,.inr ⟨ini,cur++[k],rfl,fun x hx=>?_,SJ⟩⟩⟩
  ·have GQ:(if((((ini++[cur]).length:Nat):Int)==0)=true then R.ok true else if(!(s==decide (0<k)))=true then R.ok true else R.ok (decide (aa o (a+1)<aa o a)):R Bool)=.ok false:=by
    rw[if_neg (by simp;omega),h2,if_neg (by simp),decide_eq_false h3]
   unfold mY
   simp -implicitDefEqProofs only [dJ,reduceIte,ai,aj,q1,q2,q3,q4,GD,GO,ea,at1,at2,length_map,GQ,jx,jy,rq]
   rw[B8 (by omega)]
   simp -implicitDefEqProofs only [reduceIte,ai,aj,q1,q2,q3,q4,at1,at2]
   rw[sX (by omega) (by omega)]
   simp -implicitDefEqProofs only [reduceIte,ai,aj,q1,q2,q3,q4]
   rw[sX (by omega) (by rw[length_set];omega)]
   simp -implicitDefEqProofs only [reduceIte,ai,aj,q1,q2,q3,q4]
   rw[show((a:Int)+1).toNat=a+1 by omega,show((a:Int)+1-1).toNat=a by omega,Ce (by omega),zm]
  ·rcases mem_append.mp hp with h|h
   ·exact⟨(J.good p (by simp[h])).1,by have:=(J.good p (by simp[h])).2;omega⟩
   ·rw[mem_singleton.mp h]
    refine⟨⟨by simp,fun x hx=>?_,?_,⟨_,SJ⟩⟩,by rw[length_append,length_singleton];omega⟩
    ·rcases mem_append.mp hx with q|q
     ·exact gc.x x q
     ·rw[mem_singleton.mp q];exact hk
    ·have Mx:=hk
     unfold rK at Mx
     by_cases c:0<k
     ·refine .inl fun x hx=>?_
      rcases mem_append.mp hx with q|q
      ·have:=hs x q
       rw[h2,decide_eq_true c]at this
       exact of_decide_eq_true this.symm
      ·rw[mem_singleton.mp q];exact c
     ·refine .inr fun x hx=>?_
      rcases mem_append.mp hx with q|q
      ·have:=hs x q
       rw[h2,decide_eq_false c]at this
       have:=of_decide_eq_false this.symm
       have:=(gc.x x q).1
       omega
      ·rw[mem_singleton.mp q];omega
  ·rcases mem_append.mp hx with q|q
   ·exact hs x q
   ·rw[mem_singleton.mp q];exact h2
theorem OZ{n:Nat}(hn:n<=7){w:List Int}(hw:∀k∈w,rK n k)(hl:w.length<=100):∃lh:List (List Int),yO [.int n,.lst (aA w)]=.ok lh/\lh.flatten=w/\lh.length<=w.length/\∀p∈lh,Gp n p/\p.length<=w.length:=by
 unfold yO K7 mT
 simp -implicitDefEqProofs only [mS,mD,mF,eR,aH,reduceAdd,reduceSub,reduceEqDiff,reduceIte,ai,aj,q1,q2,q3,q4]
 rw[jY n hn]
 simp -implicitDefEqProofs only [reduceIte,ai,aj,q1,q2,q3,q4]
 obtain⟨⟨lh,o,s,t5,t6,t7⟩,e,hj⟩:=qO (S:=List (List Int)×List Int×Bool×Sl×Sl×Sl) (b:=mY) (fun i q=>OW n i (w.take i) q.1 q.2.1 q.2.2.1)
  (fun q=>[.val (.int n),.val (.lst (aA w)),.deep (.ls q.1),.own (aA q.2.1),.val (.bl q.2.2.1),q.2.2.2.1,q.2.2.2.2.1,q.2.2.2.2.2]) (aA w) 0 ([],upTo n,false,.no,.no,.no)
  ⟨Nat.le_refl _,ar n,(fun p hp=>nomatch hp),rfl,.inl rfl⟩ (by
   rintro j ⟨lh,o,s,t5,t6,t7⟩ x hs hx
   obtain⟨k,hk,rfl⟩:=Bs hx
   have OE:j<w.length:=(List.getElem?_eq_some_iff.mp hk).1
   obtain⟨p1,o1,s1,u5,u6,u7,e,hJ⟩:=OY hn (show 0+j<100 by omega) hs (hw k (mem_of_getElem? hk)) (.val (.lst (aA w))) t5 t6 t7
   refine⟨(p1,o1,s1,u5,u6,u7),e,?_⟩
   rw[zero_add]at hJ⊢
   rw[yI hk]
   exact hJ)
 dsimp only at e hj
 rw[e]
 rw[zero_add,aY]at hj
 simp -implicitDefEqProofs only [reduceIte,ai,aj,q1,q2,q3,q4,jx,jy,E8]
 exact⟨lh,rfl,by rw[hj.fla,take_length],hj.len,hj.good⟩
theorem C9(w:List Int)(hw:w.length<=1000):mU [.lst (aA w)]=.ok (aA (w.reverse.map fun k=> -k)):=by
 unfold mU yL
 simp -implicitDefEqProofs only [mS,mD,mF,eR,aH,reduceAdd,reduceSub,reduceEqDiff,reduceIte,ai,aj,q1,q2,q3,q4,Bo,cM]
 rw[gB (fun k=> -k) w.reverse fun k _=>⟨_,dJ _ _ _,rfl,rfl⟩]
 simp -implicitDefEqProofs only [reduceIte,ai,aj,q1,q2,q3,q4,R.iD]
 rw[bY (by rw[length_map,length_reverse];omega)]
 simp -implicitDefEqProofs only [reduceIte,ai,aj,q1,q2,q3,q4,jh]
def zy(q:Int×List Int):D:=.tup [.int q.1,.lst (aA q.2)]
structure StP(n:Nat)(p:List Int)(q:Int×List Int):Prop where
 h:q.1=0\/q.1= -1
 r:bp n q.2
 o:∀o:List Int,o.length=n->cmp (gn q.1 o) q.2=jD (p.map oi) o
 c:q.1*(T2 n:Int)+(dM q.2:Int)=o5 p
theorem GR:∀{p:List Int},(∀k∈p,0<k)->o5 p=p.length
 |[],_=>rfl
 |k::p,h=>by
  have ih:=GR (p:=p) fun x hx=>h x (by simp[hx])
  unfold o5 at ih⊢
  rw[map_cons,sum_cons,ih,length_cons]
  unfold Cb
  rw[if_pos (h k (by simp))]
  omega
theorem GU:∀{p:List Int},(∀k∈p,k<0)->o5 p= -(p.length:Int)
 |[],_=>rfl
 |k::p,h=>by
  have ih:=GU (p:=p) fun x hx=>h x (by simp[hx])
  have:=h k (by simp)
  unfold o5 at ih⊢
  rw[map_cons,sum_cons,ih,length_cons]
  unfold Cb
  rw[if_neg (by omega)]
  omega
theorem JE{n:Nat}(hn:n<=7){p:List Int}(g:Gp n p)(hl:p.length<=1000):∃q,kE [.int n,.lst (aA p)]=.ok (zy q)/\StP n p q:=by
 obtain⟨k0,p',rfl⟩:=List.exists_cons_of_ne_nil g.ne
 obtain⟨z,hz⟩:=g.le
 have hp:=OV g.x
 have at0:iP (aA (k0::p')) 0=some (.int k0):=by rw[w9,Bm (by decide)];rfl
 unfold kE vZ
 simp -implicitDefEqProofs only [mS,mD,mF,eR,aH,reduceAdd,reduceSub,reduceEqDiff,reduceIte,ai,aj,q1,q2,q3,q4,at0]
 rcases g.sg with hs|hs
 ·have e:(k0::p').map oi=k0::p':=by
   conv=>rhs;rw[<-List.map_id (k0::p')]
   refine map_congr_left fun x hx=>?_
   have:=hs x hx
   show(if x<0 then-x else x)=x
   rw[if_neg (by omega)]
  rw[e]at hp hz
  simp -implicitDefEqProofs only [mS,mD,mF,eR,aH,reduceAdd,reduceSub,reduceEqDiff,reduceIte,ai,aj,q1,q2,q3,q4,decide_eq_true (hs k0 (by simp)),wm hn hp hz]
  obtain⟨w1,w2⟩:=nz (k0::p') _ _ z hp (lU n) hz
  refine⟨(0,z),rfl,⟨.inl rfl,xG (B6 hp hz),fun o ho=>?_,?_⟩⟩
  ·rw[e,Cd ho,<-w1]
   rfl
  ·rw[GR hs]
   dsimp only
   rw[w2,Jw n (by omega)]
   omega
 ·have e:(k0::p').map oi=(k0::p').map fun k=> -k:=map_congr_left fun x hx=>by
   have:=hs x hx
   show(if x<0 then-x else x)= -x
   rw[if_pos this]
  rw[e]at hp hz
  have hk0:=hs k0 (by simp)
  have hr:=GA hp hz
  rw[<-map_reverse]at hr
  have S7:Ps n ((k0::p').reverse.map fun k=> -k):=fun x hx=>hp x (by
   rw[map_reverse,mem_reverse]at hx
   exact hx)
  simp -implicitDefEqProofs only [mS,mD,mF,eR,aH,reduceAdd,reduceSub,reduceEqDiff,reduceIte,ai,aj,q1,q2,q3,q4,decide_eq_false (show¬0<k0 by omega),C9 _ hl,wm hn S7 hr]
  have iv:=B6 S7 hr
  unfold gP oF
  simp -implicitDefEqProofs only [mS,mD,mF,eR,aH,reduceAdd,reduceSub,reduceEqDiff,reduceIte,ai,aj,q1,q2,q3,q4,C5 iv hn]
  have es:jD ((k0::p').reverse.map fun k=> -k).reverse (upTo n)=jD ((k0::p').map oi) (upTo n):=by rw[e,map_reverse,reverse_reverse]
  rw[es]at iv⊢
  obtain⟨w1,w2⟩:=nz ((k0::p').map fun k=> -k) _ _ z hp (lU n) hz
  rw[<-e]at w1
  refine⟨(-1,fl n (jD ((k0::p').map oi) (upTo n))),rfl,⟨.inr rfl,GB (xG iv.symm),fun o ho=>?_,?_⟩⟩
  ·show cmp o.reverse (fl n (jD ((k0::p').map oi) (upTo n)))=_
   rw[OU ho iv,<-Cd ho]
  ·rw[GU hs]
   dsimp only
   have e1:=GG iv
   rw[<-w1]at e1⊢
   rw[w2,Jw n (by omega),length_map]at e1
   omega
theorem uO{n:Nat}(hn:n<=7):∀(ps:List (List Int)),(∀p∈ps,Gp n p/\p.length<=1000)->∃qs:List (Int×List Int),bj (bN 0) eZ bK (dR 1 [.int n]) (ps.map fun ns=>D.lst (ns.map D.int))=.ok (qs.map zy)/\qs.length=ps.length/\
  (∀q∈qs,(q.1=0\/q.1= -1)/\bp n q.2)/\(∀o:List Int,o.length=n->GJ o qs=jD (ps.flatten.map oi) o)/\hS qs*(T2 n:Int)+(iF (qs.map (·.2)):Int)=o5 ps.flatten
 |[],_=>⟨[],rfl,rfl,(fun q hq=>nomatch hq),(fun o _=>rfl),by show(0:Int)*_+0=0;rw[Int.zero_mul];rfl⟩
 |p::ps,h=>by
  obtain⟨qs,e1,e2,e3,e8,e9⟩:=uO hn ps fun x hx=>h x (by simp[hx])
  obtain⟨q,e4,e5⟩:=JE hn (h p (by simp)).1 (h p (by simp)).2
  refine⟨q::qs,?_,by rw[length_cons,length_cons,e2],fun x hx=>?_,fun o ho=>?_,?_⟩
  ·rw[map_cons]
   unfold bj
   rw[e1]
   have e6:bK [.val (.lst (aA p)),.val (.int n)]=.ok (zy q):=by
    unfold bK
    simp -implicitDefEqProofs only [mS,mD,mF,eR,aH,reduceAdd,reduceSub,reduceEqDiff,reduceIte,ai,aj,q1,q2,q3,q4,e4]
   rw[dJ,R.bB,show eZ _=.ok true from rfl,R.bB,if_pos rfl]
   have e7:bK (List.set (dR 1 [.int n]) 0 (.val (.lst (p.map D.int))))=.ok (zy q):=e6
   rw[e7]
   rfl
  ·rcases mem_cons.mp hx with rfl|hx
   ·exact⟨e5.h,e5.r⟩
   ·exact e3 x hx
  ·show GJ (cmp (gn q.1 o) q.2) qs=_
   rw[e5.o o ho,e8 _ (by rw[Cc,ho]),flatten_cons,map_append,qp]
  ·have hc:=e5.c
   have e:iF (q.2::qs.map (·.2))=dM q.2+iF (qs.map (·.2)):=by unfold iF;rw[map_cons,sum_cons]
   show(q.1+hS qs)*(T2 n:Int)+(iF (q.2::qs.map (·.2)):Int)=_
   rw[e,flatten_cons,xH,<-hc,<-e9,Int.add_mul]
   omega
theorem Cf:∀(l:List Int)(a:Nat),fA (fA l a) a=l
 |[],a=>by cases a<;>rfl
 |[x],0=>rfl
 |x::y::l,0=>rfl
 |x::l,a+1=>by rw[rN,rN,Cf l a]
theorem JF(k:Int):oi (-k)=oi k:=by unfold oi;split<;>split<;>omega
theorem JG{k:Int}(h:k≠0):Cb (-k)= -Cb k:=by unfold Cb;split<;>split<;>omega
theorem Dc{k:Int}(h:k≠0)(s:List Int):o5 (iR s k)=o5 s+Cb k/\∀o,jD ((iR s k).map oi) o=jD ((s++[k]).map oi) o:=by
 unfold iR
 have e1:∀k,o5 [k]=Cb k:=fun k=>by simp[o5]
 split
 ·rename_i hl
  have hne:s≠[]:=fun z=>by rw[z]at hl;cases hl
  have wI:s.dropLast++[-k]=s:=by
   have:=List.dropLast_concat_getLast hne
   rw[List.getLast?_eq_some_getLast hne]at hl
   rw[Option.some.inj hl]at this
   exact this
  have h2:o5 s=o5 s.dropLast+Cb (-k):=by
   conv=>lhs;rw[<-wI]
   rw[xH,e1]
  refine⟨by rw[h2,JG h];omega,fun o=>?_⟩
  conv=>rhs;rw[<-wI]
  rw[map_append,map_append,qp,qp]
  show _=fA (fA _ (oi (-k)-1).toNat) (oi k-1).toNat
  rw[JF,Cf]
 ·exact⟨by rw[xH,e1],fun o=>rfl⟩
theorem wx:∀(w s:List Int),(∀k∈w,k≠0)->o5 (g9 s w)=o5 s+o5 w/\∀o,jD ((g9 s w).map oi) o=jD ((s++w).map oi) o
 |[],s,_=>⟨by simp[g9,o5],fun o=>by rw[append_nil];rfl⟩
 |k::w,s,h=>by
  obtain⟨p1,p2⟩:=Dc (h k (by simp)) s
  obtain⟨t1,t2⟩:=wx w (iR s k) fun x hx=>h x (by simp[hx])
  have e:o5 (k::w)=Cb k+o5 w:=by unfold o5;rw[map_cons,sum_cons]
  refine⟨?_,fun o=>?_⟩
  ·show o5 (g9 (iR s k) w)=_
   rw[t1,p1,e]
   omega
  ·show jD ((g9 (iR s k) w).map oi) o=_
   rw[t2,map_append,qp,p2,<-qp,<-map_append,List.append_assoc]
   rfl
theorem GV{n:Nat}(hn:n<=7){w:List Int}(hw:∀k∈w,rK n k)(hl:w.length<=40):∃qs:List (Int×List Int),cP [.int n,.lst (aA w)]=.ok (.lst (qs.map zy))/\qs.length<=w.length/\
  (∀q∈qs,(q.1=0\/q.1= -1)/\bp n q.2)/\(∀o:List Int,o.length=n->GJ o qs=jD (w.map oi) o)/\hS qs*(T2 n:Int)+(iF (qs.map (·.2)):Int)=o5 w:=by
 have Ik:=uM w []
 simp -implicitDefEqProofs only [length_nil]at Ik
 obtain⟨t1,t2⟩:=wx w [] fun k hk=>(hw k hk).1
 obtain⟨lh,e1,ef,e2,e3⟩:=OZ hn (w:=g9 [] w) (fun k hk=>by
  rcases zj w [] k hk with h|h
  ·cases h
  ·exact hw k h) (by omega)
 obtain⟨qs,e4,e5,e6,e7,e8⟩:=uO hn lh fun p hp=>⟨(e3 p hp).1,by have:=(e3 p hp).2;omega⟩
 rw[ef]at e7 e8
 refine⟨qs,?_,by omega,e6,fun o ho=>by rw[e7 o ho,t2];rfl,by rw[e8,t1];show 0+o5 w=_;omega⟩
 unfold cP lR
 simp -implicitDefEqProofs only [mS,mD,mF,eR,aH,reduceAdd,reduceSub,reduceEqDiff,reduceIte,ai,aj,q1,q2,q3,q4,AE w (by omega),e1,R.iD,cM,e4]
 rw[oX (by rw[length_map];exact big (by omega))]
 simp -implicitDefEqProofs only [reduceIte,ai,aj,q1,q2,q3,q4]
theorem JH{n:Nat}(hn:n<=7)(h:Int){r:List Int}(hr:bp n r):dU [.int h,.lst (aA r)]=.ok (aA (jZ n h r)):=by
 unfold dU oE jZ
 simp -implicitDefEqProofs only [mS,mD,mF,eR,aH,reduceAdd,reduceSub,reduceEqDiff,reduceIte,ai,aj,q1,q2,q3,q4]
 rw[iB _ _ (by decide)]
 simp -implicitDefEqProofs only [reduceIte,ai,aj,q1,q2,q3,q4]
 by_cases c:h%2=0
 ·rw[if_pos c]
  simp -implicitDefEqProofs only [reduceIte,ai,aj,q1,q2,q3,q4,show(h%2==0)=true by rw[beq_iff_eq];exact c,jh]
 ·rw[if_neg c]
  simp -implicitDefEqProofs only [reduceIte,ai,aj,q1,q2,q3,q4,show(h%2==0)=false by rw[beq_eq_false_iff_ne];exact c,AB hr.len hn,jh]
theorem JI{n:Nat}(hn:n<=7){qs:List (Int×List Int)}(hq:∀q∈qs,bp n q.2)(hl:qs.length<=100):aO [.lst (qs.map zy)]=.ok (cZ n qs):=by
 unfold aO g6 mT
 simp -implicitDefEqProofs only [mS,mD,mF,eR,aH,reduceAdd,reduceSub,reduceEqDiff,reduceIte,ai,aj,q1,q2,q3,q4]
 obtain⟨⟨rs,h,t3⟩,e,Xp,Jq⟩:=qO (S:=List (List Int)×Int×Sl) (b:=cD) (fun i q=>q.1=(cZ n (qs.drop (qs.length-i))).reverse/\q.2.1=hS (qs.drop (qs.length-i)))
  (fun q=>[.val (.lst (qs.map zy)),.deep (.ls q.1),.val (.int q.2.1),q.2.2]) (qs.map zy).reverse 0 ([],0,.no) ⟨by rw[sub_zero,drop_length];rfl,by rw[sub_zero,drop_length];rfl⟩ (by
   rintro j ⟨rs,h,t3⟩ x ⟨hs1,hs2⟩ hx
   rw[zero_add]at hs1 hs2⊢
   dsimp only at hs1 hs2
   have OE:j<(qs.map zy).reverse.length:=(List.getElem?_eq_some_iff.mp hx).1
   rw[length_reverse,length_map]at OE
   rw[getElem?_reverse (by rw[length_map];exact OE),length_map,getElem?_map,getElem?_eq_getElem (show qs.length-1-j<qs.length by omega)]at hx
   have E7:x=zy (qs[qs.length-1-j]'(by omega)):=(Option.some.inj hx).symm
   have hd:qs.drop (qs.length-(j+1))=(qs[qs.length-1-j]'(by omega))::qs.drop (qs.length-j):=by
    rw[show qs.length-(j+1)=qs.length-1-j by omega,List.drop_eq_getElem_cons (by omega),show qs.length-1-j+1=qs.length-j by omega]
   have Zj:(qs[qs.length-1-j]'(by omega))∈qs:=getElem_mem _
   generalize (qs[qs.length-1-j]'(by omega))=q at E7 hd Zj
   obtain⟨hh,r⟩:=q
   subst E7
   have e1:=JH hn h (hq _ Zj)
   have hlen:rs.length<=100:=by rw[hs1,length_reverse,rz,length_drop];omega
   refine⟨(rs++[jZ n h r],h+hh,.val (zy (hh,r))),?_,?_,?_⟩
   ·unfold cD
    have a1:iP [D.int hh,.lst (aA r)] 1=some (.lst (aA r)):=rfl
    have a0:iP [D.int hh,.lst (aA r)] 0=some (.int hh):=rfl
    simp -implicitDefEqProofs only [dJ,reduceIte,ai,aj,q1,q2,q3,q4,zy,jx,jy,a1,a0,e1,oY]
    rw[B9 (by omega)]
    simp -implicitDefEqProofs only [reduceIte,ai,aj,q1,q2,q3,q4,a0,CP]
   ·show rs++[jZ n h r]=_
    rw[hd,hs1,hs2]
    show _=(jZ n (hS (qs.drop (qs.length-j))) r::cZ n (qs.drop (qs.length-j))).reverse
    rw[reverse_cons]
   ·show h+hh=_
    rw[hd,hs2]
    show _=hh+hS (qs.drop (qs.length-j))
    omega)
 dsimp only at e Xp Jq
 rw[e]
 rw[zero_add,length_reverse,length_map,sub_self,drop_zero]at Xp
 simp -implicitDefEqProofs only [reduceIte,ai,aj,q1,q2,q3,q4,jx,jy,E8,Xp,reverse_reverse]
theorem zo{n:Nat}(hn:n<=7):∀(rs:List (List Int))(R:List RP),(∀r∈rs,bp n r)->An n R->(∀o:List Int,o.length=n->sS o ((rs.foldl (fun R r=>fU n R (r,uy r)) R).map (·.1))=sS o (R.map (·.1)++rs))/\iF ((rs.foldl (fun R r=>fU n R (r,uy r)) R).map (·.1))=iF (R.map (·.1))+iF rs
 |[],R,_,_=>⟨fun o _=>by rw[append_nil];rfl,by simp[iF]⟩
 |r::rs,R,hr,h=>by
  have iv:=o4 (hr r (by simp))
  obtain⟨a1,a2⟩:=Jm hn (lU n) (Jw n (by omega)) (c:=(r,uy r)) h.iv iv
  obtain⟨b1,b2⟩:=zo hn rs (fU n R (r,uy r)) (fun x hx=>hr x (by simp[hx])) (F9 hn (lU n) h iv)
  have e:iF (r::rs)=dM r+iF rs:=by unfold iF;rw[map_cons,sum_cons]
  refine⟨fun o ho=>?_,?_⟩
  ·show sS o ((rs.foldl (fun R r=>fU n R (r,uy r)) (fU n R (r,uy r))).map (·.1))=_
   rw[b1 o ho,lA,a1 o ho,<-lA,List.append_assoc]
   rfl
  ·show iF ((rs.foldl (fun R r=>fU n R (r,uy r)) (fU n R (r,uy r))).map (·.1))=_
   rw[b2,a2,e]
   show _+dM r+_=_
   omega
theorem GW(qs:List (Int×List Int)):bj (bN 0) jl jm (dR 1 []) (qs.map zy)=.ok (aA (qs.map (·.1))):=by
 rw[nP (fun d=>match d with
  |.tup (x::_)=>x
  |_=>.non) _ fun x hx=>by
   obtain⟨q,hq,rfl⟩:=mem_map.mp hx
   exact⟨_,dJ _ _ _,rfl,rfl⟩]
 unfold aA
 rw[map_map,map_map]
 rfl
theorem GX(n:Nat):Iv n (mh n).1 (mh n).2:=by
 have c:∀p,p<n->aa (upTo n).reverse p=((n-1-p:Nat):Int):=fun p hp=>by
  rw[dE (by rw[ar];exact hp),ar,aI (by omega)]
 have h:∀p,p<n->0<=aa (upTo n).reverse p/\aa (upTo n).reverse p<n/\aa (upTo n).reverse (aa (upTo n).reverse p).toNat=p:=fun p hp=>by
  rw[c p hp,toNat_natCast,c _ (by omega)]
  exact⟨by omega,by omega,by omega⟩
 exact⟨by show(upTo n).reverse.length=n;rw[length_reverse,ar],by show(upTo n).reverse.length=n;rw[length_reverse,ar],h,h⟩
theorem GY{n:Nat}{o:List Int}(h:o.length=n):cmp o (upTo n).reverse=o.reverse:=by
 refine bF (by rw[cK,length_reverse,length_reverse,ar,h]) fun t ht=>?_
 rw[cK,length_reverse,ar]at ht
 rw[cG (by rw[length_reverse,ar];exact ht),dE (by rw[ar];exact ht),ar,aI (by omega),toNat_natCast,dE (by rw[h];exact ht),h]
theorem zp(a b:Int)(o:List Int):gn a (gn b o)=gn (a+b) o:=by
 unfold gn
 by_cases c:a%2=0
 ·rw[if_pos c]
  by_cases d:b%2=0
  ·rw[if_pos d,if_pos (by omega)]
  ·rw[if_neg d,if_neg (by omega)]
 ·rw[if_neg c]
  by_cases d:b%2=0
  ·rw[if_pos d,if_neg (by omega)]
  ·rw[if_neg d,if_pos (by omega),reverse_reverse]
theorem wy{n:Nat}:∀(m:Nat)(o:List Int),o.length=n->sS o ((replicate m (mh n)).map (·.1))=gn m o
 |0,o,_=>rfl
 |m+1,o,h=>by
  rw[replicate_succ,map_cons]
  show sS (cmp o (upTo n).reverse) _=_
  rw[GY h,wy m _ (by rw[length_reverse];exact h),show o.reverse=gn 1 o from rfl,zp]
  congr 1
theorem wz{n:Nat}(hc:dM (upTo n).reverse=T2 n):∀m:Nat,(iF ((replicate m (mh n)).map (·.1)):Int)=m*(T2 n:Int)
 |0=>by rw[show((0:Nat):Int)=0 from rfl,Int.zero_mul];rfl
 |m+1=>by
  have e:∀(r:List Int)(R:List (List Int)),iF (r::R)=dM r+iF R:=fun r R=>by unfold iF;rw[map_cons,sum_cons]
  rw[replicate_succ,map_cons,e]
  show((dM (upTo n).reverse+iF _:Nat):Int)=_
  rw[hc,Int.natCast_add,wz hc m,Int.natCast_add,Int.add_mul]
  omega
theorem GZ{n:Nat}(hn:n<8):dM (upTo n).reverse=T2 n:=by
 have:=Ca (lU n)
 rw[Jw n hn]at this
 omega
structure FmS(n:Nat)(w:List Int)(h:Int)(R:List RP):Prop where
 ln:An n R
 nh:∀x∈R,x≠mh n
 or:sS (gn h (upTo n)) (R.map (·.1))=jD (w.map oi) (upTo n)
 cr:h*(T2 n:Int)+(iF (R.map (·.1)):Int)=o5 w
 bd: -(w.length:Int)<=h/\h<=w.length
 le:R.length<=40
theorem y4.app:∀{A B:List RP},y4 (A++B)->y4 A
 |[],B,_=>trivial
 |[p],B,_=>trivial
 |q::p::A,B,h=>⟨h.1,y4.app (A:=p::A) h.2⟩
theorem JJ{n:Nat}(h1:1<=n)(hn:n<=7){w:List Int}(hw:∀k∈w,rK n k)(hl:w.length<=40):∃h R,uz [.int n,.lst (aA w)]=.ok (.tup [.int h,.lst (R.map fun p=>.lst (aA p.1))])/\FmS n w h R:=by
 obtain⟨qs,e1,e2,e3,e7,e8⟩:=GV hn hw hl
 have hq2:∀q∈qs,bp n q.2:=fun q hq=>(e3 q hq).2
 have e4:=JI hn hq2 (by omega)
 have e5:=rz n qs
 have e6:=wq qs hq2
 have l0:An n []:=⟨(fun x hx=>nomatch hx),trivial,(fun x hx=>nomatch hx)⟩
 have hL:An n (fV n (cZ n qs)):=BJ hn (lU n) (cZ n qs) [] e6 l0
 obtain⟨p1,p2⟩:=zo hn (cZ n qs) [] e6 l0
 have hcl:=p4 n (cZ n qs) []
 rw[length_nil]at hcl
 have Jv:(fV n (cZ n qs)).length<=qs.length:=by
  show((cZ n qs).foldl (fun R r=>fU n R (r,uy r)) []).length<=qs.length
  omega
 have Zk:∀o:List Int,o.length=n->sS o ((fV n (cZ n qs)).map (·.1))=sS o (cZ n qs):=p1
 have Xq:iF ((fV n (cZ n qs)).map (·.1))=iF (cZ n qs):=by
  have:iF ((fV n (cZ n qs)).map (·.1))=0+iF (cZ n qs):=p2
  omega
 have hsb: -(qs.length:Int)<=hS qs/\hS qs<=0:=by
  clear e1 e4 e5 e6 hL p1 p2 hcl Jv Zk Xq e7 e8 e2 hq2
  induction qs with
  |nil=>exact⟨Int.le_refl _,Int.le_refl _⟩
  |cons q qs ih=>
   have:=ih fun x hx=>e3 x (by simp[hx])
   have:=(e3 q (by simp)).1
   rw[show hS (q::qs)=q.1+hS qs from rfl,length_cons]
   omega
 generalize hR:fV n (cZ n qs)=C at*
 have hcn:j7 n C<=C.length:=List.Sublist.length_le (List.takeWhile_sublist _)
 have wI:=y6 (n:=n) C
 have hrest:=C1 (GX n) hL
 refine⟨j7 n C+hS qs,C.drop (j7 n C),?_,⟨⟨fun x hx=>hL.iv x (List.mem_of_mem_drop hx),?_,fun x hx=>hL.ns x (List.mem_of_mem_drop hx)⟩,hrest,?_,?_,by omega,by rw[length_drop];omega⟩⟩
 ·unfold uz Gf
  simp -implicitDefEqProofs only [mS,mD,mF,eR,aH,reduceAdd,reduceSub,reduceEqDiff,reduceIte,ai,aj,q1,q2,q3,q4,e1]
  have e9:cQ [.int n,.lst (qs.map zy)]=R.ne (R.bind (BP [.val (.int n),.val (.lst (qs.map zy)),.no,.no,.val (rP n C)]) ai):=by
   show R.ne (R.bind (aO [.lst (qs.map zy)]) _)=_
   rw[e4,R.bB]
   refine congrArg R.ne ((if_pos ⟨⟨by omega,by omega⟩,by omega,e6⟩).trans ?_)
   rw[toNat_natCast,hR]
  rw[e9]
  unfold BP rP
  have a0:∀(x y:D),iP [x,y] 0=some x:=fun _ _=>rfl
  have a1:∀(x y:D),iP [x,y] 1=some y:=fun _ _=>rfl
  simp -implicitDefEqProofs only [reduceIte,ai,aj,q1,q2,q3,q4,a0,a1,cM,GW,R.iD]
  rw[bY (by rw[length_map];omega)]
  simp -implicitDefEqProofs only [reduceIte,ai,aj,q1,q2,q3,q4,mJ,oY,map_some]
 ·have:=hL.lw
  rw[wI,List.reverse_append]at this
  exact this.app
 ·have h2:=Zk (gn (hS qs) (upTo n)) (by rw[uN,ar])
  rw[wt qs (upTo n) hq2 (ar n),e7 _ (ar n)]at h2
  rw[<-h2]
  conv=>rhs;rw[wI]
  rw[map_append,lA,wy _ _ (by rw[uN,ar]),zp]
 ·rw[wu qs hq2]at Xq
  have h3:iF (C.map (·.1))=iF ((replicate (j7 n C) (mh n)).map (·.1))+iF ((C.drop (j7 n C)).map (·.1)):=by
   conv=>lhs;rw[wI]
   rw[map_append,p6]
  have h4:=wz (GZ (show n<8 by omega)) (j7 n C)
  rw[<-e8,<-Xq,h3,Int.natCast_add,h4,Int.add_mul]
  omega
theorem qq{b:D->DE->R Out}{x:D}{xs:List D}{e e':DE}(h:b x e=.ok (.nx e')):dH b (x::xs) e=dH b xs e':=by
 conv=>lhs;unfold dH
 rw[h]
 rfl
theorem SK{n:Nat}(s0 s1 s3 s4:Sl){o:List Int}(hlo:o.length=n)(hn:n<=7){k:Int}(hk:rK n k):∃OS JK,eg (.int k) [s0,s1,.val (.lst (aA o)),s3,s4]=.ok (.nx [s0,s1,.val (.lst (aA (fA o (oi k-1).toNat))),OS,JK]):=by
 obtain⟨a,ha,h2⟩:=GK hk
 have hab:(if k<0 then-k else k)=(a:Int)+1:=ha
 unfold eg
 simp -implicitDefEqProofs only [dJ,mS,mD,mF,eR,aH,reduceAdd,reduceSub,reduceEqDiff,reduceIte,ai,aj,q1,q2,q3,q4,hab]
 rw[bZ (by omega) (by omega),bZ (by omega) (by omega),kZ,kZ,ue _ _ (by omega),yA _ _ (by omega)]
 simp -implicitDefEqProofs only [reduceIte,ai,aj,q1,q2,q3,q4]
 rw[show((a:Int)+1-1).toNat=a by omega,show((a:Int)+1).toNat=a+1 by omega,show((a:Int)+1+1).toNat=a+2 by omega,show[D.int (aa o (a+1)),D.int (aa o a)]=aA [aa o (a+1),aa o a]from rfl,pM,bY (by rw[length_append,length_take];simp;omega)]
 simp -implicitDefEqProofs only [reduceIte,ai,aj,q1,q2,q3,q4]
 rw[pM,bY (by rw[length_append,length_append,length_take,length_drop];simp;omega),xn o a (by omega)]
 simp -implicitDefEqProofs only [reduceIte,ai,aj,q1,q2,q3,q4]
 exact⟨_,_,rfl⟩
theorem Cg{n:Nat}(s0 s1:Sl)(hn:n<=7):∀(w o:List Int)(s3 s4:Sl),(∀k∈w,rK n k)->o.length=n->∃OS JK,dH eg (aA w) [s0,s1,.val (.lst (aA o)),s3,s4]=.ok (.nx [s0,s1,.val (.lst (aA (jD (w.map oi) o))),OS,JK])
 |[],o,s3,s4,_,_=>⟨s3,s4,rfl⟩
 |k::w,o,s3,s4,hw,ho=>by
  obtain⟨u3,u4,e⟩:=SK s0 s1 s3 s4 ho hn (hw k (by simp))
  obtain⟨v3,v4,e2⟩:=Cg s0 s1 hn w (fA o (oi k-1).toNat) u3 u4 (fun x hx=>hw x (by simp[hx])) (by rw[fR];exact ho)
  exact⟨v3,v4,by rw[<-mH,qq e];exact e2⟩
theorem wA{n:Nat}(hn:n<=7){w:List Int}(hw:∀k∈w,rK n k):fQ [.int n,.lst (aA w)]=.ok (.lst (aA (jD (w.map oi) (upTo n)))):=by
 unfold fQ pS
 simp -implicitDefEqProofs only [mS,mD,mF,eR,aH,reduceAdd,reduceSub,reduceEqDiff,reduceIte,ai,aj,q1,q2,q3,q4]
 rw[nN _ (by omega),toNat_natCast,kF]
 simp -implicitDefEqProofs only [reduceIte,ai,aj,q1,q2,q3,q4]
 obtain⟨s3,s4,e⟩:=Cg (.val (.int n)) (.val (.lst (aA w))) hn w (upTo n) .no .no hw (ar n)
 rw[e]
 simp -implicitDefEqProofs only [reduceIte,ai,aj,q1,q2,q3,q4]
theorem SM(n:Nat)(f:Nat->Nat):((range n).map fun i=>((f i:Nat):Int)).sum=((S n f:Nat):Int):=by
 induction n with
 |zero=>rfl
 |succ n ih=>
  rw[gC,range_succ,map_append,sum_append,ih]
  simp
theorem AF{l:List Int}(hl:l.length<=7):dz [.lst (aA l)]=.ok (.int (dM l:Nat)):=by
 unfold dz mW
 simp -implicitDefEqProofs only [mS,mD,mF,eR,aH,reduceAdd,reduceSub,reduceEqDiff,reduceIte,ai,aj,q1,q2,q3,q4,aY]
 rw[M0 _ (by omega),toNat_natCast,kF]
 simp -implicitDefEqProofs only [reduceIte,ai,aj,q1,q2,q3,q4,cM]
 rw[gB (fun k=>((uv (aa l k.toNat) (l.take k.toNat):Nat):Int)) (upTo l.length) fun k hk=>by
  rw[mem_upTo]at hk
  refine⟨_,dJ _ _ _,rfl,?_⟩
  unfold jQ dR
  simp -implicitDefEqProofs only [reduceIte,ai,aj,q1,q2,q3,q4,kZ]
  rw[ue _ _ hk.1]
  simp -implicitDefEqProofs only [reduceIte,ai,aj,q1,q2,q3,q4,cM]
  rw[lu (fun s=>decide (aa l k.toNat<s)) _ fun s _=>⟨_,dJ _ _ _,by
   unfold jO
   simp -implicitDefEqProofs only [reduceIte,ai,aj,q1,q2,q3,q4]
   rw[bZ hk.1 hk.2]
   simp -implicitDefEqProofs only [reduceIte,ai,aj,q1,q2,q3,q4],by
   unfold jP
   simp -implicitDefEqProofs only [reduceIte,ai,aj,q1,q2,q3,q4]⟩]
  simp -implicitDefEqProofs only [reduceIte,ai,aj,q1,q2,q3,q4,R.iD]
  have h1:=List.length_filter_le (fun s=>decide (aa l k.toNat<s)) (l.take k.toNat)
  rw[length_take]at h1
  rw[bY (by omega)]
  simp -implicitDefEqProofs only [reduceIte,ai,aj,q1,q2,q3,q4,aY]
  rfl]
 simp -implicitDefEqProofs only [reduceIte,ai,aj,q1,q2,q3,q4,R.iD]
 rw[bY (by rw[length_map,ar];omega)]
 simp -implicitDefEqProofs only [reduceIte,ai,aj,q1,q2,q3,q4]
 unfold mJ
 rw[oY]
 have e:((upTo l.length).map fun k=>((uv (aa l k.toNat) (l.take k.toNat):Nat):Int)).sum=((dM l:Nat):Int):=by
  unfold dM
  rw[FI,<-SM]
  unfold upTo
  rw[map_map]
  congr 1
 simp -implicitDefEqProofs only [map_some,reduceIte,ai,aj,q1,q2,q3,q4,e]
theorem G0(cells:List Int)(hc:cells.length<=63):∃t:List Int,t.length<=63/\bj (bT 2 (jL (bN 0) (jL (bN 1) xf))) mZ jk (dR 2 []) (du (aA cells))=.ok (aA t):=by
 refine⟨(du (aA cells)).map fun d=>match d with|.tup [.int k,.int c]=>Af c k 16807|_=>0,by rw[length_map];unfold du;rw[length_map,length_zipIdx,aY];exact hc,?_⟩
 rw[nP (fun d=>.int (match d with|.tup [.int k,.int c]=>Af c k 16807|_=>0)) _ fun x hx=>by
  obtain⟨i,hi,e⟩:=getElem_of_mem hx
  obtain⟨y,hy,rfl⟩:=qL (i:=i) (d:=x) (by rw[getElem?_eq_getElem hi,e])
  have hz:(aA cells)[i]?=(cells[i]?).map D.int:=by unfold aA;rw[getElem?_map]
  have hi2:i<cells.length:=by
   have:(du (aA cells)).length=cells.length:=by unfold du;rw[length_map,length_zipIdx,aY]
   omega
  rw[hz,getElem?_eq_getElem hi2]at hy
  obtain rfl:=Option.some.inj hy
  refine⟨_,rfl,rfl,?_⟩
  unfold jk dR
  simp -implicitDefEqProofs only [mS,mD,mF,eR,aH,reduceAdd,reduceSub,reduceEqDiff,reduceIte,ai,aj,q1,q2,q3,q4,List.append_eq]
  exact Fo _ _ _ (by omega) (by decide)]
 unfold aA
 rw[map_map]
 rfl
theorem JL{cells:List Int}{n:Int}(hc:cells.length<=63)(hn:1<=n):∃w:List Int,g7 [.lst (aA cells),.int n,.int 24]=.ok (.lst (aA w))/\(∀k∈w,rK n k)/\w.length<=24:=by
 unfold g7 rM
 simp -implicitDefEqProofs only [mS,mD,mF,eR,aH,reduceAdd,reduceSub,reduceEqDiff,reduceIte,ai,aj,q1,q2,q3,q4]
 rw[kZ,ue _ _ (by decide),Fz _ _ _ (by rw[length_take];omega) (by omega) (by decide)]
 simp -implicitDefEqProofs only [reduceIte,ai,aj,q1,q2,q3,q4,aY]
 generalize hw:xm (cells.take (63:Int).toNat) n 189=w
 have hx:∀k∈w,rK n k:=hw▸Fy
 by_cases h:(w.length:Int)<=24
 ·refine⟨w,?_,hx,by omega⟩
  simp -implicitDefEqProofs only [reduceIte,ai,aj,q1,q2,q3,q4,h,decide_true]
 ·obtain⟨t,ht,e⟩:=G0 cells hc
  simp -implicitDefEqProofs only [reduceIte,ai,aj,q1,q2,q3,q4,h,decide_false,cM,e,R.iD]
  rw[bY (by omega)]
  simp -implicitDefEqProofs only [reduceIte,ai,aj,q1,q2,q3,q4,mJ,oY,map_some,aY]
  rw[iB _ _ (by omega)]
  simp -implicitDefEqProofs only [reduceIte,ai,aj,q1,q2,q3,q4]
  have m0:=emod_nonneg t.sum (show(w.length:Int)-24+1≠0 by omega)
  have m1:=emod_lt_of_pos t.sum (show(0:Int)<(w.length:Int)-24+1 by omega)
  generalize t.sum%((w.length:Int)-24+1)=a at m0 m1
  rw[kZ]
  refine⟨_,rfl,fun k hk=>hx k ?_,?_⟩
  ·unfold cut at hk
   exact List.mem_of_mem_drop (mem_of_mem_take hk)
  ·unfold cut
   rw[kQ _ _ _ m0,kQ _ _ _ (by omega),length_take]
   omega
theorem JM(ns:List Int)(k:Nat):cC [.lst (aA ns),.int k]=.ok (.int (aa ns k)):=by
 unfold cC mV aa
 simp -implicitDefEqProofs only [mS,mD,mF,eR,aH,reduceAdd,reduceSub,reduceEqDiff,reduceIte,ai,aj,q1,q2,q3,q4,aY]
 by_cases h:(k:Int)<ns.length
 ·have hk:k<ns.length:=by omega
  simp -implicitDefEqProofs only [reduceIte,ai,aj,q1,q2,q3,q4,h,decide_true]
  rw[bZ (by omega) h]
  simp -implicitDefEqProofs only [reduceIte,ai,aj,q1,q2,q3,q4,toNat_natCast]
  unfold aa
  rfl
 ·simp -implicitDefEqProofs only [reduceIte,ai,aj,q1,q2,q3,q4,h,decide_false]
  rw[getElem?_eq_none (by omega)]
  rfl
theorem Dg(r:List Int)(h:r.length<64):yD (aA r)=.ok (aA (sortI r)):=by
 unfold yD
 rw[oY]
 exact if_pos h
theorem G1{n:Nat}(hn:n<=7):yG [.int n]=.ok (aA (upTo n).reverse):=by
 refine(if_pos ⟨by omega,by omega⟩).trans (congrArg R.ok ?_)
 rw[toNat_natCast]
 have hc:n=0\/n=1\/n=2\/n=3\/n=4\/n=5\/n=6\/n=7:=by omega
 rcases hc with rfl|rfl|rfl|rfl|rfl|rfl|rfl|rfl<;>rfl
def oK:List RP->D
 |[]=>.non
 |p::_=>.lst (aA p.1)
theorem JN(xs:List D):yv (.lst xs) .non=some (.bl true):=rfl
theorem SN{n:Nat}(hn:n<=7)(s0 s1:Sl){A:List RP}{q:RP}(hA:∀p∈A,Iv n p.1 p.2)(iq:Iv n q.1 q.2)(hf:∀p B,A=p::B->mf p q=[]){j:Nat}(hj:j+1<n)(s4:Sl):
  cW (.int ((j:Int)+1)) [s0,s1,.val (oK A),.val (.lst (aA q.1)),s4]=.ok (.nx [s0,s1,.val (oK A),.val (.lst (aA q.1)),.val (.int ((j:Int)+1))]):=by
 unfold cW
 cases A with
 |nil=>
  unfold oK
  simp -implicitDefEqProofs only [dJ,mS,mD,mF,eR,aH,reduceAdd,reduceSub,reduceEqDiff,reduceIte,ai,aj,q1,q2,q3,q4,IF]
 |cons p B=>
  have ip:=hA p (by simp)
  have h:=(kH ip iq).mp (hf p B rfl) j hj
  have e1:mK (aA q.1) (.int ((j:Int)+1-1))=.ok (.int (aa q.2 j)):=by rw[show(j:Int)+1-1=((j:Nat):Int)by omega];exact yS iq (by omega)
  have e2:mK (aA q.1) (.int ((j:Int)+1))=.ok (.int (aa q.2 (j+1))):=by have:=yS iq hj;rw[<-this];congr 2
  unfold oK
  simp -implicitDefEqProofs only [dJ,reduceIte,ai,aj,q1,q2,q3,q4,JN,e1,e2]
  by_cases c:aa q.2 j>aa q.2 (j+1)
  ·have h2:=h c
   simp -implicitDefEqProofs only [reduceIte,ai,aj,q1,q2,q3,q4,c,decide_true]
   have lp:=ip.lr
   rw[bZ (by omega) (by omega),bZ (by omega) (by omega)]
   simp -implicitDefEqProofs only [reduceIte,ai,aj,q1,q2,q3,q4]
   rw[show((j:Int)+1-1).toNat=j by omega,show((j:Int)+1).toNat=j+1 by omega,decide_eq_false (by omega)]
   simp -implicitDefEqProofs only [reduceIte,ai,aj,q1,q2,q3,q4]
  ·simp -implicitDefEqProofs only [reduceIte,ai,aj,q1,q2,q3,q4,c,decide_false]
theorem LB{n:Nat}(hn:n<=7)(s0 s1:Sl){A:List RP}{q:RP}(hA:∀p∈A,Iv n p.1 p.2)(iq:Iv n q.1 q.2)(hf:∀p B,A=p::B->mf p q=[]):∀(m j:Nat)(s4:Sl),j+1+m<=n->∃JK,dH cW (lY ((j:Int)+1) m) [s0,s1,.val (oK A),.val (.lst (aA q.1)),s4]=.ok (.nx [s0,s1,.val (oK A),.val (.lst (aA q.1)),JK])
 |0,j,s4,_=>⟨s4,by rw[show lY ((j:Int)+1) 0=[]from rfl];rfl⟩
 |m+1,j,s4,h=>by
  obtain⟨s,e⟩:=LB hn s0 s1 hA iq hf m (j+1) (.val (.int ((j:Int)+1))) (by omega)
  refine⟨s,?_⟩
  have er:lY ((j:Int)+1) (m+1)=.int ((j:Int)+1)::lY (((j+1:Nat):Int)+1) m:=by
   rw[sL,sL,List.range_succ_eq_map,map_cons,map_map,<-mH]
   congr 1
   congr 1
   apply map_congr_left
   intro x _
   simp -implicitDefEqProofs only [Function.comp]
   omega
  rw[er,qq (SN hn s0 s1 hA iq hf (by omega) s4)]
  exact e
theorem SQ{n:Nat}(h1:1<=n)(hn:n<=7)(s0 s4:Sl){A:List RP}{q:RP}(hA:∀p∈A,Iv n p.1 p.2)(iq:Iv n q.1 q.2)(hs:Ld n q)(hh:q≠mh n)(hf:∀p B,A=p::B->mf p q=[])(s3:Sl):
  ∃JK,cX (.lst (aA q.1)) [s0,.val (.int n),.val (oK A),s3,s4]=.ok (.nx [s0,.val (.int n),.val (oK (q::A)),.val (.lst (aA q.1)),JK]):=by
 have hi:Iv n (upTo n) (upTo n):=lU n
 have lq:=iq.lr
 have n1:q.1≠upTo n:=fun e=>by
  have i2:=iq
  rw[e]at i2
  exact Ou hs (Prod.ext e (i2.symm.uniq hi.symm))
 have n2:q.1≠(upTo n).reverse:=fun e=>by
  have i2:=iq
  rw[e]at i2
  exact hh (Prod.ext e (i2.symm.uniq (GX n).symm))
 unfold cX
 simp -implicitDefEqProofs only [dJ,mS,mD,mF,eR,aH,reduceAdd,reduceSub,reduceEqDiff,reduceIte,ai,aj,q1,q2,q3,q4,cM]
 rw[lu (fun _=>false) q.1 fun s _=>⟨_,dJ _ _ _,rfl,rfl⟩]
 have ef:q.1.filter (fun _=>false)=[]:=List.filter_eq_nil_iff.mpr fun _ _=>by simp
 have t1:∀xs:List D,jg (wZ (.lst xs)) "list"=true:=fun _=>rfl
 rw[ef]
 simp -implicitDefEqProofs only [reduceIte,ai,aj,q1,q2,q3,q4,R.iD,t1,Bool.not_true]
 rw[bY (by decide),show(D.lst [])=.lst (aA [])from rfl]
 simp -implicitDefEqProofs only [reduceIte,ai,aj,q1,q2,q3,q4,EK,decide_true,Bool.not_true]
 rw[Dg _ (by omega),FE (xG iq),nN _ (by omega),toNat_natCast,kF,G1 hn]
 simp -implicitDefEqProofs only [reduceIte,ai,aj,q1,q2,q3,q4,EK,EJ,decide_true,Bool.not_true,decide_eq_false n1,decide_eq_false n2]
 rw[EI _ _ (by omega)]
 obtain⟨s,e⟩:=LB hn s0 (.val (.int n)) hA iq hf (n-1) 0 s4 (by omega)
 rw[show((n:Int)-1).toNat=n-1 by omega,show(1:Int)=((0:Nat):Int)+1 from rfl]
 simp -implicitDefEqProofs only [reduceIte,ai,aj,q1,q2,q3,q4,e]
 exact⟨_,rfl⟩
theorem G2{n:Nat}(h1:1<=n)(hn:n<=7)(s0:Sl){R:List RP}(hL:An n R)(hh:∀x∈R,x≠mh n):∀(B A:List RP)(s3 s4:Sl),R=A.reverse++B->∃Xo OS JK,dH cX (B.map fun p=>.lst (aA p.1)) [s0,.val (.int n),.val (oK A),s3,s4]=.ok (.nx [s0,.val (.int n),Xo,OS,JK])
 |[],A,s3,s4,_=>⟨_,s3,s4,rfl⟩
 |q::B,A,s3,s4,e=>by
  have mq:q∈R:=by rw[e];simp
  obtain⟨u4,e1⟩:=SQ h1 hn s0 s4 (A:=A) (fun p hp=>hL.iv p (by rw[e];simp[hp])) (hL.iv q mq) (hL.ns q mq) (hh q mq) (fun p C ec=>hL.nb (A:=C.reverse) (B:=B) (by rw[e,ec];simp)) s3
  obtain⟨a,b,c,e2⟩:=G2 h1 hn s0 hL hh B (q::A) (.val (.lst (aA q.1))) u4 (by rw[e];simp)
  exact⟨a,b,c,by rw[map_cons,qq e1];exact e2⟩
theorem AG{n:Nat}(h1:1<=n)(hn:n<=7){Z:List RP}{h:Int}(hL:An n Z)(hh:∀x∈Z,x≠mh n)(h0:n=1->h=0):dA [.tup [.int h,.lst (Z.map fun p=>.lst (aA p.1))],.int n]=.ok (.bl true):=by
 unfold dA mX
 have a0:∀(x y:D),iP [x,y] 0=some x:=fun _ _=>rfl
 have a1:∀(x y:D),iP [x,y] 1=some y:=fun _ _=>rfl
 have t1:∀xs:List D,jg (wZ (.lst xs)) "list"=true:=fun _=>rfl
 have t2:∀xs:List D,jg (wZ (.tup xs)) "tuple"=true:=fun _=>rfl
 have t3:∀i:Int,jg (wZ (.int i)) "int"=true:=fun _=>rfl
 have t4:∀i:Int,jg (wZ (.int i)) "bool"=false:=fun _=>rfl
 simp -implicitDefEqProofs only [mS,mD,mF,eR,aH,reduceAdd,reduceSub,reduceEqDiff,reduceIte,ai,aj,q1,q2,q3,q4,t1,t2,Bool.not_true,a0,a1,t3,t4]
 have b2:((2:Int)==2)=true:=rfl
 have b3:(((2:Nat):Int)==2)=true:=rfl
 simp -implicitDefEqProofs only [reduceIte,ai,aj,q1,q2,q3,q4,b2,b3,Bool.not_true,a0,a1,t3,t4]
 obtain⟨s2,s3,s4,e⟩:=G2 h1 hn (.val (.tup [.int h,.lst (Z.map fun p=>.lst (aA p.1))])) hL hh Z [] .no .no rfl
 unfold oK at e
 by_cases c:n=1
 ·obtain rfl:=h0 c
  subst c
  simp -implicitDefEqProofs only [reduceIte,ai,aj,q1,q2,q3,q4,show(((1:Nat):Int)==1)=true from rfl,show((0:Int)==0)=true from rfl,Bool.not_true,a1,e]
 ·have c2:((n:Int)==1)=false:=beq_eq_false_iff_ne.mpr (by omega)
  simp -implicitDefEqProofs only [reduceIte,ai,aj,q1,q2,q3,q4,c2,a1,e]
theorem G3{o r:List Int}{n:Nat}(ho:o.length=n)(hr:bp n r):bj (bN 0) y7 uA (dR 1 [.lst (aA o)]) (aA r)=.ok (aA (cmp o r)):=gB (fun s=>aa o s.toNat) r fun s hs=>by
 have h:=hr.mem.mp hs
 refine⟨_,dJ _ _ _,rfl,?_⟩
 unfold uA dR
 simp -implicitDefEqProofs only [mS,mD,mF,eR,aH,reduceAdd,reduceSub,reduceEqDiff,reduceIte,ai,aj,q1,q2,q3,q4]
 rw[bZ h.1 (by omega)]
 simp -implicitDefEqProofs only [reduceIte,ai,aj,q1,q2,q3,q4]
theorem O0{n:Nat}(hn:n<=7)(s0 s1 s2 s3 s4 s7:Sl){o r:List Int}(ho:o.length=n)(hr:bp n r)(m:Int):
  kJ (.lst (aA r)) [s0,s1,s2,s3,s4,.val (.lst (aA o)),.val (.int m),s7]=.ok (.nx [s0,s1,s2,s3,s4,.val (.lst (aA (cmp o r))),.val (.int (m+(dM r:Nat))),.val (.lst (aA r))]):=by
 have hl:=hr.len
 unfold kJ
 simp -implicitDefEqProofs only [dJ,mS,mD,mF,eR,aH,reduceAdd,reduceSub,reduceEqDiff,reduceIte,ai,aj,q1,q2,q3,q4,cM,G3 ho hr,R.iD]
 rw[bY (by rw[cK];omega)]
 simp -implicitDefEqProofs only [reduceIte,ai,aj,q1,q2,q3,q4,AF (show r.length<=7 by omega)]
theorem zq{n:Nat}(hn:n<=7)(s0 s1 s2 s3 s4:Sl):∀(Z:List RP)(o:List Int)(m:Int)(s7:Sl),(∀p∈Z,Iv n p.1 p.2)->o.length=n->∃Xr,dH kJ (Z.map fun p=>.lst (aA p.1)) [s0,s1,s2,s3,s4,.val (.lst (aA o)),.val (.int m),s7]=.ok (.nx [s0,s1,s2,s3,s4,.val (.lst (aA (sS o (Z.map (·.1))))),.val (.int (m+(iF (Z.map (·.1)):Nat))),Xr])
 |[],o,m,s7,_,_=>⟨s7,by simp -implicitDefEqProofs only [map_nil,sS,iF,List.foldl_nil,List.sum_nil];rw[show m+((0:Nat):Int)=m by omega];rfl⟩
 |p::Z,o,m,s7,h,ho=>by
  have ip:=h p (by simp)
  obtain⟨u,e⟩:=zq hn s0 s1 s2 s3 s4 Z (cmp o p.1) (m+(dM p.1:Nat)) (.val (.lst (aA p.1))) (fun x hx=>h x (by simp[hx])) (by rw[cK];exact ip.lr)
  refine⟨u,?_⟩
  rw[map_cons,qq (O0 hn s0 s1 s2 s3 s4 s7 ho (xG ip) m),e]
  simp -implicitDefEqProofs only [map_cons,sS,iF,foldl_cons,sum_cons]
  rw[show m+((dM p.1:Nat):Int)+((map dM (Z.map (·.1))).sum:Nat)=m+((dM p.1+(map dM (Z.map (·.1))).sum:Nat):Int)by omega]
theorem Ci(w:List Int):bj (bN 0) y8 uB (dR 1 []) (aA w)=.ok (aA (w.map Cb)):=gB Cb w fun k _=>by
 refine⟨_,dJ _ _ _,rfl,?_⟩
 unfold uB dR Cb
 simp -implicitDefEqProofs only [mS,mD,mF,eR,aH,reduceAdd,reduceSub,reduceEqDiff,reduceIte,ai,aj,q1,q2,q3,q4]
 by_cases h:k>0
 ·have h2:0<k:=h
  simp -implicitDefEqProofs only [reduceIte,ai,aj,q1,q2,q3,q4,h,h2,decide_true]
 ·have h2:¬0<k:=h
  simp -implicitDefEqProofs only [reduceIte,ai,aj,q1,q2,q3,q4,h,h2,decide_false]
theorem SR(ns:List Int)(hl:ns.length<=63):uC [.lst (aA ns)]=.ok (.bl true):=by
 unfold uC Le
 simp -implicitDefEqProofs only [mS,mD,mF,eR,aH,reduceAdd,reduceSub,reduceEqDiff,reduceIte,ai,aj,q1,q2,q3,q4,EE]
 rw[show cC [.lst (aA ns),.int 0]=.ok (.int (aa ns 0))from JM ns 0]
 simp -implicitDefEqProofs only [reduceIte,ai,aj,q1,q2,q3,q4]
 rw[iB _ _ (by decide)]
 simp -implicitDefEqProofs only [reduceIte,ai,aj,q1,q2,q3,q4,Ag]
 generalize aa ns 0%1000000000=sd
 obtain⟨n1,n7⟩:=yH sd
 generalize kr sd=n0 at n1 n7
 obtain⟨n,rfl⟩:∃n:Nat,n0=n:=⟨n0.toNat,by omega⟩
 obtain⟨w,ew,hx,hw⟩:=JL (cells:=ns) (n:=n) hl (by omega)
 obtain⟨h,Z,ef,F⟩:=JJ (n:=n) (by omega) (by omega) hx (by omega)
 have hb:=F.bd
 have h0:n=1->h=0:=fun e=>by
  subst e
  cases w with
  |nil=>simp -implicitDefEqProofs only [length_nil]at hb;omega
  |cons k w=>have:=hx k (by simp);unfold rK at this;omega
 have a0:∀(x y:D),iP [x,y] 0=some x:=fun _ _=>rfl
 have a1:∀(x y:D),iP [x,y] 1=some y:=fun _ _=>rfl
 simp -implicitDefEqProofs only [reduceIte,ai,aj,q1,q2,q3,q4,ew,ef,EK,decide_true,Bool.not_true,AG (show 1<=n by omega) (show n<=7 by omega) F.ln F.nh h0,a0,a1]
 rw[nN _ (by omega),toNat_natCast,kF]
 simp -implicitDefEqProofs only [reduceIte,ai,aj,q1,q2,q3,q4]
 rw[uc (n:Int) _ (by omega)]
 simp -implicitDefEqProofs only [reduceIte,ai,aj,q1,q2,q3,q4]
 rw[qN _ _ (by decide)]
 simp -implicitDefEqProofs only [reduceIte,ai,aj,q1,q2,q3,q4,a0]
 rw[uc h _ (by omega)]
 simp -implicitDefEqProofs only [reduceIte,ai,aj,q1,q2,q3,q4,a0,a1]
 rw[iB _ _ (by decide)]
 have hm:(n:Int)*((n:Int)-1)/2=(T2 n:Nat):=(JC ⟨by omega,by omega⟩).symm
 have hT:∀s7,∃Xr,dH kJ (Z.map fun p=>.lst (aA p.1)) [.val (.lst (aA ns)),.val (.int n),.val (.lst (aA w)),.val (.lst (aA w)),.val (.tup [.int h,.lst (Z.map fun p=>.lst (aA p.1))]),.val (.lst (aA (gn h (upTo n)))),.val (.int (h*(T2 n:Nat))),s7]=.ok (.nx [.val (.lst (aA ns)),.val (.int n),.val (.lst (aA w)),.val (.lst (aA w)),.val (.tup [.int h,.lst (Z.map fun p=>.lst (aA p.1))]),.val (.lst (aA (jD (w.map oi) (upTo n)))),.val (.int (o5 w)),Xr]):=fun s7=>by
  obtain⟨u,e⟩:=zq (show n<=7 by omega) (.val (.lst (aA ns))) (.val (.int n)) (.val (.lst (aA w))) (.val (.lst (aA w))) (.val (.tup [.int h,.lst (Z.map fun p=>.lst (aA p.1))])) Z (gn h (upTo n)) (h*(T2 n:Nat)) s7 F.ln.iv (by rw[uN,ar])
  refine⟨u,?_⟩
  rw[e,F.or,F.cr]
 obtain⟨s7,eT⟩:=hT .no
 have er:(aA (upTo n)).reverse=aA (upTo n).reverse:=by unfold aA;rw[map_reverse]
 have hfin:∀x:Sl,x=.val (.lst (aA (gn h (upTo n))))->dH kJ (Z.map fun p=>.lst (aA p.1)) [.val (.lst (aA ns)),.val (.int n),.val (.lst (aA w)),.val (.lst (aA w)),.val (.tup [.int h,.lst (Z.map fun p=>.lst (aA p.1))]),x,.val (.int (h*((n:Int)*((n:Int)-1)/2))),.no]=.ok (.nx [.val (.lst (aA ns)),.val (.int n),.val (.lst (aA w)),.val (.lst (aA w)),.val (.tup [.int h,.lst (Z.map fun p=>.lst (aA p.1))]),.val (.lst (aA (jD (w.map oi) (upTo n)))),.val (.int (o5 w)),s7]):=fun x hx=>by
  rw[hx,hm]
  exact eT
 have SS:mJ (aA (w.map Cb))=some (.int (o5 w)):=by
  unfold mJ o5
  rw[oY]
  rfl
 by_cases hp:h%2=1
 ·have b1:(h%2==1)=true:=beq_iff_eq.mpr hp
  simp -implicitDefEqProofs only [reduceIte,ai,aj,q1,q2,q3,q4,b1,er,a1,hfin _ (show Sl.val (.lst (aA (upTo n).reverse))=.val (.lst (aA (gn h (upTo n))))by unfold gn;rw[if_neg (by omega)]),wA (show n<=7 by omega) hx,EJ,decide_true,cM,Ci,R.iD]
  rw[bY (by rw[length_map];omega)]
  simp -implicitDefEqProofs only [reduceIte,ai,aj,q1,q2,q3,q4,SS,beq_self_eq_true]
 ·have b1:(h%2==1)=false:=beq_eq_false_iff_ne.mpr hp
  simp -implicitDefEqProofs only [reduceIte,ai,aj,q1,q2,q3,q4,b1,a1,hfin _ (show Sl.val (.lst (aA (upTo n)))=.val (.lst (aA (gn h (upTo n))))by unfold gn;rw[if_pos (by omega)]),wA (show n<=7 by omega) hx,EJ,decide_true,cM,Ci,R.iD]
  rw[bY (by rw[length_map];omega)]
  simp -implicitDefEqProofs only [reduceIte,ai,aj,q1,q2,q3,q4,SS,beq_self_eq_true]
theorem O1{K:PySem.W.Frag}{H:Hp}{a:Addr}(ns:List Int)(hl:ns.length<=63)(hS:bW K H a (ns.map V.int)):A8 K Dt uC [.ref a] H (fun v _=>v=.bl true) fun _ _ _=>False:=Rz (SR ns hl) hS
end DL
namespace DL.ng
open PySem PySem.Spec PyProof.Rows L2 DL
section
variable{P:Program}{w:World}{K:PySem.W.Frag}{mg:Str->Option Value}{base:Heap}(t:Tb K mg)
theorem Dh:lZ P w K mg base 1 t.p9 t.qb ["word"] mU:=by
 have h:=pL (P:=P) (w:=w) (base:=base) (k:=0) Aq t.uI fun cdv A outer s H E hr=>
  (aW (lP (mE (Du (N:=["k"]) (nt:=1) (caps:=[]) (ae rf) ["word"] (by decide +kernel)) rfl (tQ (iV t.gH (nD 0))) (Kp.ok (qP (nt:=1) 0)) (fun _ _ _ _ _=>(rJ 0 (by show Nodup (["k"]:List Str);decide +kernel))) (fun _ _ _ _ _=>Ih) (fun _ _ _ _ _=>(G8 jc gM (nB 0))))))
 exact h
theorem AH:lZ P w K mg base 1 t.nU t.nV ["word"] ky:=by
 have h:=pL (P:=P) (w:=w) (base:=base) (k:=0) ni t.rm fun cdv A outer s H E hr=>
  (aJ (vP 1 (qI cj) ni.nd)
  (aJ (tR PassesOwn.never rfl (iL (nD 0)) (rJ 2 ni.nd) (aW (wV (vO (bC jG iz (PE.aF (iQ cL dZ t.jX dQ (aE (nB 1) bw))) (PE.aF cI) (aK _)) (yk (bC (iA (aT.u6 hr)) ed (PE.aF (xP (nL 1) (PE.aF (G8 jc gM (PE.aF cI))))) (PE.aF (G8 jc gM (nB 2))) (aK _)))).pt (aW (Ri 1)) (aW (Rh 1 (nD 2))))))
  (aW (Eh 1))))
 exact h
theorem zr:lZ P w K mg base 1 t.gF t.gG ["n"] ck:=by
 have h:=pL (P:=P) (w:=w) (base:=base) (k:=0) xt t.dD fun cdv A outer s H E hr=>
  (aW (lP (t9 rfl t.gk t.gm (aE (nB 0) bw))))
 exact h
theorem JO:lZ P w K mg base 1 t.xx t.xy ["n"] uk:=by
 have h:=pL (P:=P) (w:=w) (base:=base) (k:=0) Gg t.uJ fun cdv A outer s H E hr=>
  (aW (lP (IP rfl t.gk t.gm (aE (PE.aF (aZ bu bh (nB 0) (PE.aF cI))) (aE (PE.aF (G8 jc gM (PE.aF cI))) (aE (PE.aF (G8 jc gM (PE.aF cI))) bw))))))
 exact h
theorem xJ:lZ P w K mg base 1 t.fu t.fx ["row"] bG:=by
 have h:=pL (P:=P) (w:=w) (base:=base) (k:=0) gQ t.fy fun cdv A outer s H E hr=>
  (aJ (vP 1 (Vr (qI (aG cI cj)) (PE.aF (iQ cL dZ t.jX dQ (aE (nB 0) bw)))) gQ.nd)
  (aJ (tR PassesOwn.never rfl (iE t.jW (nD 0)) (Vu 2 rfl (nQ (rJ 2 gQ.nd) (nQ (rJ 3 gQ.nd) z5))) (aW (xg 1 (nB 3) (nD 2))))
  (aW (Eh 1))))
 exact h
theorem G4:lZ P w K mg base 1 t.qc t.qd ["row"] nR:=by
 have h:=pL (P:=P) (w:=w) (base:=base) (k:=0) C2 t.nW fun cdv A outer s H E hr=>
  (aW (lP (mE (Du (N:=["k","row"]) (nt:=1) (caps:=[0]) (ae uE) ["row"] (by decide +kernel)) rfl (tQ (XU t.gm (aE (PE.aF cI) (aE (PE.aF (iQ cL dZ t.jX dQ (aE (nB 0) bw))) bw)))) (Kp.ok (qP (nt:=1) 0)) (fun _ _ _ _ _=>(rJ 0 (by show Nodup (["k","row"]:List Str);decide +kernel))) (fun _ _ _ _ _=>(Vb (bC jG iz (PE.aF (xP (nL 1) (PE.aF (aZ bu bh (nB 0) (PE.aF cI))))) (PE.aF (xP (nL 1) (nB 0))) (aK _)))) (fun _ _ _ _ _=>(nD 0)))))
 exact h
theorem kN:lZ P w K mg base 1 t.aP t.aQ ["row","k"] aL:=by
 have h:=pL (P:=P) (w:=w) (base:=base) (k:=0) j8 t.aM fun cdv A outer s H E hr=>
  (aW (lP (Ed (PE.qF (Ed (PE.qF (mB (nL 0) MD (wQ (PE.aF (aZ bu bh (nB 1) (PE.aF cI)))))) (PE.qF (qI (aG (xP (nL 0) (nB 1)) (aG (xP (nL 0) (PE.aF (aZ bu bh (nB 1) (PE.aF cI)))) cj)))))) (PE.qF (mB (nL 0) (wQ (PE.aF (aZ fH bX (nB 1) (PE.aF cI)))) MD)))))
 exact h
theorem uP:lZ P w K mg base 1 t.gS t.gU ["row"] dS:=by
 have h:=pL (P:=P) (w:=w) (base:=base) (k:=0) r9 t.j9 fun cdv A outer s H E hr=>
  (aW (lP (mE (Du (N:=["string","row"]) (nt:=1) (caps:=[0]) (ae jn) ["row"] (by decide +kernel)) rfl (tQ (iV t.gH (nD 0))) (Kp.ok (qP (nt:=1) 0)) (fun _ _ _ _ _=>(rJ 0 (by show Nodup (["string","row"]:List Str);decide +kernel))) (fun _ _ _ _ _=>Ih) (fun _ _ _ _ _=>(aZ bu bh (PE.aF (aZ bu bh (PE.aF (iQ cL dZ t.jX dQ (aE (nB 1) bw))) (PE.aF cI))) (nB 0))))))
 exact h
theorem AI:Ok P w K mg base 1 t.nX t.nY ["crossings"] kC:=by
 have h:=KC (P:=P) (w:=w) (base:=base) (k:=0) jS t.fz fun cdv A outer s H E hr=>
  (aJ (fJ 1 cI jS.nd)
  (aJ (tR PassesOwn.never rfl (iL (nD 0)) (rJ 2 jS.nd) (aW (Kv 1 Rq (PE.aF (aZ Me IU (PE.aF cI) (PE.aF (aZ bu bh (nB 2) (PE.aF cI))))) jS.nd)))
  (aW (gq (nD 1)))))
 exact h
theorem zt:Ok P w K mg base 1 t.jq t.jr ["_law_cell","_law_k","_law_factor"] eY:=by
 have h:=KC (P:=P) (w:=w) (base:=base) (k:=0) xu t.lD fun cdv A outer s H E hr=>
  (aW (gq (aZ nG nK (PE.aF (aZ ig dY (PE.aF (aZ tj pF (PE.aF (aZ fH bX (PE.aF (aZ fH bX (PE.aF (aZ tj pF (PE.aF (aZ ig dY (nB 0) (PE.aF cI))) (PE.aF cI))) (PE.aF (aZ tj pF (nB 1) (nB 1))))) (PE.aF cI))) (nB 2))) (PE.aF cI))) (PE.aF cI))))
 exact h
theorem sj:Ok P w K mg base 1 t.fY t.fZ ["_law_script","_law_k"] cC:=by
 have h:=KC (P:=P) (w:=w) (base:=base) (k:=0) rg t.jt fun cdv A outer s H E hr=>
  (aJ (wV (bC tm tP (nB 1) (PE.aF (iQ cL dZ t.jX dQ (aE (nB 0) bw))) (aK _)) (aW (gq (xP (nL 0) (nB 1)))) lX)
  (aW (gq cI)))
 exact h
theorem sy:Ok P w K mg base 1 t.f9 t.gb ["_law_seed","_law_least","_law_most"] dw:=by
 have h:=KC (P:=P) (w:=w) (base:=base) (k:=0) kL t.ju fun cdv A outer s H E hr=>
  (aJ (wV (vO (bC (iA (aT.u6 hr)) ed (nB 1) (PE.aF cI) (aK _)) (yk (bC (iA (aT.u6 hr)) ed (PE.aF (aZ ig dY (nB 0) (PE.aF cI))) (PE.aF cI) (aK _)))).pt (aW (gq cI)) lX)
  (aJ (fJ 1 (iQ (Cy rfl) Eg t.Lg MP (aE (PE.aF cI) (aE (nB 1) bw))) kL.nd)
  (aW (gq (aZ fH bX (nB 1) (PE.aF (aZ ig dY (PE.aF (aZ nG nK (nB 0) (PE.aF cI))) (PE.aF (aZ fH bX (PE.aF (aZ bu bh (nB 2) (nB 1))) (PE.aF cI))))))))))
 exact h
theorem rA:Ok P w K mg base 1 t.eO t.eQ ["_law_number","_law_n"] cO:=by
 have h:=KC (P:=P) (w:=w) (base:=base) (k:=0) jT t.iK fun cdv A outer s H E hr=>
  (aJ (fJ 2 (aZ fH bX (PE.aF cI) (PE.aF (aZ ig dY (nB 0) (PE.aF (aZ bu bh (nB 1) (PE.aF cI)))))) jT.nd)
  (aJ (wV (bC (iA (aT.u6 hr)) ed (PE.aF (aZ ig dY (PE.aF (aZ nG nK (nB 0) (PE.aF cI))) (PE.aF cI))) (PE.aF cI) (aK _)) (aW (gq (G8 jc gM (nB 2)))) lX)
  (aW (gq (nD 2)))))
 exact h
theorem vz:Ok P w K mg base 1 t.i9 t.ja ["_law_n","_law_word"] fQ:=by
 have h:=M9 (P:=P) (w:=w) (base:=base) (k:=0) dC t.lG fun cdv A outer s H E hr=>
  (aJ (fJ 2 (PE.dG (t9 rfl t.gk t.gm (aE (nB 0) bw))) dC.nd)
  (aJ (tR PassesOwn.never rfl (iL (nD 1)) (rJ 3 dC.nd) (aJ (fJ 4 (iQ tw wU t.BX z0 (aE (nB 3) bw)) dC.nd)
  (aW (fJ 2 (PE.dG (Ed (PE.qF (Ed (PE.qF (mB (nL 2) MD (wQ (PE.aF (aZ bu bh (nB 4) (PE.aF cI)))))) (PE.qF (qI (aG (xP (nL 2) (nB 4)) (aG (xP (nL 2) (PE.aF (aZ bu bh (nB 4) (PE.aF cI)))) cj)))))) (PE.qF (mB (nL 2) (wQ (PE.aF (aZ fH bX (nB 4) (PE.aF cI)))) MD)))) dC.nd))))
  (aW (gq (nD 2)))))
 exact h
theorem sA:Ok P w K mg base 1 t.gf t.gg ["_law_row"] dz:=by
 have h:=KC (P:=P) (w:=w) (base:=base) (k:=0) rh t.jv fun cdv A outer s H E hr=>
  (aW (gq (II rfl t.zb (PE.qF (Nh (VC (N:=["_law_p","_law_row"]) (nt:=1) (caps:=[0]) (ae iG) ["_law_row"] (by decide +kernel)) rfl (tQ (Z1 t.gm (aE (PE.aF (iQ cL dZ t.jX dQ (aE (nB 0) bw))) bw))) (Kp.ok (qP (nt:=1) 0)) (fun _ _ _ _ _=>(rJ 0 (by show Nodup (["_law_p","_law_row"]:List Str);decide +kernel))) (fun _ _ _ _ _=>Ih) (fun _ _ _ _ _=>(iQ cL dZ t.jX dQ (aE (PE.aF (PE.dG (mE (Du (N:=["_law_s","_law_row","_law_p"]) (nt:=1) (caps:=[1,0]) _ _ (by kernel_rfl) rfl rfl) rfl (tQ (iL (PE.dG (mB (nL 1) MD (wQ (nB 0)))))) (Kp.ok (qP (nt:=1) 0)) (fun _ _ _ _ _=>(rJ 0 (by show Nodup (["_law_s","_law_row","_law_p"]:List Str);decide +kernel))) (fun _ _ _ _ _=>(Vb (bC jG iz (nB 0) (PE.aF (xP (nL 1) (nB 2))) (aK _)))) (fun _ _ _ _ _=>(nD 0))))) bw))))))))
 exact h
theorem sC:Ok P w K mg base 1 t.gh t.gj ["_law_found","_law_n"] dA:=by
 have h:=KC (P:=P) (w:=w) (base:=base) (k:=0) cH t.jw fun cdv A outer s H E hr=>
  (aJ (wV (rX (vN (yn (PE.aF (z4 Ex yr t.cg t.xD (nB 0))))) (rX (bC (oW (aT.u6 hr)) kY (PE.aF (iQ cL dZ t.jX dQ (aE (nB 0) bw))) (PE.aF cI) (aK _)) (ym (vN (yn (PE.aF (z4 Ba jK t.cg t.gk (PE.aF (zU (nD 0) (PE.aF cI)))))))))).pt (aW (gq JV)) lX)
  (aJ (wV (rX (vN (yn (PE.aF (z4 Ew Ey t.cg t.Gn (PE.aF (zU (nD 0) (PE.aF cI))))))) (rX (yn (PE.aF (z4 A9 Bb t.cg t.Av (PE.aF (zU (nD 0) (PE.aF cI)))))) (ym (vO (bC (iA (aT.u6 hr)) ed (nB 1) (PE.aF cI) (aK _)) (yk (bC (oW (aT.u6 hr)) kY (PE.aF (zU (nD 0) (PE.aF cI))) (PE.aF cI) (aK _)))).pt))).pt (aW (gq JV)) lX)
  (aJ (fJ 2 cN cH.nd)
  (aJ (tR PassesOwn.never rfl (iL (zU (nD 0) (PE.aF cI))) (rJ 3 cH.nd) (aJ (wV (rX (vN (yn (PE.aF (z4 Ba jK t.cg t.gk (nB 3))))) (ym (bC (oW (aT.u6 hr)) kY (PE.aF (PE.dG (mE (Du (N:=["_law_s"]) (nt:=1) (caps:=[]) (ae iH) ["_law_found","_law_n","_law_last","_law_row","_law_k"] (by decide +kernel)) rfl (tQ (iL (nD 3))) (Kp.ok (qP (nt:=1) 0)) (fun _ _ _ _ _=>(rJ 0 (by show Nodup (["_law_s"]:List Str);decide +kernel))) (fun _ _ _ _ _=>(Vb (rX (vN (yn (PE.aF (z4 Ew Ey t.cg t.Gn (nB 0))))) (ym (yn (PE.aF (z4 A9 Bb t.cg t.Av (nB 0)))))).pt)) (fun _ _ _ _ _=>(nD 0))))) (PE.aF (PE.dG (qI cj))) (aK _)))).pt (aW (gq JV)) lX)
  (aJ (wV (rX (bC (oW (aT.u6 hr)) kY (PE.aF (PE.dG (IK t.za (nL 3)))) (PE.aF (PE.dG (t9 rfl t.gk t.gm (aE (nB 1) bw)))) (aK _)) (rX (bC (iA (aT.u6 hr)) ed (nB 3) (PE.aF (PE.dG (t9 rfl t.gk t.gm (aE (nB 1) bw)))) (aK _)) (ym (bC (iA (aT.u6 hr)) ed (nB 3) (PE.aF (PE.dG (Nu rfl t.gk t.gH t.gm (aE (nB 1) bw)))) (aK _))))).pt (aW (gq JV)) lX)
  (aJ (tR PassesOwn.never rfl (XU t.gm (aE (PE.aF cI) (aE (nB 1) bw))) (rJ 4 cH.nd) (aW (wV (vO (bC HG EB (nB 2) (PE.aF cN) (aK _)) (vO (bC jG iz (PE.aF (EZ (nL 3) (PE.aF (aZ bu bh (nB 4) (PE.aF cI))))) (PE.aF (EZ (nL 3) (nB 4))) (aK _)) (yk (bC tm tP (PE.aF (zU (nD 2) (PE.aF (aZ bu bh (nB 4) (PE.aF cI))))) (PE.aF (zU (nD 2) (nB 4))) (aK _))))).pt (aW (gq JV)) lX)))
  (aW (fJ 2 (nD 3) cH.nd))))))
  (aW (gq JV))))))
 exact h
theorem Di(bH:lZ P w K mg base 1 t.fu t.fx ["row"] bG)(n9:lZ P w K mg base 1 t.qc t.qd ["row"] nR):lZ P w K mg base 2 t.qe t.qg ["row"] pW:=by
 have h:=pL (P:=P) (w:=w) (base:=base) (k:=1) Ar t.nq fun cdv A outer s H E hr=>
  (aW (lP (yu t.nW n9 (hr.mono (by decide)) (aG (PE.dG (yu t.fy bH (hr.mono (by decide)) (aG (nD 0) cj))) cj))))
 exact h
theorem lI(bH:lZ P w K mg base 1 t.fu t.fx ["row"] bG)(aN:lZ P w K mg base 1 t.aP t.aQ ["row","k"] aL):lZ P w K mg base 2 t.bQ t.bR ["row","k"] bO:=by
 have h:=pL (P:=P) (w:=w) (base:=base) (k:=1) kK t.bq fun cdv A outer s H E hr=>
  (aW (lP (yu t.fy bH (hr.mono (by decide)) (aG (PE.dG (yu t.aM aN (hr.mono (by decide)) (aG (PE.dG (yu t.fy bH (hr.mono (by decide)) (aG (nD 0) cj))) (aG (nD 1) cj)))) cj))))
 exact h
theorem Dj(dF:lZ P w K mg base 1 t.gF t.gG ["n"] ck)(aN:lZ P w K mg base 1 t.aP t.aQ ["row","k"] aL):lZ P w K mg base 2 t.qh t.qi ["n","word"] kD:=by
 have h:=pL (P:=P) (w:=w) (base:=base) (k:=1) lB t.qj fun cdv A outer s H E hr=>
  (aJ (vP 2 (yu t.dD dF (hr.mono (by decide)) (aG (nD 0) cj)) lB.nd)
  (aJ (tR PassesOwn.never rfl (iL (nD 1)) (rJ 3 lB.nd) (aJ (wV (bC tm tP (nB 3) (PE.aF cI) (aK _)) (aW Rj) lX)
  (aJ (wV (bC jG iz (PE.aF (xP (nL 2) (PE.aF (aZ bu bh (nB 3) (PE.aF cI))))) (PE.aF (xP (nL 2) (nB 3))) (aK _)) (aW Rj) lX)
  (aW (vP 2 (Vq Z7 t.aM aN (hr.mono (by decide)) (aE (nB 2) (aE (nB 3) bw))) lB.nd)))))
  (aW (Eh 2))))
 exact h
theorem G5(bH:lZ P w K mg base 1 t.fu t.fx ["row"] bG):lZ P w K mg base 2 t.sU t.sV ["row"] pX:=by
 have h:=pL (P:=P) (w:=w) (base:=base) (k:=1) C3 t.xA fun cdv A outer s H E hr=>
  (aW (lP (mE (Du (N:=["place","row"]) (nt:=1) (caps:=[0]) (ae uF) ["row"] (by decide +kernel)) rfl (tQ (iL (PE.dG (yu t.fy bH (hr.mono (by decide)) (aG (nD 0) cj))))) (Kp.ok (qP (nt:=1) 0)) (fun _ _ _ _ _=>(rJ 0 (by show Nodup (["place","row"]:List Str);decide +kernel))) (fun _ _ _ _ _=>Ih) (fun _ _ _ _ _=>(aZ bu bh (PE.aF (aZ bu bh (PE.aF (iQ cL dZ t.jX dQ (aE (nB 1) bw))) (PE.aF cI))) (nB 0))))))
 exact h
theorem O2(dF:lZ P w K mg base 1 t.gF t.gG ["n"] ck):Pp P w K mg base 2 t.BU t.BV ["n","word"] yO:=by
 have h:=Yb (P:=P) (w:=w) (base:=base) (k:=1) iX t.Gk fun cdv A outer s H E hr=>
  (aJ (K3 2 K2 iX.nd)
  (aJ (vP 3 (yu t.dD dF (hr.mono (by decide)) (aG (nD 0) cj)) iX.nd)
  (aJ (fJ 4 JV iX.nd)
  (aJ (tR PassesOwn.never rfl (iL (nD 1)) (rJ 5 iX.nd) (aJ (fJ 6 (iQ tw wU t.BX z0 (aE (nB 5) bw)) iX.nd)
  (aJ (wV (rX (bC (iA (aT.u6 hr)) ed (PE.aF (iQ cL dZ t.jX dQ (aE (nB 2) bw))) (PE.aF cI) (aK _)) (rX (bC (oW (aT.u6 hr)) kY (nB 4) (PE.aF (Ia jG iz (nB 5) (PE.aF cI) (aK _))) (aK _)) (ym (bC jG iz (PE.aF (xP (nL 3) (PE.aF (aZ bu bh (nB 6) (PE.aF cI))))) (PE.aF (xP (nL 3) (nB 6))) (aK _))))).pt (aJ (K5 2 (qI cj))
  (aJ (vP 3 (yu t.dD dF (hr.mono (by decide)) (aG (nD 0) cj)) iX.nd)
  (aW (fJ 4 (Ia jG iz (nB 5) (PE.aF cI) (aK _)) iX.nd)))) lX)
  (aJ (Nn 2 (PE.aF (G8 jc gM (PE.aF cI))) (nB 5))
  (aJ (fJ 7 (xP (nL 3) (nB 6)) iX.nd)
  (aJ (xg 3 (nB 6) (xP (nL 3) (PE.aF (aZ bu bh (nB 6) (PE.aF cI)))))
  (aW (xg 3 (PE.aF (aZ bu bh (nB 6) (PE.aF cI))) (nD 7)))))))))
  (aW (K4 2))))))
 exact h
theorem uQ(kh:lZ P w K mg base 1 t.gS t.gU ["row"] dS):lZ P w K mg base 2 t.gX t.gY ["halves","row"] dU:=by
 have h:=pL (P:=P) (w:=w) (base:=base) (k:=1) si t.kg fun cdv A outer s H E hr=>
  (aJ (wV (bC (iA (aT.u6 hr)) ed (PE.aF (aZ ig dY (nB 0) (PE.aF cI))) (PE.aF cI) (aK _)) (aW (lP (JX t.gk (nL 1)))) lX)
  (aW (lP (yu t.j9 kh (hr.mono (by decide)) (aG (nD 1) cj)))))
 exact h
theorem vA(iM:Ok P w K mg base 1 t.eO t.eQ ["_law_number","_law_n"] cO):Ok P w K mg base 2 t.iY t.iZ ["_law_number","_law_n"] fK:=by
 have h:=M9 (P:=P) (w:=w) (base:=base) (k:=1) jo t.lE fun cdv A outer s H E hr=>
  (aJ (fJ 2 (MV M8 t.iK iM (hr.mono (by decide)) (aE (nB 0) (aE (nB 1) bw))) jo.nd)
  (aJ (wV (rX (bC jG iz (PE.aF (aZ ig dY (PE.aF (aZ nG nK (nB 0) (PE.aF cI))) (PE.aF cI))) (PE.aF cI) (aK _)) (ym (bC tm tP (nB 1) (PE.aF cI) (aK _)))).pt (aW (gq (PE.dG (qI (aG (nD 2) cj))))) lX)
  (aJ (fJ 3 (XS (vO (bC tm tP (PE.aF (iQ tw wU t.BX z0 (aE (PE.aF (aZ fH bX (nB 2) (PE.aF cI))) bw))) (nB 1) (aK _)) (yk (bC (oW (aT.u6 hr)) kY (PE.aF (aZ fH bX (nB 2) (PE.aF cI))) (PE.aF cI) (aK _)))).pt (aZ fH bX (nB 2) (PE.aF cI)) (aZ bu bh (nB 2) (PE.aF cI))) jo.nd)
  (aW (gq (xP (PE.qF (qI (aG (PE.dG (qI (aG (nD 2) (aG (nD 3) (aG (nD 2) cj))))) (aG (PE.dG (qI (aG (nD 2) (aG (nD 3) cj)))) (aG (PE.dG (qI (aG (nD 2) (aG (nD 2) cj)))) (aG (PE.dG (qI (aG (nD 2) (aG (G8 jc gM (nB 3)) (aG (nD 2) cj))))) cj)))))) (PE.aF (aZ ig dY (PE.aF (aZ nG nK (nB 0) (PE.aF cI))) (PE.aF cI)))))))))
 exact h
theorem uR(xK:lZ P w K mg base 2 t.sU t.sV ["row"] pX):Ok P w K mg base 3 t.gV t.gW ["row"] gP:=by
 have h:=M9 (P:=P) (w:=w) (base:=base) (k:=2) se t.kc fun cdv A outer s H E hr=>
  (aW (gq (MC (aG (G8 jc gM (PE.aF cI)) (aG (PE.dG (yu t.xA xK (hr.mono (by decide)) (aG (nD 0) cj))) cj)))))
 exact h
theorem mj(ki:lZ P w K mg base 2 t.gX t.gY ["halves","row"] dU):Pp P w K mg base 3 t.b8 t.b9 ["steps"] aO:=by
 have h:=Yb (P:=P) (w:=w) (base:=base) (k:=2) bf t.bx fun cdv A outer s H E hr=>
  (aJ (K3 1 K2 bf.nd)
  (aJ (fJ 2 cI bf.nd)
  (aJ (tR PassesOwn.never rfl (iV t.gH (nD 0)) (rJ 3 bf.nd) (aJ (K5 1 (yu t.kg ki (hr.mono (by decide)) (aG (nD 2) (aG (zU (nD 3) (PE.aF cI)) cj))))
  (aW (Kv 2 DK (PE.aF (zU (nD 3) (PE.aF cI))) bf.nd))))
  (aJ (Ru 1)
  (aW (K4 1))))))
 exact h
theorem vB(gI:Ok P w K mg base 1 t.jq t.jr ["_law_cell","_law_k","_law_factor"] eY)(lJ:Ok P w K mg base 2 t.iY t.iZ ["_law_number","_law_n"] fK):lZ P w K mg base 3 t.i6 t.i7 ["_law_cells","_law_n","_law_most"] fM:=by
 have h:=pL (P:=P) (w:=w) (base:=base) (k:=2) dB t.lF fun cdv A outer s H E hr=>
  (aJ (fJ 3 (PE.dG (qI cj)) dB.nd)
  (aJ (tR PassesOwn.never rfl (iE t.jW (nD 0)) (Vu 2 rfl (nQ (rJ 4 dB.nd) (nQ (rJ 5 dB.nd) z5))) (aW (wV (bC jG iz (nB 1) (PE.aF cI) (aK _)) (aW (fJ 3 (PE.dG (Ed (nL 3) (PE.UX (Kb t.lE lJ (hr.mono (by decide)) (aG (MV M8 t.lD gI (hr.mono (by decide)) (aE (nB 5) (aE (nB 4) (aE (PE.aF cI) bw)))) (aG (nD 1) cj)))))) dB.nd)) lX)))
  (aW (lP (mB (nL 3) MD (wQ (nB 2)))))))
 exact h
theorem AJ(uS:lZ P w K mg base 1 t.p9 t.qb ["word"] mU)(qr:lZ P w K mg base 2 t.qh t.qi ["n","word"] kD)(kj:Ok P w K mg base 3 t.gV t.gW ["row"] gP):Ok P w K mg base 4 t.nZ t.n8 ["n","piece"] kE:=by
 have h:=M9 (P:=P) (w:=w) (base:=base) (k:=3) y9 t.rn fun cdv A outer s H E hr=>
  (aJ (wV (bC jG iz (PE.aF (xP (nL 1) (PE.aF cI))) (PE.aF cI) (aK _)) (aW (gq (MC (aG cI (aG (PE.dG (yu t.qj qr (hr.mono (by decide)) (aG (nD 0) (aG (nD 1) cj)))) cj))))) lX)
  (aW (gq (Kb t.kc kj (hr.mono (by decide)) (aG (PE.dG (yu t.qj qr (hr.mono (by decide)) (aG (nD 0) (aG (PE.dG (yu t.uI uS (hr.mono (by decide)) (aG (nD 1) cj))) cj)))) cj)))))
 exact h
theorem xM(gI:Ok P w K mg base 1 t.jq t.jr ["_law_cell","_law_k","_law_factor"] eY)(lK:lZ P w K mg base 3 t.i6 t.i7 ["_law_cells","_law_n","_law_most"] fM):Ok P w K mg base 4 t.jU t.jV ["_law_cells","_law_n","_law_most"] g7:=by
 have h:=M9 (P:=P) (w:=w) (base:=base) (k:=3) gR t.nv fun cdv A outer s H E hr=>
  (aJ (fJ 3 (PE.dG (yu t.lF lK (hr.mono (by decide)) (aG (PE.dG (mB (nL 0) MD (wQ (PE.aF cI)))) (aG (nD 1) (aG cI cj))))) gR.nd)
  (aJ (wV (bC Qd MB (PE.aF (iQ cL dZ t.jX dQ (aE (nB 3) bw))) (nB 2) (aK _)) (aW (gq (nD 3))) lX)
  (aJ (fJ 4 (II rfl t.zb (PE.qF (mE (Du (N:=["_law_k","_law_cell"]) (nt:=2) (caps:=[]) (ae lC) ["_law_cells","_law_n","_law_most","_law_word","_law_total","_law_at"] (by decide +kernel)) rfl (tQ (iE t.jW (nD 0))) (Kp.ok (Vv 2 (Bk (qP (nt:=2) 0) (Bk (qP (nt:=2) 1) M7)))) (fun _ _ _ _ _=>(Vu 2 rfl (nQ (rJ 0 (by show Nodup (["_law_k","_law_cell"]:List Str);decide +kernel)) (nQ (rJ 1 (by show Nodup (["_law_k","_law_cell"]:List Str);decide +kernel)) z5)))) (fun _ _ _ _ _=>Ih) (fun _ _ _ _ _=>(MV M8 t.lD gI (hr.mono (by decide)) (aE (nB 1) (aE (nB 0) (aE (PE.aF cI) bw)))))))) gR.nd)
  (aJ (fJ 5 (aZ ig dY (nB 4) (PE.aF (aZ fH bX (PE.aF (aZ bu bh (PE.aF (iQ cL dZ t.jX dQ (aE (nB 3) bw))) (nB 2))) (PE.aF cI)))) gR.nd)
  (aW (gq (PE.dG (mB (nL 3) (wQ (nB 5)) (wQ (PE.aF (aZ fH bX (nB 5) (nB 2))))))))))))
 exact h
theorem rB(rC:lZ P w K mg base 1 t.nU t.nV ["word"] ky)(G6:Pp P w K mg base 2 t.BU t.BV ["n","word"] yO)(rD:Ok P w K mg base 4 t.nZ t.n8 ["n","piece"] kE):Ok P w K mg base 5 t.eJ t.eM ["n","word"] cP:=by
 have h:=M9 (P:=P) (w:=w) (base:=base) (k:=4) p8 t.iJ fun cdv A outer s H E hr=>
  (aW (gq (PE.dG (mE (Du (N:=["piece","n"]) (nt:=1) (caps:=[0]) (ae gE) ["n","word"] (by decide +kernel)) rfl (Z0 (PE.VP (fT1 t.Gk G6 (hr.mono (by decide)) (aE (nB 0) (aE (PE.aF (PE.dG (yu t.rm rC (hr.mono (by decide)) (aG (nD 1) cj)))) bw))))) (Kp.ok (qP (nt:=1) 0)) (fun _ _ _ _ _=>(rJ 0 (by show Nodup (["piece","n"]:List Str);decide +kernel))) (fun _ _ _ _ _=>Ih) (fun _ _ _ _ _=>(Kb t.rn rD (hr.mono (by decide)) (aG (nD 1) (aG (nD 0) cj))))))))
 exact h
theorem JP(iN:Ok P w K mg base 9 t.eB t.eI ["n","steps"] cQ)(iO:Ok P w K mg base 5 t.eJ t.eM ["n","word"] cP):Ok P w K mg base 10 t.xB t.xC ["n","word"] uz:=by
 have h:=M9 (P:=P) (w:=w) (base:=base) (k:=9) Gj t.Au fun cdv A outer s H E hr=>
  (aW (gq (Kb t.iI iN (hr.mono (by decide)) (aG (nD 0) (aG (Kb t.iJ iO (hr.mono (by decide)) (aG (nD 0) (aG (nD 1) cj))) cj)))))
 exact h
theorem O3(AK:Ok P w K mg base 10 t.xB t.xC ["n","word"] uz)(jz:Ok P w K mg base 1 t.fY t.fZ ["_law_script","_law_k"] cC)(jA:Ok P w K mg base 1 t.f9 t.gb ["_law_seed","_law_least","_law_most"] dw)(nA:Ok P w K mg base 4 t.jU t.jV ["_law_cells","_law_n","_law_most"] g7)(lL:Ok P w K mg base 1 t.i9 t.ja ["_law_n","_law_word"] fQ)(jB:Ok P w K mg base 1 t.gf t.gg ["_law_row"] dz)(jC:Ok P w K mg base 1 t.gh t.gj ["_law_found","_law_n"] dA):Ok P w K mg base 11 t.Gm t.BW ["_law_script"] uC:=by
 have h:=KC (P:=P) (w:=w) (base:=base) (k:=10) fX t.Lf fun cdv A outer s H E hr=>
  (aJ (fJ 1 (MV M8 t.ju jA (hr.mono (by decide)) (aE (PE.aF (aZ ig dY (PE.aF (MV M8 t.jt jz (hr.mono (by decide)) (aE (nB 0) (aE (PE.aF cI) bw)))) (PE.aF (aZ Md Ib (PE.aF cI) (PE.aF cI))))) (aE (PE.aF cI) (aE (PE.aF cI) bw)))) fX.nd)
  (aJ (fJ 2 (Kb t.nv nA (hr.mono (by decide)) (aG (nD 0) (aG (nD 1) (aG cI cj)))) fX.nd)
  (aJ (fJ 3 (PE.dG (JX t.gk (nL 2))) fX.nd)
  (aJ (fJ 4 (Kb t.Au AK (hr.mono (by decide)) (aG (nD 1) (aG (nD 3) cj))) fX.nd)
  (aJ (wV (rX (bC (oW (aT.u6 hr)) kY (nB 3) (nB 2) (aK _)) (ym (vN (yn (PE.aF (MV M8 t.jw jC (hr.mono (by decide)) (aE (nB 4) (aE (nB 1) bw)))))))).pt (aW (gq JV)) lX)
  (aJ (fJ 5 (PE.dG (t9 rfl t.gk t.gm (aE (nB 1) bw))) fX.nd)
  (aJ (fJ 6 (aZ tj pF (PE.aF (zU (nD 4) (PE.aF cI))) (PE.aF (aZ nG nK (PE.aF (aZ tj pF (nB 1) (PE.aF (aZ bu bh (nB 1) (PE.aF cI))))) (PE.aF cI)))) fX.nd)
  (aJ (wV (bC (iA (aT.u6 hr)) ed (PE.aF (aZ ig dY (PE.aF (zU (nD 4) (PE.aF cI))) (PE.aF cI))) (PE.aF cI) (aK _)) (aW (fJ 5 (PE.dG (Na rfl t.gk t.gH (nL 5))) fX.nd)) lX)
  (aJ (tR PassesOwn.never rfl (iL (zU (nD 4) (PE.aF cI))) (rJ 7 fX.nd) (aJ (fJ 5 (PE.dG (mE (Du (N:=["_law_s","_law_order_here"]) (nt:=1) (caps:=[5]) (ae xw) ["_law_script","_law_n","_law_word","_law_handed","_law_found","_law_order_here","_law_many","_law_row"] (by decide +kernel)) rfl (tQ (iL (nD 7))) (Kp.ok (qP (nt:=1) 0)) (fun _ _ _ _ _=>(rJ 0 (by show Nodup (["_law_s","_law_order_here"]:List Str);decide +kernel))) (fun _ _ _ _ _=>Ih) (fun _ _ _ _ _=>(xP (nL 1) (nB 0))))) fX.nd)
  (aW (fJ 6 (aZ fH bX (nB 6) (PE.aF (MV M8 t.jv jB (hr.mono (by decide)) (aE (nB 7) bw)))) fX.nd))))
  (aW (gq (UZ (PE.aF (Ia (iA (aT.u6 hr)) ed (nB 5) (PE.aF (Kb t.lG lL (hr.mono (by decide)) (aG (nD 1) (aG (nD 2) cj)))) (aK _))) (UY (Ia (iA (aT.u6 hr)) ed (nB 6) (PE.aF (II rfl t.zb (PE.qF (mE (Du (N:=["_law_k"]) (nt:=1) (caps:=[]) (ae xw) ["_law_script","_law_n","_law_word","_law_handed","_law_found","_law_order_here","_law_many","_law_row"] (by decide +kernel)) rfl (tQ (iL (nD 2))) (Kp.ok (qP (nt:=1) 0)) (fun _ _ _ _ _=>(rJ 0 (by show Nodup (["_law_k"]:List Str);decide +kernel))) (fun _ _ _ _ _=>Ih) (fun _ _ _ _ _=>(XS (bC jG iz (nB 0) (PE.aF cI) (aK _)) cI (G8 jc gM (PE.aF cI)))))))) (aK _)))))))))))))))
 exact h
end
@[irreducible] noncomputable def Kw (w:World):PySem.W.Frag:=H.K w.params
theorem LC(w:World):Kw w=H.K w.params:=by kernel_rfl
theorem oM{K:PySem.W.Frag}{h:Heap}{mg:Str->Option Value}{x:String}{st:Stmt}{ps:List Str}{f c:Addr}{m:Value}(X:K.In h)(G:h.Ns mainGlobals mg)
  (e:(nsIn K mainGlobals (Str.ofString x),K.lookup f,codeIn K (.ref c) (Str.ofString x),keepIn K (.ref f))=(some (some (.ref f)),some (DL.H.hf (Str.ofString x) (Str.ofString x) st m c),true,true))
  (hb:∀(kV doc pm:Value)(an:Option Addr)(cdv ct:Value)(us:List Value),us.length=ps.length->bindArgs (PySem.W.fnOf (Str.ofString x) (Str.ofString x) (cV st) (bg st) (ae st) .none kV doc pm an cdv ct) ⟨us,[]⟩=pure (ps.zip us)):
  Df K mg (Str.ofString x) st ps f (PySem.W.fnOf (Str.ofString x) (Str.ofString x) (cV st) (bg st) (ae st) .none .none .none m none (.ref c) .none):=dfm X G (congrArg (·.1) e) (congrArg (·.2.1) e) (congrArg (·.2.2.1) e) (congrArg (·.2.2.2) e) hb
theorem AL{x q:Str}{a:Arguments}{b:List Stmt}{s:Scope}{p0:Str}(h:∀(kV doc pm:Value)(an:Option Addr)(cdv ct v0:Value),bindArgs (PySem.W.fnOf x q a b s .none kV doc pm an cdv ct) ⟨[v0],[]⟩=pure [(p0,v0)])(kV doc pm:Value)(an:Option Addr)(cdv ct:Value)(us:List Value)(hl:us.length=[p0].length):bindArgs (PySem.W.fnOf x q a b s .none kV doc pm an cdv ct) ⟨us,[]⟩=pure ([p0].zip us):=match us,hl with|[v0],_=>h _ _ _ _ _ _ _
theorem zu{x q:Str}{a:Arguments}{b:List Stmt}{s:Scope}{p0 p1:Str}(h:∀(kV doc pm:Value)(an:Option Addr)(cdv ct v0 v1:Value),bindArgs (PySem.W.fnOf x q a b s .none kV doc pm an cdv ct) ⟨[v0,v1],[]⟩=pure [(p0,v0),(p1,v1)])(kV doc pm:Value)(an:Option Addr)(cdv ct:Value)(us:List Value)(hl:us.length=[p0,p1].length):bindArgs (PySem.W.fnOf x q a b s .none kV doc pm an cdv ct) ⟨us,[]⟩=pure ([p0,p1].zip us):=match us,hl with|[v0,v1],_=>h _ _ _ _ _ _ _ _
theorem LD{x q:Str}{a:Arguments}{b:List Stmt}{s:Scope}{p0 p1 p2:Str}(h:∀(kV doc pm:Value)(an:Option Addr)(cdv ct v0 v1 v2:Value),bindArgs (PySem.W.fnOf x q a b s .none kV doc pm an cdv ct) ⟨[v0,v1,v2],[]⟩=pure [(p0,v0),(p1,v1),(p2,v2)])(kV doc pm:Value)(an:Option Addr)(cdv ct:Value)(us:List Value)(hl:us.length=[p0,p1,p2].length):bindArgs (PySem.W.fnOf x q a b s .none kV doc pm an cdv ct) ⟨us,[]⟩=pure ([p0,p1,p2].zip us):=match us,hl with|[v0,v1,v2],_=>h _ _ _ _ _ _ _ _ _
theorem LG(K:PySem.W.Frag){C:Addr}{x q:String}{st:Stmt}{f c:Addr}{m:Value}
  (e:(findIn K (.ref C) (Str.ofString x),isFn K (.ref f),K.lookup f,codeIn K (.ref c) (Str.ofString q),keepIn K (.ref f))=(some (some (.ref f)),true,some (DL.H.hf (Str.ofString x) (Str.ofString q) st m c),true,true)):
  yc K (Str.ofString x) (Str.ofString q) st f (PySem.W.fnOf (Str.ofString x) (Str.ofString q) (cV st) (bg st) (ae st) .none .none .none m none (.ref c) .none)/\Meth K C (Str.ofString x) f:=
 ⟨zR (congrArg (·.2.2.1) e) (congrArg (·.2.2.2.1) e) (congrArg (·.2.2.2.2) e),congrArg (·.1) e,congrArg (·.2.1) e,congrArg (·.2.2.2.2) e⟩
theorem all_mk{l:PySem.W.OpenLaw}{w:World}{h:Heap}{mg:Str->Option Value}{fa:Addr}(X:(Kw w).In h)(G:h.Ns mainGlobals mg)(hfa:mg "law"=some (.ref fa)):
  ∃fd:FuncData,(∀(s:Shared)(v:Value),BindsTo s fd ⟨[v],[]⟩ [("_law_script",v)])/\∀base:Heap,(Kw w).In base->base.Ns mainGlobals mg->bJ l.prog w (Kw w) mg base jH 11 fa fd ["_law_script"] (A8 (Kw w) Dt uC):=by
 have e:=hfa.symm.trans (mg_of X G (show nsIn (Kw w) mainGlobals "law"=some (some (.ref 311))by kernel_rfl))
 cases e
 have yC:nsIn (Kw w) mainGlobals "Comb"=some (some (.ref 186)):=by kernel_rfl
 have ypg:plainGet (Kw w) 186 Str.empty=true:=by kernel_rfl
 have yhd:hasDictIn (Kw w) 186=true:=by kernel_rfl
 have ypo:plainOver (Kw w) 186=true:=by kernel_rfl
 have ysa:findIn (Kw w) (.ref 186) "__setattr__"=some (some (.builtin "object.__setattr__")):=by kernel_rfl
 have ymk:makesIn (Kw w) 186=true:=by kernel_rfl
 have ykc:keepIn (Kw w) (.ref 186)=true:=by kernel_rfl
 have yn0:findIn (Kw w) (.ref 186) "known"=some none:=by kernel_rfl
 have yn1:findIn (Kw w) (.ref 186) "numbers"=some none:=by kernel_rfl
 have yn2:findIn (Kw w) (.ref 186) "firsts"=some none:=by kernel_rfl
 have yn3:findIn (Kw w) (.ref 186) "lasts"=some none:=by kernel_rfl
 have yn4:findIn (Kw w) (.ref 186) "shorter"=some none:=by kernel_rfl
 have yn5:findIn (Kw w) (.ref 186) "longer"=some none:=by kernel_rfl
 have yn6:findIn (Kw w) (.ref 186) "kept"=some none:=by kernel_rfl
 have yn7:findIn (Kw w) (.ref 186) "line"=some none:=by kernel_rfl
 have yn8:findIn (Kw w) (.ref 186) "none"=some none:=by kernel_rfl
 have yn9:findIn (Kw w) (.ref 186) "whole"=some none:=by kernel_rfl
 let t:Tb (Kw w) mg:={p9:=44,qb:=_,uI:=oM X G (c:=43) (m:=H.w1) (by kernel_rfl) (AL fun _ _ _ _ _ _ _=>rfl),nU:=51,nV:=_,rm:=oM X G (c:=50) (m:=H.w1) (by kernel_rfl) (AL fun _ _ _ _ _ _ _=>rfl),gF:=58,gG:=_,dD:=oM X G (c:=57) (m:=H.w2) (by kernel_rfl) (AL fun _ _ _ _ _ _ _=>rfl),xx:=65,xy:=_,uJ:=oM X G (c:=64) (m:=H.w2) (by kernel_rfl) (AL fun _ _ _ _ _ _ _=>rfl),fu:=72,fx:=_,fy:=oM X G (c:=71) (m:=H.w2) (by kernel_rfl) (AL fun _ _ _ _ _ _ _=>rfl),qc:=77,qd:=_,nW:=oM X G (c:=76) (m:=H.w2) (by kernel_rfl) (AL fun _ _ _ _ _ _ _=>rfl),qe:=84,qg:=_,nq:=oM X G (c:=83) (m:=H.w2) (by kernel_rfl) (AL fun _ _ _ _ _ _ _=>rfl),aP:=91,aQ:=_,aM:=oM X G (c:=90) (m:=H.w2) (by kernel_rfl) (zu fun _ _ _ _ _ _ _ _=>rfl),bQ:=98,bR:=_,bq:=oM X G (c:=97) (m:=H.w2) (by kernel_rfl) (zu fun _ _ _ _ _ _ _ _=>rfl),qh:=105,qi:=_,qj:=oM X G (c:=104) (m:=H.w2) (by kernel_rfl) (zu fun _ _ _ _ _ _ _ _=>rfl),sU:=110,sV:=_,xA:=oM X G (c:=109) (m:=H.w2) (by kernel_rfl) (AL fun _ _ _ _ _ _ _=>rfl),gS:=115,gU:=_,j9:=oM X G (c:=114) (m:=H.w2) (by kernel_rfl) (AL fun _ _ _ _ _ _ _=>rfl),nX:=122,nY:=_,fz:=oM X G (c:=121) (m:=H.w3) (by kernel_rfl) (AL fun _ _ _ _ _ _ _=>rfl),BU:=197,BV:=_,Gk:=oM X G (c:=196) (m:=H.w4) (by kernel_rfl) (zu fun _ _ _ _ _ _ _ _=>rfl),gV:=204,gW:=_,kc:=oM X G (c:=203) (m:=H.w4) (by kernel_rfl) (AL fun _ _ _ _ _ _ _=>rfl),nZ:=211,n8:=_,rn:=oM X G (c:=210) (m:=H.w4) (by kernel_rfl) (zu fun _ _ _ _ _ _ _ _=>rfl),gX:=218,gY:=_,kg:=oM X G (c:=217) (m:=H.w4) (by kernel_rfl) (zu fun _ _ _ _ _ _ _ _=>rfl),b8:=225,b9:=_,bx:=oM X G (c:=224) (m:=H.w4) (by kernel_rfl) (AL fun _ _ _ _ _ _ _=>rfl),eB:=230,eI:=_,iI:=oM X G (c:=229) (m:=H.w4) (by kernel_rfl) (zu fun _ _ _ _ _ _ _ _=>rfl),eJ:=235,eM:=_,iJ:=oM X G (c:=234) (m:=H.w4) (by kernel_rfl) (zu fun _ _ _ _ _ _ _ _=>rfl),xB:=242,xC:=_,Au:=oM X G (c:=241) (m:=H.w4) (by kernel_rfl) (zu fun _ _ _ _ _ _ _ _=>rfl),jq:=249,jr:=_,lD:=oM X G (c:=248) (m:=H.w5) (by kernel_rfl) (LD fun _ _ _ _ _ _ _ _ _=>rfl),fY:=256,fZ:=_,jt:=oM X G (c:=255) (m:=H.w5) (by kernel_rfl) (zu fun _ _ _ _ _ _ _ _=>rfl),f9:=263,gb:=_,ju:=oM X G (c:=262) (m:=H.w5) (by kernel_rfl) (LD fun _ _ _ _ _ _ _ _ _=>rfl),eO:=270,eQ:=_,iK:=oM X G (c:=269) (m:=H.w5) (by kernel_rfl) (zu fun _ _ _ _ _ _ _ _=>rfl),iY:=277,iZ:=_,lE:=oM X G (c:=276) (m:=H.w5) (by kernel_rfl) (zu fun _ _ _ _ _ _ _ _=>rfl),i6:=284,i7:=_,lF:=oM X G (c:=283) (m:=H.w5) (by kernel_rfl) (LD fun _ _ _ _ _ _ _ _ _=>rfl),jU:=289,jV:=_,nv:=oM X G (c:=288) (m:=H.w5) (by kernel_rfl) (LD fun _ _ _ _ _ _ _ _ _=>rfl),i9:=296,ja:=_,lG:=oM X G (c:=295) (m:=H.w5) (by kernel_rfl) (zu fun _ _ _ _ _ _ _ _=>rfl),gf:=301,gg:=_,jv:=oM X G (c:=300) (m:=H.w5) (by kernel_rfl) (AL fun _ _ _ _ _ _ _=>rfl),gh:=306,gj:=_,jw:=oM X G (c:=305) (m:=H.w5) (by kernel_rfl) (zu fun _ _ _ _ _ _ _ _=>rfl),Gm:=311,BW:=_,Lf:=oM X G (c:=310) (m:=H.w5) (by kernel_rfl) (AL fun _ _ _ _ _ _ _=>rfl),BX:=mg_none_of X G (by kernel_rfl),Av:=mg_none_of X G (by kernel_rfl),jW:=mg_none_of X G (by kernel_rfl),Gn:=mg_none_of X G (by kernel_rfl),cg:=mg_none_of X G (by kernel_rfl),jX:=mg_none_of X G (by kernel_rfl),gk:=mg_none_of X G (by kernel_rfl),Lg:=mg_none_of X G (by kernel_rfl),gm:=mg_none_of X G (by kernel_rfl),gH:=mg_none_of X G (by kernel_rfl),za:=mg_none_of X G (by kernel_rfl),zb:=mg_none_of X G (by kernel_rfl),xD:=mg_none_of X G (by kernel_rfl),qk:=319,ql:=mg_of X G (by kernel_rfl)}
 refine⟨_,fun s v=>(?_:BindsTo s t.BW ⟨[v],[]⟩ [("_law_script",v)]),fun base _ _=>?_⟩
 ·exact .of_eq rfl
 have uS:= @Dh l.prog w (Kw w) mg base t
 have rC:= @AH l.prog w (Kw w) mg base t
 have dF:= @zr l.prog w (Kw w) mg base t
 have O4:= @JO l.prog w (Kw w) mg base t
 have bH:= @xJ l.prog w (Kw w) mg base t
 have n9:= @G4 l.prog w (Kw w) mg base t
 have aN:= @kN l.prog w (Kw w) mg base t
 have kh:= @uP l.prog w (Kw w) mg base t
 have Dk:= @AI l.prog w (Kw w) mg base t
 have gI:= @zt l.prog w (Kw w) mg base t
 have jz:= @sj l.prog w (Kw w) mg base t
 have jA:= @sy l.prog w (Kw w) mg base t
 have iM:= @rA l.prog w (Kw w) mg base t
 have lL:= @vz l.prog w (Kw w) mg base t
 have jB:= @sA l.prog w (Kw w) mg base t
 have jC:= @sC l.prog w (Kw w) mg base t
 have uK:= @Di l.prog w (Kw w) mg base t bH n9
 have mm:= @lI l.prog w (Kw w) mg base t bH aN
 have qr:= @Dj l.prog w (Kw w) mg base t dF aN
 have xK:= @G5 l.prog w (Kw w) mg base t bH
 have G6:= @O2 l.prog w (Kw w) mg base t dF
 have ki:= @uQ l.prog w (Kw w) mg base t kh
 have lJ:= @vA l.prog w (Kw w) mg base t iM
 have kj:= @uR l.prog w (Kw w) mg base t xK
 have nC:= @mj l.prog w (Kw w) mg base t ki
 have lK:= @vB l.prog w (Kw w) mg base t gI lJ
 have rD:= @AJ l.prog w (Kw w) mg base t uS qr kj
 have nA:= @xM l.prog w (Kw w) mg base t gI lK
 have iO:= @rB l.prog w (Kw w) mg base t rC G6 rD
 have TC:Hk (Kw w) mg 186:=⟨⟨ypg,yhd,ypo,ysa⟩,yn0,yn1,yn2,yn3,yn4,yn5,yn6,yn7,yn8,yn9,mg_of X G yC,t.xD,t.gk,t.jX⟩
 have⟨Zl,SV⟩:=LG (Kw w) (C:=186) (x:="__init__") (q:="Comb.__init__") (st:=Az) (f:=136) (c:=135) (m:=H.w3) (by kernel_rfl)
 have YB0:=Zl.binds (ps:=["self","n"]) (zu fun _ _ _ _ _ _ _ _=>rfl)
 have⟨Zm,Xs⟩:=LG (Kw w) (C:=186) (x:="number_of") (q:="Comb.number_of") (st:=Gq) (f:=143) (c:=142) (m:=H.w3) (by kernel_rfl)
 have T5:=Zm.binds (ps:=["self","row"]) (zu fun _ _ _ _ _ _ _ _=>rfl)
 have T6:=Xs
 have⟨Zn,Xu⟩:=LG (Kw w) (C:=186) (x:="without_first") (q:="Comb.without_first") (st:=Gs) (f:=150) (c:=149) (m:=H.w3) (by kernel_rfl)
 have YB2:=Zn.binds (ps:=["self","number","k"]) (LD fun _ _ _ _ _ _ _ _ _=>rfl)
 have YM2:=Xu
 have⟨Zo,Xv⟩:=LG (Kw w) (C:=186) (x:="with_last") (q:="Comb.with_last") (st:=Gv) (f:=157) (c:=156) (m:=H.w3) (by kernel_rfl)
 have YB3:=Zo.binds (ps:=["self","number","k"]) (LD fun _ _ _ _ _ _ _ _ _=>rfl)
 have YM3:=Xv
 have⟨Zp,Xw⟩:=LG (Kw w) (C:=186) (x:="slide") (q:="Comb.slide") (st:=Gw) (f:=164) (c:=163) (m:=H.w3) (by kernel_rfl)
 have YB4:=Zp.binds (ps:=["self","one","other"]) (LD fun _ _ _ _ _ _ _ _ _=>rfl)
 have YM4:=Xw
 have⟨Zq,Xx⟩:=LG (Kw w) (C:=186) (x:="slide_kept") (q:="Comb.slide_kept") (st:=Gx) (f:=171) (c:=170) (m:=H.w3) (by kernel_rfl)
 have YB5:=Zq.binds (ps:=["self","one","other"]) (LD fun _ _ _ _ _ _ _ _ _=>rfl)
 have YM5:=Xx
 have⟨Zr,Xy⟩:=LG (Kw w) (C:=186) (x:="put") (q:="Comb.put") (st:=Gy) (f:=178) (c:=177) (m:=H.w3) (by kernel_rfl)
 have YB6:=Zr.binds (ps:=["self","row"]) (zu fun _ _ _ _ _ _ _ _=>rfl)
 have YM6:=Xy
 have⟨Zs,Xz⟩:=LG (Kw w) (C:=186) (x:="form_told") (q:="Comb.form_told") (st:=B0) (f:=183) (c:=182) (m:=H.w3) (by kernel_rfl)
 have YB7:=Zs.binds (ps:=["self"]) (AL fun _ _ _ _ _ _ _=>rfl)
 have YM7:=Xz
 have T7:=Ov (P:=l.prog) (w:=w) (base:=base) Zm TC t uK n9 Dk Jz
 have YG2:=RT (P:=l.prog) (w:=w) (base:=base) Zn TC t T6 T5 T7 mm
 have YG3:=RV (P:=l.prog) (w:=w) (base:=base) Zo TC t T6 T5 T7 aN
 have YG4:=RW (P:=l.prog) (w:=w) (base:=base) Zp TC YM2 YB2 YG2 YM3 YB3 YG3
 have YG5:=R3 (P:=l.prog) (w:=w) (base:=base) Zq TC t YM4 YB4 YG4
 have YG6:=R7 (P:=l.prog) (w:=w) (base:=base) Zr TC T6 T5 T7 YM5 YB5 YG5
 have YG7:=Se (P:=l.prog) (w:=w) (base:=base) Zs TC
 have YG0:=Sg (P:=l.prog) (w:=w) (base:=base) Zl TC t T6 T5 T7 dF O4 (fun n hn=>jY n hn) (fun n hn=>JB n hn) JA lU
 have iN:=OP (P:=l.prog) (w:=w) (base:=base) TC ⟨_,_,_,_,_,_,⟨ymk,SV.1,SV.2,ykc⟩,YB0,YG0,YM6,YB6,YG6,YM7,YB7,YG7⟩ t nC
 have AK:= @JP l.prog w (Kw w) mg base t iN iO
 have SW:= @O3 l.prog w (Kw w) mg base t AK jz jA nA lL jB jC
 exact SW
theorem walk{l:PySem.W.OpenLaw}{q:Program}{loose:List Str}{XP:(Str->Option Value)->Heap->Prop}{YP:World->Heap->Prop}{d:DefRec}{K:Params->PySem.W.Frag}(hn:l.most=some 63)(Qu:d.params.defaults=[])
  (hY:∀(w:World)(h:Heap),YP w h->(K w.params).In h)
  (F:∀(w:World)(mg:Str->Option Value)(fa:Addr)(h:Heap),(K w.params).In h->h.Ns mainGlobals mg->mg d.name=some (.ref fa)->
   ∃fd:FuncData,(∀(s:Shared)(u:Value),BindsTo s fd ⟨[u],[]⟩ [("_law_script",u)])/\∀base:Heap,(K w.params).In base->base.Ns mainGlobals mg->bJ l.prog w (K w.params) mg base jH 11 fa fd ["_law_script"] (A8 (K w.params) Dt uC)):
  PySem.W.WalkO q loose XP YP l.row.toRowW d [] (fun f vs=>PySem.call f vs):=
 L2.HU (n:=63) (k:=11) (x:="_law_script") (CX:=fun _=>jH) (sp:=fun w=>A8 (K w.params) Dt uC) hn (by decide) Qu ⟨rfl,by decide,by decide⟩ hY F (fun w H a ns hl _ hS=>O1 ns hl hS) fun _ _ _ _ _ z=>z
end DL.ng
open PySem PySem.W PyProof.Rows
set_option maxRecDepth 100000 in
set_option maxHeartbeats 0 in
theorem PySem.Challenge.cw_braidcomb_k31_forms_are_sound_holds : PySem.Challenge.rw_braidcomb_k31_forms_are_sound.Holds := by
 w_on
 refine holds_law (l:=PySem.Challenge.rw_braidcomb_k31_forms_are_sound) (by kernel_rfl) fun said=>?_
 refine holds_open (q:=DL.ng.H.q) (Xt:=DL.ng.H.Xt) (XP:=XL DL.ng.H.q []) (Yf:=DL.ng.H.hk.obs) (Ya:=DL.ng.H.hk.val) (YP:=DL.ng.H.hk.says) DL.ng.H.left DL.ng.H.hk.of DL.ng.H.hk.keeps (fun s e=>xl_of s (Bool.and_eq_true_iff.mp e).1) XL.keeps (by rfl) (by rfl) (by rfl) (fun s e=>recFacts_of (Bool.and_eq_true_iff.mp e).2) (by rfl) said (by decide +kernel) ⟨rfl,rfl,rfl,rfl,rfl,by decide +kernel⟩ ?hw ?hc
 case hw=>w_witness2
 refine DL.ng.walk (l:=PySem.Challenge.rw_braidcomb_k31_forms_are_sound) rfl rfl (fun w h Y=>kIn_of Y) ?F
 case F=>
  intro w mg fa h KX G hmg
  have hh:=DL.ng.all_mk (l:=PySem.Challenge.rw_braidcomb_k31_forms_are_sound) ((DL.ng.LC w).symm▸KX) G hmg
  rw[DL.ng.LC w]at hh
  exact hh
