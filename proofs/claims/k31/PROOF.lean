import PyProof.Rows.All
import Wide.All
import OpenK.AllK
import Wide.FinOn
import Lean
import PyProof.EqAt
import PyProof.EqKinds
import PyProof.TupleCall
import PyProof.NeKinds
import PyProof.ListRange
import OpenK.KOwn
import KE.KTryMore
import KE.KSorted
import KE.KSort
import PyProof.Rows.SortWalk
import PyProof.SeqI3
import PyProof.Rows.SumAny
import PyProof.Rows.SeqMore2
import KE.KListMore
import PyProof.Rows.Range3
import PyProof.Cells
import KE.KTabLook
import PyProof.SliceStr2
import PyProof.StrBlockI
import PyProof.Rows.FStr
import PyProof.Rows.StrNews2
import PyProof.ListStr
import PyProof.Rows.StrStep
import PyProof.Rows.StrJoinStr
import PyProof.AutoSeq1
import PyProof.ListRange
import KE.KRevIter
import PyProof.CollectIter
import PyProof.FactsAll.range_iterator_1
import PyProof.Rows.RuleM_int
import PyProof.FactsAll.int_6
import OpenK.AllK
import PySem.Challenge.RW_braidcomb_k31_forms_are_sound
open PySem.W (instObj methodObj lookIn plainGet hasDictIn findIn handedIn plainGet_of isFn plainOver takerIn Looks makesIn typeIn emptyDict keepIn mroIn kitOne kia_one kitx_list kitx_tuple kitx_dict callWith_K methodCall_KW cellsFrom_some codeIn nsIn mg_of mg_none_of kIn_of)
open Nat (lt_of_lt_of_le ne_of_lt le_trans le_of_lt ne_of_gt zero_le le_of_eq lt_succ_self le_succ le_of_not_lt lt_trans zero_add sub_zero min_eq_left sub_self reduceAdd reduceSub reduceEqDiff ble)
open List (range mem_filter mem_range mem_cons_self mem_cons_of_mem mem_cons mem_append mem_append_left getElem?_set_self getElem?_set_ne mem_append_right size_toArray length_cons map_cons length_map append_nil nodup_cons of_mem_zip replicate length length_take getElem?_append_right getElem?_replicate getElem?_append_left getElem?_map mem_of_getElem? length_append length_replicate map_nil length_drop length_set reverse_cons replicate_succ flatten_cons foldl foldl_cons length_singleton length_reverse nil_append Pairwise find?_cons any_cons cons_append length_nil getElem_of_mem getElem?_eq_getElem dropLast_eq_take drop_zero drop_length lookup_cons not_mem_nil getElem?_reverse range' range'_succ length_range map_drop map_map map_append take_length take_of_length_le map_set map_reverse mem_singleton getElem?_eq_none reverse getElem_idxOf mem_reverse reverse_perm range_succ flatten_append mem_map mem_of_mem_take take_succ map pairwise_map Nodup sum_append sum_cons Perm length_zipIdx map_congr_left map_dropLast mem_of_getLast? foldl_append reverse_reverse getElem_mem)
open Array (toList)
open Option (isSome_iff_exists getD_none isSome_some map_some isSome_map)
open Int (toNat_natCast emod_nonneg emod_lt_of_pos)
open PySem.F (slot_dict_get entry_dict_get plainAttrs_list slot_list_pop type_list_pop slot_range_reversed slot_dict_len)
open Classical (propDecidable byContradiction)
open Bool (and_eq_true false_eq_true or_eq_true)
noncomputable section
set_option Elab.async false
set_option linter.all false
set_option maxRecDepth 100000
namespace L2
open PySem PySem.Spec PyProof.Rows
abbrev Key:=Sum Int Str
def vH:Key->Value->Bool
 |.inl k,v=>Value.isInt k v
 |.inr x,v=>Value.isStrOf x v
def Ub(w:World):Key->Int
 |.inl k=>hashInt k
 |.inr x=>hashStr w x
theorem bZ:∀{k:Key}{v:Value},vH k v=true->(∃i t,k=Sum.inl i/\v=Value.int i t)\/(∃x t,k=Sum.inr x/\v=Value.str x t)
 |.inl i,v,h=>by
  obtain⟨t,e⟩:=Value.isInt_shape (k:=i) (v:=v) h
  exact .inl ⟨i,t,rfl,e⟩
 |.inr x,v,h=>by
  obtain⟨t,e⟩:=Value.isStrOf_shape (x:=x) (v:=v) h
  exact .inr ⟨x,t,rfl,e⟩
theorem Co(i:Int)(t:Tok):vH (.inl i) (.int i t)=true:=by simp[vH,Value.isInt]
theorem Cp(x:Str)(t:Tok):vH (.inr x) (.str x t)=true:=by simp[vH,Value.isStrOf]
theorem LN(a b:Int):decide ((Sum.inl a:Key)=Sum.inl b)=(a==b):=by
 by_cases e:a=b
 ·subst e;simp
 ·have h:¬(Sum.inl a:Key)=Sum.inl b:=fun q=>e (Sum.inl.inj q)
  rw[decide_eq_false h]
  exact(beq_eq_false_iff_ne.mpr e).symm
theorem LO(a b:Str):decide ((Sum.inr a:Key)=Sum.inr b)=decide (a=b):=by
 by_cases e:a=b
 ·subst e;simp
 ·have h:¬(Sum.inr a:Key)=Sum.inr b:=fun q=>e (Sum.inr.inj q)
  rw[decide_eq_false h,decide_eq_false e]
theorem LP(a:Int)(b:Str):decide ((Sum.inl a:Key)=Sum.inr b)=false:=decide_eq_false (fun q=>nomatch q)
theorem LQ(a:Str)(b:Int):decide ((Sum.inr a:Key)=Sum.inl b)=false:=decide_eq_false (fun q=>nomatch q)
def cC(prog:Program)(w:World):PySem.KeyKind prog w Key where
 is:=vH
 hash:=Ub w
 inj:=fun v a b ha hb=>by
  rcases bZ ha with⟨i,t,rfl,rfl⟩|⟨x,t,rfl,rfl⟩
  ·rcases bZ hb with⟨j,u,rfl,e⟩|⟨y,u,rfl,e⟩
   ·injection e with e1 _;rw[e1]
   ·exact nomatch e
  ·rcases bZ hb with⟨j,u,rfl,e⟩|⟨y,u,rfl,e⟩
   ·exact nomatch e
   ·injection e with e1 _;rw[e1]
 byValue:=fun k v h=>by
  rcases bZ h with⟨i,t,rfl,rfl⟩|⟨x,t,rfl,rfl⟩<;>rfl
 pyHash:=fun hv h=>by
  rcases bZ hv with⟨i,t,rfl,rfl⟩|⟨x,t,rfl,rfl⟩
  ·exact wpAny_pyHash_int h
  ·exact wpAny_pyHash_str h
 eqBool:=fun hu hv h=>by
  rcases bZ hu with⟨i,t,rfl,rfl⟩|⟨x,t,rfl,rfl⟩
  ·rcases bZ hv with⟨j,u,rfl,rfl⟩|⟨y,u,rfl,rfl⟩
   ·rw[LN]at h;exact wpAny_eqBool_int h
   ·rw[LP]at h;exact SeqAt.EqAt.int_str i t y u _ _ _ _ h
  ·rcases bZ hv with⟨j,u,rfl,rfl⟩|⟨y,u,rfl,rfl⟩
   ·rw[LQ]at h;exact SeqAt.EqAt.str_int x t j u _ _ _ _ h
   ·rw[LO]at h;exact wpAny_eqBool_str h
 «strs»:=fun k x t v h=>by
  rcases bZ h with⟨i,u,rfl,e⟩|⟨y,u,rfl,e⟩
  ·exact nomatch e
  ·injection e with e1 _
   subst e1
   cases v<;>rfl
theorem xY(prog:Program)(w:World)(i:Int)(t:Tok):(cC prog w).is (.inl i) (.int i t)=true:=Co i t
theorem xZ(prog:Program)(w:World)(x:Str)(t:Tok):(cC prog w).is (.inr x) (.str x t)=true:=Cp x t
end L2
namespace L2
open PySem PySem.Spec PyProof.Rows
inductive V where
 |non|bl (b:Bool)|int (i:Int)|str (x:Str)|Dr (b:Array UInt8)|LR (b:UInt64)|ref (a:Addr)|ty (n:String)
 deriving DecidableEq
def RelV:V->Value->Prop
 |.non,u=>u=Value.none
 |.bl b,u=>u=Value.bool b
 |.int i,u=>∃t,u=Value.int i t
 |.str x,u=>∃t,u=Value.str x t
 |.Dr b,u=>∃t,u=Value.bytes b t
 |.LR b,u=>∃t,u=Value.float b t
 |.ref a,u=>u=Value.ref a
 |.ty n,u=>u=Value.type n
abbrev Vals:List V->List Value->Prop:=Paired RelV
theorem Vals.length {xs:List V}{us:List Value}(r:Vals xs us):xs.length=us.length:=Paired.length r
theorem Vals.get:∀{xs:List V}{us:List Value}{i:Nat}{x:V},Vals xs us->xs[i]?=some x->∃u,us[i]?=some u/\RelV x u
 |_,_,_,_,.nil,e=>by simp at e
 |_,_,0,_,.cons r _,e=>by simp at e;subst e;exact⟨_,rfl,r⟩
 |_,_,i+1,x,.cons _ t,e=>by
  obtain⟨u,h1,h2⟩:=Vals.get (i:=i) (x:=x) t (by simpa using e)
  exact⟨u,by simpa using h1,h2⟩
theorem Vals.set {x:V}{u:Value}(r:RelV x u):∀{xs:List V}{us:List Value}(i:Nat),Vals xs us->Vals (xs.set i x) (us.set i u)
 |_,_,_,.nil=>.nil
 |_,_,0,.cons _ t=>.cons r t
 |_,_,i+1,.cons q t=>.cons q (Vals.set r i t)
theorem Vals.append:∀{xs ys:List V}{us ws:List Value},Vals xs us->Vals ys ws->Vals (xs++ys) (us++ws)
 |_,_,_,_,.nil,s=>s
 |_,_,_,_,.cons r t,s=>.cons r (Vals.append t s)
theorem Vals.take:∀{xs:List V}{us:List Value}(n:Nat),Vals xs us->Vals (xs.take n) (us.take n)
 |_,_,0,_=>.nil
 |_,_,_+1,.nil=>.nil
 |_,_,n+1,.cons r t=>.cons r (Vals.take n t)
theorem Vals.drop:∀{xs:List V}{us:List Value}(n:Nat),Vals xs us->Vals (xs.drop n) (us.drop n)
 |_,_,0,r=>r
 |_,_,_+1,.nil=>.nil
 |_,_,n+1,.cons _ t=>Vals.drop n t
def lZ:Option V->Option Value->Prop
 |some v,some u=>RelV v u
 |none,none=>True
 |_,_=>False
def KV{κ:Type}:List (κ×V)->List (κ×Value)->Prop:=Paired fun(p:κ×V)(q:κ×Value)=>p.1=q.1/\RelV p.2 q.2
def kV:Key->V
 |.inl i=>.int i
 |.inr x=>.str x
inductive HO where
 |lst (xs:List V)
 |tup (xs:List V)
 |dK (kvs:List (Key×V))|dT (kvs:List (List Key×V))
 |set (S:Int->Bool) (n:Nat)
 |ins (C dx:Addr) (fs:List (Str×V))
 |own (x:Addr)
 |xd (fs:List (Str×V))
 |met (f x:Addr)
 |Uc (lo hi:Int)
 |u9 (o:Obj) (u:HO)
 |LS (ps:Array Value)
 |ext (φ:Heap->Prop)
abbrev Hp:=Addr->Option HO
def upd(H:Hp)(a:Addr)(o:HO):Hp:=fun b=>if b=a then some o else H b
theorem ak{H:Hp}{a:Addr}{o:HO}:upd H a o a=some o:=by unfold upd;rw[if_pos rfl]
theorem ah{H:Hp}{a b:Addr}{o:HO}(h:b≠a):upd H a o b=H b:=by unfold upd;rw[if_neg h]
theorem bz{H:Hp}{a b:Addr}{o u:HO}(h:H a=some o)(h':H b=some u)(d:o≠u):a≠b:=by
 intro e;subst e;rw[h]at h';exact d (Option.some.inj h')
theorem ao{H:Hp}{a b:Addr}{o:HO}(h:H a=some o)(h':H b=none):a≠b:=by
 intro e;subst e;rw[h]at h';cases h'
section
variable(P:Program)(w:World)
def cB(H:Hp)(h:Heap)(a:Addr):HO->Prop
 |.lst xs=>xs.length<=sizeLine/\∃(its:List Value)(n:Nat),Vals xs its/\h.get? a=some {cls:=.type "list",data:=.seq its.toArray n}
 |.tup xs=>xs.length<=sizeLine/\∃its:List Value,Vals xs its/\IsTup h a its.toArray
 |.dK kvs=>kvs.length<=sizeLine/\(a==sysModules)=false/\∃vs,KV kvs vs/\h.DictOf (cC P w) a vs
 |.dT kvs=>kvs.length<=sizeLine/\(a==sysModules)=false/\∃xs:List (List Key×Addr×Value),
   Paired (fun(p:List Key×V)(q:List Key×Addr×Value)=>p.1=q.1/\H q.2.1=some (.tup (p.1.map kV))/\RelV p.2 q.2.2) kvs xs/\
   ∃o es ep,h.get? a=some o/\o.ExactDict/\o.data=.dict es ep/\es.toList=xs.map (entryOfKey (tupleKind (cC P w)))/\(xs.map (·.1)).Nodup
 |.set S n=>h.SetOf (intKind P w) a S n
 |.ins C dx fs=>H dx=some (.own a)/\fs.length<=1000/\dx≠a/\h.get? a=some (instObj C dx)/\
   ∃mA,h.Ns1 dx mA/\(∀f,lZ (fs.lookup f) (mA f))/\PySem.Within mA (fs.map (·.1))
 |.own _=>∃o,h.get? a=some o
 |.xd fs=>∃mA,h.Ns1 a mA/\∀f,lZ (fs.lookup f) (mA f)
 |.Uc lo hi=>∃t u v,h.get? a=some {cls:=.type "range",data:=.fields #[.int lo t,.int hi u,.int 1 v]}
 |.u9 o u=>h.get? a=some o/\cB H h a u
 |.LS ps=>h.get? a=some {cls:=.none,data:=.fields ps}
 |.met f x=>h.get? a=some (methodObj (.ref f) (.ref x))
 |.ext φ=>φ h/\(∃o,h.get? a=some o)/\∀h1 h2:Heap,φ h1->(∀o,h1.get? a=some o->h2.get? a=some o)->φ h2
def nK(H:Hp)(h:Heap):Prop:=∀a o,H a=some o->cB P w H h a o
end
section
variable{P:Program}{w:World}{H H':Hp}{h h':Heap}{a:Addr}{o:HO}
theorem cB.lt (x:cB P w H h a o):a<h.objs.size:=by
 cases o with
 |lst xs=>obtain⟨_,_,_,_,e⟩:=x;exact Heap.lt_size e
 |tup xs=>obtain⟨_,_,_,p⟩:=x;exact p.lt
 |dK kvs=>obtain⟨_,_,_,_,o,_,_,e,_⟩:=x;exact Heap.lt_size e
 |dT kvs=>obtain⟨_,_,_,_,o,_,_,e,_⟩:=x;exact Heap.lt_size e
 |set S n=>obtain⟨o,_,_,_,e,_⟩:=x;exact Heap.lt_size e
 |ins C dx fs=>obtain⟨_,_,_,e,_⟩:=x;exact Heap.lt_size e
 |own y=>obtain⟨_,e⟩:=x;exact Heap.lt_size e
 |xd fs=>obtain⟨_,⟨_,_,_,e,_⟩,_⟩:=x;exact Heap.lt_size e
 |Uc lo hi=>obtain⟨_,_,_,e⟩:=x;exact Heap.lt_size e
 |u9 ob u=>obtain⟨e,_⟩:=x;exact Heap.lt_size e
 |LS ps=>exact Heap.lt_size (show h.get? a=some _ from x)
 |met f y=>exact Heap.lt_size (show h.get? a=some _ from x)
 |ext φ=>obtain⟨_,⟨_,e⟩,_⟩:=x;exact Heap.lt_size e
theorem Paired.LU {α β:Type}{F G:α->β->Prop}:∀{l₁:List α}{l₂:List β},Paired F l₁ l₂->(∀a b,F a b->G a b)->Paired G l₁ l₂
 |_,_,.nil,_=>.nil
 |_,_,.cons r t,f=>.cons (f _ _ r) (Paired.LU t f)
theorem cB.zE (x:cB P w H h a o)(k:∀b u,(b=a\/H b=some (.own a))->h.get? b=some u->h'.get? b=some u)
  (ho:∀b,H b=some (.own a)->H' b=some (.own a))(ht:∀b xs,H b=some (.tup xs)->H' b=some (.tup xs)):cB P w H' h' a o:=by
 induction o with
 |lst xs=>obtain⟨z,its,n,r,e⟩:=x;exact⟨z,its,n,r,k _ _ (.inl rfl) e⟩
 |tup xs=>obtain⟨z,its,r,ob,e,c⟩:=x;exact⟨z,its,r,ob,k _ _ (.inl rfl) e,c⟩
 |dK kvs=>obtain⟨z,y,vs,r,ob,es,ep,e,c⟩:=x;exact⟨z,y,vs,r,ob,es,ep,k _ _ (.inl rfl) e,c⟩
 |dT kvs=>
  obtain⟨z,y,xs,r,ob,es,ep,e,c⟩:=x
  exact⟨z,y,xs,Paired.LU r fun p q z=>⟨z.1,ht _ _ z.2.1,z.2.2⟩,ob,es,ep,k _ _ (.inl rfl) e,c⟩
 |set S n=>obtain⟨ob,es,ep,t,e,c⟩:=x;exact⟨ob,es,ep,t,k _ _ (.inl rfl) e,c⟩
 |ins C dx fs=>
  obtain⟨d,z,ne,e,mA,⟨od,es,ep,e2,c⟩,r⟩:=x
  exact⟨ho _ d,z,ne,k _ _ (.inl rfl) e,mA,⟨od,es,ep,k _ _ (.inr d) e2,c⟩,r⟩
 |own y=>obtain⟨ob,e⟩:=x;exact⟨ob,k _ _ (.inl rfl) e⟩
 |xd fs=>obtain⟨mA,⟨od,es,ep,e,c⟩,r⟩:=x;exact⟨mA,⟨od,es,ep,k _ _ (.inl rfl) e,c⟩,r⟩
 |Uc lo hi=>obtain⟨t,u,v,e⟩:=x;exact⟨t,u,v,k _ _ (.inl rfl) e⟩
 |u9 ob u ih=>obtain⟨e,q⟩:=x;exact⟨k _ _ (.inl rfl) e,ih q⟩
 |LS ps=>
  have e:h.get? a=some {cls:=.none,data:=.fields ps}:=x
  show h'.get? a=some {cls:=.none,data:=.fields ps}
  exact k a _ (.inl rfl) e
 |met f y=>
  have e:h.get? a=some (methodObj (.ref f) (.ref y)):=x
  show h'.get? a=some (methodObj (.ref f) (.ref y))
  exact k a _ (.inl rfl) e
 |ext φ=>obtain⟨p,⟨o,e⟩,st⟩:=x;exact⟨st _ _ p fun o q=>k _ _ (.inl rfl) q,⟨o,k _ _ (.inl rfl) e⟩,st⟩
theorem nK.lt (x:nK P w H h)(e:H a=some o):a<h.objs.size:=(x a o e).lt
theorem nK.fresh (x:nK P w H h)(e:h.objs.size<=a):H a=none:=by
 cases q:H a with
 |none=>rfl
 |some u=>exact absurd (lt_of_lt_of_le (x.lt q) e) (Nat.lt_irrefl _)
theorem nK.kept (x:nK P w H h)(k:∀b u,h.get? b=some u->h'.get? b=some u):nK P w H h':=fun a o e=>
 (x a o e).zE (fun b u _ q=>k b u q) (fun _ q=>q) fun _ _ q=>q
theorem nK.laid (x:nK P w H h)(k:∀b u,h.get? b=some u->h'.get? b=some u)(hp:h.objs.size<=a)(new:cB P w (upd H a o) h' a o):nK P w (upd H a o) h':=fun b u e=>by
 have hn:=x.fresh hp
 by_cases hb:b=a
 ·subst hb;rw[ak]at e;cases e;exact new
 ·rw[ah hb]at e
  exact(x b u e).zE (fun c v _ q=>k c v q) (fun c q=>by rw[ah (ao q hn)];exact q) fun c xs q=>by rw[ah (ao q hn)];exact q
end
def Rd(H:Hp)(a:Addr)(u:HO):Prop:=H a=some u\/∃o,H a=some (.u9 o u)
theorem Rd.ok {P:Program}{w:World}{H:Hp}{h:Heap}{a:Addr}{u:HO}(r:Rd H a u)(x:nK P w H h):cB P w H h a u:=by
 rcases r with r|⟨o,r⟩
 ·exact x a u r
 ·obtain⟨_,q⟩:=x a _ r
  exact q
def PQ:Option HO->Prop
 |some (.lst _)=>True
 |some (.dK _)=>True
 |some (.dT _)=>True
 |some (.set _ _)=>True
 |some (.ins _ _ _)=>True
 |some (.ext _)=>True
 |_=>False
section
variable{P:Program}{w:World}{H:Hp}{h h':Heap}{x e:Addr}{o':HO}
theorem nK.write (ok:nK P w H h)(mu:PQ (H x))(he:e=x\/H e=some (.own x))(k:∀b u,b≠e->h.get? b=some u->h'.get? b=some u)(Pb:∃u,h'.get? e=some u)
  (new:cB P w (upd H x o') h' x o'):nK P w (upd H x o') h':=fun b u q=>by
 have PR:∀c y,H c=some (.own y)->c≠x:=fun c y r z=>by subst z;rw[r]at mu;exact mu
 have Ud:∀c xs,H c=some (.tup xs)->c≠x:=fun c xs r z=>by subst z;rw[r]at mu;exact mu
 by_cases hb:b=x
 ·subst hb;rw[ak]at q;cases q;exact new
 ·rw[ah hb]at q
  by_cases LV:b=e
  ·have q':H b=some (.own x):=by
    rcases he with z|z
    ·exact absurd (LV.trans z) hb
    ·rw[LV];exact z
   rw[q]at q';cases q'
   obtain⟨v,hv⟩:=Pb
   exact⟨v,by rw[LV];exact hv⟩
  ·refine(ok b u q).zE (fun c v hc r=>k c v ?_ r) (fun c r=>by rw[ah (PR c b r)];exact r) fun c xs r=>by rw[ah (Ud c xs r)];exact r
   rcases hc with rfl|hc
   ·exact LV
   ·rintro rfl
    rcases he with z|z
    ·exact PR c b hc z
    ·rw[hc]at z;cases z;exact hb rfl
end
structure Un(fs ex:List Addr)(H H':Hp)(h h':Heap):Prop where
 keep:∀b o,h.get? b=some o->H b=none->b∉fs->b∉ex->h'.get? b=some o
 slot:∀b o,h.get? b=some o->H b=none->b∈fs->b∉ex->∃sl,h'.get? b=some {o with slots:=sl}
 free:∀b o,h.get? b=some o->H b=none->b∉ex->H' b=none
 there:∀b o,h.get? b=some o->b∉ex->∃o',h'.get? b=some o'
 tups:∀b xs,H b=some (.tup xs)->H' b=some (.tup xs)
 wG:∀b o u,H b=some (.u9 o u)->H' b=some (.u9 o u)
 x5:∀b ps,H b=some (.LS ps)->∃more,H' b=some (.LS (ps++more))
section
variable{fs XE ex S3:List Addr}{H H1 H2:Hp}{h h1 h2 h':Heap}{a x e:Addr}{o:HO}
theorem Un.any (u:Un fs ex H H1 h h1){b:Addr}{ob:Obj}(q:h.get? b=some ob)(n:H b=none)(hx:b∉ex):∃sl,h1.get? b=some {ob with slots:=sl}:=by
 by_cases hb:b∈fs
 ·exact u.slot b ob q n hb hx
 ·exact⟨ob.slots,u.keep b ob q n hb hx⟩
theorem Un.kept (k:∀b u,h.get? b=some u->h'.get? b=some u):Un fs ex H H h h':=
 ⟨fun b ob q _ _ _=>k b ob q,fun b ob q _ _ _=>⟨ob.slots,k b ob q⟩,fun _ _ _ n _=>n,fun b ob q _=>⟨ob,k b ob q⟩,fun _ _ q=>q,fun _ _ _ q=>q,fun _ ps q=>⟨#[],by rw[q];simp⟩⟩
theorem Un.refl:Un fs ex H H h h:=Un.kept fun _ _ q=>q
theorem Un.laid (k:∀b u,h.get? b=some u->h'.get? b=some u)(hp:h.objs.size<=a)(hn:H a=none):Un fs ex H (upd H a o) h h' where
 keep:=fun b u q _ _ _=>k b u q
 slot:=fun b u q _ _ _=>⟨u.slots,k b u q⟩
 free:=fun b u q n _=>by rw[ah (ne_of_lt (lt_of_lt_of_le (Heap.lt_size q) hp))];exact n
 there:=fun b u q _=>⟨u,k b u q⟩
 tups:=fun b xs q=>by rw[ah (ao q hn)];exact q
 wG:=fun b u xs q=>by rw[ah (ao q hn)];exact q
 x5:=fun b ps q=>⟨#[],by rw[ah (ao q hn),q];simp⟩
theorem Un.write (mu:PQ (H x))(he:e=x\/H e=some (.own x))(k:∀b u,b≠e->h.get? b=some u->h'.get? b=some u)(Pb:∃u,h'.get? e=some u):Un fs ex H (upd H x o) h h':=by
 have hx:∀b,H b=none->b≠x:=fun b n z=>by subst z;rw[n]at mu;exact mu
 have hb:∀b,H b=none->b≠e:=fun b n z=>by
  subst z
  rcases he with r|r
  ·exact hx b n r
  ·rw[n]at r;cases r
 have hm:∀b u,H b=some u->¬PQ (some u)->b≠x:=fun b u q nm z=>by subst z;rw[q]at mu;exact nm mu
 refine⟨fun b u q n _ _=>k b u (hb b n) q,fun b u q n _ _=>⟨u.slots,k b u (hb b n) q⟩,fun b u q n _=>by rw[ah (hx b n)];exact n,fun b u q _=>?_,
  fun b xs q=>by rw[ah (hm b _ q fun z=>z)];exact q,fun b u xs q=>by rw[ah (hm b _ q fun z=>z)];exact q,fun b ps q=>⟨#[],by rw[ah (hm b _ q fun z=>z),q];simp⟩⟩
 by_cases LV:b=e
 ·subst LV;exact Pb
 ·exact⟨u,k b u LV q⟩
end
def S4(h:Heap)(H:Hp):List Addr:=(range h.objs.size).filter fun a=>(H a).isSome
def wH(h:Heap)(H:Hp):Heap:=PySem.W.hideAll h (S4 h H)
theorem Cq(h:Heap)(H:Hp):(wH h H).objs.size=h.objs.size:=PySem.W.hideAll_size _ _
theorem DH{h:Heap}{H:Hp}{b:Addr}{o:Obj}(e:h.get? b=some o)(n:H b=none):(wH h H).get? b=some o:=
 PySem.W.hideAll_get _ e fun hm=>by
  have q:(H b).isSome=true:=(mem_filter.mp hm).2
  rw[n]at q;simp at q
theorem Hv{h:Heap}{H:Hp}{b:Addr}{o:Obj}(e:(wH h H).get? b=some o):h.get? b=some o/\H b=none:=by
 have e':h.get? b=some o:=PySem.W.of_hideAll (S4 h H) e
 refine⟨e',?_⟩
 cases q:H b with
 |none=>rfl
 |some x=>
  have hm:b∈S4 h H:=mem_filter.mpr ⟨mem_range.mpr (Heap.lt_size e'),by simp[q]⟩
  have z:(wH h H).get? b=none:=PySem.W.hideAll_none (S4 h H) hm
  rw[z]at e;cases e
def Hw(g h:Heap)(L:Addr):List (Addr×Obj):=(range h.objs.size).filterMap fun a=>if a=L\/(g.get? a).isSome=true then none else(h.get? a).map fun o=>(a,o)
def rest(g h:Heap)(L d:Addr):List (Addr×Obj):=(Hw g h L).filter fun p=>decide (p.1≠d)
end L2
namespace L2
open PySem PySem.Spec PyProof.Rows
structure Mod(K:PySem.W.Frag)(mg:Str->Option Value)(base:Heap):Prop where
 PU:K.In base
 glob:base.Ns mainGlobals mg
 blt:∃mb,base.Ns builtinsNs mb/\∀x:Str,x≠"__name__"->mb x=bootBuiltins x
 nolimit:base.NoLimit
structure Cx where
 prog:Program
 w:World
 K:PySem.W.Frag
 mg:Str->Option Value
 base:Heap
 A:Around
 N:List Str
 s₀:Shared
 H₀:Hp
 env:Env
 outer:List Env
 stack:List Env
 ex:List Addr
 fn:Str->Bool
 calm:Bool
 pn:List (Addr×Obj)
 xe:Value->Shared->Prop
def xR(l:List Env):List Addr:=l.filterMap (·.frame)
abbrev Cx.fs (X:Cx):List Addr:=xR X.outer
def vI(sc:Scope)(x:Str):Prop:=sc.names.lookup x=some .local\/sc.names.lookup x=some .cell\/sc.names.lookup x=some .free
def Loc(sc:Scope)(x:Str):Prop:=sc.names.lookup x=some .local\/sc.names.lookup x=some .cell
def Look(env:Env)(h:Heap)(m:Str->Option Value)(x:Str)(u:Value):Prop:=
 (env.kindOf x=some .local/\m x=some u)\/((env.kindOf x=some .cell\/env.kindOf x=some .free)/\∃c,env.cells.lookup x=some c/\h.IsCell c (some u))
structure Cx.Ok (X:Cx):Prop where
 mod:Mod X.K X.mg X.base
 kind:X.env.scope.kind=.function
 glob:X.env.globals=mainGlobals
 blt:X.env.builtins=builtinsNs
 above:X.s₀.heap.objs.size<=X.env.locals
 inj:∀x y c,X.env.cells.lookup x=some c->X.env.cells.lookup y=some c->x=y
 has:∀x,(X.env.kindOf x=some .cell\/X.env.kindOf x=some .free)->∃c,X.env.cells.lookup x=some c
 LW:∀x c,X.fn x=true->X.env.cells.lookup x=some c->X.s₀.heap.objs.size<=c
 hd:X.calm=true->X.A.handled=none
 frames:X.A.frames=some X.stack
 Pd:X.stack=X.outer\/(X.stack=X.env::X.outer/\X.env.frame=some X.env.locals)
 LX:∀b∈X.ex,b≠X.env.locals/\∀x c,X.env.cells.lookup x=some c->c≠b
 bs:∀b o,X.base.get? b=some o->X.s₀.heap.get? b=some o/\X.H₀ b=none
 Cr:X.base.objs.size<=X.s₀.heap.objs.size
 x6:∀b o,X.base.get? b=some o->b∉X.ex
 wI:∀b∈X.ex,b∉X.fs
 pA:X.s₀.heap.FunFrames X.base X.outer
 Hz:∀b∈X.fs,X.H₀ b=none
structure Inv(X:Cx)(pins:List (Addr×Obj))(σ:List (Option V))(H:Hp)(s:Shared):Prop where
 ok:X.Ok
 os:s.os=X.s₀.os
 bare:AllBare s.gens
 base:Un X.fs X.ex X.H₀ H X.s₀.heap s.heap
 loc:∃m,s.heap.Ns X.env.locals m/\∀(i:Nat)(x:Str)(v:V),X.N[i]?=some x->σ[i]?=some (some v)->vI X.env.scope x->∃u,RelV v u/\Look X.env s.heap m x u
 cell:∀x c,X.env.cells.lookup x=some c->∃v,s.heap.IsCell c v
 free:H X.env.locals=none
 mB:∀x c,X.env.cells.lookup x=some c->H c=none
 pin:∀p∈X.pn++pins,s.heap.get? p.1=some p.2/\H p.1=none/\p.1≠X.env.locals/\p.1∉X.fs/\∀v,p.2.data≠.cell v
 hok:nK X.prog X.w H s.heap
 len:σ.length=X.N.length
section
variable{X:Cx}{pins:List (Addr×Obj)}{σ:List (Option V)}{H H':Hp}{s:Shared}{h':Heap}
theorem Cx.Ok.Ue (ok:X.Ok){b:Addr}{o:Obj}(e:X.base.get? b=some o):b∉X.fs:=fun hb=>by
 have:=(ok.pA.mem hb).1
 rw[e]at this;cases this
theorem Inv.bs (I:Inv X pins σ H s):∀b o,X.base.get? b=some o->s.heap.get? b=some o/\H b=none:=fun b o e=>
 ⟨I.base.keep b o (I.ok.bs b o e).1 (I.ok.bs b o e).2 (I.ok.Ue e) (I.ok.x6 b o e),I.base.free b o (I.ok.bs b o e).1 (I.ok.bs b o e).2 (I.ok.x6 b o e)⟩
theorem Inv.bk (I:Inv X pins σ H s):∀b o,X.base.get? b=some o->s.heap.get? b=some o:=fun b o e=>(I.bs b o e).1
theorem Inv.mod (I:Inv X pins σ H s):Mod X.K X.mg X.base:=I.ok.mod
theorem Inv.qx (I:Inv X pins σ H s):X.K.In s.heap:=I.ok.mod.PU.keeps I.bk
theorem Inv.lt (I:Inv X pins σ H s):X.env.locals<s.heap.objs.size:=let⟨_,hn,_⟩:=I.loc;hn.lt
theorem Inv.sz (I:Inv X pins σ H s):X.s₀.heap.objs.size<=s.heap.objs.size:=le_trans I.ok.above (le_of_lt I.lt)
theorem Inv.Ug (I:Inv X pins σ H s){a:Addr}(h:s.heap.objs.size<=a):a∉X.fs:=fun hb=>by
 obtain⟨_,o,ho,_⟩:=I.ok.pA.mem hb
 exact absurd (lt_of_lt_of_le (Heap.lt_size ho) (le_trans I.sz h)) (Nat.lt_irrefl _)
theorem Inv.LY (I:Inv X pins σ H s):∀x c,X.env.cells.lookup x=some c->c≠X.env.locals:=fun x c e z=>by
 obtain⟨v,o,ho,hd⟩:=I.cell x c e
 obtain⟨m,⟨o',es,ep,LZ,HA,_⟩,_⟩:=I.loc
 rw[z,LZ]at ho;cases ho;rw[HA]at hd;cases hd
theorem Inv.pA (I:Inv X pins σ H s):s.heap.FunFrames X.base X.outer:=by
 have all:∀(l:List Env),(∀b∈xR l,b∈X.fs)->X.s₀.heap.FunFrames X.base l->s.heap.FunFrames X.base l:=by
  intro l
  induction l with
  |nil=>intro _ _;trivial
  |cons env r ih=>
   intro hs hl
   obtain⟨hk,⟨L,o,hf,hn,ho,hd⟩,hr⟩:=hl
   have hL:L∈X.fs:=hs L (by unfold xR;rw[List.filterMap_cons,hf];exact mem_cons_self)
   obtain⟨sl,e⟩:=I.base.slot L o ho (I.ok.Hz L hL) hL fun z=>I.ok.wI L z hL
   exact⟨hk,⟨L,_,hf,hn,e,hd⟩,ih (fun b hb=>hs b (by unfold xR;rw[List.filterMap_cons,hf];exact mem_cons_of_mem _ hb)) hr⟩
 exact all X.outer (fun _ hb=>hb) I.ok.pA
theorem Inv.stack (I:Inv X pins σ H s):s.heap.FunFrames X.base X.stack:=by
 rcases I.ok.Pd with e|⟨e,hf⟩
 ·rw[e];exact I.pA
 ·rw[e]
  obtain⟨m,hn,_⟩:=I.loc
  refine .cons (by rw[I.ok.kind];decide) hf hn ?_ I.pA
  exact Heap.get?_none_of_le (le_trans I.ok.Cr I.ok.above)
theorem Inv.qy (I:Inv X pins σ H s):∀b∈xR X.stack,b∈X.env.locals::X.fs:=fun b hb=>by
 rcases I.ok.Pd with e|⟨e,hf⟩
 ·rw[e]at hb;exact mem_cons_of_mem _ hb
 ·rw[e]at hb
  unfold xR at hb
  rw[List.filterMap_cons,hf]at hb
  exact hb
theorem Inv.wJ (I:Inv X pins σ H s):∀b∈xR X.stack,H b=none:=fun b hb=>by
 rcases mem_cons.mp (I.qy b hb)with e|hb
 ·rw[e];exact I.free
 ·obtain⟨_,o,ho,_⟩:=I.ok.pA.mem hb
  exact I.base.free b o ho (I.ok.Hz b hb) fun z=>I.ok.wI b z hb
theorem Inv.step {g':Array GenState}{t':Nat}{d':Drawn}{ch:List Addr}(I:Inv X pins σ H s)
  (hch:∀b∈ch,(b∈X.ex\/X.s₀.heap.objs.size<=b)/\b≠X.env.locals/\(∀x c,X.env.cells.lookup x=some c->c≠b)/\∀p∈X.pn++pins,p.1≠b)
  (keep:∀b o,b≠X.env.locals->b∉X.fs->b∉ch->s.heap.get? b=some o->H b=none->h'.get? b=some o)
  (slot:∀b o,b≠X.env.locals->b∈X.fs->b∉ch->s.heap.get? b=some o->H b=none->∃sl,h'.get? b=some {o with slots:=sl})(free:∀b o,b∉ch->s.heap.get? b=some o->H b=none->H' b=none)
  (there:∀b o,b∉ch->s.heap.get? b=some o->∃o',h'.get? b=some o')
  (tups:∀b xs,H b=some (.tup xs)->H' b=some (.tup xs))(wG:∀b o u,H b=some (.u9 o u)->H' b=some (.u9 o u))(x5:∀b ps,H b=some (.LS ps)->∃more,H' b=some (.LS (ps++more)))
  (ns:∀m,s.heap.Ns X.env.locals m->h'.Ns X.env.locals m)(hok:nK X.prog X.w H' h')(hg:AllBare g'):
  Inv X pins σ H' {s with heap:=h',gens:=g',drawn:=d',toks:=t'}:=by
 have XF:∀b o,X.s₀.heap.get? b=some o->b≠X.env.locals:=fun b o e=>ne_of_lt (lt_of_lt_of_le (Heap.lt_size e) I.ok.above)
 have S5:∀b o,X.s₀.heap.get? b=some o->b∉X.ex->b∉ch:=fun b o e hx hb=>by
  rcases(hch b hb).1 with z|z
  ·exact hx z
  ·exact absurd (lt_of_lt_of_le (Heap.lt_size e) z) (Nat.lt_irrefl _)
 have cellK:∀x c,X.env.cells.lookup x=some c->∀v,s.heap.IsCell c v->h'.IsCell c v:=fun x c e v ⟨o,ho,hd⟩=>by
  have PV:c∉ch:=fun z=>(hch c z).2.2.1 x c e rfl
  by_cases hc:c∈X.fs
  ·obtain⟨sl,q⟩:=slot c o (I.LY x c e) hc PV ho (I.mB x c e)
   exact⟨_,q,hd⟩
  ·exact⟨o,keep c o (I.LY x c e) hc PV ho (I.mB x c e),hd⟩
 refine⟨I.ok,I.os,hg,⟨fun b o e n hb hx=>?_,fun b o e n hb hx=>?_,fun b o e n hx=>?_,fun b o e hx=>?_,fun b xs e=>tups b xs (I.base.tups b xs e),fun b o xs e=>wG b o xs (I.base.wG b o xs e),fun b ps e=>?_⟩,?_,fun x c e=>?_,?_,fun x c e=>?_,fun p hp=>?_,hok,I.len⟩
 ·exact keep b o (XF b o e) hb (S5 b o e hx) (I.base.keep b o e n hb hx) (I.base.free b o e n hx)
 ·obtain⟨sl,e1⟩:=I.base.slot b o e n hb hx
  obtain⟨Zw,e2⟩:=slot b _ (XF b o e) hb (S5 b o e hx) e1 (I.base.free b o e n hx)
  exact⟨Zw,e2⟩
 ·obtain⟨o',e1⟩:=I.base.there b o e hx
  exact free b o' (S5 b o e hx) e1 (I.base.free b o e n hx)
 ·obtain⟨o',e1⟩:=I.base.there b o e hx
  exact there b o' (S5 b o e hx) e1
 ·obtain⟨m1,e1⟩:=I.base.x5 b ps e
  obtain⟨m2,e2⟩:=x5 b _ e1
  exact⟨m1++m2,by rw[e2,Array.append_assoc]⟩
 ·obtain⟨m,hn,hl⟩:=I.loc
  refine⟨m,ns m hn,fun i x v e1 e2 e3=>?_⟩
  obtain⟨u,r,l⟩:=hl i x v e1 e2 e3
  refine⟨u,r,?_⟩
  rcases l with l|⟨k,c,e,z⟩
  ·exact .inl l
  ·exact .inr ⟨k,c,e,cellK x c e _ z⟩
 ·obtain⟨v,z⟩:=I.cell x c e
  exact⟨v,cellK x c e v z⟩
 ·obtain⟨m,⟨o,_,_,ho,_⟩,_⟩:=I.loc
  exact free _ o (fun z=>(hch _ z).2.1 rfl) ho I.free
 ·obtain⟨v,o,ho,hd⟩:=I.cell x c e
  exact free c o (fun z=>(hch c z).2.2.1 x c e rfl) ho (I.mB x c e)
 ·obtain⟨e,n,ne,nf,d⟩:=I.pin p hp
  have PV:p.1∉ch:=fun z=>(hch p.1 z).2.2.2 p hp rfl
  exact⟨keep p.1 p.2 ne nf PV e n,free p.1 p.2 PV e n,ne,nf,d⟩
theorem Inv.un {t':Nat}(I:Inv X pins σ H s)(u:Un X.fs [] H H' s.heap h')(hok:nK X.prog X.w H' h'):Inv X pins σ H' {s with heap:=h',toks:=t'}:=by
 obtain⟨m,⟨o,es,ep,ho,r⟩,_⟩:=id I.loc
 obtain⟨sl,hL⟩:=u.any ho I.free (by simp)
 exact I.step (g':=s.gens) (d':=s.drawn) (ch:=[]) (fun _ z=>nomatch z) (fun b o _ hb _ e n=>u.keep b o e n hb (by simp)) (fun b o _ hb _ e n=>u.slot b o e n hb (by simp)) (fun b o _ e n=>u.free b o e n (by simp)) (fun b o _ e=>u.there b o e (by simp)) u.tups u.wG u.x5 (fun m' hm=>by
  obtain⟨o',Uh,Ui,LZ,r'⟩:=hm
  rw[ho]at LZ;cases LZ
  exact⟨_,Uh,Ui,hL,r'⟩) hok I.bare
theorem Inv.call {g':Array GenState}{t':Nat}{d':Drawn}{ch:List Addr}(I:Inv X pins σ H s)(u:Un (xR X.stack) ch H H' s.heap h')(hok:nK X.prog X.w H' h')(hg:AllBare g')
  (hch:∀b∈ch,(b∈X.ex\/X.s₀.heap.objs.size<=b)/\b≠X.env.locals/\(∀x c,X.env.cells.lookup x=some c->c≠b)/\∀p∈X.pn++pins,p.1≠b):
  Inv X pins σ H' {s with heap:=h',gens:=g',drawn:=d',toks:=t'}:=by
 obtain⟨m,⟨o,es,ep,ho,r⟩,_⟩:=id I.loc
 obtain⟨sl,hL⟩:=u.any ho I.free fun z=>(hch _ z).2.1 rfl
 exact I.step (ch:=ch) hch (fun b o hL hb hc e n=>u.keep b o e n (fun z=>(mem_cons.mp (I.qy b z)).elim hL hb) hc) (fun b o _ _ hc e n=>u.any e n hc) (fun b o hc e n=>u.free b o e n hc) (fun b o hc e=>u.there b o e hc) u.tups u.wG u.x5 (fun m' hm=>by
  obtain⟨o',Uh,Ui,LZ,r'⟩:=hm
  rw[ho]at LZ;cases LZ
  exact⟨_,Uh,Ui,hL,r'⟩) hok hg
theorem Inv.turned {t':Nat}{it:Addr}(I:Inv X pins σ H s)(k:∀b o,b≠it->s.heap.get? b=some o->h'.get? b=some o)(hn:H it=none)(hL:it≠X.env.locals)
  (h1:it∈X.ex\/X.s₀.heap.objs.size<=it)(h2:∀x c,X.env.cells.lookup x=some c->c≠it)(h3:∀p∈X.pn++pins,p.1≠it):Inv X pins σ H {s with heap:=h',toks:=t'}:=by
 have XG:∀b u,H b=some u->b≠it:=fun b u e z=>by rw[z,hn]at e;cases e
 refine I.step (g':=s.gens) (d':=s.drawn) (ch:=[it]) (fun b hb=>?_) (fun b o _ _ hc e _=>k b o (fun z=>hc (by simp[z])) e) (fun b o _ _ hc e _=>⟨o.slots,k b o (fun z=>hc (by simp[z])) e⟩) (fun _ _ _ _ n=>n)
  (fun b o hc e=>⟨o,k b o (fun z=>hc (by simp[z])) e⟩) (fun _ _ e=>e) (fun _ _ _ e=>e) (fun b ps e=>⟨#[],by rw[e];simp⟩) (fun m hm=>?_) (fun b u e=>?_) I.bare
 ·have e:b=it:=by simpa using hb
  subst e
  exact⟨h1,hL,h2,h3⟩
 ·obtain⟨o,es,ep,ho,r⟩:=hm
  exact⟨o,es,ep,k _ o (Ne.symm hL) ho,r⟩
 ·refine(I.hok b u e).zE (fun c v hc q=>k c v ?_ q) (fun _ q=>q) fun _ _ q=>q
  rcases hc with z|z
  ·rw[z];exact XG b u e
  ·exact XG c _ z
theorem Inv.tok (I:Inv X pins σ H s)(t:Nat):Inv X pins σ H {s with toks:=t}:=I.un (h':=s.heap) (t':=t) Un.refl I.hok
theorem Inv.kept {t':Nat}(I:Inv X pins σ H s)(k:∀b u,s.heap.get? b=some u->h'.get? b=some u):Inv X pins σ H {s with heap:=h',toks:=t'}:=I.un (Un.kept k) (I.hok.kept k)
theorem Inv.laid {a:Addr}{o:HO}{t':Nat}(I:Inv X pins σ H s)(k:∀b u,s.heap.get? b=some u->h'.get? b=some u)(hp:s.heap.objs.size<=a)(new:cB X.prog X.w (upd H a o) h' a o):
  Inv X pins σ (upd H a o) {s with heap:=h',toks:=t'}:=I.un (Un.laid k hp (I.hok.fresh hp)) (I.hok.laid k hp new)
theorem Inv.write {x e:Addr}{o:HO}{t':Nat}(I:Inv X pins σ H s)(mu:PQ (H x))(he:e=x\/H e=some (.own x))(k:∀b u,b≠e->s.heap.get? b=some u->h'.get? b=some u)(Pb:∃u,h'.get? e=some u)
  (new:cB X.prog X.w (upd H x o) h' x o):Inv X pins σ (upd H x o) {s with heap:=h',toks:=t'}:=I.un (Un.write mu he k Pb) (I.hok.write mu he k Pb new)
theorem Inv.AS {JV:List (Addr×Obj)}(I:Inv X pins σ H s)(h:∀p∈JV,s.heap.get? p.1=some p.2/\H p.1=none/\p.1≠X.env.locals/\p.1∉X.fs/\∀v,p.2.data≠.cell v):Inv X JV σ H s:=
 ⟨I.ok,I.os,I.bare,I.base,I.loc,I.cell,I.free,I.mB,fun p hp=>(mem_append.mp hp).elim (fun z=>I.pin p (mem_append_left _ z)) (h p),I.hok,I.len⟩
theorem x8{N:List Str}(hN:N.Nodup){i j:Nat}{x:Str}(a:N[i]?=some x)(b:N[j]?=some x):i=j:=by
 obtain⟨h1,e1⟩:=List.getElem?_eq_some_iff.mp a
 obtain⟨h2,e2⟩:=List.getElem?_eq_some_iff.mp b
 exact(List.getElem_inj hN).mp (e1.trans e2.symm)
theorem Cs{M:Model}{A:Around}{E:Value->Shared->Prop}{i:Nat}{x:Str}{v:V}{u:Value}{Q:Unit->Shared->Prop}(I:Inv X pins σ H s)(hN:X.N.Nodup)(hi:X.N[i]?=some x)(hx:Loc X.env.scope x)(r:RelV v u)
  (h:∀s',Inv X pins (σ.set i (some v)) H s'->(∃a,Heap.SameBut a s.heap s'.heap/\(a=X.env.locals\/X.env.cells.lookup x=some a))->Q () s')(hf:X.fn x=true\/X.env.scope.names.lookup x=some .local:=by first|exact .inl rfl|exact .inr rfl|assumption):wpAny M A (storeName X.env x u) Q E s:=by
 obtain⟨m,hn,hl⟩:=id I.loc
 have hcls:(X.env.scope.kind==.class||(X.env.scope.kind==.module&&X.env.locals !=X.env.globals))=false:=by rw[I.ok.kind];rfl
 have XH:i<σ.length:=by rw[I.len];exact(List.getElem?_eq_some_iff.mp hi).1
 have LY:=I.LY
 have tracked:∀{a:Addr}{h':Heap},(∃o,s.heap.get? a=some o/\H a=none)->Heap.SameBut a s.heap h'->nK X.prog X.w H h':=fun{a h'} ha hs b ob e=>by
  obtain⟨_,_,hfree⟩:=ha
  refine(I.hok b ob e).zE (fun c w' hc q=>(hs.2 c ?_).trans q) (fun _ q=>q) fun _ _ q=>q
  rintro rfl
  rcases hc with rfl|hc
  ·rw[hfree]at e;cases e
  ·rw[hfree]at hc;cases hc
 rcases hx with hk|hk
 ·refine wpAny_storeName_local hk hn (fun h' Zx hs=>?_) hcls
  obtain⟨oL,_,_,Zy,_⟩:=id hn
  refine h _ ⟨I.ok,I.os,I.bare,⟨fun b o e n hb hx=>?_,fun b o e n hb hx=>?_,I.base.free,fun b o e hx=>?_,I.base.tups,I.base.wG,I.base.x5⟩,⟨_,Zx,fun j y v' e1 e2 e3=>?_⟩,fun y c e=>?_,I.free,I.mB,fun p hp=>?_,tracked ⟨oL,Zy,I.free⟩ hs,by simpa using I.len⟩ ⟨_,hs,.inl rfl⟩
  ·exact(hs.2 b (ne_of_lt (lt_of_lt_of_le (Heap.lt_size e) I.ok.above))).trans (I.base.keep b o e n hb hx)
  ·obtain⟨sl,e1⟩:=I.base.slot b o e n hb hx
   exact⟨sl,(hs.2 b (ne_of_lt (lt_of_lt_of_le (Heap.lt_size e) I.ok.above))).trans e1⟩
  ·obtain⟨o',e1⟩:=I.base.there b o e hx
   exact⟨o',(hs.2 b (ne_of_lt (lt_of_lt_of_le (Heap.lt_size e) I.ok.above))).trans e1⟩
  ·by_cases hj:j=i
   ·subst hj
    rw[hi]at e1;cases e1
    rw[getElem?_set_self XH]at e2
    cases e2
    exact⟨u,r,.inl ⟨hk,by simp⟩⟩
   ·rw[getElem?_set_ne (Ne.symm hj)]at e2
    obtain⟨u',r',q⟩:=hl j y v' e1 e2 e3
    refine⟨u',r',?_⟩
    rcases q with⟨k,e⟩|⟨k,c,e,z⟩
    ·refine .inl ⟨k,?_⟩
     have:y≠x:=fun e=>hj (x8 hN e1 (e▸hi))
     simp[this,e]
    ·exact .inr ⟨k,c,e,z.sameBut hs (LY y c e)⟩
  ·obtain⟨w',z⟩:=I.cell y c e
   exact⟨w',z.sameBut hs (LY y c e)⟩
  ·obtain⟨e,n,ne,nf,d⟩:=I.pin p hp
   exact⟨(hs.2 p.1 ne).trans e,n,ne,nf,d⟩
 ·have hfn:X.fn x=true:=by
   rcases hf with z|z
   ·exact z
   ·rw[z]at hk;cases hk
  obtain⟨c,hc⟩:=I.ok.has x (.inl hk)
  obtain⟨w',z⟩:=I.cell x c hc
  refine wpAny_storeName_cell I.ok.kind hk hc z (fun h' AU hs=>?_)
  obtain⟨oc,hoc,Uj⟩:=id z
  refine h {s with heap:=h'} ⟨I.ok,I.os,I.bare,⟨fun b o e n hb hx=>?_,fun b o e n hb hx=>?_,I.base.free,fun b o e hx=>?_,I.base.tups,I.base.wG,I.base.x5⟩,⟨m,hn.sameBut hs (Ne.symm (LY x c hc)),fun j y v' e1 e2 e3=>?_⟩,fun y c' e=>?_,I.free,I.mB,fun p hp=>?_,tracked ⟨oc,hoc,I.mB x c hc⟩ hs,by simpa using I.len⟩ ⟨c,hs,.inr hc⟩
  ·exact(hs.2 b (ne_of_lt (lt_of_lt_of_le (Heap.lt_size e) (I.ok.LW x c hfn hc)))).trans (I.base.keep b o e n hb hx)
  ·obtain⟨sl,e1⟩:=I.base.slot b o e n hb hx
   exact⟨sl,(hs.2 b (ne_of_lt (lt_of_lt_of_le (Heap.lt_size e) (I.ok.LW x c hfn hc)))).trans e1⟩
  ·obtain⟨o',e1⟩:=I.base.there b o e hx
   exact⟨o',(hs.2 b (ne_of_lt (lt_of_lt_of_le (Heap.lt_size e) (I.ok.LW x c hfn hc)))).trans e1⟩
  ·by_cases hj:j=i
   ·subst hj
    rw[hi]at e1;cases e1
    rw[getElem?_set_self XH]at e2
    cases e2
    exact⟨u,r,.inr ⟨.inl hk,c,hc,AU⟩⟩
   ·rw[getElem?_set_ne (Ne.symm hj)]at e2
    obtain⟨u',r',q⟩:=hl j y v' e1 e2 e3
    refine⟨u',r',?_⟩
    rcases q with q|⟨k,c',e,z'⟩
    ·exact .inl q
    ·refine .inr ⟨k,c',e,z'.sameBut hs ?_⟩
     rintro rfl
     exact hj (x8 hN e1 (I.ok.inj _ _ _ e hc▸hi))
  ·by_cases hcc:c'=c
   ·subst hcc;exact⟨_,AU⟩
   ·obtain⟨w2,z2⟩:=I.cell y c' e
    exact⟨w2,z2.sameBut hs hcc⟩
  ·obtain⟨e,n,ne,nf,d⟩:=I.pin p hp
   refine⟨(hs.2 p.1 ?_).trans e,n,ne,nf,d⟩
   intro q
   rw[q,hoc]at e
   have q':oc=p.2:=Option.some.inj e
   exact d w' (by rw[<-q'];exact Uj)
theorem tw{M:Model}{A:Around}{E:Value->Shared->Prop}{i:Nat}{x:Str}{v:V}{u:Value}{Q:Unit->Shared->Prop}(I:Inv X pins σ H s)(hN:X.N.Nodup)(hi:X.N[i]?=some x)(hx:Loc X.env.scope x)(r:RelV v u)
  (h:∀s',Inv X pins (σ.set i (some v)) H s'->Q () s')(hf:X.fn x=true\/X.env.scope.names.lookup x=some .local:=by first|exact .inl rfl|exact .inr rfl|assumption):wpAny M A (storeName X.env x u) Q E s:=
 Cs I hN hi hx r (fun s' I' _=>h s' I') hf
theorem Inv.DI {s':Shared}{ch:List Addr}(I:Inv X pins σ H s)(ho:s'.os=s.os)(u:Un (xR X.stack) ch H H' s.heap s'.heap)(hok:nK X.prog X.w H' s'.heap)(hg:AllBare s'.gens)
  (hch:∀b∈ch,(b∈X.ex\/X.s₀.heap.objs.size<=b)/\b≠X.env.locals/\(∀x c,X.env.cells.lookup x=some c->c≠b)/\∀p∈X.pn++pins,p.1≠b):Inv X pins σ H' s':=by
 obtain⟨h',g',d',t',o'⟩:=s'
 have e:o'=s.os:=ho
 subst e
 exact I.call (g':=g') (t':=t') (d':=d') u hok hg hch
end
abbrev XK:=Value->Option Addr->Hp->Prop
abbrev St:=List (Option V)
abbrev VK:=V->Hp->Prop
abbrev TE:=St->Hp->VK->Prop
abbrev TT:=St->Hp->(Bool->Hp->Prop)->Prop
abbrev TA:=St->Hp->(List V->Hp->Prop)->Prop
structure Ends where
 nx:St->Hp->Prop
 rt:VK
 bk:St->Hp->Prop:=fun _ _=>False
 ct:St->Hp->Prop:=fun _ _=>False
abbrev TS:=Ends->St->Hp->Prop
def EP(X:Cx)(pins:List (Addr×Obj))(σ:St)(Q:VK)(u:Value)(s':Shared):Prop:=∃v H',Inv X pins σ H' s'/\RelV v u/\Q v H'
def TP(X:Cx)(pins:List (Addr×Obj))(σ:St)(Q:Bool->Hp->Prop)(b:Bool)(s':Shared):Prop:=∃H',Inv X pins σ H' s'/\Q b H'
def AP(X:Cx)(pins:List (Addr×Obj))(σ:St)(Q:List V->Hp->Prop)(us:List Value)(s':Shared):Prop:=∃vs H',Inv X pins σ H' s'/\Vals vs us/\Q vs H'
def SP(X:Cx)(pins:List (Addr×Obj))(D:Ends)(f:Flow)(s':Shared):Prop:=
 match f with
 |.next=>∃σ' H',Inv X pins σ' H' s'/\D.nx σ' H'
 |.brk=>∃σ' H',Inv X pins σ' H' s'/\D.bk σ' H'
 |.cont=>∃σ' H',Inv X pins σ' H' s'/\D.ct σ' H'
 |.ret u=>∃v σ' H',Inv X pins σ' H' s'/\RelV v u/\D.rt v H'
def PE(X:Cx)(e:Expr)(t:TE):Prop:=
 ∀(pins:List (Addr×Obj))(s:Shared)(σ:St)(H:Hp)(Q:VK),Inv X pins σ H s->t σ H Q->wpAny (model X.prog X.w) X.A (eval e X.env) (EP X pins σ Q) X.xe s
def PT(X:Cx)(e:Expr)(t:TT):Prop:=
 ∀(pins:List (Addr×Obj))(s:Shared)(σ:St)(H:Hp)(Q:Bool->Hp->Prop),Inv X pins σ H s->t σ H Q->wpAny (model X.prog X.w) X.A (isTrue e X.env (eval e X.env)) (TP X pins σ Q) X.xe s
def PW(X:Cx)(e:Expr)(t:TT):Prop:=
 ∀(whole:Sem Value)(pins:List (Addr×Obj))(s:Shared)(σ:St)(H:Hp)(Q:Bool->Hp->Prop),Inv X pins σ H s->t σ H Q->wpAny (model X.prog X.w) X.A (isTrue e X.env whole) (TP X pins σ Q) X.xe s
theorem PW.pt {X:Cx}{e:Expr}{t:TT}(h:PW X e t):PT X e t:=h _
def PA(X:Cx)(es:List Expr)(t:TA):Prop:=
 ∀(pos:Pos)(pins:List (Addr×Obj))(s:Shared)(σ:St)(H:Hp)(Q:List V->Hp->Prop),Inv X pins σ H s->t σ H Q->wpAny (model X.prog X.w) X.A (spliced (backTo pos (starEach es X.env))) (AP X pins σ Q) X.xe s
def PS(X:Cx)(st:Stmt)(t:TS):Prop:=
 ∀(pins:List (Addr×Obj))(s:Shared)(σ:St)(H:Hp)(D:Ends),Inv X pins σ H s->t D σ H->wpAny (model X.prog X.w) X.A (exec st X.env) (SP X pins D) X.xe s
def oV(X:Cx)(st:List Stmt)(t:TS):Prop:=
 ∀(pins:List (Addr×Obj))(s:Shared)(σ:St)(H:Hp)(D:Ends),Inv X pins σ H s->t D σ H->wpAny (model X.prog X.w) X.A (execs st X.env) (SP X pins D) X.xe s
theorem bD{α:Type}{t:Sem α}{Q Q':α->Shared->Prop}{M:Model}{A:Around}{E:Value->Shared->Prop}{s:Shared}(h:wpAny M A t Q E s)(hQ:∀a s,Q a s->Q' a s):wpAny M A t Q' E s:=wpAny_mono h hQ fun _ _ x=>x
end L2
namespace L2
open PySem PySem.Spec PyProof.Rows
section
variable{X:Cx}
def HB(i:Nat):TE:=fun σ H Q=>∃v,σ[i]?=some (some v)/\Q v H
def tC(v:V):TE:=fun _ H Q=>Q v H
theorem iB{i:Nat}{x:Str}{pos:Pos}(hN:X.N[i]?=some x)(hv:vI X.env.scope x)(hd:(x==("__debug__":Str))=false:=by decide)(hcd:(x==("__classdict__":Str))=false:=by decide):PE X (.Name x pos) (HB i):=by
 intro pins s σ H Q I h
 obtain⟨v,e,h⟩:=h
 obtain⟨m,hn,hl⟩:=I.loc
 obtain⟨u,r,l⟩:=hl i x v hN e hv
 have fin:EP X pins σ Q u s:=⟨v,H,I,r,h⟩
 rcases l with⟨hk,hm⟩|⟨hk,c,hc,hcell⟩
 ·exact wpAny_Name (wpAny_loadName_local I.ok.kind hk hn hm fin) hd
 ·rcases hk with hk|hk
  ·exact wpAny_Name (wpAny_loadName_cell I.ok.kind hk hc hcell fin) hd
  ·exact wpAny_Name (wpAny_loadName_free I.ok.kind hk hc hcell fin hcd) hd
theorem fK{i j pos}:PE X (.Constant (.int i) j pos) (tC (.int i)):=fun _ _ _ H _ I h=>wpAny_Constant_int ⟨.int i,H,I.tok _,⟨_,rfl⟩,h⟩
theorem PX{b j pos}:PE X (.Constant (.bool b) j pos) (tC (.bl b)):=fun _ _ _ H _ I h=>Constant_bool ⟨.bl b,H,I,rfl,h⟩
theorem DJ{j pos}:PE X (.Constant .none j pos) (tC .non):=fun _ _ _ H _ I h=>Constant_none ⟨.non,H,I,rfl,h⟩
def Gl(X:Cx)(x:Str):Prop:=X.env.kindOf x=some .globalImplicit
theorem wK{E:Value->Shared->Prop}{pins:List (Addr×Obj)}{s:Shared}{σ:St}{H:Hp}{x:Str}{u:Value}{pos:Pos}{Q:Value->Shared->Prop}(I:Inv X pins σ H s)(hg:Gl X x)(hm:X.mg x=some u)(h:Q u s)
  (hd:(x==("__debug__":Str))=false:=by decide):wpAny (model X.prog X.w) X.A (eval (.Name x pos) X.env) Q E s:=
 Calls.Name_function_global I.ok.kind hg (Calls.loadGlobal_global (by rw[I.ok.glob];exact I.mod.glob.keeps I.bk) hm h) hd
theorem dS{E:Value->Shared->Prop}{pins:List (Addr×Obj)}{s:Shared}{σ:St}{H:Hp}{x:Str}{u:Value}{pos:Pos}{Q:Value->Shared->Prop}(I:Inv X pins σ H s)(hg:Gl X x)(hm:X.mg x=none)(hv:bootBuiltins x=some u)(h:Q u s)
  (hn:x≠"__name__":=by decide)(hd:(x==("__debug__":Str))=false:=by decide):wpAny (model X.prog X.w) X.A (eval (.Name x pos) X.env) Q E s:=by
 obtain⟨mb,h1,h2⟩:=I.mod.blt
 exact Calls.Name_function_global I.ok.kind hg (Calls.loadGlobal_builtin (by rw[I.ok.glob];exact I.mod.glob.keeps I.bk) hm (by rw[I.ok.blt];exact h1.keeps I.bk) ((h2 x hn).trans hv) h) hd
theorem HC{x:Str}{v:V}{u:Value}{pos:Pos}(hg:Gl X x)(hm:X.mg x=some u)(r:RelV v u)(hd:(x==("__debug__":Str))=false:=by decide):PE X (.Name x pos) (tC v):=
 fun _ _ _ H _ I h=>wK I hg hm ⟨v,H,I,r,h⟩ hd
theorem HD{x:Str}{v:V}{u:Value}{pos:Pos}(hg:Gl X x)(hm:X.mg x=none)(hv:bootBuiltins x=some u)(r:RelV v u)(hn:x≠"__name__":=by decide)(hd:(x==("__debug__":Str))=false:=by decide):PE X (.Name x pos) (tC v):=
 fun _ _ _ H _ I h=>dS I hg hm hv ⟨v,H,I,r,h⟩ hn hd
variable{a b:Expr}{ta tb:TE}{pos:Pos}
def PC(X:Cx)(op:CmpOp)(a b:Expr)(t:TE):Prop:=
 ∀(pins:List (Addr×Obj))(s:Shared)(σ:St)(H:Hp)(Q:VK),Inv X pins σ H s->t σ H Q->
  wpAny (model X.prog X.w) X.A (eval a X.env) (fun v s₁=>wpAny (model X.prog X.w) X.A (eval b X.env) (fun u s₂=>wpAny (model X.prog X.w) X.A (compareOp op v u) (EP X pins σ Q) X.xe s₂) X.xe s₁) X.xe s
theorem DK(b:Expr){op:CmpOp}(h:op≠.In)(h2:op≠.NotIn):behindInMarks op b=false:=by
 have e1:(op==CmpOp.In)=false:=by cases op<;>first|rfl|exact absurd rfl h
 have e2:(op==CmpOp.NotIn)=false:=by cases op<;>first|rfl|exact absurd rfl h2
 cases b<;>simp[behindInMarks,e1,e2]
def tB(t:TE):TT:=fun σ H Q=>t σ H fun x H1=>∃c,x=.bl c/\Q c H1
theorem zF{op:CmpOp}{t:TE}(h:PC X op a b t)(h1:behindInMarks op b=false:=by first|exact DK _ (by decide) (by decide)|rfl):PT X (.Compare a [op] [b] pos) (tB t):=by
 intro pins s σ H Q I hw
 refine wpAny_isTrue_Compare1 (bD (h pins s σ H _ I hw) fun v s1 h1=>bD h1 fun u s2 h2=>bD h2 fun c s3 ⟨x,H1,I1,r1,q1⟩=>?_) h1
 obtain⟨d,rfl,q⟩:=q1
 cases r1
 exact wpAny_truthy_bool ⟨H1,I1,q⟩
theorem L4{e:Expr}{t:TE}(h:PE X e t)(he:∀whole,isTrue e X.env whole=(do let v<-whole;standAt e.pos;holding [v] (truthy v)):=by intro _;rfl):PT X e (tB t):=by
 intro pins s σ H Q I hw
 refine isTrue_plain (bD (h pins s σ H _ I hw) fun v s1 ⟨x,H1,I1,r1,q1⟩=>?_) (he _)
 obtain⟨d,rfl,q⟩:=q1
 cases r1
 exact wpAny_truthy_bool ⟨H1,I1,q⟩
variable{tA S6:TT}{rest:List Expr}
def Uk(t u:TT):TT:=fun σ H Q=>t σ H fun c H1=>if c=true then u σ H1 Q else Q false H1
def Zz(t u:TT):TT:=fun σ H Q=>t σ H fun c H1=>if c=true then Q true H1 else u σ H1 Q
def Ul(t:TT):TT:=fun σ H Q=>t σ H fun c H1=>Q (!c) H1
theorem pw_and1(ha:PT X a tA):PW X (.BoolOp .And [a] pos) tA:=by
 intro wh pins s σ H Q I h
 refine isTrue_and (bD (ha pins s σ H Q I h) fun c s1 e=>?_)
 cases c with
 |true=>exact isTrue_and_nil e
 |false=>exact e
theorem pw_or1(ha:PT X a tA):PW X (.BoolOp .Or [a] pos) tA:=by
 intro wh pins s σ H Q I h
 refine isTrue_or (bD (ha pins s σ H Q I h) fun c s1 e=>?_)
 cases c with
 |false=>exact isTrue_or_nil e
 |true=>exact e
theorem pw_and(ha:PT X a tA)(hb:PW X (.BoolOp .And (b::rest) pos) S6):PW X (.BoolOp .And (a::b::rest) pos) (Uk tA S6):=by
 intro wh pins s σ H Q I h
 refine isTrue_and (bD (ha pins s σ H _ I h) fun c s1 ⟨H1,I1,q1⟩=>?_)
 cases c with
 |true=>exact hb wh pins s1 σ H1 Q I1 q1
 |false=>exact⟨H1,I1,q1⟩
theorem pw_or(ha:PT X a tA)(hb:PW X (.BoolOp .Or (b::rest) pos) S6):PW X (.BoolOp .Or (a::b::rest) pos) (Zz tA S6):=by
 intro wh pins s σ H Q I h
 refine isTrue_or (bD (ha pins s σ H _ I h) fun c s1 ⟨H1,I1,q1⟩=>?_)
 cases c with
 |true=>exact⟨H1,I1,q1⟩
 |false=>exact hb wh pins s1 σ H1 Q I1 q1
theorem L5(ha:PT X a tA):PT X (.UnaryOp .Not a pos) (Ul tA):=by
 intro pins s σ H Q I h
 exact isTrue_not (ha pins s σ H (fun c H1=>Q (!c) H1) I h)
def PY(ta tb:TE):TE:=fun σ H Q=>ta σ H fun x H1=>∃c,x=.bl c/\if c=true then tb σ H1 Q else Q (.bl false) H1
theorem L6{op}{t:TE}(h:PE X a t):PE X (.BoolOp op [a] pos) t:=fun pins s σ H Q I hw=>BoolOp_one (h pins s σ H Q I hw)
theorem L7(ha:PE X a ta)(hb:PE X (.BoolOp .And (b::rest) pos) tb):PE X (.BoolOp .And (a::b::rest) pos) (PY ta tb):=by
 intro pins s σ H Q I h
 refine BoolOp_and (bD (ha pins s σ H _ I h) fun v s1 ⟨x,H1,I1,r1,q1⟩=>?_)
 obtain⟨c,rfl,q1⟩:=q1
 cases r1
 refine wpAny_truthy_bool ?_
 cases c with
 |true=>exact hb pins s1 σ H1 Q I1 q1
 |false=>exact⟨.bl false,H1,I1,rfl,q1⟩
def ZA(t:TT)(ta tb:TE):TE:=fun σ H Q=>t σ H fun c H1=>if c=true then ta σ H1 Q else tb σ H1 Q
theorem DM{c:Expr}(hc:PT X c tA)(ha:PE X a ta)(hb:PE X b tb):PE X (.IfExp c a b pos) (ZA tA ta tb):=by
 intro pins s σ H Q I h
 refine wpAny_IfExp (bD (hc pins s σ H _ I h) fun d s1 ⟨H1,I1,q1⟩=>?_)
 cases d with
 |true=>exact ha pins s1 σ H1 Q I1 q1
 |false=>exact hb pins s1 σ H1 Q I1 q1
end
end L2
namespace L2
open PySem PySem.Spec PyProof.Rows
def b7(K:PySem.W.Frag)(H:Hp)(a:Addr)(xs:List V):Prop:=
 Rd H a (.lst xs)\/
  ∃(o:Obj)(its:Array Value)(n:Nat),K.lookup a=some o/\o.cls=.type "list"/\o.dict=none/\o.data=.seq its n/\its.size<=sizeLine/\Vals xs its.toList
def x9(K:PySem.W.Frag)(H:Hp)(a:Addr)(xs:List V):Prop:=
 Rd H a (.tup xs)\/
  ∃(o:Obj)(its:Array Value)(n:Nat),K.lookup a=some o/\o.cls=.type "tuple"/\o.data=.seq its n/\its.size<=sizeLine/\Vals xs its.toList
def Um:Value->Option V
 |.none=>some .non
 |.bool b=>some (.bl b)
 |.int i _=>some (.int i)
 |.str x _=>some (.str x)
 |.bytes b _=>some (.Dr b)
 |.float b _=>some (.LR b)
 |.ref a=>some (.ref a)
 |.type n=>some (.ty n)
 |_=>none
theorem RelV.abs {x:V}{u:Value}(r:RelV x u):Um u=some x:=by
 cases x with
 |non=>cases r;rfl
 |bl _=>cases r;rfl
 |int _=>obtain⟨t,rfl⟩:=r;rfl
 |str _=>obtain⟨t,rfl⟩:=r;rfl
 |Dr _=>obtain⟨t,rfl⟩:=r;rfl
 |LR _=>obtain⟨t,rfl⟩:=r;rfl
 |ref _=>cases r;rfl
 |ty _=>cases r;rfl
theorem RelV.inj {x y:V}{u:Value}(r:RelV x u)(q:RelV y u):x=y:=Option.some.inj (r.abs.symm.trans q.abs)
theorem Vals.inj:∀{xs ys:List V}{us:List Value},Vals xs us->Vals ys us->xs=ys
 |_,_,_,.nil,.nil=>rfl
 |_,_,_,.cons r t,.cons r' t'=>by rw[r.inj r',Vals.inj t t']
section
variable{X:Cx}{pins:List (Addr×Obj)}{σ:St}{H:Hp}{s:Shared}{a:Addr}{xs ys:List V}
theorem b7.of {K:PySem.W.Frag}(h:H a=some (.lst xs)):b7 K H a xs:=.inl (.inl h)
theorem x9.of {K:PySem.W.Frag}(h:H a=some (.tup xs)):x9 K H a xs:=.inl (.inl h)
theorem Inv.list (I:Inv X pins σ H s)(h:b7 X.K H a xs):∃its:List Value,Vals xs its/\PlainL s.heap a its.toArray/\xs.length<=sizeLine:=by
 rcases h with h|⟨o,its,n,hk,hc,hd,hs,hz,r⟩
 ·obtain⟨z,its,n,r,e⟩:=h.ok I.hok
  exact⟨its,r,⟨_,n,e,rfl,rfl,rfl⟩,z⟩
 ·refine⟨its.toList,r,⟨o,n,I.qx a o hk,hc,hd,by simpa using hs⟩,?_⟩
  have e:=r.length
  simp only [Array.length_toList]at e
  omega
theorem Inv.tuple (I:Inv X pins σ H s)(h:x9 X.K H a xs):∃its:List Value,Vals xs its/\IsTup s.heap a its.toArray/\xs.length<=sizeLine:=by
 rcases h with h|⟨o,its,n,hk,hc,hs,hz,r⟩
 ·obtain⟨z,its,r,p⟩:=h.ok I.hok
  exact⟨its,r,p,z⟩
 ·refine⟨its.toList,r,⟨o,I.qx a o hk,hc,n,by simpa using hs⟩,?_⟩
  have e:=r.length
  simp only [Array.length_toList]at e
  omega
theorem Inv.pB (I:Inv X pins σ H s)(h:b7 X.K H a xs)(h':b7 X.K H a ys):xs=ys:=by
 obtain⟨its,r,⟨o,n,e,_,_,d⟩,_⟩:=I.list h
 obtain⟨its',r',⟨o',n',e',_,_,d'⟩,_⟩:=I.list h'
 rw[e]at e';cases e'
 rw[d]at d'
 injection d' with d1 _
 have:its=its':=by simpa using congrArg toList d1
 subst this
 exact r.inj r'
theorem Inv.Cu (I:Inv X pins σ H s)(h:x9 X.K H a xs)(h':x9 X.K H a ys):xs=ys:=by
 obtain⟨its,r,⟨o,e,_,n,d⟩,_⟩:=I.tuple h
 obtain⟨its',r',⟨o',e',_,n',d'⟩,_⟩:=I.tuple h'
 rw[e]at e';cases e'
 rw[d]at d'
 injection d' with d1 _
 have:its=its':=by simpa using congrArg toList d1
 subst this
 exact r.inj r'
end
abbrev Cx.vc (X:Cx)(E:Value->Shared->Prop):Cx:={X with xe:=E}
abbrev Cx.Ds (X:Cx):Cx:=X.vc fun _ _=>False
theorem Cx.Ok.vc {X:Cx}(ok:X.Ok)(E:Value->Shared->Prop):(X.vc E).Ok:=
 ⟨ok.mod,ok.kind,ok.glob,ok.blt,ok.above,ok.inj,ok.has,ok.LW,ok.hd,ok.frames,ok.Pd,ok.LX,ok.bs,ok.Cr,ok.x6,ok.wI,ok.pA,ok.Hz⟩
theorem Cx.Ok.mC {X:Cx}{E:Value->Shared->Prop}(ok:(X.vc E).Ok):X.Ok:=
 ⟨ok.mod,ok.kind,ok.glob,ok.blt,ok.above,ok.inj,ok.has,ok.LW,ok.hd,ok.frames,ok.Pd,ok.LX,ok.bs,ok.Cr,ok.x6,ok.wI,ok.pA,ok.Hz⟩
section
variable{X:Cx}{pins:List (Addr×Obj)}{σ:St}{H:Hp}{s:Shared}{E:Value->Shared->Prop}
theorem Inv.vc (I:Inv X pins σ H s)(E:Value->Shared->Prop):Inv (X.vc E) pins σ H s:=⟨I.ok.vc E,I.os,I.bare,I.base,I.loc,I.cell,I.free,I.mB,I.pin,I.hok,I.len⟩
theorem Inv.mC (I:Inv (X.vc E) pins σ H s):Inv X pins σ H s:=⟨I.ok.mC,I.os,I.bare,I.base,I.loc,I.cell,I.free,I.mB,I.pin,I.hok,I.len⟩
theorem SP.mC {D:Ends}{f:Flow}{s':Shared}(h:SP (X.vc E) pins D f s'):SP X pins D f s':=by
 cases f with
 |next=>obtain⟨σ',H',I,q⟩:=h;exact⟨σ',H',I.mC,q⟩
 |brk=>obtain⟨σ',H',I,q⟩:=h;exact⟨σ',H',I.mC,q⟩
 |cont=>obtain⟨σ',H',I,q⟩:=h;exact⟨σ',H',I.mC,q⟩
 |ret u=>obtain⟨v,σ',H',I,r,q⟩:=h;exact⟨v,σ',H',I.mC,r,q⟩
theorem oV.Ds {st:List Stmt}{t:TS}(h:oV X.Ds st t):oV X st t:=fun pins s σ H D I hw=>
 wpAny_mono (h pins s σ H D (I.vc _) hw) (fun _ _ q=>q.mC) fun _ _ z=>False.elim z
end
section
variable{X:Cx}{st:Stmt}{rest:List Stmt}{t u:TS}{e:Expr}{te:TE}{pos:Pos}
def PZ:TS:=fun D σ H=>D.nx σ H
def Uo(t u:TS):TS:=fun D σ H=>t {D with nx:=u D} σ H
theorem jJ:oV X [] PZ:=fun _ _ σ H _ I h=>wpAny_execs_nil ⟨σ,H,I,h⟩
theorem az(h1:PS X st t)(h2:oV X rest u):oV X (st::rest) (Uo t u):=by
 intro pins s σ H D I h
 refine wpAny_execs_cons (bD (h1 pins s σ H {D with nx:=u D} I h) fun f s1 q=>?_)
 cases f with
 |next=>
  obtain⟨σ',H',I',q⟩:=q
  exact h2 pins s1 σ' H' D I' q
 |ret v=>exact q
 |brk=>exact q
 |cont=>exact q
theorem bE(h1:PS X st t):oV X [st] t:=by
 intro pins s σ H D I h
 refine wpAny_execs_cons (bD (h1 pins s σ H D I h) fun f s1 q=>?_)
 cases f with
 |next=>exact wpAny_execs_nil q
 |ret v=>exact q
 |brk=>exact q
 |cont=>exact q
def L8:TS:=fun D σ H=>D.bk σ H
theorem DN:PS X (.Break pos) L8:=fun _ _ σ H _ I h=>wpAny_Break ⟨σ,H,I,h⟩
theorem Inv.quiet {pins:List (Addr×Obj)}{σ:St}{H:Hp}{s:Shared}(I:Inv X pins σ H s):interactive X.env=false:=by simp[interactive,I.ok.kind]
def P1(te:TE):TS:=fun D σ H=>te σ H fun _ H1=>D.nx σ H1
theorem fM(he:PE X e te)(hs:swapsWith e none pos.line X.env=pure false:=by rfl):PS X (.Expr e pos) (P1 te):=by
 intro pins s σ H D I h
 exact wpAny_Expr_any (bD (he pins s σ H _ I h) fun v s1 ⟨x,H1,I1,r1,q1⟩=>⟨σ,H1,I1,q1⟩) I.quiet hs
def Up(te:TE):TS:=fun D σ H=>te σ H D.rt
theorem j7(he:PE X e te):PS X (.Return (some e) pos) (Up te):=by
 intro pins s σ H D I h
 exact wpAny_Return_some (bD (he pins s σ H _ I h) fun v s1 ⟨x,H1,I1,r1,q1⟩=>⟨x,σ,H1,I1,r1,q1⟩)
def Uq(c:TT)(t u:TS):TS:=fun D σ H=>c σ H fun b H1=>if b=true then t D σ H1 else u D σ H1
theorem rJ{c:Expr}{a b:List Stmt}{tc:TT}(hc:PT X c tc)(ha:oV X a t)(hb:oV X b u):PS X (.If c a b pos) (Uq tc t u):=by
 intro pins s σ H D I h
 refine wpAny_If (bD (hc pins s σ H _ I h) fun d s1 ⟨H1,I1,q1⟩=>?_)
 cases d with
 |true=>exact ha pins s1 σ H1 D I1 q1
 |false=>exact hb pins s1 σ H1 D I1 q1
end
abbrev TG:=V->St->Hp->(St->Hp->Prop)->Prop
abbrev HE:=List V->St->Hp->(St->Hp->Prop)->Prop
def PG(X:Cx)(target:Expr)(t:TG):Prop:=
 ∀(pins:List (Addr×Obj))(s:Shared)(σ:St)(H:Hp)(v:V)(u:Value)(Q:St->Hp->Prop),Inv X pins σ H s->RelV v u->t v σ H Q->
  wpAny (model X.prog X.w) X.A (assign target X.env u) (fun _ s'=>∃σ' H',Inv X pins σ' H' s'/\Q σ' H') X.xe s
def AV(X:Cx)(ts:List Expr)(t:HE):Prop:=
 ∀(pins:List (Addr×Obj))(s:Shared)(σ:St)(H:Hp)(vs:List V)(us:List Value)(Q:St->Hp->Prop),Inv X pins σ H s->Vals vs us->t vs σ H Q->
  wpAny (model X.prog X.w) X.A (assignInOrder ((assignEach ts X.env).map (·.2)) us) (fun _ s'=>∃σ' H',Inv X pins σ' H' s'/\Q σ' H') X.xe s
abbrev L9:=V->V->V->Hp->(Hp->Prop)->Prop
def P4(X:Cx)(t:L9):Prop:=
 ∀(pins:List (Addr×Obj))(s:Shared)(σ:St)(H:Hp)(o i v:V)(ov iv u:Value)(Q:Hp->Prop),Inv X pins σ H s->RelV o ov->RelV i iv->RelV v u->t o i v H Q->
  wpAny (model X.prog X.w) X.A (setItem ov iv u) (fun _ s'=>∃H',Inv X pins σ H' s'/\Q H') X.xe s
abbrev S7:=V->V->Hp->VK->Prop
def Pe(X:Cx)(op:Operator)(t:S7):Prop:=
 ∀(pins:List (Addr×Obj))(s:Shared)(σ:St)(H:Hp)(x y:V)(v u:Value)(Q:VK),Inv X pins σ H s->RelV x v->RelV y u->t x y H Q->
  wpAny (model X.prog X.w) X.A (inplaceOp op v u) (EP X pins σ Q) X.xe s
section
variable{X:Cx}{pos:Pos}
def DP(i:Nat):TG:=fun v σ H Q=>Q (σ.set i (some v)) H
theorem wL{i:Nat}{x:Str}(hN:X.N.Nodup)(hi:X.N[i]?=some x)(hx:Loc X.env.scope x)(hf:X.fn x=true\/X.env.scope.names.lookup x=some .local:=by first|exact .inl rfl|exact .inr rfl|assumption):PG X (.Name x pos) (DP i):=by
 intro pins s σ H v u Q I r h
 exact wpAny_assign_Name (tw I hN hi hx r (fun s' I'=>⟨_,H,I',h⟩) hf)
def Ur:HE:=fun vs σ H Q=>vs=[]/\Q σ H
def P5(t:TG)(u:HE):HE:=fun vs σ H Q=>∃v r,vs=v::r/\t v σ H fun σ' H'=>u r σ' H' Q
theorem HF:AV X [] Ur:=by
 intro pins s σ H vs us Q I r h
 obtain⟨e,h⟩:=h
 subst e
 cases r
 exact assignInOrder_nil ⟨σ,H,I,h⟩
theorem DQ{e:Expr}{es:List Expr}{t:TG}{u:HE}(h1:PG X e t)(h2:AV X es u)
  (hs:(assignEach (e::es) X.env).map (·.2)=assign e X.env::(assignEach es X.env).map (·.2):=by rfl):AV X (e::es) (P5 t u):=by
 intro pins s σ H vs us Q I r h
 obtain⟨v,vr,e1,h⟩:=h
 subst e1
 cases r with
 |cons r rr=>
  rw[hs]
  refine assignInOrder_cons (bD (h1 pins s σ H _ _ _ I r h) fun _ s1 ⟨σ1,H1,I1,q1⟩=>?_)
  exact h2 pins s1 σ1 H1 _ _ Q I1 rr q1
def Us(K:PySem.W.Frag)(n:Nat)(t:HE):TG:=fun v σ H Q=>∃a xs,v=.ref a/\x9 K H a xs/\xs.length=n/\t xs σ H Q
theorem Ma{es:List Expr}{k:Nat}{t:HE}{n:Nat}(hc:X.calm=true)(h:AV X es t)
  (hn:(assignEach es X.env).length=n:=by rfl)(hst:(assignEach es X.env).findIdx? (·.1)=none:=by rfl):PG X (.Tuple es k pos) (Us X.K n t):=by
 intro pins s σ H v u Q I r hw
 obtain⟨a,xs,e1,hq,hl,hw⟩:=hw
 subst e1
 cases r
 obtain⟨its,rv,ht,hz⟩:=I.tuple hq
 refine assign_Tuple_tuple (I.ok.hd hc) ht (by simp[hn,<-hl,rv.length]) hst fun h' hx=>?_
 have I1:Inv X pins σ H {s with heap:=h'}:=I.kept (t':=s.toks) fun b o e=>hx b o (ne_of_lt (Heap.lt_size e)) e
 exact h pins _ σ H xs _ Q I1 (by simpa using rv) hw
def Ut(to ti:TE)(t:L9):TG:=fun v σ H Q=>to σ H fun o H1=>ti σ H1 fun i H2=>t o i v H2 fun H3=>Q σ H3
theorem zG{o i:Expr}{to ti:TE}{t:L9}(ho:PE X o to)(hi:PE X i ti)(hs:P4 X t)
  (ha:∀v,assign (.Subscript o i pos) X.env v=(do
   let ov<-holding [v] (eval o X.env)
   let iv<-holding [v,ov] (eval i X.env)
   standAt pos
   holding [v,ov,iv] (setItem ov iv v)
   release [v,ov,iv] []):=by intro _;rfl):PG X (.Subscript o i pos) (Ut to ti t):=by
 intro pins s σ H v u Q I r h
 rw[ha]
 refine wpAny_bind (wpAny_holding (bD (ho pins s σ H _ I h) fun ov s1 ⟨x,H1,I1,r1,q1⟩=>?_))
 refine wpAny_bind (wpAny_holding (bD (hi pins s1 σ H1 _ I1 q1) fun iv s2 ⟨y,H2,I2,r2,q2⟩=>?_))
 refine wpAny_bind (wpAny_standAt (wpAny_bind (wpAny_holding (bD (hs pins s2 σ H2 x y v ov iv u _ I2 r1 r2 r q2) fun _ s3 ⟨H3,I3,q3⟩=>?_))))
 exact wpAny_release ⟨σ,H3,I3,q3⟩
def P6(te:TE)(g:TG):TS:=fun D σ H=>te σ H fun x H1=>g x σ H1 D.nx
theorem zH{tg e:Expr}{te:TE}{g:TG}(he:PE X e te)(hg:PG X tg g)(hs:swapsWithSole [tg] e pos.line X.env=pure false:=by rfl)(hw:swappedStores [tg] e X.env=pure none:=by rfl)
  (h1:(assignEach [tg] X.env).map (·.2)=[assign tg X.env]:=by rfl):PS X (.Assign [tg] e pos) (P6 te g):=by
 intro pins s σ H D I h
 refine wpAny_Assign_stores (bD (he pins s σ H _ I h) fun v s1 ⟨x,H1,I1,r1,q1⟩=>?_) hs hw
 rw[h1]
 exact bD (hg pins s1 σ H1 x v _ I1 r1 q1) fun _ s2 q=>q
theorem cD{i:Nat}{x:Str}{e:Expr}{te:TE}{pos':Pos}(hN:X.N.Nodup)(hi:X.N[i]?=some x)(hx:Loc X.env.scope x)(he:PE X e te)(hs:swapsWith e (some (.Name x pos')) pos.line X.env=pure false:=by rfl)(hf:X.fn x=true\/X.env.scope.names.lookup x=some .local:=by first|exact .inl rfl|exact .inr rfl|assumption):
  PS X (.Assign [.Name x pos'] e pos) (P6 te (DP i)):=by
 intro pins s σ H D I h
 refine wpAny_Assign_Name (bD (he pins s σ H _ I h) fun v s1 ⟨y,H1,I1,r1,q1⟩=>?_) hs
 exact tw I1 hN hi hx r1 (fun s2 I2=>⟨_,H1,I2,q1⟩) hf
def Uu(i:Nat)(te:TE)(ti:S7):TS:=fun D σ H=>∃x,σ[i]?=some (some x)/\te σ H fun y H1=>ti x y H1 fun z H2=>D.nx (σ.set i (some z)) H2
theorem zI{i:Nat}{x:Str}{e:Expr}{te:TE}{op:Operator}{ti:S7}{pos':Pos}(hN:X.N.Nodup)(hi:X.N[i]?=some x)(hx:Loc X.env.scope x)(he:PE X e te)(ho:Pe X op ti)(hf:X.fn x=true\/X.env.scope.names.lookup x=some .local:=by first|exact .inl rfl|exact .inr rfl|assumption):
  PS X (.AugAssign (.Name x pos') op e pos) (Uu i te ti):=by
 intro pins s σ H D I h
 obtain⟨v,e1,h⟩:=h
 obtain⟨m,hn,hl⟩:=I.loc
 have ZC:vI X.env.scope x:=by rcases hx with k|k;exact .inl k;exact .inr (.inl k)
 obtain⟨u,r,l⟩:=hl i x v hi e1 ZC
 refine wpAny_AugAssign_Name ?_
 have go:wpAny (model X.prog X.w) X.A (eval e X.env) (fun w s₂=>wpAny (model X.prog X.w) X.A (inplaceOp op u w) (fun r s₃=>wpAny (model X.prog X.w) X.A (storeName X.env x r) (fun _=>SP X pins D .next) X.xe s₃) X.xe s₂) X.xe s:=by
  refine bD (he pins s σ H _ I h) fun w s1 ⟨y,H1,I1,r1,q1⟩=>?_
  refine bD (ho pins s1 σ H1 v y u w _ I1 r r1 q1) fun z s2 ⟨zv,H2,I2,r2,q2⟩=>?_
  exact tw I2 hN hi hx r2 (fun s3 I3=>⟨_,H2,I3,q2⟩) hf
 rcases l with⟨hk,hm⟩|⟨hk,c,hc,hcell⟩
 ·exact wpAny_loadName_local I.ok.kind hk hn hm go
 ·rcases hk with hk|hk
  ·exact wpAny_loadName_cell I.ok.kind hk hc hcell go
  ·rcases hx with k|k
   ·have:X.env.scope.names.lookup x=some .free:=hk
    rw[k]at this;cases this
   ·have:X.env.scope.names.lookup x=some .free:=hk
    rw[k]at this;cases this
def P7(f:Int->Int->Int):S7:=fun x y H Q=>∃i j,x=.int i/\y=.int j/\Q (.int (f i j)) H
theorem DR:Pe X .Add (P7 fun i j=>i+j):=by
 intro pins s σ H x y v u Q I r1 r2 h
 obtain⟨i,j,e1,e2,q⟩:=h
 subst e1;subst e2
 obtain⟨t,rfl⟩:=r1
 obtain⟨t',rfl⟩:=r2
 exact iadd_int ⟨.int _,H,I.tok _,⟨_,rfl⟩,q⟩
theorem Mb:Pe X .Sub (P7 fun i j=>i-j):=by
 intro pins s σ H x y v u Q I r1 r2 h
 obtain⟨i,j,e1,e2,q⟩:=h
 subst e1;subst e2
 obtain⟨t,rfl⟩:=r1
 obtain⟨t',rfl⟩:=r2
 exact isub_int ⟨.int _,H,I.tok _,⟨_,rfl⟩,q⟩
end
section
variable{X:Cx}{pos:Pos}
def Mc(c:TT)(tb:TS):TS:=fun D σ H=>∃W:Nat->St->Hp->Prop,(∃m,W m σ H)/\∀m σ H,W m σ H->
 c σ H fun b H1=>if b=true then∃N:St->Hp->Prop,(∀σ' H',N σ' H'->∃m',m'<m/\W m' σ' H')/\tb {D with nx:=N,ct:=N,bk:=D.nx} σ H1 else D.nx σ H1
theorem tE{c:Expr}{body:List Stmt}{tc:TT}{tb:TS}(hp:PassesOwn (model X.prog X.w) X.A X.env X.xe)(hc:PT X c tc)(hb:oV X body tb):PS X (.While c body [] pos) (Mc tc tb):=by
 intro pins s σ H D I h
 obtain⟨W,⟨m0,w0⟩,turn⟩:=h
 refine wpAny_While (codeAny_whileLoop (fun n s'=>∃σ' H',Inv X pins σ' H' s'/\W n σ' H') ?_ m0 ⟨σ,H,I,w0⟩)
 rintro n s1 ⟨σ1,H1,I1,w1⟩
 refine wpAny_passesOwn hp (bD (hc pins s1 σ1 H1 _ I1 (turn n σ1 H1 w1)) fun b s2 ⟨H2,I2,q2⟩=>?_)
 cases b with
 |true=>
  obtain⟨N,hN,q2⟩:=q2
  rw[if_pos rfl]
  refine wpAny_passesOwn hp (bD (hb pins s2 σ1 H2 _ I2 q2) fun f s3 q3=>?_)
  cases f with
  |next=>
   obtain⟨σ3,H3,I3,n3⟩:=q3
   obtain⟨m',hm,w3⟩:=hN σ3 H3 n3
   exact⟨m',hm,σ3,H3,I3,w3⟩
  |cont=>
   obtain⟨σ3,H3,I3,n3⟩:=q3
   obtain⟨m',hm,w3⟩:=hN σ3 H3 n3
   exact⟨m',hm,σ3,H3,I3,w3⟩
  |brk=>exact q3
  |ret v=>exact q3
 |false=>
  rw[if_neg Bool.false_ne_true]
  exact wpAny_execs_nil ⟨σ1,H2,I2,q2⟩
end
structure It where
 go:Nat->Hp->Prop
 P8:Nat->Hp->V->Hp->Prop
 stop:Nat->Hp->Prop
def jI(X:Cx)(pins:List (Addr×Obj))(H:Hp)(b:Addr):Prop:=
 H b=none/\b≠X.env.locals/\b∉X.fs/\(b∈X.ex\/X.s₀.heap.objs.size<=b)/\(∀x c,X.env.cells.lookup x=some c->c≠b)/\∀p∈X.pn++pins,p.1≠b
theorem Inv.zJ {X:Cx}{pins:List (Addr×Obj)}{σ:St}{H H':Hp}{s:Shared}{b:Addr}(I:Inv X pins σ H s)(hb:s.heap.objs.size<=b)(hn:H' b=none):jI X pins H' b:=by
 refine⟨hn,ne_of_gt (lt_of_lt_of_le I.lt hb),I.Ug hb,.inr (le_trans I.sz hb),fun x c e z=>?_,fun p hp z=>?_⟩
 ·obtain⟨v,q⟩:=I.cell x c e
  exact absurd (lt_of_lt_of_le q.lt (by rw[z];exact hb)) (Nat.lt_irrefl _)
 ·exact absurd (lt_of_lt_of_le (Heap.lt_size (I.pin p hp).1) (by rw[z];exact hb)) (Nat.lt_irrefl _)
structure Turn(P:Program)(w:World)(K:PySem.W.Frag)(tg:Expr)(J:It)(fp:List Addr)(it:Addr)(tn:Nat->Heap->Prop):Prop where
 mem:it∈fp
 obj:∀i h,tn i h->∀b∈fp,∃o,h.get? b=some o/\∀v,o.data≠.cell v
 keep:∀i h h',tn i h->(∀b∈fp,∀o,h.get? b=some o->h'.get? b=some o)->tn i h'
 item:∀(X:Cx),X.prog=P->X.w=w->X.K=K->X.calm=true->∀(i:Nat)(pins:List (Addr×Obj))(s:Shared)(σ:St)(H:Hp)(E:Value->Shared->Prop),Inv X pins σ H s->(∀b∈fp,jI X pins H b)->tn i s.heap->J.go i H->
  wpAny (model P w) X.A (pyNext (.ref it)) (fun r s1=>∃u,r=some u/\
   wpAny (model P w) X.A (letOwnedTupleGo tg (.ref it) u) (fun _ s2=>∃x H',Inv X pins σ H' s2/\RelV x u/\J.P8 i H x H'/\tn (i+1) s2.heap/\∀b∈fp,H' b=none) E s1) E s
 done:∀(X:Cx),X.prog=P->X.w=w->X.K=K->X.calm=true->∀(i:Nat)(pins:List (Addr×Obj))(s:Shared)(σ:St)(H:Hp)(E:Value->Shared->Prop),Inv X pins σ H s->(∀b∈fp,jI X pins H b)->tn i s.heap->J.stop i H->
  wpAny (model P w) X.A (pyNext (.ref it)) (fun r s1=>r=none/\Inv X pins σ H s1) E s
 self:∀(A:Around)(i:Nat)(s:Shared)(Q:Value->Shared->Prop)(E:Value->Shared->Prop),tn i s.heap->Q (.ref it) s->wpAny (model P w) A (pyIter (.ref it)) Q E s
abbrev TI:=St->Hp->(It->Hp->Prop)->Prop
def XI(X:Cx)(pins:List (Addr×Obj))(σ:St)(tg:Expr)(R:It->Hp->Prop)(itv:Value)(s2:Shared):Prop:=
 ∃(it:Addr)(fp:List Addr)(tn:Nat->Heap->Prop)(J:It)(H':Hp),itv=.ref it/\Inv X pins σ H' s2/\Turn X.prog X.w X.K tg J fp it tn/\tn 0 s2.heap/\(∀b∈fp,jI X pins H' b)/\R J H'
def PI(X:Cx)(tg iter:Expr)(wi:TI):Prop:=
 ∀(pins:List (Addr×Obj))(s:Shared)(σ:St)(H:Hp)(R:It->Hp->Prop),Inv X pins σ H s->wi σ H R->
  wpAny (model X.prog X.w) X.A (eval iter X.env) (fun v s1=>wpAny (model X.prog X.w) X.A (pyIter v) (XI X pins σ tg R) X.xe s1) X.xe s
theorem DS{M:Model}{A:Around}{E:Value->Shared->Prop}{s:Shared}{tg:Expr}{it:Addr}{u:Value}{o:Obj}{n:String}{vs:Array Value}{Q:Unit->Shared->Prop}(ho:s.heap.get? it=some o)(hc:o.cls=.type n)(hd:o.data=.fields vs)
  (hn:["enumerate","zip","dict_itemiterator","dict_reverseitemiterator","odict_iterator","itertools.zip_longest","itertools.pairwise"].contains n=false)(hQ:Q () s):wpAny M A (letOwnedTupleGo tg (.ref it) u) Q E s:=by
 unfold letOwnedTupleGo
 cases tg<;>first
  |exact wpAny_pure hQ
  |(cases u<;>first
    |exact wpAny_pure hQ
    |(refine wpAny_bind (wpAny_load ho ?_)
      rw[hc,hd]
      show wpAny M A (if(["enumerate","zip","dict_itemiterator","dict_reverseitemiterator","odict_iterator","itertools.zip_longest","itertools.pairwise"].contains n&&vs[0]?==some (rawInt _))=true then _ else _) Q E s
      rw[if_neg (by intro h;rw[hn,Bool.false_and]at h;cases h)]
      exact wpAny_pure hQ))
def Md(K:PySem.W.Frag)(a:Addr):It:=
 ⟨fun i H=>∃xs x,b7 K H a xs/\xs[i]?=some x,fun i H x H'=>H'=H/\∀xs,b7 K H a xs->xs[i]?=some x,fun i H=>∃xs,b7 K H a xs/\xs.length<=i⟩
def P9(lo:Int)(n:Nat):It:=⟨fun i _=>i<n,fun i H x H'=>H'=H/\x=.int (lo+i),fun i _=>n<=i⟩
theorem Cv{P:Program}{w:World}{K:PySem.W.Frag}{tg:Expr}(a it:Addr):Turn P w K tg (Md K a) [it] it (fun i h=>h.IsListIter it a i) where
 mem:=by simp
 obj:=fun i h st b hb=>by
  have e:b=it:=by simpa using hb
  subst e
  obtain⟨o,e,c,d⟩:=st
  exact⟨o,e,fun v z=>by rw[d]at z;cases z⟩
 keep:=fun i h h' st k=>st.at fun o e=>k it (by simp) o e
 item:=by
  intro X hP hw hK hc i pins s σ H E I hf st hg
  subst hP hw hK
  obtain⟨xs,x,hq,hx⟩:=hg
  obtain⟨its,rv,p,hz⟩:=I.list hq
  obtain⟨u,hu,ru⟩:=rv.get hx
  obtain⟨f0,f1,f2,f3,f4,f5⟩:=hf it (by simp)
  refine wpAny_pyNext_list_item st p.isList (x:=u) (by simpa using hu) fun h' HG sb=>?_
  have I1:Inv X pins σ H {s with heap:=h'}:=I.turned (t':=s.toks) (fun b o hb e=>(sb.2 b hb).trans e) f0 f1 f3 f4 f5
  obtain⟨o,e,c,d⟩:=id HG
  exact⟨u,rfl,DS (s:={s with heap:=h'}) e c d (by decide) ⟨x,H,I1,ru,⟨rfl,fun ys hy=>by rw[I.pB hy hq];exact hx⟩,HG,fun b hb=>(hf b hb).1⟩⟩
 done:=by
  intro X hP hw hK hc i pins s σ H E I hf st hg
  subst hP hw hK
  obtain⟨xs,hq,hx⟩:=hg
  obtain⟨its,rv,p,hz⟩:=I.list hq
  obtain⟨f0,f1,f2,f3,f4,f5⟩:=hf it (by simp)
  have hl:=rv.length
  exact wpAny_pyNext_list_end (I.ok.hd hc) st p.isList (by simp;omega) fun h' eb=>⟨rfl,I.turned (t':=s.toks) (fun b o hb e=>eb b o hb e) f0 f1 f3 f4 f5⟩
 self:=fun _ _ _ _ _ st h=>wpAny_pyIter_listiter st h
theorem zK{P:Program}{w:World}{K:PySem.W.Frag}{tg:Expr}(it:Addr)(lo:Int)(n:Nat):Turn P w K tg (P9 lo n) [it] it (fun i h=>IsRangeIter h it (lo+(i:Nat)*1) ((n:Int)-(i:Nat)) 1) where
 mem:=by simp
 obj:=fun i h st b hb=>by
  have e:b=it:=by simpa using hb
  subst e
  exact⟨_,st,fun v z=>by
   have z':Data.fields _=Data.cell v:=z
   cases z'⟩
 keep:=fun i h h' st k=>k it (by simp) _ st
 item:=by
  intro X hP hw hK hc i pins s σ H E I hf st hg
  subst hP hw hK
  obtain⟨f0,f1,f2,f3,f4,f5⟩:=hf it (by simp)
  have W:=Walks.range (prog:=X.prog) (w:=X.w) (I.ok.hd hc) it lo 1 n
  refine W.item i s _ _ hg st fun v h' tk hv HG kk=>?_
  obtain⟨t,rfl⟩:=hv
  have I1:Inv X pins σ H {s with heap:=h',toks:=tk}:=I.turned (fun b o hb e=>kk b o (by simpa using hb) e) f0 f1 f3 f4 f5
  refine⟨_,rfl,DS (s:={s with heap:=h',toks:=tk}) (n:="range_iterator") HG rfl rfl (by decide) ⟨.int (lo+i),H,I1,⟨t,?_⟩,⟨rfl,rfl⟩,HG,fun b hb=>(hf b hb).1⟩⟩
  rw[Int.mul_one]
 done:=by
  intro X hP hw hK hc i pins s σ H E I hf st hg
  subst hP hw hK
  obtain⟨f0,f1,f2,f3,f4,f5⟩:=hf it (by simp)
  exact wpAny_pyNext_range_end (I.ok.hd hc) st (by have:n<=i:=hg;omega) fun h' eb=>⟨rfl,I.turned (t':=s.toks) (fun b o hb e=>eb b o hb e) f0 f1 f3 f4 f5⟩
 self:=fun _ _ _ _ _ st h=>wpAny_pyIter_rangeiter st h
end L2
namespace L2
open PySem PySem.Spec PyProof.Rows
section
variable{X:Cx}{tg:Expr}
def DT(K:PySem.W.Frag)(tl:TE):TI:=fun σ H R=>tl σ H fun x H1=>∃a,x=.ref a/\(∃xs,b7 K H1 a xs)/\R (Md K a) H1
theorem sI{l:Expr}{tl:TE}(hl:PE X l tl):PI X tg l (DT X.K tl):=by
 intro pins s σ H R I h
 refine bD (hl pins s σ H _ I h) fun v s1 ⟨x,H1,I1,r1,q1⟩=>?_
 obtain⟨a,e,⟨xs,hq⟩,q⟩:=q1
 subst e
 cases r1
 obtain⟨its,rv,p,hz⟩:=I1.list hq
 refine wpAny_pyIter_list p.isList ?_
 refine⟨s1.heap.objs.size,[s1.heap.objs.size],_,_,H1,rfl,I1.kept (t':=s1.toks) fun b o e=>Heap.get?_push_of_some _ e,Cv a _,⟨_,Heap.get?_push_size _ rfl,rfl,rfl⟩,fun b hb=>?_,q⟩
 have e:b=s1.heap.objs.size:=by simpa using hb
 subst e
 exact I1.zJ (Nat.le_refl _) (I1.hok.fresh (Nat.le_refl _))
theorem ya{pins:List (Addr×Obj)}{σ:St}{H:Hp}{s:Shared}{R:It->Hp->Prop}{E:Value->Shared->Prop}{lo hi:Int}{t u v:Tok}{tk:Nat}(I:Inv X pins σ H s)(h1: -(2^62)<=lo)(h2:lo<2^62)(h3: -(2^62)<=hi)(h4:hi<2^62)
  (q:R (P9 lo (hi-lo).toNat) H):wpAny (model X.prog X.w) X.A (pyIter (.ref s.heap.objs.size)) (XI X pins σ tg R) E {s with heap:=s.heap.push {cls:=.type "range",data:=.fields #[.int lo t,.int hi u,.int 1 v]},toks:=tk}:=by
 refine wpAny_pyIter_range (IsRange.new ..) (small_one h1 h2 h3 h4) ?_
 have I1:Inv X pins σ H {s with heap:=s.heap.push {cls:=.type "range",data:=.fields #[.int lo t,.int hi u,.int 1 v]},toks:=tk}:=I.kept fun b o e=>Heap.get?_push_of_some _ e
 refine⟨(s.heap.push {cls:=.type "range",data:=.fields #[.int lo t,.int hi u,.int 1 v]}).objs.size,[(s.heap.push {cls:=.type "range",data:=.fields #[.int lo t,.int hi u,.int 1 v]}).objs.size],_,_,H,rfl,
  I1.kept (t':=tk) fun b o e=>Heap.get?_push_of_some _ e,zK _ lo (hi-lo).toNat,?_,fun b hb=>?_,q⟩
 ·have e1:lo+((0:Nat):Int)*1=lo:=by simp
  have e2:(((hi-lo).toNat:Nat):Int)-((0:Nat):Int)=Builtin.Range.rangeSize lo hi 1:=by rw[rangeSize_one];split<;>omega
  show IsRangeIter _ _ (lo+((0:Nat):Int)*1) ((((hi-lo).toNat:Nat):Int)-((0:Nat):Int)) 1
  rw[e1,e2]
  exact Heap.get?_push_size _ rfl
 ·have e:b=(s.heap.push {cls:=.type "range",data:=.fields #[.int lo t,.int hi u,.int 1 v]}).objs.size:=by simpa using hb
  subst e
  exact I1.zJ (Nat.le_refl _) (I1.hok.fresh (Nat.le_refl _))
def Qa(ta:TA):TI:=fun σ H R=>ta σ H fun vs H1=>∃j:Int,vs=[.int j]/\ -(2^62)<=j/\j<2^62/\R (P9 0 j.toNat) H1
def Qc(ta:TA):TI:=fun σ H R=>ta σ H fun vs H1=>∃i j:Int,vs=[.int i,.int j]/\(-(2^62)<=i/\i<2^62/\ -(2^62)<=j/\j<2^62)/\R (P9 i (j-i).toNat) H1
theorem Cw{a:Expr}{ta:TA}{p pos:Pos}(hg:Gl X "range")(hm:X.mg "range"=none)(ha:PA X [a] ta)(hs:starEach [a] X.env=[(false,eval a X.env)]:=by rfl):PI X tg (.Call (.Name "range" p) [a] [] pos) (Qa ta):=by
 intro pins s σ H R I h
 refine Call_ (dS I hg hm boot_range (PyProof.Rows.callWith_type1 (bD (ha pos pins s σ H _ I h) fun us s1 ⟨vs,H1,I1,r1,q1⟩=>?_) hs rfl))
 obtain⟨j,e,q1,q2,q⟩:=q1
 subst e
 cases r1 with
 |cons r rr=>
  cases rr
  obtain⟨t,rfl⟩:=r
  exact call_range_1 (ya I1 (by omega) (by omega) q1 q2 (by simpa using q))
theorem Cy{a b:Expr}{ta:TA}{p pos:Pos}(hg:Gl X "range")(hm:X.mg "range"=none)(ha:PA X [a,b] ta)(hs:starEach [a,b] X.env=[(false,eval a X.env),(false,eval b X.env)]:=by rfl)(hs2:starEach [b] X.env=[(false,eval b X.env)]:=by rfl):
  PI X tg (.Call (.Name "range" p) [a,b] [] pos) (Qc ta):=by
 intro pins s σ H R I h
 refine Call_ (dS I hg hm boot_range (PyProof.Rows.callWith_type1 (bD (ha pos pins s σ H _ I h) fun us s1 ⟨vs,H1,I1,r1,q1⟩=>?_) (by rw[hs,hs2]) (by rw[hs2];rfl)))
 obtain⟨i,j,e,⟨q1,q2,q3,q4⟩,q⟩:=q1
 subst e
 cases r1 with
 |cons r rr=>
  cases rr with
  |cons r' rr=>
   cases rr
   obtain⟨t,rfl⟩:=r
   obtain⟨t',rfl⟩:=r'
   exact call_range_2 (ya I1 q1 q2 q3 q4 q)
def Uv(wi:TI)(g:TG)(tb:TS):TS:=fun D σ H=>wi σ H fun J H1=>∃W:Nat->Nat->St->Hp->Prop,(∃m,W 0 m σ H1)/\∀i m σ H,W i m σ H->
 (J.stop i H/\D.nx σ H)\/(J.go i H/\∃N:St->Hp->Prop,(∀σ' H',N σ' H'->∃m',m'<m/\W (i+1) m' σ' H')/\∀x H',J.P8 i H x H'->g x σ H' fun σ2 H2=>tb {D with nx:=N,ct:=N,bk:=D.nx} σ2 H2)
def oW(fp:List Addr)(h:Heap):List (Addr×Obj):=fp.filterMap fun b=>(h.get? b).map fun o=>(b,o)
theorem du{fp:List Addr}{h:Heap}{b:Addr}{o:Obj}(hb:b∈fp)(e:h.get? b=some o):(b,o)∈oW fp h:=List.mem_filterMap.mpr ⟨b,hb,by rw[e];rfl⟩
theorem Cz{fp:List Addr}{h:Heap}{p:Addr×Obj}(hp:p∈oW fp h):p.1∈fp/\h.get? p.1=some p.2:=by
 obtain⟨b,hb,e⟩:=List.mem_filterMap.mp hp
 cases q:h.get? b with
 |none=>rw[q]at e;cases e
 |some o=>
  rw[q]at e
  have e':(b,o)=p:=Option.some.inj e
  subst e'
  exact⟨hb,q⟩
theorem Inv.pinned {pins:List (Addr×Obj)}{σ:St}{H:Hp}{s:Shared}{fp:List Addr}(I:Inv X pins σ H s)(hf:∀b∈fp,jI X pins H b)(ho:∀b∈fp,∃o,s.heap.get? b=some o/\∀v,o.data≠.cell v):Inv X (pins++oW fp s.heap) σ H s:=
 I.AS fun p hp=>(mem_append.mp hp).elim (fun z=>I.pin p (mem_append_right _ z)) fun z=>by
  obtain⟨hb,e⟩:=Cz z
  obtain⟨f0,f1,f2,_⟩:=hf p.1 hb
  obtain⟨o,e',d⟩:=ho p.1 hb
  rw[e]at e';cases e'
  exact⟨e,f0,f1,f2,d⟩
theorem Inv.g8 {pins pl:List (Addr×Obj)}{σ:St}{H:Hp}{s:Shared}(I:Inv X (pins++pl) σ H s):Inv X pins σ H s:=I.AS fun p hp=>I.pin p (mem_append_right _ (mem_append_left _ hp))
theorem DU{iter:Expr}{body:List Stmt}{wi:TI}{g:TG}{tb:TS}{pos:Pos}(hp:PassesOwn (model X.prog X.w) X.A X.env X.xe)(hc:X.calm=true)(hi:PI X tg iter wi)(hg:PG X tg g)(hb:oV X body tb)
  (hs:∀x,foldedSetIterable iter X.env x=pure x:=by intro _;rfl):PS X (.For tg iter body [] pos) (Uv wi g tb):=by
 intro pins s σ H D I h
 refine wpAny_For (bD (hi pins s σ H _ I h) fun v s1 h1=>bD h1 fun itv s2 h2=>?_) hs
 obtain⟨it,fp,tn,J,H2,e,I2,T,yb,f2,W,⟨m0,w0⟩,turn⟩:=h2
 subst e
 have Me:∀{H':Hp},(∀b∈fp,H' b=none)->∀b∈fp,jI X pins H' b:=fun hn b hb=>⟨hn b hb,(f2 b hb).2⟩
 refine codeAny_forLoop_any (fun n s'=>∃i σ' H',Inv X pins σ' H' s'/\tn i s'.heap/\(∀b∈fp,H' b=none)/\W i n σ' H') ?_ m0 ⟨0,σ,H2,I2,yb,fun b hb=>(f2 b hb).1,w0⟩
 rintro n s3 ⟨i,σ3,H3,I3,XJ,qz,w3⟩
 rcases turn i n σ3 H3 w3 with⟨stop,qn⟩|⟨go,N,hN,step⟩
 ·refine wpAny_passesOwn hp (bD (T.done X rfl rfl rfl hc i pins s3 σ3 H3 X.xe I3 (Me qz) XJ stop) fun r s4 ⟨hr,I4⟩=>?_)
  subst hr
  exact wpAny_execs_nil ⟨σ3,H3,I4,qn⟩
 ·refine wpAny_passesOwn hp (bD (T.item X rfl rfl rfl hc i pins s3 σ3 H3 X.xe I3 (Me qz) XJ go) fun r s4 ⟨u,hr,h4⟩=>?_)
  subst hr
  refine wpAny_passesOwn hp (bD h4 fun _ s5 ⟨x,H5,I5,r5,y5,Dt,CA⟩=>?_)
  have ZD:=I5.pinned (Me CA) (T.obj _ _ Dt)
  refine wpAny_passesOwn hp (bD (hg _ s5 σ3 H5 x u _ ZD r5 (step x H5 y5)) fun _ s6 ⟨σ6,H6,I6,q6⟩=>?_)
  refine wpAny_passesOwn hp (bD (hb _ s6 σ6 H6 _ I6 q6) fun f s7 q7=>?_)
  have again:∀{σ7:St}{H7:Hp},Inv X (pins++oW fp s5.heap) σ7 H7 s7->N σ7 H7->∃m,m<n/\∃i σ' H',Inv X pins σ' H' s7/\tn i s7.heap/\(∀b∈fp,H' b=none)/\W i m σ' H':=fun{σ7 H7} I7 n7=>by
   obtain⟨m',hm,w7⟩:=hN σ7 H7 n7
   refine⟨m',hm,i+1,σ7,H7,I7.g8,T.keep _ _ _ Dt fun b hb o e=>(I7.pin (b,o) (mem_append_right _ (mem_append_right _ (du hb e)))).1,fun b hb=>?_,w7⟩
   obtain⟨o,e,d⟩:=T.obj _ _ Dt b hb
   exact(I7.pin (b,o) (mem_append_right _ (mem_append_right _ (du hb e)))).2.1
  cases f with
  |next=>obtain⟨σ7,H7,I7,n7⟩:=q7;exact again I7 n7
  |cont=>obtain⟨σ7,H7,I7,n7⟩:=q7;exact again I7 n7
  |brk=>obtain⟨σ7,H7,I7,q7⟩:=q7;exact⟨σ7,H7,I7.g8,q7⟩
  |ret v=>obtain⟨x7,σ7,H7,I7,r7,q7⟩:=q7;exact⟨x7,σ7,H7,I7.g8,r7,q7⟩
end
theorem DV{K:PySem.W.Frag}{a:Addr}{xs:List V}{g:TG}{tb:TS}{D:Ends}{σ:St}{H:Hp}(Pv:Nat->St->Hp->Prop)(h0:Pv 0 σ H)(hl:∀i σ H,i<=xs.length->Pv i σ H->b7 K H a xs)
  (hs:∀i x σ H,xs[i]?=some x->Pv i σ H->g x σ H fun σ2 H2=>tb {D with nx:=Pv (i+1),ct:=Pv (i+1),bk:=D.nx} σ2 H2)(hd:∀σ H,Pv xs.length σ H->D.nx σ H):
  ∃W:Nat->Nat->St->Hp->Prop,(∃m,W 0 m σ H)/\∀i m σ H,W i m σ H->
   ((Md K a).stop i H/\D.nx σ H)\/((Md K a).go i H/\∃N:St->Hp->Prop,(∀σ' H',N σ' H'->∃m',m'<m/\W (i+1) m' σ' H')/\∀x H',(Md K a).P8 i H x H'->g x σ H' fun σ2 H2=>tb {D with nx:=N,ct:=N,bk:=D.nx} σ2 H2):=by
 refine⟨fun i m σ H=>m=xs.length-i/\i<=xs.length/\Pv i σ H,⟨xs.length,by simp,zero_le _,h0⟩,?_⟩
 rintro i m σ H ⟨rfl,hi,p⟩
 have q:=hl i σ H hi p
 by_cases hlt:i<xs.length
 ·refine .inr ⟨⟨xs,xs[i],q,by simp[hlt]⟩,Pv (i+1),fun σ' H' p'=>⟨xs.length-(i+1),by omega,rfl,hlt,p'⟩,fun x H' y=>?_⟩
  obtain⟨e,y⟩:=y
  subst e
  exact hs i x σ _ (y xs q) p
 ·have e:i=xs.length:=by omega
  subst e
  exact .inl ⟨⟨xs,q,Nat.le_refl _⟩,hd σ H p⟩
end L2
namespace L2
open PySem PySem.Spec PyProof.Rows
abbrev R2:=V->V->Hp->VK->Prop
def qA(X:Cx)(f:Value->Value->Sem Value)(r:R2):Prop:=
 ∀(pins:List (Addr×Obj))(s:Shared)(σ:St)(H:Hp)(x y:V)(v u:Value)(Q:VK),Inv X pins σ H s->RelV x v->RelV y u->r x y H Q->
  wpAny (model X.prog X.w) X.A (f v u) (EP X pins σ Q) X.xe s
def Qd(X:Cx)(f:Value->Sem Value)(r:V->Hp->VK->Prop):Prop:=
 ∀(pins:List (Addr×Obj))(s:Shared)(σ:St)(H:Hp)(x:V)(v:Value)(Q:VK),Inv X pins σ H s->RelV x v->r x H Q->
  wpAny (model X.prog X.w) X.A (f v) (EP X pins σ Q) X.xe s
def oB(X:Cx)(f:Value)(r:List V->Hp->VK->Prop):Prop:=
 ∀(pins:List (Addr×Obj))(s:Shared)(σ:St)(H:Hp)(xs:List V)(us:List Value)(Q:VK),Inv X pins σ H s->Vals xs us->r xs H Q->
  wpAny (model X.prog X.w) X.A (call f us) (EP X pins σ Q) X.xe s
def Qe(r:R2)(ta tb:TE):TE:=fun σ H Q=>ta σ H fun x H1=>tb σ H1 fun y H2=>r x y H2 Q
def ZE(r:V->Hp->VK->Prop)(ta:TE):TE:=fun σ H Q=>ta σ H fun x H1=>r x H1 Q
def rI(C:Int->Int->Prop)(g:Int->Int->V):R2:=fun x y H Q=>∃i j,x=.int i/\y=.int j/\C i j/\Q (g i j) H
def AW(g:Int->Int->V):R2:=fun x y H Q=>∃i j,x=.int i/\y=.int j/\Q (g i j) H
def rU(g:Int->V):V->Hp->VK->Prop:=fun x H Q=>∃i,x=.int i/\Q (g i) H
section
variable{X:Cx}{a b c:Expr}{ta tb tc:TE}{pos:Pos}
theorem Mf(ha:PE X a ta)(hb:PE X b tb){pins:List (Addr×Obj)}{s:Shared}{σ:St}{H:Hp}{R:V->V->Hp->Prop}(I:Inv X pins σ H s)
  (h:ta σ H fun x H1=>tb σ H1 fun y H2=>R x y H2){Q:Value->Shared->Prop}{f:Value->Value->Sem Value}
  (hf:∀v u s2 x y H2,Inv X pins σ H2 s2->RelV x v->RelV y u->R x y H2->wpAny (model X.prog X.w) X.A (f v u) Q X.xe s2):
  wpAny (model X.prog X.w) X.A (eval a X.env) (fun v s₁=>wpAny (model X.prog X.w) X.A (eval b X.env) (fun u s₂=>wpAny (model X.prog X.w) X.A (f v u) Q X.xe s₂) X.xe s₁) X.xe s:=by
 refine bD (ha pins s σ H _ I h) fun v s1 ⟨x,H1,I1,r1,q1⟩=>?_
 refine bD (hb pins s1 σ H1 _ I1 q1) fun u s2 ⟨y,H2,I2,r2,q2⟩=>?_
 exact hf v u s2 x y H2 I2 r1 r2 q2
theorem pC{op:Operator}{r:R2}(ho:qA X (binaryOp op) r)(ha:PE X a ta)(hb:PE X b tb):PE X (.BinOp a op b pos) (Qe r ta tb):=by
 intro pins s σ H Q I h
 exact wpAny_BinOp (Mf ha hb I h fun v u s2 x y H2 I2 rx ry q=>ho pins s2 σ H2 x y v u Q I2 rx ry q)
theorem AX{op:UnaryOp}{r:V->Hp->VK->Prop}(ho:Qd X (unaryOp op) r)(ha:PE X a ta):PE X (.UnaryOp op a pos) (ZE r ta):=by
 intro pins s σ H Q I h
 exact UnaryOp_ (bD (ha pins s σ H _ I h) fun v s1 ⟨x,H1,I1,r1,q1⟩=>ho pins s1 σ H1 x v Q I1 r1 q1)
theorem Qf{f:Value->Value->Sem Value}{C:Int->Int->Prop}{g:Int->Int->Int}
  (rule:∀(i j:Int)(t u:Tok)(s:Shared)(Q:Value->Shared->Prop)(E:Value->Shared->Prop),C i j->Q (.int (g i j) s.toks) {s with toks:=s.toks+1}->wpAny (model X.prog X.w) X.A (f (.int i t) (.int j u)) Q E s):
  qA X f (rI C fun i j=>.int (g i j)):=by
 intro pins s σ H x y v u Q I rx ry h
 obtain⟨i,j,rfl,rfl,hc,q⟩:=h
 obtain⟨t,rfl⟩:=rx
 obtain⟨t',rfl⟩:=ry
 exact rule i j t t' s _ _ hc ⟨.int (g i j),H,I.tok _,⟨_,rfl⟩,q⟩
theorem Mg{f:Value->Value->Sem Value}{g:Int->Int->Int}
  (rule:∀(i j:Int)(t u:Tok)(s:Shared)(Q:Value->Shared->Prop)(E:Value->Shared->Prop),Q (.int (g i j) s.toks) {s with toks:=s.toks+1}->wpAny (model X.prog X.w) X.A (f (.int i t) (.int j u)) Q E s):
  qA X f (AW fun i j=>.int (g i j)):=by
 intro pins s σ H x y v u Q I rx ry h
 obtain⟨i,j,rfl,rfl,q⟩:=h
 obtain⟨t,rfl⟩:=rx
 obtain⟨t',rfl⟩:=ry
 exact rule i j t t' s _ _ ⟨.int (g i j),H,I.tok _,⟨_,rfl⟩,q⟩
theorem Mh{f:Value->Value->Sem Value}{g:Int->Int->Bool}
  (rule:∀(i j:Int)(t u:Tok)(s:Shared)(Q:Value->Shared->Prop)(E:Value->Shared->Prop),Q (.bool (g i j)) s->wpAny (model X.prog X.w) X.A (f (.int i t) (.int j u)) Q E s):
  qA X f (AW fun i j=>.bl (g i j)):=by
 intro pins s σ H x y v u Q I rx ry h
 obtain⟨i,j,rfl,rfl,q⟩:=h
 obtain⟨t,rfl⟩:=rx
 obtain⟨t',rfl⟩:=ry
 exact rule i j t t' s _ _ ⟨.bl (g i j),H,I,rfl,q⟩
def Qg(i j:Int):Prop:=0<j/\j<1073741824
def CB(i j:Int):Prop:=0<=j/\j<=1000000/\i.natAbs<2^64
def HH(i j:Int):Prop:=(-(2^64)<i/\i<2^64)\/(-(2^64)<j/\j<2^64)
theorem HH.ok {i j:Int}(h:HH i j):IntMulOk i j:=by
 rcases h with⟨h1,h2⟩|⟨h1,h2⟩
 ·exact .of_left (intBits_le_64 h1 h2)
 ·exact .of_right (intBits_le_64 h1 h2)
theorem fO:qA X (binaryOp .Add) (AW fun i j=>.int (i+j)):=Mg fun _ _ _ _ _ _ _ q=>add_int q
theorem bA:qA X (binaryOp .Sub) (AW fun i j=>.int (i-j)):=Mg fun _ _ _ _ _ _ _ q=>sub_int q
theorem tH:qA X (binaryOp .Mult) (rI HH fun i j=>.int (i*j)):=Qf fun _ _ _ _ _ _ _ hc q=>mul_int q hc.ok
theorem nM:qA X (binaryOp .FloorDiv) (rI Qg fun i j=>.int (i/j)):=Qf fun i j _ _ _ _ _ hc q=>by
 have h1:(0:Int)<j:=hc.1
 have h2:j<1073741824:=hc.2
 exact floordiv_int (by omega) (by rw[Int.fdiv_eq_ediv_of_nonneg i (by omega)];exact q) (.inl (PyProof.noPylong_small (by omega)))
theorem iC:qA X (binaryOp .Mod) (rI (fun _ j=>0<j) fun i j=>.int (i%j)):=Qf fun i j _ _ _ _ _ hc q=>by
 have h1:(0:Int)<j:=hc
 exact mod_int' (by omega) (by rw[Int.fmod_eq_emod_of_nonneg i (by omega)];exact q)
theorem Mi:qA X (binaryOp .Pow) (rI CB fun i j=>.int (i^j.toNat)):=Qf fun _ _ _ _ _ _ _ hc q=>pow_int_small hc.1 hc.2.1 hc.2.2 q
theorem Mj:qA X (binaryOp .LShift) (rI CB fun i j=>.int (i*2^j.toNat)):=Qf fun _ _ _ _ _ _ _ hc q=>lshift_int_small hc.1 hc.2.1 hc.2.2 q
theorem DW:qA X (binaryOp .BitAnd) (AW fun i j=>.int (Builtin.bitAnd i j)):=Mg fun _ _ _ _ _ _ _ q=>and_int q
theorem XM{f:Value->Sem Value}{g:Int->Int}
  (rule:∀(i:Int)(t:Tok)(s:Shared)(Q:Value->Shared->Prop)(E:Value->Shared->Prop),Q (.int (g i) s.toks) {s with toks:=s.toks+1}->wpAny (model X.prog X.w) X.A (f (.int i t)) Q E s):
  Qd X f (rU fun i=>.int (g i)):=by
 intro pins s σ H x v Q I rx h
 obtain⟨i,rfl,q⟩:=h
 obtain⟨t,rfl⟩:=rx
 exact rule i t s _ _ ⟨.int (g i),H,I.tok _,⟨_,rfl⟩,q⟩
theorem jg:Qd X (unaryOp .USub) (rU fun i=>.int (-i)):=XM fun _ _ _ _ _ q=>neg_int q
theorem DX:Qd X (unaryOp .Invert) (rU fun i=>.int (Builtin.bitNot i)):=XM fun _ _ _ _ _ q=>invert_int q
end
def Uw:V->V->Bool
 |.non,.non=>true|.non,.int _=>true|.int _,.non=>true|.non,.bl _=>true|.bl _,.non=>true|.non,.str _=>true|.str _,.non=>true
 |.int _,.int _=>true|.bl _,.bl _=>true|.str _,.str _=>true|.Dr _,.Dr _=>true
 |.int _,.str _=>true|.str _,.int _=>true|.bl _,.str _=>true|.str _,.bl _=>true
 |_,_=>false
def ZF:R2:=fun x y H Q=>Uw x y=true/\Q (.bl (decide (x=y))) H
theorem HJ{i j:Int}:decide (V.int i=V.int j)=(i==j):=by
 rw[Bool.eq_iff_iff]
 simp
theorem Ml{i j:Bool}:decide (V.bl i=V.bl j)=(i==j):=by
 rw[Bool.eq_iff_iff]
 simp
theorem HK{i j:Str}:decide (V.str i=V.str j)=(i==j):=by
 rw[Bool.eq_iff_iff]
 simp
theorem HL{i j:Array UInt8}:decide (V.Dr i=V.Dr j)=(i.toList==j.toList):=by
 rw[Bool.eq_iff_iff]
 cases i
 cases j
 simp
section
variable{X:Cx}{a b c:Expr}{ta tb tc:TE}{pos:Pos}
theorem dw{pins:List (Addr×Obj)}{σ:St}{H:Hp}{s:Shared}{Q:VK}{k k':Bool}(I:Inv X pins σ H s)(q:Q (.bl k) H)(e:k=k'):EP X pins σ Q (.bool k') s:=by
 subst e
 exact⟨.bl k,H,I,rfl,q⟩
theorem DY:qA X (compareOp .Eq) ZF:=by
 intro pins s σ H x y v u Q I rx ry h
 obtain⟨hs,q⟩:=h
 cases x with
 |non=>
  cases rx
  cases y with
  |non=>cases ry;exact PySem.EqNone.eq_none_none (dw I q (by simp))
  |bl j=>cases ry;exact PySem.EqNone.eq_none_bool (dw I q (by simp))
  |int j=>obtain⟨t',rfl⟩:=ry;exact PySem.EqNone.eq_none_int (dw I q (by simp))
  |str j=>obtain⟨t',rfl⟩:=ry;exact PySem.EqNone.eq_none_str (dw I q (by simp))
  |_=>exact absurd (show false=true from hs) Bool.false_ne_true
 |bl i=>
  cases rx
  cases y with
  |non=>cases ry;exact PySem.EqNone.eq_bool_none (dw I q (by simp))
  |bl j=>cases ry;exact eq_bool (dw I q Ml)
  |str j=>obtain⟨t',rfl⟩:=ry;exact PySem.EqMixed.eq_bool_str (dw I q (by simp))
  |_=>exact absurd (show false=true from hs) Bool.false_ne_true
 |int i=>
  obtain⟨t,rfl⟩:=rx
  cases y with
  |non=>cases ry;exact PySem.EqNone.eq_int_none (dw I q (by simp))
  |int j=>obtain⟨t',rfl⟩:=ry;exact eq_int (dw I q HJ)
  |str j=>obtain⟨t',rfl⟩:=ry;exact PySem.EqMixed.eq_int_str (dw I q (by simp))
  |_=>exact absurd (show false=true from hs) Bool.false_ne_true
 |str i=>
  obtain⟨t,rfl⟩:=rx
  cases y with
  |non=>cases ry;exact PySem.EqNone.eq_str_none (dw I q (by simp))
  |bl j=>cases ry;exact PySem.EqMixed.eq_str_bool (dw I q (by simp))
  |int j=>obtain⟨t',rfl⟩:=ry;exact PySem.EqMixed.eq_str_int (dw I q (by simp))
  |str j=>obtain⟨t',rfl⟩:=ry;exact eq_str (dw I q HK)
  |_=>exact absurd (show false=true from hs) Bool.false_ne_true
 |Dr i=>
  obtain⟨t,rfl⟩:=rx
  cases y with
  |Dr j=>obtain⟨t',rfl⟩:=ry;exact PySem.W.eq_bytes (dw I q HL)
  |_=>exact absurd (show false=true from hs) Bool.false_ne_true
 |_=>cases y<;>exact absurd (show false=true from hs) Bool.false_ne_true
theorem tJ:qA X (compareOp .Lt) (AW fun i j=>.bl (decide (i<j))):=Mh fun _ _ _ _ _ _ _ q=>lt_int q
theorem Qh:qA X (compareOp .LtE) (AW fun i j=>.bl (decide (i<=j))):=Mh fun _ _ _ _ _ _ _ q=>le_int q
theorem jK:qA X (compareOp .Gt) (AW fun i j=>.bl (decide (j<i))):=Mh fun _ _ _ _ _ _ _ q=>gt_int q
theorem Mm:qA X (compareOp .Is) (fun x y H Q=>y=.non/\Q (.bl (decide (x=.non))) H):=by
 intro pins s σ H x y v u Q I rx ry h
 obtain⟨rfl,q⟩:=h
 cases ry
 refine is_none_gen (dw I q ?_)
 cases x<;>first
  |(cases rx;rfl)
  |(obtain⟨t,rfl⟩:=rx;rfl)
theorem HM:qA X (compareOp .IsNot) (fun x y H Q=>y=.non/\Q (.bl (!decide (x=.non))) H):=by
 intro pins s σ H x y v u Q I rx ry h
 obtain⟨rfl,q⟩:=h
 cases ry
 refine isnot_none_gen (dw I q ?_)
 cases x<;>first
  |(cases rx;rfl)
  |(obtain⟨t,rfl⟩:=rx;rfl)
theorem aK(b:Expr){op:CmpOp}(h:op≠.In:=by decide)(h2:op≠.NotIn:=by decide):behindInMarks op b=false:=by
 have e1:(op==CmpOp.In)=false:=by cases op<;>first|rfl|exact absurd rfl h
 have e2:(op==CmpOp.NotIn)=false:=by cases op<;>first|rfl|exact absurd rfl h2
 cases b<;>simp[behindInMarks,e1,e2]
theorem HN{op:CmpOp}{r:R2}(ho:qA X (compareOp op) r)(ha:PE X a ta)(hb:PE X b tb)(hm:behindInMarks op b=false):PE X (.Compare a [op] [b] pos) (Qe r ta tb):=by
 intro pins s σ H Q I h
 exact wpAny_Compare1 (Mf ha hb I h fun v u s2 x y H2 I2 rx ry q=>ho pins s2 σ H2 x y v u Q I2 rx ry q) hm
def Qi(t:TE):TT:=fun σ H Q=>t σ H fun x H'=>∃k,x=.bl k/\Q k H'
theorem iX{op:CmpOp}{r:R2}(ho:qA X (compareOp op) r)(ha:PE X a ta)(hb:PE X b tb)(hm:behindInMarks op b=false):PT X (.Compare a [op] [b] pos) (Qi (Qe r ta tb)):=by
 intro pins s σ H Q I h
 refine wpAny_isTrue_Compare1 (bD (ha pins s σ H _ I h) fun v s1 ⟨x,H1,I1,r1,q1⟩=>bD (hb pins s1 σ H1 _ I1 q1) fun u s2 ⟨y,H2,I2,r2,q2⟩=>
  bD (ho pins s2 σ H2 x y v u _ I2 r1 r2 q2) fun c s3 ⟨z,H3,I3,r3,k,e,q3⟩=>?_) hm
 subst e
 cases r3
 exact wpAny_truthy_bool ⟨H3,I3,q3⟩
theorem oX:(sizeLine:Nat)<2^63:=by rw[sizeLine_eq];decide
theorem vals1{x:V}{us:List Value}(r:Vals [x] us):∃u,us=[u]/\RelV x u:=by
 cases r with
 |cons r1 r2=>cases r2;exact⟨_,rfl,r1⟩
theorem vals2{x y:V}{us:List Value}(r:Vals [x,y] us):∃u w',us=[u,w']/\RelV x u/\RelV y w':=by
 cases r with
 |cons r1 r2=>
  cases r2 with
  |cons r3 r4=>cases r4;exact⟨_,_,rfl,r1,r3⟩
theorem tK:oB X (.builtin "abs") (fun xs H Q=>∃i,xs=[.int i]/\Q (.int (if i<0 then-i else i)) H):=by
 intro pins s σ H xs us Q I r h
 obtain⟨i,rfl,q⟩:=h
 obtain⟨u,rfl,t,rfl⟩:=vals1 r
 exact call_abs_int fun u tk=>⟨.int (if i<0 then-i else i),H,I.tok _,⟨_,rfl⟩,q⟩
theorem CC(hc:X.calm=true):oB X (.builtin "max") (fun xs H Q=>∃i j,xs=[.int i,.int j]/\Q (.int (if j>i then j else i)) H):=by
 intro pins s σ H xs us Q I r h
 obtain⟨i,j,rfl,q⟩:=h
 obtain⟨u,w',rfl,⟨t,rfl⟩,⟨t',rfl⟩⟩:=vals2 r
 refine max_two_ints (I.ok.hd hc) fun h' tk k=>⟨_,H,I.kept k,?_,q⟩
 by_cases hj:j>i
 ·rw[if_pos hj,if_pos hj];exact⟨_,rfl⟩
 ·rw[if_neg hj,if_neg hj];exact⟨_,rfl⟩
def Qj(K:PySem.W.Frag)(x:V)(H:Hp)(n:Nat):Prop:=
 match x with
 |.str y=>y.length<=sizeLine/\n=y.length
 |.Dr y=>y.size<=sizeLine/\n=y.size
 |.ref p=>(∃xs,b7 K H p xs/\n=xs.length)\/∃xs,x9 K H p xs/\n=xs.length
 |_=>False
theorem cQ:oB X (.builtin "len") (fun xs H Q=>∃x n,xs=[x]/\Qj X.K x H n/\Q (.int n) H):=by
 intro pins s σ H xs us Q I r h
 obtain⟨x,n,rfl,e,q⟩:=h
 obtain⟨u,rfl,rx⟩:=vals1 r
 have hl:=oX
 have hs:sizeLine=16777216:=sizeLine_eq
 cases x with
 |str y=>
  obtain⟨t,rfl⟩:=rx
  obtain⟨hy,e'⟩:y.length<=sizeLine/\n=y.length:=e
  subst e'
  exact len_str (by omega) ⟨.int _,H,I.tok _,⟨_,rfl⟩,q⟩
 |Dr y=>
  obtain⟨t,rfl⟩:=rx
  obtain⟨hy,e'⟩:y.size<=sizeLine/\n=y.size:=e
  subst e'
  exact PySem.W.len_bytes (by omega) ⟨.int _,H,I.tok _,⟨_,rfl⟩,q⟩
 |ref p=>
  cases rx
  have e':(∃xs,b7 X.K H p xs/\n=xs.length)\/∃xs,x9 X.K H p xs/\n=xs.length:=e
  rcases e' with⟨xs,hx,e'⟩|⟨xs,hx,e'⟩
  ·subst e'
   obtain⟨its,r',pl,hz⟩:=I.list hx
   have hlen:=r'.length
   exact Calls.call_len_list pl.isList (by simp only [size_toArray];omega) ⟨.int xs.length,H,I.tok _,⟨_,by simp only [size_toArray];rw[hlen]⟩,q⟩
  ·subst e'
   obtain⟨its,r',pl,hz⟩:=I.tuple hx
   have hlen:=r'.length
   exact len_tuple pl (by simp only [size_toArray];omega) ⟨.int xs.length,H,I.tok _,⟨_,by simp only [size_toArray];rw[hlen]⟩,q⟩
 |_=>exact(show False from e).elim
end
end L2
namespace L2
open PySem PySem.Spec PyProof.Rows
structure zL(h:Heap)(x dx C:Addr)(mA:Str->Option Value):Prop where
 obj:h.get? x=some (instObj C dx)
 ns:h.Ns1 dx mA
 ne:dx≠x
theorem CD{h:Heap}{dx:Addr}{mA:Str->Option Value}(n:h.Ns1 dx mA):∃od,h.get? dx=some od/\∀name,lookIn name od=some (mA name):=by
 obtain⟨o,es,ep,ho,hd,hk,_,hm⟩:=n
 refine⟨o,ho,fun name=>?_⟩
 have e:=hm name
 unfold nsFind findBy at e
 rw[<-Array.find?_toList]at e
 unfold lookIn
 rw[hd]
 dsimp only
 split
 ·rename_i y q
  rw[q]at e
  exact congrArg some e
 ·rename_i q
  rw[q]at e
  have a:es.toList.any (·.refKey)=false:=by
   rw[List.any_eq_false]
   intro y hy
   obtain⟨z,t,hkey⟩:=hk y (Array.mem_toList_iff.mp hy)
   simp[DictEntry.refKey,hkey]
  have a':¬es.toList.any (·.refKey)=true:=by rw[a];exact Bool.false_ne_true
  rw[if_neg a']
  exact congrArg some e
theorem zL.look {h:Heap}{x dx C:Addr}{mA:Str->Option Value}(I:zL h x dx C mA):∃od,PySem.W.InstAt h x (instObj C dx) C (some od)/\∀name,lookIn name od=some (mA name):=
 let⟨od,ho,hl⟩:=CD I.ns
 ⟨od,⟨I.obj,rfl,rfl,ho⟩,hl⟩
section
variable{prog:Program}{w:World}{A:Around}{E:Value->Shared->Prop}{s:Shared}{K:PySem.W.Frag}{x dx C f:Addr}{mA:Str->Option Value}{name:Str}{v:Value}
theorem get_map{expr:Bool}{Q:Value->Shared->Prop}(X:K.In s.heap)(I:zL s.heap x dx C mA)(hg:plainGet K C name=true)(hh:hasDictIn K C=true)
  (ha:findIn K (.ref C) name=some none)(hv:mA name=some v)(ZG:handedIn v=true)(h:Q v {s with toks:=s.toks+1}):
  wpAny (model prog w) A (getAttr (.ref x) name expr) Q E s:=by
 obtain⟨od,J,hl⟩:=I.look
 exact PySem.W.get_value X J (plainGet_of hg).1 (PySem.W.findObj_own hh ha rfl (by rw[hl,hv])) ZG h
theorem DZ{pl:Sem Bool}{Q:Value×List Value->Shared->Prop}(X:K.In s.heap)(I:zL s.heap x dx C mA)(hg:plainGet K C name=true)
  (hf:findIn K (.ref C) name=some (some (.ref f)))(ht:isFn K (.ref f)=true)(hv:mA name=none)(h:Q (.ref f,[.ref x]) s):
  wpAny (model prog w) A (getMethod (.ref x) name pl) Q E s:=by
 obtain⟨od,J,hl⟩:=I.look
 exact PySem.W.method_fn X J (plainGet_of hg).1 (plainGet_of hg).2 hf (beq_iff_eq.mp ht) (by show(lookIn name od).map (·.isSome)=some false;rw[hl,hv];rfl) h
theorem HP{ns:List Str}{Q:Unit->Shared->Prop}(X:K.In s.heap)(I:zL s.heap x dx C mA)
  (hs:findIn K (.ref C) "__setattr__"=some (some (.builtin "object.__setattr__")))(hp:plainOver K C=true)(ht:takerIn K C name=some none)(hh:hasDictIn K C=true)
  (hw:PySem.Within mA ns)(hsz:ns.length<=sizeLine)
  (h:∀h',zL h' x dx C (fun y=>if y=name then some v else mA y)->Heap.SameBut dx s.heap h'->Q () {s with heap:=h',toks:=s.toks+2}):
  wpAny (model prog w) A (setAttr (.ref x) name v) Q E s:=by
 obtain⟨od,J,hl⟩:=I.look
 refine PySem.W.set_plain X J hs (PySem.W.osa_open (s:={s with toks:=s.toks+1}) (r:=none) X J hp ht fun b=>?_)
 obtain⟨cd,hc,HA⟩:=PySem.W.any_some hh
 have hx:s.heap.get? x=some ⟨.ref C,some dx,.plain,#[]⟩:=I.obj
 refine wpAny_bind (wpAny_pure (wpAny_bind (wpAny_bind (wpAny_loadPart hx (wpAny_bind (Looks.here (s:={s with toks:=s.toks+1}) (PySem.W.looks_clsIn X hc) ?_))))))
 rw[HA]
 refine wpAny_pure (a:=some dx) (wpAny_bind (wpAny_pure (wpAny_bind ?_)))
 refine wpAny_nsSet1 (s:={s with toks:=s.toks+1}) I.ns fun h' hn2 hs2=>?_
 obtain⟨oD,esD,epD,ZI,ZJ,ZK⟩:=hn2.count (PySem.Within.cons name v hw)
 refine wpAny_bind (wpAny_lookBehind ZI (by rw[ZJ];exact pastItsLine_dict (le_trans ZK (by rw[length_cons];omega))) ?_)
 exact wpAny_pure (h _ ⟨(hs2.2 _ (Ne.symm I.ne)).trans I.obj,hn2,I.ne⟩ hs2)
theorem D0{R:Result->Shared->Prop}{vs:List Value}{kw:List (Str×Value)}(X:K.In s.heap)(hm:makesIn K C=true)
  (hi:findIn K (.ref C) "__init__"=some (some (.ref f)))(hf:typeIn K (.ref f)=some (.type "function"))
  (h:codeAny (model prog w) (A.under (.builtin "type.__call__" ⟨.ref C::vs,kw⟩)) (.call (.ref f) ⟨.ref (s.heap.objs.size+1)::vs,kw⟩) (PySem.W.InitBack (s.heap.objs.size+1) R)
   {s with heap:=(s.heap.push emptyDict).push (instObj C s.heap.objs.size)}):
  codeAny (model prog w) A (.call (.ref C) ⟨vs,kw⟩) R s:=by
 obtain⟨hh,g,d,t,os⟩:=s
 exact PySem.W.make_core (PySem.W.makes_of X hm) (PySem.W.looks_findIn X hi) (fun self=>PySem.W.bind_fn X self hf) (.inl rfl) h
end
def jh(f:Str)(v:V):List (Str×V)->List (Str×V)
 |[]=>[(f,v)]
 |(g,x)::r=>if g=f then(g,v)::r else(g,x)::jh f v r
theorem rK(f g:Str)(v:V):∀fs:List (Str×V),(jh f v fs).lookup g=if g=f then some v else fs.lookup g
 |[]=>by
  show List.lookup g [(f,v)]=_
  by_cases h:g=f
  ·have hb:(g==f)=true:=beq_iff_eq.mpr h
   simp only [List.lookup,hb,if_pos h]
  ·have hb:(g==f)=false:=beq_eq_false_iff_ne.mpr h
   simp only [List.lookup,hb,if_neg h]
 |(k,x)::r=>by
  have ih:=rK f g v r
  rw[show jh f v ((k,x)::r)=(if k=f then(k,v)::r else(k,x)::jh f v r)from rfl]
  by_cases hk:k=f
  ·rw[if_pos hk]
   by_cases h:g=k
   ·have hb:(g==k)=true:=beq_iff_eq.mpr h
    simp only [List.lookup,hb,if_pos (h.trans hk)]
   ·have hb:(g==k)=false:=beq_eq_false_iff_ne.mpr h
    simp only [List.lookup,hb,if_neg (fun e:g=f=>h (e.trans hk.symm))]
  ·rw[if_neg hk]
   by_cases h:g=k
   ·have hb:(g==k)=true:=beq_iff_eq.mpr h
    simp only [List.lookup,hb,if_neg (fun e:g=f=>hk (h.symm.trans e))]
   ·have hb:(g==k)=false:=beq_eq_false_iff_ne.mpr h
    simp only [List.lookup,hb]
    exact ih
theorem qB(f:Str)(v:V):∀fs:List (Str×V),f∈(jh f v fs).map (·.1)/\∀g,g∈fs.map (·.1)->g∈(jh f v fs).map (·.1)
 |[]=>⟨by simp[jh],fun g h=>by simp at h⟩
 |(k,x)::r=>by
  obtain⟨i1,i2⟩:=qB f v r
  rw[show jh f v ((k,x)::r)=(if k=f then(k,v)::r else(k,x)::jh f v r)from rfl]
  by_cases hk:k=f
  ·rw[if_pos hk]
   subst hk
   exact⟨by simp,fun g h=>by simpa using h⟩
  ·rw[if_neg hk]
   refine⟨?_,fun g h=>?_⟩
   ·rw[map_cons]
    exact mem_cons_of_mem _ i1
   ·rw[map_cons]at h⊢
    rcases mem_cons.mp h with e|e
    ·exact mem_cons.mpr (.inl e)
    ·exact mem_cons_of_mem _ (i2 g e)
theorem rL(f:Str)(v:V):∀fs:List (Str×V),(jh f v fs).length<=fs.length+1
 |[]=>by simp[jh]
 |(k,x)::r=>by
  have ih:=rL f v r
  rw[show jh f v ((k,x)::r)=(if k=f then(k,v)::r else(k,x)::jh f v r)from rfl]
  by_cases hk:k=f
  ·rw[if_pos hk,length_cons,length_cons];omega
  ·rw[if_neg hk,length_cons,length_cons];omega
theorem lZ.some_of {v:V}{o:Option Value}(r:lZ (some v) o):∃u,o=some u/\RelV v u:=by
 cases o with
 |none=>exact(show False from r).elim
 |some u=>exact⟨u,rfl,r⟩
theorem lZ.none_of {o:Option Value}(r:lZ none o):o=none:=by
 cases o with
 |none=>rfl
 |some u=>exact(show False from r).elim
theorem CF{v:V}{u:Value}(r:RelV v u):handedIn u=true:=by
 cases v with
 |non=>cases (show u=Value.none from r);rfl
 |bl b=>cases (show u=Value.bool b from r);rfl
 |int i=>obtain⟨t,e⟩:=(show∃t,u=Value.int i t from r);cases e;rfl
 |str x=>obtain⟨t,e⟩:=(show∃t,u=Value.str x t from r);cases e;rfl
 |Dr b=>obtain⟨t,e⟩:=(show∃t,u=Value.bytes b t from r);cases e;rfl
 |LR b=>obtain⟨t,e⟩:=(show∃t,u=Value.float b t from r);cases e;rfl
 |ref a=>cases (show u=Value.ref a from r);rfl
 |ty n=>cases (show u=Value.type n from r);rfl
section
variable{P:Program}{w:World}{H H':Hp}{h h':Heap}{a C dx:Addr}{fs XE:List (Str×V)}
theorem sJ(hok:nK P w H h)(e:H a=some (.ins C dx fs)):∃mA,zL h a dx C mA/\(∀f,lZ (fs.lookup f) (mA f))/\PySem.Within mA (fs.map (·.1))/\fs.length<=1000/\H dx=some (.own a):=by
 obtain⟨d,z,ne,ob,mA,n,r,q⟩:=(show cB P w H h a (.ins C dx fs)from hok a _ e)
 exact⟨mA,⟨ob,n,ne⟩,r,q,z,d⟩
end
structure D1(K:PySem.W.Frag)(C:Addr):Prop where
 pg:plainGet K C Str.empty=true
 hd:hasDictIn K C=true
 po:plainOver K C=true
 sa:findIn K (.ref C) "__setattr__"=some (some (.builtin "object.__setattr__"))
theorem D1.get {K:PySem.W.Frag}{C:Addr}(c:D1 K C)(f:Str):plainGet K C f=true:=c.pg
def dU(K:PySem.W.Frag)(C:Addr)(f:Str):Prop:=findIn K (.ref C) f=some none
theorem dU.Qk {K:PySem.W.Frag}{C:Addr}{f:Str}(n:dU K C f):takerIn K C f=some none:=by
 unfold takerIn
 rw[show findIn K (.ref C) f=some none from n]
 rfl
structure Meth(K:PySem.W.Frag)(C:Addr)(m:Str)(f:Addr):Prop where
 at_:findIn K (.ref C) m=some (some (.ref f))
 fn:isFn K (.ref f)=true
 kp:keepIn K (.ref f)=true
section
variable{X:Cx}{pins:List (Addr×Obj)}{σ:St}{H:Hp}{s:Shared}{a C dx:Addr}{fs:List (Str×V)}{f:Str}{v:V}{A:Around}{E:Value->Shared->Prop}
theorem zM{b:Bool}{Q:Value->Shared->Prop}(I:Inv X pins σ H s)(e:H a=some (.ins C dx fs))(c:D1 X.K C)(n:dU X.K C f)(l:fs.lookup f=some v)
  (h:∀u s',Inv X pins σ H s'->RelV v u->Q u s'):wpAny (model X.prog X.w) A (getAttr (.ref a) f b) Q E s:=by
 obtain⟨mA,O,r,_,_,_⟩:=sJ I.hok e
 obtain⟨u,hu,ru⟩:=lZ.some_of (v:=v) (o:=mA f) (by rw[<-l];exact r f)
 exact get_map I.qx O (c.get f) c.hd n hu (CF ru) (h u _ (I.tok _) ru)
theorem tM{m:Str}{g:Addr}{pl:Sem Bool}{Q:Value×List Value->Shared->Prop}(I:Inv X pins σ H s)(e:H a=some (.ins C dx fs))(c:D1 X.K C)(k:Meth X.K C m g)(l:fs.lookup m=none)
  (h:Q (.ref g,[.ref a]) s):wpAny (model X.prog X.w) A (getMethod (.ref a) m pl) Q E s:=by
 obtain⟨mA,O,r,_,_,_⟩:=sJ I.hok e
 have hn:mA m=none:=lZ.none_of (by rw[<-l];exact r m)
 exact DZ I.qx O (c.get m) k.at_ k.fn hn h
theorem zN{y:V}{u:Value}{Q:Unit->Shared->Prop}(I:Inv X pins σ H s)(e:H a=some (.ins C dx fs))(c:D1 X.K C)(n:dU X.K C f)(hl:fs.length<1000)(ry:RelV y u)
  (h:∀s',Inv X pins σ (upd H a (.ins C dx (jh f y fs))) s'->Q () s'):wpAny (model X.prog X.w) A (setAttr (.ref a) f u) Q E s:=by
 obtain⟨mA,O,r,wi,_,ho⟩:=sJ I.hok e
 have hz:(fs.map (·.1)).length<=sizeLine:=by rw[length_map,sizeLine_eq];omega
 refine HP I.qx O c.sa c.po n.Qk c.hd wi hz fun h' O' sb=>h _ ?_
 have hd:∃o,h'.get? dx=some o:=let⟨o,_,_,e',_⟩:=O'.ns;⟨o,e'⟩
 refine I.write (x:=a) (e:=dx) (by rw[e];exact True.intro) (.inr ho) (fun b q hb z=>(sb.2 b hb).trans z) hd ?_
 refine⟨by rw[ah O.ne];exact ho,?_,O.ne,O'.obj,_,O'.ns,fun g=>?_,fun g hg=>?_⟩
 ·have:=rL f y fs;omega
 ·show lZ ((jh f y fs).lookup g) (if g=f then some u else mA g)
  rw[rK]
  by_cases q:g=f
  ·rw[if_pos q,if_pos q];exact ry
  ·rw[if_neg q,if_neg q];exact r g
 ·by_cases q:g=f
  ·rw[q];exact(qB f y fs).1
  ·refine(qB f y fs).2 g (wi g fun z=>hg ?_)
   show(if g=f then some u else mA g)=none
   rw[if_neg q];exact z
theorem Inv.made (I:Inv X pins σ H s):Inv X pins σ (upd (upd H s.heap.objs.size (.own (s.heap.objs.size+1))) (s.heap.objs.size+1) (.ins C s.heap.objs.size []))
  {s with heap:=(s.heap.push emptyDict).push (instObj C s.heap.objs.size)}:=by
 have e1:(s.heap.push emptyDict).get? s.heap.objs.size=some emptyDict:=Heap.get?_push_size s.heap rfl
 have e2:((s.heap.push emptyDict).push (instObj C s.heap.objs.size)).get? (s.heap.objs.size+1)=some (instObj C s.heap.objs.size):=by
  have:=Heap.get?_push_size (s.heap.push emptyDict) (o:=instObj C s.heap.objs.size) rfl
  rwa [Heap.size_push]at this
 have e3:(s.heap.push emptyDict).Ns s.heap.objs.size (fun _=>none):=⟨emptyDict,#[],_,e1,rfl,(fun e he=>absurd he (by simp)),fun _=>rfl⟩
 have I1:=I.laid (a:=s.heap.objs.size) (o:=.own (s.heap.objs.size+1)) (h':=s.heap.push emptyDict) (t':=s.toks) (fun b u q=>Heap.get?_push_of_some _ q) (Nat.le_refl _) ⟨_,e1⟩
 refine I1.laid (a:=s.heap.objs.size+1) (o:=.ins C s.heap.objs.size []) (t':=s.toks) (fun b u q=>Heap.get?_push_of_some _ q) (le_of_eq (Heap.size_push _ _)) ?_
 have ne:s.heap.objs.size≠s.heap.objs.size+1:=ne_of_lt (lt_succ_self _)
 refine⟨by rw[ah ne,ak],zero_le _,ne,e2,fun _=>none,(Heap.Ns1.of_empty e3).at fun o q=>Heap.get?_push_of_some _ q,fun _=>True.intro,fun y hy=>absurd rfl hy⟩
theorem HQ{prog:Program}{w:World}{env:Env}{e:Expr}{f:Str}{pos:Pos}{s:Shared}{Q:Value->Shared->Prop}(hb:attributeBase e f env (eval e env)=eval e env)
  (h:wpAny (model prog w) A (eval e env) (fun o s₁=>wpAny (model prog w) A (getAttr o f true) Q E s₁) E s):wpAny (model prog w) A (eval (.Attribute e f pos) env) Q E s:=
 Attribute_any_ h (by rw[arm_eval_Attribute,hb])
end
def Ql(K:PySem.W.Frag)(ta:TE)(f:Str):TE:=fun σ H Q=>ta σ H fun x H1=>∃a C dx fs v,x=.ref a/\H1 a=some (.ins C dx fs)/\D1 K C/\dU K C f/\fs.lookup f=some v/\Q v H1
def Ux(K:PySem.W.Frag)(ta tv:TE)(f:Str):TS:=fun D σ H=>tv σ H fun y H1=>ta σ H1 fun x H2=>∃a C dx fs,x=.ref a/\H2 a=some (.ins C dx fs)/\D1 K C/\dU K C f/\fs.length<1000/\
 D.nx σ (upd H2 a (.ins C dx (jh f y fs)))
section
variable{X:Cx}{o e value:Expr}{f:Str}{pos pos' Uy:Pos}{ta tv:TE}
theorem bj(he:PE X e ta)(hb:attributeBase e f X.env (eval e X.env)=eval e X.env):PE X (.Attribute e f pos) (Ql X.K ta f):=by
 intro pins s σ H Q I h
 refine HQ hb (bD (he pins s σ H _ I h) fun u s1 ⟨x,H1,I1,rx,a,C,dx,fs,v,ex,ea,c,n,l,q⟩=>?_)
 subst ex
 obtain rfl:u=Value.ref a:=rx
 exact zM I1 ea c n l fun u' s2 I2 ru=>⟨v,H1,I2,ru,q⟩
theorem j8(ha:PE X o ta)(hv:PE X value tv)(hs:swapsWith value (some (.Attribute o f pos')) pos.line X.env=pure false):PS X (.Assign [.Attribute o f pos'] value pos) (Ux X.K ta tv f):=by
 intro pins s σ H D I h
 refine plainObj_wpAny_Assign_Attribute (bD (hv pins s σ H _ I h) fun u s1 ⟨y,H1,I1,ry,q⟩=>bD (ha pins s1 σ H1 _ I1 q) fun ov s2 ⟨x,H2,I2,rx,a,C,dx,fs,ex,ea,c,n,l,q2⟩=>?_) hs
 subst ex
 obtain rfl:ov=Value.ref a:=rx
 exact zN I2 ea c n l ry fun s3 I3=>⟨σ,_,I3,q2⟩
end
section
variable{X:Cx}{pins:List (Addr×Obj)}{σ:St}{H:Hp}{s:Shared}{A:Around}{E:Value->Shared->Prop}{Q:Value->Shared->Prop}{c:Value}{b:Bool}
inductive rX (K:PySem.W.Frag) (H:Hp):V->Value->Prop where
 |non:rX K H .non (.type "NoneType")
 |bl (x:Bool):rX K H (.bl x) (.type "bool")
 |int (i:Int):rX K H (.int i) (.type "int")
 |str (x:Str):rX K H (.str x) (.type "str")
 |LR (x:UInt64):rX K H (.LR x) (.type "float")
 |lst {a:Addr} {xs:List V} (e:H a=some (.lst xs)):rX K H (.ref a) (.type "list")
 |u9 {a:Addr} {o:Obj} {xs:List V} (e:H a=some (.u9 o (.lst xs))):rX K H (.ref a) (.type "list")
 |tup {a:Addr} {xs:List V} (e:H a=some (.tup xs)):rX K H (.ref a) (.type "tuple")
 |dK {a:Addr} {kvs:List (Key×V)} (e:H a=some (.dK kvs)):rX K H (.ref a) (.type "dict")
 |dT {a:Addr} {kvs:List (List Key×V)} (e:H a=some (.dT kvs)):rX K H (.ref a) (.type "dict")
 |ins {a C dx:Addr} {fs:List (Str×V)} (e:H a=some (.ins C dx fs)) (cl:D1 K C) (ha:findIn K (.ref C) "__class__"=some (some (.builtin "object.__class__")))
   (hn:PySem.W.specialIn K (.builtin "object.__class__") "__get__"=some (some (.builtin "getset_descriptor.__get__"))) (htk:PySem.W.takesIn K (.builtin "object.__class__")=some true)
   (hm:mroIn K C (.type "object")=some true):rX K H (.ref a) (.ref C)
theorem nN{x:V}{u t:Value}(I:Inv X pins σ H s)(rx:RelV x u)(ty:rX X.K H x t)(e:kitOne X.K t c=some b)(h:∀tk,Q (.bool b) {s with toks:=tk}):
  wpAny (model X.prog X.w) A (call (.builtin "isinstance") [u,c]) Q E s:=by
 cases ty with
 |non=>cases (show u=Value.none from rx);exact kia_one PySem.W.kitx_none I.qx True.intro e (fun z=>nomatch z) h
 |bl y=>cases (show u=Value.bool y from rx);exact kia_one PySem.W.kitx_bool I.qx True.intro e (fun z=>nomatch z) h
 |int i=>obtain⟨t,q⟩:=(show∃t,u=Value.int i t from rx);cases q;exact kia_one PySem.W.kitx_int I.qx True.intro e (fun z=>nomatch z) h
 |str y=>obtain⟨t,q⟩:=(show∃t,u=Value.str y t from rx);cases q;exact kia_one PySem.W.kitx_str I.qx True.intro e (fun z=>nomatch z) h
 |LR y=>obtain⟨t,q⟩:=(show∃t,u=Value.float y t from rx);cases q;exact kia_one PySem.W.kitx_float I.qx True.intro e (fun z=>nomatch z) h
 | @lst a xs ea=>
  cases (show u=Value.ref a from rx)
  obtain⟨_,_,n,_,h1⟩:=(show cB X.prog X.w H s.heap a (.lst xs)from I.hok a _ ea)
  exact kia_one kitx_list I.qx ⟨_,h1,rfl⟩ e (fun z=>nomatch z) h
 | @u9 a ob xs ea=>
  cases (show u=Value.ref a from rx)
  obtain⟨_,_,_,n,_,h1⟩:=(show cB X.prog X.w H s.heap a (.u9 ob (.lst xs))from I.hok a _ ea)
  exact kia_one kitx_list I.qx ⟨_,h1,rfl⟩ e (fun z=>nomatch z) h
 | @tup a xs ea=>
  cases (show u=Value.ref a from rx)
  obtain⟨_,_,_,p⟩:=(show cB X.prog X.w H s.heap a (.tup xs)from I.hok a _ ea)
  obtain⟨o,h1,h2,_⟩:=p
  exact kia_one kitx_tuple I.qx ⟨o,h1,h2⟩ e (fun z=>nomatch z) h
 | @dK a kvs ea=>
  cases (show u=Value.ref a from rx)
  obtain⟨_,_,vs,_,p⟩:=(show cB X.prog X.w H s.heap a (.dK kvs)from I.hok a _ ea)
  obtain⟨o,es,ep,h1,h2,_⟩:=p
  exact kia_one kitx_dict I.qx ⟨o,h1,h2.1⟩ e (fun z=>nomatch z) h
 | @dT a kvs ea=>
  cases (show u=Value.ref a from rx)
  obtain⟨_,_,xs,_,o,es,ep,h1,h2,_⟩:=(show cB X.prog X.w H s.heap a (.dT kvs)from I.hok a _ ea)
  exact kia_one kitx_dict I.qx ⟨o,h1,h2.1⟩ e (fun z=>nomatch z) h
 | @ins a C dx fs ea cl ha hn htk hm=>
  cases (show u=Value.ref a from rx)
  obtain⟨mA,O,_⟩:=sJ I.hok ea
  obtain⟨od,J,_⟩:=O.look
  exact kia_one (PySem.W.kitx_own (cl.get _) cl.hd ha hn htk hm) I.qx J e (fun z=>nomatch z) h
end
end L2
namespace L2
open PySem PySem.Spec PyProof.Rows
structure aX(k:Nat)(A:Around):Prop where
 hd:A.handled=none
 dp:A.depth+3*k+5<recursionLimit
 un:A.units+16*k+200<cLine
theorem aX.mono {j k:Nat}{A:Around}(r:aX k A)(h:j<=k):aX j A:=⟨r.hd,by have:=r.dp;omega,by have:=r.un;omega⟩
theorem aX.deeper {k:Nat}{A:Around}(r:aX (k+1) A)(env:Env):aX k (A.deeper env):=
 ⟨r.hd,by have:=r.dp;show A.depth+1+3*k+5<_;omega,by have:=r.un;show A.units+3+16*k+200<_;omega⟩
theorem zO{A:Around}{C:Addr}{us:List Value}{kw:List (Str×Value)}:(A.under (.builtin "type.__call__" ⟨.ref C::us,kw⟩)).depth=A.depth+1:=by
 first|rfl|simp[Around.under,Code.weight,Code.isCreation,Code.isGuard,Code.isCaller,Code.frames,Code.isFrame,guardIds]
theorem zP{A:Around}{C:Addr}{us:List Value}{kw:List (Str×Value)}:(A.under (.builtin "type.__call__" ⟨.ref C::us,kw⟩)).units=A.units+1:=by
 first|rfl|simp[Around.under,Code.cUnits,Code.frames,Code.isFrame]
theorem aX.make {k:Nat}{A:Around}(r:aX (k+1) A)(C:Addr)(us:List Value)(kw:List (Str×Value)):aX k (A.under (.builtin "type.__call__" ⟨.ref C::us,kw⟩)):=
 ⟨r.hd,by have:=r.dp;rw[zO];omega,by have:=r.un;rw[zP];omega⟩
theorem aX.depth {k:Nat}{A:Around}(r:aX k A):A.depth<recursionLimit:=by have:=r.dp;omega
theorem aX.units {k:Nat}{A:Around}(r:aX k A):A.units+64<cLine:=by have:=r.un;omega
def HR:TA:=fun _ H Q=>Q [] H
def D2(ta:TE)(tr:TA):TA:=fun σ H Q=>ta σ H fun x H1=>tr σ H1 fun xs H2=>Q (x::xs) H2
section
variable{X:Cx}{e:Expr}{es:List Expr}{te:TE}{t:TA}{pos:Pos}
theorem aC:PA X [] HR:=fun _ _ _ _ H Q I h=>Calls.spliced_nil ⟨[],H,I,.nil,h⟩
theorem au(ha:PE X e te)(hr:PA X es t)(hs:starEach (e::es) X.env=(false,eval e X.env)::starEach es X.env:=by rfl):PA X (e::es) (D2 te t):=by
 intro pos pins s σ H Q I h
 rw[hs]
 show wpAny _ _ (spliced ((false,eval e X.env)::backTo pos (starEach es X.env))) _ _ s
 refine Calls.spliced_cons (bD (ha pins s σ H _ I h) fun u s1 ⟨x,H1,I1,r1,q1⟩=>?_)
 exact bD (hr pos pins s1 σ H1 _ I1 q1) fun us s2 ⟨xs,H2,I2,r2,q2⟩=>⟨x::xs,H2,I2,.cons r1 r2,q2⟩
def Uz(t:TA):TE:=fun σ H Q=>t σ H fun xs H1=>xs.length<=sizeLine/\∀p,H1 p=none->Q (.ref p) (upd H1 p (.tup xs))
def UA(t:TA):TE:=fun σ H Q=>t σ H fun xs H1=>xs.length<=sizeLine/\∀p,H1 p=none->Q (.ref p) (upd H1 p (.lst xs))
theorem qC{x1}(h:PA X es t):PE X (.Tuple es x1 pos) (Uz t):=by
 intro pins s σ H Q I hq
 refine wpAny_Tuple_spliced (bD (h pos pins s σ H _ I hq) fun us s1 ⟨xs,H1,I1,r,z,q⟩=>⟨by rw[<-r.length];exact z,?_⟩)
 have hf:H1 s1.heap.objs.size=none:=I1.hok.fresh (Nat.le_refl _)
 refine⟨.ref s1.heap.objs.size,upd H1 s1.heap.objs.size (.tup xs),I1.laid (t':=s1.toks) (fun b u e=>Heap.get?_push_of_some _ e) (Nat.le_refl _) ?_,rfl,q _ hf⟩
 exact⟨z,us,r,⟨_,Heap.get?_push_size _ rfl,rfl,_,rfl⟩⟩
theorem qD(h:PA X es t):PE X (.List es pos) (UA t):=by
 intro pins s σ H Q I hq
 refine wpAny_List_spliced (bD (h pos pins s σ H _ I hq) fun us s1 ⟨xs,H1,I1,r,z,q⟩=>⟨by rw[<-r.length];exact z,?_⟩)
 have hf:H1 s1.heap.objs.size=none:=I1.hok.fresh (Nat.le_refl _)
 refine⟨.ref s1.heap.objs.size,upd H1 s1.heap.objs.size (.lst xs),I1.laid (t':=s1.toks) (fun b u e=>Heap.get?_push_of_some _ e) (Nat.le_refl _) ?_,rfl,q _ hf⟩
 exact⟨z,us,0,r,Heap.get?_push_size _ rfl⟩
end
abbrev Sp:=List V->Hp->VK->XK->Prop
abbrev Du:=List Env->Hp->Shared->XK->Value->Shared->Prop
structure zQ(P:Program)(w:World)(K:PySem.W.Frag)(mg:Str->Option Value)(base:Heap)(A:Around)(outer:List Env)(s:Shared)(H:Hp):Prop where
 frames:A.frames=some outer
 mod:Mod K mg base
 bs:∀b o,base.get? b=some o->s.heap.get? b=some o/\H b=none
 Cr:base.objs.size<=s.heap.objs.size
 pA:s.heap.FunFrames base outer
 Hz:∀b∈xR outer,H b=none
 hok:nK P w H s.heap
 bare:AllBare s.gens
def CE(outer:List Env)(P:Program)(w:World)(H:Hp)(s:Shared)(Q:VK)(u:Value)(s':Shared):Prop:=
 ∃v H',s'.os=s.os/\AllBare s'.gens/\Un (xR outer) [] H H' s.heap s'.heap/\nK P w H' s'.heap/\RelV v u/\Q v H'
def CR(CX:Du)(outer:List Env)(P:Program)(w:World)(H:Hp)(s:Shared)(Q:VK)(E:XK)(r:Result)(s':Shared):Prop:=
 match r with
 |.ok (.ret u)=>CE outer P w H s Q u s'
 |.ok _=>False
 |.error e=>CX outer H s E e s'
structure bQ(P:Program)(w:World)(K:PySem.W.Frag)(mg:Str->Option Value)(base:Heap)(CX:Du)(k:Nat)(f:Addr)(fd:FuncData)(ps:List Str)(sp:Sp):Prop where
 len:∀vs H Q E,sp vs H Q E->vs.length=ps.length
 run:∀(A:Around)(outer:List Env)(s:Shared)(H:Hp)(args:Args)(us:List Value)(vs:List V)(Q:VK)(E:XK),aX k A->zQ P w K mg base A outer s H->BindsTo s fd args (ps.zip us)->Vals vs us->sp vs H Q E->
  codeAny (model P w) A (.call (.ref f) args) (CR CX outer P w H s Q E) s
theorem zQ.make {P:Program}{w:World}{K:PySem.W.Frag}{mg:Str->Option Value}{base:Heap}{A:Around}{outer:List Env}{s:Shared}{H:Hp}(e:zQ P w K mg base A outer s H)(C:Addr)(us:List Value)(kw:List (Str×Value)):
  zQ P w K mg base (A.under (.builtin "type.__call__" ⟨.ref C::us,kw⟩)) outer s H:=⟨by first|exact e.frames|(simpa[Around.under,Code.envs,Code.isFrame,pushEnvs]using e.frames),e.mod,e.bs,e.Cr,e.pA,e.Hz,e.hok,e.bare⟩
section
variable{X:Cx}{pins:List (Addr×Obj)}{σ:St}{H:Hp}{s s':Shared}
theorem Inv.Qm (I:Inv X pins σ H s):zQ X.prog X.w X.K X.mg X.base X.A X.stack s H:=
 ⟨I.ok.frames,I.ok.mod,I.bs,le_trans I.ok.Cr I.sz,I.stack,I.wJ,I.hok,I.bare⟩
theorem Inv.after {Q:VK}{u:Value}(I:Inv X pins σ H s)(h:CE X.stack X.prog X.w H s Q u s'):EP X pins σ Q u s':=by
 obtain⟨v,H',os,bare,un,hok,r,q⟩:=h
 obtain⟨hh,g,d,t,iA⟩:=s'
 obtain rfl:iA=s.os:=os
 exact⟨v,H',I.call (h':=hh) (g':=g) (d':=d) (t':=t) (ch:=[]) un hok bare (fun b z=>absurd z (by simp)),r,q⟩
end
def Qn(sp:Sp)(ve:List V)(E:XK)(t:TA):TE:=fun σ H Q=>t σ H fun vs H1=>sp (vs++ve) H1 Q E
def JW(C:Addr)(m:Str)(sp:Sp)(ve:List V)(E:XK)(ta:TE)(t:TA):TE:=fun σ H Q=>ta σ H fun x H1=>∃a dx fs,x=.ref a/\H1 a=some (.ins C dx fs)/\fs.lookup m=none/\
 t σ H1 fun vs H2=>sp (x::(vs++ve)) H2 Q E
def Qo(C:Addr)(sp:Sp)(ve:List V)(E:XK)(t:TA):TE:=fun σ H Q=>t σ H fun vs H1=>∀x dx,H1 x=none->H1 dx=none->dx≠x->
 sp (.ref x::(vs++ve)) (upd (upd H1 dx (.own x)) x (.ins C dx [])) (fun v H2=>v=.non/\Q (.ref x) H2) E
def Binds(K:PySem.W.Frag)(fd:FuncData)(ps:List Str)(ds:List Value):Prop:=
 ∀(s:Shared)(us:List Value),K.In s.heap->(us++ds).length=ps.length->BindsTo s fd ⟨us,[]⟩ (ps.zip (us++ds))
theorem Binds.all {K:PySem.W.Frag}{fd:FuncData}{ps:List Str}(h:∀us:List Value,us.length=ps.length->bindArgs fd ⟨us,[]⟩=pure (ps.zip us)):Binds K fd ps []:=fun s us _ hl=>by
 rw[append_nil]at hl⊢
 exact .of_eq (h us hl)
def Passes(CX:Du)(X:Cx)(E:XK):Prop:=∀(pins:List (Addr×Obj))(σ:St)(H:Hp)(s:Shared)(e:Value)(s':Shared),Inv X pins σ H s->CX X.stack H s E e s'->X.xe e s'
section
variable{X:Cx}{CX:Du}{k:Nat}{f C:Addr}{fd:FuncData}{ps:List Str}{sp:Sp}{ve:List V}{ds:List Value}{E:XK}{x m:Str}{p pos apos:Pos}{e o:Expr}{es:List Expr}{ta:TE}{t:TA}
theorem zR{pins:List (Addr×Obj)}{σ:St}{H:Hp}{s:Shared}{Q:VK}{us:List Value}{vs:List V}(F:bQ X.prog X.w X.K X.mg X.base CX k f fd ps sp)(hr:aX k X.A)(hb:Binds X.K fd ps ds)(hd:Vals ve ds)(hx:Passes CX X E)
  (I:Inv X pins σ H s)(r:Vals vs us)(h:sp (vs++ve) H Q E):wpAny (model X.prog X.w) X.A (call (.ref f) us) (EP X pins σ Q) X.xe s:=by
 have r2:Vals (vs++ve) (us++ds):=r.append hd
 have hl:(us++ds).length=ps.length:=by rw[<-r2.length];exact F.len _ _ _ _ h
 refine wpAny_call (codeAny_mono (F.run X.A X.stack s H ⟨us,[]⟩ (us++ds) (vs++ve) Q E hr I.Qm (hb s us I.qx hl) r2 h) fun r s' hq=>?_)
 cases r with
 |error e=>exact hx pins σ H s e s' I hq
 |ok fl=>
  cases fl with
  |ret u=>exact I.after hq
  |next=>exact False.elim hq
  |brk=>exact False.elim hq
  |cont=>exact False.elim hq
theorem cY(F:bQ X.prog X.w X.K X.mg X.base CX k f fd ps sp)(hr:aX k X.A)(hg:Gl X x)(hm:X.mg x=some (.ref f))(hk:keepIn X.K (.ref f)=true)(hb:Binds X.K fd ps ds)(hd:Vals ve ds)(hx:Passes CX X E)
  (ha:PA X (e::es) t)(hdb:(x==("__debug__":Str))=false:=by decide)(he:starEach (e::es) X.env=(false,eval e X.env)::starEach es X.env:=by rfl)(hpl:(backTo pos (starEach es X.env)).any (·.1)=false:=by rfl):
  PE X (.Call (.Name x p) (e::es) [] pos) (Qn sp ve E t):=by
 intro pins s σ H Q I h
 refine wpAny_Call_Name_kw (wK I hg hm ?_ hdb)
 refine callWith_K (h₀:=X.base) I.ok.mod.PU hk (bD (ha pos pins s σ H _ I h) fun us s1 ⟨vs,H1,I1,r,q⟩=>⟨I1.qx,?_⟩) he hpl
 exact zR F hr hb hd hx I1 r q
theorem gQ{pl:Sem Bool}(he:PE X o ta)(c:D1 X.K C)(hm:Meth X.K C m f)(F:bQ X.prog X.w X.K X.mg X.base CX k f fd ps sp)(hr:aX k X.A)(hb:Binds X.K fd ps ds)(hd:Vals ve ds)(hx:Passes CX X E)(ha:PA X (e::es) t)
  (hst:starEach (e::es) X.env=(false,eval e X.env)::starEach es X.env:=by rfl)(hpl:(backTo pos (starEach es X.env)).any (·.1)=false:=by rfl)
  (ht:eval (.Call (.Attribute o m apos) (e::es) [] pos) X.env=(do
   let ov<-eval o X.env
   standAt apos.atName
   let(f,first)<-holding [ov] (getMethod ov m pl)
   callWith pos f first (backTo pos (starEach (e::es) X.env)) (backToKw pos (keywordEach [] X.env))):=by rfl):
  PE X (.Call (.Attribute o m apos) (e::es) [] pos) (JW C m sp ve E ta t):=by
 intro pins s σ H Q I h
 refine methodCall_KW (pl:=pl) (bD (he pins s σ H _ I h) fun u s1 ⟨x,H1,I1,rx,a,dx,fs,ex,ea,l,q⟩=>?_) ht
 subst ex
 obtain rfl:u=Value.ref a:=rx
 refine tM I1 ea c hm l ?_
 refine callWith_K (first:=[.ref a]) (h₀:=X.base) I.ok.mod.PU hm.kp (bD (ha pos pins s1 σ H1 _ I1 q) fun us s2 ⟨vs,H2,I2,r,q2⟩=>⟨I2.qx,?_⟩) hst hpl
 exact zR (us:=.ref a::us) (vs:=.ref a::vs) F hr hb hd hx I2 (.cons rfl r) q2
theorem D3{pl:Sem Bool}(he:PE X o ta)(c:D1 X.K C)(hm:Meth X.K C m f)(F:bQ X.prog X.w X.K X.mg X.base CX k f fd ps sp)(hr:aX k X.A)(hb:Binds X.K fd ps ds)(hd:Vals ve ds)(hx:Passes CX X E)
  (ht:eval (.Call (.Attribute o m apos) [] [] pos) X.env=(do
   let ov<-eval o X.env
   standAt apos.atName
   let(f,first)<-holding [ov] (getMethod ov m pl)
   callWith pos f first (backTo pos (starEach [] X.env)) (backToKw pos (keywordEach [] X.env))):=by rfl):
  PE X (.Call (.Attribute o m apos) [] [] pos) (JW C m sp ve E ta HR):=by
 intro pins s σ H Q I h
 refine methodCall_KW (pl:=pl) (bD (he pins s σ H _ I h) fun u s1 ⟨x,H1,I1,rx,a,dx,fs,ex,ea,l,q⟩=>?_) ht
 subst ex
 obtain rfl:u=Value.ref a:=rx
 refine tM I1 ea c hm l ?_
 exact PySem.W.callWith_K0 (first:=[.ref a]) I1.qx hm.kp (zR (us:=[.ref a]) (vs:=[.ref a]) F hr hb hd hx I1 (.cons rfl .nil) q)
structure Mk(K:PySem.W.Frag)(C f:Addr):Prop where
 makes:makesIn K C=true
 init:findIn K (.ref C) "__init__"=some (some (.ref f))
 fn:isFn K (.ref f)=true
 kp:keepIn K (.ref C)=true
theorem D4{pins:List (Addr×Obj)}{σ:St}{H:Hp}{s:Shared}{Q:VK}{us:List Value}{vs:List V}(M:Mk X.K C f)(F:bQ X.prog X.w X.K X.mg X.base CX k f fd ps sp)(hr:aX (k+1) X.A)(hb:Binds X.K fd ps ds)(hd:Vals ve ds)
  (hx:Passes CX X E)(I:Inv X pins σ H s)(r:Vals vs us)
  (h:∀x dx,H x=none->H dx=none->dx≠x->sp (.ref x::(vs++ve)) (upd (upd H dx (.own x)) x (.ins C dx [])) (fun v H2=>v=.non/\Q (.ref x) H2) E):
  wpAny (model X.prog X.w) X.A (call (.ref C) us) (EP X pins σ Q) X.xe s:=by
 have hq:=h (s.heap.objs.size+1) s.heap.objs.size (I.hok.fresh (le_succ _)) (I.hok.fresh (Nat.le_refl _)) (ne_of_lt (lt_succ_self _))
 have I2:=Inv.made (C:=C) I
 have r2:Vals (V.ref (s.heap.objs.size+1)::(vs++ve)) (Value.ref (s.heap.objs.size+1)::(us++ds)):=.cons rfl (r.append hd)
 have hl:(Value.ref (s.heap.objs.size+1)::us++ds).length=ps.length:=by
  have e:=r2.length
  rw[F.len _ _ _ _ hq]at e
  exact e.symm
 refine wpAny_call (D0 (f:=f) I.qx M.makes M.init (beq_iff_eq.mp M.fn) (codeAny_mono (F.run _ X.stack _ _ ⟨Value.ref (s.heap.objs.size+1)::us,[]⟩ (Value.ref (s.heap.objs.size+1)::(us++ds)) _ _ E (hr.make C us [])
  (I2.Qm.make C us []) (hb _ (Value.ref (s.heap.objs.size+1)::us) I2.qx hl) r2 hq) fun r s' HS=>?_))
 cases r with
 |error e=>exact hx pins σ _ _ e s' I2 HS
 |ok fl=>
  cases fl with
  |ret u=>
   obtain⟨v,H',I3,rv,ev,q3⟩:=I2.after HS
   subst ev
   exact⟨rv,⟨V.ref (s.heap.objs.size+1),H',I3,rfl,q3⟩⟩
  |next=>exact False.elim HS
  |brk=>exact False.elim HS
  |cont=>exact False.elim HS
theorem HU(M:Mk X.K C f)(F:bQ X.prog X.w X.K X.mg X.base CX k f fd ps sp)(hr:aX (k+1) X.A)(hg:Gl X x)(hm:X.mg x=some (.ref C))(hb:Binds X.K fd ps ds)(hd:Vals ve ds)(hx:Passes CX X E)
  (ha:PA X (e::es) t)(hdb:(x==("__debug__":Str))=false:=by decide)(he:starEach (e::es) X.env=(false,eval e X.env)::starEach es X.env:=by rfl)(hpl:(backTo pos (starEach es X.env)).any (·.1)=false:=by rfl):
  PE X (.Call (.Name x p) (e::es) [] pos) (Qo C sp ve E t):=by
 intro pins s σ H Q I h
 refine wpAny_Call_Name_kw (wK I hg hm ?_ hdb)
 refine callWith_K (h₀:=X.base) I.ok.mod.PU M.kp (bD (ha pos pins s σ H _ I h) fun us s1 ⟨vs,H1,I1,r,q⟩=>⟨I1.qx,?_⟩) he hpl
 exact D4 M F hr hb hd hx I1 r q
end
structure aw(N P:List Str)(sc:Scope):Prop where
 kind:sc.kind=.function
 co:sc.isCoroutine=false
 gen:sc.isGenerator=false
 nd:N.Nodup
 pre:N.take P.length=P
 par:∀x∈P,sc.names.lookup x=some .local\/sc.names.lookup x=some .cell
 Mn:∀y∈sc.names,y.2≠.free
theorem vJ{kindOf:Str->Option NameKind}{x:Str}:∀{binds:List (Str×Value)}{m:Str->Option Value},(∀v,(x,v)∉binds)->bindL kindOf binds m x=m x
 |[],_,_=>rfl
 |(n,v)::r,m,h=>by
  unfold bindL
  rw[vJ fun w hw=>h w (mem_cons_of_mem _ hw)]
  split
  ·have:x≠n:=by rintro rfl;exact h v mem_cons_self
   simp[this]
  ·rfl
theorem vK{kindOf:Str->Option NameKind}{x:Str}:∀{binds:List (Str×Value)}{m:Str->Option Value},(∀v,(x,v)∉binds)->bindC kindOf binds m x=m x
 |[],_,_=>rfl
 |(n,v)::r,m,h=>by
  unfold bindC
  rw[vK fun w hw=>h w (mem_cons_of_mem _ hw)]
  split
  ·rfl
  ·have:x≠n:=by rintro rfl;exact h v mem_cons_self
   simp[this]
theorem vL{kindOf:Str->Option NameKind}{x:Str}{v:Value}:∀{P:List Str}{vs:List Value}{i:Nat}{m:Str->Option Value},P.Nodup->P[i]?=some x->vs[i]?=some v->kindOf x=some .local->
  bindL kindOf (P.zip vs) m x=some v
 |[],_,_,_,_,h,_,_=>by simp at h
 |_::_,[],_,_,_,_,h,_=>by simp at h
 |p::P,w::vs,0,m,nd,h1,h2,hk=>by
  simp at h1 h2;subst h1;subst h2
  show bindL kindOf ((p,w)::P.zip vs) m p=_
  unfold bindL
  rw[vJ fun v hv=>(nodup_cons.mp nd).1 (of_mem_zip hv).1,if_pos hk]
  simp
 |p::P,w::vs,i+1,m,nd,h1,h2,hk=>by
  show bindL kindOf ((p,w)::P.zip vs) m x=_
  unfold bindL
  exact vL (i:=i) (nodup_cons.mp nd).2 (by simpa using h1) (by simpa using h2) hk
theorem vM{kindOf:Str->Option NameKind}{x:Str}{v:Value}:∀{P:List Str}{vs:List Value}{i:Nat}{m:Str->Option Value},P.Nodup->P[i]?=some x->vs[i]?=some v->kindOf x≠some .local->
  bindC kindOf (P.zip vs) m x=some v
 |[],_,_,_,_,h,_,_=>by simp at h
 |_::_,[],_,_,_,_,h,_=>by simp at h
 |p::P,w::vs,0,m,nd,h1,h2,hk=>by
  simp at h1 h2;subst h1;subst h2
  show bindC kindOf ((p,w)::P.zip vs) m p=_
  unfold bindC
  rw[vK fun v hv=>(nodup_cons.mp nd).1 (of_mem_zip hv).1,if_neg hk]
  simp
 |p::P,w::vs,i+1,m,nd,h1,h2,hk=>by
  show bindC kindOf ((p,w)::P.zip vs) m x=_
  unfold bindC
  exact vM (i:=i) (nodup_cons.mp nd).2 (by simpa using h1) (by simpa using h2) hk
def start(N:List Str)(vs:List V):St:=vs.map some++replicate (N.length-vs.length) none
def oY(CX:Du)(P:Program)(w:World)(K:PySem.W.Frag)(mg:Str->Option Value)(base:Heap)(N:List Str)(qual:Str)(scope:Scope)(f:Addr)(cd:Value)(A:Around)(outer:List Env)(s:Shared)(H:Hp)(E:XK):Cx where
 prog:=P
 w:=w
 K:=K
 mg:=mg
 base:=base
 A:=A.deeper (envOfC qual scope s.heap.objs.size f cd)
 N:=N
 s₀:=s
 H₀:=H
 env:=envOfC qual scope s.heap.objs.size f cd
 outer:=outer
 stack:=envOfC qual scope s.heap.objs.size f cd::outer
 ex:=[]
 calm:=true
 fn:=fun _=>true
 pn:=[]
 xe:=fun e s'=>wpAny (model P w) (A.deeper (envOfC qual scope s.heap.objs.size f cd)) (leaving (envOfC qual scope s.heap.objs.size f cd) e) (fun _ UB=>CX outer H s E e UB) (fun e' UB=>CX outer H s E e' UB) s'
theorem yc{sc:Scope}{n:Nat}{x:Str}(h:sc.names.lookup x=some .cell):∃c,(cellsFrom n sc.names []).lookup x=some c:=by
 have q:=cellsFrom_some sc.names n [] (.inl h)
 exact isSome_iff_exists.mp q
theorem CG{CX:Du}{P:Program}{w:World}{K:PySem.W.Frag}{mg:Str->Option Value}{base:Heap}{N ps:List Str}{qual:Str}{scope:Scope}{f:Addr}{cd:Value}{A:Around}{outer:List Env}{s s1:Shared}{H:Hp}{E:XK}{us:List Value}{vs:List V}
  (S:aw N ps scope)(hd:A.handled=none)(e0:zQ P w K mg base A outer s H)(hl:vs.length=ps.length)(r:Vals vs us)
  (x:InCallC s s.heap.objs.size (bindL (envOfC qual scope s.heap.objs.size f cd).kindOf (ps.zip us) fun _=>none) (cellsFrom (s.heap.objs.size+1) scope.names []) (bindC (envOfC qual scope s.heap.objs.size f cd).kindOf (ps.zip us) fun _=>none) s1):
  Inv (oY CX P w K mg base N qual scope f cd A outer s H E) [] (start N vs) H s1:=by
 have hpl:ps.length<=N.length:=by have:=congrArg length S.pre;rw[length_take]at this;omega
 obtain⟨h1,tk,rfl,hk⟩:=x.done
 have Qp:∀b:Addr,b∉(oY CX P w K mg base N qual scope f cd A outer s H E).ex:=fun b z=>absurd (show b∈([]:List Addr)from z) (by simp)
 refine⟨⟨e0.mod,S.kind,rfl,rfl,Nat.le_refl _,fun y z c h1 h2=>?_,fun y hy=>?_,fun y c _ h=>?_,fun _=>hd,Around.frames_deeper e0.frames,.inr ⟨rfl,rfl⟩,fun b z=>absurd z (Qp b),e0.bs,e0.Cr,fun b _ _=>Qp b,fun b z=>absurd z (Qp b),e0.pA,e0.Hz⟩,
  rfl,e0.bare,Un.kept hk,⟨_,x.toInCall.ns,fun i y v h1 h2 h3=>?_⟩,fun y c h=>⟨_,x.cell y c h⟩,e0.hok.fresh (Nat.le_refl _),fun y c h=>?_,fun p hp=>absurd (show p∈([]:List (Addr×Obj))from hp) (by simp),e0.hok.kept hk,?_⟩
 ·exact name_of_addr x.apart (PySem.mem_of_lookup h1) (PySem.mem_of_lookup h2)
 ·have hy:scope.names.lookup y=some .cell\/scope.names.lookup y=some .free:=hy
  rcases hy with hy|hy
  ·exact yc hy
  ·exact absurd rfl (S.Mn _ (PySem.mem_of_lookup hy))
 ·exact le_of_lt (x.above y c (PySem.mem_of_lookup h))
 ·have hi:i<vs.length:=by
   unfold start at h2
   by_cases hi:i<vs.length
   ·exact hi
   ·rw[getElem?_append_right (by simpa using hi)]at h2
    rw[getElem?_replicate]at h2
    split at h2<;>cases h2
  have ha:vs[i]?=some v:=by
   unfold start at h2
   rw[getElem?_append_left (by simpa using hi),getElem?_map]at h2
   cases e:vs[i]? with
   |none=>rw[e]at h2;cases h2
   |some a=>rw[e]at h2;cases h2;rfl
  obtain⟨u,hu,rv⟩:=r.get ha
  have hp:ps[i]?=some y:=by
   rw[<-S.pre,List.getElem?_take_of_lt (by omega)];exact h1
  have XO:ps.Nodup:=by rw[<-S.pre];exact S.nd.sublist (List.take_sublist _ _)
  refine⟨u,rv,?_⟩
  rcases S.par y (mem_of_getElem? hp)with k|k
  ·exact .inl ⟨k,vL XO hp hu k⟩
  ·obtain⟨c,e⟩:=yc (n:=s.heap.objs.size+1) k
   refine .inr ⟨.inl k,c,e,?_⟩
   have q:=x.cell y c e
   rw[vM XO hp hu (by show scope.names.lookup y≠_;rw[k];decide)]at q
   exact q
 ·exact e0.hok.fresh (le_of_lt (x.above y c (PySem.mem_of_lookup h)))
 ·unfold start
  show _=N.length
  rw[length_append,length_map,length_replicate]
  omega
theorem Qq{CX:Du}{P:Program}{w:World}{K:PySem.W.Frag}{mg:Str->Option Value}{base:Heap}{k:Nat}{f:Addr}{name qual:Str}{params:Arguments}{body:List Stmt}{scope:Scope}{dV kV doc pm cdv ct oc:Value}{an od:Option Addr}
  {Dv:Array (Option Value)}{N ps:List Str}{sp:Sp}(lk:K.lookup f=some ⟨oc,od,.func (PySem.W.fnOf name qual params body scope dV kV doc pm an cdv ct),Dv⟩)(hcd:codeIn K cdv qual=true)(S:aw N ps scope)
  (len:∀vs H Q E,sp vs H Q E->vs.length=ps.length)
  (hbody:∀(A:Around)(outer:List Env)(s:Shared)(H:Hp)(vs:List V)(Q:VK)(E:XK),aX k (A.deeper (envOfC qual scope s.heap.objs.size f cdv))->sp vs H Q E->
   ∃t,oV (oY CX P w K mg base N qual scope f cdv A outer s H E) body t/\t {nx:=fun _ H'=>Q .non H',rt:=Q} (start N vs) H):
  bQ P w K mg base CX (k+1) f (PySem.W.fnOf name qual params body scope dV kV doc pm an cdv ct) ps sp:=by
 refine⟨len,fun A outer s H args us vs Q E hr e0 hb r wM=>?_⟩
 have hl:=len _ _ _ _ wM
 have KX:K.In s.heap:=e0.mod.PU.keeps fun b o e=>(e0.bs b o e).1
 have lim:s.heap.NoLimit:=e0.mod.nolimit.keeps fun b o e=>(e0.bs b o e).1
 have hkind:∀y∈ps.zip us,scope.names.lookup y.1=some .local\/(scope.names.lookup y.1=some .cell/\((cellsFrom (s.heap.objs.size+1) scope.names []).lookup y.1).isSome=true):=fun⟨n,v⟩ hy=>by
  rcases S.par n (of_mem_zip hy).1 with q|q
  ·exact .inl q
  ·exact .inr ⟨q,cellsFrom_some _ _ _ (.inl q)⟩
 refine codeAny_call_function hr.depth (KX _ _ lk) rfl S.co S.gen rfl (PySem.W.codeRec_of KX hcd) (hb _ _ _ _ ?_)
 refine wpAny_newFunctionEnv_cells S.kind hkind fun env he s1 x=>?_
 subst he
 refine⟨lim.keeps x.toInCall.keep,codeAny_func ?_⟩
 obtain⟨t,ht,hq⟩:=hbody A outer s H vs Q E (hr.deeper _) wM
 have I:Inv (oY CX P w K mg base N qual scope f cdv A outer s H E) [] (start N vs) H s1:=CG S hr.hd e0 hl r x
 refine wpAny_mono (ht [] s1 (start N vs) H _ I hq) (fun fl s' hs=>?_) fun e s' hs=>hs
 have fin:∀{σ':St}{H':Hp}{v:V}{u:Value},Inv (oY CX P w K mg base N qual scope f cdv A outer s H E) [] σ' H' s'->RelV v u->Q v H'->CE outer P w H s Q u s':=
  fun{σ' H' v u} J rv q=>⟨v,H',J.os,J.bare,J.base,J.hok,rv,q⟩
 cases fl with
 |ret u=>
  obtain⟨v,σ',H',J,rv,q⟩:=hs
  exact fin J rv q
 |next=>
  obtain⟨σ',H',J,q⟩:=hs
  exact fin (v:=V.non) (u:=Value.none) J rfl q
 |brk=>
  obtain⟨_,_,_,q⟩:=hs
  exact False.elim q
 |cont=>
  obtain⟨_,_,_,q⟩:=hs
  exact False.elim q
end L2
namespace L2
open PySem PySem.Spec PyProof.Rows
section
variable{X:Cx}{x:Str}{p pos:Pos}{e:Expr}{es:List Expr}{t:TA}{id T:String}{r:List V->Hp->VK->Prop}
def UC(r:List V->Hp->VK->Prop)(t:TA):TE:=fun σ H Q=>t σ H fun vs H1=>r vs H1 Q
theorem g9(hc:oB X (.builtin id) r)(hg:Gl X x)(hm:X.mg x=none)(hv:bootBuiltins x=some (.builtin id))(ha:PA X (e::es) t)(hn:x≠"__name__":=by decide)(hdb:(x==("__debug__":Str))=false:=by decide)
  (he:starEach (e::es) X.env=(false,eval e X.env)::starEach es X.env:=by rfl)(hpl:(backTo pos (starEach es X.env)).any (·.1)=false:=by rfl):PE X (.Call (.Name x p) (e::es) [] pos) (UC r t):=by
 intro pins s σ H Q I h
 refine wpAny_Call_Name_kw (dS I hg hm hv ?_ hn hdb)
 exact PyProof.Rows.callWith_builtin1 (bD (ha pos pins s σ H _ I h) fun us s1 ⟨vs,H1,I1,r1,q1⟩=>hc pins s1 σ H1 vs us Q I1 r1 q1) he hpl
theorem nP(hc:oB X (.type T) r)(hg:Gl X x)(hm:X.mg x=none)(hv:bootBuiltins x=some (.type T))(ha:PA X (e::es) t)(hn:x≠"__name__":=by decide)(hdb:(x==("__debug__":Str))=false:=by decide)
  (he:starEach (e::es) X.env=(false,eval e X.env)::starEach es X.env:=by rfl)(hpl:(backTo pos (starEach es X.env)).any (·.1)=false:=by rfl):PE X (.Call (.Name x p) (e::es) [] pos) (UC r t):=by
 intro pins s σ H Q I h
 refine wpAny_Call_Name_kw (dS I hg hm hv ?_ hn hdb)
 exact PyProof.Rows.callWith_type1 (bD (ha pos pins s σ H _ I h) fun us s1 ⟨vs,H1,I1,r1,q1⟩=>hc pins s1 σ H1 vs us Q I1 r1 q1) he hpl
end
end L2
namespace HT
open PySem PyProof.Rows
section
open PySem.SeqAt
open PySem.AutoSeq1 (wpAny_loadPart')
open PySem.MeetsSeq PySem.MeetsSeq2 PySem.MeetsSeq3
end
section
variable{prog:Program}{w:World}{A:Around}{E:Value->Shared->Prop}{s:Shared}
def tN(n d:Nat):Option Int->Nat
 |none=>d
 |some v=>if v<0 then(v+(n:Int)).toNat else min v.toNat n
theorem mE(n d:Nat):tN n d none=d:=rfl
theorem kW(n d k:Nat):tN n d (some (k:Int))=min k n:=by
 show(if(k:Int)<0 then((k:Int)+(n:Int)).toNat else min (k:Int).toNat n)=min k n
 rw[if_neg (by omega),toNat_natCast]
end
end HT
namespace L2
open PySem PySem.Spec PyProof.Rows
abbrev TO:=St->Hp->(Option Int->Hp->Prop)->Prop
def PO(X:Cx)(e:Option Expr)(t:TO):Prop:=
 ∀(pins:List (Addr×Obj))(s:Shared)(σ:St)(H:Hp)(Q:Option Int->Hp->Prop),Inv X pins σ H s->t σ H Q->
  wpAny (model X.prog X.w) X.A (evalPart e X.env) (fun u s'=>∃o H',Inv X pins σ H' s'/\IsPart u o/\Q o H') X.xe s
def HV:TO:=fun _ H Q=>Q none H
def Qs(t:TE):TO:=fun σ H Q=>t σ H fun x H1=>∃i,x=.int i/\Q (some i) H1
theorem intsAre_of{ns:List Int}:∀{us:List Value},Vals (ns.map V.int) us->IntsAre us ns:=by
 induction ns with
 |nil=>intro us r;rw[map_nil]at r;cases r;exact .nil
 |cons n ns ih=>
  intro us r
  rw[map_cons]at r
  cases r with
  |cons r1 r2=>
   obtain⟨t,e⟩:=r1
   subst e
   exact .cons n t (ih r2)
section
variable{X:Cx}{e:Expr}{te:TE}{lo hi:Option Expr}{tl th:TO}{pos p2:Pos}
theorem AY:PO X none HV:=by
 intro pins s σ H Q I h
 rw[evalPart_none]
 exact wpAny_pure ⟨none,H,I,.none,h⟩
theorem AZ(h:PE X e te):PO X (some e) (Qs te):=by
 intro pins s σ H Q I hw
 rw[evalPart_some]
 refine bD (h pins s σ H _ I hw) fun u s1 ⟨x,H1,I1,r1,q1⟩=>?_
 obtain⟨i,rfl,q⟩:=q1
 obtain⟨t,rfl⟩:=r1
 exact⟨some i,H1,I1,.int i t,q⟩
def XQ(X:Cx)(r:V->Option Int->Option Int->Hp->VK->Prop):Prop:=
 ∀(pins:List (Addr×Obj))(s:Shared)(σ:St)(H:Hp)(x:V)(v vl vu:Value)(lo hi:Option Int)(sl:Addr)(Q:VK),Inv X pins σ H s->RelV x v->s.heap.IsSliceOf sl vl vu .none->IsPart vl lo->IsPart vu hi->r x lo hi H Q->
  ∃T id,typeLookup (.type T) "__getitem__"=pure (some (.builtin id))/\s.TypeIs v T/\wpAny (model X.prog X.w) X.A (getItem v (.ref sl)) (EP X pins σ Q) X.xe s
def ZL(r:V->Option Int->Option Int->Hp->VK->Prop)(te:TE)(tl th:TO):TE:=fun σ H Q=>te σ H fun x H1=>tl σ H1 fun l H2=>th σ H2 fun u H3=>r x l u H3 Q
theorem yd{r:V->Option Int->Option Int->Hp->VK->Prop}(hr:XQ X r)(he:PE X e te)(hl:PO X lo tl)(hu:PO X hi th):PE X (.Subscript e (.Slice lo hi none p2) pos) (ZL r te tl th):=by
 intro pins s σ H Q I h
 refine Subscript_ (bD (he pins s σ H _ I h) fun v s1 ⟨x,H1,I1,r1,q1⟩=>?_)
 refine wpAny_Slice (bD (hl pins s1 σ H1 _ I1 q1) fun vl s2 ⟨l,H2,I2,pl,q2⟩=>bD (hu pins s2 σ H2 _ I2 q2) fun vu s3 ⟨u,H3,I3,pu,q3⟩=>?_)
 rw[evalPart_none]
 refine wpAny_pure ?_
 have I4:Inv X pins σ H3 {s3 with heap:=s3.heap.push {cls:=.type "slice",data:=.fields #[vl,vu,.none]}}:=I3.kept (t':=s3.toks) fun b ob q=>Heap.get?_push_of_some _ q
 obtain⟨T,id,hT,ht,hg⟩:=hr pins {s3 with heap:=s3.heap.push {cls:=.type "slice",data:=.fields #[vl,vu,.none]}} σ H3 x v vl vu l u s3.heap.objs.size Q I4 r1 (Heap.IsSliceOf.new ..) pl pu q3
 show wpAny (model X.prog X.w) X.A (subscriptTail e (.Slice lo hi none p2) v (.ref s3.heap.objs.size)) (EP X pins σ Q) X.xe {s3 with heap:=s3.heap.push {cls:=.type "slice",data:=.fields #[vl,vu,.none]}}
 exact tail_any (ops:=[.ref s3.heap.objs.size,v]) ht hT hg (by with_unfolding_all rfl)
def vg(xs:List V)(lo hi:Option Int):List V:=(xs.drop (HT.tN xs.length 0 lo)).take (HT.tN xs.length xs.length hi-HT.tN xs.length 0 lo)
theorem ye(xs:List V)(lo hi:Option Int):(vg xs lo hi).length<=xs.length:=by
 unfold vg
 rw[length_take,length_drop]
 omega
end
end L2
namespace L2
open PySem PySem.Spec PyProof.Rows
def pe(n:Nat)(i:Int):Option Nat:=if 0<=i then(if i<n then some i.toNat else none)else if-(n:Int)<=i then some (i+n).toNat else none
def iT{α:Type}(xs:List α)(i:Int):Option α:=(pe xs.length i).bind fun j=>xs[j]?
theorem A0{n:Nat}{i:Int}{j:Nat}(h:pe n i=some j):seqIndex? i n=some j/\j<n/\ -(n:Int)<=i/\i<n:=by
 unfold pe at h
 by_cases h0:0<=i
 ·rw[if_pos h0]at h
  by_cases h1:i<n
  ·rw[if_pos h1]at h
   have e:i.toNat=j:=Option.some.inj h
   exact⟨by rw[seqIndex_of h0 h1,e],by omega,by omega,h1⟩
  ·rw[if_neg h1]at h;cases h
 ·rw[if_neg h0]at h
  by_cases h1: -(n:Int)<=i
  ·rw[if_pos h1]at h
   have e:(i+n).toNat=j:=Option.some.inj h
   exact⟨by rw[seqIndex_neg (by omega) h1,e],by omega,h1,by omega⟩
  ·rw[if_neg h1]at h;cases h
theorem wN{α:Type}{xs:List α}{i:Int}{v:α}(h:iT xs i=some v):∃j,seqIndex? i xs.length=some j/\xs[j]?=some v/\j<xs.length/\ -(xs.length:Int)<=i/\i<xs.length:=by
 unfold iT at h
 cases e:pe xs.length i with
 |none=>rw[e]at h;cases h
 |some j=>
  rw[e]at h
  obtain⟨h1,h2,h3,h4⟩:=A0 e
  exact⟨j,h1,h,h2,h3,h4⟩
theorem gR{α:Type}{xs:List α}{j:Nat}{v:α}(h:xs[j]?=some v):iT xs (j:Int)=some v:=by
 have hj:j<xs.length:=(List.getElem?_eq_some_iff.mp h).1
 have e:pe xs.length (j:Int)=some j:=by
  unfold pe
  rw[if_pos (by omega),if_pos (by omega)];simp
 unfold iT;rw[e];exact h
theorem tP{α:Type}(xs:List α)(v:α):iT (xs++[v]) (-1)=some v:=by
 have hl:(xs++[v]).length=xs.length+1:=by simp
 have e:pe (xs++[v]).length (-1)=some xs.length:=by
  unfold pe
  rw[hl,if_neg (by decide),if_pos (by omega)]
  congr 1
  omega
 unfold iT
 rw[e]
 show(xs++[v])[xs.length]?=some v
 simp
def sL(b:Expr):Prop:=∀o i,subscripted b false o i=operate [o,i] (getItem o i)
def HW(X:Cx)(r:R2):Prop:=
 ∀(value slice:Expr)(pins:List (Addr×Obj))(s:Shared)(σ:St)(H:Hp)(x y:V)(v u:Value)(Q:VK),Inv X pins σ H s->RelV x v->RelV y u->r x y H Q->
  subscripted slice false v u=operate [v,u] (getItem v u)->wpAny (model X.prog X.w) X.A (subscriptTail value slice v u) (EP X pins σ Q) X.xe s
def S8(X:Cx)(id:String)(r:V->List V->Hp->VK->Prop):Prop:=
 ∀(pins:List (Addr×Obj))(s:Shared)(σ:St)(H:Hp)(x:V)(xs:List V)(v:Value)(us:List Value)(Q:VK),Inv X pins σ H s->RelV x v->Vals xs us->r x xs H Q->
  wpAny (model X.prog X.w) X.A (call (.builtin id) (v::us)) (EP X pins σ Q) X.xe s
section
variable{X:Cx}{a b:Expr}{ta tb:TE}{pos:Pos}
theorem HW.or {r r':R2}(h:HW X r)(h':HW X r'):HW X (fun x y H Q=>r x y H Q\/r' x y H Q):=by
 intro value slice pins s σ H x y v u Q I rx ry q hs
 rcases q with q|q
 ·exact h value slice pins s σ H x y v u Q I rx ry q hs
 ·exact h' value slice pins s σ H x y v u Q I rx ry q hs
theorem gB{r:R2}(hr:HW X r)(ha:PE X a ta)(hb:PE X b tb)(hs:sL b):PE X (.Subscript a b pos) (Qe r ta tb):=by
 intro pins s σ H Q I h
 exact Subscript_ (Mf ha hb I h fun v u s2 x y H2 I2 rx ry q=>hr a b pins s2 σ H2 x y v u Q I2 rx ry q (hs _ _))
def Mp(K:PySem.W.Frag):R2:=fun x y H Q=>∃p xs i v,x=.ref p/\y=.int i/\b7 K H p xs/\iT xs i=some v/\Q v H
def Qt(K:PySem.W.Frag):R2:=fun x y H Q=>∃p xs i v,x=.ref p/\y=.int i/\x9 K H p xs/\iT xs i=some v/\Q v H
def Qu:R2:=fun x y H Q=>∃z i c,x=.str z/\y=.int i/\z.length<=sizeLine/\iT z.cps.toList i=some c/\Q (.str ⟨#[c]⟩) H
theorem cO:HW X (Mp X.K):=by
 intro value slice pins s σ H x y v u Q I rx ry h hs
 obtain⟨p,xs,i,z,rfl,rfl,hq,he,q⟩:=h
 cases rx
 obtain⟨t,rfl⟩:=ry
 obtain⟨its,r,pl,hz⟩:=I.list hq
 obtain⟨j,h1,h2,h3,h4,h5⟩:=wN he
 obtain⟨w,ew,mz⟩:=r.get h2
 have hl:=r.length
 have hn:=oX
 have fin:EP X pins σ Q w s:=⟨z,H,I,mz,q⟩
 by_cases h0:0<=i
 ·have hj:i.toNat=j:=by
   rw[seqIndex_of h0 h5]at h1
   exact Option.some.inj h1
  exact item_listR pl.isList h0 (by omega) (by rw[hj];simpa using ew) fin hs
 ·have hj:(i+(its.toArray.size:Int)).toNat=j:=by
   rw[seqIndex_neg (by omega) h4]at h1
   rw[size_toArray,<-hl]
   exact Option.some.inj h1
  exact subscriptTail_builtinR (x:=w) pl.isList.typeIs slot_list_getitem.lookup
   (wpAny_getItem_list_neg (Q:=fun r s'=>r=w/\EP X pins σ Q r s') pl.isList (by omega) (by rw[size_toArray]<;>omega) (by omega) (by rw[hj];simpa using ew) ⟨rfl,fin⟩) hs
theorem wO:HW X (Qt X.K):=by
 intro value slice pins s σ H x y v u Q I rx ry h hs
 obtain⟨p,xs,i,z,rfl,rfl,hq,he,q⟩:=h
 cases rx
 obtain⟨t,rfl⟩:=ry
 obtain⟨its,r,pl,hz⟩:=I.tuple hq
 obtain⟨j,h1,h2,h3,h4,h5⟩:=wN he
 obtain⟨w,ew,mz⟩:=r.get h2
 have hl:=r.length
 have hn:=oX
 have fin:EP X pins σ Q w s:=⟨z,H,I,mz,q⟩
 exact subscriptTail_builtinR (x:=w) pl.typeIs slot_tuple_getitem.lookup
  (getItem_tuple (j:=j) (Q:=fun r s'=>r=w/\EP X pins σ Q r s') pl (by omega) (by omega) (by rw[size_toArray,<-hl];exact h1) (by simpa using ew) ⟨rfl,fin⟩) hs
theorem Mq:HW X Qu:=by
 intro value slice pins s σ H x y v u Q I rx ry h hs
 obtain⟨z,i,c,rfl,rfl,hz,he,q⟩:=h
 obtain⟨t,rfl⟩:=rx
 obtain⟨t',rfl⟩:=ry
 obtain⟨j,h1,h2,h3,h4,h5⟩:=wN he
 have hl:z.cps.toList.length=z.length:=by simp[Str.length]
 rw[hl]at h1 h4 h5
 have hn:=oX
 exact tail_any (typeIs_str s z t) slot_str_getitem.lookup (getItem_str (c:=c) (by
  have e1:decide (i< -(2^63:Int))=false:=decide_eq_false (by omega)
  have e2:decide (i>=2^63)=false:=decide_eq_false (by omega)
  rw[e1,e2,Bool.or_false]) (by rw[h1];simpa using h2) ⟨.str ⟨#[c]⟩,H,I.tok _,⟨_,rfl⟩,q⟩) hs
def ZM(K:PySem.W.Frag):R2:=fun x y H Q=>Mp K x y H Q\/Qt K x y H Q\/Qu x y H Q
theorem Mr:HW X (ZM X.K):=cO.or (wO.or Mq)
theorem zS(its:List Value)(n j:Nat)(u:Value):Obj.mapSeq (·.setIfInBounds j u) {cls:=.type "list",data:=.seq its.toArray n}={cls:=.type "list",data:=.seq (its.set j u).toArray n}:=by
 simp[Obj.mapSeq]
theorem Inv.lst {pins:List (Addr×Obj)}{σ:St}{H:Hp}{s:Shared}{p:Addr}{xs:List V}(I:Inv X pins σ H s)(h:H p=some (.lst xs)):
  ∃(its:List Value)(n:Nat),Vals xs its/\s.heap.get? p=some {cls:=.type "list",data:=.seq its.toArray n}/\xs.length<=sizeLine:=by
 obtain⟨z,its,n,r,e⟩:=I.hok p _ h
 exact⟨its,n,r,e,z⟩
theorem Inv.Ms {pins:List (Addr×Obj)}{σ:St}{H:Hp}{s:Shared}{p:Addr}{xs ys:List V}{its its':List Value}{n n':Nat}{f:Obj->Obj}(I:Inv X pins σ H s)(h:H p=some (.lst xs))
  (ho:s.heap.get? p=some {cls:=.type "list",data:=.seq its.toArray n})(hf:f {cls:=.type "list",data:=.seq its.toArray n}={cls:=.type "list",data:=.seq its'.toArray n'})(r:Vals ys its')(hz:ys.length<=sizeLine)(t:Nat):
  Inv X pins σ (upd H p (.lst ys)) {s with heap:=s.heap.update p f,toks:=t}:=by
 have e:(s.heap.update p f).get? p=some {cls:=.type "list",data:=.seq its'.toArray n'}:=by
  rw[Heap.get?_update_self f ho (by rw[hf]<;>rfl),hf]
 refine I.write (x:=p) (e:=p) (by rw[h];trivial) (.inl rfl) (fun b u hb q=>(Heap.get?_update_other _ _ (Ne.symm hb)).trans q) ⟨_,e⟩ ?_
 exact⟨hz,its',n',r,e⟩
def Qw:V->V->V->Hp->(Hp->Prop)->Prop:=fun o i v H Q=>∃p xs k j,o=.ref p/\i=.int k/\H p=some (.lst xs)/\pe xs.length k=some j/\Q (upd H p (.lst (xs.set j v)))
theorem set_list:P4 X Qw:=by
 intro pins s σ H o i v ov iv u Q I ro ri rv h
 obtain⟨p,xs,k,j,rfl,rfl,hp,hj,q⟩:=h
 cases ro
 obtain⟨t,rfl⟩:=ri
 obtain⟨its,n,r,ho,hz⟩:=I.lst hp
 obtain⟨h1,h2,h3,h4⟩:=A0 hj
 have hl:=r.length
 have hn:=oX
 have I':Inv X pins σ (upd H p (.lst (xs.set j v))) {s with heap:=s.heap.update p (Obj.mapSeq (·.setIfInBounds j u))}:=
  I.Ms hp ho (zS its n j u) (r.set rv j) (by rw[length_set];exact hz) s.toks
 by_cases h0:0<=k
 ·have hk:k.toNat=j:=by
   rw[seqIndex_of h0 h4]at h1
   exact Option.some.inj h1
  exact PySem.W.ki_setAt ho h0 (by omega) (by rw[size_toArray,<-hl];exact h4) (by rw[hk];exact⟨_,I',q⟩)
 ·have hk:(k+(its.toArray.size:Int)).toNat=j:=by
   rw[seqIndex_neg (by omega) h3]at h1
   rw[size_toArray,<-hl]
   exact Option.some.inj h1
  exact PySem.W.ki_setBack ho (by omega) (by rw[size_toArray,<-hl];exact h3) (by omega) (by rw[hk];exact⟨_,I',q⟩)
theorem wQ(lo hi:Option Int)(n:Nat):(sliceBounds lo hi none n).1=((HT.tN n 0 lo:Nat):Int)/\(sliceBounds lo hi none n).2.1=((HT.tN n n hi:Nat):Int)/\(sliceBounds lo hi none n).2.2=1:=by
 refine⟨?_,?_,rfl⟩
 ·cases lo with
  |none=>simp[sliceBounds,HT.tN]
  |some i=>
   simp only [sliceBounds,HT.tN,getD_none,show(1:Int)>0 by decide,if_true]
   by_cases h:i<0
   ·simp only [h,if_true]<;>omega
   ·simp only [h,if_false]<;>omega
 ·cases hi with
  |none=>simp[sliceBounds,HT.tN]
  |some i=>
   simp only [sliceBounds,HT.tN,getD_none,show(1:Int)>0 by decide,if_true]
   by_cases h:i<0
   ·simp only [h,if_true]<;>omega
   ·simp only [h,if_false]<;>omega
theorem vh(its:List Value)(lo hi:Option Int):slicePick its.toArray lo hi none=((its.drop (HT.tN its.length 0 lo)).take (HT.tN its.length its.length hi-HT.tN its.length 0 lo)).toArray:=by
 obtain⟨h1,h2,h3⟩:=wQ lo hi its.toArray.size
 unfold slicePick
 rw[h1,h2,h3]
 simp only [sliceRange_one,pick_run,size_toArray]<;>rfl
def UD(K:PySem.W.Frag):V->Option Int->Option Int->Hp->VK->Prop:=fun x lo hi H Q=>∃a xs,x=.ref a/\b7 K H a xs/\∀p,H p=none->Q (.ref p) (upd H p (.lst (vg xs lo hi)))
theorem A5:XQ X (UD X.K):=by
 intro pins s σ H x v vl vu lo hi sl Q I rx hs pl pu h
 obtain⟨a,xs,rfl,hx,q⟩:=h
 cases rx
 obtain⟨its,r,ht,hz⟩:=I.list hx
 have hlen:=r.length
 refine⟨"list",_,slot_list_getitem.lookup,ht.isList.typeIs,?_⟩
 refine wpAny_getItem_list_slice ht.isList hs pl pu .none (by simp) ?_ (by rw[size_toArray]<;>omega)
 rw[vh,<-hlen]
 refine⟨.ref s.heap.objs.size,_,I.laid (t':=s.toks) (o:=.lst (vg xs lo hi)) (fun b ob q=>Heap.get?_push_of_some _ q) (Nat.le_refl _) ?_,rfl,q _ (I.hok.fresh (Nat.le_refl _))⟩
 exact⟨le_trans (ye xs lo hi) hz,_,0,(r.drop (HT.tN xs.length 0 lo)).take (HT.tN xs.length xs.length hi-HT.tN xs.length 0 lo),Heap.get?_push_size _ rfl⟩
theorem kX:oB X (.builtin "len") (fun xs H Q=>∃p ys,xs=[.ref p]/\(b7 X.K H p ys\/x9 X.K H p ys)/\Q (.int ys.length) H):=by
 intro pins s σ H xs us Q I r h
 obtain⟨p,ys,rfl,hq,q⟩:=h
 obtain⟨u,rfl,rx⟩:=vals1 r
 cases rx
 have hn:=oX
 rcases hq with hq|hq
 ·obtain⟨its,r',pl,hz⟩:=I.list hq
  have hlen:=r'.length
  exact Calls.call_len_list pl.isList (by simp only [size_toArray]<;>omega) ⟨.int ys.length,H,I.tok _,⟨s.toks+1,by rw[size_toArray,hlen]⟩,q⟩
 ·obtain⟨its,r',pl,hz⟩:=I.tuple hq
  have hlen:=r'.length
  exact len_tuple pl (by simp only [size_toArray]<;>omega) ⟨.int ys.length,H,I.tok _,⟨s.toks+1,by rw[size_toArray,hlen]⟩,q⟩
theorem kY:oB X (.type "list") (fun xs H Q=>∃p ys,xs=[.ref p]/\(b7 X.K H p ys\/x9 X.K H p ys)/\∀l,H l=none->Q (.ref l) (upd H l (.lst ys))):=by
 intro pins s σ H xs us Q I r h
 obtain⟨p,ys,rfl,hq,q⟩:=h
 obtain⟨u,rfl,rx⟩:=vals1 r
 cases rx
 have fin:∀(its:List Value),Vals ys its->ys.length<=sizeLine->∀(h':Heap)(c':Nat),(∀b o',s.heap.get? b=some o'->h'.get? b=some o')->
   h'.get? s.heap.objs.size=some {cls:=.type "list",dict:=none,data:=.seq its.toArray c',slots:=#[]}->EP X pins σ Q (.ref s.heap.objs.size) {s with heap:=h'}:=fun its r' hz h' c' kp e=>
  ⟨.ref s.heap.objs.size,_,I.laid (t':=s.toks) kp (Nat.le_refl _) (show cB X.prog X.w _ h' _ (.lst ys)from⟨hz,its,c',r',e⟩),rfl,q _ (I.hok.fresh (Nat.le_refl _))⟩
 rcases hq with hq|hq
 ·obtain⟨its,r',pl,hz⟩:=I.list hq
  have hlen:=r'.length
  obtain⟨o,ho,hc,n,hd⟩:=pl.isList
  exact call_list_seq p (.inl rfl) ho hc hd (fun h' c' kp e=>fin its r' hz h' c' kp e) (by simp only [size_toArray]<;>omega)
 ·obtain⟨its,r',pl,hz⟩:=I.tuple hq
  have hlen:=r'.length
  obtain⟨o,ho,hc,n,hd⟩:=pl
  exact call_list_seq p (.inr rfl) ho hc hd (fun h' c' kp e=>fin its r' hz h' c' kp e) (by simp only [size_toArray]<;>omega)
theorem vj:oB X (.type "tuple") (fun xs H Q=>∃p ys,xs=[.ref p]/\((b7 X.K H p ys/\∀l,H l=none->Q (.ref l) (upd H l (.tup ys)))\/(x9 X.K H p ys/\Q (.ref p) H))):=by
 intro pins s σ H xs us Q I r h
 obtain⟨p,ys,rfl,h⟩:=h
 obtain⟨u,rfl,rx⟩:=vals1 r
 cases rx
 rcases h with⟨hq,q⟩|⟨hq,q⟩
 ·obtain⟨its,r',pl,hz⟩:=I.list hq
  have hlen:=r'.length
  refine call_tuple_list pl.isList (fun h' kp=>?_) (by simp only [size_toArray]<;>omega)
  have I1:Inv X pins σ H {s with heap:=h'}:=I.kept (t':=s.toks) kp
  have I2:Inv X pins σ (upd H h'.objs.size (.tup ys)) {s with heap:=h'.push {cls:=.type "tuple",data:=.seq its.toArray}}:=
   I1.laid (t':=s.toks) (fun b o e=>Heap.get?_push_of_some _ e) (Nat.le_refl _) (show cB X.prog X.w _ _ _ (.tup ys)from⟨hz,its,r',IsTup.new _ _⟩)
  exact⟨.ref h'.objs.size,_,I2,rfl,q _ (I1.hok.fresh (Nat.le_refl _))⟩
 ·obtain⟨its,r',pl,hz⟩:=I.tuple hq
  exact call_tuple_same pl ⟨.ref p,H,I,rfl,q⟩
def UE(K:PySem.W.Frag)(T:String)(x:V)(H:Hp):Prop:=match x with
 |.str _=>T="str"
 |.int _=>T="int"
 |.ref p=>(T="list"/\∃xs,b7 K H p xs)\/(T="tuple"/\∃o,K.lookup p=some o/\o.cls=.type "tuple"/\o.dict=none)\/
   (T="dict"/\((∃kvs,H p=some (.dK kvs))\/∃kvs,H p=some (.dT kvs)))\/(T="set"/\∃S n,H p=some (.set S n))
 |_=>False
theorem D5{pins:List (Addr×Obj)}{σ:St}{H:Hp}{s:Shared}{T:String}{x:V}{v:Value}(I:Inv X pins σ H s)(r:RelV x v)(ty:UE X.K T x H):
  s.TypeIs v T/\∀a,v=.ref a->∃ob,s.heap.get? a=some ob/\ob.dict=none:=by
 cases x with
 |str z=>
  obtain⟨t,rfl⟩:=r
  cases (show T="str" from ty)
  exact⟨typeIs_str s z t,fun _ e=>nomatch e⟩
 |int i=>
  obtain⟨t,rfl⟩:=r
  cases (show T="int" from ty)
  exact⟨typeIs_int s i t,fun _ e=>nomatch e⟩
 |ref p=>
  cases r
  rcases ty with⟨rfl,xs,hq⟩|⟨rfl,o,hk,hc,hd⟩|⟨rfl,hk⟩|⟨rfl,S,n,hk⟩
  ·obtain⟨its,_,pl,_⟩:=I.list hq
   refine⟨pl.isList.typeIs,fun a e=>?_⟩
   cases e
   obtain⟨o,n,e,c,hd,_⟩:=pl
   exact⟨o,e,hd⟩
  ·refine⟨⟨o,I.qx p o hk,hc⟩,fun a e=>?_⟩
   cases e
   exact⟨o,I.qx _ o hk,hd⟩
  ·have z:∃o,s.heap.get? p=some o/\o.ExactDict:=by
    rcases hk with⟨kvs,hk⟩|⟨kvs,hk⟩
    ·obtain⟨_,_,_,_,o,_,_,e,ex,_⟩:=I.hok p _ hk
     exact⟨o,e,ex⟩
    ·obtain⟨_,_,_,_,o,_,_,e,ex,_⟩:=I.hok p _ hk
     exact⟨o,e,ex⟩
   obtain⟨o,e,ex⟩:=z
   refine⟨⟨o,e,ex.1⟩,fun a e2=>?_⟩
   cases e2
   exact⟨o,e,ex.2.1⟩
  ·obtain⟨o,_,_,_,e,ex,_⟩:=I.hok p _ hk
   refine⟨⟨o,e,ex.1⟩,fun a e2=>?_⟩
   cases e2
   exact⟨o,e,ex.2.1⟩
 |_=>exact False.elim ty
def UG(K:PySem.W.Frag)(T:String)(r:V->List V->Hp->VK->Prop)(to:TE):TE:=fun σ H Q=>to σ H fun x H1=>UE K T x H1/\r x [] H1 Q
def ZN(K:PySem.W.Frag)(T:String)(r:V->List V->Hp->VK->Prop)(to:TE)(t:TA):TE:=fun σ H Q=>to σ H fun x H1=>UE K T x H1/\t σ H1 fun xs H2=>r x xs H2 Q
variable{o e:Expr}{es:List Expr}{to:TE}{t:TA}{name:Str}{apos aZ:Pos}{T id:String}{r:V->List V->Hp->VK->Prop}
theorem wR(pa:PlainAttrs T)(slot:Slot T name id)(hty:typeOf (.builtin id)=pure (.type "method_descriptor"))(hm:S8 X id r)(ho:PE X o to)
  (hbase:attributeBase o name X.env (eval o X.env)=eval o X.env:=by rfl)(hline:(apos.endLine==aZ.line)=true:=by rfl):PE X (.Call (.Attribute o name apos) [] [] aZ) (UG X.K T r to):=by
 intro pins s σ H Q I h
 refine wpAny_Call_method0_late hbase hline (bD (ho pins s σ H _ I h) fun v s1 ⟨x,H1,I1,r1,ty,q1⟩=>?_)
 obtain⟨h1,h2⟩:=D5 I1 r1 ty
 exact⟨T,id,pa,slot,hty,h1,h2,Calls.callWith_builtin rfl (PySem.evalArgs_none (hm pins s1 σ H1 x [] v [] Q I1 r1 .nil q1))⟩
theorem rM(pa:PlainAttrs T)(slot:Slot T name id)(hty:typeOf (.builtin id)=pure (.type "method_descriptor"))(hm:S8 X id r)(ho:PE X o to)(ha:PA X (e::es) t)
  (hbase:attributeBase o name X.env (eval o X.env)=eval o X.env:=by rfl)
  (hfew:((backTo aZ (starEach (e::es) X.env)).all (fun x=> !x.1)&&(backToKw aZ (keywordEach [] X.env)).all (fun x=>x.1.isSome)
   &&decide ((e::es).length+([]:List Keyword).length+(if([]:List Keyword).isEmpty then 0 else 1)<30))=true:=by rfl)
  (hline:(apos.endLine==aZ.line)=true:=by rfl)(hs:starEach (e::es) X.env=(false,eval e X.env)::starEach es X.env:=by rfl)(hplain:(backTo aZ (starEach es X.env)).any (·.1)=false:=by rfl):
  PE X (.Call (.Attribute o name apos) (e::es) [] aZ) (ZN X.K T r to t):=by
 intro pins s σ H Q I h
 refine wpAny_Call_method_late hbase hfew hline rfl (bD (ho pins s σ H _ I h) fun v s1 ⟨x,H1,I1,r1,ty,q1⟩=>?_)
 obtain⟨h1,h2⟩:=D5 I1 r1 ty
 refine⟨T,id,pa,slot,hty,h1,h2,?_⟩
 have hA:=ha aZ pins s1 σ H1 _ I1 q1
 rw[hs]at hA⊢
 refine Calls.callWith_builtin (by show(false||(backTo aZ (starEach es X.env)).any (·.1))=false;rw[hplain]<;>rfl) (Calls.evalArgs_plain ?_)
 exact bD hA fun us s2 ⟨vs,H2,I2,r2,q2⟩=>hm pins s2 σ H2 x vs v us Q I2 r1 r2 q2
end
end L2
namespace L2
open PySem PySem.Spec PyProof.Rows
def UH(X:Cx)(id:String)(r:V->List V->Hp->VK->Prop):Prop:=
 ∀(pins:List (Addr×Obj))(s:Shared)(σ:St)(H:Hp)(x:V)(xs:List V)(v:Value)(us:List Value)(Q:VK),Inv X pins σ H s->RelV x v->Vals xs us->r x xs H Q->
  wpAny (model X.prog X.w) X.A (call (.builtin id) (v::us)) (EP X pins σ Q) X.xe s
theorem Vals.one:∀{x:V}{us:List Value},Vals [x] us->∃u,us=[u]/\RelV x u
 |_,_,.cons r .nil=>⟨_,rfl,r⟩
theorem Vals.zero:∀{us:List Value},Vals [] us->us=[]
 |_,.nil=>rfl
theorem Vals.dropLast {xs:List V}{us:List Value}(h:Vals xs us):Vals xs.dropLast us.dropLast:=by
 induction h with
 |nil=>exact .nil
 |cons r t ih=>
  cases t with
  |nil=>exact .nil
  |cons q t'=>exact .cons r ih
theorem Vals.reverse {xs:List V}{us:List Value}(h:Vals xs us):Vals xs.reverse us.reverse:=by
 induction h with
 |nil=>exact .nil
 |cons r t ih=>rw[reverse_cons,reverse_cons];exact Vals.append ih (.cons r .nil)
theorem Vals.rep {xs:List V}{us:List Value}(h:Vals xs us):∀k:Nat,Vals (replicate k xs).flatten (replicate k us).flatten
 |0=>.nil
 |k+1=>by
  rw[replicate_succ,replicate_succ,flatten_cons,flatten_cons]
  exact Vals.append h (Vals.rep h k)
theorem zT{α:Type}(l:List α):l.eraseIdx (l.length-1)=l.dropLast:=by
 induction l with
 |nil=>rfl
 |cons a r ih=>
  cases r with
  |nil=>rfl
  |cons b r=>
   have e:(a::b::r).length-1=((b::r).length-1)+1:=by
    have h1:(a::b::r).length=r.length+2:=rfl
    have h2:(b::r).length=r.length+1:=rfl
    omega
   rw[e,List.eraseIdx_cons_succ,ih]
   all_goals rfl
theorem foldl_rep(its:List Value):∀(k:Nat)(acc:List Value),
  foldl (fun x1 x2=>x1++x2) acc.toArray (replicate k its.toArray)=(acc++(replicate k its).flatten).toArray
 |0,acc=>by simp
 |k+1,acc=>by
  have e:acc.toArray++its.toArray=(acc++its).toArray:=by simp
  have e2:(acc++its)++(replicate k its).flatten=acc++(replicate (k+1) its).flatten:=by
   rw[replicate_succ,flatten_cons,List.append_assoc]
  rw[<-e2,<-foldl_rep its k (acc++its),<-e,replicate_succ,foldl_cons]
section
variable{X:Cx}{pins:List (Addr×Obj)}{σ:St}{H:Hp}{s:Shared}{l b:Addr}{xs ys zs:List V}
theorem Inv.Mt {its its':List Value}{n:Nat}{f:Array Value->Array Value}{t':Nat}(I:Inv X pins σ H s)(hH:H l=some (.lst xs))
  (e:s.heap.get? l=some {cls:=.type "list",data:=.seq its.toArray n})(hf:f its.toArray=its'.toArray)(hv:Vals ys its')(hz:ys.length<=sizeLine):
  Inv X pins σ (upd H l (.lst ys)) {s with heap:=s.heap.update l (Obj.mapSeq f),toks:=t'}:=by
 have q:=PySem.IsL.update e f
 rw[hf]at q
 refine I.write (x:=l) (e:=l) (by rw[hH];exact trivial) (.inl rfl) (fun b' u hb hu=>(Heap.get?_update_other s.heap (Obj.mapSeq f) (Ne.symm hb)).trans hu) ⟨_,q⟩ ?_
 exact⟨hz,its',_,hv,q⟩
theorem Inv.Qx {its:List Value}{t':Nat}(I:Inv X pins σ H s)(hv:Vals ys its)(hz:ys.length<=sizeLine):
  Inv X pins σ (upd H s.heap.objs.size (.lst ys)) {s with heap:=s.heap.push {cls:=.type "list",data:=.seq its.toArray},toks:=t'}:=
 I.laid (fun _ _ q=>Heap.get?_push_of_some _ q) (Nat.le_refl _) ⟨hz,its,0,hv,Heap.get?_push_size _ rfl⟩
theorem Inv.fresh (I:Inv X pins σ H s):H s.heap.objs.size=none:=I.hok.fresh (Nat.le_refl _)
theorem Inv.HX (I:Inv X pins σ H s)(hH:H l=some (.lst xs)):xs.length<=sizeLine/\∃(its:List Value)(n:Nat),Vals xs its/\xs.length=its.length/\s.heap.get? l=some {cls:=.type "list",data:=.seq its.toArray n}:=by
 obtain⟨z,its,n,r,e⟩:=I.hok l _ hH
 exact⟨z,its,n,r,r.length,e⟩
theorem D6{n:Nat}(h:n<=sizeLine):Builtin.List.listTooLong n=false:=by
 unfold Builtin.List.listTooLong
 exact decide_eq_false (by omega)
end
section
variable{X:Cx}
def HY:V->List V->Hp->VK->Prop:=fun x vs H Q=>∃l xs y,x=.ref l/\vs=[y]/\H l=some (.lst xs)/\xs.length<sizeLine/\Q .non (upd H l (.lst (xs++[y])))
theorem cV:UH X "list.append" HY:=by
 intro pins s σ H x vs v us Q I rx rv h
 obtain⟨l,xs,y,rfl,rfl,hH,hz,q⟩:=h
 cases rx
 obtain⟨u,rfl,ru⟩:=rv.one
 obtain⟨z,its,n,r,hl,e⟩:=I.HX hH
 refine call_meets F.slot_list_append ⟨_,e,rfl⟩ F.entry_list_append (F.args_list_append_2 _ _) (PySem.list_append l its.toArray n u (by rw[size_toArray];omega)) ⟨e,?_⟩
 refine⟨.non,_,I.Mt (its':=its++[u]) hH e (by simp) (r.append (.cons ru .nil)) ?_,rfl,q⟩
 rw[length_append,length_singleton]
 omega
def UI:V->List V->Hp->VK->Prop:=fun x vs H Q=>∃l xs y,x=.ref l/\vs=[]/\H l=some (.lst xs)/\xs[xs.length-1]?=some y/\Q y (upd H l (.lst xs.dropLast))
theorem D7:UH X "list.pop" UI:=by
 intro pins s σ H x vs v us Q I rx rv h
 obtain⟨l,xs,y,rfl,rfl,hH,hy,q⟩:=h
 cases rx
 have UJ:=rv.zero
 subst UJ
 obtain⟨z,its,n,r,hl,e⟩:=I.HX hH
 obtain⟨u,hu,ru⟩:=r.get hy
 have UK:its.toArray[its.toArray.size-1]?=some u:=by
  show its.toArray[its.length-1]?=some u
  rw[<-Array.getElem?_toList,<-hl]
  exact hu
 refine call_meets F.slot_list_pop ⟨_,e,rfl⟩ F.entry_list_pop (F.args_list_pop_1 _) (MeetsSeq.list_pop_last l its.toArray n u UK (by rw[size_toArray];omega)) ⟨e,?_⟩
 refine⟨y,_,I.Mt (its':=its.dropLast) hH e ?_ r.dropLast ?_,ru,q⟩
 ·show its.toArray.eraseIdxIfInBounds (its.toArray.size-1)=its.dropLast.toArray
  rw[size_toArray,List.eraseIdxIfInBounds_toArray,zT]
 ·rw[List.length_dropLast]
  omega
def D8:V->List V->Hp->VK->Prop:=fun x vs H Q=>∃l xs,x=.ref l/\vs=[]/\H l=some (.lst xs)/\Q .non (upd H l (.lst xs.reverse))
theorem zU:UH X "list.reverse" D8:=by
 intro pins s σ H x vs v us Q I rx rv h
 obtain⟨l,xs,rfl,rfl,hH,q⟩:=h
 cases rx
 have UJ:=rv.zero
 subst UJ
 obtain⟨z,its,n,r,hl,e⟩:=I.HX hH
 refine call_meets F.slot_list_reverse ⟨_,e,rfl⟩ F.entry_list_reverse (F.args_list_reverse_1 _) (AutoSeq1.list_reverse_list_0 l its.toArray n (by rw[size_toArray];omega)) ⟨e,?_⟩
 refine⟨.non,_,I.Mt (its':=its.reverse) hH e (by simp) r.reverse ?_,rfl,q⟩
 rw[length_reverse]
 omega
def UL:R2:=fun x y H Q=>∃l k xs,x=.ref l/\y=.int k/\H l=some (.lst xs)/\ -(2^63)<=k/\k<2^63/\xs.length*k.toNat<=sizeLine/\
 ∀p,H p=none->Q (.ref p) (upd H p (.lst (replicate k.toNat xs).flatten))
theorem len_rep{α:Type}(xs:List α)(k:Nat):(replicate k xs).flatten.length=k*xs.length:=by
 induction k with
 |zero=>simp
 |succ k ih=>rw[replicate_succ,flatten_cons,length_append,ih,Nat.succ_mul,Nat.add_comm]
theorem Mu:qA X (binaryOp .Mult) UL:=by
 intro pins s σ H x y v u Q I rx ry h
 obtain⟨l,k,xs,rfl,rfl,hH,h1,h2,hz,q⟩:=h
 cases rx
 obtain⟨t,rfl⟩:=ry
 obtain⟨z,its,n,r,hl,e⟩:=I.HX hH
 have hlen:its.toArray.size*k.toNat<=sizeLine:=by rw[size_toArray,<-hl];exact hz
 have UM:¬its.toArray.size*k.toNat>(2^63-1)/8:=by
  have:(sizeLine:Nat)<=(2^63-1)/8:=by decide
  omega
 have hfit:¬(!Builtin.List.listFitsIndex k)=true:=by
  rw[fitsIndex_both h1 h2]
  exact Bool.false_ne_true
 have Qy:¬Builtin.List.listTooLong (its.toArray.size*k.toNat)=true:=by
  rw[D6 hlen]
  exact Bool.false_ne_true
 have hnew:foldl (fun x1 x2=>x1++x2) #[] (replicate (if its.toArray.isEmpty=true then 0 else k.toNat) its.toArray)=(replicate k.toNat its).flatten.toArray:=by
  have f0:∀m:Nat,foldl (fun x1 x2=>x1++x2) #[] (replicate m its.toArray)=(replicate m its).flatten.toArray:=fun m=>by
   have:=foldl_rep its m []
   rw[nil_append]at this
   exact this
  rw[f0]
  cases its with
  |nil=>simp
  |cons a r'=>rw[if_neg (by simp)]
 refine wpAny_binaryOp_repeat_ref (T:="list") (U:="int") (by decide) ⟨_,e,rfl⟩ (fun s'=>typeIs_int s' k t) noFill_list_mul F.fills_int_mul F.slot_int_rmul repeat_list F.slot_int_index.lookup
  (call_meets F.slot_int_rmul (typeIs_int s k t) F.entry_int_rmul (F.args_int_rmul_2 _ _) (int___rmul___int_list k t l its.toArray n)
   ⟨e,rfl,⟨_,e,rfl⟩,call_meets F.slot_list_mul ⟨_,e,rfl⟩ F.entry_list_mul (F.args_list_mul_2 _ _) (AutoListH.list___mul___list_int_3 l its.toArray n k t hfit UM Qy) ⟨e,?_⟩⟩)
 rw[hnew]
 exact⟨.ref _,_,I.Qx (t':=s.toks) (r.rep k.toNat) (by rw[len_rep,Nat.mul_comm];exact hz),rfl,q _ I.fresh⟩
end
section
variable{prog:Program}{w:World}{A:Around}{E:Value->Shared->Prop}{s:Shared}
set_option maxRecDepth 100000 in
end
end L2
namespace XR
open PySem PySem.W PySem.Calls PyProof.Rows
theorem rY{P:Params}{h:Heap}:∀(ns:List Int)(vs:List Value),WellAll P h vs (ns.map WData.int)->IntsAre vs ns:=by
 intro ns
 induction ns with
 |nil=>
  intro vs w
  rw[map_nil]at w
  cases w
  exact .nil
 |cons n ns ih=>
  intro vs w
  rw[map_cons]at w
  cases w with
  |cons a b=>
   cases a
   exact .cons _ _ (ih _ b)
theorem CH{l:OpenLaw}{n:Nat}(hn:l.most=some n){P:Params}{h:Heap}{args:List WData}{vals:List Value}
  (hpre:l.row.toRowW.claim.pre args=true)(UN:WellAll P h vals args):
  ∃a vs ns,vals=[Value.ref a]/\args=[WData.list (ns.map WData.int)]/\h.get? a=some {cls:=.type "list",data:=.seq vs.toArray}/\IntsAre vs ns/\ns.length<=n:=by
 have hsh:WShape.hasAll [] args [.list .int]=true:=(pre_splitW hpre).1
 have hc:l.pre.holds [] {args:=args}=true:=(pre_splitW hpre).2
 obtain⟨d,r,rfl,h1,h2⟩:=hasAllW_cons hsh
 obtain rfl:=hasAllW_nil h2
 obtain⟨xs,rfl,h3⟩:=hasW_list h1
 obtain⟨ns,rfl⟩:=items_int h3
 have hlen:ns.length<=n:=by
  unfold OpenLaw.pre at hc
  have h4:(WTm.not (.lt (.lit (.int (n:Int))) (.len (.arg 0)))).holds [] {args:=[.list (ns.map .int)]}=true:=by
   have h4:=(holds_andW hc).1
   rw[hn]at h4
   exact h4
  have h5:=condW_of h4 (w_not (w_lt w_lit (w_len_list (w_arg rfl))))
  rw[length_map]at h5
  refine le_of_not_lt fun q=>?_
  have q':(n:Int)<((ns.length:Nat):Int):=by omega
  first
   |(rw[decide_eq_true q']at h5;exact absurd h5 (by decide))
   |(simp at h5;omega)
 cases UN with
 |cons w1 w2=>
  cases w2
  cases w1 with
  |list ho hall=>exact⟨_,_,ns,rfl,rfl,ho,rY ns _ hall,hlen⟩
theorem CI(l:OpenLaw)(args:List WData):l.row.toRowW.claim.post args (.bool true) args=true:=
 postW_of (r:=l.row.toRowW) (X:=(true==true))
  (show WShape.has [] (.bool true) .bool=true by first|rfl|decide|simp[WShape.has,WShape.arms,WShape.armsAll])
  (show(WTm.eq .res (.lit (.bool true))).value [] {args:=args,res:=some (.bool true),after:=args}=some (.bool (true==true))from w_eq_bool (w_res rfl) w_lit) rfl
theorem yf{l:OpenLaw}{n:Nat}{q:Program}{loose:List Str}{XP:(Str->Option Value)->Heap->Prop}{YP:World->Heap->Prop}{d:DefRec}
  (hn:l.most=some n)(Qz:d.params.defaults=[])
  (call:∀(w:World)(s₀ s₁:Shared)(mg mb:Str->Option Value)(fa:Addr)(o:Obj)(pm cd doc:Value)(a:Addr)(vs:List Value)(ns:List Int),
   Ground q loose [] XP w s₀ mg mb s₁.heap->YP w s₁.heap->
   s₁.heap.get? fa=some o->o.data=.func (docDef d.name d.params d.body d.scope pm cd doc)->s₁.heap.CodeRec cd d.name->mg d.name=some (.ref fa)->
   s₁.heap.get? a=some {cls:=.type "list",data:=.seq vs.toArray}->IntsAre vs ns->ns.length<=n->s₁.gens=#[]->
   codeAny (model l.prog w) callerA (.call (.ref fa) ⟨[.ref a],[]⟩) (fun r s'=>r=.ok (.ret (.bool true))/\OldK s₁.heap s'.heap/\s'.os=s₁.os/\AllBare s'.gens) s₁):
  WalkO q loose XP YP l.row.toRowW d [] (fun f vs=>PySem.call f vs):=by
 intro w s₀ s₁ mg mb G Y fa o pm cd doc dV kV ho hd hcd hD hmg hg args vals as hpre hlay hrd UN hlo
 obtain rfl:dV=.none:=Dflts.none hD Qz
 obtain rfl:kV=.none:=Dflts.noKw hD
 obtain⟨a,vs,ns,rfl,rfl,hobj,hints,hlen⟩:=CH hn hpre UN
 refine enter_call (codeAny_mono (call w s₀ s₁ mg mb fa o pm cd doc a vs ns G Y ho (fd_plain hd) hcd hmg hobj hints hlen hg) fun r s' hq=>?_)
 obtain⟨rfl,h2,h3,h4⟩:=hq
 exact⟨.inl ⟨.bool true,.bool true,[],rfl,fun _=>rfl,.bool true,CI l _,fun _=>⟨Pairwise.nil,fun _ hm=>(nomatch hm)⟩⟩,h2,h3,h4⟩
section
variable{prog:Program}{w:World}{A:Around}{E:Value->Shared->Prop}{s:Shared}{K:Frag}
def ledger(h:Heap)(L d:Addr):List (Addr×Obj):=(range h.objs.size).filterMap fun a=>if a=L\/a=d then none else(h.get? a).map fun o=>(a,o)
end
end XR
namespace L2
open PySem PySem.Spec PyProof.Rows
theorem qE:∀{vs:List Value}{ns:List Int},IntsAre vs ns->Vals (ns.map V.int) vs
 |_,_,.nil=>.nil
 |_,_,.cons n t h=>.cons ⟨t,rfl⟩ (qE h)
def Mv(H:Hp):Prop:=∀b,H b=none\/∃o xs,H b=some (.u9 o (.lst xs))
theorem D9{P:Program}{w:World}{K:PySem.W.Frag}{mg mb:Str->Option Value}{CX:Du}{k:Nat}{fa a:Addr}{fd:FuncData}{x:Str}{sp:Sp}{s₁:Shared}{vs:List Value}{ns:List Int}
  (KX:K.In s₁.heap)(hns:s₁.heap.Ns mainGlobals mg)(hb:s₁.heap.Ns builtinsNs mb)(QA:∀x:Str,x≠"__name__"->mb x=bootBuiltins x)(hlim:s₁.heap.NoLimit)(hg:s₁.gens=#[])
  (ha:s₁.heap.get? a=some {cls:=.type "list",data:=.seq vs.toArray})(hi:IntsAre vs ns)(hl:ns.length<=sizeLine)(hr:aX k callerA)
  (F:∀base:Heap,K.In base->base.Ns mainGlobals mg->bQ P w K mg base CX k fa fd [x] sp)(hbind:∀(s:Shared)(u:Value),BindsTo s fd ⟨[u],[]⟩ [(x,u)])
  (wM:∀H:Hp,Mv H->b7 K H a (ns.map V.int)->sp [.ref a] H (fun v _=>v=.bl true) fun _ _ _=>False)
  (UO:∀H e s',CX [] H s₁ (fun _ _ _=>False) e s'->False):
  codeAny (model P w) callerA (.call (.ref fa) ⟨[.ref a],[]⟩) (fun r s'=>r=.ok (.ret (.bool true))/\OldK s₁.heap s'.heap/\s'.os=s₁.os/\AllBare s'.gens) s₁:=by
 have rv:=qE hi
 have UQ:=hi.length
 have core:∀H:Hp,Mv H->b7 K H a (ns.map V.int)->nK P w H s₁.heap->(∀b,H b≠none->b=a)->(H a≠none->K.lookup a=none)->
   codeAny (model P w) callerA (.call (.ref fa) ⟨[.ref a],[]⟩) (fun r s'=>r=.ok (.ret (.bool true))/\OldK s₁.heap s'.heap/\s'.os=s₁.os/\AllBare s'.gens) s₁:=by
  intro H hO hS hok hA hK
  have A6:∀{b:Addr}{o:Obj},s₁.heap.get? b=some o->H b=none->(wH s₁.heap H).get? b=some o:=fun e n=>DH e n
  have Qp:∀{b:Addr}{o:Obj}{es:Array DictEntry}{ep:Nat},s₁.heap.get? b=some o->o.data=.dict es ep->H b=none:=fun{b o es ep} e d=>by
   cases q:H b with
   |none=>rfl
   |some u=>
    have e':b=a:=hA b (by rw[q];simp)
    subst e'
    rw[ha]at e;cases e
    have d':Data.seq vs.toArray _=Data.dict es ep:=d
    cases d'
  have S9:∀{b:Addr}{m:Str->Option Value},s₁.heap.Ns b m->(wH s₁.heap H).Ns b m:=fun{b m}⟨o,es,ep,e,d,r⟩=>⟨o,es,ep,A6 e (Qp e d),d,r⟩
  have XS:K.In (wH s₁.heap H):=fun b o e=>A6 (KX b o e) (by
   cases q:H b with
   |none=>rfl
   |some u=>
    have e':b=a:=hA b (by rw[q];simp)
    subst e'
    rw[hK (by rw[q];simp)]at e;cases e)
  have hM:Mod K mg (wH s₁.heap H):=⟨XS,S9 hns,⟨mb,S9 hb,QA⟩,let⟨mc,h1,h2⟩:=hlim;⟨mc,S9 h1,h2⟩⟩
  have e0:zQ P w K mg (wH s₁.heap H) callerA [] s₁ H:=⟨rfl,hM,fun b o e=>Hv e,le_of_eq (Cq _ _),trivial,fun b hb=>absurd (show b∈([]:List Addr)from hb) (by simp),hok,.of_eq hg⟩
  refine codeAny_mono ((F _ XS (S9 hns)).run callerA [] s₁ H ⟨[.ref a],[]⟩ [.ref a] [.ref a] _ _ hr e0 (hbind s₁ (.ref a)) (.cons rfl .nil) (wM H hO hS)) fun r s' h=>?_
  cases r with
  |error e=>exact(UO H e s' h).elim
  |ok fl=>
   cases fl with
   |next=>exact False.elim h
   |brk=>exact False.elim h
   |cont=>exact False.elim h
   |ret u=>
    obtain⟨v,H',os,bare,un,UR,r',q⟩:=h
    have q':v=.bl true:=q
    subst q'
    obtain rfl:u=Value.bool true:=r'
    refine⟨rfl,OldK.of_keep fun b o e=>?_,os,bare⟩
    cases q:H b with
    |none=>exact un.keep b o e q (by intro z;exact absurd (show b∈([]:List Addr)from z) (by simp)) (by simp)
    |some u=>
     rcases hO b with z|⟨ob,xs,z⟩
     ·rw[q]at z;cases z
     ·have z2:=un.wG b ob _ z
      obtain⟨e1,_⟩:=hok b _ z
      obtain⟨e2,_⟩:=UR b _ z2
      rw[e]at e1;cases e1
      exact e2
 cases hk:K.lookup a with
 |some o=>
  have e:=KX a o hk
  rw[ha]at e
  cases e
  refine core (fun _=>none) (fun _=>.inl rfl) (.inr ⟨_,vs.toArray,_,hk,rfl,rfl,rfl,by rw[size_toArray,UQ];exact hl,by simpa using rv⟩) (fun b u z=>by have z':(none:Option HO)=some u:=z;cases z') (fun b z=>absurd rfl z) fun z=>absurd rfl z
 |none=>
  refine core (fun b=>if b=a then some (.u9 {cls:=.type "list",data:=.seq vs.toArray} (.lst (ns.map V.int)))else none) (fun b=>?_) (.inl (.inr ⟨{cls:=.type "list",data:=.seq vs.toArray},if_pos rfl⟩)) (fun b u z=>?_) (fun b z=>?_) fun _=>hk
  ·by_cases hb:b=a
   ·exact .inr ⟨_,_,if_pos hb⟩
   ·exact .inl (if_neg hb)
  ·by_cases hb:b=a
   ·have z':=(if_pos hb).symm.trans z
    cases z'
    subst hb
    exact⟨ha,by rw[length_map];exact hl,vs,_,rv,ha⟩
   ·have z':=(if_neg hb).symm.trans z
    cases z'
  ·by_cases hb:b=a
   ·exact hb
   ·exact absurd (if_neg hb) z
end L2
namespace L2
open PySem PySem.Spec PyProof.Rows
abbrev KOf{K:PySem.W.Frag}{h:Heap}(_:K.In h):PySem.W.Frag:=K
theorem HZ{l:PySem.W.OpenLaw}{n k:Nat}{q:Program}{loose:List Str}{XP:(Str->Option Value)->Heap->Prop}{YP:World->Heap->Prop}{d:DefRec}{K:Params->PySem.W.Frag}{CX:World->Du}{sp:World->Sp}{x:Str}
  (hn:l.most=some n)(hn2:n<=sizeLine)(Qz:d.params.defaults=[])(hr:aX k callerA)
  (hY:∀(w:World)(h:Heap),YP w h->(K w.params).In h)
  (F:∀(w:World)(mg:Str->Option Value)(fa:Addr)(h:Heap),(K w.params).In h->h.Ns mainGlobals mg->mg d.name=some (.ref fa)->
   ∃fd:FuncData,(∀(s:Shared)(u:Value),BindsTo s fd ⟨[u],[]⟩ [(x,u)])/\
    ∀base:Heap,(K w.params).In base->base.Ns mainGlobals mg->bQ l.prog w (K w.params) mg base (CX w) k fa fd [x] (sp w))
  (wM:∀(w:World)(H:Hp)(a:Addr)(ns:List Int),ns.length<=n->Mv H->b7 (K w.params) H a (ns.map V.int)->sp w [.ref a] H (fun v _=>v=.bl true) fun _ _ _=>False)
  (UO:∀(w:World)(H:Hp)(s:Shared)(e:Value)(s':Shared),CX w [] H s (fun _ _ _=>False) e s'->False):
  PySem.W.WalkO q loose XP YP l.row.toRowW d [] (fun f vs=>PySem.call f vs):=by
 refine XR.yf hn Qz fun w s₀ s₁ mg mb fa o pm cd doc a vs ns G Y ho hd hcd hmg hobj hints hlen hg=>?_
 have KX:=hY w _ Y
 obtain⟨fd,hb,hF⟩:=F w mg fa _ KX G.T.g hmg
 exact D9 KX G.T.g G.T.b G.T.builtins G.T.nolimit hg hobj hints (le_trans hlen hn2) hr hF hb (fun H hO hS=>wM w H a ns hlen hO hS) fun H e s'=>UO w H s₁ e s'
end L2
namespace L2
open PySem PySem.Spec PyProof.Rows
def inClass(s:Stmt)(j:Nat):Stmt:=match s with
 |.ClassDef _ _ _ body _ _ _ _ _ _ _=>body.getD j (.Pass ⟨0,0,0,0⟩)
 |_=>.Pass ⟨0,0,0,0⟩
def cZ(s:Stmt):Arguments:=match s with
 |.FunctionDef _ a _ _ _ _ _ _ _ _=>a
 |_=>{posonlyargs:=[],args:=[],vararg:=none,kwonlyargs:=[],kw_defaults:=[],kwarg:=none,defaults:=[]}
def bq(s:Stmt):List Stmt:=match s with
 |.FunctionDef _ _ b _ _ _ _ _ _ _=>b
 |_=>[]
def ae(s:Stmt):Scope:=match s with
 |.FunctionDef _ _ _ _ _ _ sc _ _ _=>sc
 |_=>{kind:=.function,names:=[],isGenerator:=false,isCoroutine:=false}
abbrev jL:Du:=fun _ _ _ _ _ _=>False
abbrev E0:XK:=fun _ _ _=>False
theorem lR{X:Cx}:Passes jL X E0:=fun _ _ _ _ _ _ _ h=>h.elim
structure yg(K:PySem.W.Frag)(x qual:Str)(st:Stmt)(f:Addr)(fd:FuncData):Prop where
 ex:∃(oc:Value)(od:Option Addr)(kV doc pm:Value)(an:Option Addr)(cdv ct:Value)(Dv:Array (Option Value)),
  fd=PySem.W.fnOf x qual (cZ st) (bq st) (ae st) .none kV doc pm an cdv ct/\K.lookup f=some ⟨oc,od,.func fd,Dv⟩/\codeIn K cdv qual=true
 kp:keepIn K (.ref f)=true
section
variable{P:Program}{w:World}{K:PySem.W.Frag}{mg:Str->Option Value}{base:Heap}
theorem yg.ok {x qual:Str}{st:Stmt}{f:Addr}{fd:FuncData}{N ps:List Str}{k:Nat}{sp:Sp}(F:yg K x qual st f fd)(S:aw N ps (ae st))(len:∀vs H Q E,sp vs H Q E->vs.length=ps.length)
  (hbody:∀(cdv:Value)(A:Around)(outer:List Env)(s:Shared)(H:Hp)(vs:List V)(Q:VK)(E:XK),aX k (A.deeper (envOfC qual (ae st) s.heap.objs.size f cdv))->sp vs H Q E->
   ∃t,oV (oY jL P w K mg base N qual (ae st) f cdv A outer s H E).Ds (bq st) t/\t {nx:=fun _ H'=>Q .non H',rt:=Q} (start N vs) H):bQ P w K mg base jL (k+1) f fd ps sp:=by
 obtain⟨oc,od,kV,doc,pm,an,cdv,ct,Dv,rfl,lk,hcd⟩:=F.ex
 refine Qq lk hcd S len fun A outer s H vs Q E hr wM=>?_
 obtain⟨t,h,q⟩:=hbody cdv A outer s H vs Q E hr wM
 exact⟨t,h.Ds,q⟩
theorem yg.binds {x qual:Str}{st:Stmt}{f:Addr}{fd:FuncData}{ps:List Str}(F:yg K x qual st f fd)
  (h:∀(kV doc pm:Value)(an:Option Addr)(cdv ct:Value)(us:List Value),us.length=ps.length->bindArgs (PySem.W.fnOf x qual (cZ st) (bq st) (ae st) .none kV doc pm an cdv ct) ⟨us,[]⟩=pure (ps.zip us)):Binds K fd ps []:=by
 obtain⟨oc,od,kV,doc,pm,an,cdv,ct,Dv,rfl,lk,hcd⟩:=F.ex
 exact .all (h kV doc pm an cdv ct)
theorem zV{x qual:Str}{st:Stmt}{f:Addr}{oc:Value}{od an:Option Addr}{Dv:Array (Option Value)}{kV doc pm cdv ct:Value}(l:K.lookup f=some ⟨oc,od,.func (PySem.W.fnOf x qual (cZ st) (bq st) (ae st) .none kV doc pm an cdv ct),Dv⟩)
  (c:codeIn K cdv qual=true)(k:keepIn K (.ref f)=true):yg K x qual st f (PySem.W.fnOf x qual (cZ st) (bq st) (ae st) .none kV doc pm an cdv ct):=⟨⟨oc,od,kV,doc,pm,an,cdv,ct,Dv,rfl,l,c⟩,k⟩
end
theorem pD{A:Around}{k:Nat}(hr:aX k A):A.units+1<cLine:=Nat.lt_of_le_of_lt (Nat.add_le_add_left (by decide:1<=64) _) hr.units
section
variable{X:Cx}
theorem pv(i:Nat){x:Str}{pos:Pos}(hN:X.N[i]?=some x:=by rfl)(hv:vI X.env.scope x:=by first|exact Or.inl rfl|exact Or.inr (Or.inl rfl)|exact Or.inr (Or.inr rfl))(hd:(x==("__debug__":Str))=false:=by decide)
  (hcd:(x==("__classdict__":Str))=false:=by decide):PE X (.Name x pos) (HB i):=iB hN hv hd hcd
end
theorem qF{A B:Prop}(h:B):if false=true then A else B:=by
 rw[if_neg Bool.false_ne_true]
 exact h
theorem rZ{A B:Prop}(h:A):if true=true then A else B:=by
 rw[if_pos rfl]
 exact h
def aB(H H':Hp):Prop:=∀b o,H b=some o->H' b=some o
theorem aB.refl (H:Hp):aB H H:=fun _ _ h=>h
theorem aB.trans {H H1 H2:Hp}(a:aB H H1)(b:aB H1 H2):aB H H2:=fun c o h=>b c o (a c o h)
theorem aB.free {H H':Hp}(e:aB H H'){l:Addr}(h:H' l=Option.none):H l=Option.none:=by
 cases q:H l with
 |none=>rfl
 |some o=>
  rw[e l o q]at h
  cases h
theorem aB.seq {K:PySem.W.Frag}{H H':Hp}{a:Addr}{xs:List V}(e:aB H H')(h:b7 K H a xs):b7 K H' a xs:=by
 rcases h with(h|⟨o,h⟩)|h
 ·exact .inl (.inl (e _ _ h))
 ·exact .inl (.inr ⟨o,e _ _ h⟩)
 ·exact .inr h
end L2
set_option maxHeartbeats 4000000
namespace L2
open PySem PySem.Spec PyProof.Rows
section
variable{κ:Type}[DecidableEq κ]
def cF(kvs:List (κ×V))(k:κ):Option V:=(kvs.find? fun kv=>decide (kv.1=k)).map (·.2)
def putK(kvs:List (κ×V))(k:κ)(v:V):List (κ×V):=
 if(kvs.any fun kv=>decide (kv.1=k))=true then kvs.map (fun kv=>if kv.1=k then(kv.1,v)else kv)else kvs++[(k,v)]
def XT(kvs:List (κ×V))(k:κ):List (κ×V):=kvs.filter fun kv=>decide (kv.1≠k)
theorem dz{p:κ×V}{r:List (κ×V)}{k:κ}(e:p.1=k):cF (p::r) k=some p.2:=by simp[cF,find?_cons,e]
theorem dA{p:κ×V}{r:List (κ×V)}{k:κ}(e:¬p.1=k):cF (p::r) k=cF r k:=by simp[cF,find?_cons,e]
theorem pF(k:κ):∀kvs:List (κ×V),(kvs.any fun kv=>decide (kv.1=k))=(cF kvs k).isSome
 |[]=>rfl
 |p::r=>by
  rw[any_cons]
  by_cases e:p.1=k
  ·simp only [dz e,decide_eq_true e,Bool.true_or,isSome_some]
  ·rw[dA e,decide_eq_false e,Bool.false_or];exact pF k r
theorem yh(k j:κ)(y:V):∀kvs:List (κ×V),cF (kvs.map fun kv=>if kv.1=k then(kv.1,y)else kv) j=(cF kvs j).map fun x=>if j=k then y else x
 |[]=>rfl
 |p::r=>by
  have ih:=yh k j y r
  rw[map_cons]
  by_cases h:p.1=k
  ·rw[if_pos h]
   by_cases e:p.1=j
   ·rw[dz (p:=(p.1,y)) e,dz e,map_some,if_pos (e.symm.trans h)]
   ·rw[dA (p:=(p.1,y)) e,dA e,ih]
  ·rw[if_neg h]
   by_cases e:p.1=j
   ·rw[dz (p:=p) e,dz e,map_some,if_neg (fun z=>h (e.trans z))]
   ·rw[dA (p:=p) e,dA e,ih]
theorem vN(k j:κ)(y:V):∀kvs:List (κ×V),cF kvs k=none->cF (kvs++[(k,y)]) j=if j=k then some y else cF kvs j
 |[],_=>by
  by_cases e:k=j
  ·rw[if_pos e.symm];exact dz (p:=(k,y)) e
  ·rw[if_neg (fun z=>e z.symm)];exact dA (p:=(k,y)) e
 |p::r,hn=>by
  rw[cons_append]
  have hk:¬p.1=k:=fun z=>by rw[dz z]at hn;cases hn
  rw[dA hk]at hn
  have ih:=vN k j y r hn
  by_cases e:p.1=j
  ·rw[dz e,dz e,if_neg (fun z=>hk (e.trans z))]
  ·rw[dA e,dA e,ih]
theorem ji(kvs:List (κ×V))(k j:κ)(y:V):cF (putK kvs k y) j=if j=k then some y else cF kvs j:=by
 unfold putK
 by_cases a:(kvs.any fun kv=>decide (kv.1=k))=true
 ·rw[if_pos a,yh]
  rw[pF]at a
  by_cases e:j=k
  ·obtain⟨x,hx⟩:=isSome_iff_exists.mp a
   rw[if_pos e,e,hx,map_some,if_pos rfl]
  ·rw[if_neg e]
   cases cF kvs j with
   |none=>rfl
   |some x=>rw[map_some,if_neg e]
 ·rw[if_neg a]
  refine vN k j y kvs ?_
  rw[pF]at a
  cases q:cF kvs k with
  |none=>rfl
  |some x=>rw[q]at a;exact(a rfl).elim
theorem fx(kvs:List (κ×V))(k:κ)(v:V):(putK kvs k v).length<=kvs.length+1:=by
 unfold putK
 split
 ·rw[length_map];omega
 ·rw[length_append,length_cons,length_nil];omega
theorem lZ.qG {o:Option V}{u:Option Value}(r:lZ o u):o.isSome=u.isSome:=by
 cases o with
 |none=>cases u with
  |none=>rfl
  |some _=>exact(show False from r).elim
 |some _=>cases u with
  |none=>exact(show False from r).elim
  |some _=>rfl
theorem lZ.getD {o:Option V}{u:Option Value}{d:V}{d':Value}(r:lZ o u)(rd:RelV d d'):RelV (o.getD d) (u.getD d'):=by
 cases o with
 |none=>cases u with
  |none=>exact rd
  |some _=>exact(show False from r).elim
 |some _=>cases u with
  |none=>exact(show False from r).elim
  |some _=>exact r
theorem KV.val {kvs:List (κ×V)}{vs:List (κ×Value)}(r:KV kvs vs)(k:κ):lZ (cF kvs k) (valueAt vs k):=by
 unfold KV at r
 induction r with
 |nil=>exact True.intro
 | @cons p q ps qs h t ih=>
  obtain⟨h1,h2⟩:=h
  by_cases e:p.1=k
  ·have e':q.1=k:=h1.symm.trans e
   have b:valueAt (q::qs) k=some q.2:=by simp[valueAt,find?_cons,e']
   rw[dz e,b];exact h2
  ·have e':¬q.1=k:=fun z=>e (h1.trans z)
   have b:valueAt (q::qs) k=valueAt qs k:=by simp[valueAt,find?_cons,e']
   rw[dA e,b];exact ih
theorem KV.any {kvs:List (κ×V)}{vs:List (κ×Value)}(r:KV kvs vs)(k:κ):(kvs.any fun kv=>decide (kv.1=k))=vs.any fun kv=>decide (kv.1=k):=by
 unfold KV at r
 induction r with
 |nil=>rfl
 |cons h t ih=>rw[any_cons,any_cons,ih,h.1]
theorem KV.Mw {kvs:List (κ×V)}{vs:List (κ×Value)}(r:KV kvs vs)(k:κ){y:V}{u:Value}(ry:RelV y u):
  KV (kvs.map fun kv=>if kv.1=k then(kv.1,y)else kv) (vs.map fun kv=>if kv.1=k then(kv.1,u)else kv):=by
 unfold KV at r⊢
 induction r with
 |nil=>exact .nil
 | @cons p q ps qs h t ih=>
  rw[map_cons,map_cons]
  refine .cons ?_ ih
  obtain⟨h1,h2⟩:=h
  by_cases e:p.1=k
  ·rw[if_pos e,if_pos (h1.symm.trans e)];exact⟨h1,ry⟩
  ·rw[if_neg e,if_neg (fun z=>e (h1.trans z))];exact⟨h1,h2⟩
theorem KV.put {kvs:List (κ×V)}{vs:List (κ×Value)}(r:KV kvs vs)(k:κ){y:V}{u:Value}(ry:RelV y u):KV (putK kvs k y) (stored vs k u):=by
 unfold putK stored
 rw[r.any k]
 by_cases e:(vs.any fun kv=>decide (kv.1=k))=true
 ·rw[if_pos e,if_pos e];exact r.Mw k ry
 ·rw[if_neg e,if_neg e];exact Paired.snoc r ⟨rfl,ry⟩
theorem KV.length {kvs:List (κ×V)}{vs:List (κ×Value)}(r:KV kvs vs):kvs.length=vs.length:=Paired.length r
end
theorem yi{P:Program}{w:World}{k:Key}{u:Value}(r:RelV (kV k) u):(cC P w).is k u=true:=by
 cases k with
 |inl i=>obtain⟨t,e⟩:=(show∃t,u=Value.int i t from r);subst e;exact xY P w i t
 |inr x=>obtain⟨t,e⟩:=(show∃t,u=Value.str x t from r);subst e;exact xZ P w x t
theorem vO{P:Program}{w:World}:∀{ks:List Key}{us:List Value},Vals (ks.map kV) us->ItemsAre (cC P w) ks us
 |[],_,r=>by rw[map_nil]at r;cases r;exact .nil
 |k::ks,_,r=>by
  rw[map_cons]at r
  cases r with
  |cons h t=>exact .cons (yi h) (vO t)
abbrev KT(H:Hp):List (List Key×V)->List (List Key×Addr×Value)->Prop:=Paired fun p q=>p.1=q.1/\H q.2.1=some (.tup (p.1.map kV))/\RelV p.2 q.2.2
theorem KT.val {H:Hp}{kvs:List (List Key×V)}{xs:List (List Key×Addr×Value)}(r:KT H kvs xs)(k:List Key):lZ (cF kvs k) ((atKey xs k).map (·.2)):=by
 induction r with
 |nil=>exact True.intro
 | @cons p q ps qs h t ih=>
  obtain⟨h1,_,h2⟩:=h
  by_cases e:p.1=k
  ·have e':q.1=k:=h1.symm.trans e
   have b:atKey (q::qs) k=some q.2:=by simp[atKey,find?_cons,e']
   rw[dz e,b];exact h2
  ·have e':¬q.1=k:=fun z=>e (h1.trans z)
   have b:atKey (q::qs) k=atKey qs k:=by simp[atKey,find?_cons,e']
   rw[dA e,b];exact ih
theorem KT.Mw {H:Hp}{kvs:List (List Key×V)}{xs:List (List Key×Addr×Value)}(r:KT H kvs xs)(k:List Key){y:V}{u:Value}(ry:RelV y u):
  KT H (kvs.map fun kv=>if kv.1=k then(kv.1,y)else kv) (xs.map (putAt k u)):=by
 induction r with
 |nil=>exact .nil
 | @cons p q ps qs h t ih=>
  rw[map_cons,map_cons]
  refine .cons ?_ ih
  obtain⟨h1,h2,h3⟩:=h
  unfold putAt
  by_cases e:p.1=k
  ·rw[if_pos e,if_pos (h1.symm.trans e)];exact⟨h1,h2,ry⟩
  ·rw[if_neg e,if_neg (fun z=>e (h1.trans z))];exact⟨h1,h2,h3⟩
theorem KT.put {H:Hp}{kvs:List (List Key×V)}{xs:List (List Key×Addr×Value)}(r:KT H kvs xs)(k:List Key){b:Addr}{y:V}{u:Value}(hb:H b=some (.tup (k.map kV)))(ry:RelV y u):
  KT H (putK kvs k y) (storedH xs k b u):=by
 have e:(kvs.any fun kv=>decide (kv.1=k))=(atKey xs k).isSome:=by
  rw[pF,(r.val k).qG,isSome_map]
 unfold putK storedH
 rw[e]
 by_cases q:(atKey xs k).isSome=true
 ·rw[if_pos q,if_pos q];exact r.Mw k ry
 ·rw[if_neg q,if_neg q];exact Paired.snoc r ⟨rfl,hb,ry⟩
theorem KT.keeps {H H':Hp}{kvs:List (List Key×V)}{xs:List (List Key×Addr×Value)}(r:KT H kvs xs)(ht:∀b ys,H b=some (.tup ys)->H' b=some (.tup ys)):KT H' kvs xs:=
 Paired.LU r fun _ _ z=>⟨z.1,ht _ _ z.2.1,z.2.2⟩
section
variable{P:Program}{w:World}{H:Hp}{h:Heap}{a:Addr}
theorem JX{u:HO}(ok:nK P w H h)(e:Rd H a u):cB P w H h a u:=e.ok ok
theorem vP{kvs:List (Key×V)}(ok:nK P w H h)(e:Rd H a (.dK kvs)):kvs.length<=sizeLine/\(a==sysModules)=false/\∃vs,KV kvs vs/\h.DictOf (cC P w) a vs:=
 show cB P w H h a (.dK kvs)from JX ok e
theorem QB{kvs:List (Key×V)}(ok:nK P w H h)(e:H a=some (.dK kvs)):kvs.length<=sizeLine/\(a==sysModules)=false/\∃vs,KV kvs vs/\h.DictOf (cC P w) a vs:=vP ok (.inl e)
theorem tQ{ks:List Key}(ok:nK P w H h)(e:H a=some (.tup (ks.map kV))):(tupleKind (cC P w)).is h ks a:=by
 obtain⟨_,its,r,o,h1,h2,n,h3⟩:=(show cB P w H h a (.tup (ks.map kV))from ok a _ e)
 exact⟨o,its.toArray,n,h1,h2,h3,by simpa using vO r⟩
theorem tR{kvs:List (List Key×V)}(ok:nK P w H h)(e:Rd H a (.dT kvs)):kvs.length<=sizeLine/\(a==sysModules)=false/\
  ∃xs,KT H kvs xs/\h.DictOfH (tupleKind (cC P w)) a xs:=by
 obtain⟨z,y,xs,r,o,es,ep,h1,h2,h3,h4,h5⟩:=(show cB P w H h a (.dT kvs)from JX ok e)
 refine⟨z,y,xs,r,o,es,ep,h1,h2,h3,h4,fun x hx=>?_,h5⟩
 have all:∀{l:List (List Key×V)}{m:List (List Key×Addr×Value)},KT H l m->∀x∈m,(tupleKind (cC P w)).is h x.1 x.2.1:=by
  intro l m q
  induction q with
  |nil=>intro x hx;exact nomatch hx
  | @cons p q ps qs hq t ih=>
   intro x hx
   rcases mem_cons.mp hx with e|hx
   ·subst e
    exact tQ ok (by rw[<-hq.1];exact hq.2.1)
   ·exact ih x hx
 exact all r x hx
theorem QC{kvs:List (List Key×V)}(ok:nK P w H h)(e:H a=some (.dT kvs)):kvs.length<=sizeLine/\(a==sysModules)=false/\
  ∃xs,KT H kvs xs/\h.DictOfH (tupleKind (cC P w)) a xs:=tR ok (.inl e)
end
def kZ(H:Hp)(a:Addr)(y:V)(r:Option V):Prop:=
 (∃kvs k,Rd H a (.dK kvs)/\y=kV k/\r=cF kvs k)\/∃kvs k b,Rd H a (.dT kvs)/\y=.ref b/\H b=some (.tup (k.map kV))/\r=cF kvs k
def yj(H:Hp)(a:Addr)(y v:V)(H':Hp):Prop:=
 (∃kvs k,H a=some (.dK kvs)/\y=kV k/\kvs.length<sizeLine/\H'=upd H a (.dK (putK kvs k v)))\/
 ∃kvs k b,H a=some (.dT kvs)/\y=.ref b/\H b=some (.tup (k.map kV))/\kvs.length<sizeLine/\H'=upd H a (.dT (putK kvs k v))
theorem kZ.t {H:Hp}{a b:Addr}{kvs:List (List Key×V)}{k:List Key}(e:H a=some (.dT kvs))(eb:H b=some (.tup (k.map kV))):kZ H a (.ref b) (cF kvs k):=.inr ⟨kvs,k,b,.inl e,rfl,eb,rfl⟩
theorem yj.t {H:Hp}{a b:Addr}{kvs:List (List Key×V)}{k:List Key}{v:V}(e:H a=some (.dT kvs))(eb:H b=some (.tup (k.map kV)))(hl:kvs.length<sizeLine):
  yj H a (.ref b) v (upd H a (.dT (putK kvs k v))):=.inr ⟨kvs,k,b,e,rfl,eb,hl,rfl⟩
section
variable{X:Cx}{pins:List (Addr×Obj)}{σ:St}{H:Hp}{s:Shared}{a:Addr}{y v:V}{u r:Value}{o:Option V}{A:Around}{E:Value->Shared->Prop}
theorem Inv.big (I:Inv X pins σ H s):sysModules<s.heap.objs.size:=by
 have h:mainGlobals<s.heap.objs.size:=(I.mod.glob.keeps I.bk).lt
 exact lt_trans (by decide) h
theorem CJ{Q:Value->Shared->Prop}(hu:A.units+1<cLine)(I:Inv X pins σ H s)(g:kZ H a y (some v))(ry:RelV y u)(h:∀w' s',Inv X pins σ H s'->RelV v w'->Q w' s'):
  wpAny (model X.prog X.w) A (getItem (.ref a) u) Q E s:=by
 rcases g with⟨kvs,k,e,ey,l⟩|⟨kvs,k,b,e,ey,eb,l⟩
 ·subst ey
  obtain⟨z,hd,vs,rel,dd⟩:=vP I.hok e
  obtain⟨w',hw,mz⟩:=lZ.some_of (v:=v) (o:=valueAt vs k) (by rw[l];exact rel.val k)
  exact wpAny_getItem_of (yi ry) dd.mapOf hw (h w' _ (I.tok _) mz)
 ·subst ey
  cases (show u=Value.ref b from ry)
  obtain⟨z,hd,xs,rel,dd⟩:=tR I.hok e
  obtain⟨w',hw,mz⟩:=lZ.some_of (v:=v) (o:=(atKey xs k).map (·.2)) (by rw[l];exact rel.val k)
  obtain⟨p,hp,Tc⟩:=Option.map_eq_some_iff.mp hw
  refine wpAny_getItem_heap (tupleKind_room_in1 hu) (tQ I.hok eb) dd hp ?_
  rw[Tc]
  exact h w' _ (I.tok _) mz
theorem H0{Q:Value->Shared->Prop}(hu:A.units+1<cLine)(I:Inv X pins σ H s)(g:kZ H a y o)(ry:RelV y u)(h:∀s',Inv X pins σ H s'->Q (.bool (!o.isSome)) s'):
  wpAny (model X.prog X.w) A (compareOp .NotIn u (.ref a)) Q E s:=by
 rcases g with⟨kvs,k,e,ey,l⟩|⟨kvs,k,b,e,ey,eb,l⟩
 ·subst ey
  obtain⟨z,hd,vs,rel,dd⟩:=vP I.hok e
  refine wpAny_notIn_of (yi ry) hd dd.mapOf ?_
  rw[<-(rel.val k).qG,<-l]
  exact h _ (I.tok _)
 ·subst ey
  cases (show u=Value.ref b from ry)
  obtain⟨z,hd,xs,rel,dd⟩:=tR I.hok e
  refine wpAny_notIn_heap (tupleKind_room_in1 hu) (tQ I.hok eb) hd dd ?_
  have q:=(rel.val k).qG
  rw[isSome_map]at q
  rw[<-q,<-l]
  exact h _ (I.tok _)
theorem A7{h':Heap}{t':Nat}{ob:HO}(I:Inv X pins σ H s)(mu:PQ (H a))(hs:Heap.SameBut a s.heap h')(he:∃q,h'.get? a=some q)(new:cB X.prog X.w (upd H a ob) h' a ob):
  Inv X pins σ (upd H a ob) {s with heap:=h',toks:=t'}:=
 I.write (x:=a) (e:=a) mu (.inl rfl) (fun b q hb z=>(hs.2 b hb).trans z) he new
theorem Mx{P:Program}{w:World}{H':Hp}{h':Heap}{kvs:List (Key×V)}{vs:List (Key×Value)}(z:kvs.length<=sizeLine)(hd:(a==sysModules)=false)(rel:KV kvs vs)(dd:h'.DictOf (cC P w) a vs):
  cB P w H' h' a (.dK kvs):=⟨z,hd,vs,rel,dd⟩
theorem CK{H':Hp}{Q:Unit->Shared->Prop}(hu:A.units+1<cLine)(I:Inv X pins σ H s)(g:yj H a y v H')(ry:RelV y u)(rv:RelV v r)(h:∀s',Inv X pins σ H' s'->Q () s'):
  wpAny (model X.prog X.w) A (setItem (.ref a) u r) Q E s:=by
 rcases g with⟨kvs,k,e,ey,l,eH⟩|⟨kvs,k,b,e,ey,eb,l,eH⟩
 ·subst ey eH
  obtain⟨z,hd,vs,rel,dd⟩:=QB I.hok e
  have hz:vs.length<=sizeLine:=by rw[<-rel.length];exact z
  have hl:(putK kvs k v).length<=sizeLine:=by have:=fx kvs k v;omega
  refine wpAny_setItem_pairs (hsz:=hz) (yi ry) dd fun h' Td hs=>h _ ?_
  have he:∃q,h'.get? a=some q:=let⟨q,_,_,hq,_⟩:=Td;⟨q,hq⟩
  exact A7 I (by rw[e];exact True.intro) hs he (Mx hl hd (rel.put k rv) Td)
 ·subst ey eH
  cases (show u=Value.ref b from ry)
  obtain⟨z,hd,xs,rel,dd⟩:=QC I.hok e
  have hz:xs.length<=sizeLine:=by rw[<-Paired.length rel];exact z
  have hl:(putK kvs k v).length<=sizeLine:=by have:=fx kvs k v;omega
  refine wpAny_setItem_heap (hsz:=hz) (tupleKind_room_in1 hu) (tQ I.hok eb) dd fun h' Td hs=>h _ ?_
  obtain⟨q,es,ep,hq,h2,h3,h4,_,h5⟩:=Td
  refine A7 I (by rw[e];exact True.intro) hs ⟨q,hq⟩ ⟨hl,hd,_,(rel.put k eb rv).keeps fun c ys ec=>?_,q,es,ep,hq,h2,h3,h4,h5⟩
  rw[ah (bz ec e (fun z=>nomatch z))]
  exact ec
end
def QD(i:Expr):Prop:=∀ov iv,subscripted i false ov iv=operate [ov,iv] (getItem ov iv)
theorem Ia{prog:Program}{w:World}{A:Around}{E:Value->Shared->Prop}{s:Shared}{env:Env}{value slice:Expr}{pos:Pos}{T id:String}{Q:Value->Shared->Prop}
  (hl:typeLookup (.type T) "__getitem__"=pure (some (.builtin id)))(hs:QD slice)
  (h:wpAny (model prog w) A (eval value env) (fun o s₁=>wpAny (model prog w) A (eval slice env) (fun i s₂=>s₂.TypeIs o T/\wpAny (model prog w) A (getItem o i) Q E s₂) E s₁) E s):
  wpAny (model prog w) A (eval (.Subscript value slice pos) env) Q E s:=by
 refine Subscript_ (wpAny_mono h (fun o s₁ h₁=>wpAny_mono h₁ (fun i s₂ h₂=>?_) fun _ _ x=>x) fun _ _ x=>x)
 obtain⟨hT,h₂⟩:=h₂
 unfold subscriptTail
 refine wpAny_bind ?_
 rw[getitemInPython_of_ne hT.not_modules]
 refine wpAny_bind (wpAny_specialOf hT hl ?_)
 have fin:wpAny (model prog w) A (subscripted slice false o i) (fun r s₃=>wpAny (model prog w) A (letTemporaryGo value o r>>=fun _=>pure r) Q E s₃) E s₂:=by
  rw[hs o i]
  exact wpAny_operating (wpAny_mono h₂ (fun r s₃ h₃=>wpAny_bind (wpAny_letTemporaryGo (wpAny_pure h₃))) fun _ _ x=>x)
 first
  |exact wpAny_pure (wpAny_bind fin)
  |exact wpAny_bind (wpAny_pure (wpAny_bind fin))
  |exact wpAny_bind fin
theorem yk{X:Cx}{pins:List (Addr×Obj)}{σ:St}{H:Hp}{s:Shared}{a:Addr}{y:V}{o:Option V}(I:Inv X pins σ H s)(g:kZ H a y o):s.TypeIs (.ref a) "dict":=by
 rcases g with⟨kvs,k,e,_,_⟩|⟨kvs,k,b,e,_,_,_⟩
 ·obtain⟨_,_,vs,_,dd⟩:=vP I.hok e
  exact dd.typeIs
 ·obtain⟨_,_,xs,_,dd⟩:=tR I.hok e
  exact dd.typeIs
def QE(td ty:TE):TE:=fun σ H Q=>td σ H fun x H1=>ty σ H1 fun y H2=>∃a v,x=.ref a/\kZ H2 a y (some v)/\Q v H2
def Ib(ty td:TE):TE:=fun σ H Q=>ty σ H fun y H1=>td σ H1 fun x H2=>∃a o,x=.ref a/\kZ H2 a y o/\Q (.bl (!o.isSome)) H2
def QF(td ty tv:TE):TS:=fun D σ H=>tv σ H fun v H1=>td σ H1 fun x H2=>ty σ H2 fun y H3=>∃a H4,x=.ref a/\yj H3 a y v H4/\D.nx σ H4
section
variable{X:Cx}{o i e value:Expr}{pos pos' Uy:Pos}{td ty tv:TE}
theorem wU(hu:X.A.units+1<cLine)(ho:PE X o td)(hi:PE X i ty)(hs:QD i):PE X (.Subscript o i pos) (QE td ty):=by
 intro pins s σ H Q I h
 refine Ia PySem.F.slot_dict_getitem.lookup hs (bD (ho pins s σ H _ I h) fun u s1 ⟨x,H1,I1,rx,q1⟩=>bD (hi pins s1 σ H1 _ I1 q1) fun iv s2 ⟨y,H2,I2,ry,a,v,ex,g,q2⟩=>?_)
 subst ex
 obtain rfl:u=Value.ref a:=rx
 exact⟨yk I2 g,CJ hu I2 g ry fun w' s3 I3 mz=>⟨v,H2,I3,mz,q2⟩⟩
theorem qH(hu:X.A.units+1<cLine)(hi:PE X i ty)(ho:PE X o td):PC X .NotIn i o (Ib ty td):=by
 intro pins s σ H Q I h
 refine bD (hi pins s σ H _ I h) fun iv s1 ⟨y,H1,I1,ry,q1⟩=>bD (ho pins s1 σ H1 _ I1 q1) fun u s2 ⟨x,H2,I2,rx,a,ov,ex,g,q2⟩=>?_
 subst ex
 obtain rfl:u=Value.ref a:=rx
 exact H0 hu I2 g ry fun s3 I3=>⟨.bl (!ov.isSome),H2,I3,rfl,q2⟩
theorem sM(hu:X.A.units+1<cLine)(ho:PE X o td)(hi:PE X i ty)(hv:PE X value tv)(hs:swapsWith value (some (.Subscript o i pos')) pos.line X.env=pure false):
  PS X (.Assign [.Subscript o i pos'] value pos) (QF td ty tv):=by
 intro pins s σ H D I h
 refine wpAny_Assign_Subscript (bD (hv pins s σ H _ I h) fun r s1 ⟨v,H1,I1,rv,q1⟩=>bD (ho pins s1 σ H1 _ I1 q1) fun u s2 ⟨x,H2,I2,rx,q2⟩=>bD (hi pins s2 σ H2 _ I2 q2) fun iv s3 ⟨y,H3,I3,ry,a,H4,ex,g,q3⟩=>?_) hs
 subst ex
 obtain rfl:u=Value.ref a:=rx
 exact CK hu I3 g ry rv fun s4 I4=>⟨σ,H4,I4,q3⟩
end
theorem Ea{P:Program}{w:World}{H:Hp}(h:Heap)(hb:sysModules<h.objs.size):cB P w H (h.push {cls:=.type "dict",data:=.dict #[]}) h.objs.size (.dT []):=
 ⟨zero_le _,beq_eq_false_iff_ne.mpr (Ne.symm (ne_of_lt hb)),[],.nil,_,#[],0,Heap.get?_push_size _ rfl,⟨rfl,rfl,rfl⟩,rfl,rfl,List.nodup_nil⟩
def My:TE:=fun _ H Q=>∀p,H p=none->Q (.ref p) (upd H p (.dT []))
section
variable{X:Cx}{pos:Pos}
theorem pG:PE X (.Dict [] [] pos) My:=fun pins s σ H Q I h=>
 wpAny_Dict_empty ⟨.ref s.heap.objs.size,_,I.laid (a:=s.heap.objs.size) (o:=.dT []) (t':=s.toks) (fun _ _ q=>Heap.get?_push_of_some _ q) (Nat.le_refl _) (Ea s.heap I.big),rfl,h _ (I.hok.fresh (Nat.le_refl _))⟩
end
end L2
namespace L2
open PySem PySem.Spec PyProof.Rows
variable{X:Cx}
structure M1(X:Cx)(o:Expr)(m:Str)(apos:Pos)(e:Expr)(aZ:Pos):Prop where
 base:attributeBase o m X.env (eval o X.env)=eval o X.env
 few:((backTo aZ (starEach [e] X.env)).all (fun x=> !x.1)&&(backToKw aZ (keywordEach [] X.env)).all (fun x=>x.1.isSome)
  &&decide (([e]:List Expr).length+([]:List Keyword).length+(if([]:List Keyword).isEmpty then 0 else 1)<30))=true
 line:(apos.endLine==aZ.line)=true
 trees:backTo aZ (starEach [e] X.env)=[(false,eval e X.env)]
def XU(H:Hp)(a:Addr):Prop:=(∃kvs,Rd H a (.dK kvs))\/∃kvs,Rd H a (.dT kvs)
theorem Mz{X:Cx}{pins:List (Addr×Obj)}{σ:St}{H:Hp}{s:Shared}{a:Addr}(I:Inv X pins σ H s)(d:XU H a):
  s.TypeIs (.ref a) "dict"/\(∀b,Value.ref a=.ref b->∃ob,s.heap.get? b=some ob/\ob.dict=none)/\(a==sysModules)=false:=by
 rcases d with⟨kvs,e⟩|⟨kvs,e⟩
 ·obtain⟨_,hd,vs,_,dd⟩:=vP I.hok e
  refine⟨dd.typeIs,fun b q=>?_,hd⟩
  cases q
  obtain⟨ob,_,_,h1,h2,_⟩:=dd
  exact⟨ob,h1,h2.2.1⟩
 ·obtain⟨_,hd,xs,_,dd⟩:=tR I.hok e
  refine⟨dd.typeIs,fun b q=>?_,hd⟩
  cases q
  obtain⟨ob,_,_,h1,h2,_⟩:=dd
  exact⟨ob,h1,h2.2.1⟩
section
variable{X:Cx}{pins:List (Addr×Obj)}{σ:St}{H:Hp}{s:Shared}{a:Addr}{y d:V}{u r:Value}{o:Option V}{A:Around}{E:Value->Shared->Prop}
theorem MA{Q:Value->Shared->Prop}(hu:A.units+1<cLine)(I:Inv X pins σ H s)(g:kZ H a y o)(ry:RelV y u)(h:∀w' s',Inv X pins σ H s'->RelV (o.getD .non) w'->Q w' s'):
  wpAny (model X.prog X.w) A (call (.builtin "dict.get") [.ref a,u]) Q E s:=by
 rcases g with⟨kvs,k,e,ey,l⟩|⟨kvs,k,b,e,ey,eb,l⟩
 ·subst ey
  obtain⟨z,hd,vs,rel,dd⟩:=vP I.hok e
  refine call_meetsIn slot_dict_get dd.typeIs entry_dict_get (PySem.F.args_dict_get_2 _ _) (meets_dict_get (cC X.prog X.w) a (yi ry) hd) ⟨_,dd.mapOf,h _ _ (I.tok _) ?_⟩
  rw[l]
  exact(rel.val k).getD rfl
 ·subst ey
  cases (show u=Value.ref b from ry)
  obtain⟨z,hd,xs,rel,dd⟩:=tR I.hok e
  refine call_meetsIn slot_dict_get dd.typeIs entry_dict_get (PySem.F.args_dict_get_2 _ _) (meetsH_dict_get (tupleKind (cC X.prog X.w)) a b hd) ⟨tupleKind_room_in1 hu,k,xs,tQ I.hok eb,dd,h _ _ (I.tok _) ?_⟩
  rw[l]
  exact(rel.val k).getD rfl
end
def MB(td ty:TE):TE:=fun σ H Q=>td σ H fun x H1=>∃a,x=.ref a/\XU H1 a/\ty σ H1 fun y H2=>∃o,kZ H2 a y o/\Q (o.getD .non) H2
section
variable{X:Cx}{o e f:Expr}{apos aZ:Pos}{td ty tx:TE}
theorem Eb(hu:X.A.units+1<cLine)(ho:PE X o td)(he:PE X e ty)(m:M1 X o "get" apos e aZ):PE X (.Call (.Attribute o "get" apos) [e] [] aZ) (MB td ty):=by
 intro pins s σ H Q I h
 refine wpAny_Call_method m.base m.few m.line PySem.F.plainAttrs_dict slot_dict_get PySem.F.type_dict_get (bD (ho pins s σ H _ I h) fun u s1 ⟨x,H1,I1,rx,a,ex,d,q1⟩=>?_)
 subst ex
 obtain rfl:u=Value.ref a:=rx
 obtain⟨t1,t2,_⟩:=Mz I1 d
 refine⟨t1,t2,?_⟩
 rw[m.trees]
 refine Calls.callWith_builtin rfl (Calls.evalArgs_plain (Calls.spliced_cons (bD (he pins s1 σ H1 _ I1 q1) fun iv s2 ⟨y,H2,I2,ry,ov,g,q2⟩=>Calls.spliced_nil ?_)))
 exact MA hu I2 g ry fun w' s3 I3 mz=>⟨_,H2,I3,mz,q2⟩
end
end L2
namespace DL
open PySem PySem.Spec PyProof.Rows L2
abbrev St:=L2.St
inductive D where
 |non|bl (b:Bool)|int (i:Int)|str (x:Str)|lst (xs:List D)|tup (xs:List D)|exc (n:Str)|fn (n:Str)
 deriving Inhabited
inductive R (α:Type) where
 |ok (a:α)|err (c:Str)|bad
def R.bind {α β:Type}(r:R α)(f:α->R β):R β:=match r with
 |.ok a=>f a
 |.err c=>.err c
 |.bad=>.bad
def R.of {α:Type}:Option α->R α
 |some a=>.ok a
 |none=>.bad
theorem R.bF {α β:Type}(a:α)(f:α->R β):(R.ok a).bind f=f a:=rfl
theorem R.jM {α:Type}(a:α):R.of (some a)=.ok a:=rfl
def Good{α:Type}(E:Str->Hp->Prop)(H₀:Hp)(r:R α)(post:α->Prop):Prop:=match r with
 |.ok a=>post a
 |.err c=>∀H',aB H₀ H'->E c H'
 |.bad=>False
theorem Good.bind {α β:Type}{E:Str->Hp->Prop}{H₀:Hp}{r:R α}{k:α->R β}{post:β->Prop}(h:Good E H₀ (r.bind k) post):Good E H₀ r (fun a=>Good E H₀ (k a) post):=by
 cases r with
 |ok a=>exact h
 |err c=>exact h
 |bad=>exact h
theorem Good.mono {α:Type}{E:Str->Hp->Prop}{H₀:Hp}{r:R α}{p q:α->Prop}(h:Good E H₀ r p)(w:∀a,r=.ok a->p a->q a):Good E H₀ r q:=by
 cases r with
 |ok a=>exact w a rfl h
 |err c=>exact h
 |bad=>exact h
theorem Good.A8 {α β:Type}{E:Str->Hp->Prop}{H₀:Hp}{r:R α}{k:α->R β}{p:α->Prop}{q:β->Prop}(h:Good E H₀ r p)(w:∀a,r=.ok a->p a->Good E H₀ (k a) q):Good E H₀ (r.bind k) q:=by
 cases r with
 |ok a=>exact w a rfl h
 |err c=>exact h
 |bad=>exact h
theorem Good.of {α:Type}{E:Str->Hp->Prop}{H₀:Hp}{o:Option α}{p:α->Prop}(h:Good E H₀ (R.of o) p):∃a,o=some a/\p a:=by
 cases o with
 |none=>exact False.elim h
 |some a=>exact⟨a,rfl,h⟩
def KL(K:PySem.W.Frag)(a:Addr)(xs:List V):Prop:=∃(o:Obj)(its:Array Value)(n:Nat),K.lookup a=some o/\o.cls=.type "list"/\o.dict=none/\o.data=.seq its n/\its.size<=sizeLine/\Vals xs its.toList
def KT(K:PySem.W.Frag)(a:Addr)(xs:List V):Prop:=∃(o:Obj)(its:Array Value)(n:Nat),K.lookup a=some o/\o.cls=.type "tuple"/\o.data=.seq its n/\its.size<=sizeLine/\Vals xs its.toList
def r6(K:PySem.W.Frag)(P:Addr->Prop)(H:Hp)(a:Addr)(vs:List V):Prop:=(P a/\Rd H a (.lst vs))\/KL K a vs
def CL(K:PySem.W.Frag)(P:Addr->Prop)(H:Hp)(a:Addr)(vs:List V):Prop:=(P a/\Rd H a (.tup vs))\/KT K a vs
theorem r6.sq {K:PySem.W.Frag}{P:Addr->Prop}{H:Hp}{a:Addr}{vs:List V}(h:r6 K P H a vs):b7 K H a vs:=h.elim (fun z=>.inl z.2) .inr
theorem CL.sq {K:PySem.W.Frag}{P:Addr->Prop}{H:Hp}{a:Addr}{vs:List V}(h:CL K P H a vs):x9 K H a vs:=h.elim (fun z=>.inl z.2) .inr
theorem r6.any {K:PySem.W.Frag}{H:Hp}{a:Addr}{vs:List V}(h:b7 K H a vs):r6 K (fun _=>True) H a vs:=h.elim (fun z=>.inl ⟨trivial,z⟩) .inr
def UT(a C:Addr):Heap->Prop:=fun h=>∃vs,h.get? a=some {cls:=.ref C,data:=.fields vs}
def Is(K:PySem.W.Frag)(P:Addr->Prop)(H:Hp):D->V->Prop
 |.non,v=>v=.non
 |.bl b,v=>v=.bl b
 |.int i,v=>v=.int i
 |.str x,v=>v=.str x
 |.lst ds,v=>∃a vs,v=.ref a/\r6 K P H a vs/\IsL ds vs
 |.tup ds,v=>∃a vs,v=.ref a/\CL K P H a vs/\IsL ds vs
 |.exc n,v=>∃a C,v=.ref a/\P a/\nsIn K mainGlobals n=some (some (.ref C))/\H a=some (.ext (UT a C))
 |.fn n,v=>∃a,v=.ref a/\nsIn K mainGlobals n=some (some (.ref a))
where
 IsL:List D->List V->Prop
 |[],vs=>vs=[]
 |d::ds,vs=>∃v r,vs=v::r/\Is K P H d v/\IsL ds r
abbrev IsL(K:PySem.W.Frag)(P:Addr->Prop)(H:Hp):List D->List V->Prop:=Is.IsL K P H
section
variable{K:PySem.W.Frag}{P P':Addr->Prop}{H H':Hp}
structure Ext(P P':Addr->Prop)(H H':Hp):Prop where
 p:∀a o,P a->H a=some o->P' a
 h:∀a o,P a->H a=some o->H' a=some o
theorem Ext.rd (e:Ext P P' H H'){a:Addr}{u:HO}(p:P a)(r:Rd H a u):P' a/\Rd H' a u:=by
 rcases r with r|⟨o,r⟩
 ·exact⟨e.p a _ p r,.inl (e.h a _ p r)⟩
 ·exact⟨e.p a _ p r,.inr ⟨o,e.h a _ p r⟩⟩
theorem r6.ext (e:Ext P P' H H'){a:Addr}{vs:List V}(h:r6 K P H a vs):r6 K P' H' a vs:=h.elim (fun z=>.inl (e.rd z.1 z.2)) .inr
theorem CL.ext (e:Ext P P' H H'){a:Addr}{vs:List V}(h:CL K P H a vs):CL K P' H' a vs:=h.elim (fun z=>.inl (e.rd z.1 z.2)) .inr
mutual
theorem Is.ext (e:Ext P P' H H'):∀(d:D)(v:V),Is K P H d v->Is K P' H' d v
 |.non,_,h=>h
 |.bl _,_,h=>h
 |.int _,_,h=>h
 |.str _,_,h=>h
 |.lst ds,_,⟨a,vs,e1,l,q⟩=>⟨a,vs,e1,l.ext e,IsL.ext e ds vs q⟩
 |.tup ds,_,⟨a,vs,e1,l,q⟩=>⟨a,vs,e1,l.ext e,IsL.ext e ds vs q⟩
 |.exc n,_,⟨a,C,e1,p,c,q⟩=>⟨a,C,e1,e.p a _ p q,c,e.h a _ p q⟩
 |.fn _,_,h=>h
theorem IsL.ext (e:Ext P P' H H'):∀(ds:List D)(vs:List V),IsL K P H ds vs->IsL K P' H' ds vs
 |[],_,h=>h
 |d::ds,_,⟨v,r,e1,p,q⟩=>⟨v,r,e1,Is.ext e d v p,IsL.ext e ds r q⟩
end
theorem Ext.same (s:aB H H'):Ext P P H H':=⟨fun _ _ p _=>p,fun a o _ h=>s a o h⟩
theorem Is.same (s:aB H H'){d:D}{v:V}(h:Is K P H d v):Is K P H' d v:=Is.ext (.same s) d v h
theorem IsL.same (s:aB H H'){d:List D}{v:List V}(h:IsL K P H d v):IsL K P H' d v:=IsL.ext (.same s) d v h
theorem Is.weak {d:D}{v:V}(h:Is K P H d v):Is K (fun _=>True) H d v:=Is.ext ⟨fun _ _ _ _=>trivial,fun _ _ _ q=>q⟩ d v h
theorem IsL.weak {d:List D}{v:List V}(h:IsL K P H d v):IsL K (fun _=>True) H d v:=IsL.ext ⟨fun _ _ _ _=>trivial,fun _ _ _ q=>q⟩ d v h
def toV:D->Option V
 |.non=>some .non
 |.bl b=>some (.bl b)
 |.int i=>some (.int i)
 |.str x=>some (.str x)
 |_=>none
theorem Is.sc {d:D}{z:V}(h:toV d=some z):Is K P H d z:=by
 cases d with
 |non=>cases h;rfl
 |bl b=>cases h;rfl
 |int b=>cases h;rfl
 |str b=>cases h;rfl
 |lst b=>cases h
 |exc _=>cases h
 |fn _=>cases h
 |tup b=>cases h
theorem Is.JY {d:D}{z v:V}(h:toV d=some z)(i:Is K P H d v):v=z:=by
 cases d with
 |non=>cases h;exact i
 |bl b=>cases h;exact i
 |int b=>cases h;exact i
 |str b=>cases h;exact i
 |lst b=>cases h
 |exc _=>cases h
 |fn _=>cases h
 |tup b=>cases h
theorem IsL.length:∀{ds:List D}{vs:List V},IsL K P H ds vs->vs.length=ds.length
 |[],_,h=>by subst h;rfl
 |d::ds,_,⟨v,r,e,_,q⟩=>by subst e;simp[IsL.length q]
theorem IsL.get:∀{ds:List D}{vs:List V}{i:Nat}{d:D},IsL K P H ds vs->ds[i]?=some d->∃v,vs[i]?=some v/\Is K P H d v
 |[],_,_,_,_,e=>by simp at e
 |d::ds,_,0,_,⟨v,r,e,p,q⟩,e2=>by subst e;simp at e2;subst e2;exact⟨v,rfl,p⟩
 |d::ds,_,i+1,_,⟨v,r,e,p,q⟩,e2=>by
  subst e
  obtain⟨v',h1,h2⟩:=IsL.get (i:=i) q (by simpa using e2)
  exact⟨v',by simpa using h1,h2⟩
theorem IsL.app:∀{ds es:List D}{vs ws:List V},IsL K P H ds vs->IsL K P H es ws->IsL K P H (ds++es) (vs++ws)
 |[],_,_,_,h,q=>by
  have h':_=[]:=h
  subst h';exact q
 |d::ds,_,_,_,⟨v,r,e,p,q⟩,q2=>by subst e;exact⟨v,_,rfl,p,IsL.app q q2⟩
theorem IsL.one {d:D}{v:V}(h:Is K P H d v):IsL K P H [d] [v]:=⟨v,[],rfl,h,rfl⟩
theorem IsL.cons {d:D}{v:V}{ds:List D}{vs:List V}(h:Is K P H d v)(q:IsL K P H ds vs):IsL K P H (d::ds) (v::vs):=⟨v,vs,rfl,h,q⟩
theorem IsL.drop:∀{ds:List D}{vs:List V}(n:Nat),IsL K P H ds vs->IsL K P H (ds.drop n) (vs.drop n)
 |_,_,0,h=>h
 |[],_,n+1,h=>by
  have h':_=[]:=h
  subst h';exact rfl
 |d::ds,_,n+1,⟨v,r,e,p,q⟩=>by subst e;exact IsL.drop n q
theorem IsL.take:∀{ds:List D}{vs:List V}(n:Nat),IsL K P H ds vs->IsL K P H (ds.take n) (vs.take n)
 |_,_,0,_=>rfl
 |[],_,n+1,h=>by
  have h':_=[]:=h
  subst h';exact rfl
 |d::ds,_,n+1,⟨v,r,e,p,q⟩=>by subst e;exact⟨v,_,rfl,p,IsL.take n q⟩
theorem IsL.set:∀{ds:List D}{vs:List V}{d:D}{v:V}(i:Nat),IsL K P H ds vs->Is K P H d v->IsL K P H (ds.set i d) (vs.set i v)
 |[],_,_,_,_,h,_=>by
  have h':_=[]:=h
  subst h';exact rfl
 |d::ds,_,_,_,0,⟨v,r,e,p,q⟩,h=>by subst e;exact⟨_,_,rfl,h,q⟩
 |d::ds,_,_,_,i+1,⟨v,r,e,p,q⟩,h=>by subst e;exact⟨v,_,rfl,p,IsL.set i q h⟩
end
abbrev Ic:=Int×Int×List Int
inductive Ct where
 |ls (nss:List (List Int))|tp (nss:List (List Int))|dk (ks:List Int)|tq (n:Int) (ns:List Int)|tr (ts:List Ic)
instance:Coe (List (List Int)) Ct:=⟨Ct.ls⟩
inductive Sl where
 |no|val (d:D)|own (xs:List D)|raw (v:V)|deep (c:Ct)
abbrev DE:=List Sl
structure Gh where
 P₀:Addr->Prop
 H₀:Hp
def Gh.P (g:Gh)(os:List Addr)(a:Addr):Prop:=(g.P₀ a\/g.H₀ a=none)/\a∉os
structure xS(hd:List V->HO)(H:Hp)(os:List Addr)(a:Addr)(as:List Addr)(nss:List (List Int)):Prop where
 ma:a∈os
 ha:H a=some (hd (as.map V.ref))
 len:as.length=nss.length
 nd:(a::as).Nodup
 it:∀(k:Nat)(b:Addr)(ns:List Int),as[k]?=some b->nss[k]?=some ns->b∈os/\H b=some (.lst (ns.map V.int))
theorem xS.mem {hd:List V->HO}{H:Hp}{os:List Addr}{a:Addr}{as:List Addr}{nss:List (List Int)}(d:xS hd H os a as nss):∀x∈a::as,x∈os/\∃o,H x=some o:=fun x hx=>by
 rcases mem_cons.mp hx with rfl|hx
 ·exact⟨d.ma,_,d.ha⟩
 ·obtain⟨k,hk,rfl⟩:=getElem_of_mem hx
  have MC:k<nss.length:=by rw[<-d.len];exact hk
  have q:=d.it k _ _ (getElem?_eq_getElem hk) (getElem?_eq_getElem MC)
  exact⟨q.1,_,q.2⟩
theorem xS.to {hd:List V->HO}{H H':Hp}{os iA:List Addr}{a:Addr}{as:List Addr}{nss:List (List Int)}(d:xS hd H os a as nss)(h:∀x∈a::as,x∈iA/\H' x=H x):xS hd H' iA a as nss:=
 ⟨(h a (by simp)).1,by rw[(h a (by simp)).2];exact d.ha,d.len,d.nd,fun k b ns e1 e2=>by
  have q:=d.it k b ns e1 e2
  have hb:=h b (mem_cons_of_mem _ (mem_of_getElem? e1))
  exact⟨hb.1,by rw[hb.2];exact q.2⟩⟩
def QG(H:Hp)(as:List Addr)(t:Ic)(v:V):Prop:=∃b c,v=.ref b/\b∈as/\c∈as/\H b=some (.tup [.int t.1,.int t.2.1,.ref c])/\H c=some (.lst (t.2.2.map V.int))
structure MD(H:Hp)(os:List Addr)(a:Addr)(as:List Addr)(ts:List Ic):Prop where
 ma:a∈os
 na:a∉as
 mem:∀x∈as,x∈os/\∃o,H x=some o
 at_:∃vs,H a=some (.lst vs)/\vs.length=ts.length/\∀(k:Nat)(t:Ic)(v:V),ts[k]?=some t->vs[k]?=some v->QG H as t v
theorem QG.to {H H':Hp}{as as':List Addr}{t:Ic}{v:V}(d:QG H as t v)(h:∀x∈as,x∈as'/\H' x=H x):QG H' as' t v:=by
 obtain⟨b,c,e,h1,h2,h3,h4⟩:=d
 exact⟨b,c,e,(h b h1).1,(h c h2).1,by rw[(h b h1).2];exact h3,by rw[(h c h2).2];exact h4⟩
theorem MD.to {H H':Hp}{os iA:List Addr}{a:Addr}{as:List Addr}{ts:List Ic}(d:MD H os a as ts)(h:∀x∈a::as,x∈iA/\H' x=H x):MD H' iA a as ts:=by
 obtain⟨vs,h1,h2,h3⟩:=d.at_
 refine⟨(h a (by simp)).1,d.na,fun x hx=>?_,vs,by rw[(h a (by simp)).2];exact h1,h2,fun k t v e1 e2=>(h3 k t v e1 e2).to fun x hx=>⟨hx,(h x (mem_cons_of_mem _ hx)).2⟩⟩
 obtain⟨q1,o,q2⟩:=d.mem x hx
 have q:=h x (mem_cons_of_mem _ hx)
 exact⟨q.1,o,by rw[q.2];exact q2⟩
def ZO(ks:List Int):List (Key×V):=ks.map fun k=>(Sum.inl k,V.bl true)
abbrev Dp(H:Hp)(os:List Addr)(a:Addr)(as:List Addr)(c:Ct):Prop:=match c with
 |.ls nss=>xS HO.lst H os a as nss
 |.tp nss=>xS HO.tup H os a as nss
 |.dk ks=>a∈os/\as=[]/\H a=some (.dK (ZO ks))
 |.tq n ns=>∃b,as=[b]/\a∈os/\b∈os/\a≠b/\H a=some (.tup [.int n,.ref b])/\H b=some (.lst (ns.map V.int))
 |.tr ts=>MD H os a as ts
theorem Dp.mem {H:Hp}{os:List Addr}{a:Addr}{as:List Addr}{c:Ct}(d:Dp H os a as c):∀x∈a::as,x∈os/\∃o,H x=some o:=by
 cases c with
 |ls nss=>exact xS.mem d
 |tp nss=>exact xS.mem d
 |dk ks=>
  obtain⟨h1,rfl,h2⟩:=d
  intro x hx
  rcases mem_cons.mp hx with rfl|hx
  ·exact⟨h1,_,h2⟩
  ·cases hx
 |tq n ns=>
  obtain⟨b,rfl,h1,h2,h3,h4,h5⟩:=d
  intro x hx
  rcases mem_cons.mp hx with rfl|hx
  ·exact⟨h1,_,h4⟩
  ·rcases mem_cons.mp hx with rfl|hx
   ·exact⟨h2,_,h5⟩
   ·cases hx
 |tr ts=>
  have d':MD H os a as ts:=d
  intro x hx
  rcases mem_cons.mp hx with rfl|hx
  ·obtain⟨vs,h1,_⟩:=d'.at_
   exact⟨d'.ma,_,h1⟩
  ·exact d'.mem x hx
theorem Dp.to {H H':Hp}{os iA:List Addr}{a:Addr}{as:List Addr}{c:Ct}(d:Dp H os a as c)(h:∀x∈a::as,x∈iA/\H' x=H x):Dp H' iA a as c:=by
 cases c with
 |ls nss=>exact xS.to d h
 |tp nss=>exact xS.to d h
 |dk ks=>
  obtain⟨h1,rfl,h2⟩:=d
  exact⟨(h a (by simp)).1,rfl,by rw[(h a (by simp)).2];exact h2⟩
 |tq n ns=>
  obtain⟨b,rfl,h1,h2,h3,h4,h5⟩:=d
  exact⟨b,rfl,(h a (by simp)).1,(h b (by simp)).1,h3,by rw[(h a (by simp)).2];exact h4,by rw[(h b (by simp)).2];exact h5⟩
 |tr ts=>exact MD.to d h
theorem Dp.ma {H:Hp}{os:List Addr}{a:Addr}{as:List Addr}{nss:List (List Int)}(d:Dp H os a as (.ls nss)):a∈os:=xS.ma d
theorem Dp.ha {H:Hp}{os:List Addr}{a:Addr}{as:List Addr}{nss:List (List Int)}(d:Dp H os a as (.ls nss)):H a=some (.lst (as.map V.ref)):=xS.ha d
theorem Dp.len {H:Hp}{os:List Addr}{a:Addr}{as:List Addr}{nss:List (List Int)}(d:Dp H os a as (.ls nss)):as.length=nss.length:=xS.len d
theorem Dp.nd {H:Hp}{os:List Addr}{a:Addr}{as:List Addr}{nss:List (List Int)}(d:Dp H os a as (.ls nss)):(a::as).Nodup:=xS.nd d
theorem Dp.it {H:Hp}{os:List Addr}{a:Addr}{as:List Addr}{nss:List (List Int)}(d:Dp H os a as (.ls nss)):∀(k:Nat)(b:Addr)(ns:List Int),as[k]?=some b->nss[k]?=some ns->b∈os/\H b=some (.lst (ns.map V.int)):=xS.it d
structure Pf(A:Nat->List Addr)(env:DE)(σ:St)(H:Hp)(os:List Addr):Prop where
 dp:∀(i:Nat)(nss:Ct),env[i]?=some (.deep nss)->∃a as,A i=a::as/\σ[i]?=some (some (.ref a))/\Dp H os a as nss
 ow:∀(i:Nat)(nss:Ct)(j:Nat)(xs:List D)(b:Addr),env[i]?=some (.deep nss)->env[j]?=some (.own xs)->σ[j]?=some (some (.ref b))->b∉A i
 dj:∀(i j:Nat)(nss oE:Ct),i≠j->env[i]?=some (.deep nss)->env[j]?=some (.deep oE)->∀x∈A i,x∉A j
theorem Pf.mem {A:Nat->List Addr}{env:DE}{σ:St}{H:Hp}{os:List Addr}(d:Pf A env σ H os){i:Nat}{nss:Ct}(e:env[i]?=some (.deep nss)):∀x∈A i,x∈os/\∃o,H x=some o:=fun x hx=>by
 obtain⟨a,as,h1,_,h3⟩:=d.dp i nss e
 rw[h1]at hx
 exact h3.mem x hx
theorem Pf.to {A:Nat->List Addr}{env vk:DE}{σ σ':St}{H H':Hp}{os iA:List Addr}(d:Pf A env σ H os)
  (hd:∀(j:Nat)(nss:Ct),vk[j]?=some (.deep nss)->env[j]?=some (.deep nss)/\σ'[j]?=σ[j]?)
  (ho:∀(j:Nat)(xs:List D)(b:Addr),vk[j]?=some (.own xs)->σ'[j]?=some (some (.ref b))->(∃ys,env[j]?=some (.own ys)/\σ[j]?=some (some (.ref b)))\/b∉os)
  (hH:∀(i:Nat)(nss:Ct),env[i]?=some (.deep nss)->∀x∈A i,x∈iA/\H' x=H x):Pf A vk σ' H' iA where
 dp i nss e:=by
  obtain⟨e',q⟩:=hd i nss e
  obtain⟨a,as,h1,h2,h3⟩:=d.dp i nss e'
  exact⟨a,as,h1,by rw[q];exact h2,h3.to fun x hx=>hH i nss e' x (by rw[h1];exact hx)⟩
 ow i nss j xs b e1 e2 e3:=by
  obtain⟨Ec,_⟩:=hd i nss e1
  rcases ho j xs b e2 e3 with⟨ys,q1,q2⟩|q
  ·exact d.ow i nss j ys b Ec q1 q2
  ·exact fun z=>q (d.mem Ec b z).1
 dj i j nss oE hij e1 e2:=d.dj i j nss oE hij (hd i nss e1).1 (hd j oE e2).1
def ym(env:DE)(σ:St)(H:Hp)(os:List Addr):Prop:=∃A,Pf A env σ H os
theorem ym.none {env:DE}{σ:St}{H:Hp}{os:List Addr}(h:∀(i:Nat)(nss:Ct),env[i]?≠some (.deep nss)):ym env σ H os:=
 ⟨fun _=>[],fun i nss e=>(h i nss e).elim,fun i nss _ _ _ e=>(h i nss e).elim,fun i _ nss _ _ e=>(h i nss e).elim⟩
structure Rel(K:PySem.W.Frag)(g:Gh)(env:DE)(σ:St)(H:Hp)(os:List Addr):Prop where
 len:σ.length=env.length
 ext:aB g.H₀ H
 val:∀(i:Nat)(d:D),env[i]?=some (.val d)->∃v,σ[i]?=some (some v)/\Is K (g.P os) H d v
 own:∀(i:Nat)(xs:List D),env[i]?=some (.own xs)->∃a vs,σ[i]?=some (some (.ref a))/\a∈os/\H a=some (.lst vs)/\IsL K (g.P os) H xs vs
 inj:∀(i j:Nat)(xs ys:List D)(a:Addr),env[i]?=some (.own xs)->env[j]?=some (.own ys)->σ[i]?=some (some (.ref a))->σ[j]?=some (some (.ref a))->i=j
 new:∀a∈os,g.H₀ a=none/\∃o,H a=some o
 raw:∀(i:Nat)(v:V),env[i]?=some (.raw v)->σ[i]?=some (some v)
 Ed:ym env σ H os
section
variable{K:PySem.W.Frag}{g:Gh}{env:DE}{σ:St}{H H':Hp}{os:List Addr}
theorem Rel.same (r:Rel K g env σ H os)(s:aB H H'):Rel K g env σ H' os:=
 ⟨r.len,r.ext.trans s,fun i d e=>let⟨v,h1,h2⟩:=r.val i d e;⟨v,h1,h2.same s⟩,
  fun i xs e=>let⟨a,vs,h1,h2,h3,h4⟩:=r.own i xs e;⟨a,vs,h1,h2,s a _ h3,h4.same s⟩,r.inj,fun a ha=>⟨(r.new a ha).1,let⟨o,h⟩:=(r.new a ha).2;⟨o,s a o h⟩⟩,r.raw,by
  obtain⟨A,d⟩:=r.Ed
  exact⟨A,d.to (fun j nss e=>⟨e,rfl⟩) (fun j xs b e q=>.inl ⟨xs,e,q⟩) fun i nss e x hx=>by
   obtain⟨q1,o,q2⟩:=d.mem e x hx
   exact⟨q1,by rw[s x o q2,q2]⟩⟩⟩
theorem Rel.fresh (r:Rel K g env σ H os){a:Addr}(h:H a=none):g.P os a:=by
 refine⟨.inr (r.ext.free h),fun hm=>?_⟩
 obtain⟨o,e⟩:=(r.new a hm).2
 rw[h]at e;cases e
theorem aD{p:Addr}(h:H p=none)(o:HO):aB H (upd H p o):=fun b u q=>by rw[ah (ao q h)];exact q
theorem Rel.set (r:Rel K g env σ H os)(i:Nat){d:D}{v:V}(h:Is K (g.P os) H d v):Rel K g (env.set i (.val d)) (σ.set i (some v)) H os:=by
 refine⟨by simp[r.len],r.ext,fun j d' e=>?_,fun j xs e=>?_,fun j k xs ys a e1 e2 e3 e4=>?_,r.new,fun j w e=>?_,?_⟩
 ·by_cases hj:i=j
  ·subst hj
   have hi:i<env.length:=by
    have:=(List.getElem?_eq_some_iff.mp e).1
    simpa using this
   rw[getElem?_set_self hi]at e
   cases e
   exact⟨v,by rw[getElem?_set_self (by rw[r.len];exact hi)],h⟩
  ·rw[getElem?_set_ne hj]at e
   obtain⟨v',h1,h2⟩:=r.val j d' e
   exact⟨v',by rw[getElem?_set_ne hj];exact h1,h2⟩
 ·by_cases hj:i=j
  ·subst hj
   have hi:i<env.length:=by
    have:=(List.getElem?_eq_some_iff.mp e).1
    simpa using this
   rw[getElem?_set_self hi]at e
   cases e
  ·rw[getElem?_set_ne hj]at e
   obtain⟨a,vs,h1,h2⟩:=r.own j xs e
   exact⟨a,vs,by rw[getElem?_set_ne hj];exact h1,h2⟩
 ·have f:∀(j:Nat)(xs:List D),(env.set i (Sl.val d))[j]?=some (.own xs)->i≠j:=fun j xs e hj=>by
   subst hj
   have hi:i<env.length:=by
    have:=(List.getElem?_eq_some_iff.mp e).1
    simpa using this
   rw[getElem?_set_self hi]at e
   cases e
  have hj:=f j xs e1
  have hk:=f k ys e2
  rw[getElem?_set_ne hj]at e1 e3
  rw[getElem?_set_ne hk]at e2 e4
  exact r.inj j k xs ys a e1 e2 e3 e4
 ·by_cases hj:i=j
  ·subst hj
   have hi:i<env.length:=by
    have:=(List.getElem?_eq_some_iff.mp e).1
    simpa using this
   rw[getElem?_set_self hi]at e
   cases e
  ·rw[getElem?_set_ne hj]at e⊢
   exact r.raw j w e
 ·obtain⟨A,dd⟩:=r.Ed
  have f:∀(j:Nat)(sl:Sl),(env.set i (Sl.val d))[j]?=some sl->(∀d',sl≠.val d')->i≠j/\env[j]?=some sl:=fun j sl q hn=>by
   by_cases hj:i=j
   ·subst hj
    have hi:i<env.length:=by
     have:=(List.getElem?_eq_some_iff.mp q).1
     simpa using this
    rw[getElem?_set_self hi]at q
    exact(hn d (Option.some.inj q).symm).elim
   ·rw[getElem?_set_ne hj]at q
    exact⟨hj,q⟩
  refine⟨A,dd.to (fun j nss q=>?_) (fun j xs b q z=>?_) fun j nss q x hx=>⟨(dd.mem q x hx).1,rfl⟩⟩
  ·obtain⟨hj,q⟩:=f j _ q (fun _ z=>nomatch z)
   exact⟨q,by rw[getElem?_set_ne hj]⟩
  ·obtain⟨hj,q⟩:=f j _ q (fun _ z=>nomatch z)
   rw[getElem?_set_ne hj]at z
   exact .inl ⟨xs,q,z⟩
theorem Rel.apart (r:Rel K g env σ H os){a:Addr}(s:aB H H')(hn:H a=none):Ext (g.P os) (g.P (a::os)) H H':=
 ⟨fun b o p e=>⟨p.1,fun hm=>by
  rcases mem_cons.mp hm with z|z
  ·rw[z,hn]at e;cases e
  ·exact p.2 z⟩,fun b o _ e=>s b o e⟩
theorem aV{α:Type}{l:List α}{i:Nat}{x y:α}(e:(l.set i x)[i]?=some y):y=x:=by
 have hi:i<l.length:=by
  have:=(List.getElem?_eq_some_iff.mp e).1
  simpa using this
 rw[getElem?_set_self hi]at e
 cases e;rfl
theorem vQ{α:Type}{l:List α}{i j:Nat}{x y:α}(e:(l.set i x)[j]?=some y):j<l.length:=by
 have:=(List.getElem?_eq_some_iff.mp e).1
 simpa using this
theorem Rel.UU (r:Rel K g env σ H os)(s:aB H H')(i:Nat){xs:List D}{vs:List V}{a:Addr}(hn:H a=none)(hH:H' a=some (.lst vs))(h:IsL K (g.P (a::os)) H' xs vs):
  Rel K g (env.set i (.own xs)) (σ.set i (some (.ref a))) H' (a::os):=by
 have ap:=r.apart s hn
 have old:∀(j:Nat)(ys:List D),env[j]?=some (.own ys)->σ[j]?=some (some (.ref a))->False:=fun j ys e q=>by
  obtain⟨b,ws,h1,h2,h3,_⟩:=r.own j ys e
  rw[q]at h1
  cases h1
  rw[hn]at h3;cases h3
 refine⟨by simp[r.len],r.ext.trans s,fun j d' e=>?_,fun j ys e=>?_,fun j k ys zs b e1 e2 e3 e4=>?_,fun b hb=>?_,fun j w e=>?_,?_⟩
 ·by_cases hj:i=j
  ·subst hj
   exact nomatch aV e
  ·rw[getElem?_set_ne hj]at e
   obtain⟨v,h1,h2⟩:=r.val j d' e
   exact⟨v,by rw[getElem?_set_ne hj];exact h1,Is.ext ap _ _ h2⟩
 ·by_cases hj:i=j
  ·subst hj
   have hi:=vQ e
   have e':=aV e
   cases e'
   exact⟨a,vs,by rw[getElem?_set_self (by rw[r.len];exact hi)],by simp,hH,h⟩
  ·rw[getElem?_set_ne hj]at e
   obtain⟨b,ws,h1,h2,h3,h4⟩:=r.own j ys e
   exact⟨b,ws,by rw[getElem?_set_ne hj];exact h1,mem_cons_of_mem _ h2,s _ _ h3,IsL.ext ap _ _ h4⟩
 ·by_cases hj:i=j
  ·subst hj
   by_cases hk:i=k
   ·exact hk
   ·have ZP:=aV e3
    cases ZP
    rw[getElem?_set_ne hk]at e2 e4
    exact(old k zs e2 e4).elim
  ·by_cases hk:i=k
   ·subst hk
    have ZQ:=aV e4
    cases ZQ
    rw[getElem?_set_ne hj]at e1 e3
    exact(old j ys e1 e3).elim
   ·rw[getElem?_set_ne hj]at e1 e3
    rw[getElem?_set_ne hk]at e2 e4
    exact r.inj j k ys zs b e1 e2 e3 e4
 ·rcases mem_cons.mp hb with rfl|hb
  ·exact⟨r.ext.free hn,_,hH⟩
  ·obtain⟨h1,o,h2⟩:=r.new b hb
   exact⟨h1,o,s _ _ h2⟩
 ·by_cases hj:i=j
  ·subst hj
   exact nomatch aV e
  ·rw[getElem?_set_ne hj]at e⊢
   exact r.raw j w e
 ·obtain⟨A,dd⟩:=r.Ed
  have f:∀(j:Nat)(sl:Sl),(env.set i (Sl.own xs))[j]?=some sl->i≠j->env[j]?=some sl:=fun j sl q hj=>by
   rwa [getElem?_set_ne hj]at q
  refine⟨A,dd.to (fun j nss q=>?_) (fun j ys b q z=>?_) fun j nss q x hx=>?_⟩
  ·by_cases hj:i=j
   ·subst hj
    exact nomatch aV q
   ·exact⟨f j _ q hj,by rw[getElem?_set_ne hj]⟩
  ·by_cases hj:i=j
   ·subst hj
    have z':=aV z
    cases z'
    exact .inr fun hm=>by
     obtain⟨o,ho⟩:=(r.new a hm).2
     rw[hn]at ho
     cases ho
   ·rw[getElem?_set_ne hj]at z
    exact .inl ⟨ys,f j _ q hj,z⟩
  ·obtain⟨q1,o,q2⟩:=dd.mem q x hx
   exact⟨mem_cons_of_mem _ q1,by rw[s x o q2,q2]⟩
theorem Rel.mut (r:Rel K g env σ H os){i:Nat}{xs UW:List D}{A9:List V}{a:Addr}(e:env[i]?=some (.own xs))(hσ:σ[i]?=some (some (.ref a)))(ha:a∈os)(h:IsL K (g.P os) H UW A9):
  Rel K g (env.set i (.own UW)) σ (upd H a (.lst A9)) os:=by
 have ex:Ext (g.P os) (g.P os) H (upd H a (.lst A9)):=⟨fun _ _ p _=>p,fun b o p q=>by rw[ah (fun z=>p.2 (by rw[z];exact ha))];exact q⟩
 refine⟨by simp[r.len],fun b o q=>?_,fun j d' e'=>?_,fun j ys e'=>?_,fun j k ys zs b e1 e2 e3 e4=>?_,fun b hb=>?_,fun j w e'=>?_,?_⟩
 ·rw[ah (fun z=>by rw[z,(r.new a ha).1]at q;cases q)]
  exact r.ext b o q
 ·by_cases hj:i=j
  ·subst hj
   exact nomatch aV e'
  ·rw[getElem?_set_ne hj]at e'
   obtain⟨v,h1,h2⟩:=r.val j d' e'
   exact⟨v,h1,Is.ext ex _ _ h2⟩
 ·by_cases hj:i=j
  ·subst hj
   have e2:=aV e'
   cases e2
   exact⟨a,A9,hσ,ha,ak,IsL.ext ex _ _ h⟩
  ·rw[getElem?_set_ne hj]at e'
   obtain⟨b,ws,h1,h2,h3,h4⟩:=r.own j ys e'
   have hb:b≠a:=fun z=>by
    subst z
    exact hj (r.inj i j xs ys b e e' hσ h1)
   exact⟨b,ws,h1,h2,by rw[ah hb];exact h3,IsL.ext ex _ _ h4⟩
 ·have f:∀(j:Nat)(ys:List D),(env.set i (Sl.own UW))[j]?=some (.own ys)->∃ZR,env[j]?=some (.own ZR):=fun j ys q=>by
   by_cases hj:i=j
   ·subst hj;exact⟨xs,e⟩
   ·rw[getElem?_set_ne hj]at q;exact⟨ys,q⟩
  obtain⟨y1,f1⟩:=f j ys e1
  obtain⟨y2,f2⟩:=f k zs e2
  exact r.inj j k y1 y2 b f1 f2 e3 e4
 ·obtain⟨h1,o,h2⟩:=r.new b hb
  refine⟨h1,?_⟩
  by_cases z:b=a
  ·exact⟨_,by rw[z];exact ak⟩
  ·exact⟨o,by rw[ah z];exact h2⟩
 ·by_cases hj:i=j
  ·subst hj
   exact nomatch aV e'
  ·rw[getElem?_set_ne hj]at e'
   exact r.raw j w e'
 ·obtain⟨A,dd⟩:=r.Ed
  refine⟨A,dd.to (fun j nss q=>?_) (fun j ys b q z=>?_) fun j nss q x hx=>⟨(dd.mem q x hx).1,?_⟩⟩
  ·by_cases hj:i=j
   ·subst hj
    exact nomatch aV q
   ·rw[getElem?_set_ne hj]at q
    exact⟨q,rfl⟩
  ·by_cases hj:i=j
   ·subst hj
    exact .inl ⟨xs,e,z⟩
   ·rw[getElem?_set_ne hj]at q
    exact .inl ⟨ys,q,z⟩
  ·have hxa:x≠a:=fun z=>dd.ow j nss i xs a q e hσ (by rw[<-z];exact hx)
   rw[ah hxa]
end
section
variable(K:PySem.W.Frag)(E:Str->Hp->Prop)
def tD(f:DE->R D):TE:=fun σ H Q=>∃g env os,Rel K g env σ H os/\Good E g.H₀ (f env) fun d=>∀v H',aB H H'->Is K (g.P os) H' d v->Q v H'
def tB(f:DE->R D):TE:=fun σ H Q=>∃g env os,Rel K g env σ H os/\Good E g.H₀ (f env) fun d=>∀v H',aB H H'->Is K (fun _=>True) H' d v->Q v H'
def tF(f:DE->R (List D)):TE:=fun σ H Q=>∃g env os,Rel K g env σ H os/\Good E g.H₀ (f env) fun xs=>∀a vs H',aB H H'->H a=none->H' a=some (.lst vs)->IsL K (g.P (a::os)) H' xs vs->Q (.ref a) H'
def tL(f:DE->R (List D)):TE:=fun σ H Q=>∃g env os,Rel K g env σ H os/\Good E g.H₀ (f env) fun xs=>∀a vs H',aB H H'->b7 K H' a vs->IsL K (g.P os) H' xs vs->Q (.ref a) H'
def tT(f:DE->R Bool):TT:=fun σ H Q=>∃g env os,Rel K g env σ H os/\Good E g.H₀ (f env) fun b=>∀H',aB H H'->Q b H'
def Ef(f:DE->R (List D)):TA:=fun σ H Q=>∃g env os,Rel K g env σ H os/\Good E g.H₀ (f env) fun ds=>∀vs H',aB H H'->IsL K (g.P os) H' ds vs->Q vs H'
def pH(f:DE->R (List D)):TA:=fun σ H Q=>∃g env os,Rel K g env σ H os/\Good E g.H₀ (f env) fun ds=>∀vs H',aB H H'->IsL K (fun _=>True) H' ds vs->Q vs H'
end
inductive Out where
 |nx (e:DE)|bk (e:DE)|ct (e:DE)|rt (d:D)|ph (xs:List D)|Ba (nss:List (List Int))|Hc (nss:List (List Int))|Ie (q:Int×List Int)|Ig (c:Ct)
structure qI(H:Hp)(os:List Addr)(H':Hp)(iA:List Addr):Prop where
 own:∀a∈iA,a∈os\/H a=none
 grow:∀a,H' a=none->H a=none
 keep:∀a o,a∉os->H a=some o->H' a=some o
theorem qI.refl (H:Hp)(os:List Addr):qI H os H os:=⟨fun _ h=>.inl h,fun _ h=>h,fun _ _ _ h=>h⟩
theorem qI.same {H H':Hp}(s:aB H H')(os:List Addr):qI H os H' os:=⟨fun _ h=>.inl h,fun _ h=>s.free h,fun _ _ _ h=>s _ _ h⟩
theorem qI.trans {H H1 H2:Hp}{os QH Pg:List Addr}(a:qI H os H1 QH)(b:qI H1 QH H2 Pg):qI H os H2 Pg where
 own:=fun x h=>(b.own x h).elim (fun z=>a.own x z) fun z=>.inr (a.grow x z)
 grow:=fun x h=>a.grow x (b.grow x h)
 keep:=fun x o hn h=>b.keep x o (fun z=>(a.own x z).elim hn fun q=>by rw[h]at q;cases q) (a.keep x o hn h)
theorem qI.ext {g:Gh}{H H':Hp}{os iA:List Addr}(s:qI H os H' iA):Ext (g.P os) (g.P iA) H H':=
 ⟨fun a o p h=>⟨p.1,fun z=>(s.own a z).elim p.2 fun q=>by rw[h]at q;cases q⟩,fun a o p h=>s.keep a o p.2 h⟩
structure Eg(hd:List V->HO)(H₀ H:Hp)(a:Addr)(as:List Addr)(nss:List (List Int)):Prop where
 fr:∀b∈a::as,H₀ b=none
 nd:(a::as).Nodup
 len:as.length=nss.length
 ha:H a=some (hd (as.map V.ref))
 it:∀(k:Nat)(b:Addr)(ns:List Int),as[k]?=some b->nss[k]?=some ns->H b=some (.lst (ns.map V.int))
theorem Eg.back {hd:List V->HO}{H₀ H1 H:Hp}{a:Addr}{as:List Addr}{nss:List (List Int)}(d:Eg hd H1 H a as nss)(s:aB H₀ H1):Eg hd H₀ H a as nss:=⟨fun b hb=>s.free (d.fr b hb),d.nd,d.len,d.ha,d.it⟩
abbrev ME:=Eg HO.lst
abbrev UX:=Eg HO.tup
structure UY(H₀ H:Hp)(a b:Addr)(q:Int×List Int):Prop where
 fa:H₀ a=none
 fb:H₀ b=none
 ne:a≠b
 ha:H a=some (.tup [.int q.1,.ref b])
 hb:H b=some (.lst (q.2.map V.int))
def UZ(H₀ H:Hp)(a:Addr)(c:Ct):Prop:=∃as,(∀x∈a::as,H₀ x=none)/\Dp H (a::as) a as c
def gC(K:PySem.W.Frag)(g:Gh)(H:Hp)(os:List Addr)(De:Ends):Out->Prop
 |.nx e=>∀σ' H' iA,Rel K g e σ' H' iA->qI H os H' iA->De.nx σ' H'
 |.bk e=>∀σ' H' iA,Rel K g e σ' H' iA->qI H os H' iA->De.bk σ' H'
 |.ct e=>∀σ' H' iA,Rel K g e σ' H' iA->qI H os H' iA->De.ct σ' H'
 |.rt d=>∀v H',aB g.H₀ H'->Is K (g.P []) H' d v->De.rt v H'
 |.ph xs=>∀a vs H',aB g.H₀ H'->g.H₀ a=none->H' a=some (.lst vs)->IsL K (g.P [a]) H' xs vs->De.rt (.ref a) H'
 |.Hc nss=>∀(a:Addr)(as:List Addr)(H':Hp),aB g.H₀ H'->UX g.H₀ H' a as nss->De.rt (.ref a) H'
 |.Ie q=>∀(a b:Addr)(H':Hp),aB g.H₀ H'->UY g.H₀ H' a b q->De.rt (.ref a) H'
 |.Ba nss=>∀(a:Addr)(as:List Addr)(H':Hp),aB g.H₀ H'->ME g.H₀ H' a as nss->De.rt (.ref a) H'
 |.Ig c=>∀(a:Addr)(H':Hp),aB g.H₀ H'->UZ g.H₀ H' a c->De.rt (.ref a) H'
theorem gC.step {K:PySem.W.Frag}{g:Gh}{H H1:Hp}{os QH:List Addr}{De:Ends}(s:qI H os H1 QH):∀{o:Out},gC K g H os De o->gC K g H1 QH De o
 |.nx e,h=>fun σ' H' iA r z=>h σ' H' iA r (s.trans z)
 |.bk e,h=>fun σ' H' iA r z=>h σ' H' iA r (s.trans z)
 |.ct e,h=>fun σ' H' iA r z=>h σ' H' iA r (s.trans z)
 |.rt d,h=>h
 |.ph xs,h=>h
 |.Hc xs,h=>h
 |.Ie xs,h=>h
 |.Ba xs,h=>h
 |.Ig xs,h=>h
def tS(K:PySem.W.Frag)(E:Str->Hp->Prop)(f:DE->R Out):TS:=fun De σ H=>∃g env os,Rel K g env σ H os/\Good E g.H₀ (f env) (gC K g H os De)
section
variable{X:Cx}{E:Str->Hp->Prop}{pos:Pos}
theorem imp{e:Expr}{t t':TE}(h:PE X e t)(w:∀σ H Q,t' σ H Q->t σ H Q):PE X e t':=fun pins s σ H Q I q=>h pins s σ H Q I (w σ H Q q)
theorem MF{e:Expr}{t t':TT}(h:PT X e t)(w:∀σ H Q,t' σ H Q->t σ H Q):PT X e t':=fun pins s σ H Q I q=>h pins s σ H Q I (w σ H Q q)
theorem QI{e:Expr}{t t':TT}(h:PW X e t)(w:∀σ H Q,t' σ H Q->t σ H Q):PW X e t':=fun wh pins s σ H Q I q=>h wh pins s σ H Q I (w σ H Q q)
theorem Eh{e:List Expr}{t t':TA}(h:PA X e t)(w:∀σ H Q,t' σ H Q->t σ H Q):PA X e t':=fun pos pins s σ H Q I q=>h pos pins s σ H Q I (w σ H Q q)
theorem ou{e:Stmt}{t t':TS}(h:PS X e t)(w:∀De σ H,t' De σ H->t De σ H):PS X e t':=fun pins s σ H Q I q=>h pins s σ H Q I (w Q σ H q)
theorem JZ{e:List Stmt}{t t':TS}(h:oV X e t)(w:∀De σ H,t' De σ H->t De σ H):oV X e t':=fun pins s σ H Q I q=>h pins s σ H Q I (w Q σ H q)
def bY(i:Nat)(env:DE):R D:=match env[i]? with
 |some (.val d)=>.ok d
 |_=>.bad
def dT(t:Ic):D:=.tup [.int t.1,.int t.2.1,.lst (t.2.2.map .int)]
def aY(i:Nat)(env:DE):R D:=match env[i]? with
 |some (.val d)=>.ok d
 |some (.own xs)=>.ok (.lst xs)
 |some (.deep (.ls nss))=>.ok (.lst (nss.map fun ns=>.lst (ns.map .int)))
 |some (.deep (.tp nss))=>.ok (.tup (nss.map fun ns=>.lst (ns.map .int)))
 |some (.deep (.tq n ns))=>.ok (.tup [.int n,.lst (ns.map .int)])
 |some (.deep (.tr ts))=>.ok (.lst (ts.map dT))
 |_=>.bad
theorem bJ{K:PySem.W.Frag}{P:Addr->Prop}{H:Hp}:∀(ns:List Int),IsL K P H (ns.map D.int) (ns.map V.int)
 |[]=>rfl
 |n::ns=>⟨_,_,rfl,rfl,bJ ns⟩
theorem tU{K:PySem.W.Frag}{H:Hp}{os:List Addr}:∀{as:List Addr}{nss:List (List Int)},as.length=nss.length->(∀(k:Nat)(b:Addr)(ns:List Int),as[k]?=some b->nss[k]?=some ns->b∈os/\H b=some (.lst (ns.map V.int)))->IsL K (fun _=>True) H (nss.map fun ns=>.lst (ns.map D.int)) (as.map V.ref)
 |[],[],_,_=>rfl
 |[],_::_,h,_=>by simp at h
 |_::_,[],h,_=>by simp at h
 |a::as,ns::nss,h,hi=>⟨_,_,rfl,⟨a,_,rfl,.inl ⟨trivial,.inl (hi 0 a ns rfl rfl).2⟩,bJ ns⟩,tU (by simpa using h) fun k b ms e1 e2=>hi (k+1) b ms e1 e2⟩
theorem yn{K:PySem.W.Frag}{P:Addr->Prop}{H:Hp}{as:List Addr}(hp:∀x∈as,P x):∀{ts:List Ic}{vs:List V},vs.length=ts.length->(∀(k:Nat)(t:Ic)(v:V),ts[k]?=some t->vs[k]?=some v->QG H as t v)->IsL K P H (ts.map dT) vs
 |[],[],_,_=>rfl
 |[],_::_,h,_=>by simp at h
 |_::_,[],h,_=>by simp at h
 |t::ts,v::vs,h,hi=>by
  obtain⟨b,c,rfl,h1,h2,h3,h4⟩:=hi 0 t v rfl rfl
  exact⟨_,_,rfl,⟨b,_,rfl,.inl ⟨hp b h1,.inl h3⟩,⟨_,_,rfl,rfl,⟨_,_,rfl,rfl,⟨_,_,rfl,⟨c,_,rfl,.inl ⟨hp c h2,.inl h4⟩,bJ t.2.2⟩,rfl⟩⟩⟩⟩,yn hp (by simpa using h) fun k t v e1 e2=>hi (k+1) t v e1 e2⟩
def lS(i:Nat)(env:DE):R (List D):=match env[i]? with
 |some (.val (.lst xs))=>.ok xs
 |some (.own xs)=>.ok xs
 |_=>.bad
theorem nD(i:Nat){x:Str}(hN:X.N[i]?=some x:=by rfl)(hv:vI X.env.scope x:=by first|exact Or.inl rfl|exact Or.inr (Or.inl rfl)|exact Or.inr (Or.inr rfl))(hd:(x==("__debug__":Str))=false:=by decide)
  (hcd:(x==("__classdict__":Str))=false:=by decide):PE X (.Name x pos) (tD X.K E (bY i)):=imp (iB hN hv hd hcd) fun σ H Q ⟨g,env,os,r,m⟩=>by
 unfold bY at m
 cases e:env[i]? with
 |none=>rw[e]at m;exact m.elim
 |some sl=>
  cases sl with
  |no=>rw[e]at m;exact m.elim
  |raw _=>rw[e]at m;exact m.elim
  |deep _=>rw[e]at m;exact m.elim
  |own xs=>rw[e]at m;exact m.elim
  |val d=>
   rw[e]at m
   obtain⟨v,h1,h2⟩:=r.val i d e
   exact⟨v,h1,m v H (aB.refl H) h2⟩
theorem nB(i:Nat){x:Str}(hN:X.N[i]?=some x:=by rfl)(hv:vI X.env.scope x:=by first|exact Or.inl rfl|exact Or.inr (Or.inl rfl)|exact Or.inr (Or.inr rfl))(hd:(x==("__debug__":Str))=false:=by decide)
  (hcd:(x==("__classdict__":Str))=false:=by decide):PE X (.Name x pos) (tB X.K E (aY i)):=imp (iB hN hv hd hcd) fun σ H Q ⟨g,env,os,r,m⟩=>by
 unfold aY at m
 cases e:env[i]? with
 |none=>rw[e]at m;exact m.elim
 |some sl=>
  cases sl with
  |no=>rw[e]at m;exact m.elim
  |raw _=>rw[e]at m;exact m.elim
  |own xs=>
   rw[e]at m
   obtain⟨a,vs,h1,_,h3,h4⟩:=r.own i xs e
   exact⟨.ref a,h1,m _ H (aB.refl H) ⟨a,vs,rfl,.inl ⟨trivial,.inl h3⟩,h4.weak⟩⟩
  |deep c=>
   obtain⟨A,dd⟩:=r.Ed
   obtain⟨a,as,_,h1,h3⟩:=dd.dp i c e
   cases c with
   |ls nss=>
    rw[e]at m
    exact⟨.ref a,h1,m _ H (aB.refl H) ⟨a,_,rfl,.inl ⟨trivial,.inl h3.ha⟩,tU h3.len h3.it⟩⟩
   |tp nss=>
    rw[e]at m
    have h4:xS HO.tup H os a as nss:=h3
    exact⟨.ref a,h1,m _ H (aB.refl H) ⟨a,_,rfl,.inl ⟨trivial,.inl h4.ha⟩,tU h4.len h4.it⟩⟩
   |dk ks=>rw[e]at m;exact m.elim
   |tq n ns=>
    rw[e]at m
    obtain⟨b,_,_,_,_,h4,h5⟩:=h3
    exact⟨.ref a,h1,m _ H (aB.refl H) ⟨a,_,rfl,.inl ⟨trivial,.inl h4⟩,⟨_,_,rfl,rfl,⟨_,_,rfl,⟨b,_,rfl,.inl ⟨trivial,.inl h5⟩,bJ ns⟩,rfl⟩⟩⟩⟩
   |tr ts=>
    rw[e]at m
    have h4:MD H os a as ts:=h3
    obtain⟨vs,q1,q2,q3⟩:=h4.at_
    exact⟨.ref a,h1,m _ H (aB.refl H) ⟨a,_,rfl,.inl ⟨trivial,.inl q1⟩,yn (fun _ _=>trivial) q2 q3⟩⟩
  |val d=>
   rw[e]at m
   obtain⟨v,h1,h2⟩:=r.val i d e
   exact⟨v,h1,m v H (aB.refl H) h2.weak⟩
theorem nL(i:Nat){x:Str}(hN:X.N[i]?=some x:=by rfl)(hv:vI X.env.scope x:=by first|exact Or.inl rfl|exact Or.inr (Or.inl rfl)|exact Or.inr (Or.inr rfl))(hd:(x==("__debug__":Str))=false:=by decide)
  (hcd:(x==("__classdict__":Str))=false:=by decide):PE X (.Name x pos) (tL X.K E (lS i)):=imp (iB hN hv hd hcd) fun σ H Q ⟨g,env,os,r,m⟩=>by
 unfold lS at m
 cases e:env[i]? with
 |none=>rw[e]at m;exact m.elim
 |some sl=>
  cases sl with
  |no=>rw[e]at m;exact m.elim
  |raw _=>rw[e]at m;exact m.elim
  |deep _=>rw[e]at m;exact m.elim
  |own xs=>
   rw[e]at m
   obtain⟨a,vs,h1,_,h3,h4⟩:=r.own i xs e
   exact⟨.ref a,h1,m _ _ H (aB.refl H) (b7.of h3) h4⟩
  |val d=>
   cases d with
   |lst xs=>
    rw[e]at m
    obtain⟨v,h1,a,vs,rfl,h3,h4⟩:=r.val i _ e
    exact⟨_,h1,m _ _ H (aB.refl H) h3.sq h4⟩
   |non=>rw[e]at m;exact m.elim
   |bl _=>rw[e]at m;exact m.elim
   |int _=>rw[e]at m;exact m.elim
   |str _=>rw[e]at m;exact m.elim
   |exc _=>rw[e]at m;exact m.elim
   |fn _=>rw[e]at m;exact m.elim
   |tup _=>rw[e]at m;exact m.elim
theorem cI{i j}:PE X (.Constant (.int i) j pos) (tD X.K E fun _=>.ok (.int i)):=imp fK fun σ H Q ⟨g,env,os,r,m⟩=>m _ H (aB.refl H) rfl
theorem J0{i j}:PE X (.Constant (.bool i) j pos) (tD X.K E fun _=>.ok (.bl i)):=imp PX fun σ H Q ⟨g,env,os,r,m⟩=>m _ H (aB.refl H) rfl
theorem cN{j}:PE X (.Constant .none j pos) (tD X.K E fun _=>.ok .non):=imp DJ fun σ H Q ⟨g,env,os,r,m⟩=>m _ H (aB.refl H) rfl
theorem PE.aF {e:Expr}{f:DE->R D}(h:PE X e (tD X.K E f)):PE X e (tB X.K E f):=imp h fun σ H Q ⟨g,env,os,r,m⟩=>⟨g,env,os,r,m.mono fun d _ q v H' s i=>q v H' s i.weak⟩
theorem PE.dN {e:Expr}{f:DE->R (List D)}(h:PE X e (tF X.K E f)):PE X e (tD X.K E fun env=>(f env).bind fun xs=>.ok (.lst xs)):=imp h fun σ H Q ⟨g,env,os,r,m⟩=>⟨g,env,os,r,m.bind.mono fun d _ q a vs H' s hn hH i=>by
 refine q _ H' s ⟨a,vs,rfl,.inl ⟨r.fresh hn,.inl hH⟩,IsL.ext ⟨fun b o p _=>⟨p.1,fun z=>p.2 (mem_cons_of_mem _ z)⟩,fun _ _ _ q=>q⟩ _ _ i⟩⟩
theorem PE.qJ {e:Expr}{f:DE->R (List D)}(h:PE X e (tF X.K E f)):PE X e (tL X.K E f):=imp h fun σ H Q ⟨g,env,os,r,m⟩=>⟨g,env,os,r,m.mono fun d _ q a vs H' s hn hH i=>
 q _ vs H' s (b7.of hH) (IsL.ext ⟨fun b o p _=>⟨p.1,fun z=>p.2 (mem_cons_of_mem _ z)⟩,fun _ _ _ q=>q⟩ _ _ i)⟩
def qK:D->R (List D)
 |.lst xs=>.ok xs
 |_=>.bad
theorem PE.U0 {e:Expr}{f:DE->R D}(h:PE X e (tD X.K E f)):PE X e (tL X.K E fun env=>(f env).bind qK):=imp h fun σ H Q ⟨g,env,os,r,m⟩=>⟨g,env,os,r,m.bind.mono fun d _ q v H' s i=>by
 cases d with
 |lst xs=>
  obtain⟨a,vs,rfl,h3,h4⟩:=i
  exact q a vs H' s h3.sq h4
 |non=>exact q.elim
 |bl _=>exact q.elim
 |int _=>exact q.elim
 |str _=>exact q.elim
 |exc _=>exact q.elim
 |fn _=>exact q.elim
 |tup _=>exact q.elim⟩
abbrev Tr:Addr->Prop:=fun _=>True
def l9(X:Cx)(r:R2)(k:D->D->Option D):Prop:=∀x y d,k x y=some d->∃z,toV d=some z/\∀H v w (Q:VK),Is X.K Tr H x v->Is X.K Tr H y w->Q z H->r v w H Q
theorem bh{op:Operator}{r:R2}{a b:Expr}{fa fb:DE->R D}{k:D->D->Option D}(ho:qA X (binaryOp op) r)(hk:l9 X r k)(ha:PE X a (tB X.K E fa))(hb:PE X b (tB X.K E fb)):
  PE X (.BinOp a op b pos) (tD X.K E fun env=>(fa env).bind fun x=>(fb env).bind fun y=>R.of (k x y)):=
 imp (pC ho ha hb) fun σ H Q ⟨g,env,os,r,m⟩=>⟨g,env,os,r,m.bind.mono fun x _ m1 v H1 s1 i1=>⟨g,env,os,r.same s1,m1.bind.mono fun y _ m2 w H2 s2 i2=>by
  obtain⟨d,e,q⟩:=m2.of
  obtain⟨z,hz,hk⟩:=hk x y d e
  exact hk H2 v w Q (i1.same s2) i2 (q z H2 (s1.trans s2) (Is.sc hz))⟩⟩
theorem Ih{op:CmpOp}{r:R2}{a b:Expr}{fa fb:DE->R D}{k:D->D->Option D}(ho:qA X (compareOp op) r)(hk:l9 X r k)(ha:PE X a (tB X.K E fa))(hb:PE X b (tB X.K E fb))(hm:behindInMarks op b=false):
  PE X (.Compare a [op] [b] pos) (tD X.K E fun env=>(fa env).bind fun x=>(fb env).bind fun y=>R.of (k x y)):=
 imp (HN ho ha hb hm) fun σ H Q ⟨g,env,os,r,m⟩=>⟨g,env,os,r,m.bind.mono fun x _ m1 v H1 s1 i1=>⟨g,env,os,r.same s1,m1.bind.mono fun y _ m2 w H2 s2 i2=>by
  obtain⟨d,e,q⟩:=m2.of
  obtain⟨z,hz,hk⟩:=hk x y d e
  exact hk H2 v w Q (i1.same s2) i2 (q z H2 (s1.trans s2) (Is.sc hz))⟩⟩
def jj:D->R Bool
 |.bl b=>.ok b
 |_=>.bad
theorem bG{op:CmpOp}{r:R2}{a b:Expr}{fa fb:DE->R D}{k:D->D->Option D}(ho:qA X (compareOp op) r)(hk:l9 X r k)(ha:PE X a (tB X.K E fa))(hb:PE X b (tB X.K E fb))(hm:behindInMarks op b=false):
  PT X (.Compare a [op] [b] pos) (tT X.K E fun env=>(fa env).bind fun x=>(fb env).bind fun y=>(R.of (k x y)).bind jj):=
 MF (iX ho ha hb hm) fun σ H Q ⟨g,env,os,r,m⟩=>⟨g,env,os,r,m.bind.mono fun x _ m1 v H1 s1 i1=>⟨g,env,os,r.same s1,m1.bind.mono fun y _ m2 w H2 s2 i2=>by
  obtain⟨d,e,q⟩:=m2.bind.of
  obtain⟨z,hz,hk⟩:=hk x y d e
  refine hk H2 v w _ (i1.same s2) i2 ?_
  cases d with
  |bl b=>
   cases hz
   exact⟨b,rfl,q H2 (s1.trans s2)⟩
  |non=>exact q.elim
  |lst _=>exact q.elim
  |int _=>exact q.elim
  |str _=>exact q.elim
  |exc _=>exact q.elim
  |fn _=>exact q.elim
  |tup _=>exact q.elim⟩⟩
def QJ(X:Cx)(r:V->Hp->VK->Prop)(k:D->Option D):Prop:=∀x d,k x=some d->∃z,toV d=some z/\∀H v (Q:VK),Is X.K Tr H x v->Q z H->r v H Q
theorem Hd{op:UnaryOp}{r:V->Hp->VK->Prop}{a:Expr}{fa:DE->R D}{k:D->Option D}(ho:Qd X (unaryOp op) r)(hk:QJ X r k)(ha:PE X a (tB X.K E fa)):
  PE X (.UnaryOp op a pos) (tD X.K E fun env=>(fa env).bind fun x=>R.of (k x)):=
 imp (AX ho ha) fun σ H Q ⟨g,env,os,r,m⟩=>⟨g,env,os,r,m.bind.mono fun x _ m1 v H1 s1 i1=>by
  obtain⟨d,e,q⟩:=m1.of
  obtain⟨z,hz,hk⟩:=hk x d e
  exact hk H1 v Q i1 (q z H1 s1 (Is.sc hz))⟩
def iD:D->D->Option D
 |.int i,.int j=>some (.int (i-j))
 |_,_=>none
def yo:D->D->Option D
 |.int i,.int j=> @ite _ ((-(2^64)<i/\i<2^64)\/(-(2^64)<j/\j<2^64)) (propDecidable _) (some (.int (i*j))) (none)
 |_,_=>none
def wV:D->D->Option D
 |.int i,.int j=> @ite _ (0<j/\j<1073741824) (propDecidable _) (some (.int (i/j))) (none)
 |_,_=>none
def oZ:D->D->Option D
 |.int i,.int j=> @ite _ (0<j) (propDecidable _) (some (.int (i%j))) (none)
 |_,_=>none
def Ei:D->D->Option D
 |.int i,.int j=> @ite _ (0<=j/\j<=1000000/\i.natAbs<2^64) (propDecidable _) (some (.int (i^j.toNat))) (none)
 |_,_=>none
def qL:D->Option D
 |.int i=>some (.int (-i))
 |_=>none
def J1:D->D->Option D
 |.int i,.int j=>some (.bl (decide (i<j)))
 |_,_=>none
def Te:D->D->Option D
 |.int i,.int j=>some (.bl (decide (i<=j)))
 |_,_=>none
def zW:D->D->Option D
 |.int i,.int j=>some (.bl (decide (j<i)))
 |_,_=>none
def ZS:D->D->Option D
 |.int i,.int j=>some (.bl (decide (j<=i)))
 |_,_=>none
theorem mG{g:Int->Int->V}{h:Int->Int->D}{k:D->D->Option D}(hg:∀i j,toV (h i j)=some (g i j))(hk:∀x y d,k x y=some d->∃i j,x=.int i/\y=.int j/\d=h i j):l9 X (AW g) k:=fun x y d e=>by
 obtain⟨i,j,rfl,rfl,rfl⟩:=hk x y d e
 refine⟨g i j,hg i j,fun H v w Q h1 h2 q=>⟨i,j,h1,h2,q⟩⟩
theorem pI{C:Int->Int->Prop}{g:Int->Int->V}{h:Int->Int->D}{k:D->D->Option D}(hg:∀i j,toV (h i j)=some (g i j))(hk:∀x y d,k x y=some d->∃i j,x=.int i/\y=.int j/\C i j/\d=h i j):l9 X (rI C g) k:=fun x y d e=>by
 obtain⟨i,j,rfl,rfl,c,rfl⟩:=hk x y d e
 refine⟨g i j,hg i j,fun H v w Q h1 h2 q=>⟨i,j,h1,h2,c,q⟩⟩
theorem br:l9 X (AW fun i j=>.int (i-j)) iD:=mG (h:=fun i j=>.int (i-j)) (fun _ _=>rfl) fun x y d e=>by
 unfold iD at e
 split at e<;>cases e
 exact⟨_,_,rfl,rfl,rfl⟩
theorem tV:l9 X (AW fun i j=>.bl (decide (i<j))) J1:=mG (h:=fun i j=>.bl (decide (i<j))) (fun _ _=>rfl) fun x y d e=>by
 unfold J1 at e
 split at e<;>cases e
 exact⟨_,_,rfl,rfl,rfl⟩
theorem MG:l9 X (AW fun i j=>.bl (decide (i<=j))) Te:=mG (h:=fun i j=>.bl (decide (i<=j))) (fun _ _=>rfl) fun x y d e=>by
 unfold Te at e
 split at e<;>cases e
 exact⟨_,_,rfl,rfl,rfl⟩
theorem iF:l9 X (AW fun i j=>.bl (decide (j<i))) zW:=mG (h:=fun i j=>.bl (decide (j<i))) (fun _ _=>rfl) fun x y d e=>by
 unfold zW at e
 split at e<;>cases e
 exact⟨_,_,rfl,rfl,rfl⟩
theorem pJ:l9 X (rI HH fun i j=>.int (i*j)) yo:=pI (h:=fun i j=>.int (i*j)) (fun _ _=>rfl) fun x y d e=>by
 unfold yo at e
 split at e
 ·split at e
  ·rename_i i j c
   cases e
   exact⟨i,j,rfl,rfl,c,rfl⟩
  ·cases e
 ·cases e
theorem nQ:l9 X (rI Qg fun i j=>.int (i/j)) wV:=pI (h:=fun i j=>.int (i/j)) (fun _ _=>rfl) fun x y d e=>by
 unfold wV at e
 split at e
 ·split at e
  ·rename_i i j c
   cases e
   exact⟨i,j,rfl,rfl,c,rfl⟩
  ·cases e
 ·cases e
theorem eg:l9 X (rI (fun _ j=>0<j) fun i j=>.int (i%j)) oZ:=pI (h:=fun i j=>.int (i%j)) (fun _ _=>rfl) fun x y d e=>by
 unfold oZ at e
 split at e
 ·split at e
  ·rename_i i j c
   cases e
   exact⟨i,j,rfl,rfl,c,rfl⟩
  ·cases e
 ·cases e
theorem Ii:l9 X (rI CB fun i j=>.int (i^j.toNat)) Ei:=pI (h:=fun i j=>.int (i^j.toNat)) (fun _ _=>rfl) fun x y d e=>by
 unfold Ei at e
 split at e
 ·split at e
  ·rename_i i j c
   cases e
   exact⟨i,j,rfl,rfl,c,rfl⟩
  ·cases e
 ·cases e
theorem gS:QJ X (rU fun i=>.int (-i)) qL:=fun x d e=>by
 unfold qL at e
 split at e<;>cases e
 exact⟨_,rfl,fun H v Q h1 q=>⟨_,h1,q⟩⟩
theorem vR{a:Expr}{f:DE->R Bool}(h:PT X a (tT X.K E f)):PT X (.UnaryOp .Not a pos) (tT X.K E fun env=>(f env).bind fun b=>.ok (!b)):=
 MF (L5 h) fun σ H Q ⟨g,env,os,r,m⟩=>⟨g,env,os,r,m.bind.mono fun b _ q H' s=>q H' s⟩
theorem yp{a:Expr}{f:DE->R Bool}(h:PT X a (tT X.K E f)):PW X (.BoolOp .And [a] pos) (tT X.K E f):=pw_and1 h
theorem yq{a:Expr}{f:DE->R Bool}(h:PT X a (tT X.K E f)):PW X (.BoolOp .Or [a] pos) (tT X.K E f):=pw_or1 h
theorem vU{a b:Expr}{rest:List Expr}{f k:DE->R Bool}(h:PT X a (tT X.K E f))(h2:PW X (.BoolOp .And (b::rest) pos) (tT X.K E k)):PW X (.BoolOp .And (a::b::rest) pos) (tT X.K E fun env=>(f env).bind fun t=>if t=true then k env else .ok false):=
 QI (pw_and h h2) fun σ H Q ⟨g,env,os,r,m⟩=>⟨g,env,os,r,m.bind.mono fun t _ q H' s=>by
  cases t with
  |true=>exact⟨g,env,os,r.same s,Good.mono (show Good E g.H₀ (k env) _ from q) fun b _ q2 H2 s2=>q2 H2 (s.trans s2)⟩
  |false=>exact q H' s⟩
theorem r9{a b:Expr}{rest:List Expr}{f k:DE->R Bool}(h:PT X a (tT X.K E f))(h2:PW X (.BoolOp .Or (b::rest) pos) (tT X.K E k)):PW X (.BoolOp .Or (a::b::rest) pos) (tT X.K E fun env=>(f env).bind fun t=>if t=true then .ok true else k env):=
 QI (pw_or h h2) fun σ H Q ⟨g,env,os,r,m⟩=>⟨g,env,os,r,m.bind.mono fun t _ q H' s=>by
  cases t with
  |false=>exact⟨g,env,os,r.same s,Good.mono (show Good E g.H₀ (k env) _ from q) fun b _ q2 H2 s2=>q2 H2 (s.trans s2)⟩
  |true=>exact q H' s⟩
theorem yr{e:Expr}{f:DE->R D}(h:PE X e (tB X.K E f))(he:∀whole,isTrue e X.env whole=(do let v<-whole;standAt e.pos;holding [v] (truthy v)):=by intro _;rfl):PT X e (tT X.K E fun env=>(f env).bind jj):=
 MF (L4 h he) fun σ H Q ⟨g,env,os,r,m⟩=>⟨g,env,os,r,m.bind.mono fun d _ q v H' s i=>by
  cases d with
  |bl b=>exact⟨b,i,q H' s⟩
  |non=>exact q.elim
  |lst _=>exact q.elim
  |int _=>exact q.elim
  |str _=>exact q.elim
  |exc _=>exact q.elim
  |fn _=>exact q.elim
  |tup _=>exact q.elim⟩
theorem U1{op}{a:Expr}{f:DE->R D}(h:PE X a (tD X.K E f)):PE X (.BoolOp op [a] pos) (tD X.K E f):=L6 h
theorem U3{a b:Expr}{rest:List Expr}{f k:DE->R D}(h:PE X a (tB X.K E f))(h2:PE X (.BoolOp .And (b::rest) pos) (tD X.K E k)):PE X (.BoolOp .And (a::b::rest) pos) (tD X.K E fun env=>(f env).bind fun x=>(jj x).bind fun t=>if t=true then k env else .ok (.bl false)):=
 imp (L7 h h2) fun σ H Q ⟨g,env,os,r,m⟩=>⟨g,env,os,r,m.bind.mono fun d _ q v H' s i=>by
  cases d with
  |bl b=>
   refine⟨b,i,?_⟩
   cases b with
   |true=>
    rw[if_pos rfl]
    exact⟨g,env,os,r.same s,Good.mono (show Good E g.H₀ (k env) _ from q) fun b _ q2 v2 H2 s2 i2=>q2 v2 H2 (s.trans s2) i2⟩
   |false=>
    rw[if_neg Bool.false_ne_true]
    exact q _ H' s rfl
  |non=>exact q.elim
  |lst _=>exact q.elim
  |int _=>exact q.elim
  |str _=>exact q.elim
  |exc _=>exact q.elim
  |fn _=>exact q.elim
  |tup _=>exact q.elim⟩
theorem XW{c a b:Expr}{fc:DE->R Bool}{fa fb:DE->R D}(hc:PT X c (tT X.K E fc))(ha:PE X a (tD X.K E fa))(hb:PE X b (tD X.K E fb)):PE X (.IfExp c a b pos) (tD X.K E fun env=>(fc env).bind fun t=>if t=true then fa env else fb env):=
 imp (DM hc ha hb) fun σ H Q ⟨g,env,os,r,m⟩=>⟨g,env,os,r,m.bind.mono fun t _ q H' s=>by
  cases t with
  |true=>
   rw[if_pos rfl]
   exact⟨g,env,os,r.same s,Good.mono (show Good E g.H₀ (fa env) _ from q) fun b _ q2 v2 H2 s2 i2=>q2 v2 H2 (s.trans s2) i2⟩
  |false=>
   rw[if_neg Bool.false_ne_true]
   exact⟨g,env,os,r.same s,Good.mono (show Good E g.H₀ (fb env) _ from q) fun b _ q2 v2 H2 s2 i2=>q2 v2 H2 (s.trans s2) i2⟩⟩
theorem cz:PA X [] (Ef X.K E fun _=>.ok []):=Eh aC fun σ H Q ⟨g,env,os,r,m⟩=>m [] H (aB.refl H) rfl
theorem bB:PA X [] (pH X.K E fun _=>.ok []):=Eh aC fun σ H Q ⟨g,env,os,r,m⟩=>m [] H (aB.refl H) rfl
theorem aG{e:Expr}{es:List Expr}{f:DE->R D}{k:DE->R (List D)}(ha:PE X e (tD X.K E f))(hr:PA X es (Ef X.K E k))(hs:starEach (e::es) X.env=(false,eval e X.env)::starEach es X.env:=by rfl):
  PA X (e::es) (Ef X.K E fun env=>(f env).bind fun x=>(k env).bind fun xs=>.ok (x::xs)):=
 Eh (au ha hr hs) fun σ H Q ⟨g,env,os,r,m⟩=>⟨g,env,os,r,m.bind.mono fun x _ m1 v H1 s1 i1=>⟨g,env,os,r.same s1,m1.bind.mono fun xs _ m2 vs H2 s2 i2=>m2 (v::vs) H2 (s1.trans s2) (.cons (i1.same s2) i2)⟩⟩
theorem aE{e:Expr}{es:List Expr}{f:DE->R D}{k:DE->R (List D)}(ha:PE X e (tB X.K E f))(hr:PA X es (pH X.K E k))(hs:starEach (e::es) X.env=(false,eval e X.env)::starEach es X.env:=by rfl):
  PA X (e::es) (pH X.K E fun env=>(f env).bind fun x=>(k env).bind fun xs=>.ok (x::xs)):=
 Eh (au ha hr hs) fun σ H Q ⟨g,env,os,r,m⟩=>⟨g,env,os,r,m.bind.mono fun x _ m1 v H1 s1 i1=>⟨g,env,os,r.same s1,m1.bind.mono fun xs _ m2 vs H2 s2 i2=>m2 (v::vs) H2 (s1.trans s2) (.cons (i1.same s2) i2)⟩⟩
def fit{α:Type}(xs:List α):R (List α):= @ite _ (xs.length<=sizeLine) (propDecidable _) (.ok xs) (.bad)
theorem Good.fit {α:Type}{H₀:Hp}{xs:List α}{p:List α->Prop}(h:Good E H₀ (fit xs) p):xs.length<=sizeLine/\p xs:=by
 unfold DL.fit at h
 split at h
 ·rename_i c
  exact⟨c,h⟩
 ·exact h.elim
theorem zX{K:PySem.W.Frag}{g:Gh}{env:DE}{σ:St}{H H1:Hp}{os:List Addr}{ds:List D}{vs:List V}{p:Addr}(r:Rel K g env σ H os)(s1:aB H H1)(hp:H1 p=none)(i:IsL K (g.P os) H1 ds vs):
  aB H (upd H1 p (.lst vs))/\H p=none/\upd H1 p (.lst vs) p=some (.lst vs)/\IsL K (g.P (p::os)) (upd H1 p (.lst vs)) ds vs:=
 ⟨s1.trans (aD hp _),s1.free hp,ak,IsL.ext ((r.same s1).apart (aD hp _) hp) _ _ i⟩
theorem qM{es:List Expr}{f:DE->R (List D)}(h:PA X es (Ef X.K E f)):PE X (.List es pos) (tF X.K E fun env=>(f env).bind fit):=
 imp (qD h) fun σ H Q ⟨g,env,os,r,m⟩=>⟨g,env,os,r,m.bind.mono fun ds _ m1 vs H1 s1 i1=>by
  obtain⟨z,q⟩:=m1.fit
  refine⟨by rw[i1.length];exact z,fun p hp=>?_⟩
  obtain⟨a1,a2,a3,a4⟩:=zX r s1 hp i1
  exact q p vs _ a1 a2 a3 a4⟩
theorem MH{es:List Expr}{x1}{f:DE->R (List D)}(h:PA X es (Ef X.K E f)):PE X (.Tuple es x1 pos) (tD X.K E fun env=>((f env).bind fit).bind fun ds=>.ok (.tup ds)):=
 imp (qC h) fun σ H Q ⟨g,env,os,r,m⟩=>⟨g,env,os,r,m.bind.bind.mono fun ds _ m1 vs H1 s1 i1=>by
  obtain⟨z,q⟩:=m1.fit
  refine⟨by rw[i1.length];exact z,fun p hp=>?_⟩
  exact q _ _ (s1.trans (aD hp _)) ⟨p,vs,rfl,.inl ⟨(r.same s1).fresh hp,.inl ak⟩,i1.same (aD hp _)⟩⟩
end
section
variable{X:Cx}{E:Str->Hp->Prop}{pos:Pos}
def QK(K:PySem.W.Frag):R2:=fun x y H Q=>∃l b xs zs,x=.ref l/\y=.ref b/\b7 K H l xs/\b7 K H b zs/\xs.length+zs.length<=sizeLine/\∀p,H p=none->Q (.ref p) (upd H p (.lst (xs++zs)))
theorem Ij:qA X (binaryOp .Add) (QK X.K):=by
 intro pins s σ H x y v u Q I rx ry h
 obtain⟨l,b,xs,zs,rfl,rfl,hH,hB,hz,q⟩:=h
 cases rx
 cases ry
 obtain⟨its,r,p1,z1⟩:=I.list hH
 obtain⟨its2,r2,p2,z2⟩:=I.list hB
 have hl:=r.length
 have hl2:=r2.length
 obtain⟨o1,n1,e1,c1,d1,t1⟩:=p1
 obtain⟨o2,n2,e2,c2,d2,t2⟩:=p2
 obtain⟨oc,od,ZT,Dv⟩:=o1
 obtain⟨ZU,ZV,U4,U5⟩:=o2
 have ZW:oc=_:=c1
 have ZX:od=_:=d1
 have ZY:ZT=_:=t1
 have ZZ:ZU=_:=c2
 have Z0:ZV=_:=d2
 have Z1:U4=_:=t2
 subst ZW ZX ZY ZZ Z0 Z1
 have ea:its.toArray++its2.toArray=(its++its2).toArray:=by simp
 refine concat_meets ⟨_,e1,rfl⟩ ⟨_,e2,rfl⟩ noFill_list_add seq_list_add PySem.F.slot_list_add PySem.F.entry_list_add (PySem.F.args_list_add_2 _ _) (list_addW l b its.toArray its2.toArray n1 n2 none none Dv U5 (by rw[size_toArray,size_toArray];omega)) ⟨e1,e2,?_⟩
 rw[ea]
 exact⟨.ref _,_,I.Qx (t':=s.toks) (r.append r2) (by rw[length_append];omega),rfl,q _ I.fresh⟩
theorem Ej{a b:Expr}{fa fb:DE->R (List D)}(ha:PE X a (tL X.K E fa))(hb:PE X b (tL X.K E fb)):PE X (.BinOp a .Add b pos) (tF X.K E fun env=>(fa env).bind fun x=>(fb env).bind fun y=>fit (x++y)):=
 imp (pC Ij ha hb) fun σ H Q ⟨g,env,os,r,m⟩=>⟨g,env,os,r,m.bind.mono fun x _ m1 a1 v1 H1 s1 q1 i1=>⟨g,env,os,r.same s1,m1.bind.mono fun y _ m2 a2 v2 H2 s2 q2 i2=>by
  obtain⟨z,q⟩:=m2.fit
  rw[length_append]at z
  refine⟨a1,a2,v1,v2,rfl,rfl,s2.seq q1,q2,by rw[i1.length,i2.length];exact z,fun p hp=>?_⟩
  obtain⟨b1,b2,b3,b4⟩:=zX r (s1.trans s2) hp ((i1.same s2).app i2)
  exact q p _ _ b1 b2 b3 b4⟩⟩
def tO(K:PySem.W.Frag)(E:Str->Hp->Prop)(f:DE->R (Option Int)):TO:=fun σ H Q=>∃g env os,Rel K g env σ H os/\Good E g.H₀ (f env) fun o=>∀H',aB H H'->Q o H'
theorem QL{e:Option Expr}{t t':TO}(h:L2.PO X e t)(w:∀σ H Q,t' σ H Q->t σ H Q):L2.PO X e t':=fun pins s σ H Q I q=>h pins s σ H Q I (w σ H Q q)
theorem MI:L2.PO X none (tO X.K E fun _=>.ok none):=QL AY fun σ H Q ⟨g,env,os,r,m⟩=>m H (aB.refl H)
def Ek:D->R (Option Int)
 |.int i=>.ok (some i)
 |_=>.bad
theorem wW{e:Expr}{f:DE->R D}(h:PE X e (tB X.K E f)):L2.PO X (some e) (tO X.K E fun env=>(f env).bind Ek):=QL (AZ h) fun σ H Q ⟨g,env,os,r,m⟩=>⟨g,env,os,r,m.bind.mono fun d _ q v H' s i=>by
 cases d with
 |int k=>exact⟨k,i,q H' s⟩
 |non=>exact q.elim
 |bl _=>exact q.elim
 |lst _=>exact q.elim
 |str _=>exact q.elim
 |exc _=>exact q.elim
 |fn _=>exact q.elim
 |tup _=>exact q.elim⟩
def cut{α:Type}(xs:List α)(lo hi:Option Int):List α:=(xs.drop (HT.tN xs.length 0 lo)).take (HT.tN xs.length xs.length hi-HT.tN xs.length 0 lo)
theorem IsL.cut {K:PySem.W.Frag}{P:Addr->Prop}{H:Hp}{ds:List D}{vs:List V}(h:IsL K P H ds vs)(lo hi:Option Int):IsL K P H (DL.cut ds lo hi) (vg vs lo hi):=by
 unfold DL.cut vg
 rw[h.length]
 exact(h.drop _).take _
theorem mH{e:Expr}{lo hi:Option Expr}{f:DE->R (List D)}{fl fh:DE->R (Option Int)}{p2:Pos}(he:PE X e (tL X.K E f))(hl:L2.PO X lo (tO X.K E fl))(hh:L2.PO X hi (tO X.K E fh)):
  PE X (.Subscript e (.Slice lo hi none p2) pos) (tF X.K E fun env=>(f env).bind fun x=>(fl env).bind fun l=>(fh env).bind fun h=>.ok (cut x l h)):=
 imp (yd A5 he hl hh) fun σ H Q ⟨g,env,os,r,m⟩=>⟨g,env,os,r,m.bind.mono fun x _ m1 a1 v1 H1 s1 q1 i1=>⟨g,env,os,r.same s1,m1.bind.mono fun l _ m2 H2 s2=>⟨g,env,os,r.same (s1.trans s2),m2.bind.mono fun h _ m3 H3 s3=>by
  refine⟨a1,v1,rfl,s3.seq (s2.seq q1),fun p hp=>?_⟩
  obtain⟨b1,b2,b3,b4⟩:=zX r (s1.trans (s2.trans s3)) hp (((i1.same s2).same s3).cut l h)
  exact m3 p _ _ b1 b2 b3 b4⟩⟩⟩
theorem IsL.iT {K:PySem.W.Frag}{P:Addr->Prop}{H:Hp}{ds:List D}{vs:List V}{i:Int}{d:D}(h:IsL K P H ds vs)(e:L2.iT ds i=some d):∃v,L2.iT vs i=some v/\Is K P H d v:=by
 unfold L2.iT at e⊢
 rw[h.length]
 cases q:pe ds.length i with
 |none=>rw[q]at e;cases e
 |some j=>
  rw[q]at e
  exact h.get e
def wX:D->D->R D
 |.lst xs,.int i=>R.of (iT xs i)
 |.tup xs,.int i=>R.of (iT xs i)
 |_,_=>.bad
theorem zY{a b:Expr}{fa fb:DE->R D}(ha:PE X a (tD X.K E fa))(hb:PE X b (tB X.K E fb))(hs:sL b:=by exact fun _ _=>rfl):PE X (.Subscript a b pos) (tD X.K E fun env=>(fa env).bind fun x=>(fb env).bind fun y=>wX x y):=
 imp (gB Mr ha hb hs) fun σ H Q ⟨g,env,os,r,m⟩=>⟨g,env,os,r,m.bind.mono fun x _ m1 v H1 s1 i1=>⟨g,env,os,r.same s1,m1.bind.mono fun y _ m2 w H2 s2 i2=>by
  unfold wX at m2
  split at m2
  ·rename_i xs i _ _
   obtain⟨d,e,q⟩:=m2.of
   have Ph:=i1.same s2
   obtain⟨a,vs,rfl,h1,h2⟩:=Ph
   obtain⟨z,e2,h3⟩:=IsL.iT h2 e
   exact .inl ⟨a,vs,i,z,rfl,i2,h1.sq,e2,q z H2 (s1.trans s2) h3⟩
  ·rename_i xs i _ _
   obtain⟨d,e,q⟩:=m2.of
   have Ph:=i1.same s2
   obtain⟨a,vs,rfl,h1,h2⟩:=Ph
   obtain⟨z,e2,h3⟩:=IsL.iT h2 e
   exact .inr (.inl ⟨a,vs,i,z,rfl,i2,h1.sq,e2,q z H2 (s1.trans s2) h3⟩)
  ·exact m2.elim⟩⟩
def vm(xs:List D):D->R D
 |.int i=>R.of (iT xs i)
 |_=>.bad
theorem xT{a b:Expr}{fa:DE->R (List D)}{fb:DE->R D}(ha:PE X a (tL X.K E fa))(hb:PE X b (tB X.K E fb))(hs:sL b:=by exact fun _ _=>rfl):PE X (.Subscript a b pos) (tD X.K E fun env=>(fa env).bind fun x=>(fb env).bind fun y=>vm x y):=
 imp (gB cO ha hb hs) fun σ H Q ⟨g,env,os,r,m⟩=>⟨g,env,os,r,m.bind.mono fun x _ m1 a1 v1 H1 s1 q1 i1=>⟨g,env,os,r.same s1,m1.bind.mono fun y _ m2 w H2 s2 i2=>by
  unfold vm at m2
  split at m2
  ·rename_i i _
   obtain⟨d,e,q⟩:=m2.of
   obtain⟨z,e2,h3⟩:=(i1.same s2).iT e
   exact⟨a1,v1,i,z,rfl,i2,s2.seq q1,e2,q z H2 (s1.trans s2) h3⟩
  ·exact m2.elim⟩⟩
def Ik(X:Cx)(r:List V->Hp->VK->Prop)(k:List D->Option D):Prop:=∀ds d,k ds=some d->∃z,toV d=some z/\∀H vs (Q:VK),IsL X.K Tr H ds vs->Q z H->r vs H Q
theorem iU{id:String}{x:Str}{p:Pos}{e:Expr}{es:List Expr}{f:DE->R (List D)}{r:List V->Hp->VK->Prop}{k:List D->Option D}(hc:oB X (.builtin id) r)(hk:Ik X r k)(hm:X.mg x=none)(hv:bootBuiltins x=some (.builtin id))(ha:PA X (e::es) (pH X.K E f))
  (hg:Gl X x:=by rfl)(hn:x≠"__name__":=by decide)(hdb:(x==("__debug__":Str))=false:=by decide)
  (he:starEach (e::es) X.env=(false,eval e X.env)::starEach es X.env:=by rfl)(hpl:(backTo pos (starEach es X.env)).any (·.1)=false:=by rfl):PE X (.Call (.Name x p) (e::es) [] pos) (tD X.K E fun env=>(f env).bind fun ds=>R.of (k ds)):=
 imp (g9 hc hg hm hv ha hn hdb he hpl) fun σ H Q ⟨g,env,os,r,m⟩=>⟨g,env,os,r,m.bind.mono fun ds _ m1 vs H1 s1 i1=>by
  obtain⟨d,e,q⟩:=m1.of
  obtain⟨z,hz,hk⟩:=hk ds d e
  exact hk H1 vs Q i1 (q z H1 s1 (Is.sc hz))⟩
theorem IsL.vo {K:PySem.W.Frag}{P:Addr->Prop}{H:Hp}{d:D}{vs:List V}(h:IsL K P H [d] vs):∃v,vs=[v]/\Is K P H d v:=by
 obtain⟨v,r,rfl,p,q⟩:=h
 have q':r=[]:=q
 subst q'
 exact⟨v,rfl,p⟩
theorem IsL.MJ {K:PySem.W.Frag}{P:Addr->Prop}{H:Hp}{d d2:D}{vs:List V}(h:IsL K P H [d,d2] vs):∃v w,vs=[v,w]/\Is K P H d v/\Is K P H d2 w:=by
 obtain⟨v,r,rfl,p,q⟩:=h
 obtain⟨w,rfl,p2⟩:=IsL.vo q
 exact⟨v,w,rfl,p,p2⟩
def oy:List D->Option D
 |[.lst xs]=>some (.int xs.length)
 |[.tup xs]=>some (.int xs.length)
 |[.str x]=> @ite _ (x.length<=sizeLine) (propDecidable _) (some (.int x.length)) (none)
 |_=>none
theorem eu:Ik X (fun xs H Q=>∃x n,xs=[x]/\Qj X.K x H n/\Q (.int n) H) oy:=fun ds d e=>by
 unfold oy at e
 split at e
 ·rename_i xs
  cases e
  refine⟨_,rfl,fun H vs Q i q=>?_⟩
  obtain⟨v,rfl,a,ws,rfl,h1,h2⟩:=IsL.vo i
  exact⟨_,_,rfl,.inl ⟨ws,h1.sq,(IsL.length h2).symm⟩,q⟩
 ·rename_i xs
  cases e
  refine⟨_,rfl,fun H vs Q i q=>?_⟩
  obtain⟨v,rfl,a,ws,rfl,h1,h2⟩:=IsL.vo i
  exact⟨_,_,rfl,.inr ⟨ws,h1.sq,(IsL.length h2).symm⟩,q⟩
 ·split at e
  ·rename_i x c
   cases e
   refine⟨_,rfl,fun H vs Q i q=>?_⟩
   obtain⟨v,rfl,i2⟩:=IsL.vo i
   have i':v=.str x:=i2
   subst i'
   exact⟨_,_,rfl,⟨c,rfl⟩,q⟩
  ·cases e
 ·cases e
def CM:List D->Option D
 |[.int i]=>some (.int (if i<0 then-i else i))
 |_=>none
theorem wY:Ik X (fun xs H Q=>∃i,xs=[.int i]/\Q (.int (if i<0 then-i else i)) H) CM:=fun ds d e=>by
 unfold CM at e
 split at e
 ·rename_i i
  cases e
  refine⟨_,rfl,fun H vs Q h q=>?_⟩
  obtain⟨v,rfl,h1⟩:=IsL.vo h
  have h':v=.int i:=h1
  subst h'
  exact⟨i,rfl,q⟩
 ·cases e
def Bb:List D->Option D
 |[.int i,.int j]=>some (.int (if j>i then j else i))
 |_=>none
theorem El:Ik X (fun xs H Q=>∃i j,xs=[.int i,.int j]/\Q (.int (if j>i then j else i)) H) Bb:=fun ds d e=>by
 unfold Bb at e
 split at e
 ·rename_i i j
  cases e
  refine⟨_,rfl,fun H vs Q h q=>?_⟩
  obtain⟨v,w,rfl,h1,h2⟩:=IsL.MJ h
  have h':v=.int i:=h1
  have U6:w=.int j:=h2
  subst h' U6
  exact⟨i,j,rfl,q⟩
 ·cases e
theorem J2{p:Pos}{a:Expr}{f:DE->R (List D)}(hm:X.mg "list"=none)(ha:PE X a (tL X.K E f))(hg:Gl X "list":=by rfl)
  (he:starEach [a] X.env=(false,eval a X.env)::starEach [] X.env:=by rfl)(hpl:(backTo pos (starEach [] X.env)).any (·.1)=false:=by rfl):PE X (.Call (.Name "list" p) [a] [] pos) (tF X.K E f):=
 imp (nP kY hg hm (by decide +kernel) (au ha aC he) (by decide) (by decide) he hpl) fun σ H Q ⟨g,env,os,r,m⟩=>⟨g,env,os,r,m.mono fun x _ m1 a1 v1 H1 s1 q1 i1=>
  ⟨a1,v1,rfl,.inl q1,fun p hp=>by
   obtain⟨b1,b2,b3,b4⟩:=zX r s1 hp i1
   exact m1 p _ _ b1 b2 b3 b4⟩⟩
def Bc(K:PySem.W.Frag)(xc:Str->Value)(m:List D->R D):Sp:=fun vs H Q E=>∃P ds,IsL K P H ds vs/\(match m ds with
 |.ok d=>∀v H',aB H H'->Is K (fun a=>P a\/H a=none) H' d v->Q v H'
 |.err c=>∀H',aB H H'->E (xc c) none H'
 |.bad=>False)
def He(K:PySem.W.Frag)(xc:Str->Value)(m:List D->R (List D)):Sp:=fun vs H Q E=>∃P ds,IsL K P H ds vs/\(match m ds with
 |.ok xs=>∀a ws H',aB H H'->H a=none->H' a=some (.lst ws)->IsL K (fun b=>(P b\/H b=none)/\b≠a) H' xs ws->Q (.ref a) H'
 |.err c=>∀H',aB H H'->E (xc c) none H'
 |.bad=>False)
def EX(xc:Str->Value)(E:Str->Hp->Prop):XK:=fun c _ H'=>∃n,c=xc n/\E n H'
theorem jN{E:XK}:Passes jL X E:=fun _ _ _ _ _ _ _ h=>h.elim
variable{CX:Du}{k:Nat}{fa:Addr}{fd:FuncData}{ps:List Str}{xc:Str->Value}{x:Str}{p:Pos}{e:Expr}{es:List Expr}{f:DE->R (List D)}
theorem fD{m:List D->R D}(F:bQ X.prog X.w X.K X.mg X.base CX k fa fd ps (Bc X.K xc m))(hm:X.mg x=some (.ref fa))(hk:keepIn X.K (.ref fa)=true)(hb:Binds X.K fd ps [])(hr:aX k X.A)(hx:Passes CX X (EX xc E))
  (ha:PA X (e::es) (Ef X.K E f))(hg:Gl X x:=by rfl)(hdb:(x==("__debug__":Str))=false:=by decide)(he:starEach (e::es) X.env=(false,eval e X.env)::starEach es X.env:=by rfl)(hpl:(backTo pos (starEach es X.env)).any (·.1)=false:=by rfl):
  PE X (.Call (.Name x p) (e::es) [] pos) (tD X.K E fun env=>(f env).bind m):=
 imp (cY F hr hg hm hk hb .nil hx ha hdb he hpl) fun σ H Q ⟨g,env,os,r,q⟩=>⟨g,env,os,r,q.bind.mono fun ds _ q1 vs H1 s1 i1=>by
  show Bc X.K xc m (vs++[]) H1 Q _
  rw[append_nil]
  refine⟨g.P os,ds,i1,?_⟩
  cases em:m ds with
  |ok d=>
   rw[em]at q1
   intro v H' s' i'
   exact q1 v H' (s1.trans s') (Is.ext ⟨fun a o pa _=>pa.elim (fun z=>z) fun z=>(r.same s1).fresh z,fun _ _ _ z=>z⟩ _ _ i')
  |err c=>
   rw[em]at q1
   intro H' s'
   exact⟨c,rfl,q1 H' (r.ext.trans (s1.trans s'))⟩
  |bad=>rw[em]at q1;exact q1⟩
theorem fB{m:List D->R D}(F:bQ X.prog X.w X.K X.mg X.base CX k fa fd ps (Bc X.K xc m))(hsc:∀ds d,m ds=.ok d->∃z,toV d=some z)(hm:X.mg x=some (.ref fa))(hk:keepIn X.K (.ref fa)=true)(hb:Binds X.K fd ps [])(hr:aX k X.A)(hx:Passes CX X (EX xc E))
  (ha:PA X (e::es) (pH X.K E f))(hg:Gl X x:=by rfl)(hdb:(x==("__debug__":Str))=false:=by decide)(he:starEach (e::es) X.env=(false,eval e X.env)::starEach es X.env:=by rfl)(hpl:(backTo pos (starEach es X.env)).any (·.1)=false:=by rfl):
  PE X (.Call (.Name x p) (e::es) [] pos) (tD X.K E fun env=>(f env).bind m):=
 imp (cY F hr hg hm hk hb .nil hx ha hdb he hpl) fun σ H Q ⟨g,env,os,r,q⟩=>⟨g,env,os,r,q.bind.mono fun ds _ q1 vs H1 s1 i1=>by
  show Bc X.K xc m (vs++[]) H1 Q _
  rw[append_nil]
  refine⟨Tr,ds,i1,?_⟩
  cases em:m ds with
  |ok d=>
   rw[em]at q1
   intro v H' s' i'
   obtain⟨z,hz⟩:=hsc ds d em
   have e2:=Is.JY hz i'
   subst e2
   exact q1 _ H' (s1.trans s') (Is.sc hz)
  |err c=>
   rw[em]at q1
   intro H' s'
   exact⟨c,rfl,q1 H' (r.ext.trans (s1.trans s'))⟩
  |bad=>rw[em]at q1;exact q1⟩
theorem fF{m:List D->R (List D)}(F:bQ X.prog X.w X.K X.mg X.base CX k fa fd ps (He X.K xc m))(hm:X.mg x=some (.ref fa))(hk:keepIn X.K (.ref fa)=true)(hb:Binds X.K fd ps [])(hr:aX k X.A)(hx:Passes CX X (EX xc E))
  (ha:PA X (e::es) (Ef X.K E f))(hg:Gl X x:=by rfl)(hdb:(x==("__debug__":Str))=false:=by decide)(he:starEach (e::es) X.env=(false,eval e X.env)::starEach es X.env:=by rfl)(hpl:(backTo pos (starEach es X.env)).any (·.1)=false:=by rfl):
  PE X (.Call (.Name x p) (e::es) [] pos) (tF X.K E fun env=>(f env).bind m):=
 imp (cY F hr hg hm hk hb .nil hx ha hdb he hpl) fun σ H Q ⟨g,env,os,r,q⟩=>⟨g,env,os,r,q.bind.mono fun ds _ q1 vs H1 s1 i1=>by
  show He X.K xc m (vs++[]) H1 Q _
  rw[append_nil]
  refine⟨g.P os,ds,i1,?_⟩
  cases em:m ds with
  |ok d=>
   rw[em]at q1
   intro a ws H' s' hn hH i'
   exact q1 a ws H' (s1.trans s') (s1.free hn) hH (IsL.ext ⟨fun b o pb _=>by
    have z:g.P os b:=pb.1.elim (fun z=>z) fun z=>(r.same s1).fresh z
    exact⟨z.1,fun hm=>(mem_cons.mp hm).elim pb.2 z.2⟩,fun _ _ _ z=>z⟩ _ _ i')
  |err c=>
   rw[em]at q1
   intro H' s'
   exact⟨c,rfl,q1 H' (r.ext.trans (s1.trans s'))⟩
  |bad=>rw[em]at q1;exact q1⟩
theorem XX{K:PySem.W.Frag}{P P':Addr->Prop}{H:Hp}:∀{ds:List D}{vs:List V},(∀d∈ds,∃z,toV d=some z)->IsL K P H ds vs->IsL K P' H ds vs
 |[],_,_,h=>h
 |d::ds,_,hs,⟨v,r,e,p,q⟩=>by
  obtain⟨z,hz⟩:=hs d (by simp)
  have e2:=Is.JY hz p
  exact⟨v,r,e,by rw[e2];exact Is.sc hz,XX (fun d hd=>hs d (by simp[hd])) q⟩
theorem Z2{m:List D->R (List D)}(F:bQ X.prog X.w X.K X.mg X.base CX k fa fd ps (He X.K xc m))(hsc:∀ds xs,m ds=.ok xs->∀d∈xs,∃z,toV d=some z)(hm:X.mg x=some (.ref fa))(hk:keepIn X.K (.ref fa)=true)(hb:Binds X.K fd ps [])(hr:aX k X.A)(hx:Passes CX X (EX xc E))
  (ha:PA X (e::es) (pH X.K E f))(hg:Gl X x:=by rfl)(hdb:(x==("__debug__":Str))=false:=by decide)(he:starEach (e::es) X.env=(false,eval e X.env)::starEach es X.env:=by rfl)(hpl:(backTo pos (starEach es X.env)).any (·.1)=false:=by rfl):
  PE X (.Call (.Name x p) (e::es) [] pos) (tF X.K E fun env=>(f env).bind m):=
 imp (cY F hr hg hm hk hb .nil hx ha hdb he hpl) fun σ H Q ⟨g,env,os,r,q⟩=>⟨g,env,os,r,q.bind.mono fun ds _ q1 vs H1 s1 i1=>by
  show He X.K xc m (vs++[]) H1 Q _
  rw[append_nil]
  refine⟨Tr,ds,i1,?_⟩
  cases em:m ds with
  |ok d=>
   rw[em]at q1
   intro a ws H' s' hn hH i'
   exact q1 a ws H' (s1.trans s') (s1.free hn) hH (XX (hsc ds d em) i')
  |err c=>
   rw[em]at q1
   intro H' s'
   exact⟨c,rfl,q1 H' (r.ext.trans (s1.trans s'))⟩
  |bad=>rw[em]at q1;exact q1⟩
end
def aW(r:R Out)(k:DE->R Out):R Out:=r.bind fun o=>match o with
 |.nx e=>k e
 |o=>.ok o
def dO(b:D->DE->R Out):List D->DE->R Out
 |[],e=>.ok (.nx e)
 |x::xs,e=>(b x e).bind fun o=>match o with
  |.nx e'=>dO b xs e'
  |.ct e'=>dO b xs e'
  |.bk e'=>.ok (.nx e')
  |.rt d=>.ok (.rt d)
  |.ph ys=>.ok (.ph ys)
  |.Ig ys=>.ok (.Ig ys)
  |.Hc ys=>.ok (.Hc ys)
  |.Ie ys=>.ok (.Ie ys)
  |.Ba ys=>.ok (.Ba ys)
section
variable{X:Cx}{E:Str->Hp->Prop}{pos:Pos}
theorem mf:oV X [] (tS X.K E fun e=>.ok (.nx e)):=JZ jJ fun De σ H ⟨g,env,os,r,m⟩=>m σ H os r (.refl H os)
theorem aJ{st:Stmt}{rest:List Stmt}{f k:DE->R Out}(h1:PS X st (tS X.K E f))(h2:oV X rest (tS X.K E k)):oV X (st::rest) (tS X.K E fun e=>aW (f e) k):=
 JZ (az h1 h2) fun De σ H ⟨g,env,os,r,m⟩=>⟨g,env,os,r,(show Good E g.H₀ ((f env).bind _) _ from m).bind.mono fun o _ q=>by
  cases o with
  |nx e'=>exact fun σ' H' iA r' z=>⟨g,e',iA,r',Good.mono (show Good E g.H₀ (k e') _ from q) fun o _ q=>gC.step z q⟩
  |bk e'=>exact q
  |ct e'=>exact q
  |rt d=>exact q
  |ph xs=>exact q
  |Ig xs=>exact q
  |Hc xs=>exact q
  |Ie xs=>exact q
  |Ba xs=>exact q⟩
theorem bc{st:Stmt}{f:DE->R Out}(h1:PS X st (tS X.K E f)):oV X [st] (tS X.K E f):=bE h1
theorem QM{g:Gh}{os:List Addr}{K:PySem.W.Frag}{H:Hp}{d:D}{v:V}(h:Is K (g.P os) H d v):Is K (g.P []) H d v:=Is.ext ⟨fun _ _ p _=>⟨p.1,by simp⟩,fun _ _ _ q=>q⟩ _ _ h
theorem gy{e:Expr}{f:DE->R D}(he:PE X e (tD X.K E f)):PS X (.Return (some e) pos) (tS X.K E fun env=>(f env).bind fun d=>.ok (.rt d)):=
 ou (j7 he) fun De σ H ⟨g,env,os,r,m⟩=>⟨g,env,os,r,m.bind.mono fun d _ q v H' s i=>q v H' (r.ext.trans s) (QM i)⟩
theorem lT{e:Expr}{f:DE->R (List D)}(he:PE X e (tF X.K E f)):PS X (.Return (some e) pos) (tS X.K E fun env=>(f env).bind fun d=>.ok (.ph d)):=
 ou (j7 he) fun De σ H ⟨g,env,os,r,m⟩=>⟨g,env,os,r,m.bind.mono fun xs _ q a vs H' s hn hH i=>
  q a vs H' (r.ext.trans s) (r.ext.free hn) hH (IsL.ext ⟨fun b o p _=>⟨p.1,fun z=>p.2 (by simp at z;simp[z])⟩,fun _ _ _ q=>q⟩ _ _ i)⟩
def ownAt(i:Nat)(env:DE):R (List D):=match env[i]? with
 |some (.own xs)=>.ok xs
 |_=>.bad
theorem Good.own {H₀:Hp}{i:Nat}{env:DE}{p:List D->Prop}(h:Good E H₀ (ownAt i env) p):∃xs,env[i]?=some (.own xs)/\p xs:=by
 unfold ownAt at h
 split at h
 ·rename_i xs e
  exact⟨xs,e,h⟩
 ·exact h.elim
theorem Em(i:Nat){x:Str}{p:Pos}(hN:X.N[i]?=some x:=by rfl)(hv:vI X.env.scope x:=by first|exact Or.inl rfl|exact Or.inr (Or.inl rfl)|exact Or.inr (Or.inr rfl))(hd:(x==("__debug__":Str))=false:=by decide)
  (hcd:(x==("__classdict__":Str))=false:=by decide):PS X (.Return (some (.Name x p)) pos) (tS X.K E fun env=>(ownAt i env).bind fun xs=>.ok (.ph xs)):=
 ou (j7 (iB hN hv hd hcd)) fun De σ H ⟨g,env,os,r,m⟩=>by
  obtain⟨xs,e,q⟩:=m.bind.own
  obtain⟨a,vs,h1,h2,h3,h4⟩:=r.own i xs e
  exact⟨.ref a,h1,q a vs H r.ext (r.new a h2).1 h3 (IsL.ext ⟨fun b o p _=>⟨p.1,fun z=>p.2 (by simp at z;rw[z];exact h2)⟩,fun _ _ _ q=>q⟩ _ _ h4)⟩
theorem wZ{c:Expr}{a b:List Stmt}{fc:DE->R Bool}{fa fb:DE->R Out}(hc:PT X c (tT X.K E fc))(ha:oV X a (tS X.K E fa))(hb:oV X b (tS X.K E fb)):PS X (.If c a b pos) (tS X.K E fun env=>(fc env).bind fun t=>if t=true then fa env else fb env):=
 ou (rJ hc ha hb) fun De σ H ⟨g,env,os,r,m⟩=>⟨g,env,os,r,m.bind.mono fun t _ q H' s=>by
  cases t with
  |true=>
   rw[if_pos rfl]
   exact⟨g,env,os,r.same s,Good.mono (show Good E g.H₀ (fa env) _ from q) fun o _ q2=>gC.step (.same s os) q2⟩
  |false=>
   rw[if_neg Bool.false_ne_true]
   exact⟨g,env,os,r.same s,Good.mono (show Good E g.H₀ (fb env) _ from q) fun o _ q2=>gC.step (.same s os) q2⟩⟩
theorem fQ(i:Nat){x:Str}{e:Expr}{f:DE->R D}{pos':Pos}(he:PE X e (tD X.K E f))(hN:X.N.Nodup)(hi:X.N[i]?=some x:=by rfl)(hx:Loc X.env.scope x:=by first|exact Or.inl rfl|exact Or.inr rfl)(hs:swapsWith e (some (.Name x pos')) pos.line X.env=pure false:=by rfl)
  (hf:X.fn x=true\/X.env.scope.names.lookup x=some .local:=by first|exact .inl rfl|exact .inr rfl|assumption):PS X (.Assign [.Name x pos'] e pos) (tS X.K E fun env=>(f env).bind fun d=>.ok (.nx (env.set i (.val d)))):=
 ou (cD hN hi hx he hs hf) fun De σ H ⟨g,env,os,r,m⟩=>⟨g,env,os,r,m.bind.mono fun d _ q v H' s h=>q _ H' os ((r.same s).set i h) (.same s os)⟩
theorem qI.new {H H':Hp}{os:List Addr}{a:Addr}(s:aB H H')(hn:H a=none):qI H os H' (a::os):=
 ⟨fun b hb=>(mem_cons.mp hb).elim (fun z=>.inr (by rw[z];exact hn)) .inl,fun _ h=>s.free h,fun _ _ _ h=>s _ _ h⟩
theorem vV(i:Nat){x:Str}{e:Expr}{f:DE->R (List D)}{pos':Pos}(he:PE X e (tF X.K E f))(hN:X.N.Nodup)(hi:X.N[i]?=some x:=by rfl)(hx:Loc X.env.scope x:=by first|exact Or.inl rfl|exact Or.inr rfl)(hs:swapsWith e (some (.Name x pos')) pos.line X.env=pure false:=by rfl)
  (hf:X.fn x=true\/X.env.scope.names.lookup x=some .local:=by first|exact .inl rfl|exact .inr rfl|assumption):PS X (.Assign [.Name x pos'] e pos) (tS X.K E fun env=>(f env).bind fun d=>.ok (.nx (env.set i (.own d)))):=
 ou (cD hN hi hx he hs hf) fun De σ H ⟨g,env,os,r,m⟩=>⟨g,env,os,r,m.bind.mono fun d _ q a vs H' s hn hH h=>q _ H' (a::os) (r.UU s i hn hH h) (.new s hn)⟩
theorem qI.mut {H:Hp}{os:List Addr}{a:Addr}{o:HO}(ha:a∈os):qI H os (upd H a o) os:=
 ⟨fun b hb=>.inl hb,fun b h=>by
  by_cases z:b=a
  ·subst z;rw[ak]at h;cases h
  ·rw[ah z]at h;exact h,fun b u hb h=>by rw[ah (fun z=>hb (by rw[z];exact ha))];exact h⟩
def u9(i:Nat)(env:DE):DE:=match env[i]? with
 |some (.own xs)=>env.set i (.val (.lst xs))
 |_=>env
theorem U7(i:Nat){x:Str}{e:Expr}{f:DE->R D}{p apos aZ:Pos}(he:PE X e (tD X.K E f))(hN:X.N[i]?=some x:=by rfl)(hv:vI X.env.scope x:=by first|exact Or.inl rfl|exact Or.inr (Or.inl rfl)|exact Or.inr (Or.inr rfl))(hd:(x==("__debug__":Str))=false:=by decide)
  (hcd:(x==("__classdict__":Str))=false:=by decide)
  (hbase:attributeBase (.Name x p) "append" X.env (eval (.Name x p) X.env)=eval (.Name x p) X.env:=by rfl)
  (hfew:((backTo aZ (starEach [e] X.env)).all (fun x=> !x.1)&&(backToKw aZ (keywordEach [] X.env)).all (fun x=>x.1.isSome)
   &&decide ([e].length+([]:List Keyword).length+(if([]:List Keyword).isEmpty then 0 else 1)<30))=true:=by rfl)
  (hline:(apos.endLine==aZ.line)=true:=by rfl)(hst:starEach [e] X.env=(false,eval e X.env)::starEach [] X.env:=by rfl)(hplain:(backTo aZ (starEach [] X.env)).any (·.1)=false:=by rfl)
  (hs:swapsWith (.Call (.Attribute (.Name x p) "append" apos) [e] [] aZ) none pos.line X.env=pure false:=by rfl):
  PS X (.Expr (.Call (.Attribute (.Name x p) "append" apos) [e] [] aZ) pos) (tS X.K E fun env=>(ownAt i env).bind fun xs=>(f env).bind fun d=> @ite _ (xs.length<sizeLine) (propDecidable _) (.ok (.nx (env.set i (.own (xs++[d]))))) (.bad)):=
 ou (fM (rM plainAttrs_list PySem.F.slot_list_append PySem.F.type_list_append cV (iB hN hv hd hcd) (au he aC hst) hbase hfew hline hst hplain) hs) fun De σ H ⟨g,env,os,r,m⟩=>by
  obtain⟨xs,e,m1⟩:=m.bind.own
  obtain⟨a,vs,h1,h2,h3,h4⟩:=r.own i xs e
  refine⟨.ref a,h1,.inl ⟨rfl,vs,b7.of h3⟩,g,env,os,r,m1.bind.mono fun d _ q v H' s hi=>?_⟩
  split at q
  ·rename_i c
   refine⟨a,vs,v,rfl,rfl,s _ _ h3,by rw[h4.length];exact c,?_⟩
   exact q σ _ os ((r.same s).mut e h1 h2 ((h4.same s).app (.one hi))) ((qI.same s os).trans (.mut h2))
  ·exact q.elim
theorem U8(i:Nat){x:Str}{p apos aZ:Pos}(hN:X.N[i]?=some x:=by rfl)(hv:vI X.env.scope x:=by first|exact Or.inl rfl|exact Or.inr (Or.inl rfl)|exact Or.inr (Or.inr rfl))(hd:(x==("__debug__":Str))=false:=by decide)
  (hcd:(x==("__classdict__":Str))=false:=by decide)
  (hbase:attributeBase (.Name x p) "pop" X.env (eval (.Name x p) X.env)=eval (.Name x p) X.env:=by rfl)(hline:(apos.endLine==aZ.line)=true:=by rfl)
  (hs:swapsWith (.Call (.Attribute (.Name x p) "pop" apos) [] [] aZ) none pos.line X.env=pure false:=by rfl):
  PS X (.Expr (.Call (.Attribute (.Name x p) "pop" apos) [] [] aZ) pos) (tS X.K E fun env=>(ownAt i env).bind fun xs=>if 0<xs.length then .ok (.nx (env.set i (.own xs.dropLast)))else .bad):=
 ou (fM (wR plainAttrs_list slot_list_pop type_list_pop D7 (iB hN hv hd hcd) hbase hline) hs) fun De σ H ⟨g,env,os,r,m⟩=>by
  obtain⟨xs,e,m1⟩:=m.bind.own
  obtain⟨a,vs,h1,h2,h3,h4⟩:=r.own i xs e
  split at m1
  ·rename_i c
   have hl:=h4.length
   refine⟨.ref a,h1,.inl ⟨rfl,vs,b7.of h3⟩,a,vs,vs[vs.length-1],rfl,rfl,h3,by rw[getElem?_eq_getElem (by omega)],?_⟩
   refine m1 σ _ os (r.mut e h1 h2 ?_) (.mut h2)
   rw[dropLast_eq_take,dropLast_eq_take,hl]
   exact h4.take _
  ·exact m1.elim
theorem MK(i:Nat){x:Str}{ek e:Expr}{fk f:DE->R D}{p tp:Pos}(hk:PE X ek (tB X.K E fk))(he:PE X e (tD X.K E f))(hN:X.N[i]?=some x:=by rfl)(hv:vI X.env.scope x:=by first|exact Or.inl rfl|exact Or.inr (Or.inl rfl)|exact Or.inr (Or.inr rfl))(hd:(x==("__debug__":Str))=false:=by decide)
  (hcd:(x==("__classdict__":Str))=false:=by decide)
  (ha:∀v,assign (.Subscript (.Name x p) ek tp) X.env v=(do
   let ov<-holding [v] (eval (.Name x p) X.env)
   let iv<-holding [v,ov] (eval ek X.env)
   standAt tp
   holding [v,ov,iv] (setItem ov iv v)
   release [v,ov,iv] []):=by intro _;rfl)
  (hs:swapsWithSole [.Subscript (.Name x p) ek tp] e pos.line X.env=pure false:=by rfl)(hw:swappedStores [.Subscript (.Name x p) ek tp] e X.env=pure none:=by rfl)
  (h1:(assignEach [.Subscript (.Name x p) ek tp] X.env).map (·.2)=[assign (.Subscript (.Name x p) ek tp) X.env]:=by rfl):
  PS X (.Assign [.Subscript (.Name x p) ek tp] e pos) (tS X.K E fun env=>(f env).bind fun d=>(ownAt i env).bind fun xs=>(fk env).bind fun kd=>match kd with
   |.int j=>(match pe xs.length j with
    |some n=>.ok (.nx (env.set i (.own (xs.set n d))))
    |none=>.bad)
   |_=>.bad):=
 ou (zH he (zG (iB hN hv hd hcd) hk set_list ha) hs hw h1) fun De σ H ⟨g,env,os,r,m⟩=>⟨g,env,os,r,m.bind.mono fun d _ m1 v H1 s1 i1=>by
  obtain⟨xs,e,m2⟩:=m1.bind.own
  obtain⟨a,vs,h1,h2,h3,h4⟩:=(r.same s1).own i xs e
  refine⟨.ref a,h1,g,env,os,r.same s1,m2.bind.mono fun kd _ m3 w H2 s2 i2=>?_⟩
  cases kd with
  |int j=>
   cases q:pe xs.length j with
   |none=>
    simp only [q]at m3
    exact m3.elim
   |some n=>
    simp only [q]at m3
    refine⟨a,vs,j,n,rfl,i2,s2 _ _ h3,by rw[h4.length];exact q,?_⟩
    exact m3 σ _ os ((r.same (s1.trans s2)).mut e h1 h2 ((h4.same s2).set n (i1.same s2))) ((qI.same (s1.trans s2) os).trans (.mut h2))
  |non=>exact m3.elim
  |bl _=>exact m3.elim
  |lst _=>exact m3.elim
  |str _=>exact m3.elim
  |exc _=>exact m3.elim
  |fn _=>exact m3.elim
  |tup _=>exact m3.elim⟩
theorem U9(i:Nat){x:Str}{e:Expr}{op:Operator}{h:Int->Int->Int}{f:DE->R D}{pos':Pos}(ho:Pe X op (P7 h))(he:PE X e (tB X.K E f))(hN:X.N.Nodup)(hi:X.N[i]?=some x:=by rfl)(hx:Loc X.env.scope x:=by first|exact Or.inl rfl|exact Or.inr rfl)
  (hf:X.fn x=true\/X.env.scope.names.lookup x=some .local:=by first|exact .inl rfl|exact .inr rfl|assumption):
  PS X (.AugAssign (.Name x pos') op e pos) (tS X.K E fun env=>(bY i env).bind fun a=>(f env).bind fun b=>match a,b with
   |.int u,.int w=>.ok (.nx (env.set i (.val (.int (h u w)))))
   |_,_=>.bad):=
 ou (zI hN hi hx he ho hf) fun De σ H ⟨g,env,os,r,m⟩=>by
  dsimp only [bY]at m
  cases q:env[i]? with
  |none=>rw[q]at m;exact m.elim
  |some sl=>
   cases sl with
   |no=>rw[q]at m;exact m.elim
   |raw _=>rw[q]at m;exact m.elim
   |deep _=>rw[q]at m;exact m.elim
   |own _=>rw[q]at m;exact m.elim
   |val a=>
    rw[q]at m
    obtain⟨v,h1,h2⟩:=r.val i a q
    have m':Good E g.H₀ ((f env).bind _) _:=m
    refine⟨v,h1,g,env,os,r,m'.bind.mono fun b _ m2 w H' s i2=>?_⟩
    cases a with
    |int u=>
     cases b with
     |int w'=>exact⟨u,w',h2,i2,m2 _ H' os ((r.same s).set i rfl) (.same s os)⟩
     |non=>exact m2.elim
     |bl _=>exact m2.elim
     |lst _=>exact m2.elim
     |str _=>exact m2.elim
     |exc _=>exact m2.elim
     |fn _=>exact m2.elim
     |tup _=>exact m2.elim
    |non=>exact m2.elim
    |bl _=>exact m2.elim
    |lst _=>exact m2.elim
    |str _=>exact m2.elim
    |exc _=>exact m2.elim
    |fn _=>exact m2.elim
    |tup _=>exact m2.elim
def Yl(K:PySem.W.Frag)(P:Addr->Prop)(J:It)(H:Hp)(xs:List D):Prop:=
 ∀(i:Nat)(H':Hp)(P':Addr->Prop),Ext P P' H H'->(∀d,xs[i]?=some d->J.go i H'/\∀x ML,J.P8 i H' x ML->aB H' ML/\Is K (fun a=>P' a\/H' a=none) ML d x)/\(xs.length=i->J.stop i H')
def tI(K:PySem.W.Frag)(E:Str->Hp->Prop)(f:DE->R (List D)):TI:=fun σ H Rr=>∃g env os,Rel K g env σ H os/\Good E g.H₀ (f env) fun xs=>∀J H1,aB H H1->Yl K (g.P os) J H1 xs->Rr J H1
theorem En{tg e:Expr}{t t':TI}(h:PI X tg e t)(w:∀σ H Q,t' σ H Q->t σ H Q):PI X tg e t':=fun pins s σ H Q I q=>h pins s σ H Q I (w σ H Q q)
def Va(K:PySem.W.Frag)(P:Addr->Prop)(J:It)(H:Hp)(xs:List D):Prop:=
 ∀(i:Nat)(H':Hp)(P':Addr->Prop),aB H H'->Ext P P' H H'->(∀d,xs[i]?=some d->J.go i H'/\∀x ML,J.P8 i H' x ML->aB H' ML/\Is K (fun a=>P' a\/H' a=none) ML d x)/\(xs.length=i->J.stop i H')
def Pj(K:PySem.W.Frag)(E:Str->Hp->Prop)(f:DE->R (List D)):TI:=fun σ H Rr=>∃g env os,Rel K g env σ H os/\Good E g.H₀ (f env) fun xs=>∀J H1,aB H H1->Va K (g.P os) J H1 xs->Rr J H1
theorem tW{tg e:Expr}{f:DE->R (List D)}(h:PI X tg e (tI X.K E f)):PI X tg e (Pj X.K E f):=En h fun σ H Q ⟨g,env,os,r,m⟩=>⟨g,env,os,r,m.mono fun xs _ q J H1 s1 yl=>q J H1 s1 fun i H' P' _ ex=>yl i H' P' ex⟩
theorem Z3{tg e:Expr}{f:DE->R (List D)}(he:PE X e (tL X.K E f)):PI X tg e (Pj X.K E f):=
 En (sI he) fun σ H Q ⟨g,env,os,r,m⟩=>⟨g,env,os,r,m.mono fun xs _ q a vs H' s h1 h2=>by
  refine⟨a,rfl,⟨vs,h1⟩,q _ H' s fun j H2 P' ss ex=>⟨fun d hd=>?_,fun hj=>?_⟩⟩
  ·obtain⟨x,hx,hi⟩:=(IsL.ext ex _ _ h2).get hd
   refine⟨⟨vs,x,ss.seq h1,hx⟩,fun y H3 hy=>?_⟩
   obtain⟨rfl,hy⟩:=hy
   have e2:=hy vs (ss.seq h1)
   rw[hx]at e2
   cases e2
   exact⟨aB.refl _,Is.ext ⟨fun _ _ p _=>.inl p,fun _ _ _ z=>z⟩ _ _ hi⟩
  ·exact⟨vs,ss.seq h1,by rw[IsL.length h2];exact le_of_eq hj⟩⟩
theorem iL{tg e:Expr}{f:DE->R D}(he:PE X e (tD X.K E f)):PI X tg e (tI X.K E fun env=>(f env).bind qK):=
 En (sI he) fun σ H Q ⟨g,env,os,r,m⟩=>⟨g,env,os,r,m.bind.mono fun d _ q v H' s i=>by
  cases d with
  |lst xs=>
   obtain⟨a,vs,rfl,h1,h2⟩:=i
   refine⟨a,rfl,⟨vs,h1.sq⟩,q _ H' s fun j H2 P' ex=>⟨fun d hd=>?_,fun hj=>?_⟩⟩
   ·obtain⟨x,hx,hi⟩:=(IsL.ext ex _ _ h2).get hd
    refine⟨⟨vs,x,(h1.ext ex).sq,hx⟩,fun y H3 hy=>?_⟩
    obtain⟨rfl,hy⟩:=hy
    have e2:=hy vs (h1.ext ex).sq
    rw[hx]at e2
    cases e2
    exact⟨aB.refl _,Is.ext ⟨fun _ _ p _=>.inl p,fun _ _ _ z=>z⟩ _ _ hi⟩
   ·exact⟨vs,(h1.ext ex).sq,by rw[IsL.length h2];exact le_of_eq hj⟩
  |non=>exact q.elim
  |bl _=>exact q.elim
  |int _=>exact q.elim
  |str _=>exact q.elim
  |exc _=>exact q.elim
  |fn _=>exact q.elim
  |tup _=>exact q.elim⟩
def mh(lo:Int)(n:Nat):List D:=(range n).map fun i=>.int (lo+(i:Nat))
def Il:List D->R (List D)
 |[.int j]=> @ite _ (-(2^62)<=j/\j<2^62) (propDecidable _) (.ok (mh 0 j.toNat)) (.bad)
 |_=>.bad
def CN:List D->R (List D)
 |[.int i,.int j]=> @ite _ (-(2^62)<=i/\i<2^62/\ -(2^62)<=j/\j<2^62) (propDecidable _) (.ok (mh i (j-i).toNat)) (.bad)
 |_=>.bad
theorem Eo{K:PySem.W.Frag}{P:Addr->Prop}{H:Hp}(lo:Int)(n:Nat):Yl K P (P9 lo n) H (mh lo n):=fun i H' P' ex=>⟨fun d hd=>by
 unfold mh at hd
 rw[getElem?_map]at hd
 have hi:i<n:=by
  cases q:(range n)[i]? with
  |none=>rw[q]at hd;cases hd
  |some j=>simpa using(List.getElem?_eq_some_iff.mp q).1
 rw[List.getElem?_range hi]at hd
 cases hd
 refine⟨hi,fun x H2 hy=>?_⟩
 obtain⟨rfl,rfl⟩:=hy
 exact⟨aB.refl _,rfl⟩,fun h=>by
 unfold mh at h
 exact le_of_eq (by simpa using h)⟩
theorem Z4{tg a:Expr}{p:Pos}{f:DE->R (List D)}(hm:X.mg "range"=none)(ha:PA X [a] (pH X.K E f))(hg:Gl X "range":=by rfl)(hs:starEach [a] X.env=[(false,eval a X.env)]:=by rfl):
  PI X tg (.Call (.Name "range" p) [a] [] pos) (tI X.K E fun env=>(f env).bind Il):=
 En (Cw hg hm ha hs) fun σ H Q ⟨g,env,os,r,m⟩=>⟨g,env,os,r,m.bind.mono fun ds _ q vs H' s i=>by
  unfold Il at q
  split at q
  ·rename_i j _
   split at q
   ·rename_i c
    obtain⟨v,rfl,h1⟩:=IsL.vo i
    have h':v=.int j:=h1
    subst h'
    exact⟨j,rfl,c.1,c.2,q _ H' s (Eo 0 _)⟩
   ·exact q.elim
  ·exact q.elim⟩
theorem XY{tg a b:Expr}{p:Pos}{f:DE->R (List D)}(hm:X.mg "range"=none)(ha:PA X [a,b] (pH X.K E f))(hg:Gl X "range":=by rfl)(hs:starEach [a,b] X.env=[(false,eval a X.env),(false,eval b X.env)]:=by rfl)(hs2:starEach [b] X.env=[(false,eval b X.env)]:=by rfl):
  PI X tg (.Call (.Name "range" p) [a,b] [] pos) (tI X.K E fun env=>(f env).bind CN):=
 En (Cy hg hm ha hs hs2) fun σ H Q ⟨g,env,os,r,m⟩=>⟨g,env,os,r,m.bind.mono fun ds _ q vs H' s i=>by
  unfold CN at q
  split at q
  ·rename_i u j _
   split at q
   ·rename_i c
    obtain⟨v,w,rfl,h1,h2⟩:=IsL.MJ i
    have h':v=.int u:=h1
    have U6:w=.int j:=h2
    subst h' U6
    exact⟨u,j,rfl,c,q _ H' s (Eo u _)⟩
   ·exact q.elim
  ·exact q.elim⟩
def tG(K:PySem.W.Frag)(E:Str->Hp->Prop)(b:D->DE->R DE):TG:=fun v σ H Q=>∃g env os d,Rel K g env σ H os/\Is K (g.P os) H d v/\Good E g.H₀ (b d env) fun e'=>∀σ',Rel K g e' σ' H os->Q σ' H
def J3(K:PySem.W.Frag)(E:Str->Hp->Prop)(b:List D->DE->R DE):HE:=fun vs σ H Q=>∃g env os ds,Rel K g env σ H os/\IsL K (g.P os) H ds vs/\Good E g.H₀ (b ds env) fun e'=>∀σ',Rel K g e' σ' H os->Q σ' H
theorem QN{e:Expr}{t t':TG}(h:PG X e t)(w:∀v σ H Q,t' v σ H Q->t v σ H Q):PG X e t':=fun pins s σ H v u Q I r q=>h pins s σ H v u Q I r (w v σ H Q q)
theorem Ka{e:List Expr}{t t':HE}(h:AV X e t)(w:∀v σ H Q,t' v σ H Q->t v σ H Q):AV X e t':=fun pins s σ H v u Q I r q=>h pins s σ H v u Q I r (w v σ H Q q)
theorem gN(i:Nat){x:Str}(hN:X.N.Nodup)(hi:X.N[i]?=some x:=by rfl)(hx:Loc X.env.scope x:=by first|exact Or.inl rfl|exact Or.inr rfl)(hf:X.fn x=true\/X.env.scope.names.lookup x=some .local:=by first|exact .inl rfl|exact .inr rfl|assumption):
  PG X (.Name x pos) (tG X.K E fun d env=>.ok (env.set i (.val d))):=QN (wL hN hi hx hf) fun v σ H Q ⟨g,env,os,d,r,h,m⟩=>m _ (r.set i h)
theorem QO:AV X [] (J3 X.K E fun ds env=>match ds with
  |[]=>.ok env
  |_=>.bad):=Ka HF fun vs σ H Q ⟨g,env,os,ds,r,h,m⟩=>by
 cases ds with
 |nil=>exact⟨h,m σ r⟩
 |cons _ _=>exact m.elim
theorem MM{e:Expr}{es:List Expr}{b:D->DE->R DE}{k:List D->DE->R DE}(h1:PG X e (tG X.K E b))(h2:AV X es (J3 X.K E k))(hs:(assignEach (e::es) X.env).map (·.2)=assign e X.env::(assignEach es X.env).map (·.2):=by rfl):
  AV X (e::es) (J3 X.K E fun ds env=>match ds with
   |d::r=>(b d env).bind fun e'=>k r e'
   |_=>.bad):=Ka (DQ h1 h2 hs) fun vs σ H Q ⟨g,env,os,ds,r,h,m⟩=>by
 cases ds with
 |nil=>exact m.elim
 |cons d rest=>
  obtain⟨v,vr,rfl,p,q⟩:=h
  have m':Good E g.H₀ ((b d env).bind fun e'=>k rest e') _:=m
  exact⟨v,vr,rfl,g,env,os,d,r,p,m'.bind.mono fun e' _ m2 σ' r'=>⟨g,e',os,rest,r',q,m2⟩⟩
theorem gT{es:List Expr}{kk:Nat}{b:List D->DE->R DE}{n:Nat}(hc:X.calm=true)(h:AV X es (J3 X.K E b))(hn:(assignEach es X.env).length=n:=by rfl)(hst:(assignEach es X.env).findIdx? (·.1)=none:=by rfl):
  PG X (.Tuple es kk pos) (tG X.K E fun d env=>match d with
   |.tup ds=>if ds.length=n then b ds env else .bad
   |_=>.bad):=QN (Ma hc h hn hst) fun v σ H Q ⟨g,env,os,d,r,h,m⟩=>by
 cases d with
 |tup ds=>
  obtain⟨a,vs,rfl,h1,h2⟩:=h
  have m':Good E g.H₀ (if ds.length=n then b ds env else .bad) _:=m
  split at m'
  ·rename_i c
   exact⟨a,vs,rfl,h1.sq,by rw[IsL.length h2];exact c,g,env,os,ds,r,h2,m'⟩
  ·exact m'.elim
 |non=>exact m.elim
 |bl _=>exact m.elim
 |int _=>exact m.elim
 |str _=>exact m.elim
 |lst _=>exact m.elim
 |exc _=>exact m.elim
 |fn _=>exact m.elim
theorem tX{tg iter:Expr}{body:List Stmt}{f:DE->R (List D)}{b:D->DE->R DE}{k:DE->R Out}(hp:PassesOwn (model X.prog X.w) X.A X.env X.xe)(hc:X.calm=true)(hi:PI X tg iter (tI X.K E f))(hg:PG X tg (tG X.K E b))(hb:oV X body (tS X.K E k))
  (hs:∀x,foldedSetIterable iter X.env x=pure x:=by intro _;rfl):PS X (.For tg iter body [] pos) (tS X.K E fun env=>(f env).bind fun xs=>dO (fun d e=>(b d e).bind k) xs env):=
 ou (DU hp hc hi hg hb hs) fun De σ H ⟨g,env,os,r,m⟩=>⟨g,env,os,r,m.bind.mono fun xs _ m1 J H1 s1 yl=>by
  refine⟨fun i n σ' H'=>n=xs.length-i/\i<=xs.length/\∃vk iA,Rel X.K g vk σ' H' iA/\qI H1 os H' iA/\Good E g.H₀ (dO (fun d e=>(b d e).bind k) (xs.drop i) vk) (gC X.K g H' iA De),
   ⟨xs.length,by simp,zero_le _,env,os,r.same s1,.refl _ _,by rw[drop_zero];exact m1.mono fun o _ q=>gC.step (.same s1 os) q⟩,?_⟩
  rintro i n σ' H' ⟨rfl,hi,vk,iA,r',st,m2⟩
  obtain⟨y1,y2⟩:=yl i H' (g.P iA) st.ext
  by_cases hlt:i<xs.length
  ·have hx:xs[i]?=some xs[i]:=getElem?_eq_getElem hlt
   obtain⟨go,y3⟩:=y1 _ hx
   rw[List.drop_eq_getElem_cons hlt]at m2
   refine .inr ⟨go,fun σ2 H2=>∃QP Pg,Rel X.K g QP σ2 H2 Pg/\qI H1 os H2 Pg/\Good E g.H₀ (dO (fun d e=>(b d e).bind k) (xs.drop (i+1)) QP) (gC X.K g H2 Pg De),fun σ2 H2 ⟨e2,o2,r2,t2,g2⟩=>⟨xs.length-(i+1),by omega,rfl,hlt,e2,o2,r2,t2,g2⟩,fun x H2 hy=>?_⟩
   obtain⟨s2,QQ⟩:=y3 x H2 hy
   have r2:=r'.same s2
   have ix:Is X.K (g.P iA) H2 xs[i] x:=Is.ext ⟨fun a o p _=>p.elim (fun z=>z) fun z=>r'.fresh z,fun _ _ _ z=>z⟩ _ _ QQ
   have m3:Good E g.H₀ (((b xs[i] vk).bind k).bind _) _:=m2
   refine⟨g,vk,iA,xs[i],r2,ix,m3.bind.bind.mono fun e3 _ m4 σ3 r3=>⟨g,e3,iA,r3,Good.mono m4 fun o _ q=>?_⟩⟩
   have yb:=st.trans (qI.same s2 iA)
   cases o with
   |nx e4=>exact fun σ4 H4 QR r4 z=>⟨e4,QR,r4,yb.trans z,Good.mono (show Good E g.H₀ (dO _ _ e4) _ from q) fun o _ q=>gC.step ((qI.same s2 iA).trans z) q⟩
   |ct e4=>exact fun σ4 H4 QR r4 z=>⟨e4,QR,r4,yb.trans z,Good.mono (show Good E g.H₀ (dO _ _ e4) _ from q) fun o _ q=>gC.step ((qI.same s2 iA).trans z) q⟩
   |bk e4=>exact fun σ4 H4 QR r4 z=>(show gC X.K g H' iA De (.nx e4)from q) σ4 H4 QR r4 ((qI.same s2 iA).trans z)
   |rt d=>exact q
   |ph ys=>exact q
   |Ig ys=>exact q
   |Hc ys=>exact q
   |Ie ys=>exact q
   |Ba ys=>exact q
  ·have e:i=xs.length:=by omega
   subst e
   rw[drop_length]at m2
   exact .inl ⟨y2 rfl,(show gC X.K g H' iA De (.nx vk)from m2) σ' H' iA r' (.refl _ _)⟩⟩
end
def aH(n:Nat)(ds:List D):DE:=ds.map .val++replicate (n-ds.length) .no
theorem qN{K:PySem.W.Frag}{N:List Str}{P:Addr->Prop}{H:Hp}{ds:List D}{vs:List V}(h:IsL K P H ds vs):Rel K ⟨P,H⟩ (aH N.length ds) (L2.start N vs) H []:=by
 have hl:=h.length
 refine⟨by simp[aH,L2.start,hl],aB.refl H,fun i d e=>?_,fun i xs e=>?_,fun i j xs ys a e=>?_,(fun a ha=>nomatch ha),fun i v e=>?_,ym.none fun i v e=>?_⟩
 ·unfold aH at e
  by_cases hi:i<ds.length
  ·rw[getElem?_append_left (by simpa using hi),getElem?_map,getElem?_eq_getElem hi]at e
   have e':Sl.val ds[i]=Sl.val d:=Option.some.inj e
   cases e'
   obtain⟨v,h1,h2⟩:=h.get (getElem?_eq_getElem hi)
   refine⟨v,?_,Is.ext ⟨fun a o p _=>⟨.inl p,by simp⟩,fun _ _ _ z=>z⟩ _ _ h2⟩
   unfold L2.start
   rw[getElem?_append_left (by simp;omega),getElem?_map,h1]<;>rfl
  ·rw[getElem?_append_right (by simp;omega)]at e
   have:=getElem?_replicate (n:=N.length-ds.length) (a:=Sl.no) (i:=i-(ds.map Sl.val).length)
   rw[this]at e
   split at e<;>cases e
 ·exfalso
  unfold aH at e
  by_cases hi:i<ds.length
  ·rw[getElem?_append_left (by simpa using hi),getElem?_map,getElem?_eq_getElem hi]at e
   cases e
  ·rw[getElem?_append_right (by simp;omega)]at e
   have:=getElem?_replicate (n:=N.length-ds.length) (a:=Sl.no) (i:=i-(ds.map Sl.val).length)
   rw[this]at e
   split at e<;>cases e
 ·exfalso
  unfold aH at e
  by_cases hi:i<ds.length
  ·rw[getElem?_append_left (by simpa using hi),getElem?_map,getElem?_eq_getElem hi]at e
   cases e
  ·rw[getElem?_append_right (by simp;omega)]at e
   have:=getElem?_replicate (n:=N.length-ds.length) (a:=Sl.no) (i:=i-(ds.map Sl.val).length)
   rw[this]at e
   split at e<;>cases e
 ·exfalso
  unfold aH at e
  by_cases hi:i<ds.length
  ·rw[getElem?_append_left (by simpa using hi),getElem?_map,getElem?_eq_getElem hi]at e
   cases e
  ·rw[getElem?_append_right (by simp;omega)]at e
   have:=getElem?_replicate (n:=N.length-ds.length) (a:=Sl.no) (i:=i-(ds.map Sl.val).length)
   rw[this]at e
   split at e<;>cases e
 ·exfalso
  unfold aH at e
  by_cases hi:i<ds.length
  ·rw[getElem?_append_left (by simpa using hi),getElem?_map,getElem?_eq_getElem hi]at e
   cases e
  ·rw[getElem?_append_right (by simp;omega)]at e
   have:=getElem?_replicate (n:=N.length-ds.length) (a:=Sl.no) (i:=i-(ds.map Sl.val).length)
   rw[this]at e
   split at e<;>cases e
def ai:Out->R D
 |.rt d=>.ok d
 |.ph xs=>.ok (.lst xs)
 |.nx _=>.ok .non
 |_=>.bad
def aj:Out->R (List D)
 |.ph xs=>.ok xs
 |_=>.bad
abbrev EN:Str->Hp->Prop:=fun _ _=>False
section
variable{P:Program}{w:World}{K:PySem.W.Frag}{mg:Str->Option Value}{base:Heap}
theorem Is.P0 {Q:Addr->Prop}{H H':Hp}{d:D}{v:V}(h:Is K ((⟨Q,H⟩:Gh).P []) H' d v):Is K (fun a=>Q a\/H a=none) H' d v:=Is.ext ⟨fun _ _ p _=>p.1,fun _ _ _ z=>z⟩ _ _ h
theorem Vb{x qual:Str}{st:Stmt}{f:Addr}{fd:FuncData}{N ps:List Str}{k:Nat}{xc:Str->Value}{m:List D->R D}{b:DE->R Out}(F:yg K x qual st f fd)(S:aw N ps (ae st))
  (hm:∀ds d,m ds=.ok d->ds.length=ps.length/\(b (aH N.length ds)).bind ai=.ok d)(hne:∀ds c,m ds≠.err c)
  (hb:∀(cdv:Value)(A:Around)(outer:List Env)(s:Shared)(H:Hp)(E:XK),aX k (A.deeper (envOfC qual (ae st) s.heap.objs.size f cdv))->oV (oY jL P w K mg base N qual (ae st) f cdv A outer s H E).Ds (bq st) (tS K EN b)):
  bQ P w K mg base jL (k+1) f fd ps (Bc K xc m):=by
 refine F.ok S (fun vs H Q E h=>?_) (fun cdv A outer s H vs Q E hr h=>?_)
 ·obtain⟨Pa,ds,i,h⟩:=h
  cases e:m ds with
  |ok d=>rw[i.length];exact(hm ds d e).1
  |err c=>exact(hne ds c e).elim
  |bad=>rw[e]at h;exact h.elim
 ·obtain⟨Pa,ds,i,h⟩:=h
  refine⟨_,hb cdv A outer s H E hr,⟨⟨Pa,H⟩,aH N.length ds,[],qN i,?_⟩⟩
  cases e:m ds with
  |err c=>exact(hne ds c e).elim
  |bad=>rw[e]at h;exact h.elim
  |ok d=>
   rw[e]at h
   obtain⟨_,q⟩:=hm ds d e
   cases eb:b (aH N.length ds)with
   |bad=>rw[eb]at q;cases q
   |err c=>rw[eb]at q;cases q
   |ok o=>
    rw[eb]at q
    cases o with
    |rt d'=>
     cases q
     exact fun v H' s' i'=>h v H' s' i'.P0
    |ph xs=>
     cases q
     intro a A9 H' s' hn hH i'
     exact h _ H' s' ⟨a,A9,rfl,.inl ⟨.inr hn,.inl hH⟩,IsL.ext ⟨fun b o p _=>p.1,fun _ _ _ z=>z⟩ _ _ i'⟩
    |nx e'=>
     cases q
     exact fun σ' H' iA r' _=>h _ H' r'.ext rfl
    |Ig _=>cases q
    |Hc _=>cases q
    |Ie _=>cases q
    |Ba _=>cases q
    |bk _=>cases q
    |ct _=>cases q
theorem Vc{x qual:Str}{st:Stmt}{f:Addr}{fd:FuncData}{N ps:List Str}{k:Nat}{xc:Str->Value}{m:List D->R (List D)}{b:DE->R Out}(F:yg K x qual st f fd)(S:aw N ps (ae st))
  (hm:∀ds d,m ds=.ok d->ds.length=ps.length/\(b (aH N.length ds)).bind aj=.ok d)(hne:∀ds c,m ds≠.err c)
  (hb:∀(cdv:Value)(A:Around)(outer:List Env)(s:Shared)(H:Hp)(E:XK),aX k (A.deeper (envOfC qual (ae st) s.heap.objs.size f cdv))->oV (oY jL P w K mg base N qual (ae st) f cdv A outer s H E).Ds (bq st) (tS K EN b)):
  bQ P w K mg base jL (k+1) f fd ps (He K xc m):=by
 refine F.ok S (fun vs H Q E h=>?_) (fun cdv A outer s H vs Q E hr h=>?_)
 ·obtain⟨Pa,ds,i,h⟩:=h
  cases e:m ds with
  |ok d=>rw[i.length];exact(hm ds d e).1
  |err c=>exact(hne ds c e).elim
  |bad=>rw[e]at h;exact h.elim
 ·obtain⟨Pa,ds,i,h⟩:=h
  refine⟨_,hb cdv A outer s H E hr,⟨⟨Pa,H⟩,aH N.length ds,[],qN i,?_⟩⟩
  cases e:m ds with
  |err c=>exact(hne ds c e).elim
  |bad=>rw[e]at h;exact h.elim
  |ok d=>
   rw[e]at h
   obtain⟨_,q⟩:=hm ds d e
   cases eb:b (aH N.length ds)with
   |bad=>rw[eb]at q;cases q
   |err c=>rw[eb]at q;cases q
   |ok o=>
    rw[eb]at q
    cases o with
    |rt d'=>cases q
    |ph xs=>
     cases q
     intro a A9 H' s' hn hH i'
     exact h a A9 H' s' hn hH (IsL.ext ⟨fun b o p _=>⟨p.1,fun z=>p.2 (by simp[z])⟩,fun _ _ _ z=>z⟩ _ _ i')
    |nx e'=>cases q
    |Ig _=>cases q
    |Hc _=>cases q
    |Ie _=>cases q
    |Ba _=>cases q
    |bk _=>cases q
    |ct _=>cases q
end
def vW(cells:List (Str×Addr)):List (Str×NameKind)->List (Str×Addr)->List (Str×Addr)
 |[],acc=>acc
 |(n,k)::r,acc=>if(k==NameKind.free)=true then vW cells r ((n,(cells.lookup n).getD 0)::acc)else vW cells r acc
theorem j9{scope:Scope}{env:Env}(h:∀y∈scope.names,y.2=.free->∃c,env.cells.lookup y.1=some c):closureFor scope env=pure (vW env.cells scope.names []):=by
 have gen:∀(l:List (Str×NameKind))(acc:List (Str×Addr)),(∀y∈l,y.2=.free->∃c,env.cells.lookup y.1=some c)->
   (forIn l acc fun(x:Str×NameKind)(r:List (Str×Addr))=>(if(x.2==NameKind.free)=true then(do let a<-cellOf env x.1;pure (ForInStep.yield ((x.1,a)::r)))else pure (ForInStep.yield r):Sem (ForInStep (List (Str×Addr)))))=pure (vW env.cells l acc):=by
  intro l
  induction l with
  |nil=>intro acc _;rfl
  |cons y r ih=>
   intro acc hy
   obtain⟨n,k⟩:=y
   rw[List.forIn_cons]
   have hr:∀y∈r,y.2=.free->∃c,env.cells.lookup y.1=some c:=fun y h=>hy y (mem_cons_of_mem _ h)
   by_cases hk:(k==NameKind.free)=true
   ·obtain⟨c,hc⟩:=hy (n,k) mem_cons_self (by simpa using hk)
    have AU:env.cells.lookup n=some c:=hc
    simp only [hk,if_true,vW,cellOf,AU,Option.getD_some]
    exact ih _ hr
   ·simp only [hk,vW]
    exact ih _ hr
 show((forIn scope.names ([]:List (Str×Addr)) fun(x:Str×NameKind)(r:List (Str×Addr))=>(if(x.2==NameKind.free)=true then(do let a<-cellOf env x.1;pure (ForInStep.yield ((x.1,a)::r)))else pure (ForInStep.yield r):Sem (ForInStep (List (Str×Addr)))))>>=fun s=>pure s)=_
 rw[gen scope.names [] h]
 rfl
theorem k9{cells:List (Str×Addr)}{x:Str}:∀(l:List (Str×NameKind))(acc:List (Str×Addr)),(∀y∈l,y.2=.free->∃c,cells.lookup y.1=some c)->(∀c,acc.lookup x=some c->cells.lookup x=some c)->
  ∀c,(vW cells l acc).lookup x=some c->cells.lookup x=some c
 |[],acc,_,h,c,e=>h c e
 |(n,k)::r,acc,hy,h,c,e=>by
  unfold vW at e
  have hr:∀y∈r,y.2=.free->∃c,cells.lookup y.1=some c:=fun y h=>hy y (mem_cons_of_mem _ h)
  split at e
  ·rename_i hk
   refine k9 r _ hr (fun c' e'=>?_) c e
   rw[lookup_cons]at e'
   obtain⟨c0,hc0⟩:=hy (n,k) mem_cons_self (by simpa using hk)
   have QS:cells.lookup n=some c0:=hc0
   cases hx:x==n with
   |true=>
    rw[hx]at e'
    have ex:x=n:=by simpa using hx
    rw[QS]at e'
    cases e'
    rw[ex];exact QS
   |false=>
    rw[hx]at e'
    exact h c' e'
  ·exact k9 r _ hr h c e
theorem pK{cells:List (Str×Addr)}{x:Str}:∀(l:List (Str×NameKind))(acc:List (Str×Addr)),((∃c,acc.lookup x=some c)\/(x,NameKind.free)∈l)->∃c,(vW cells l acc).lookup x=some c
 |[],acc,h=>h.elim (fun z=>z) fun z=>nomatch z
 |(n,k)::r,acc,h=>by
  unfold vW
  split
  ·rename_i hk
   refine pK r _ ?_
   by_cases hx:x=n
   ·exact .inl ⟨_,by rw[lookup_cons,beq_iff_eq.mpr hx]⟩
   ·rcases h with⟨c,h⟩|h
    ·refine .inl ⟨c,?_⟩
     rw[lookup_cons,beq_eq_false_iff_ne.mpr hx];exact h
    ·rcases mem_cons.mp h with z|z
     ·cases z;exact absurd rfl hx
     ·exact .inr z
  ·rename_i hk
   refine pK r _ ?_
   rcases h with h|h
   ·exact .inl h
   ·rcases mem_cons.mp h with z|z
    ·cases z;exact absurd (by simp) hk
    ·exact .inr z
def qO(X:Cx)(scope:Scope)(N:List Str)(s:Shared)(H:Hp)(fp:List Addr)(C:Addr)(pl:List (Addr×Obj)):Cx where
 prog:=X.prog
 w:=X.w
 K:=X.K
 mg:=X.mg
 base:=X.base
 A:=X.A
 N:=N
 s₀:=s
 H₀:=H
 env:=compEnvC scope (vW X.env.cells scope.names []) C X.env
 outer:=X.stack
 stack:=X.stack
 ex:=fp
 fn:=fun _=>false
 calm:=X.calm
 pn:=pl
 xe:=fun _ _=>False
structure gU(X:Cx)(scope:Scope)(N:List Str)(nt:Nat)(caps:List Nat):Prop where
 kind:scope.kind=.function
 cell:∀y∈scope.names,y.2≠.cell
 names:∀y∈scope.names,y.2=.local->scope.names.lookup y.1=some .local
 free:∀y∈scope.names,y.2=.free->X.env.kindOf y.1=some .cell\/X.env.kindOf y.1=some .free
 len:N.length=nt+caps.length
 nd:N.Nodup
 caps:∀(j i:Nat),caps[j]?=some i->∃x,N[nt+j]?=some x/\X.N[i]?=some x/\scope.names.lookup x=some .free/\vI X.env.scope x
theorem bf{scope:Scope}{env:Env}{x:Str}{k:NameKind}(h:(relabel scope env).names.lookup x=some k):∃k',scope.names.lookup x=some k'/\(k=k'\/(k'=.free/\k=.cell)):=by
 unfold relabel at h
 dsimp only at h
 generalize scope.names=l at h
 induction l with
 |nil=>cases h
 |cons y r ih=>
  obtain⟨n,kk⟩:=y
  rw[map_cons]at h
  by_cases hc:(kk==NameKind.free&&env.scope.kind==.function&&env.kindOf n==some .cell)=true
  ·simp only [hc,if_true]at h
   rw[lookup_cons]at h⊢
   cases hx:x==n with
   |true=>
    rw[hx]at h
    cases h
    simp only [and_eq_true]at hc
    exact⟨kk,rfl,.inr ⟨by simpa using hc.1.1,rfl⟩⟩
   |false=>
    rw[hx]at h
    exact ih h
  ·simp only [hc,false_eq_true,if_false]at h
   rw[lookup_cons]at h⊢
   cases hx:x==n with
   |true=>
    rw[hx]at h
    exact⟨kk,rfl,.inl (Option.some.inj h).symm⟩
   |false=>
    rw[hx]at h
    exact ih h
theorem mem_of_lookup{α:Type}{l:List (Str×α)}{x:Str}{k:α}(h:l.lookup x=some k):(x,k)∈l:=by
 induction l with
 |nil=>cases h
 |cons y r ih=>
  obtain⟨n,kk⟩:=y
  rw[lookup_cons]at h
  cases hx:x==n with
  |true=>
   rw[hx]at h
   cases h
   have ex:x=n:=by simpa using hx
   rw[ex];exact mem_cons_self
  |false=>
   rw[hx]at h
   exact mem_cons_of_mem _ (ih h)
section
variable{X:Cx}{scope:Scope}{N:List Str}{nt:Nat}{caps:List Nat}{pins:List (Addr×Obj)}{σ:St}{H:Hp}{s:Shared}
theorem gU.cells (S:gU X scope N nt caps)(I:Inv X pins σ H s):∀y∈scope.names,y.2=.free->∃c,X.env.cells.lookup y.1=some c:=fun y hy hf=>I.ok.has y.1 (S.free y hy hf)
theorem gU.lk (S:gU X scope N nt caps)(I:Inv X pins σ H s){x:Str}{c:Addr}(h:(vW X.env.cells scope.names []).lookup x=some c):X.env.cells.lookup x=some c:=
 k9 scope.names [] (S.cells I) (fun c e=>by cases e) c h
theorem gU.start (S:gU X scope N nt caps)(I:Inv X pins σ H s){fp:List Addr}(hf:∀b∈fp,jI X pins H b){C:Addr}{h':Heap}{m:Str->Option Value}{t':Nat}(hC:s.heap.objs.size<=C)(hn:h'.Ns C m)(k:∀b o,s.heap.get? b=some o->h'.get? b=some o)
  (hpin:∀b∈fp,∃o,s.heap.get? b=some o)
  {vs:List V}(hv:vs.length=caps.length)(hvs:∀(j i:Nat)(v:V),caps[j]?=some i->vs[j]?=some v->σ[i]?=some (some v))(σ':St)(hσ:σ'=replicate nt none++vs.map some):
  Inv (qO X scope N s H fp C (X.pn++pins)) [] σ' H {s with heap:=h',toks:=t'}:=by
 subst hσ
 have hH:∀b,s.heap.objs.size<=b->H b=none:=fun b hb=>I.hok.fresh hb
 have lk:=fun{x c}(h:(vW X.env.cells scope.names []).lookup x=some c)=>S.lk I h
 have ok:(qO X scope N s H fp C (X.pn++pins)).Ok:={
  mod:=I.ok.mod
  kind:=S.kind
  glob:=I.ok.glob
  blt:=I.ok.blt
  above:=hC
  inj:=fun x y c h1 h2=>I.ok.inj x y c (lk h1) (lk h2)
  has:=fun x h=>by
   have h':(relabel scope X.env).names.lookup x=some .cell\/(relabel scope X.env).names.lookup x=some .free:=h
   have hfree:scope.names.lookup x=some .free:=by
    rcases h' with h'|h'
    ·obtain⟨k',e,q⟩:=bf h'
     rcases q with rfl|⟨rfl,_⟩
     ·exact absurd rfl (S.cell _ (mem_of_lookup e))
     ·exact e
    ·obtain⟨k',e,q⟩:=bf h'
     rcases q with rfl|⟨rfl,q⟩
     ·exact e
     ·exact e
   exact pK scope.names [] (.inr (mem_of_lookup hfree))
  LW:=fun x c h=>nomatch h
  hd:=I.ok.hd
  frames:=I.ok.frames
  Pd:=.inl rfl
  LX:=fun b hb=>by
   obtain⟨o,e⟩:=hpin b hb
   exact⟨fun z=>absurd (lt_of_lt_of_le (Heap.lt_size e) (by rw[z];exact hC)) (Nat.lt_irrefl _),fun x c h=>(hf b hb).2.2.2.2.1 x c (lk h)⟩
  bs:=I.bs
  Cr:=le_trans I.ok.Cr I.sz
  x6:=fun b o e hb=>by
   rcases(hf b hb).2.2.2.1 with z|z
   ·exact I.ok.x6 b o e z
   ·exact absurd (lt_of_lt_of_le (Heap.lt_size e) (le_trans I.ok.Cr z)) (Nat.lt_irrefl _)
  wI:=fun b hb z=>by
   rcases mem_cons.mp (I.qy b z)with q|q
   ·exact(hf b hb).2.1 q
   ·exact(hf b hb).2.2.1 q
  pA:=I.stack
  Hz:=I.wJ}
 refine⟨ok,rfl,I.bare,Un.kept k,⟨m,hn,fun i x v e1 e2 e3=>?_⟩,fun x c e=>?_,hH C hC,fun x c e=>I.mB x c (lk e),fun p hp=>?_,I.hok.kept k,?_⟩
 ·have hi:nt<=i:=by
   refine le_of_not_lt fun z=>?_
   rw[getElem?_append_left (by simpa using z),getElem?_replicate]at e2
   split at e2<;>cases e2
  rw[getElem?_append_right (by simpa using hi),getElem?_map]at e2
  have Ep:(vs[i-nt]?).map some=some (some v):=by simpa using e2
  cases q:vs[i-nt]? with
  |none=>rw[q]at Ep;cases Ep
  |some v'=>
   rw[q]at Ep
   cases Ep
   have hj:i-nt<caps.length:=by rw[<-hv];exact(List.getElem?_eq_some_iff.mp q).1
   obtain⟨x',h1,h2,h3,h4⟩:=S.caps (i-nt) caps[i-nt] (getElem?_eq_getElem hj)
   have ex:x'=x:=by
    have Ec:N[i]?=some x:=e1
    rw[show nt+(i-nt)=i by omega,Ec]at h1
    exact(Option.some.inj h1).symm
   subst ex
   have hs:=hvs (i-nt) _ v (getElem?_eq_getElem hj) q
   obtain⟨m0,hn0,Vd⟩:=I.loc
   obtain⟨u,r,l⟩:=Vd _ x' v h2 hs h4
   refine⟨u,r,?_⟩
   have hkx:=S.free _ (mem_of_lookup h3) rfl
   rcases l with⟨k1,_⟩|⟨k1,c,hc,hcell⟩
   ·have MN:X.env.kindOf x'=some .local:=k1
    rcases hkx with z|z
    ·have z':X.env.kindOf x'=some .cell:=z
     rw[MN]at z';cases z'
    ·have z':X.env.kindOf x'=some .free:=z
     rw[MN]at z';cases z'
   ·obtain⟨c',AU⟩:=pK (cells:=X.env.cells) (x:=x') scope.names [] (.inr (mem_of_lookup h3))
    have:=lk AU
    rw[hc]at this
    cases this
    refine .inr ⟨?_,c,AU,let⟨o,ho,hd⟩:=hcell;⟨o,k _ o ho,hd⟩⟩
    rcases e3 with z|z|z
    ·exfalso
     obtain⟨k',e,q⟩:=bf (show(relabel scope X.env).names.lookup x'=some .local from z)
     rcases q with rfl|⟨_,q⟩
     ·rw[h3]at e;cases e
     ·cases q
    ·exact .inl z
    ·exact .inr z
 ·obtain⟨v,z⟩:=I.cell x c (lk e)
  exact⟨v,let⟨o,ho,hd⟩:=z;⟨o,k _ o ho,hd⟩⟩
 ·have Kb:p∈X.pn++pins:=by simpa[qO]using hp
  obtain⟨e,n,ne,nf,d⟩:=I.pin p Kb
  refine⟨k _ _ e,n,fun z=>absurd (lt_of_lt_of_le (Heap.lt_size e) (by rw[z];exact hC)) (Nat.lt_irrefl _),fun z=>?_,d⟩
  rcases mem_cons.mp (I.qy _ z)with q|q
  ·exact ne q
  ·exact nf q
 ·show(replicate nt none++vs.map some).length=N.length
  rw[S.len];simp[hv]
end
section
variable{prog:Program}{w:World}{A:Around}{E:Value->Shared->Prop}{R:Result->Shared->Prop}{s:Shared}
theorem mJ{elt target iter:Expr}{ifs:List Expr}{scope:Scope}{pos:Pos}{it acc:Value}{env:Env}(I:Nat->Shared->Prop)
  (turn:∀n s,I n s->wpAny (model prog w) A (pyNext it) (fun r s₁=>match r with
   |none=>R (.ok .next) s₁
   |some v=>wpAny (model prog w) A (letOwnedTupleGo target it v) (fun _ X0=>wpAny (model prog w) A (assign target env v) (fun _ s₂=>
     wpAny (model prog w) A (forIn ifs true fun c r=>if r=true then do let ok<-isTrue c env (eval c env);pure (ForInStep.yield ok)else pure (ForInStep.yield r)) (fun ok s₃=>
      if ok=true then wpAny (model prog w) A (eval elt env) (fun x s₄=>
       wpAny (model prog w) A (call (.builtin "list.append") [acc,x]) (fun _ s₅=>∃m,m<n/\I m s₅) (fun _ _=>False) s₄) (fun _ _=>False) s₃
      else∃m,m<n/\I m s₃) (fun _ _=>False) s₂) (fun _ _=>False) X0) (fun _ _=>False) s₁) (fun _ _=>False) s)
  (n:Nat)(h:I n s):
  codeAny (model prog w) A (.compLoop (.ListComp elt [⟨target,iter,ifs,0⟩] scope pos) 0 it acc env) R s:=by
 refine codeAny_loop rfl I (fun n s hI=>?_) n h
 show wpAny _ A ((compTurn (.ListComp elt [⟨target,iter,ifs,0⟩] scope pos) 0 it acc env).onRaise (fun x=>do noteFrame x env;theTreesLotGoes x)) _ _ s
 refine wpAny_noted ?_
 rw[compTurn_list]
 refine wpAny_bind (wpAny_standAt (wpAny_bind (wpAny_mono (turn n s hI) (fun r s₁ h₁=>?_) fun _ _ h'=>h'.elim)))
 cases r with
 |none=>exact wpAny_pure h₁
 |some v=>
  refine wpAny_bind (wpAny_mono h₁ (fun _ X0 Z5=>?_) fun _ _ h'=>h'.elim)
  refine wpAny_bind (wpAny_mono Z5 (fun _ s₂ h₂=>wpAny_bind (wpAny_mono h₂ (fun ok s₃ h₃=>?_) fun _ _ h'=>h'.elim)) fun _ _ h'=>h'.elim)
  cases ok with
  |false=>exact wpAny_pure ⟨rfl,h₃⟩
  |true=>
   exact wpAny_bind (wpAny_bind (wpAny_mono h₃ (fun x s₄ h₄=>wpAny_bind (wpAny_mono h₄ (fun _ s₅ h₅=>wpAny_pure (wpAny_pure ⟨rfl,h₅⟩)) fun _ _ h'=>h'.elim)) fun _ _ h'=>h'.elim))
end
def Pk(X:Cx)(ifs:List Expr)(t:TT):Prop:=
 ∀(pins:List (Addr×Obj))(s:Shared)(σ:St)(H:Hp)(Q:Bool->Hp->Prop),Inv X pins σ H s->t σ H Q->
  wpAny (model X.prog X.w) X.A (forIn ifs true fun c r=>if r=true then do let ok<-isTrue c X.env (eval c X.env);pure (ForInStep.yield ok)else pure (ForInStep.yield r)) (TP X pins σ Q) X.xe s
theorem Im{X:Cx}{E:Str->Hp->Prop}:Pk X [] (tT X.K E fun _=>.ok true):=fun pins s σ H Q I ⟨g,env,os,r,m⟩=>wpAny_tests_nil ⟨H,I,m H (aB.refl H)⟩
theorem Ve{X:Cx}{E:Str->Hp->Prop}{c:Expr}{f:DE->R Bool}(h:PT X c (tT X.K E f)):Pk X [c] (tT X.K E f):=fun pins s σ H Q I q=>wpAny_tests_one (h pins s σ H Q I q)
def bu(b:D->DE->R DE)(ct:DE->R Bool)(fe:DE->R D)(e₀:DE):List D->R (List D)
 |[]=>.ok []
 |x::xs=>(b x e₀).bind fun e=>(ct e).bind fun t=>if t=true then(fe e).bind fun d=>(bu b ct fe e₀ xs).bind fun ds=>.ok (d::ds)else bu b ct fe e₀ xs
def cR(env:DE):List Nat->R (List D)
 |[]=>.ok []
 |i::r=>(bY i env).bind fun d=>(cR env r).bind fun ds=>.ok (d::ds)
theorem Good.cR {K:PySem.W.Frag}{E:Str->Hp->Prop}{H₀ H:Hp}{g:Gh}{σ:St}{os:List Addr}{env:DE}(r:Rel K g env σ H os):∀{caps:List Nat}{p:List D->Prop},Good E H₀ (cR env caps) p->
  ∃ds vs,p ds/\vs.length=caps.length/\ds.length=caps.length/\IsL K (g.P os) H ds vs/\∀(j i:Nat)(v:V),caps[j]?=some i->vs[j]?=some v->σ[i]?=some (some v)
 |[],p,h=>⟨[],[],h,rfl,rfl,rfl,fun j i v e=>by simp at e⟩
 |i::rest,p,h=>by
  have h1:=h.bind
  unfold bY at h1
  split at h1
  ·rename_i d e
   have h2:Good E H₀ ((DL.cR env rest).bind fun ds=>.ok (d::ds)) p:=h1
   obtain⟨ds,vs,q1,q2,q3,q4,q5⟩:=Good.cR r h2.bind
   obtain⟨v,s1,s2⟩:=r.val i d e
   refine⟨d::ds,v::vs,q1,by simp[q2],by simp[q3],.cons s2 q4,fun j i' v' e1 e2=>?_⟩
   cases j with
   |zero=>simp at e1 e2;subst e1 e2;exact s1
   |succ j=>exact q5 j i' v' (by simpa using e1) (by simpa using e2)
  ·exact h1.elim
def dX(nt:Nat)(ds:List D):DE:=replicate nt Sl.no++ds.map .val
theorem w6{nt:Nat}{ds:List D}{i:Nat}{d:D}(h:(dX nt ds)[i]?=some (.val d)):nt<=i/\ds[i-nt]?=some d:=by
 unfold dX at h
 have hi:nt<=i:=by
  refine le_of_not_lt fun z=>?_
  rw[getElem?_append_left (by simpa using z),getElem?_replicate]at h
  split at h<;>cases h
 rw[getElem?_append_right (by simpa using hi),getElem?_map]at h
 refine⟨hi,?_⟩
 simp only [length_replicate]at h
 cases q:ds[i-nt]? with
 |none=>rw[q]at h;cases h
 |some d'=>rw[q]at h;cases h;rfl
theorem nR{nt:Nat}{ds:List D}{i:Nat}{xs:List D}(h:(dX nt ds)[i]?=some (.own xs)):False:=by
 unfold dX at h
 by_cases hi:i<nt
 ·rw[getElem?_append_left (by simpa using hi),getElem?_replicate]at h
  split at h<;>cases h
 ·rw[getElem?_append_right (by simp;omega),getElem?_map]at h
  cases q:ds[i-(replicate nt Sl.no).length]? with
  |none=>rw[q]at h;cases h
  |some d'=>rw[q]at h;cases h
theorem tY{nt:Nat}{ds:List D}{i:Nat}{w:Ct}(h:(dX nt ds)[i]?=some (.deep w)):False:=by
 unfold dX at h
 by_cases hi:i<nt
 ·rw[getElem?_append_left (by simpa using hi),getElem?_replicate]at h
  split at h<;>cases h
 ·rw[getElem?_append_right (by simp;omega),getElem?_map]at h
  cases q:ds[i-(replicate nt Sl.no).length]? with
  |none=>rw[q]at h;cases h
  |some d'=>rw[q]at h;cases h
theorem w9{nt:Nat}{ds:List D}{i:Nat}{w:V}(h:(dX nt ds)[i]?=some (.raw w)):False:=by
 unfold dX at h
 by_cases hi:i<nt
 ·rw[getElem?_append_left (by simpa using hi),getElem?_replicate]at h
  split at h<;>cases h
 ·rw[getElem?_append_right (by simp;omega),getElem?_map]at h
  cases q:ds[i-(replicate nt Sl.no).length]? with
  |none=>rw[q]at h;cases h
  |some d'=>rw[q]at h;cases h
section
variable{X:Cx}{pins:List (Addr×Obj)}{σ:St}{H:Hp}{s:Shared}{h':Heap}
theorem vX{fp:List Addr}{t':Nat}(I:Inv X pins σ H s)(hf:∀b∈fp,jI X pins H b)(k:∀b u,b∉fp->s.heap.get? b=some u->h'.get? b=some u):Inv X pins σ H {s with heap:=h',toks:=t'}:=by
 have QT:∀b u,H b=some u->b∉fp:=fun b u e z=>by rw[(hf b z).1]at e;cases e
 refine I.step (g':=s.gens) (d':=s.drawn) (ch:=fp) (fun b hb=>⟨(hf b hb).2.2.2.1,(hf b hb).2.1,(hf b hb).2.2.2.2.1,(hf b hb).2.2.2.2.2⟩) (fun b u _ _ hc e _=>k b u hc e) (fun b u _ _ hc e _=>⟨u.slots,k b u hc e⟩)
  (fun b u _ e n=>n) (fun b u hc e=>⟨u,k b u hc e⟩) (fun b xs e=>e) (fun b u xs e=>e) (fun b ps e=>⟨#[],by rw[e];simp⟩) (fun m hm=>?_) (fun b u e=>?_) I.bare
 ·obtain⟨ob,es,ep,ho,r⟩:=hm
  exact⟨ob,es,ep,k _ ob (fun z=>(hf _ z).2.1 rfl) ho,r⟩
 ·refine(I.hok b u e).zE (fun c v hc q=>k c v ?_ q) (fun c q=>q) fun c xs q=>q
  rcases hc with z|z
  ·rw[z];exact QT b u e
  ·exact QT c _ z
end
def R.ne {α:Type}:R α->R α
 |.ok a=>.ok a
 |_=>.bad
theorem R.Er {α:Type}(a:α):(R.ok a).ne=.ok a:=rfl
theorem R.bU {α β:Type}{r:R α}{k:α->R β}{y:β}(h:r.bind k=.ok y):∃a,r=.ok a/\k a=.ok y:=by
 cases r with
 |ok a=>exact⟨a,rfl,h⟩
 |err c=>cases h
 |bad=>cases h
theorem lg{α:Type}{E:Str->Hp->Prop}{H₀:Hp}{r:R α}{a:α}{p:α->Prop}(e:r=.ok a)(h:p a):Good E H₀ r p:=by rw[e];exact h
section
variable{X:Cx}{E:Str->Hp->Prop}{pos:Pos}{scope:Scope}{N:List Str}{nt:Nat}{caps:List Nat}
theorem sN{K:PySem.W.Frag}{g:Gh}{e:DE}{σ:St}{H H':Hp}{a:Addr}{ds:List D}{ts:DE}(r:Rel K g e σ H [a])(he:e=ts++ds.map .val)(hl:ts.length=nt)(x:Ext (g.P [a]) (g.P [a]) H H')(s:aB g.H₀ H')(hn:∃o,H' a=some o):
  Rel K g (dX nt ds) σ H' [a]:=by
 subst he
 refine⟨by rw[r.len];simp[dX,hl],s,fun i d e=>?_,fun i xs e=>(nR e).elim,fun i j xs ys b e=>(nR e).elim,fun b hb=>?_,fun i w e=>(w9 e).elim,ym.none fun i w e=>tY e⟩
 ·obtain⟨h1,h2⟩:=w6 e
  obtain⟨v,q1,q2⟩:=r.val i d (by rw[getElem?_append_right (by omega),hl,getElem?_map,h2];rfl)
  exact⟨v,q1,Is.ext x _ _ q2⟩
 ·have e:b=a:=by simpa using hb
  subst e
  exact⟨(r.new b hb).1,hn⟩
def QU(X:Cx)(pins:List (Addr×Obj))(σ:St)(g:Gh)(os:List Addr)(H:Hp)(use:Option (Value->Sem Unit))(Qv:Value->Shared->Prop)(ys:List D):Prop:=
 ∀(Dd C:Addr)(acc:List V)(Hx:Hp)(s6:Shared),Inv X pins σ Hx s6->(∃m,s6.heap.Ns C m)->jI X pins Hx C->aB H Hx->H Dd=none->Hx Dd=some (.lst acc)->IsL X.K (g.P (Dd::os)) Hx ys acc->
  compPost (model X.prog X.w) X.A X.xe use Qv (.ref Dd) C (.ok .next) s6
theorem Io{elt tg iter:Expr}{ifs:List Expr}{fi:DE->R (List D)}{b:D->DE->R DE}{ct:DE->R Bool}{fe:DE->R D}(S:gU X scope N nt caps)(pL:X.calm=true)(hi:PI X tg iter (Pj X.K E fi))
  (hb1:∀ds d e,b d (dX nt ds)=.ok e->∃ts,e=ts++ds.map .val/\ts.length=nt)
  (hg:∀s H fp C pl,PG (qO X scope N s H fp C pl) tg (tG X.K EN b))(ht:∀s H fp C pl,Pk (qO X scope N s H fp C pl) ifs (tT X.K EN ct))(he:∀s H fp C pl,PE (qO X scope N s H fp C pl) elt (tD X.K EN fe))
  (hs:∀x,foldedSetIterable iter X.env x=pure x){use:Option (Value->Sem Unit)}{Qv:Value->Shared->Prop}{pins:List (Addr×Obj)}{s:Shared}{σ:St}{H:Hp}{env:DE}{os:List Addr}{g:Gh}(I:Inv X pins σ H s)(r:Rel X.K g env σ H os)
  (m:Good E g.H₀ ((fi env).bind fun xs=>(cR env caps).bind fun ds=>(bu b ct fe (dX nt ds) xs).ne.bind fit) (QU X pins σ g os H use Qv)){ps:Pos}:
  wpAny (model X.prog X.w) X.A (comprehension (.ListComp elt [⟨tg,iter,ifs,0⟩] scope pos) scope X.env ps (newList []) false (eval iter X.env) use) Qv X.xe s:=by
 refine wpAny_comprehension_free (use:=use) rfl hs (j9 (S.cells I)) S.kind S.names ?_
 refine bD (hi pins s σ H (fun J H1=>∃xs,aB H H1/\Va X.K (g.P os) J H1 xs/\Good E g.H₀ ((cR env caps).bind fun ds=>(bu b ct fe (dX nt ds) xs).ne.bind fit) _) I ⟨g,env,os,r,m.bind.mono fun xs _ m1 J H1 s1 yl=>⟨xs,s1,yl,m1⟩⟩) fun v s1 h1=>bD h1 fun itv s2 h2=>?_
 obtain⟨it,fp,tn,J,H2,rfl,I2,T,yb,f2,xs,CO,yl,m1⟩:=h2
 have r2:=r.same CO
 obtain⟨ds,vs,m2,MO,Tf,hds,hvs⟩:=m1.bind.cR r2
 cases ec:bu b ct fe (dX nt ds) xs with
 |bad=>rw[ec]at m2;exact m2.elim
 |err c=>rw[ec]at m2;exact m2.elim
 |ok ys=>
 rw[ec]at m2
 obtain⟨hz,q⟩:=(show Good E g.H₀ (fit ys) _ from m2).fit
 refine wpAny_newObj_type (wpAny_newFunctionEnv S.cell (by intro y hy;simp at hy) (fun h₁ zZ hsb₁=>?_) S.kind)
 dsimp only at zZ hsb₁⊢
 have CP:H2 s2.heap.objs.size=none:=I2.hok.fresh (Nat.le_refl _)
 have I3:Inv X pins σ (upd H2 s2.heap.objs.size (.lst [])) {s2 with heap:=s2.heap.push {cls:=.type "list",dict:=none,data:=.seq ([]:List Value).toArray}}:=
  I2.laid (t':=s2.toks) (fun b u e=>Heap.get?_push_of_some _ e) (Nat.le_refl _) ⟨zero_le _,[],0,.nil,Heap.get?_push_size _ rfl⟩
 generalize Kc:({s2 with heap:=s2.heap.push {cls:=.type "list",dict:=none,data:=.seq ([]:List Value).toArray}}:Shared)=s3 at I3
 have Es:s3.heap=s2.heap.push {cls:=.type "list",dict:=none,data:=.seq ([]:List Value).toArray}:=by rw[<-Kc]
 rw[<-Es]at zZ hsb₁⊢
 generalize QV:s2.heap.objs.size=Dd at*
 have k3:∀b o,s3.heap.get? b=some o->h₁.get? b=some o:=fun b o e=>hsb₁.extBut b o (ne_of_lt (Heap.lt_size e)) (Heap.get?_push_of_some _ e)
 have yt:∀b∈fp,∃o,s2.heap.get? b=some o:=fun b hb=>let⟨o,e,_⟩:=T.obj 0 _ yb b hb;⟨o,e⟩
 have Et:∀b∈fp,∃o,s3.heap.get? b=some o:=fun b hb=>let⟨o,e⟩:=yt b hb;⟨o,by rw[Es];exact Heap.get?_push_of_some _ e⟩
 have QW:∀b∈fp,b≠Dd:=fun b hb=>let⟨o,e⟩:=yt b hb;by rw[<-QV];exact ne_of_lt (Heap.lt_size e)
 have f3:∀b∈fp,jI X pins (upd H2 Dd (.lst [])) b:=fun b hb=>⟨by rw[ah (QW b hb)];exact(f2 b hb).1,(f2 b hb).2⟩
 have sD:aB H2 (upd H2 Dd (.lst [])):=aD CP _
 have I4:=S.start (t':=s2.toks+([]:List (Str×Value)).length) I3 f3 (Nat.le_refl _) zZ k3 Et MO (fun j i v e1 e2=>hvs j i v e1 e2) _ rfl
 generalize hX:qO X scope N s3 (upd H2 Dd (.lst [])) fp s3.heap.objs.size (X.pn++pins)=X' at I4
 have Kd:=hg s3 (upd H2 Dd (.lst [])) fp s3.heap.objs.size (X.pn++pins)
 have z0:=ht s3 (upd H2 Dd (.lst [])) fp s3.heap.objs.size (X.pn++pins)
 have Hf:=he s3 (upd H2 Dd (.lst [])) fp s3.heap.objs.size (X.pn++pins)
 rw[hX]at Kd z0 Hf
 have eK:X'.K=X.K:=by rw[<-hX];rfl
 have eP:X'.prog=X.prog:=by rw[<-hX];rfl
 have eW:X'.w=X.w:=by rw[<-hX];rfl
 have eA:X'.A=X.A:=by rw[<-hX];rfl
 have eE:X'.xe=fun _ _=>False:=by rw[<-hX];rfl
 have eC:X'.calm=true:=by rw[<-hX];exact pL
 have eL:X'.env.locals=s3.heap.objs.size:=by rw[<-hX];rfl
 have eS:X'.s₀=s3:=by rw[<-hX];rfl
 have eX:X'.ex=fp:=by rw[<-hX];rfl
 have eF:X'.fs=xR X.stack:=by rw[<-hX];rfl
 have eN:X'.pn=X.pn++pins:=by rw[<-hX];rfl
 have eH:X'.H₀=upd H2 Dd (.lst []):=by rw[<-hX];rfl
 have eV:X'.env=compEnvC scope (vW X.env.cells scope.names []) s3.heap.objs.size X.env:=by rw[<-hX];rfl
 have Eu:∀{Hx:Hp},(∀b∈fp,Hx b=none)->∀b∈fp,jI X' [] Hx b:=fun{Hx} hn b hb=>by
  obtain⟨_,c1,c2,c3,c4,c5⟩:=f3 b hb
  have q:=I4.ok.LX b (by rw[eX];exact hb)
  refine⟨hn b hb,q.1,I4.ok.wI b (by rw[eX];exact hb),.inl (by rw[eX];exact hb),q.2,fun p hp=>?_⟩
  rw[eN,append_nil]at hp
  exact c5 p hp
 let g':Gh:=⟨g.P os,H2⟩
 have QX:∀{Hx:Hp},aB H2 Hx->Ext (g.P os) (g'.P [Dd]) H2 Hx:=fun sx=>⟨fun a o p e=>⟨.inl p,fun z=>by
  have z':a=Dd:=by simpa using z
  rw[z',CP]at e;cases e⟩,fun a o _ e=>sx a o e⟩
 have MP:Rel X.K g' (dX nt ds) (replicate nt none++vs.map some) (upd H2 Dd (.lst [])) [Dd]:=by
  refine⟨by simp[dX,MO,Tf],sD,fun i d e=>?_,fun i xs e=>(nR e).elim,fun i j xs ys b e=>(nR e).elim,fun b hb=>?_,fun i w e=>(w9 e).elim,ym.none fun i w e=>tY e⟩
  ·obtain⟨h1,h2⟩:=w6 e
   obtain⟨v,q1,q2⟩:=hds.get h2
   refine⟨v,?_,Is.ext (QX sD) _ _ q2⟩
   rw[getElem?_append_right (by simpa using h1),getElem?_map,length_replicate,q1]<;>rfl
  ·have e:b=Dd:=by simpa using hb
   subst e
   exact⟨CP,_,ak⟩
 have loop:∀s4:Shared,Inv X' [] (replicate nt none++vs.map some) (upd H2 Dd (.lst [])) s4->tn 0 s4.heap->
   codeAny (model X.prog X.w) X.A (.compLoop (.ListComp elt [⟨tg,iter,ifs,0⟩] scope pos) 0 (.ref it) (.ref Dd) (compEnvC scope (vW X.env.cells scope.names []) s3.heap.objs.size X.env))
    (compPost (model X.prog X.w) X.A X.xe use Qv (.ref Dd) s3.heap.objs.size) s4:=by
  intro s4 J4 yu
  refine mJ (fun n s'=>∃i acc as rest Hx σ',n=xs.length-i/\i<=xs.length/\Inv X' [] σ' Hx s'/\tn i s'.heap/\(∀b∈fp,Hx b=none)/\Hx Dd=some (.lst acc)/\IsL X.K (g'.P [Dd]) Hx as acc/\
   bu b ct fe (dX nt ds) (xs.drop i)=.ok rest/\as++rest=ys/\Rel X.K g' (dX nt ds) σ' Hx [Dd]) ?_ xs.length
   ⟨0,[],[],ys,_,_,by simp,zero_le _,J4,yu,fun b hb=>(f3 b hb).1,ak,rfl,by rw[drop_zero];exact ec,rfl,MP⟩
  rintro n s5 ⟨i,acc,as,rest,Hx,σ5,rfl,X1,J5,Dt,CA,Hg,MQ,c5,e5,r5⟩
  obtain⟨y1,y2⟩:=yl i Hx (g'.P [Dd]) r5.ext (QX r5.ext)
  by_cases hlt:i<xs.length
  ·have hx:xs[i]?=some xs[i]:=getElem?_eq_getElem hlt
   obtain⟨go,y3⟩:=y1 _ hx
   rw[List.drop_eq_getElem_cons hlt]at c5
   obtain⟨e1,Ip,c6⟩:=R.bU (show(b xs[i] (dX nt ds)).bind _=.ok rest from c5)
   obtain⟨t,Pn,c7⟩:=R.bU c6
   have TI:=T.item X' eP eW eK eC i [] s5 σ5 Hx (fun _ _=>False) J5 (Eu CA) Dt go
   rw[eA]at TI
   refine bD TI fun r s6 h6=>?_
   obtain⟨u,rfl,h6⟩:=h6
   refine bD h6 fun _ s7 h7=>?_
   obtain⟨x,H7,J7,rx,hy,Ew,QY⟩:=h7
   obtain⟨CQ,hix⟩:=y3 x H7 hy
   have ix:Is X.K (g'.P [Dd]) H7 xs[i] x:=Is.ext ⟨fun a o p _=>p.elim (fun z=>z) fun z=>r5.fresh z,fun _ _ _ z=>z⟩ _ _ hix
   have QZ:=J7.pinned (Eu QY) (T.obj _ _ Ew)
   have TG:=Kd _ s7 σ5 H7 x u (fun σ8 H8=>∃e8,b xs[i] (dX nt ds)=.ok e8/\Rel X.K g' e8 σ8 H8 [Dd]/\H8=H7) QZ rx ⟨g',dX nt ds,[Dd],xs[i],r5.same CQ,ix,lg Ip fun σ8 r8=>⟨e1,Ip,r8,rfl⟩⟩
   rw[eP,eW,eA,eE,eV]at TG
   refine bD TG fun _ s8 h8=>?_
   obtain⟨σ8,H8,J8,e8,Q0,r8,Tg⟩:=h8
   rw[Tg]at J8 r8
   rw[Ip]at Q0
   cases Q0
   have TT:=z0 _ s8 σ8 H7 (fun t' H9=>t'=t/\aB H7 H9) J8 ⟨g',e1,[Dd],r8,lg Pn fun H9 s9=>⟨rfl,s9⟩⟩
   rw[eP,eW,eA,eE,eV]at TT
   refine bD TT fun ok s9 h9=>?_
   obtain⟨H9,J9,rfl,vp⟩:=h9
   obtain⟨ts,hts,Ir⟩:=hb1 ds _ _ Ip
   have tZ:∀{σx:St}{Hy:Hp}{sx:Shared},Inv X' ([]++oW fp s7.heap) σx Hy sx->tn (i+1) sx.heap/\∀b∈fp,Hy b=none:=fun{σx Hy sx} Jx=>
    ⟨T.keep _ _ _ Ew fun b hb o e=>(Jx.pin (b,o) (mem_append_right _ (mem_append_right _ (du hb e)))).1,fun b hb=>by
     obtain⟨o,e,d⟩:=T.obj _ _ Ew b hb
     exact(Jx.pin (b,o) (mem_append_right _ (mem_append_right _ (du hb e)))).2.1⟩
   cases ok with
   |false=>
    rw[if_neg Bool.false_ne_true]
    have c8:bu b ct fe (dX nt ds) (xs.drop (i+1))=.ok rest:=c7
    obtain⟨k1,k2⟩:=tZ J9
    exact⟨xs.length-(i+1),by omega,i+1,acc,as,rest,H9,σ8,rfl,hlt,J9.g8,k1,k2,vp _ _ (CQ _ _ Hg),(MQ.same CQ).same vp,c8,e5,
     sN r8 hts Ir (.same vp) (r8.ext.trans vp) ⟨_,vp _ _ (CQ _ _ Hg)⟩⟩
   |true=>
    rw[if_pos rfl]
    obtain⟨d,Vf,c8⟩:=R.bU (show(fe e1).bind _=.ok rest from c7)
    obtain⟨t8,Vg,c9⟩:=R.bU c8
    have Vh:rest=d::t8:=by cases c9;rfl
    subst Vh
    have TE:=Hf _ s9 σ8 H9 (fun v pM=>aB H9 pM/\Is X.K (g'.P [Dd]) pM d v) J9 ⟨g',e1,[Dd],r8.same vp,lg Vf fun v pM Iu Vi=>⟨Iu,Vi⟩⟩
    rw[eP,eW,eA,eE,eV]at TE
    refine bD TE fun y Iu Q1=>?_
    obtain⟨v,pM,Q2,rv,xf,iv⟩:=Q1
    have Ex:pM Dd=some (.lst acc):=xf _ _ (vp _ _ (CQ _ _ Hg))
    have Ey:IsL X.K (g'.P [Dd]) pM as acc:=((MQ.same CQ).same vp).same xf
    have TM:=cV (X:=X') _ Iu σ8 pM (.ref Dd) [v] (.ref Dd) [y] (fun _ Iw=>Iw=upd pM Dd (.lst (acc++[v]))) Q2 rfl (.cons rv .nil) ⟨Dd,acc,v,rfl,rfl,Ex,by
     rw[Ey.length]
     have:(as++d::t8).length<=sizeLine:=by rw[e5];exact hz
     rw[length_append,length_cons]at this
     omega,rfl⟩
    rw[eP,eW,eA,eE]at TM
    refine bD TM fun _ X2 h11=>?_
    obtain⟨v',Iw,Ke,_,rfl⟩:=h11
    obtain⟨k1,k2⟩:=tZ Ke
    have Q3:Ext (g'.P [Dd]) (g'.P [Dd]) pM (upd pM Dd (.lst (acc++[v]))):=⟨fun _ _ p _=>p,fun a o p e=>by rw[ah (fun z=>p.2 (by simp[z]))];exact e⟩
    have MR:aB H2 pM:=(r8.ext.trans vp).trans xf
    refine⟨xs.length-(i+1),by omega,i+1,acc++[v],as++[d],t8,_,σ8,rfl,hlt,Ke.g8,k1,k2,ak,IsL.ext Q3 _ _ (Ey.app (.one iv)),Vg,by rw[List.append_assoc];exact e5,?_⟩
    exact sN (r8.same (vp.trans xf)) hts Ir Q3 (fun a o e=>by rw[ah (ao (show H2 a=some o from e) CP)];exact MR a o e) ⟨_,ak⟩
  ·have e:i=xs.length:=by omega
   subst e
   rw[drop_length]at c5
   have Vj:rest=[]:=by cases c5;rfl
   subst Vj
   rw[append_nil]at e5
   subst e5
   have TD:=T.done X' eP eW eK eC xs.length [] s5 σ5 Hx (fun _ _=>False) J5 (Eu CA) Dt (y2 rfl)
   rw[eA]at TD
   refine bD TD fun r s6 h6=>?_
   obtain⟨rfl,J6⟩:=h6
   obtain⟨m6,Dw,_⟩:=J6.loc
   rw[eL]at Dw
   have Q4:Un (xR X.stack) fp (upd H2 Dd (.lst [])) Hx s3.heap s6.heap:=by
    have u:=J6.base
    rw[eF,eX,eH,eS]at u
    exact u
   have hxC:Hx s3.heap.objs.size=none:=by have:=J6.free;rw[eL]at this;exact this
   have Ez:nK X.prog X.w Hx s6.heap:=by
    have z:=J6.hok
    rw[eP,eW]at z
    exact z
   have Q5:s6.os=s3.os:=by have:=J6.os;rw[eS]at this;exact this
   have I6:Inv X pins σ Hx s6:=I3.DI (s':=s6) Q5 Q4 Ez J6.bare fun b hb=>by
    obtain⟨_,c1,c2,c3,c4,c5⟩:=f3 b hb
    exact⟨c3,c1,c4,c5⟩
   have fC:jI X pins Hx s3.heap.objs.size:=⟨hxC,(I3.zJ (Nat.le_refl _) (I3.hok.fresh (Nat.le_refl _))).2⟩
   refine q Dd s3.heap.objs.size acc Hx s6 I6 ⟨m6,Dw⟩ fC (CO.trans r5.ext) (CO.free CP) Hg (IsL.ext ⟨fun a o p _=>?_,fun _ _ _ z=>z⟩ _ _ MQ)
   have z:g.P os a:=p.1.elim (fun z=>z) fun z=>r2.fresh z
   exact⟨z.1,fun hm=>(mem_cons.mp hm).elim (fun z=>p.2 (by simp[z])) z.2⟩
 have yu:tn 0 h₁:=T.keep _ _ _ yb fun b hb o e=>k3 b o (by rw[Es];exact Heap.get?_push_of_some _ e)
 have eG:({heap:=h₁,gens:=s3.gens,drawn:=s3.drawn,toks:=s2.toks+([]:List (Str×Value)).length,os:=s3.os}:Shared)={heap:=h₁,gens:=s2.gens,drawn:=s2.drawn,toks:=s2.toks+([]:List (Str×Value)).length,os:=s2.os}:=by rw[<-Kc]
 rw[eG]at I4
 exact codeAny_compStart_list (loop _ I4 yu) (T.self _ 0 _ _ _ yu (loop _ I4 yu))
variable{elt tg iter:Expr}{ifs:List Expr}{fi:DE->R (List D)}{b:D->DE->R DE}{ct:DE->R Bool}{fe:DE->R D}
theorem mK(S:gU X scope N nt caps)(pL:X.calm=true)(hi:PI X tg iter (Pj X.K E fi))
  (hb1:∀ds d e,b d (dX nt ds)=.ok e->∃ts,e=ts++ds.map .val/\ts.length=nt)
  (hg:∀s H fp C pl,PG (qO X scope N s H fp C pl) tg (tG X.K EN b))(ht:∀s H fp C pl,Pk (qO X scope N s H fp C pl) ifs (tT X.K EN ct))(he:∀s H fp C pl,PE (qO X scope N s H fp C pl) elt (tD X.K EN fe))
  (hs:∀x,foldedSetIterable iter X.env x=pure x:=by intro _;rfl):
  PE X (.ListComp elt [⟨tg,iter,ifs,0⟩] scope pos) (tF X.K E fun env=>(fi env).bind fun xs=>(cR env caps).bind fun ds=>(bu b ct fe (dX nt ds) xs).ne.bind fit):=by
 intro pins s σ H Q I h
 obtain⟨g,env,os,r,m⟩:=h
 rw[eval_ListComp]
 refine Io S pL hi hb1 hg ht he hs I r (m.mono fun ys _ q Dd C acc Hx s6 I6 hn fC sm hD hx ia=>?_)
 obtain⟨m6,Dw⟩:=hn
 refine⟨m6,Dw,fun h7 Q6=>⟨.ref Dd,Hx,vX (fp:=[C]) (t':=s6.toks) I6 (fun b hb=>by
  have z:b=C:=by simpa using hb
  rw[z];exact fC) (fun b u hb e=>(Q6.2 b (fun z=>hb (by simp[z]))).trans e),rfl,q Dd acc Hx sm hD hx ia⟩⟩
end
section
variable{X:Cx}{pins:List (Addr×Obj)}{σ:St}{H:Hp}{s:Shared}{h':Heap}
theorem Iz{fp:List Addr}{t:Addr}{o:HO}{t':Nat}(I:Inv X pins σ H s)(hf:∀b∈fp,jI X pins H b)(k:∀b u,b∉fp->s.heap.get? b=some u->h'.get? b=some u)(hex:∀b∈fp,∀u,s.heap.get? b=some u->∃u',h'.get? b=some u')(ht:s.heap.objs.size<=t)
  (new:cB X.prog X.w (upd H t o) h' t o):Inv X pins σ (upd H t o) {s with heap:=h',toks:=t'}:=by
 have hn:H t=none:=I.hok.fresh ht
 have QT:∀b u,H b=some u->b∉fp:=fun b u e z=>by rw[(hf b z).1]at e;cases e
 refine I.step (g':=s.gens) (d':=s.drawn) (ch:=fp) (fun b hb=>⟨(hf b hb).2.2.2.1,(hf b hb).2.1,(hf b hb).2.2.2.2.1,(hf b hb).2.2.2.2.2⟩) (fun b u _ _ hc e _=>k b u hc e) (fun b u _ _ hc e _=>⟨u.slots,k b u hc e⟩)
  (fun b u _ e n=>by rw[ah (ne_of_lt (lt_of_lt_of_le (Heap.lt_size e) ht))];exact n) (fun b u hc e=>⟨u,k b u hc e⟩)
  (fun b xs e=>by rw[ah (ao e hn)];exact e) (fun b u xs e=>by rw[ah (ao e hn)];exact e) (fun b ps e=>⟨#[],by rw[ah (ao e hn),e];simp⟩)
  (fun m hm=>?_) (fun b u e=>?_) I.bare
 ·obtain⟨ob,es,ep,ho,r⟩:=hm
  exact⟨ob,es,ep,k _ ob (fun z=>(hf _ z).2.1 rfl) ho,r⟩
 ·by_cases hb:b=t
  ·subst hb;rw[ak]at e;cases e;exact new
  ·rw[ah hb]at e
   refine(I.hok b u e).zE (fun c v hc q=>k c v ?_ q) (fun c q=>by rw[ah (ao q hn)];exact q) fun c xs q=>by rw[ah (ao q hn)];exact q
   rcases hc with z|z
   ·rw[z];exact QT b u e
   ·exact QT c _ z
end
def X3(K:PySem.W.Frag)(l:Addr):It:=
 ⟨fun i H=>∃xs x,b7 K H l xs/\xs[i]?=some x,fun i H x H'=>∃t y,H t=none/\H'=upd H t (.tup [.int (i:Nat),y])/\x=.ref t/\∀xs,b7 K H l xs->xs[i]?=some y,fun i H=>∃xs,b7 K H l xs/\xs.length<=i⟩
theorem CS{P:Program}{w:World}{K:PySem.W.Frag}{elts:List Expr}{kk:Nat}{pp:Pos}(l e it:Addr)(hei:e≠it):
  Turn P w K (.Tuple elts kk pp) (X3 K l) [e,it] e (fun i h=>(∃old,IsEnum h e it (i:Nat) old)/\h.IsListIter it l i) where
 mem:=by simp
 obj:=fun i h st b hb=>by
  obtain⟨⟨old,he⟩,o,e2,c,d⟩:=st
  rcases mem_cons.mp hb with rfl|hb
  ·exact⟨_,he,fun v z=>by cases z⟩
  ·have z:b=it:=by simpa using hb
   subst z
   exact⟨o,e2,fun v z=>by rw[d]at z;cases z⟩
 keep:=fun i h h' st k=>by
  obtain⟨⟨old,he⟩,hit⟩:=st
  exact⟨⟨old,k e (by simp) _ he⟩,hit.at fun o q=>k it (by simp) o q⟩
 item:=by
  intro X hP hw hK hc i pins s σ H E I hf st hg
  subst hP hw hK
  obtain⟨xs,x,hq,hx⟩:=hg
  obtain⟨its,rv,p,hz⟩:=I.list hq
  obtain⟨u,hu,ru⟩:=rv.get hx
  obtain⟨⟨old,he⟩,hit⟩:=st
  refine wpAny_pyNext_enum_item he hit p.isList (x:=u) (by simpa using hu) hei fun h' ho z4 hT hsz hk=>?_
  refine⟨_,rfl,wpAny_letOwnedTupleGo_enum ho fun X4 Q7 IA=>?_⟩
  have hlt:e<s.heap.objs.size:=Heap.lt_size he
  have Vk:it<s.heap.objs.size:=by obtain⟨_,z,_⟩:=hit;exact Heap.lt_size z
  have kk:∀b o,b∉[e,it]->s.heap.get? b=some o->X4.get? b=some o:=fun b o hb q=>by
   have h1:b≠e:=fun z=>hb (by simp[z])
   have h2:b≠it:=fun z=>hb (by simp[z])
   exact(IA.2 b h1).trans (hk b o h1 h2 q)
  have Vl:X4.get? s.heap.objs.size=some {cls:=.type "tuple",data:=.seq #[.int i s.toks,u]}:=(IA.2 _ (ne_of_gt hlt)).trans hT
  have hn:H s.heap.objs.size=none:=I.hok.fresh (Nat.le_refl _)
  refine⟨.ref s.heap.objs.size,upd H s.heap.objs.size (.tup [.int (i:Nat),x]),?_,rfl,⟨_,x,hn,rfl,rfl,fun ys hy=>by rw[I.pB hy hq];exact hx⟩,⟨⟨u,by simpa using Q7⟩,z4.at fun o q=>(IA.2 it hei.symm).trans q⟩,fun b hb=>?_⟩
  ·refine Iz (s:=s) I hf kk (fun b hb u hu=>?_) (Nat.le_refl _) ⟨(by show 2<=sizeLine;decide),[.int i s.toks,u],.cons ⟨_,rfl⟩ (.cons ru .nil),⟨_,Vl,rfl,_,rfl⟩⟩
   rcases mem_cons.mp hb with rfl|hb
   ·exact⟨_,Q7⟩
   ·have z:b=it:=by simpa using hb
    subst z
    obtain⟨o,q,_⟩:=z4
    exact⟨o,(IA.2 b hei.symm).trans q⟩
  ·rw[ah]
   ·exact(hf b hb).1
   ·rcases mem_cons.mp hb with rfl|hb
    ·exact ne_of_lt hlt
    ·have z:b=it:=by simpa using hb
     subst z
     exact ne_of_lt Vk
 done:=by
  intro X hP hw hK hc i pins s σ H E I hf st hg
  subst hP hw hK
  obtain⟨xs,hq,hx⟩:=hg
  obtain⟨its,rv,p,hz⟩:=I.list hq
  obtain⟨⟨old,he⟩,hit⟩:=st
  have hl:=rv.length
  refine wpAny_pyNext_enum_end (I.ok.hd hc) he hit p.isList (by simp;omega) fun h' eb=>⟨rfl,?_⟩
  exact vX (fp:=[e,it]) (t':=s.toks) I hf fun b o hb q=>eb b o (fun z=>hb (by simp[z])) q
 self:=fun _ _ _ _ _ st h=>by
  obtain⟨⟨old,he⟩,_⟩:=st
  exact wpAny_pyIter_enum he h
def X5(K:PySem.W.Frag)(l:Addr)(n:Nat):It:=
 ⟨fun i H=>i<n/\∃xs x,b7 K H l xs/\xs.length=n/\xs[n-1-i]?=some x,fun i H x H'=>H'=H/\∀xs,b7 K H l xs->xs[n-1-i]?=some x,fun i H=>i=n/\∃xs,b7 K H l xs⟩
theorem EA{P:Program}{w:World}{K:PySem.W.Frag}{tg:Expr}(l it:Addr)(n:Nat):Turn P w K tg (X5 K l n) [it] it (fun i h=>h.IsRevIter it l ((n:Int)-1-(i:Nat))) where
 mem:=by simp
 obj:=fun i h st b hb=>by
  have z:b=it:=by simpa using hb
  subst z
  obtain⟨o,e,c,d⟩:=st
  exact⟨o,e,fun v z=>by rw[d]at z;cases z⟩
 keep:=fun i h h' st k=>st.at fun o e=>k it (by simp) o e
 item:=by
  intro X hP hw hK hc i pins s σ H E I hf st hg
  subst hP hw hK
  obtain⟨hin,xs,x,hq,hl,hx⟩:=hg
  obtain⟨its,rv,p,hz⟩:=I.list hq
  obtain⟨u,hu,ru⟩:=rv.get hx
  have e1:(n:Int)-1-(i:Nat)=((n-1-i:Nat):Int):=by omega
  rw[e1]at st
  refine wpAny_pyNext_rev_item st p.isList (x:=u) (by simpa using hu) fun h' HG sb=>?_
  have I1:Inv X pins σ H {s with heap:=h'}:=vX (fp:=[it]) (t':=s.toks) I hf fun b o hb q=>(sb.2 b (fun z=>hb (by simp[z]))).trans q
  obtain⟨o,e,c,d⟩:=id HG
  have e2:((n-1-i:Nat):Int)-1=(n:Int)-1-((i+1:Nat):Int):=by omega
  rw[e2]at HG
  exact⟨u,rfl,DS (s:={s with heap:=h'}) e c d (by decide) ⟨x,H,I1,ru,⟨rfl,fun ys hy=>by rw[I.pB hy hq];exact hx⟩,HG,fun b hb=>(hf b hb).1⟩⟩
 done:=by
  intro X hP hw hK hc i pins s σ H E I hf st hg
  subst hP hw hK
  obtain⟨rfl,xs,hq⟩:=hg
  have e1:(i:Int)-1-(i:Nat)= -1:=by omega
  rw[e1]at st
  exact wpAny_pyNext_rev_end (I.ok.hd hc) st fun h' eb=>⟨rfl,vX (fp:=[it]) (t':=s.toks) I hf fun b o hb q=>eb b o (fun z=>hb (by simp[z])) q⟩
 self:=fun _ _ _ _ _ st h=>wpAny_pyIter_revIter st h
section
variable{X:Cx}{E:Str->Hp->Prop}{pos:Pos}
def dB(xs:List D):List D:=xs.zipIdx.map fun p=>.tup [.int (p.2:Nat),p.1]
theorem qP{xs:List D}{i:Nat}{d:D}(h:(dB xs)[i]?=some d):∃x,xs[i]?=some x/\d=.tup [.int (i:Nat),x]:=by
 unfold dB at h
 rw[getElem?_map,List.getElem?_zipIdx]at h
 cases q:xs[i]? with
 |none=>rw[q]at h;cases h
 |some x=>
  rw[q]at h
  refine⟨x,rfl,?_⟩
  have h':some (D.tup [.int ((0+i:Nat):Int),x])=some d:=h
  rw[zero_add]at h'
  exact(Option.some.inj h').symm
theorem iE{a:Expr}{elts:List Expr}{kk:Nat}{pp p:Pos}{f:DE->R D}(hm:X.mg "enumerate"=none)(ha:PE X a (tD X.K E f))(hg:Gl X "enumerate":=by rfl)(hs:starEach [a] X.env=[(false,eval a X.env)]:=by rfl):
  PI X (.Tuple elts kk pp) (.Call (.Name "enumerate" p) [a] [] pos) (tI X.K E fun env=>(f env).bind fun d=>(qK d).bind fun xs=>.ok (dB xs)):=by
 intro pins s σ H Rr I h
 obtain⟨g,env,os,r,m⟩:=h
 have Q8:PA X [a] (Ef X.K E fun env=>(f env).bind fun x=>(R.ok []).bind fun xs=>.ok (x::xs)):=aG ha cz hs
 refine Call_ (dS I hg hm boot_enumerate (PyProof.Rows.callWith_type1 (bD (Q8 pos pins s σ H (fun vs H1=>aB H H1/\∃d,f env=.ok d/\∃v,vs=[v]/\Is X.K (g.P os) H1 d v/\Good E g.H₀ ((qK d).bind fun xs=>.ok (dB xs)) (fun xs=>∀J H1,aB H H1->Yl X.K (g.P os) J H1 xs->Rr J H1)) I
  ⟨g,env,os,r,?_⟩) fun us s1 ⟨vs,H1,I1,r1,q1⟩=>?_) hs rfl))
 ·exact Good.A8 m.bind (fun d e q=>by
   show Good E g.H₀ (R.ok [d]) _
   exact fun vs H' s' i'=>by
    obtain⟨v,rfl,iv⟩:=IsL.vo i'
    exact⟨s',d,e,v,rfl,iv,q⟩)
 ·obtain⟨Vm,d,_,v,rfl,iv,q⟩:=q1
  cases d with
  |lst xs=>
   obtain⟨l,ws,rfl,h1,h2⟩:=iv
   obtain⟨u,rfl,ru⟩:=vals1 r1
   cases ru
   obtain⟨its,rv,pl,hz⟩:=I1.list h1.sq
   refine call_enumerate_list pl.isList fun h' he hit hsz hk=>?_
   refine wpAny_pyIter_enum he ?_
   have I2:Inv X pins σ H1 {s1 with heap:=h'}:=I1.kept (t':=s1.toks) hk
   have f1:∀b∈[s1.heap.objs.size+1,s1.heap.objs.size],jI X pins H1 b:=fun b hb=>by
    have Hh:s1.heap.objs.size<=b:=by
     simp only [mem_cons,not_mem_nil,or_false]at hb
     rcases hb with rfl|rfl<;>omega
    exact I1.zJ Hh (I1.hok.fresh Hh)
   refine⟨s1.heap.objs.size+1,[s1.heap.objs.size+1,s1.heap.objs.size],_,X3 X.K l,H1,rfl,I2,CS l _ _ (ne_of_gt (lt_succ_self _)),⟨⟨_,he⟩,hit⟩,f1,?_⟩
   refine(show∀J H1,aB H H1->Yl X.K (g.P os) J H1 (dB xs)->Rr J H1 from q) _ H1 Vm fun i H' P' ex=>⟨fun d hd=>?_,fun hi=>?_⟩
   ·obtain⟨x,hx,rfl⟩:=qP hd
    obtain⟨y,hy,iy⟩:=(IsL.ext ex _ _ h2).get hx
    refine⟨⟨ws,y,(h1.ext ex).sq,hy⟩,fun z H2 Vn=>?_⟩
    obtain⟨t,y',ht,rfl,rfl,hall⟩:=Vn
    have e2:=hall ws (h1.ext ex).sq
    rw[hy]at e2
    cases e2
    refine⟨aD ht _,t,_,rfl,.inl ⟨.inr ht,.inl ak⟩,IsL.cons rfl (IsL.one (Is.ext ⟨fun _ _ p _=>.inl p,fun a o _ e=>aD ht _ a o e⟩ _ _ iy))⟩
   ·refine⟨ws,(h1.ext ex).sq,?_⟩
    rw[IsL.length h2]
    refine le_of_eq ?_
    have:(dB xs).length=xs.length:=by simp[dB]
    omega
  |non=>exact q.elim
  |bl _=>exact q.elim
  |int _=>exact q.elim
  |str _=>exact q.elim
  |exc _=>exact q.elim
  |fn _=>exact q.elim
  |tup _=>exact q.elim
theorem mO:bootBuiltins "reversed"=some (.type "reversed"):=by decide +kernel
theorem iV{a tg:Expr}{p:Pos}{f:DE->R D}(hm:X.mg "reversed"=none)(ha:PE X a (tD X.K E f))(hg:Gl X "reversed":=by rfl)(hs:starEach [a] X.env=[(false,eval a X.env)]:=by rfl):
  PI X tg (.Call (.Name "reversed" p) [a] [] pos) (tI X.K E fun env=>(f env).bind fun d=>(qK d).bind fun xs=>.ok xs.reverse):=by
 intro pins s σ H Rr I h
 obtain⟨g,env,os,r,m⟩:=h
 have Q8:PA X [a] (Ef X.K E fun env=>(f env).bind fun x=>(R.ok []).bind fun xs=>.ok (x::xs)):=aG ha cz hs
 refine Call_ (dS I hg hm mO (PyProof.Rows.callWith_type1 (bD (Q8 pos pins s σ H (fun vs H1=>aB H H1/\∃d,f env=.ok d/\∃v,vs=[v]/\Is X.K (g.P os) H1 d v/\Good E g.H₀ ((qK d).bind fun xs=>.ok xs.reverse) (fun xs=>∀J H1,aB H H1->Yl X.K (g.P os) J H1 xs->Rr J H1)) I
  ⟨g,env,os,r,?_⟩) fun us s1 ⟨vs,H1,I1,r1,q1⟩=>?_) hs rfl))
 ·exact Good.A8 m.bind (fun d e q=>by
   show Good E g.H₀ (R.ok [d]) _
   exact fun vs H' s' i'=>by
    obtain⟨v,rfl,iv⟩:=IsL.vo i'
    exact⟨s',d,e,v,rfl,iv,q⟩)
 ·obtain⟨Vm,d,_,v,rfl,iv,q⟩:=q1
  cases d with
  |lst xs=>
   obtain⟨l,ws,rfl,h1,h2⟩:=iv
   obtain⟨u,rfl,ru⟩:=vals1 r1
   cases ru
   obtain⟨its,rv,pl,hz⟩:=I1.list h1.sq
   have hl:=rv.length
   have hl2:ws.length=xs.length:=IsL.length h2
   refine call_reversed_list pl.isList ?_
   have e0:((its.toArray.size:Nat):Int)-1=(xs.length:Int)-1:=by rw[size_toArray];omega
   rw[e0]
   have hit:({s1 with heap:=s1.heap.push (PySem.revObj l ((xs.length:Int)-1))}:Shared).heap.IsRevIter s1.heap.objs.size l ((xs.length:Int)-1):=⟨_,Heap.get?_push_size _ rfl,rfl,rfl⟩
   refine wpAny_pyIter_revIter hit ?_
   have I2:Inv X pins σ H1 {s1 with heap:=s1.heap.push (PySem.revObj l ((xs.length:Int)-1))}:=I1.kept (t':=s1.toks) fun b o e=>Heap.get?_push_of_some _ e
   have f1:∀b∈[s1.heap.objs.size],jI X pins H1 b:=fun b hb=>by
    have z:b=s1.heap.objs.size:=by simpa using hb
    subst z
    exact I1.zJ (Nat.le_refl _) (I1.hok.fresh (Nat.le_refl _))
   refine⟨_,[s1.heap.objs.size],_,X5 X.K l xs.length,H1,rfl,I2,EA l _ xs.length,?_,f1,?_⟩
   ·have e1:(xs.length:Int)-1-((0:Nat):Int)=(xs.length:Int)-1:=by omega
    rw[e1];exact hit
   refine(show∀J H1,aB H H1->Yl X.K (g.P os) J H1 xs.reverse->Rr J H1 from q) _ H1 Vm fun i H' P' ex=>⟨fun d hd=>?_,fun hi=>?_⟩
   ·have hi:i<xs.length:=by
     have:=(List.getElem?_eq_some_iff.mp hd).1
     simpa using this
    rw[getElem?_reverse hi]at hd
    obtain⟨y,hy,iy⟩:=(IsL.ext ex _ _ h2).get hd
    refine⟨⟨hi,ws,y,(h1.ext ex).sq,hl2,hy⟩,fun z H2 Vn=>?_⟩
    obtain⟨rfl,hall⟩:=Vn
    have e2:=hall ws (h1.ext ex).sq
    rw[hy]at e2
    cases e2
    exact⟨aB.refl _,Is.ext ⟨fun _ _ p _=>.inl p,fun _ _ _ e=>e⟩ _ _ iy⟩
   ·exact⟨by simpa using hi.symm,ws,(h1.ext ex).sq⟩
  |non=>exact q.elim
  |bl _=>exact q.elim
  |int _=>exact q.elim
  |str _=>exact q.elim
  |exc _=>exact q.elim
  |fn _=>exact q.elim
  |tup _=>exact q.elim
end
def xg:D->String
 |.non=>"NoneType"
 |.bl _=>"bool"
 |.int _=>"int"
 |.str _=>"str"
 |.lst _=>"list"
 |.tup _=>"tuple"
 |.exc _=>"tuple"
 |.fn _=>"tuple"
def jk(t T:String):Bool:=t==T||(t=="bool"&&T=="int")
def yv(t T:String):Option Bool:=if((Value.type t)==(Value.type T))=true then some true else if PySem.W.kitMeta T=true then(fastBuiltinMro t).map (·.contains (.type T))else none
theorem IB(K:PySem.W.Frag)(t T:String):kitOne K (.type t) (.type T)=yv t T:=rfl
def z5(T:String):Prop:=∀d:D,yv (xg d) T=some (jk (xg d) T)
theorem sO{T:String}(h:yv "NoneType" T=some (jk "NoneType" T)/\yv "bool" T=some (jk "bool" T)/\yv "int" T=some (jk "int" T)/\yv "str" T=some (jk "str" T)/\yv "list" T=some (jk "list" T)/\yv "tuple" T=some (jk "tuple" T)):z5 T:=fun d=>by
 cases d with
 |non=>exact h.1
 |bl _=>exact h.2.1
 |int _=>exact h.2.2.1
 |str _=>exact h.2.2.2.1
 |lst _=>exact h.2.2.2.2.1
 |tup _=>exact h.2.2.2.2.2
 |exc _=>exact h.2.2.2.2.2
 |fn _=>exact h.2.2.2.2.2
theorem EB:z5 "int":=sO (by decide +kernel)
theorem Bd:z5 "bool":=sO (by decide +kernel)
theorem Be:z5 "list":=sO (by decide +kernel)
theorem EC:z5 "tuple":=sO (by decide +kernel)
section
variable{X:Cx}{E:Str->Hp->Prop}{pos:Pos}
theorem MS{pins:List (Addr×Obj)}{σ:St}{H:Hp}{s:Shared}{A:Around}{E:Value->Shared->Prop}{Q:Value->Shared->Prop}{d:D}{x:V}{u:Value}{T:String}{P:Addr->Prop}(I:Inv X pins σ H s)(rx:RelV x u)(hd:Is X.K P H d x)(hne:∀n,d≠.exc n/\d≠.fn n)(kt:z5 T)(h:∀tk,Q (.bool (jk (xg d) T)) {s with toks:=tk}):
  wpAny (model X.prog X.w) A (call (.builtin "isinstance") [u,.type T]) Q E s:=by
 have e:kitOne X.K (.type (xg d)) (.type T)=some (jk (xg d) T):=(IB _ _ _).trans (kt d)
 cases d with
 |non=>cases hd;exact nN I rx .non e h
 |bl b=>cases hd;exact nN I rx (.bl b) e h
 |int b=>cases hd;exact nN I rx (.int b) e h
 |str b=>cases hd;exact nN I rx (.str b) e h
 |lst ds=>
  obtain⟨a,vs,rfl,h1,h2⟩:=hd
  cases rx
  obtain⟨its,rv,⟨o,n,e1,c1,d1,t1⟩,hz⟩:=I.list h1.sq
  exact kia_one kitx_list I.qx ⟨o,e1,c1⟩ e (fun z=>nomatch z) h
 |tup ds=>
  obtain⟨a,vs,rfl,h1,h2⟩:=hd
  cases rx
  obtain⟨its,rv,⟨o,e1,c1,d1⟩,hz⟩:=I.tuple h1.sq
  exact kia_one kitx_tuple I.qx ⟨o,e1,c1⟩ e (fun z=>nomatch z) h
 |exc n=>exact((hne n).1 rfl).elim
 |fn n=>exact((hne n).2 rfl).elim
def z6(T:String)(d:D):R D:=match d with
 |.exc _=>.bad
 |.fn _=>.bad
 |d=>.ok (.bl (jk (xg d) T))
theorem MT{T:String}{d:D}(h:∀n,d≠.exc n/\d≠.fn n):z6 T d=.ok (.bl (jk (xg d) T)):=by
 cases d with
 |exc n=>exact((h n).1 rfl).elim
 |fn n=>exact((h n).2 rfl).elim
 |_=>rfl
theorem vq:bootBuiltins "isinstance"=some (.builtin "isinstance"):=by decide +kernel
theorem ED:bootBuiltins "int"=some (.type "int"):=by decide +kernel
theorem Bf:bootBuiltins "bool"=some (.type "bool"):=by decide +kernel
theorem jO:bootBuiltins "list"=some (.type "list"):=by decide +kernel
theorem yw:bootBuiltins "tuple"=some (.type "tuple"):=by decide +kernel
theorem dW:bootBuiltins "len"=some (.builtin "len"):=by decide +kernel
theorem z7:bootBuiltins "abs"=some (.builtin "abs"):=by decide +kernel
theorem MU:bootBuiltins "max"=some (.builtin "max"):=by decide +kernel
theorem z8{T:String}{x:Str}{p p2:Pos}{a:Expr}{f:DE->R D}(kt:z5 T)(hv:bootBuiltins x=some (.type T))(hm:X.mg "isinstance"=none)(hmt:X.mg x=none)(ha:PE X a (tB X.K E f))(hg:Gl X "isinstance":=by rfl)(Z6:Gl X x:=by rfl)
  (hn:x≠"__name__":=by decide)(hdb:(x==("__debug__":Str))=false:=by decide)
  (hs:starEach [a,.Name x p2] X.env=(false,eval a X.env)::starEach [.Name x p2] X.env:=by rfl)(hpl:(backTo pos (starEach [.Name x p2] X.env)).any (·.1)=false:=by rfl)(hs2:starEach [.Name x p2] X.env=(false,eval (.Name x p2) X.env)::starEach [] X.env:=by rfl):
  PE X (.Call (.Name "isinstance" p) [a,.Name x p2] [] pos) (tD X.K E fun env=>(f env).bind (z6 T)):=by
 have hty:PE X (.Name x p2) (tC (.ty T)):=HD Z6 hmt hv rfl hn hdb
 refine imp (g9 (r:=fun xs H Q=>∃d v,xs=[v,.ty T]/\(∀n,d≠.exc n/\d≠.fn n)/\Is X.K Tr H d v/\Q (.bl (jk (xg d) T)) H) ?_ hg hm vq (au ha (au hty aC hs2) hs) (by decide) (by decide) hs hpl) fun σ H Q ⟨g,env,os,r,m⟩=>⟨g,env,os,r,m.bind.mono fun d _ q v H' s i=>?_⟩
 ·intro pins s σ H xs us Q I r h
  obtain⟨d,v,rfl,hne,hd,q⟩:=h
  obtain⟨u,w,rfl,ru,mz⟩:=vals2 r
  have e:w=.type T:=mz
  subst e
  exact MS I ru hd hne kt fun tk=>⟨.bl _,H,I.tok _,rfl,q⟩
 ·by_cases hne:∀n,d≠.exc n/\d≠.fn n
  ·rw[MT hne]at q
   exact⟨d,v,rfl,hne,i,q _ H' s rfl⟩
  ·cases d with
   |exc n=>exact q.elim
   |fn n=>exact q.elim
   |_=>exact(hne fun n=>⟨fun z=>(nomatch z),fun z=>(nomatch z)⟩).elim
def bools:List D->Option (List Bool)
 |[]=>some []
 |.bl b::r=>(bools r).map (b::·)
 |_::_=>none
end
def Po:D->D->Option Bool
 |.non,.non=>some true
 |.bl a,.bl b=>some (a==b)
 |.int a,.int b=>some (a==b)
 |.str a,.str b=>some (a==b)
 |.bl a,.int b=>some ((if a then 1 else 0)==b)
 |.int a,.bl b=>some (a==(if b then 1 else 0))
 |.non,.bl _=>some false
 |.non,.int _=>some false
 |.non,.str _=>some false
 |.bl _,.non=>some false
 |.bl _,.str _=>some false
 |.int _,.non=>some false
 |.int _,.str _=>some false
 |.str _,.non=>some false
 |.str _,.bl _=>some false
 |.str _,.int _=>some false
 |_,_=>none
def pN(f:D->D->Option Bool):List D->List D->Option Bool
 |x::xs,y::ys=>(f x y).bind fun b=>(pN f xs ys).map (b&&·)
 |_,_=>some true
def t9:Nat->D->D->Option Bool
 |0,x,y=>Po x y
 |n+1,x,y=>match x,y with
  |.lst xs,.lst ys=>if xs.length=ys.length then pN (t9 n) xs ys else some false
  |.tup xs,.tup ys=>(pN (t9 n) xs ys).map (·&&xs.length==ys.length)
  |x,y=>Po x y
def MV(f:D->D->Option Bool)(xs ys:List D)(j:Nat):Bool:=((xs[j]?).bind fun x=>(ys[j]?).bind fun y=>f x y).getD false
theorem uc(n:Nat)(e:Nat->Bool):(range (n+1)).all e=(e 0&&(range n).all fun j=>e (j+1)):=by
 rw[List.range_succ_eq_map,List.all_cons,List.all_map]
 rfl
theorem qQ{f:D->D->Option Bool}:∀{xs ys:List D}{b:Bool},pN f xs ys=some b->(∀(j:Nat)(x y:D),xs[j]?=some x->ys[j]?=some y->f x y=some (MV f xs ys j))/\b=(range (min xs.length ys.length)).all (MV f xs ys)
 |[],ys,b,h=>by
  have h':some true=some b:=by cases ys<;>exact h
  cases h'
  exact⟨fun j x y e=>by simp at e,by simp⟩
 |x::xs,[],b,h=>by
  cases h
  exact⟨fun j x y _ e=>by simp at e,by simp⟩
 |x::xs,y::ys,b,h=>by
  unfold pN at h
  cases e1:f x y with
  |none=>rw[e1]at h;cases h
  |some c=>
   cases e2:pN f xs ys with
   |none=>rw[e1,e2]at h;cases h
   |some d=>
    rw[e1,e2]at h
    have h':(c&&d)=b:=Option.some.inj h
    obtain⟨q1,q2⟩:=qQ e2
    refine⟨fun j x' y' h1 h2=>?_,?_⟩
    ·cases j with
     |zero=>
      simp at h1 h2
      subst h1 h2
      show f x y=some (((some x).bind fun x=>(some y).bind fun y=>f x y).getD false)
      simp[e1]
     |succ j=>exact q1 j x' y' (by simpa using h1) (by simpa using h2)
    ·have e3:min (x::xs).length (y::ys).length=min xs.length ys.length+1:=by simp[Nat.succ_min_succ]
     rw[e3,uc,<-h',q2]
     have e4:MV f (x::xs) (y::ys) 0=c:=by
      show(((some x).bind fun x=>(some y).bind fun y=>f x y).getD false)=c
      simp[e1]
     rw[e4];rfl
section
variable{X:Cx}{pins:List (Addr×Obj)}{σ:St}{H:Hp}{s:Shared}
theorem EE{A:Around}{P:Addr->Prop}{x y:D}{v w:V}{u u':Value}{b:Bool}(hx:Is X.K P H x v)(hy:Is X.K P H y w)(rv:RelV v u)(mz:RelV w u')(e:Po x y=some b):SeqAt.EqAt A s u u' b/\SeqAt.RcAt A s u u' b/\SeqAt.RcNeAt A s u u' (!b):=by
 unfold Po at e
 split at e<;>first|cases e|skip
 ·cases hx;cases hy;cases rv;cases mz;exact⟨.same _,.none_none,.none_none⟩
 ·cases hx;cases hy;cases rv;cases mz;exact⟨.bool_bool _ _,.bool_bool _ _,.bool_bool _ _⟩
 ·cases hx;cases hy;obtain⟨t,rfl⟩:=rv;obtain⟨t',rfl⟩:=mz;exact⟨.int_int _ _ _ _,.int_int _ _ _ _,.int_int _ _ _ _⟩
 ·cases hx;cases hy;obtain⟨t,rfl⟩:=rv;obtain⟨t',rfl⟩:=mz;exact⟨.str_str _ _ _ _,.str_str _ _ _ _,.str_str _ _ _ _⟩
 ·cases hx;cases hy;cases rv;obtain⟨t',rfl⟩:=mz;exact⟨.bool_int _ _ _,.bool_int _ _ _,.bool_int _ _ _⟩
 ·cases hx;cases hy;obtain⟨t,rfl⟩:=rv;cases mz;exact⟨.int_bool _ _ _,.int_bool _ _ _,.int_bool _ _ _⟩
 ·cases hx;cases hy;cases rv;cases mz;exact⟨.none_bool _,.none_bool _,.none_bool _⟩
 ·cases hx;cases hy;cases rv;obtain⟨t',rfl⟩:=mz;exact⟨.none_int _ _,.none_int _ _,.none_int _ _⟩
 ·cases hx;cases hy;cases rv;obtain⟨t',rfl⟩:=mz;exact⟨.none_str _ _,.none_str _ _,.none_str _ _⟩
 ·cases hx;cases hy;cases rv;cases mz;exact⟨.bool_none _,.bool_none _,.bool_none _⟩
 ·cases hx;cases hy;cases rv;obtain⟨t',rfl⟩:=mz;exact⟨.bool_str _ _ _,.bool_str _ _ _,.bool_str _ _ _⟩
 ·cases hx;cases hy;obtain⟨t,rfl⟩:=rv;cases mz;exact⟨.int_none _ _,.int_none _ _,.int_none _ _⟩
 ·cases hx;cases hy;obtain⟨t,rfl⟩:=rv;obtain⟨t',rfl⟩:=mz;exact⟨.int_str _ _ _ _,.int_str _ _ _ _,.int_str _ _ _ _⟩
 ·cases hx;cases hy;obtain⟨t,rfl⟩:=rv;cases mz;exact⟨.str_none _ _,.str_none _ _,.str_none _ _⟩
 ·cases hx;cases hy;obtain⟨t,rfl⟩:=rv;cases mz;exact⟨.str_bool _ _ _,.str_bool _ _ _,.str_bool _ _ _⟩
 ·cases hx;cases hy;obtain⟨t,rfl⟩:=rv;obtain⟨t',rfl⟩:=mz;exact⟨.str_int _ _ _ _,.str_int _ _ _ _,.str_int _ _ _ _⟩
theorem yx{P:Addr->Prop}{x y:D}{v:V}{b:Bool}(hx:Is X.K P H x v)(hy:Is X.K P H y v)(e:Po x y=some b):b=true:=by
 unfold Po at e
 split at e<;>first|cases e|skip
 all_goals cases hx
 all_goals cases hy
 all_goals simp
theorem ud{P:Addr->Prop}{f:D->D->Option Bool}:∀{xs ys:List D}{vs:List V}{b:Bool},(∀x y v b,Is X.K P H x v->Is X.K P H y v->f x y=some b->b=true)->IsL X.K P H xs vs->IsL X.K P H ys vs->pN f xs ys=some b->b=true/\xs.length=ys.length
 |[],ys,vs,b,_,hx,hy,e=>by
  have e':vs=[]:=hx
  subst e'
  have:=IsL.length hy
  cases ys with
  |nil=>cases e;exact⟨rfl,rfl⟩
  |cons _ _=>simp at this
 |x::xs,[],vs,b,_,hx,hy,e=>by
  have:=IsL.length hx
  have e':vs=[]:=hy
  subst e'
  simp at this
 |x::xs,y::ys,vs,b,hf,⟨v,r,e1,p1,q1⟩,⟨v',r',e2,p2,q2⟩,e=>by
  subst e1
  cases e2
  unfold pN at e
  cases h1:f x y with
  |none=>rw[h1]at e;cases e
  |some c=>
   cases h2:pN f xs ys with
   |none=>rw[h1,h2]at e;cases e
   |some d=>
    rw[h1,h2]at e
    have e':(c&&d)=b:=Option.some.inj e
    obtain⟨z1,z2⟩:=ud hf q1 q2 h2
    have z3:=hf x y v c p1 p2 h1
    subst z1 z3 e'
    exact⟨rfl,by simp[z2]⟩
theorem pO(I:Inv X pins σ H s){P:Addr->Prop}:∀(n:Nat)(x y:D)(v:V)(b:Bool),Is X.K P H x v->Is X.K P H y v->t9 n x y=some b->b=true
 |0,x,y,v,b,hx,hy,e=>yx hx hy e
 |n+1,x,y,v,b,hx,hy,e=>by
  unfold t9 at e
  split at e
  ·rename_i xs ys
   obtain⟨a,vs,rfl,h1,h2⟩:=hx
   obtain⟨a',A9,ea,h3,h4⟩:=hy
   cases ea
   have ev:=I.pB h1.sq h3.sq
   subst ev
   split at e
   ·exact(ud (pO I n) h2 h4 e).1
   ·rename_i c
    exact absurd ((IsL.length h2).symm.trans (IsL.length h4)) c
  ·rename_i xs ys
   obtain⟨a,vs,rfl,h1,h2⟩:=hx
   obtain⟨a',A9,ea,h3,h4⟩:=hy
   cases ea
   have ev:=I.Cu h1.sq h3.sq
   subst ev
   cases ez:pN (t9 n) xs ys with
   |none=>rw[ez]at e;cases e
   |some c=>
    rw[ez]at e
    obtain⟨z1,z2⟩:=ud (pO I n) h2 h4 ez
    subst z1
    have e':(true&&(xs.length==ys.length))=b:=Option.some.inj e
    rw[<-e',z2];simp
  ·exact yx hx hy e
theorem in1_units(A:Around):A.in1.units=A.units+1:=rfl
theorem Bg(I:Inv X pins σ H s){P:Addr->Prop}:∀(n:Nat)(A:Around)(x y:D)(v w:V)(u u':Value)(b:Bool),A.units+n<cLine->Is X.K P H x v->Is X.K P H y w->RelV v u->RelV w u'->t9 n x y=some b->SeqAt.EqAt A s u u' b/\SeqAt.RcAt A s u u' b/\SeqAt.RcNeAt A s u u' (!b)
 |0,A,x,y,v,w,u,u',b,hu,hx,hy,rv,mz,e=>EE hx hy rv mz e
 |n+1,A,x,y,v,w,u,u',b,hu,hx,hy,rv,mz,e=>by
  have e0:=e
  unfold t9 at e
  have hu1:A.in1.units+n<cLine:=by rw[in1_units];omega
  have Pp:A.units<cLine:=by omega
  split at e
  ·rename_i xs ys
   have Vo:=hx
   have Vp:=hy
   obtain⟨a,vs,rfl,h1,h2⟩:=hx
   obtain⟨a',A9,rfl,h3,h4⟩:=hy
   cases rv
   cases mz
   obtain⟨its,Q9,pl,hz⟩:=I.list h1.sq
   obtain⟨its',EF,MX,Th⟩:=I.list h3.sq
   have l1:=Q9.length
   have l2:=EF.length
   have l3:vs.length=xs.length:=IsL.length h2
   have l4:A9.length=ys.length:=IsL.length h4
   have main:SeqAt.RcAt A s (.ref a) (.ref a') b/\SeqAt.RcNeAt A s (.ref a) (.ref a') (!b):=by
    split at e
    ·rename_i c
     obtain⟨q1,q2⟩:=qQ e
     have hsz:its.toArray.size=its'.toArray.size:=by simp;omega
     have Vq:min xs.length ys.length=its.toArray.size:=by simp;omega
     rw[Vq]at q2
     subst q2
     have he:∀j (g1:j<its.toArray.size)(g2:j<its'.toArray.size),SeqAt.EqAt A.in1 s its.toArray[j] its'.toArray[j] (MV (t9 n) xs ys j):=fun j g1 g2=>by
      have j1:j<xs.length:=by simp at g1;omega
      have j2:j<ys.length:=by simp at g2;omega
      have f:=q1 j _ _ (getElem?_eq_getElem j1) (getElem?_eq_getElem j2)
      obtain⟨v1,hv1,Hi⟩:=IsL.get h2 (getElem?_eq_getElem j1)
      obtain⟨v2,hv2,Hj⟩:=IsL.get h4 (getElem?_eq_getElem j2)
      obtain⟨u1,MY,Vr⟩:=Q9.get hv1
      obtain⟨u2,MZ,Vs⟩:=EF.get hv2
      have E1:its.toArray[j]=u1:=by
       have:=List.getElem?_eq_some_iff.mp MY
       obtain⟨_,h⟩:=this
       simpa using h
      have E2:its'.toArray[j]=u2:=by
       have:=List.getElem?_eq_some_iff.mp MZ
       obtain⟨_,h⟩:=this
       simpa using h
      rw[E1,E2]
      exact(Bg I n A.in1 _ _ _ _ _ _ _ hu1 Hi Hj Vr Vs f).1
     exact⟨SeqAt.RcAt.lists pl.isList MX.isList hsz Pp he,SeqAt.RcNeAt.lists pl.isList MX.isList hsz Pp he⟩
    ·rename_i c
     cases e
     have hsz:(its.toArray.size !=its'.toArray.size)=true:=by simp;omega
     exact⟨SeqAt.RcAt.lists_lengths pl.isList MX.isList hsz Pp,SeqAt.RcNeAt.lists_lengths pl.isList MX.isList hsz Pp⟩
   refine⟨?_,main⟩
   by_cases ha:a=a'
   ·subst ha
    have:=pO I (n+1) _ _ _ _ Vo Vp e0
    subst this
    exact .same _
   ·exact .of_refs ha main.1
  ·rename_i xs ys
   have Vo:=hx
   have Vp:=hy
   obtain⟨a,vs,rfl,h1,h2⟩:=hx
   obtain⟨a',A9,rfl,h3,h4⟩:=hy
   cases rv
   cases mz
   obtain⟨its,Q9,pl,hz⟩:=I.tuple h1.sq
   obtain⟨its',EF,MX,Th⟩:=I.tuple h3.sq
   have l1:=Q9.length
   have l2:=EF.length
   have l3:vs.length=xs.length:=IsL.length h2
   have l4:A9.length=ys.length:=IsL.length h4
   have main:SeqAt.RcAt A s (.ref a) (.ref a') b/\SeqAt.RcNeAt A s (.ref a) (.ref a') (!b):=by
    cases ez:pN (t9 n) xs ys with
    |none=>rw[ez]at e;cases e
    |some c=>
     rw[ez]at e
     obtain⟨q1,q2⟩:=qQ ez
     have s1:xs.length=its.toArray.size:=by simp;omega
     have s2:ys.length=its'.toArray.size:=by simp;omega
     have e':(c&&(xs.length==ys.length))=b:=Option.some.inj e
     rw[q2]at e'
     have he:∀j (g1:j<its.toArray.size)(g2:j<its'.toArray.size),SeqAt.EqAt A.in1 s its.toArray[j] its'.toArray[j] (MV (t9 n) xs ys j):=fun j g1 g2=>by
      have j1:j<xs.length:=by simp at g1;omega
      have j2:j<ys.length:=by simp at g2;omega
      have f:=q1 j _ _ (getElem?_eq_getElem j1) (getElem?_eq_getElem j2)
      obtain⟨v1,hv1,Hi⟩:=IsL.get h2 (getElem?_eq_getElem j1)
      obtain⟨v2,hv2,Hj⟩:=IsL.get h4 (getElem?_eq_getElem j2)
      obtain⟨u1,MY,Vr⟩:=Q9.get hv1
      obtain⟨u2,MZ,Vs⟩:=EF.get hv2
      have E1:its.toArray[j]=u1:=by
       have:=List.getElem?_eq_some_iff.mp MY
       obtain⟨_,h⟩:=this
       simpa using h
      have E2:its'.toArray[j]=u2:=by
       have:=List.getElem?_eq_some_iff.mp MZ
       obtain⟨_,h⟩:=this
       simpa using h
      rw[E1,E2]
      exact(Bg I n A.in1 _ _ _ _ _ _ _ hu1 Hi Hj Vr Vs f).1
     subst e'
     have R1:=SeqAt.RcAt.tuples (A:=A) (e:=MV (t9 n) xs ys) pl MX Pp he
     have R2:=SeqAt.RcNeAt.tuples (A:=A) (e:=MV (t9 n) xs ys) pl MX Pp he
     rw[<-s1,<-s2]at R1 R2
     exact⟨R1,R2⟩
   refine⟨?_,main⟩
   by_cases ha:a=a'
   ·subst ha
    have:=pO I (n+1) _ _ _ _ Vo Vp e0
    subst this
    exact .same _
   ·exact .of_refs ha main.1
  ·exact EE hx hy rv mz e
end
section
variable{X:Cx}{E:Str->Hp->Prop}{pos:Pos}
def IC(K:PySem.W.Frag)(ne:Bool):R2:=fun v w H Q=>∃x y b,Is K Tr H x v/\Is K Tr H y w/\t9 6 x y=some b/\Q (.bl (if ne=true then !b else b)) H
theorem iG(hu:X.A.units+6<cLine):qA X (compareOp .Eq) (IC X.K false):=by
 intro pins s σ H v w u u' Q I rx ry h
 obtain⟨x,y,b,hx,hy,e,q⟩:=h
 exact(Bg I 6 X.A x y v w u u' b hu hx hy rx ry e).2.1 X.prog X.w _ _ ⟨.bl b,H,I,rfl,q⟩
theorem o4(hu:X.A.units+6<cLine):qA X (compareOp .NotEq) (IC X.K true):=by
 intro pins s σ H v w u u' Q I rx ry h
 obtain⟨x,y,b,hx,hy,e,q⟩:=h
 exact(Bg I 6 X.A x y v w u u' b hu hx hy rx ry e).2.2 X.prog X.w _ _ ⟨.bl (!b),H,I,rfl,q⟩
def xU(x y:D):Option D:=(t9 6 x y).map .bl
def Bh(x y:D):Option D:=(t9 6 x y).map fun b=>.bl (!b)
theorem eB:l9 X (IC X.K false) xU:=fun x y d e=>by
 unfold xU at e
 cases h:t9 6 x y with
 |none=>rw[h]at e;cases e
 |some b=>
  rw[h]at e;cases e
  exact⟨_,rfl,fun H v w Q i1 i2 q=>⟨x,y,b,i1,i2,h,q⟩⟩
theorem lh:l9 X (IC X.K true) Bh:=fun x y d e=>by
 unfold Bh at e
 cases h:t9 6 x y with
 |none=>rw[h]at e;cases e
 |some b=>
  rw[h]at e;cases e
  exact⟨_,rfl,fun H v w Q i1 i2 q=>⟨x,y,b,i1,i2,h,q⟩⟩
theorem aX.u6 {k:Nat}{A:Around}(r:aX k A):A.units+6<cLine:=by have:=r.un;omega
end
def Kp(nt:Nat)(b:D->DE->R DE):Prop:=∀(d:D)(r ts e':DE),ts.length=nt->b d (ts++r)=.ok e'->∃Ra,e'=Ra++r/\Ra.length=nt
def Kf(nt:Nat)(b:List D->DE->R DE):Prop:=∀(d:List D)(r ts e':DE),ts.length=nt->b d (ts++r)=.ok e'->∃Ra,e'=Ra++r/\Ra.length=nt
theorem Z7{nt:Nat}(i:Nat)(hi:i<nt:=by decide):Kp nt fun d env=>.ok (env.set i (.val d)):=fun d r ts e' hl h=>by
 cases h
 exact⟨ts.set i (.val d),by rw[List.set_append_left _ _ (by omega)],by simp[hl]⟩
theorem Rb{nt:Nat}:Kf nt fun ds env=>match ds with
  |[]=>.ok env
  |_=>.bad:=fun d r ts e' hl h=>by
 cases d with
 |nil=>cases h;exact⟨ts,rfl,hl⟩
 |cons _ _=>cases h
theorem M0{nt:Nat}{b:D->DE->R DE}{k:List D->DE->R DE}(hb:Kp nt b)(hk:Kf nt k):Kf nt fun ds env=>match ds with
   |d::r=>(b d env).bind fun e'=>k r e'
   |_=>.bad:=fun d r ts e' hl h=>by
 cases d with
 |nil=>cases h
 |cons x xs=>
  obtain⟨e1,h1,h2⟩:=R.bU (show(b x (ts++r)).bind (fun e'=>k xs e')=.ok e' from h)
  obtain⟨t1,rfl,l1⟩:=hb x r ts e1 hl h1
  exact hk xs r t1 e' l1 h2
theorem Z8{nt n:Nat}{b:List D->DE->R DE}(hb:Kf nt b):Kp nt fun d env=>match d with
   |.tup ds=>if ds.length=n then b ds env else .bad
   |_=>.bad:=fun d r ts e' hl h=>by
 cases d with
 |tup ds=>
  have h':(if ds.length=n then b ds (ts++r)else .bad)=.ok e':=h
  split at h'
  ·exact hb ds r ts e' hl h'
  ·cases h'
 |non=>cases h
 |bl _=>cases h
 |int _=>cases h
 |str _=>cases h
 |lst _=>cases h
 |exc _=>cases h
 |fn _=>cases h
theorem Kp.ok {nt:Nat}{b:D->DE->R DE}(h:Kp nt b):∀ds d e,b d (dX nt ds)=.ok e->∃ts,e=ts++ds.map Sl.val/\ts.length=nt:=fun ds d e q=>h d _ _ e (by simp) q
structure Df(K:PySem.W.Frag)(mg:Str->Option Value)(x:Str)(st:Stmt)(ps:List Str)(f:Addr)(fd:FuncData):Prop where
 F:yg K x x st f fd
 b:Binds K fd ps []
 m:mg x=some (.ref f)
 ns:nsIn K mainGlobals x=some (some (.ref f))
abbrev Dy:Str->Value:=fun _=>.none
section
variable{X:Cx}{E:Str->Hp->Prop}{pos:Pos}{k:Nat}{fa:Addr}{fd:FuncData}{st:Stmt}{ps:List Str}{x:Str}{p:Pos}{e:Expr}{es:List Expr}{f:DE->R (List D)}
theorem Kg{m:List D->R D}(d:Df X.K X.mg x st ps fa fd)(F:bQ X.prog X.w X.K X.mg X.base jL k fa fd ps (Bc X.K Dy m))(hr:aX k X.A)
  (ha:PA X (e::es) (Ef X.K E f))(hg:Gl X x:=by rfl)(hdb:(x==("__debug__":Str))=false:=by decide)(he:starEach (e::es) X.env=(false,eval e X.env)::starEach es X.env:=by rfl)(hpl:(backTo pos (starEach es X.env)).any (·.1)=false:=by rfl):
  PE X (.Call (.Name x p) (e::es) [] pos) (tD X.K E fun env=>(f env).bind m):=fD F d.m d.F.kp d.b hr jN ha hg hdb he hpl
def X6(m:List D->R D):Prop:=∀ds d,m ds=.ok d->∃z,toV d=some z
def X7(m:List D->R (List D)):Prop:=∀ds xs,m ds=.ok xs->∀d∈xs,∃z,toV d=some z
theorem M4{m:List D->R D}(hsc:X6 m)(d:Df X.K X.mg x st ps fa fd)(F:bQ X.prog X.w X.K X.mg X.base jL k fa fd ps (Bc X.K Dy m))(hr:aX k X.A)
  (ha:PA X (e::es) (pH X.K E f))(hg:Gl X x:=by rfl)(hdb:(x==("__debug__":Str))=false:=by decide)(he:starEach (e::es) X.env=(false,eval e X.env)::starEach es X.env:=by rfl)(hpl:(backTo pos (starEach es X.env)).any (·.1)=false:=by rfl):
  PE X (.Call (.Name x p) (e::es) [] pos) (tD X.K E fun env=>(f env).bind m):=fB F hsc d.m d.F.kp d.b hr jN ha hg hdb he hpl
theorem yy{m:List D->R (List D)}(d:Df X.K X.mg x st ps fa fd)(F:bQ X.prog X.w X.K X.mg X.base jL k fa fd ps (He X.K Dy m))(hr:aX k X.A)
  (ha:PA X (e::es) (Ef X.K E f))(hg:Gl X x:=by rfl)(hdb:(x==("__debug__":Str))=false:=by decide)(he:starEach (e::es) X.env=(false,eval e X.env)::starEach es X.env:=by rfl)(hpl:(backTo pos (starEach es X.env)).any (·.1)=false:=by rfl):
  PE X (.Call (.Name x p) (e::es) [] pos) (tF X.K E fun env=>(f env).bind m):=fF F d.m d.F.kp d.b hr jN ha hg hdb he hpl
theorem Vt{m:List D->R (List D)}(hsc:X7 m)(d:Df X.K X.mg x st ps fa fd)(F:bQ X.prog X.w X.K X.mg X.base jL k fa fd ps (He X.K Dy m))(hr:aX k X.A)
  (ha:PA X (e::es) (pH X.K E f))(hg:Gl X x:=by rfl)(hdb:(x==("__debug__":Str))=false:=by decide)(he:starEach (e::es) X.env=(false,eval e X.env)::starEach es X.env:=by rfl)(hpl:(backTo pos (starEach es X.env)).any (·.1)=false:=by rfl):
  PE X (.Call (.Name x p) (e::es) [] pos) (tF X.K E fun env=>(f env).bind m):=Z2 F hsc d.m d.F.kp d.b hr jN ha hg hdb he hpl
end
abbrev Ok(P:Program)(w:World)(K:PySem.W.Frag)(mg:Str->Option Value)(base:Heap)(k:Nat)(f:Addr)(fd:FuncData)(ps:List Str)(m:List D->R D):Prop:=bQ P w K mg base jL k f fd ps (Bc K Dy m)
abbrev mj(P:Program)(w:World)(K:PySem.W.Frag)(mg:Str->Option Value)(base:Heap)(k:Nat)(f:Addr)(fd:FuncData)(ps:List Str)(m:List D->R (List D)):Prop:=bQ P w K mg base jL k f fd ps (He K Dy m)
section
variable{P:Program}{w:World}{K:PySem.W.Frag}{mg:Str->Option Value}{base:Heap}
theorem X8{x:Str}{st:Stmt}{f:Addr}{fd:FuncData}{N ps:List Str}{k:Nat}{m:List D->R D}{b:DE->R Out}(S:aw N ps (ae st))(d:Df K mg x st ps f fd)
  (hb:∀(cdv:Value)(A:Around)(outer:List Env)(s:Shared)(H:Hp)(E:XK),aX k (A.deeper (envOfC x (ae st) s.heap.objs.size f cdv))->oV (oY jL P w K mg base N x (ae st) f cdv A outer s H E).Ds (bq st) (tS K EN b))
  (hm:∀ds d,m ds=.ok d->ds.length=ps.length/\(b (aH N.length ds)).bind ai=.ok d)(hne:∀ds c,m ds≠.err c):
  Ok P w K mg base (k+1) f fd ps m:=Vb d.F S hm hne hb
theorem Z9{x:Str}{st:Stmt}{f:Addr}{fd:FuncData}{N ps:List Str}{k:Nat}{m:List D->R (List D)}{b:DE->R Out}(S:aw N ps (ae st))(d:Df K mg x st ps f fd)
  (hb:∀(cdv:Value)(A:Around)(outer:List Env)(s:Shared)(H:Hp)(E:XK),aX k (A.deeper (envOfC x (ae st) s.heap.objs.size f cdv))->oV (oY jL P w K mg base N x (ae st) f cdv A outer s H E).Ds (bq st) (tS K EN b))
  (hm:∀ds d,m ds=.ok d->ds.length=ps.length/\(b (aH N.length ds)).bind aj=.ok d)(hne:∀ds c,m ds≠.err c):
  mj P w K mg base (k+1) f fd ps m:=Vc d.F S hm hne hb
end
section
variable{X:Cx}{E:Str->Hp->Prop}{pos:Pos}
def yz(x y:D):Option D:=match y with
 |.non=>some (.bl (match x with
  |.non=>false
  |_=>true))
 |_=>none
theorem ID{K:PySem.W.Frag}{P:Addr->Prop}{H:Hp}{x:D}{v:V}(h:Is K P H x v):decide (v=V.non)=(match x with
  |.non=>true
  |_=>false):=by
 cases x with
 |non=>cases h;rfl
 |bl _=>cases h;rfl
 |int _=>cases h;rfl
 |str _=>cases h;rfl
 |lst _=>obtain⟨a,vs,rfl,_⟩:=h;rfl
 |tup _=>obtain⟨a,vs,rfl,_⟩:=h;rfl
 |exc _=>obtain⟨a,vs,rfl,_⟩:=h;rfl
 |fn _=>obtain⟨a,rfl,_⟩:=h;rfl
theorem EG:l9 X (fun x y H Q=>y=.non/\Q (.bl (!decide (x=.non))) H) yz:=fun x y d e=>by
 unfold yz at e
 split at e
 ·cases e
  refine⟨_,rfl,fun H v w Q h1 h2 q=>⟨h2,?_⟩⟩
  rw[ID h1]
  cases x<;>exact q
 ·cases e
def IE(xs:List D):D->R (List D)
 |.int k=> @ite _ (-(2^63)<=k/\k<2^63/\xs.length*k.toNat<=sizeLine) (propDecidable _) (.ok (replicate k.toNat xs).flatten) .bad
 |_=>.bad
theorem IsL.rep {K:PySem.W.Frag}{P:Addr->Prop}{H:Hp}{ds:List D}{vs:List V}(h:IsL K P H ds vs):∀n:Nat,IsL K P H (replicate n ds).flatten (replicate n vs).flatten
 |0=>rfl
 |n+1=>by
  rw[replicate_succ,replicate_succ,flatten_cons,flatten_cons]
  exact h.app (IsL.rep h n)
theorem Vu{a b:Expr}{fa:DE->R (List D)}{fb:DE->R D}(ha:PE X a (tF X.K E fa))(hb:PE X b (tB X.K E fb)):PE X (.BinOp a .Mult b pos) (tF X.K E fun env=>(fa env).bind fun x=>(fb env).bind fun y=>IE x y):=
 imp (pC Mu ha hb) fun σ H Q ⟨g,env,os,r,m⟩=>⟨g,env,os,r,m.bind.mono fun x _ m1 a1 v1 H1 s1 hn hH i1=>⟨g,env,os,r.same s1,m1.bind.mono fun y _ m2 w H2 s2 i2=>by
  unfold IE at m2
  split at m2
  ·rename_i k _
   split at m2
   ·rename_i c
    have Ph:IsL X.K (g.P os) H1 x v1:=IsL.ext ⟨fun b o p _=>⟨p.1,fun z=>p.2 (mem_cons_of_mem _ z)⟩,fun _ _ _ q=>q⟩ _ _ i1
    refine⟨a1,k,v1,rfl,i2,s2 _ _ hH,c.1,c.2.1,by rw[Ph.length];exact c.2.2,fun p hp=>?_⟩
    obtain⟨b1,b2,b3,b4⟩:=zX r (s1.trans s2) hp ((Ph.same s2).rep k.toNat)
    exact m2 p _ _ b1 b2 b3 b4
   ·exact m2.elim
  ·exact m2.elim⟩⟩
theorem ue:bootBuiltins "range"=some (.type "range"):=by decide +kernel
def iY:List D->R (List D)
 |[.int j]=> @ite _ (0<=j/\j<=1000000) (propDecidable _) (.ok (mh 0 j.toNat)) .bad
 |_=>.bad
theorem IF{K:PySem.W.Frag}{P:Addr->Prop}{H:Hp}{n:Nat}:IsL K P H (mh 0 n) ((range n).map fun i=>V.int (0+(i:Nat))):=by
 unfold mh
 induction (range n)with
 |nil=>rfl
 |cons x r ih=>exact⟨_,_,rfl,rfl,ih⟩
theorem vv{acc:List Value}{n:Nat}(h1:acc.length=n)(h2:∀(j:Nat)(v:Value),acc[j]?=some v->∃t,v=.int (0+(j:Nat)) t):Vals ((range n).map fun i=>V.int (0+(i:Nat))) acc:=by
 have gen:∀(l:List Value)(k:Nat),(∀(j:Nat)(v:Value),l[j]?=some v->∃t,v=.int (0+((k+j:Nat):Int)) t)->Vals ((range' k l.length).map fun i=>V.int (0+(i:Nat))) l:=by
  intro l
  induction l with
  |nil=>intro k _;exact .nil
  |cons x r ih=>
   intro k hk
   rw[length_cons,range'_succ,map_cons]
   refine .cons ?_ (ih (k+1) fun j v e=>?_)
   ·obtain⟨t,e⟩:=hk 0 x (by simp)
    exact⟨t,e⟩
   ·obtain⟨t,e⟩:=hk (j+1) v (by simpa using e)
    exact⟨t,by rw[e];congr 2;omega⟩
 subst h1
 rw[List.range_eq_range']
 exact gen acc 0 fun j v e=>by
  obtain⟨t,q⟩:=h2 j v e
  exact⟨t,by rw[q];congr 2;omega⟩
theorem uf{a:Expr}{p p2 kB:Pos}{f:DE->R (List D)}(hc:X.calm=true)(CT:X.mg "list"=none)(M5:X.mg "range"=none)(ha:PA X [a] (pH X.K E f))(M6:Gl X "list":=by rfl)(hgr:Gl X "range":=by rfl)
  (hs:starEach [a] X.env=[(false,eval a X.env)]:=by rfl)(he:starEach [.Call (.Name "range" p2) [a] [] kB] X.env=(false,eval (.Call (.Name "range" p2) [a] [] kB) X.env)::starEach [] X.env:=by rfl)(hpl:(backTo pos (starEach [] X.env)).any (·.1)=false:=by rfl):
  PE X (.Call (.Name "list" p) [.Call (.Name "range" p2) [a] [] kB] [] pos) (tF X.K E fun env=>(f env).bind iY):=by
 intro pins s σ H Q I h
 obtain⟨g,env,os,r,m⟩:=h
 refine wpAny_Call_Name_kw (dS I M6 CT jO ?_)
 refine PyProof.Rows.callWith_type1 ?_ he hpl
 rw[he]
 refine Calls.spliced_cons ?_
 refine Call_ (dS I hgr M5 ue (PyProof.Rows.callWith_type1 (bD (ha kB pins s σ H _ I ⟨g,env,os,r,m.bind.mono fun ds _ q vs H1 s1 i1=>(⟨ds,s1,i1,q⟩:∃ds,aB H H1/\IsL X.K Tr H1 ds vs/\Good E g.H₀ (iY ds) _)⟩) fun us s1 ⟨vs,H1,I1,r1,ds,sm,i1,q⟩=>?_) hs rfl))
 unfold iY at q
 split at q
 ·rename_i j
  split at q
  ·rename_i c
   obtain⟨v,rfl,iv⟩:=IsL.vo i1
   have Rc:v=.int j:=iv
   subst Rc
   obtain⟨u,rfl,t,rfl⟩:=vals1 r1
   refine call_range_1 ?_
   have I2:Inv X pins σ H1 {s1 with heap:=s1.heap.push {cls:=.type "range",data:=.fields #[.int 0 s1.toks,.int j t,.int 1 (s1.toks+1)]},toks:=s1.toks+1+1}:=I1.kept fun b o e=>Heap.get?_push_of_some _ e
   refine Calls.spliced_nil ?_
   have hd:X.A.handled=none:=I.ok.hd hc
   have hsz:Builtin.Range.rangeSize 0 j 1=(j.toNat:Nat):=by rw[rangeSize_one];split<;>omega
   refine call_list_range hd (IsRange.new ..) (small_one (by omega) (by omega) (by omega) (by omega)) hsz (by omega) fun h' tk dq c' hk hl hit=>?_
   obtain⟨hi1,hi2⟩:=hit
   have hv:Vals ((range j.toNat).map fun i=>V.int (0+(i:Nat))) dq.toList:=vv (by simpa using hi1) fun i v e=>by
    obtain⟨t,q⟩:=hi2 i v (by simpa using e)
    exact⟨t,by rw[q];congr 1;omega⟩
   have hlen:((range j.toNat).map fun i=>V.int (0+(i:Nat))).length<=sizeLine:=by
    rw[length_map,length_range]
    exact le_trans (show j.toNat<=1000000 by omega) (by decide)
   refine⟨.ref _,upd H1 _ (.lst ((range j.toNat).map fun i=>V.int (0+(i:Nat)))),I2.laid (a:=_) hk (Nat.le_refl _) ⟨hlen,dq.toList,c',hv,by simpa using hl⟩,rfl,?_⟩
   have hn:H1 (s1.heap.push {cls:=.type "range",data:=.fields #[.int 0 s1.toks,.int j t,.int 1 (s1.toks+1)]}).objs.size=none:=I2.hok.fresh (Nat.le_refl _)
   exact q _ _ _ (sm.trans (aD hn _)) (sm.free hn) ak IF
  ·exact q.elim
 ·exact q.elim
end
def hU:D->D->Option D
 |.int i,.int j=>some (.int (i+j))
 |_,_=>none
theorem b8{X:Cx}:l9 X (AW fun i j=>.int (i+j)) hU:=mG (h:=fun i j=>.int (i+j)) (fun _ _=>rfl) fun x y d e=>by
 unfold hU at e
 split at e<;>cases e
 exact⟨_,_,rfl,rfl,rfl⟩
def Kh(yA sc:Scope)(XN N:List Str)(nt:Nat)(caps:List Nat):Bool:=
 sc.kind==.function&&sc.names.all (fun y=>y.2 !=.cell&&(y.2 !=.local||sc.names.lookup y.1==some .local)&&(y.2 !=.free||yA.names.lookup y.1==some .cell||yA.names.lookup y.1==some .free))&&
 N.length==nt+caps.length&&decide N.Nodup&&(range caps.length).all fun j=>match caps[j]?,N[nt+j]? with
  |some i,some x=>XN[i]?==some x&&sc.names.lookup x==some .free&&(yA.names.lookup x==some .local||yA.names.lookup x==some .cell||yA.names.lookup x==some .free)
  |_,_=>false
theorem Dz{X:Cx}{sc:Scope}{N:List Str}{nt:Nat}{caps:List Nat}(yA:Scope)(XN:List Str)(h:Kh yA sc XN N nt caps=true)(hsc:X.env.scope=yA:=by rfl)(hN:X.N=XN:=by rfl):gU X sc N nt caps:=by
 subst hsc hN
 unfold Kh at h
 simp only [and_eq_true,List.all_eq_true,or_eq_true,decide_eq_true_eq,beq_iff_eq,bne_iff_ne,ne_eq]at h
 obtain⟨⟨⟨⟨h1,h2⟩,h3⟩,h4⟩,h5⟩:=h
 refine⟨by simpa using h1,fun y hy=>(h2 y hy).1.1,fun y hy e=>?_,fun y hy e=>?_,h3,h4,fun j i e=>?_⟩
 ·rcases(h2 y hy).1.2 with q|q
  ·exact absurd e q
  ·exact q
 ·rcases(h2 y hy).2 with(q|q)|q
  ·exact absurd e q
  ·exact .inl q
  ·exact .inr q
 ·have hj:j<caps.length:=(List.getElem?_eq_some_iff.mp e).1
  have q:=h5 j (by simpa using hj)
  rw[e]at q
  cases hx:N[nt+j]? with
  |none=>rw[hx]at q;exact absurd q (by simp)
  |some x=>
   rw[hx]at q
   simp only [and_eq_true,or_eq_true,beq_iff_eq]at q
   obtain⟨⟨q1,q2⟩,q3⟩:=q
   refine⟨x,rfl,q1,q2,?_⟩
   rcases q3 with(q3|q3)|q3
   ·exact .inl q3
   ·exact .inr (.inl q3)
   ·exact .inr (.inr q3)
def Vv(i:Nat):Out->R Out
 |.nx e=>.ok (.nx (u9 i e))
 |o=>.ok o
theorem xh(i j:Int):hU (.int i) (.int j)=some (.int (i+j)):=rfl
theorem EH(i j:Int):iD (.int i) (.int j)=some (.int (i-j)):=rfl
theorem EI(i:Int):qL (.int i)=some (.int (-i)):=rfl
theorem Kj(i j:Int):J1 (.int i) (.int j)=some (.bl (decide (i<j))):=rfl
theorem Kl(i j:Int):Te (.int i) (.int j)=some (.bl (decide (i<=j))):=rfl
theorem Km(i j:Int):zW (.int i) (.int j)=some (.bl (decide (j<i))):=rfl
theorem Kn(i j:Int):ZS (.int i) (.int j)=some (.bl (decide (j<=i))):=rfl
theorem Ko(i j:Int):xU (.int i) (.int j)=some (.bl (i==j)):=rfl
theorem Kq(i j:Int):Bh (.int i) (.int j)=some (.bl (!(i==j))):=rfl
theorem Kr(i j:Str):xU (.str i) (.str j)=some (.bl (i==j)):=rfl
theorem Ks(i j:Str):Bh (.str i) (.str j)=some (.bl (!(i==j))):=rfl
theorem ug(i j:Int)(h:(-(2^64)<i/\i<2^64)\/(-(2^64)<j/\j<2^64)):yo (.int i) (.int j)=some (.int (i*j)):=if_pos h
theorem qR(i j:Int)(h:0<j/\j<1073741824):wV (.int i) (.int j)=some (.int (i/j)):=if_pos h
theorem iH(i j:Int)(h:0<j):oZ (.int i) (.int j)=some (.int (i%j)):=if_pos h
theorem M7(i j:Int)(h:0<=j/\j<=1000000/\i.natAbs<2^64):Ei (.int i) (.int j)=some (.int (i^j.toNat)):=if_pos h
theorem Vw:(10:Int)^(9:Nat)=1000000000:=by
 rw[show(10:Int)=((10:Nat):Int)from rfl,<-Int.natCast_pow]
 rfl
theorem Rf:(10:Int)^(9:Int).toNat=1000000000:=Vw
theorem EJ:Ei (.int 10) (.int 9)=some (.int 1000000000):=(M7 10 9 (by decide)).trans (by rw[Rf])
theorem EK(i:Int):CM [.int i]=some (.int (if i<0 then-i else i)):=rfl
theorem Bj(i j:Int):Bb [.int i,.int j]=some (.int (if j>i then j else i)):=rfl
theorem EL(xs:List D):oy [.lst xs]=some (.int xs.length):=rfl
theorem EO(xs:List D):oy [.tup xs]=some (.int xs.length):=rfl
theorem Ku(b:Bool):jj (.bl b)=.ok b:=rfl
theorem Kv(xs:List D):qK (.lst xs)=.ok xs:=rfl
theorem Kx(i:Int):Ek (.int i)=.ok (some i):=rfl
theorem Ky(xs:List D)(i:Int):vm xs (.int i)=R.of (iT xs i):=rfl
theorem Kz(xs:List D)(i:Int):wX (.lst xs) (.int i)=R.of (iT xs i):=rfl
theorem KA(xs:List D)(i:Int):wX (.tup xs) (.int i)=R.of (iT xs i):=rfl
theorem o5{α:Type}{xs:List α}(h:xs.length<=sizeLine):fit xs=.ok xs:=if_pos h
theorem big{n:Nat}(h:n<=1000000):n<=sizeLine:=le_trans h (by decide)
theorem Rg{α:Type}:fit ([]:List α)=.ok []:=o5 (big (by simp))
theorem Rh{α:Type}(a:α):fit [a]=.ok [a]:=o5 (big (by simp))
theorem Ri{α:Type}(a b:α):fit [a,b]=.ok [a,b]:=o5 (big (by simp))
theorem Rj{α:Type}(a b c:α):fit [a,b,c]=.ok [a,b,c]:=o5 (big (by simp))
theorem Rk{α:Type}(a b c d:α):fit [a,b,c,d]=.ok [a,b,c,d]:=o5 (big (by simp))
theorem M8(j:Int)(h: -(2^62)<=j/\j<2^62):Il [.int j]=.ok (mh 0 j.toNat):=if_pos h
theorem ER(i j:Int)(h: -(2^62)<=i/\i<2^62/\ -(2^62)<=j/\j<2^62):CN [.int i,.int j]=.ok (mh i (j-i).toNat):=if_pos h
theorem nS(j:Int)(h:0<=j/\j<=1000000):iY [.int j]=.ok (mh 0 j.toNat):=if_pos h
theorem M9(xs:List D)(k:Int)(h: -(2^63)<=k/\k<2^63/\xs.length*k.toNat<=sizeLine):IE xs (.int k)=.ok (replicate k.toNat xs).flatten:=if_pos h
theorem Bk(e:DE)(k:DE->R Out):aW (.ok (.nx e)) k=k e:=rfl
theorem Bl(d:D)(k:DE->R Out):aW (.ok (.rt d)) k=.ok (.rt d):=rfl
theorem yB(d:List D)(k:DE->R Out):aW (.ok (.ph d)) k=.ok (.ph d):=rfl
theorem Bm(i:Nat)(e:DE):Vv i (.nx e)=.ok (.nx (u9 i e)):=rfl
theorem qT{S:Type}{b:D->DE->R Out}(J:Nat->S->Prop)(Ev:S->DE):∀(xs:List D)(i:Nat)(s:S),J i s->(∀(j:Nat)(s:S)(x:D),J (i+j) s->xs[j]?=some x->∃s',b x (Ev s)=.ok (.nx (Ev s'))/\J (i+j+1) s')->∃s',dO b xs (Ev s)=.ok (.nx (Ev s'))/\J (i+xs.length) s'
 |[],i,s,hI,h=>⟨s,rfl,hI⟩
 |x::xs,i,s,hI,h=>by
  obtain⟨s1,h1,h2⟩:=h 0 s x hI rfl
  obtain⟨s2,h3,h4⟩:=qT J Ev xs (i+1) s1 (by simpa using h2) fun j s y hs hy=>by
   have e:i+1+j=i+(j+1):=by omega
   rw[e]at hs⊢
   exact h (j+1) s y hs (by simpa using hy)
  refine⟨s2,?_,by rw[length_cons,show i+(xs.length+1)=i+1+xs.length by omega];exact h4⟩
  unfold dO
  rw[h1]
  exact h3
theorem nT{b:D->DE->R DE}{ct:DE->R Bool}{fe:DE->R D}{e₀:DE}(g:D->D):∀(xs:List D),(∀x∈xs,∃e,b x e₀=.ok e/\ct e=.ok true/\fe e=.ok (g x))->bu b ct fe e₀ xs=.ok (xs.map g)
 |[],_=>rfl
 |x::xs,h=>by
  obtain⟨e,h1,h2,h3⟩:=h x (by simp)
  have ih:=nT g xs fun y hy=>h y (by simp[hy])
  unfold bu
  rw[h1,R.bF,h2,R.bF,if_pos rfl,h3,R.bF,ih]
  rfl
def aA(ns:List Int):List D:=ns.map .int
theorem bg(ns:List Int):(aA ns).length=ns.length:=length_map _
def Bo:List D->Option (List Int)
 |[]=>some []
 |.int i::r=>(Bo r).map (i::·)
 |_::_=>none
theorem o6(ns:List Int):Bo (aA ns)=some ns:=by
 induction ns with
 |nil=>rfl
 |cons x r ih=>show(Bo (aA r)).map (x::·)=_;rw[ih];rfl
theorem uh:∀{xs:List D}{ns:List Int},Bo xs=some ns->xs=aA ns
 |[],ns,h=>by cases h;rfl
 |.int i::r,ns,h=>by
  unfold Bo at h
  cases e:Bo r with
  |none=>rw[e]at h;cases h
  |some ms=>rw[e]at h;cases h;rw[uh e];rfl
 |.non::r,_,h=>by cases h
 |.bl _::r,_,h=>by cases h
 |.str _::r,_,h=>by cases h
 |.lst _::r,_,h=>by cases h
 |.tup _::r,_,h=>by cases h
theorem vY(n:Nat):∀(a b:List Int),a.length=b.length->pN (t9 n) (aA a) (aA b)=some (decide (a=b))
 |[],[],_=>rfl
 |[],_::_,h=>by simp at h
 |_::_,[],h=>by simp at h
 |x::a,y::b,h=>by
  have ih:=vY n a b (by simpa using h)
  show(t9 n (.int x) (.int y)).bind _=_
  have e:t9 n (.int x) (.int y)=some (x==y):=by cases n<;>rfl
  rw[e]
  show(pN (t9 n) (aA a) (aA b)).map ((x==y)&&·)=_
  rw[ih]
  show some ((x==y)&&decide (a=b))=some (decide (x::a=y::b))
  congr 1
  rw[Bool.eq_iff_iff]
  simp
theorem yD(n:Nat)(a b:List Int):t9 (n+1) (.lst (aA a)) (.lst (aA b))=some (decide (a=b)):=by
 show(if(aA a).length=(aA b).length then pN (t9 n) (aA a) (aA b)else some false)=_
 split
 ·rename_i h
  exact vY n a b (by simpa[bg]using h)
 ·rename_i h
  congr 1
  symm
  rw[decide_eq_false_iff_not]
  rintro rfl
  exact h rfl
theorem ES(a b:List Int):xU (.lst (aA a)) (.lst (aA b))=some (.bl (decide (a=b))):=by unfold xU;rw[yD];rfl
theorem ET(a b:List Int):Bh (.lst (aA a)) (.lst (aA b))=some (.bl (!decide (a=b))):=by unfold Bh;rw[yD];rfl
theorem xj(ns:List Int)(i:Int):iT (aA ns) i=(iT ns i).map .int:=by
 unfold L2.iT
 rw[bg]
 cases pe ns.length i with
 |none=>rfl
 |some j=>exact getElem?_map
theorem lj(ns:List Int)(lo hi:Option Int):cut (aA ns) lo hi=aA (cut ns lo hi):=by
 unfold cut
 rw[bg]
 simp only [aA,List.map_take,map_drop]
theorem sP(lo:Int)(n:Nat):mh lo n=aA ((range n).map fun i=>lo+(i:Nat)):=by
 unfold mh aA
 rw[map_map];rfl
def bN(i:Nat)(d:D)(env:DE):R DE:=.ok (env.set i (.val d))
def xm:List D->DE->R DE
 |[],env=>.ok env
 |_::_,_=>.bad
def jP(b:D->DE->R DE)(k:List D->DE->R DE):List D->DE->R DE
 |d::r,env=>(b d env).bind fun e'=>k r e'
 |[],_=>.bad
def bT(n:Nat)(b:List D->DE->R DE):D->DE->R DE
 |.tup ds,env=>if ds.length=n then b ds env else .bad
 |_,_=>.bad
def Na(i:Nat)(env:DE)(xs:List D)(d:D):R Out:= @ite _ (xs.length<sizeLine) (propDecidable _) (.ok (.nx (env.set i (.own (xs++[d]))))) (.bad)
def Nb(i:Nat)(env:DE)(xs:List D):R Out:=if 0<xs.length then .ok (.nx (env.set i (.own xs.dropLast)))else .bad
def yE(i:Nat)(env:DE)(d:D)(xs:List D):D->R Out
 |.int j=>(match pe xs.length j with
  |some n=>.ok (.nx (env.set i (.own (xs.set n d))))
  |none=>.bad)
 |_=>.bad
def CU(h:Int->Int->Int)(i:Nat)(env:DE):D->D->R Out
 |.int u,.int w=>.ok (.nx (env.set i (.val (.int (h u w)))))
 |_,_=>.bad
section
variable{X:Cx}{E:Str->Hp->Prop}{pos:Pos}
theorem rN(i:Nat){x:Str}(hN:X.N.Nodup)(hi:X.N[i]?=some x:=by rfl)(hx:Loc X.env.scope x:=by first|exact Or.inl rfl|exact Or.inr rfl)(hf:X.fn x=true\/X.env.scope.names.lookup x=some .local:=by first|exact .inl rfl|exact .inr rfl|assumption):
  PG X (.Name x pos) (tG X.K E (bN i)):=gN i hN hi hx hf
theorem z9:AV X [] (J3 X.K E xm):=by
 have e:xm=fun ds env=>match ds with
  |[]=>.ok env
  |_=>.bad:=by funext ds env;cases ds<;>rfl
 rw[e];exact QO
theorem nU{e:Expr}{es:List Expr}{b:D->DE->R DE}{k:List D->DE->R DE}(h1:PG X e (tG X.K E b))(h2:AV X es (J3 X.K E k))(hs:(assignEach (e::es) X.env).map (·.2)=assign e X.env::(assignEach es X.env).map (·.2):=by rfl):
  AV X (e::es) (J3 X.K E (jP b k)):=by
 have e':jP b k=fun ds env=>match ds with
   |d::r=>(b d env).bind fun e'=>k r e'
   |_=>.bad:=by funext ds env;cases ds<;>rfl
 rw[e'];exact MM h1 h2 hs
theorem Vx{es:List Expr}{kk:Nat}{b:List D->DE->R DE}(n:Nat)(hc:X.calm=true)(h:AV X es (J3 X.K E b))(hn:(assignEach es X.env).length=n:=by rfl)(hst:(assignEach es X.env).findIdx? (·.1)=none:=by rfl):
  PG X (.Tuple es kk pos) (tG X.K E (bT n b)):=by
 have e':bT n b=fun d env=>match d with
   |.tup ds=>if ds.length=n then b ds env else .bad
   |_=>.bad:=by funext d env;cases d<;>rfl
 rw[e'];exact gT hc h hn hst
theorem qU{nt:Nat}(i:Nat)(hi:i<nt:=by decide):Kp nt (bN i):=Z7 i hi
theorem Nc{nt:Nat}:Kf nt xm:=by
 have e:xm=fun ds env=>match ds with
  |[]=>.ok env
  |_=>.bad:=by funext ds env;cases ds<;>rfl
 rw[e];exact Rb
theorem Bp{nt:Nat}{b:D->DE->R DE}{k:List D->DE->R DE}(hb:Kp nt b)(hk:Kf nt k):Kf nt (jP b k):=by
 have e':jP b k=fun ds env=>match ds with
   |d::r=>(b d env).bind fun e'=>k r e'
   |_=>.bad:=by funext ds env;cases ds<;>rfl
 rw[e'];exact M0 hb hk
theorem Vy{nt:Nat}{b:List D->DE->R DE}(n:Nat)(hb:Kf nt b):Kp nt (bT n b):=by
 have e':bT n b=fun d env=>match d with
   |.tup ds=>if ds.length=n then b ds env else .bad
   |_=>.bad:=by funext d env;cases d<;>rfl
 rw[e'];exact Z8 hb
theorem Rl(i:Nat){x:Str}{e:Expr}{f:DE->R D}{p apos aZ:Pos}(he:PE X e (tD X.K E f))(hN:X.N[i]?=some x:=by rfl)(hv:vI X.env.scope x:=by first|exact Or.inl rfl|exact Or.inr (Or.inl rfl)|exact Or.inr (Or.inr rfl))(hd:(x==("__debug__":Str))=false:=by decide)
  (hcd:(x==("__classdict__":Str))=false:=by decide)
  (hbase:attributeBase (.Name x p) "append" X.env (eval (.Name x p) X.env)=eval (.Name x p) X.env:=by rfl)
  (hfew:((backTo aZ (starEach [e] X.env)).all (fun x=> !x.1)&&(backToKw aZ (keywordEach [] X.env)).all (fun x=>x.1.isSome)
   &&decide ([e].length+([]:List Keyword).length+(if([]:List Keyword).isEmpty then 0 else 1)<30))=true:=by rfl)
  (hline:(apos.endLine==aZ.line)=true:=by rfl)(hst:starEach [e] X.env=(false,eval e X.env)::starEach [] X.env:=by rfl)(hplain:(backTo aZ (starEach [] X.env)).any (·.1)=false:=by rfl)
  (hs:swapsWith (.Call (.Attribute (.Name x p) "append" apos) [e] [] aZ) none pos.line X.env=pure false:=by rfl):
  PS X (.Expr (.Call (.Attribute (.Name x p) "append" apos) [e] [] aZ) pos) (tS X.K E fun env=>(ownAt i env).bind fun xs=>(f env).bind fun d=>Na i env xs d):=U7 i he hN hv hd hcd hbase hfew hline hst hplain hs
theorem Rm(i:Nat){x:Str}{p apos aZ:Pos}(hN:X.N[i]?=some x:=by rfl)(hv:vI X.env.scope x:=by first|exact Or.inl rfl|exact Or.inr (Or.inl rfl)|exact Or.inr (Or.inr rfl))(hd:(x==("__debug__":Str))=false:=by decide)
  (hcd:(x==("__classdict__":Str))=false:=by decide)
  (hbase:attributeBase (.Name x p) "pop" X.env (eval (.Name x p) X.env)=eval (.Name x p) X.env:=by rfl)(hline:(apos.endLine==aZ.line)=true:=by rfl)
  (hs:swapsWith (.Call (.Attribute (.Name x p) "pop" apos) [] [] aZ) none pos.line X.env=pure false:=by rfl):
  PS X (.Expr (.Call (.Attribute (.Name x p) "pop" apos) [] [] aZ) pos) (tS X.K E fun env=>(ownAt i env).bind fun xs=>Nb i env xs):=U8 i hN hv hd hcd hbase hline hs
theorem xn(i:Nat){x:Str}{ek e:Expr}{fk f:DE->R D}{p tp:Pos}(hk:PE X ek (tB X.K E fk))(he:PE X e (tD X.K E f))(hN:X.N[i]?=some x:=by rfl)(hv:vI X.env.scope x:=by first|exact Or.inl rfl|exact Or.inr (Or.inl rfl)|exact Or.inr (Or.inr rfl))(hd:(x==("__debug__":Str))=false:=by decide)
  (hcd:(x==("__classdict__":Str))=false:=by decide)
  (ha:∀v,assign (.Subscript (.Name x p) ek tp) X.env v=(do
   let ov<-holding [v] (eval (.Name x p) X.env)
   let iv<-holding [v,ov] (eval ek X.env)
   standAt tp
   holding [v,ov,iv] (setItem ov iv v)
   release [v,ov,iv] []):=by intro _;rfl)
  (hs:swapsWithSole [.Subscript (.Name x p) ek tp] e pos.line X.env=pure false:=by rfl)(hw:swappedStores [.Subscript (.Name x p) ek tp] e X.env=pure none:=by rfl)
  (h1:(assignEach [.Subscript (.Name x p) ek tp] X.env).map (·.2)=[assign (.Subscript (.Name x p) ek tp) X.env]:=by rfl):
  PS X (.Assign [.Subscript (.Name x p) ek tp] e pos) (tS X.K E fun env=>(f env).bind fun d=>(ownAt i env).bind fun xs=>(fk env).bind fun kd=>yE i env d xs kd):=by
 have h:=MK (pos:=pos) i hk he hN hv hd hcd ha hs hw h1
 have e':(fun env:DE=>(f env).bind fun d=>(ownAt i env).bind fun xs=>(fk env).bind fun kd=>yE i env d xs kd)=(fun env=>(f env).bind fun d=>(ownAt i env).bind fun xs=>(fk env).bind fun kd=>match kd with
   |.int j=>(match pe xs.length j with
    |some n=>.ok (.nx (env.set i (.own (xs.set n d))))
    |none=>.bad)
   |_=>.bad):=by
  funext env
  refine congrArg (R.bind (f env)) (funext fun d=>congrArg (R.bind _) (funext fun xs=>congrArg (R.bind _) (funext fun kd=>?_)))
  cases kd<;>rfl
 rw[e'];exact h
theorem KC(i:Nat){x:Str}{e:Expr}{op:Operator}{h:Int->Int->Int}{f:DE->R D}{pos':Pos}(ho:Pe X op (P7 h))(he:PE X e (tB X.K E f))(hN:X.N.Nodup)(hi:X.N[i]?=some x:=by rfl)(hx:Loc X.env.scope x:=by first|exact Or.inl rfl|exact Or.inr rfl)
  (hf:X.fn x=true\/X.env.scope.names.lookup x=some .local:=by first|exact .inl rfl|exact .inr rfl|assumption):
  PS X (.AugAssign (.Name x pos') op e pos) (tS X.K E fun env=>(bY i env).bind fun a=>(f env).bind fun b=>CU h i env a b):=by
 have h':=U9 (pos:=pos) (pos':=pos') i ho he hN hi hx hf
 have e':(fun env:DE=>(bY i env).bind fun a=>(f env).bind fun b=>CU h i env a b)=(fun env=>(bY i env).bind fun a=>(f env).bind fun b=>match a,b with
   |.int u,.int w=>.ok (.nx (env.set i (.val (.int (h u w)))))
   |_,_=>.bad):=by
  funext env
  refine congrArg (R.bind _) (funext fun a=>congrArg (R.bind _) (funext fun b=>?_))
  cases a<;>cases b<;>rfl
 rw[e'];exact h'
end
def IG(d:D):R D:=match toV d with
 |some _=>.ok d
 |none=>.bad
theorem Aa{x d:D}(h:IG x=.ok d):x=d/\∃z,toV d=some z:=by
 unfold IG at h
 cases e:toV x with
 |none=>rw[e]at h;cases h
 |some z=>rw[e]at h;cases h;exact⟨rfl,z,e⟩
def Pq:List D->R (List D)
 |[]=>.ok []
 |x::r=>(IG x).bind fun y=>(Pq r).bind fun ys=>.ok (y::ys)
theorem Ab:∀{xs ys:List D},Pq xs=.ok ys->xs=ys/\∀d∈ys,∃z,toV d=some z
 |[],ys,h=>by cases h;exact⟨rfl,fun d hd=>nomatch hd⟩
 |x::r,ys,h=>by
  unfold Pq at h
  obtain⟨y,h1,h2⟩:=R.bU h
  obtain⟨zs,h3,h4⟩:=R.bU h2
  cases h4
  obtain⟨rfl,hz⟩:=Aa h1
  obtain⟨rfl,hs⟩:=Ab h3
  exact⟨rfl,fun d hd=>(mem_cons.mp hd).elim (fun e=>by rw[e];exact hz) (hs d)⟩
theorem KD(i:Int):IG (.int i)=.ok (.int i):=rfl
theorem KG(i:Bool):IG (.bl i)=.ok (.bl i):=rfl
theorem KH(i:Str):IG (.str i)=.ok (.str i):=rfl
theorem KI:IG .non=.ok .non:=rfl
theorem jl(ns:List Int):Pq (aA ns)=.ok (aA ns):=by
 induction ns with
 |nil=>rfl
 |cons x r ih=>show(IG (.int x)).bind (fun y=>(Pq (aA r)).bind fun ys=>.ok (y::ys))=_;rw[ih];rfl
def mD(n N:Nat)(b:DE->R Out)(ds:List D):R D:=if ds.length=n then((b (aH N ds)).bind ai).ne else .bad
def mS(n N:Nat)(b:DE->R Out)(ds:List D):R D:=if ds.length=n then(((b (aH N ds)).bind ai).bind IG).ne else .bad
def mF(n N:Nat)(b:DE->R Out)(ds:List D):R (List D):=if ds.length=n then((b (aH N ds)).bind aj).ne else .bad
def fg(n N:Nat)(b:DE->R Out)(ds:List D):R (List D):=if ds.length=n then(((b (aH N ds)).bind aj).bind Pq).ne else .bad
theorem R.bz {α:Type}{r:R α}{a:α}(h:r.ne=.ok a):r=.ok a:=by
 cases r with
 |ok b=>exact h
 |err c=>cases h
 |bad=>cases h
theorem R.EU {α:Type}{r:R α}{c:Str}:r.ne≠.err c:=by
 cases r<;>intro h<;>cases h
theorem Nd{n N:Nat}{b:DE->R Out}:X6 (mS n N b):=fun ds d h=>by
 unfold mS at h
 split at h
 ·obtain⟨x,_,h2⟩:=R.bU (R.bz h)
  exact(Aa h2).2
 ·cases h
theorem scl{n N:Nat}{b:DE->R Out}:X7 (fg n N b):=fun ds d h=>by
 unfold fg at h
 split at h
 ·obtain⟨x,_,h2⟩:=R.bU (R.bz h)
  exact(Ab h2).2
 ·cases h
section
variable{P:Program}{w:World}{K:PySem.W.Frag}{mg:Str->Option Value}{base:Heap}
variable{x:Str}{st:Stmt}{f:Addr}{fd:FuncData}{N ps:List Str}{k:Nat}{b:DE->R Out}
theorem Nf(S:aw N ps (ae st))(d:Df K mg x st ps f fd)
  (hb:∀(cdv:Value)(A:Around)(outer:List Env)(s:Shared)(H:Hp)(E:XK),aX k (A.deeper (envOfC x (ae st) s.heap.objs.size f cdv))->oV (oY jL P w K mg base N x (ae st) f cdv A outer s H E).Ds (bq st) (tS K EN b)):
  Ok P w K mg base (k+1) f fd ps (mD ps.length N.length b):=X8 S d hb (fun ds e h=>by
 unfold mD at h
 split at h
 ·rename_i c
  exact⟨c,R.bz h⟩
 ·cases h) fun ds c h=>by
 unfold mD at h
 split at h
 ·exact R.EU h
 ·cases h
theorem KJ(S:aw N ps (ae st))(d:Df K mg x st ps f fd)
  (hb:∀(cdv:Value)(A:Around)(outer:List Env)(s:Shared)(H:Hp)(E:XK),aX k (A.deeper (envOfC x (ae st) s.heap.objs.size f cdv))->oV (oY jL P w K mg base N x (ae st) f cdv A outer s H E).Ds (bq st) (tS K EN b)):
  Ok P w K mg base (k+1) f fd ps (mS ps.length N.length b):=X8 S d hb (fun ds e h=>by
 unfold mS at h
 split at h
 ·rename_i c
  obtain⟨y,h1,h2⟩:=R.bU (R.bz h)
  obtain⟨rfl,_⟩:=Aa h2
  exact⟨c,h1⟩
 ·cases h) fun ds c h=>by
 unfold mS at h
 split at h
 ·exact R.EU h
 ·cases h
theorem pP(S:aw N ps (ae st))(d:Df K mg x st ps f fd)
  (hb:∀(cdv:Value)(A:Around)(outer:List Env)(s:Shared)(H:Hp)(E:XK),aX k (A.deeper (envOfC x (ae st) s.heap.objs.size f cdv))->oV (oY jL P w K mg base N x (ae st) f cdv A outer s H E).Ds (bq st) (tS K EN b)):
  mj P w K mg base (k+1) f fd ps (fg ps.length N.length b):=Z9 S d hb (fun ds e h=>by
 unfold fg at h
 split at h
 ·rename_i c
  obtain⟨y,h1,h2⟩:=R.bU (R.bz h)
  obtain⟨rfl,_⟩:=Ab h2
  exact⟨c,h1⟩
 ·cases h) fun ds c h=>by
 unfold fg at h
 split at h
 ·exact R.EU h
 ·cases h
end
section
variable{d:D}{xs:List D}{r:DE}{a:Sl}{i:Nat}
theorem KN:bY 0 (.val d::r)=.ok d:=rfl
theorem KO:bY (i+1) (a::r)=bY i r:=rfl
theorem KP:aY 0 (.val d::r)=.ok d:=rfl
theorem EV:aY 0 (.own xs::r)=.ok (.lst xs):=rfl
theorem KQ:aY (i+1) (a::r)=aY i r:=rfl
theorem KR:lS 0 (.val (.lst xs)::r)=.ok xs:=rfl
theorem EY:lS 0 (.own xs::r)=.ok xs:=rfl
theorem KS:lS (i+1) (a::r)=lS i r:=rfl
theorem KU:ownAt 0 (.own xs::r)=.ok xs:=rfl
theorem KW:ownAt (i+1) (a::r)=ownAt i r:=rfl
theorem KY:u9 0 (.own xs::r)=.val (.lst xs)::r:=rfl
theorem KZ:u9 (i+1) (a::r)=a::u9 i r:=by
 unfold u9
 rw[List.getElem?_cons_succ]
 cases e:r[i]? with
 |none=>rfl
 |some sl=>cases sl<;>rfl
end
theorem X9(i j:Nat)(a b:D)(env:DE):bT 2 (jP (bN i) (jP (bN j) xm)) (.tup [a,b]) env=.ok ((env.set i (.val a)).set j (.val b)):=rfl
theorem dQ(i:Nat)(a:D)(env:DE):bN i a env=.ok (env.set i (.val a)):=rfl
theorem b9{ns:List Int}(h:ns.length<=1000000):fit (aA ns)=.ok (aA ns):=o5 (by rw[bg];exact big h)
theorem pQ(a b:List Int):aA a++aA b=aA (a++b):=(map_append ..).symm
theorem mE(n d:Nat):HT.tN n d none=d:=rfl
theorem kW(n d:Nat)(i:Int)(h:0<=i):HT.tN n d (some i)=min i.toNat n:=by
 unfold HT.tN
 dsimp only
 split<;>omega
theorem ui{α:Type}(xs:List α)(m:Int)(h:0<=m):cut xs none (some m)=xs.take m.toNat:=by
 unfold cut
 rw[mE,kW _ _ _ h,drop_zero,sub_zero]
 rcases Nat.le_total m.toNat xs.length with q|q
 ·rw[min_eq_left q]
 ·rw[Nat.min_eq_right q,take_length,take_of_length_le q]
theorem yF{α:Type}(xs:List α)(m:Int)(h:0<=m):cut xs (some m) none=xs.drop m.toNat:=by
 unfold cut
 rw[mE,kW _ _ _ h]
 rcases Nat.le_total m.toNat xs.length with q|q
 ·rw[min_eq_left q,take_of_length_le (by rw[length_drop];exact Nat.le_refl _)]
 ·rw[Nat.min_eq_right q,sub_self,List.take_zero,List.drop_eq_nil_of_le q]
theorem vZ{cells:List Int}{j:Nat}{x:D}(h:(dB (aA cells))[j]?=some x):∃c,cells[j]?=some c/\x=.tup [.int (j:Nat),.int c]:=by
 obtain⟨d,hd,rfl⟩:=qP h
 unfold aA at hd
 rw[getElem?_map]at hd
 cases q:cells[j]? with
 |none=>rw[q]at hd;cases hd
 |some c=>rw[q]at hd;cases hd;exact⟨c,rfl,rfl⟩
theorem CV(xs:List D):(dB xs).length=xs.length:=by simp[dB]
theorem Bq{i:Nat}{env:DE}{xs:List D}{d:D}(h:xs.length<1000000):Na i env xs d=.ok (.nx (env.set i (.own (xs++[d])))):=if_pos (lt_of_lt_of_le h (by decide))
theorem II{i:Nat}{env:DE}{xs:List D}(h:0<xs.length):Nb i env xs=.ok (.nx (env.set i (.own xs.dropLast))):=if_pos h
theorem yG{i:Nat}{env:DE}{d:D}{xs:List D}{j:Int}(h:0<=j)(h2:j<xs.length):yE i env d xs (.int j)=.ok (.nx (env.set i (.own (xs.set j.toNat d)))):=by
 unfold yE
 have:pe xs.length j=some j.toNat:=by unfold L2.pe;rw[if_pos h,if_pos h2]
 simp only [this]
theorem Br{α:Type}{xs:List α}{j:Int}(h:0<=j):iT xs j=xs[j.toNat]?:=by
 unfold L2.iT L2.pe
 rw[if_pos h]
 split
 ·rfl
 ·rename_i c
  symm
  show _=none
  rw[List.getElem?_eq_none_iff]
  omega
theorem IJ(ns:List Int)(j:Nat)(x:Int):(aA ns).set j (.int x)=aA (ns.set j x):=map_set.symm
theorem IK(ns:List Int)(j:Nat):(aA ns)[j]?=(ns[j]?).map .int:=getElem?_map
theorem Bs(ns:List Int):(aA ns).reverse=aA ns.reverse:=map_reverse.symm
theorem mQ(a:Int)(ns:List Int):D.int a::aA ns=aA (a::ns):=rfl
theorem K0(T:String)(i:Int):z6 T (.int i)=.ok (.bl (jk (xg (.int i)) T)):=rfl
theorem K1(T:String)(i:Bool):z6 T (.bl i)=.ok (.bl (jk (xg (.bl i)) T)):=rfl
theorem K2(T:String)(i:Str):z6 T (.str i)=.ok (.bl (jk (xg (.str i)) T)):=rfl
theorem K3(T:String):z6 T .non=.ok (.bl (jk (xg .non) T)):=rfl
theorem K4(T:String)(i:List D):z6 T (.lst i)=.ok (.bl (jk (xg (.lst i)) T)):=rfl
theorem K5(T:String)(i:List D):z6 T (.tup i)=.ok (.bl (jk (xg (.tup i)) T)):=rfl
theorem aL:(type_of% @length_cons.{0})/\(type_of% @length_nil.{0})/\(type_of% @map_cons.{0,0})/\(type_of% @map_nil.{0,0})/\(type_of% @cons_append.{0})/\(type_of% @nil_append.{0})/\(type_of% @List.replicate_zero.{0})/\(type_of% @replicate_succ.{0})/\(type_of% @if_true.{1})/\(type_of% @ite_true.{1})/\(type_of% @false_eq_true)/\(type_of% @Bool.true_eq_false)/\(type_of% @KN)/\(type_of% @KO)/\(type_of% @KP)/\(type_of% @EV)/\(type_of% @KQ)/\(type_of% @KR)/\(type_of% @EY)/\(type_of% @KS):=⟨@length_cons.{0},@length_nil.{0},@map_cons.{0,0},@map_nil.{0,0},@cons_append.{0},@nil_append.{0},@List.replicate_zero.{0},@replicate_succ.{0},@if_true.{1},@ite_true.{1},@false_eq_true,@Bool.true_eq_false,@KN,@KO,@KP,@EV,@KQ,@KR,@EY,@KS⟩
theorem aM:(type_of% @KU)/\(type_of% @KW)/\(type_of% @KY)/\(type_of% @KZ)/\(type_of% @List.set_cons_zero.{0})/\(type_of% @List.set_cons_succ.{0})/\(type_of% @R.bF)/\(type_of% @R.jM)/\(type_of% @R.Er)/\(type_of% @Ku)/\(type_of% @Kv)/\(type_of% @Kx)/\(type_of% @xh)/\(type_of% @EH)/\(type_of% @EI)/\(type_of% @Kj)/\(type_of% @Kl)/\(type_of% @Km)/\(type_of% @Kn)/\(type_of% @Ko):=⟨@KU,@KW,@KY,@KZ,@List.set_cons_zero.{0},@List.set_cons_succ.{0},@R.bF,@R.jM,@R.Er,@Ku,@Kv,@Kx,@xh,@EH,@EI,@Kj,@Kl,@Km,@Kn,@Ko⟩
theorem aN:(type_of% @Kq)/\(type_of% @Kr)/\(type_of% @Ks)/\(type_of% @EK)/\(type_of% @Bj)/\(type_of% @EL)/\(type_of% @EO)/\(type_of% @Ky)/\(type_of% @Kz)/\(type_of% @KA)/\(type_of% @Rg)/\(type_of% @Rh)/\(type_of% @Ri)/\(type_of% @Rj)/\(type_of% @Rk)/\(type_of% @Bk)/\(type_of% @Bl)/\(type_of% @yB)/\(type_of% @KD)/\(type_of% @KG):=⟨@Kq,@Kr,@Ks,@EK,@Bj,@EL,@EO,@Ky,@Kz,@KA,@Rg,@Rh,@Ri,@Rj,@Rk,@Bk,@Bl,@yB,@KD,@KG⟩
theorem aO:(type_of% @KH)/\(type_of% @KI)/\(type_of% @Bm)/\(type_of% @K0)/\(type_of% @K1)/\(type_of% @K2)/\(type_of% @K3)/\(type_of% @K4)/\(type_of% @K5):=⟨@KH,@KI,@Bm,@K0,@K1,@K2,@K3,@K4,@K5⟩
section
variable{X:Cx}{E:Str->Hp->Prop}{pos:Pos}
theorem Rn{st:Stmt}:PS X st (tS X.K E fun _=>.bad):=fun pins s σ H De I ⟨g,env,os,r,m⟩=>m.elim
end
theorem IL:yz .non .non=some (.bl false):=rfl
theorem Ac:typeLookup (.type "list_reverseiterator") "__len__"=pure none:=by rw[typeLookup_type,builtinLookup_eq_fast];kernel_rfl
theorem EZ:typeLookup (.type "list_reverseiterator") "__length_hint__"=pure (some (.builtin "list_reverseiterator.__length_hint__")):=by rw[typeLookup_type,builtinLookup_eq_fast];kernel_rfl
theorem CW{prog:Program}{w:World}{A:Around}(hh:A.handled=none)(it l:Addr)(hne:l≠it)(items:Array Value):
  Walks prog w A it [it,l] [it] items.size (fun i v=>items[items.size-1-i]?=some v) (fun i h=>h.IsRevIter it l ((items.size:Int)-1-(i:Nat))/\h.IsList l items) where
 sub:=fun b hb=>by simp at hb;simp[hb]
 frame:=fun _ _ _ st hk=>⟨st.1.at fun o e=>hk it (by simp) o e,st.2.at fun o e=>hk l (by simp) o e⟩
 item:=fun i s Q E hi st hQ=>by
  obtain⟨Ro,yb⟩:=st
  have e1:(items.size:Int)-1-(i:Nat)=((items.size-1-i:Nat):Int):=by omega
  rw[e1]at Ro
  have hx:items[items.size-1-i]?=some (items[items.size-1-i]'(by omega)):=by simp
  refine wpAny_pyNext_rev_item Ro yb hx fun h' z4 Hk=>?_
  have e2:((items.size-1-i:Nat):Int)-1=(items.size:Int)-1-((i+1:Nat):Int):=by omega
  rw[e2]at z4
  exact hQ _ h' s.toks hx ⟨z4,yb.extBut Hk.extBut hne⟩ fun b o hb e=>Hk.extBut b o (fun h=>hb (by simp[h])) e
 done:=fun s Q E st hQ=>by
  obtain⟨Ro,yb⟩:=st
  have e1:(items.size:Int)-1-((items.size:Nat):Int)= -1:=by omega
  rw[e1]at Ro
  exact wpAny_pyNext_rev_end hh Ro fun h' Hf=>hQ h' s.toks fun b o hb e=>Hf b o (fun h=>hb (by simp[h])) e
 self:=fun _ _ _ _ st hQ=>wpAny_pyIter_revIter st.1 hQ
section
variable{prog:Program}{w:World}{A:Around}{E:Value->Shared->Prop}{s:Shared}
theorem E3{it l:Addr}{i:Int}{Q:Bool->Shared->Prop}(hit:s.heap.IsRevIter it l i)(h:Q false s):wpAny (model prog w) A (Builtin.List.listLengthHint (.ref it)) Q E s:=by
 unfold Builtin.List.listLengthHint
 refine wpAny_bind (wpAny_specialOf hit.typeIs Ac ?_)
 show wpAny _ A (specialOf (Value.ref it) (Str.ofString "__length_hint__")>>=_) _ _ _
 refine wpAny_bind (wpAny_specialOf hit.typeIs EZ ?_)
 generalize hid:("list_reverseiterator.__length_hint__":String)=Vz
 wp_delta
 rw[show splitId Vz=some ("list_reverseiterator","__length_hint__")from by subst hid;decide +kernel]
 subst hid
 refine wpAny_bind (wpAny_isInstance (T:="list_reverseiterator") (b:=true) hit.typeIs (by rw[isSubtype_type];kernel_rfl) ?_)
 refine wpAny_ite_split (fun hab=>absurd hab (by decide)) (fun _=>?_)
 refine wpAny_ite_split (fun _=>?_) (fun hab=>absurd (by decide +kernel) hab)
 refine wpAny_ite_split (fun hab=>absurd hab (by decide)) (fun _=>?_)
 exact wpAny_pure h
theorem Ae{R:Result->Shared->Prop}{it l:Addr}{items:Array Value}(hh:A.handled=none)(hit:s.heap.IsRevIter it l ((items.size:Int)-1))(hl:s.heap.IsList l items)(hlen:items.size<=sizeLine)(S:Addr)(res:Value)(c₀:Nat)
  (hS:s.heap.get? S=some {cls:=.type "list",data:=.seq #[] c₀})(Ti:S≠l)(K6:S≠it)(E4:l≠it)
  (hR:∀h' tk dq c',(∀b o,b≠S->b≠it->s.heap.get? b=some o->h'.get? b=some o)->h'.get? S=some {cls:=.type "list",dict:=none,data:=.seq dq c',slots:=#[]}->
   ItemsOf (fun i v=>items[items.size-1-i]?=some v) dq items.size->R (.ok (.ret res)) {s with heap:=h',toks:=tk}):
  wpAny (model prog w) A.in1 (Builtin.List.listExtendWith (.ref S) (.ref it) res)
   (fun fin s'=>match fin with|.done f=>R (.ok f) s'|.again c'=>c'.quiet=true/\codeAny (model prog w) A c' R s') (fun e s'=>R (.error e) s') s:=by
 have W:=(CW (prog:=prog) (w:=w) (A:=A.in1) hh it l E4 items).toS
 unfold Builtin.List.listExtendWith
 refine wpAny_bind (wpAny_typeOf (T:="list_reverseiterator") hit.typeIs ?_)
 have h1:Builtin.List.listSameRef (.ref S) (.ref it)=false:=by simp[Builtin.List.listSameRef,K6]
 have h2:(Value.type "list_reverseiterator"==Value.type "list")=false:=by decide
 have h3:(Value.type "list_reverseiterator"==Value.type "tuple")=false:=by decide
 simp only [h1,h2,h3,Bool.or_false,false_eq_true,if_false]
 refine wpAny_bind (wpAny_pyIter_revIter hit ?_)
 refine wpAny_bind (wpAny_holding (E3 hit ?_))
 refine wpAny_ite_split (fun hab=>absurd hab (by decide)) (fun _=>wpAny_pure ⟨plainId_quiet F.plain_extend_loop _,?_⟩)
 have VA:s.heap.IsRevIter it l ((items.size:Int)-1-((0:Nat):Int)):=by
  rw[show(items.size:Int)-1-((0:Nat):Int)=(items.size:Int)-1 by omega];exact hit
 refine codeAny_extend_loopS W hlen S (fun hm=>?_) res items.size 0 _ #[] c₀ rfl (zero_le _) ⟨VA,hl⟩ hS (ItemsOf.nil _) fun s' dq c' hm IM hacc=>?_
 ·rcases mem_cons.mp hm with z|z
  ·exact K6 z
  ·exact Ti (mem_singleton.mp z)
 ·rw[Moved.eq_with hm]
  refine hR s'.heap s'.toks dq c' (fun b o hb hb2 e=>hm.heap b o (fun hmem=>?_) e) IM hacc
  rcases mem_cons.mp hmem with z|z
  ·exact hb z
  ·exact hb2 (mem_singleton.mp z)
theorem vx{R:Result->Shared->Prop}{it l:Addr}{items:Array Value}(hh:A.handled=none)(hit:s.heap.IsRevIter it l ((items.size:Int)-1))(hl:s.heap.IsList l items)(hlen:items.size<=sizeLine)(S:Addr)
  (hS:s.heap.get? S=some {cls:=.type "list",data:=.seq #[]})(Ti:S≠l)(K6:S≠it)(E4:l≠it)
  (hR:∀h' tk dq c',(∀b o,b≠S->b≠it->s.heap.get? b=some o->h'.get? b=some o)->h'.get? S=some {cls:=.type "list",dict:=none,data:=.seq dq c',slots:=#[]}->
   ItemsOf (fun i v=>items[items.size-1-i]?=some v) dq items.size->R (.ok (.ret .none)) {s with heap:=h',toks:=tk}):
  wpAny (model prog w) A.in1 (Builtin.«list.__init__» ⟨[.ref S,.ref it],[]⟩)
   (fun fin s'=>match fin with|.done f=>R (.ok f) s'|.again c'=>c'.quiet=true/\codeAny (model prog w) A c' R s') (fun e s'=>R (.error e) s') s:=by
 show wpAny _ _ (do let old<-Builtin.List.listItems (.ref S);Builtin.List.listUpdate (.ref S) (fun _=>#[]);letGo old.toList.reverse;Builtin.List.listExtendWith (.ref S) (.ref it) .none) _ _ s
 refine wpAny_bind ?_
 unfold Builtin.List.listItems
 refine wpAny_bind (wpAny_seqItems hS rfl (wpAny_pure ?_))
 show wpAny _ _ (updateSeq S (fun _=>#[])>>=fun _=>letGo (#[]:Array Value).toList.reverse>>=fun _=>Builtin.List.listExtendWith (.ref S) (.ref it) .none) _ _ s
 refine wpAny_bind (wpAny_updateSeq hS rfl ?_)
 have hS₂:=Heap.get?_update_self (Obj.mapSeq (fun _=>(#[]:Array Value))) hS rfl
 have oth:∀b o,b≠S->s.heap.get? b=some o->(s.heap.update S (Obj.mapSeq (fun _=>(#[]:Array Value)))).get? b=some o:=
  fun b o hb e=>(Heap.get?_update_other _ _ (Ne.symm hb)).trans e
 refine wpAny_bind (wpAny_letGo ?_)
 refine Ae hh (hit.at fun o e=>oth it o (Ne.symm K6) e) (hl.at fun o e=>oth l o (Ne.symm Ti) e) hlen S .none _ hS₂ Ti K6 E4 fun h' tk dq c' hk IM hacc=>?_
 exact hR h' tk dq c' (fun b o hb hb2 e=>hk b o hb hb2 (oth b o hb e)) IM hacc
theorem vz{Q:Value->Shared->Prop}{it l:Addr}{items:Array Value}(hh:A.handled=none)(hit:s.heap.IsRevIter it l ((items.size:Int)-1))(hl:s.heap.IsList l items)(hlen:items.size<=sizeLine)(E4:l≠it)
  (hQ:∀h' tk dq c',(∀b o,b≠it->s.heap.get? b=some o->h'.get? b=some o)->
   h'.get? s.heap.objs.size=some {cls:=.type "list",dict:=none,data:=.seq dq c',slots:=#[]}->ItemsOf (fun i v=>items[items.size-1-i]?=some v) dq items.size->Q (.ref s.heap.objs.size) {s with heap:=h',toks:=tk}):
  wpAny (model prog w) A (call (.type "list") [.ref it]) Q E s:=by
 refine callType_codes (Q₁:=fun obj s₁=>obj=.ref s.heap.objs.size/\s₁={s with heap:=s.heap.push {cls:=.type "list",data:=.seq #[]}}) F.called_list (F.typeCall_list_1 _) F.entry_list_init
  (code_list_new _ ⟨rfl,rfl⟩) fun obj s₁ h₁=>?_
 obtain⟨rfl,rfl⟩:=h₁
 have hS:(s.heap.push {cls:=.type "list",data:=.seq #[]}).get? s.heap.objs.size=some {cls:=.type "list",data:=.seq #[]}:=Heap.get?_push_size _ rfl
 have hlt:l<s.heap.objs.size:=by obtain⟨o,e,_⟩:=hl;exact Heap.lt_size e
 have z4:it<s.heap.objs.size:=by obtain⟨o,e,_⟩:=hit;exact Heap.lt_size e
 refine⟨⟨_,hS,rfl⟩,F.args_list_init_2 _ _,vx (A:=A.in1) hh (hit.at fun o e=>Heap.get?_push_of_some _ e) (hl.at fun o e=>Heap.get?_push_of_some _ e) hlen _ hS (ne_of_gt hlt) (ne_of_gt z4) E4 fun h' tk dq c' hk IM hacc=>?_⟩
 exact⟨rfl,hQ h' tk dq c' (fun b o hb e=>hk b o (ne_of_lt (Heap.lt_size e)) hb (Heap.get?_push_of_some _ e)) IM hacc⟩
end
section
variable{X:Cx}{E:Str->Hp->Prop}{pos:Pos}
theorem E5{vs:List V}{its acc:List Value}(r:Vals vs its)(h1:acc.length=its.length)(h2:∀(j:Nat)(v:Value),acc[j]?=some v->its[its.length-1-j]?=some v):Vals vs.reverse acc:=by
 have e:acc=its.reverse:=by
  refine List.ext_getElem? fun j=>?_
  by_cases hj:j<acc.length
  ·have:=h2 j _ (getElem?_eq_getElem hj)
   rw[getElem?_eq_getElem hj,getElem?_reverse (by omega),this]
  ·rw[getElem?_eq_none (by omega),getElem?_eq_none (by simp;omega)]
 subst e
 clear h1 h2
 induction r with
 |nil=>exact .nil
 |cons r1 r2 ih=>rw[reverse_cons,reverse_cons];exact ih.append (.cons r1 .nil)
theorem IsL.rev {K:PySem.W.Frag}{P:Addr->Prop}{H:Hp}:∀{ds:List D}{vs:List V},IsL K P H ds vs->IsL K P H ds.reverse vs.reverse
 |[],_,h=>by
  have h':_=[]:=h
  subst h';exact rfl
 |d::ds,_,⟨v,r,e,p,q⟩=>by
  subst e
  rw[reverse_cons,reverse_cons]
  exact IsL.app (IsL.rev q) (.one p)
theorem Ng{a:Expr}{p p2 kB:Pos}{f:DE->R (List D)}(hc:X.calm=true)(CT:X.mg "list"=none)(M5:X.mg "reversed"=none)(ha:PE X a (tL X.K E f))(M6:Gl X "list":=by rfl)(hgr:Gl X "reversed":=by rfl)
  (hs:starEach [a] X.env=(false,eval a X.env)::starEach [] X.env:=by rfl)(he:starEach [.Call (.Name "reversed" p2) [a] [] kB] X.env=(false,eval (.Call (.Name "reversed" p2) [a] [] kB) X.env)::starEach [] X.env:=by rfl)(hpl:(backTo pos (starEach [] X.env)).any (·.1)=false:=by rfl):
  PE X (.Call (.Name "list" p) [.Call (.Name "reversed" p2) [a] [] kB] [] pos) (tF X.K E fun env=>(f env).bind fun xs=>R.ok (reverse xs)):=by
 intro pins s σ H Q I h
 obtain⟨g,env,os,r,m⟩:=h
 refine wpAny_Call_Name_kw (dS I M6 CT jO ?_)
 refine PyProof.Rows.callWith_type1 ?_ he hpl
 rw[he]
 refine Calls.spliced_cons ?_
 have Q8:PA X [a] (D2 (tL X.K E f) HR):=au ha aC hs
 refine Call_ (dS I hgr M5 mO (PyProof.Rows.callWith_type1 (bD (Q8 kB pins s σ H (fun vs H1=>∃ds l ws,vs=[.ref l]/\aB H H1/\b7 X.K H1 l ws/\IsL X.K (g.P os) H1 ds ws/\Good E g.H₀ (R.ok (reverse ds)) _) I ⟨g,env,os,r,m.bind.mono fun ds _ q a1 vs H1 s1 q1 i1=>⟨ds,a1,vs,rfl,s1,q1,i1,q⟩⟩) fun us s1 ⟨vs,H1,I1,r1,ds,l,ws,e1,sm,hq,i1,q⟩=>?_) hs rfl))
 subst e1
 obtain⟨u,rfl,ru⟩:=vals1 r1
 cases ru
 obtain⟨its,rv,pl,hz⟩:=I1.list hq
 have hl:=rv.length
 refine call_reversed_list pl.isList ?_
 have I2:Inv X pins σ H1 {s1 with heap:=s1.heap.push (PySem.revObj l ((its.toArray.size:Int)-1))}:=I1.kept (t':=s1.toks) fun b o e=>Heap.get?_push_of_some _ e
 refine Calls.spliced_nil ?_
 have hd:X.A.handled=none:=I.ok.hd hc
 have hlt:l<s1.heap.objs.size:=by obtain⟨o,n,e,_⟩:=pl;exact Heap.lt_size e
 refine vz hd ⟨_,Heap.get?_push_size _ rfl,rfl,rfl⟩ (pl.isList.at fun o e=>Heap.get?_push_of_some _ e) (by rw[size_toArray];omega) (ne_of_lt hlt) fun h' tk dq c' hk VB hit=>?_
 obtain⟨hi1,hi2⟩:=hit
 have hv:Vals ws.reverse dq.toList:=E5 rv (by simpa using hi1) fun i v e=>by
  have:=hi2 i v (by simpa using e)
  simpa using this
 have I3:Inv X pins σ H1 {s1 with heap:=s1.heap.push (PySem.revObj l ((its.toArray.size:Int)-1))}:=I2
 have MC:∀b o,s1.heap.get? b=some o->h'.get? b=some o:=fun b o e=>hk b o (ne_of_lt (Heap.lt_size e)) (Heap.get?_push_of_some _ e)
 refine⟨.ref _,upd H1 _ (.lst ws.reverse),I1.laid (a:=(s1.heap.push (PySem.revObj l ((its.toArray.size:Int)-1))).objs.size) (t':=tk) MC (by rw[Heap.size_push];exact le_succ _) ⟨by rw[length_reverse];exact hz,dq.toList,c',hv,by simpa using VB⟩,rfl,?_⟩
 have hn:H1 (s1.heap.push (PySem.revObj l ((its.toArray.size:Int)-1))).objs.size=none:=I2.hok.fresh (Nat.le_refl _)
 obtain⟨b1,b2,b3,b4⟩:=zX r sm hn (IsL.rev i1)
 exact(show∀a vs H',aB H H'->H a=none->H' a=some (.lst vs)->IsL X.K (g.P (a::os)) H' ds.reverse vs->Q (.ref a) H' from q) _ _ _ b1 b2 b3 b4
end
def Kep(fs xs:List Addr)(h h':Heap):Prop:=∀b o,h.get? b=some o->b∉xs->(b∉fs->h'.get? b=some o)/\∃sl,h'.get? b=some {o with slots:=sl}
structure Exc(h:Heap)(e T C:Addr)(fl:Value):Prop where
 at_:∃vs,h.get? e=some {cls:=.ref C,data:=.fields vs}/\vs[1]?=some (.ref T)
 ne:T≠e
 tb:∃oT ts,h.get? T=some oT/\oT.data=.fields ts/\ts[3]?=some fl
section
variable{P:Program}{w:World}{H H':Hp}{h h1 h2:Heap}{fs XE xs:List Addr}
def VC(P:Program)(w:World):Du:=fun outer H s E ev s'=>∃e T C H',ev=.ref e/\Exc s'.heap e T C .none/\s.heap.get? e=none/\s.heap.get? T=none/\H' e=none/\H' T=none/\s'.os=s.os/\AllBare s'.gens/\
 Un (xR outer) [] H H' s.heap s'.heap/\nK P w H' s'.heap/\E (.ref C) none H'
end
def VD(K:PySem.W.Frag)(n:Str):Value:=match nsIn K mainGlobals n with
 |some (some v)=>v
 |_=>.none
section
variable{P:Program}{w:World}{K:PySem.W.Frag}{mg:Str->Option Value}{base:Heap}{N:List Str}{qual:Str}{scope:Scope}{f:Addr}{cd:Value}{A:Around}{outer:List Env}{s:Shared}{H:Hp}{E:XK}
abbrev EW(K:PySem.W.Frag)(E:XK):Str->Hp->Prop:=fun n H'=>E (VD K n) none H'
end
abbrev OkX(P:Program)(w:World)(K:PySem.W.Frag)(mg:Str->Option Value)(base:Heap)(k:Nat)(f:Addr)(fd:FuncData)(ps:List Str)(m:List D->R D):Prop:=bQ P w K mg base (VC P w) k f fd ps (Bc K (VD K) m)
abbrev aac(P:Program)(w:World)(K:PySem.W.Frag)(mg:Str->Option Value)(base:Heap)(k:Nat)(f:Addr)(fd:FuncData)(ps:List Str)(m:List D->R (List D)):Prop:=bQ P w K mg base (VC P w) k f fd ps (He K (VD K) m)
section
variable{P:Program}{w:World}{K:PySem.W.Frag}{mg:Str->Option Value}{base:Heap}
variable{x:Str}{st:Stmt}{f:Addr}{fd:FuncData}{N ps:List Str}{k:Nat}{b:DE->R Out}
variable(S:aw N ps (ae st))(d:Df K mg x st ps f fd)
  (hb:∀(cdv:Value)(A:Around)(outer:List Env)(s:Shared)(H:Hp)(E:XK),aX k (A.deeper (envOfC x (ae st) s.heap.objs.size f cdv))->oV (oY (VC P w) P w K mg base N x (ae st) f cdv A outer s H E) (bq st) (tS K (EW K E) b))
include S d hb
end
abbrev Tf(X:Cx)(e:Addr):Cx:={X with A:=X.A.mark (some (.ref e)),calm:=false,xe:=fun _ _=>False}
theorem eI{K:PySem.W.Frag}{P:Addr->Prop}{H:Hp}:∀{ns:List Int}{vs:List V},IsL K P H (aA ns) vs->vs=ns.map V.int
 |[],_,h=>h
 |n::ns,_,⟨v,r,e,p,q⟩=>by
  have p':v=.int n:=p
  rw[e,p',eI q];rfl
theorem Bt{K:PySem.W.Frag}{P:Addr->Prop}{H:Hp}:∀(ns:List Int),IsL K P H (aA ns) (ns.map V.int)
 |[]=>rfl
 |n::ns=>⟨_,_,rfl,rfl,Bt ns⟩
def mR(xs:List D):Option D:=(Bo xs).map fun ns=>.int ns.sum
def sortI(ns:List Int):List Int:=ns.mergeSort (fun a b=>decide (a<=b))
def yH(xs:List D):R (List D):=match Bo xs with
 |some ns=>if ns.length<64 then .ok (aA (sortI ns))else .bad
 |none=>.bad
def mU(xs:List D):D->R D
 |.int k=>match Bo xs with
  |some ns=>if k∈ns then .ok (.int (ns.idxOf k:Nat))else .bad
  |none=>.bad
 |_=>.bad
theorem Nh:bootBuiltins "sum"=some (.builtin "sum"):=by decide +kernel
theorem CY:bootBuiltins "sorted"=some (.builtin "sorted"):=by decide +kernel
theorem yI{a b:List Int}(p:a.Perm b)(o:a.Pairwise (·<=·)):a=sortI b:=by
 refine PySem.W.lks_uniq (p.trans (List.mergeSort_perm b _).symm) o ?_
 have h:=List.pairwise_mergeSort (le:=fun a b:Int=>decide (a<=b)) (fun a b c h1 h2=>by simp only [decide_eq_true_eq]at h1 h2⊢;omega) (fun a b=>by simp only [or_eq_true,decide_eq_true_eq];omega) b
 exact h.imp fun h=>by simpa using h
section
variable{X:Cx}{E:Str->Hp->Prop}{pos:Pos}
theorem IP{p:Pos}{a:Expr}{f:DE->R (List D)}(hc:X.calm=true)(hm:X.mg "sum"=none)(ha:PE X a (tL X.K E f))(hg:Gl X "sum":=by rfl)
  (he:starEach [a] X.env=(false,eval a X.env)::starEach [] X.env:=by rfl)(hpl:(backTo pos (starEach [] X.env)).any (·.1)=false:=by rfl):PE X (.Call (.Name "sum" p) [a] [] pos) (tD X.K E fun env=>(f env).bind fun xs=>R.of (mR xs)):=by
 refine imp (g9 (r:=fun xs H Q=>∃(l:Addr)(ns:List Int),xs=[.ref l]/\b7 X.K H l (ns.map V.int)/\Q (.int ns.sum) H) ?_ hg hm Nh (au ha aC he) (by decide) (by decide) he hpl) fun σ H Q ⟨g,env,os,r,m⟩=>⟨g,env,os,r,m.bind.mono fun xs _ q l vs H' s hl i=>?_⟩
 ·intro pins s σ H xs us Q I r h
  obtain⟨l,ns,rfl,hl,q⟩:=h
  obtain⟨u,rfl,ru⟩:=vals1 r
  have e:u=.ref l:=ru
  subst e
  obtain⟨its,rv,pl,hz⟩:=I.list hl
  have ia:=intsAre_of rv
  obtain⟨ys,hx⟩:=ia.allInts.items
  have IQ:s.heap.IsList l (intItems ys):=hx▸pl.isList
  have hh:X.A.handled=none:=I.ok.hd hc
  have e1:ns=ys.toList.map (·.1):=by
   rw[<-nums_intItems,<-hx]
   exact(show numsOf its.toArray.toList=ns from ia.numsOf).symm
  refine sum_intListG hh IQ fun h' tk t' hk=>?_
  have e2:preSum (numAt ys) ys.size=ns.sum:=by
   rw[preSum_eq,take_of_length_le (by simp),e1]
  rw[e2]
  exact⟨.int _,H,I.kept (s:=s) (t':=tk) hk,⟨_,rfl⟩,q⟩
 ·obtain⟨d,e,q2⟩:=q.of
  unfold mR at e
  cases z:Bo xs with
  |none=>rw[z]at e;cases e
  |some ns=>
   rw[z]at e
   have ex:=uh z
   subst ex
   have ev:=eI i
   subst ev
   cases e
   exact⟨l,ns,rfl,hl,q2 _ H' s rfl⟩
theorem IS{p:Pos}{a:Expr}{f:DE->R (List D)}(hm:X.mg "sorted"=none)(ha:PE X a (tL X.K E f))(hg:Gl X "sorted":=by rfl)
  (he:starEach [a] X.env=(false,eval a X.env)::starEach [] X.env:=by rfl)(hpl:(backTo pos (starEach [] X.env)).any (·.1)=false:=by rfl):PE X (.Call (.Name "sorted" p) [a] [] pos) (tF X.K E fun env=>(f env).bind yH):=by
 refine imp (g9 (r:=fun xs H Q=>∃(l:Addr)(ns:List Int),xs=[.ref l]/\b7 X.K H l (ns.map V.int)/\ns.length<64/\∀p,H p=none->Q (.ref p) (upd H p (.lst ((sortI ns).map V.int)))) ?_ hg hm CY (au ha aC he) (by decide) (by decide) he hpl) fun σ H Q ⟨g,env,os,r,m⟩=>⟨g,env,os,r,m.bind.mono fun xs _ q l vs H' s hl i=>?_⟩
 ·intro pins s σ H xs us Q I r h
  obtain⟨l,ns,rfl,hl,h64,q⟩:=h
  obtain⟨u,rfl,ru⟩:=vals1 r
  have e:u=.ref l:=ru
  subst e
  obtain⟨its,rv,pl,hz⟩:=I.list hl
  have ia:=intsAre_of rv
  refine PyProof.Rows.sorted_ints pl.isList ia (by rw[IntsAre.length ia];exact h64) fun out Pr a1 a2 a3=>?_
  have es:=yI a2 a3
  subst es
  obtain⟨n,hn⟩:=sortedAll_at s.heap its out
  refine⟨.ref _,_,I.laid (a:=s.heap.objs.size+1) (o:=.lst ((sortI ns).map V.int)) (t':=s.toks) (fun _ _=>sortedAll_old) (le_succ _) ⟨?_,out.toList,n,qE a1,?_⟩,rfl,q _ (I.hok.fresh (le_succ _))⟩
  ·rw[length_map,a2.length_eq]
   exact le_of_lt (lt_trans h64 (by decide))
  ·rw[hn]
 ·unfold yH at q
  split at q
  ·rename_i ns z
   split at q
   ·rename_i c
    have ex:=uh z
    subst ex
    have ev:=eI i
    subst ev
    refine⟨l,ns,rfl,hl,c,fun p hp=>?_⟩
    obtain⟨b1,b2,b3,b4⟩:=zX r s hp (Bt (K:=X.K) (P:=g.P os) (H:=H') (sortI ns))
    exact q p _ _ b1 b2 b3 b4
   ·exact q.elim
  ·exact q.elim
def Ni(K:PySem.W.Frag):V->List V->Hp->VK->Prop:=fun x xs H Q=>∃(l:Addr)(ns:List Int)(k:Int),x=.ref l/\xs=[.int k]/\b7 K H l (ns.map V.int)/\k∈ns/\Q (.int (ns.idxOf k:Nat)) H
theorem E6:S8 X "list.index" (Ni X.K):=by
 intro pins s σ H x xs v us Q I rx r h
 obtain⟨l,ns,k,rfl,rfl,hl,hk,q⟩:=h
 obtain⟨u,rfl,t,ru⟩:=vals1 r
 subst ru
 cases rx
 obtain⟨its,rv,pl,hz⟩:=I.list hl
 have ia:=intsAre_of rv
 obtain⟨o,n,h1,h2,h3,h4⟩:=pl
 cases o
 simp only at h2 h3 h4
 subst h2 h3 h4
 have hlen:=ia.length
 have hj:ns.idxOf k<ns.length:=List.idxOf_lt_length_iff.mpr hk
 have hz2:ns.length<=sizeLine:=by simpa using hz
 refine call_meets PySem.F.slot_list_index ⟨_,h1,rfl⟩ PySem.F.entry_list_index (PySem.F.args_list_index_2 _ _)
  (SeqAt.list_indexAt l its.toArray n none _ (.int k t) (isInt k) (ns.idxOf k) (by simpa[hlen]using hj) (by have h63:=oX;omega) ?_ ?_) ⟨h1,fun y hy=>(eq_isInt k t ia y (by simpa using hy)).at _ _,⟨.int _,H,I.tok _,⟨_,rfl⟩,q⟩⟩
 ·show isInt k its[ns.idxOf k]=true
  rw[isInt_at k ia _ (by omega) hj]
  simpa using getElem_idxOf hj
 ·intro j Yb hlt
  show isInt k its[j]=false
  rw[isInt_at k ia j (by simpa using Yb) (by simp at Yb;omega)]
  exact ne_of_lt_idxOf hlt _
theorem E7{o e:Expr}{apos aZ:Pos}{fo:DE->R (List D)}{f:DE->R D}(ho:PE X o (tL X.K E fo))(he:PE X e (tB X.K E f))
  (hbase:attributeBase o "index" X.env (eval o X.env)=eval o X.env:=by rfl)
  (hfew:((backTo aZ (starEach [e] X.env)).all (fun x=> !x.1)&&(backToKw aZ (keywordEach [] X.env)).all (fun x=>x.1.isSome)
   &&decide ([e].length+([]:List Keyword).length+(if([]:List Keyword).isEmpty then 0 else 1)<30))=true:=by rfl)
  (hline:(apos.endLine==aZ.line)=true:=by rfl)(hst:starEach [e] X.env=(false,eval e X.env)::starEach [] X.env:=by rfl)(hplain:(backTo aZ (starEach [] X.env)).any (·.1)=false:=by rfl):
  PE X (.Call (.Attribute o "index" apos) [e] [] aZ) (tD X.K E fun env=>(fo env).bind fun xs=>(f env).bind fun k=>mU xs k):=
 imp (rM plainAttrs_list PySem.F.slot_list_index PySem.F.type_list_index E6 ho (au he aC hst) hbase hfew hline hst hplain) fun σ H Q ⟨g,env,os,r,m⟩=>⟨g,env,os,r,m.bind.mono fun xs _ m1 l vs H1 s1 hl i=>⟨.inl ⟨rfl,vs,hl⟩,g,env,os,r.same s1,m1.bind.mono fun k _ q v H2 s2 i2=>by
  unfold mU at q
  split at q
  ·rename_i kk _
   split at q
   ·rename_i ns z
    split at q
    ·rename_i c
     have ex:=uh z
     subst ex
     have ev:=eI i
     subst ev
     have e2:v=.int kk:=i2
     subst e2
     exact⟨l,ns,kk,rfl,rfl,s2.seq hl,c,q _ H2 (s1.trans s2) rfl⟩
    ·exact q.elim
   ·exact q.elim
  ·exact q.elim⟩⟩
end
def E8(lo c:Int)(n:Nat):List D:=(range n).map fun i=>.int (lo+(i:Nat)*c)
abbrev RC(a b c:Int):Prop:= -1000000<=a/\a<=1000000/\ -1000000<=b/\b<=1000000/\c≠0/\ -1000000<=c/\c<=1000000
def E9:List D->R (List D)
 |[.int a,.int b,.int c]=> @ite _ (RC a b c) (propDecidable _) (.ok (E8 a c (Builtin.Range.rangeSize a b c).toNat)) .bad
 |_=>.bad
theorem pR{a b c:Int}(h:RC a b c):0<=Builtin.Range.rangeSize a b c/\Builtin.Range.rangeSize a b c<=2000000:=by
 unfold Builtin.Range.rangeSize
 have e:∀x y:Int,0<=x->x<2000000->1<=y->0<=x/y/\x/y<2000000:=fun x y h1 h2 h3=>⟨Int.ediv_nonneg h1 (by omega),Int.lt_of_le_of_lt (Int.ediv_le_self _ h1) h2⟩
 split
 ·split
  ·have:=e (b-a-1) c (by omega) (by omega) (by omega)
   omega
  ·omega
 ·split
  ·have:=e (a-b-1) (-c) (by omega) (by omega) (by omega)
   omega
  ·omega
theorem IU{a b c:Int}(h:RC a b c):Builtin.Range.small a b c=true:=by
 have hs:=pR h
 unfold Builtin.Range.small
 simp only [Builtin.Range.rangeFitsLong,and_eq_true,or_eq_true,decide_eq_true_eq,beq_iff_eq]
 refine⟨by omega,.inr ?_⟩
 split<;>simp only [and_eq_true,decide_eq_true_eq]<;>omega
section
variable{X:Cx}{E:Str->Hp->Prop}{pos:Pos}{tg:Expr}
theorem IsL.Nj {K:PySem.W.Frag}{P:Addr->Prop}{H:Hp}{d d2 d3:D}{vs:List V}(h:IsL K P H [d,d2,d3] vs):∃v w z,vs=[v,w,z]/\Is K P H d v/\Is K P H d2 w/\Is K P H d3 z:=by
 obtain⟨v,r,rfl,p,q⟩:=h
 obtain⟨w,z,rfl,p2,p3⟩:=IsL.MJ q
 exact⟨v,w,z,rfl,p,p2,p3⟩
theorem vals3{x y z:V}{us:List Value}(r:Vals [x,y,z] us):∃u v w,us=[u,v,w]/\RelV x u/\RelV y v/\RelV z w:=by
 cases r with
 |cons p q=>
  obtain⟨v,w,rfl,p2,p3⟩:=vals2 q
  exact⟨_,v,w,rfl,p,p2,p3⟩
theorem IV{K:PySem.W.Frag}{P:Addr->Prop}{H:Hp}{lo c:Int}{n:Nat}:IsL K P H (E8 lo c n) ((range n).map fun i=>V.int (lo+(i:Nat)*c)):=by
 unfold E8
 induction (range n)with
 |nil=>rfl
 |cons x r ih=>exact⟨_,_,rfl,rfl,ih⟩
theorem uj{acc:List Value}{lo c:Int}{n:Nat}(h1:acc.length=n)(h2:∀(j:Nat)(v:Value),acc[j]?=some v->∃t,v=.int (lo+(j:Nat)*c) t):Vals ((range n).map fun i=>V.int (lo+(i:Nat)*c)) acc:=by
 have gen:∀(l:List Value)(k:Nat),(∀(j:Nat)(v:Value),l[j]?=some v->∃t,v=.int (lo+((k+j:Nat):Int)*c) t)->Vals ((range' k l.length).map fun i=>V.int (lo+(i:Nat)*c)) l:=by
  intro l
  induction l with
  |nil=>intro k _;exact .nil
  |cons x r ih=>
   intro k hk
   rw[length_cons,range'_succ,map_cons]
   refine .cons ?_ (ih (k+1) fun j v e=>?_)
   ·obtain⟨t,e⟩:=hk 0 x (by simp)
    exact⟨t,e⟩
   ·obtain⟨t,e⟩:=hk (j+1) v (by simpa using e)
    exact⟨t,by rw[e,show k+(j+1)=k+1+j by omega]⟩
 subst h1
 rw[List.range_eq_range']
 exact gen acc 0 fun j v e=>by
  obtain⟨t,q⟩:=h2 j v e
  exact⟨t,by rw[q,zero_add]⟩
theorem IW{a b c:Expr}{p p2 kB:Pos}{f:DE->R (List D)}(hc:X.calm=true)(CT:X.mg "list"=none)(M5:X.mg "range"=none)(ha:PA X [a,b,c] (pH X.K E f))(M6:Gl X "list":=by rfl)(hgr:Gl X "range":=by rfl)
  (hs:starEach [a,b,c] X.env=(false,eval a X.env)::starEach [b,c] X.env:=by rfl)(Nk:(backTo kB (starEach [b,c] X.env)).any (·.1)=false:=by rfl)(he:starEach [.Call (.Name "range" p2) [a,b,c] [] kB] X.env=(false,eval (.Call (.Name "range" p2) [a,b,c] [] kB) X.env)::starEach [] X.env:=by rfl)(hpl:(backTo pos (starEach [] X.env)).any (·.1)=false:=by rfl):
  PE X (.Call (.Name "list" p) [.Call (.Name "range" p2) [a,b,c] [] kB] [] pos) (tF X.K E fun env=>(f env).bind E9):=by
 intro pins s σ H Q I h
 obtain⟨g,env,os,r,m⟩:=h
 refine wpAny_Call_Name_kw (dS I M6 CT jO ?_)
 refine PyProof.Rows.callWith_type1 ?_ he hpl
 rw[he]
 refine Calls.spliced_cons ?_
 refine Call_ (dS I hgr M5 ue (PyProof.Rows.callWith_type1 (bD (ha kB pins s σ H _ I ⟨g,env,os,r,m.bind.mono fun ds _ q vs H1 s1 i1=>(⟨ds,s1,i1,q⟩:∃ds,aB H H1/\IsL X.K Tr H1 ds vs/\Good E g.H₀ (E9 ds) _)⟩) fun us s1 ⟨vs,H1,I1,r1,ds,sm,i1,q⟩=>?_) hs Nk))
 unfold E9 at q
 split at q
 ·rename_i x y z
  split at q
  ·rename_i h
   obtain⟨v1,v2,v3,rfl,k1,k2,k3⟩:=IsL.Nj i1
   have MN:v1=.int x:=k1
   have k2':v2=.int y:=k2
   have k3':v3=.int z:=k3
   subst MN k2' k3'
   obtain⟨u1,u2,u3,rfl,⟨t1,rfl⟩,⟨t2,rfl⟩,⟨t3,rfl⟩⟩:=vals3 r1
   refine call_range_3 h.2.2.2.2.1 ?_ (.inl (PyProof.noPylong_small (by omega)))
   have I2:Inv X pins σ H1 {s1 with heap:=s1.heap.push {cls:=.type "range",data:=.fields #[.int x t1,.int y t2,.int z t3]},toks:=s1.toks}:=I1.kept fun b o e=>Heap.get?_push_of_some _ e
   refine Calls.spliced_nil ?_
   have hd:X.A.handled=none:=I.ok.hd hc
   have hn2:=pR h
   have hsz:Builtin.Range.rangeSize x y z=((Builtin.Range.rangeSize x y z).toNat:Nat):=by omega
   refine call_list_range hd (IsRange.new ..) (IU h) hsz (by omega) fun h' tk dq c' hk hl hit=>?_
   obtain⟨hi1,hi2⟩:=hit
   have hv:Vals ((range (Builtin.Range.rangeSize x y z).toNat).map fun i=>V.int (x+(i:Nat)*z)) dq.toList:=uj (by simpa using hi1) fun i v e=>hi2 i v (by simpa using e)
   have hlen:((range (Builtin.Range.rangeSize x y z).toNat).map fun i=>V.int (x+(i:Nat)*z)).length<=sizeLine:=by
    rw[length_map,length_range]
    exact le_trans (show(Builtin.Range.rangeSize x y z).toNat<=2000000 by omega) (by decide)
   refine⟨.ref _,upd H1 _ (.lst ((range (Builtin.Range.rangeSize x y z).toNat).map fun i=>V.int (x+(i:Nat)*z))),I2.laid (a:=_) hk (Nat.le_refl _) ⟨hlen,dq.toList,c',hv,by simpa using hl⟩,rfl,?_⟩
   have hn:H1 (s1.heap.push {cls:=.type "range",data:=.fields #[.int x t1,.int y t2,.int z t3]}).objs.size=none:=I2.hok.fresh (Nat.le_refl _)
   exact q _ _ _ (sm.trans (aD hn _)) (sm.free hn) ak IV
  ·exact q.elim
 ·exact q.elim
end
theorem cW:∀(names:List (Str×NameKind))(n:Nat)(acc:List (Str×Addr)),cellsFrom n names acc=cellsFrom n names []++acc
 |[],n,acc=>rfl
 |(x,k)::r,n,acc=>by
  unfold cellsFrom
  split
  ·rw[cW r (n+1) ((x,n)::acc),cW r (n+1) [(x,n)],List.append_assoc]
   rfl
  ·exact cW r n acc
theorem jm:∀(names:List (Str×NameKind))(n:Nat){x:Str}{c:Addr},(x,c)∈cellsFrom n names []->(x,NameKind.cell)∈names
 |[],n,x,c,h=>by cases h
 |(y,k)::r,n,x,c,h=>by
  unfold cellsFrom at h
  split at h
  ·rename_i hk
   rw[cW]at h
   rcases mem_append.mp h with z|z
   ·exact mem_cons_of_mem _ (jm r (n+1) z)
   ·rw[mem_singleton]at z
    cases z
    have:k=.cell:=by simpa using hk
    rw[this]
    exact mem_cons_self
  ·exact mem_cons_of_mem _ (jm r n h)
theorem Nm{α:Type}{a b:List (Str×α)}{x:Str}{c:α}(h:(a++b).lookup x=some c):a.lookup x=some c\/(a.lookup x=none/\b.lookup x=some c):=by
 rw[List.lookup_append]at h
 cases q:a.lookup x with
 |some d=>rw[q]at h;exact .inl h
 |none=>rw[q]at h;exact .inr ⟨rfl,h⟩
theorem pS{M:Model}{A:Around}{E:Value->Shared->Prop}{s:Shared}{scope:Scope}{globals:Addr}{cl:List (Str×Addr)}{qual:Str}{func:Option Addr}{code:Value}{around:Env}{builtins:Addr}{Q:Env->Shared->Prop}
  (hQ:Q {scope:=scope,locals:=s.heap.objs.size,globals:=globals,cells:=cellsFrom (s.heap.objs.size+1) scope.names cl,qual:=qual,func:=func,code:=around.code,frame:=around.frame,builtins:=around.builtins} {s with heap:=pushCells (s.heap.push {cls:=.type "dict",data:=.dict #[]}) scope.names}):
  wpAny M A (newFunctionEnv scope globals cl [] qual func code (some around) builtins) Q E s:=by
 simp only [newFunctionEnv,isSome_some,if_true]
 refine wpAny_bind (wpAny_alloc ?_)
 refine wpAny_bind (wpAny_layCells _ (fun name kind cells=>by cases hkc:kind==NameKind.cell<;>simp[hkc]) _ _ _ _ ?_)
 rw[show({s with heap:=s.heap.push {cls:=.type "dict",data:=.dict #[]}}:Shared).heap.objs.size=s.heap.objs.size+1 from Heap.size_push ..]
 rw[List.forIn_nil]
 exact wpAny_bind (wpAny_pure (wpAny_pure hQ))
def Pu(X:Cx)(scope:Scope)(C:Addr):List (Str×Addr):=cellsFrom (C+1) scope.names (vW X.env.cells scope.names [])
def oF(X:Cx)(scope:Scope)(N:List Str)(s:Shared)(H:Hp)(fp:List Addr)(C:Addr)(pl:List (Addr×Obj)):Cx where
 prog:=X.prog
 w:=X.w
 K:=X.K
 mg:=X.mg
 base:=X.base
 A:=X.A
 N:=N
 s₀:=s
 H₀:=H
 env:=compEnvC scope (Pu X scope C) C X.env
 outer:=X.stack
 stack:=X.stack
 ex:=fp
 fn:=fun x=>scope.names.lookup x==some NameKind.cell
 calm:=X.calm
 pn:=pl
 xe:=fun _ _=>False
structure cG(X:Cx)(scope:Scope)(N:List Str)(nt:Nat)(caps:List Nat):Prop where
 kind:scope.kind=.function
 apart:∀x,scope.names.lookup x=some .free->(x,NameKind.cell)∉scope.names
 names:∀y∈scope.names,y.2=.local->scope.names.lookup y.1=some .local
 free:∀y∈scope.names,y.2=.free->X.env.kindOf y.1=some .cell\/X.env.kindOf y.1=some .free
 len:N.length=nt+caps.length
 nd:N.Nodup
 caps:∀(j i:Nat),caps[j]?=some i->∃x,N[nt+j]?=some x/\X.N[i]?=some x/\scope.names.lookup x=some .free/\vI X.env.scope x
section
variable{X:Cx}{scope:Scope}{N:List Str}{nt:Nat}{caps:List Nat}{pins:List (Addr×Obj)}{σ:St}{H:Hp}{s:Shared}
theorem cG.cells (S:cG X scope N nt caps)(I:Inv X pins σ H s):∀y∈scope.names,y.2=.free->∃c,X.env.cells.lookup y.1=some c:=fun y hy hf=>I.ok.has y.1 (S.free y hy hf)
theorem cG.lk (S:cG X scope N nt caps)(I:Inv X pins σ H s){x:Str}{c:Addr}(h:(vW X.env.cells scope.names []).lookup x=some c):X.env.cells.lookup x=some c:=
 k9 scope.names [] (S.cells I) (fun c e=>by cases e) c h
theorem cG.IX (S:cG X scope N nt caps)(I:Inv X pins σ H s){C:Addr}(hC:s.heap.objs.size=C){x:Str}{c:Addr}(h:(Pu X scope C).lookup x=some c):
  ((cellsFrom (C+1) scope.names []).lookup x=some c/\C<c/\(pushCells (s.heap.push {cls:=.type "dict",data:=.dict #[]}) scope.names).IsCell c none)\/((cellsFrom (C+1) scope.names []).lookup x=none/\X.env.cells.lookup x=some c/\c<C):=by
 unfold Pu at h
 rw[cW]at h
 have ok:=cellsFrom_ok scope.names (s.heap.push {cls:=.type "dict",data:=.dict #[]}) (C+1) [] ⟨fun _ _ hm=>(nomatch hm),Pairwise.nil⟩ (by rw[Heap.size_push];omega)
 rw[Heap.size_push,hC]at ok
 rcases Nm h with z|⟨z1,z⟩
 ·have q:=ok.empty x c (PySem.mem_of_lookup z)
  exact .inl ⟨z,q.2,q.1⟩
 ·have q:=S.lk I z
  refine .inr ⟨z1,q,?_⟩
  obtain⟨v,hv⟩:=I.cell x c q
  exact hC▸hv.lt
theorem cG.VE (S:cG X scope N nt caps){C:Addr}{x y:Str}{c:Addr}(h1:(cellsFrom (C+1) scope.names []).lookup x=some c)(h2:(cellsFrom (C+1) scope.names []).lookup y=some c){h:Heap}(hC:h.objs.size=C+1):x=y:=by
 have ok:=cellsFrom_ok scope.names h (C+1) [] ⟨fun _ _ hm=>(nomatch hm),Pairwise.nil⟩ (by omega)
 rw[hC]at ok
 exact name_of_addr ok.apart (PySem.mem_of_lookup h1) (PySem.mem_of_lookup h2)
theorem cG.start (S:cG X scope N nt caps)(I:Inv X pins σ H s){fp:List Addr}(hf:∀b∈fp,jI X pins H b){C:Addr}(hC:s.heap.objs.size=C)
  (hpin:∀b∈fp,∃o,s.heap.get? b=some o)
  {vs:List V}(hv:vs.length=caps.length)(hvs:∀(j i:Nat)(v:V),caps[j]?=some i->vs[j]?=some v->σ[i]?=some (some v))(σ':St)(hσ:σ'=replicate nt none++vs.map some):
  Inv (oF X scope N s H fp C (X.pn++pins)) [] σ' H {s with heap:=pushCells (s.heap.push {cls:=.type "dict",data:=.dict #[]}) scope.names}:=by
 subst hσ
 have hH:∀b,s.heap.objs.size<=b->H b=none:=fun b hb=>I.hok.fresh hb
 have IX:=fun{x c}(h:(Pu X scope C).lookup x=some c)=>S.IX I hC h
 have k:∀b o,s.heap.get? b=some o->(pushCells (s.heap.push {cls:=.type "dict",data:=.dict #[]}) scope.names).get? b=some o:=fun b o e=>pushCells_keeps _ _ b o (Heap.get?_push_of_some _ e)
 have hn:(pushCells (s.heap.push {cls:=.type "dict",data:=.dict #[]}) scope.names).Ns C (fun _=>none):=by
  rw[<-hC]
  exact(Heap.Ns.new s.heap (.type "dict")).keeps (pushCells_keeps _ _)
 have ok:(oF X scope N s H fp C (X.pn++pins)).Ok:={
  mod:=I.ok.mod
  kind:=S.kind
  glob:=I.ok.glob
  blt:=I.ok.blt
  above:=le_of_eq hC
  inj:=fun x y c h1 h2=>by
   rcases IX h1 with⟨a1,a2,_⟩|⟨_,a1,a2⟩<;>rcases IX h2 with⟨b1,b2,_⟩|⟨_,b1,b2⟩
   ·exact S.VE a1 b1 (h:=s.heap.push {cls:=.type "dict",data:=.dict #[]}) (by rw[Heap.size_push,hC])
   ·exact absurd (lt_trans a2 b2) (Nat.lt_irrefl _)
   ·exact absurd (lt_trans a2 b2) (Nat.lt_irrefl _)
   ·exact I.ok.inj x y c a1 b1
  has:=fun x h=>by
   have h':(relabel scope X.env).names.lookup x=some .cell\/(relabel scope X.env).names.lookup x=some .free:=h
   have hk:scope.names.lookup x=some .free\/scope.names.lookup x=some .cell:=by
    rcases h' with h'|h'
    ·obtain⟨k',e,q⟩:=bf h'
     rcases q with rfl|⟨rfl,_⟩
     ·exact .inr e
     ·exact .inl e
    ·obtain⟨k',e,q⟩:=bf h'
     rcases q with rfl|⟨rfl,q⟩
     ·exact .inl e
     ·exact .inl e
   show∃c,(cellsFrom (C+1) scope.names (vW X.env.cells scope.names [])).lookup x=some c
   rw[cW,List.lookup_append]
   rcases hk with hk|hk
   ·obtain⟨c,hc⟩:=pK (cells:=X.env.cells) (x:=x) scope.names [] (.inr (mem_of_lookup hk))
    cases q:(cellsFrom (C+1) scope.names []).lookup x with
    |some d=>exact⟨d,rfl⟩
    |none=>exact⟨c,hc⟩
   ·have q:=cellsFrom_some scope.names (C+1) [] (.inl hk)
    obtain⟨d,hd⟩:=isSome_iff_exists.mp q
    rw[hd]
    exact⟨d,rfl⟩
  LW:=fun x c hx h=>by
   have hk:scope.names.lookup x=some .cell:=by
    have:(scope.names.lookup x==some NameKind.cell)=true:=hx
    simpa using this
   rcases IX h with⟨_,a2,_⟩|⟨a0,_,_⟩
   ·show s.heap.objs.size<=c
    rw[hC]
    exact le_of_lt a2
   ·have q:=cellsFrom_some scope.names (C+1) [] (.inl hk)
    obtain⟨d,hd⟩:=isSome_iff_exists.mp q
    rw[hd]at a0
    cases a0
  hd:=I.ok.hd
  frames:=I.ok.frames
  Pd:=.inl rfl
  LX:=fun b hb=>by
   obtain⟨o,e⟩:=hpin b hb
   have hlt:=Heap.lt_size e
   refine⟨fun z=>absurd (z▸hlt) (by show¬C<_;rw[hC];exact Nat.lt_irrefl _),fun x c h z=>?_⟩
   rcases IX h with⟨_,a2,_⟩|⟨_,a1,_⟩
   ·rw[z]at a2
    exact absurd (lt_trans a2 (hC▸hlt)) (Nat.lt_irrefl _)
   ·exact(hf b hb).2.2.2.2.1 x c a1 z
  bs:=I.bs
  Cr:=le_trans I.ok.Cr I.sz
  x6:=fun b o e hb=>by
   rcases(hf b hb).2.2.2.1 with z|z
   ·exact I.ok.x6 b o e z
   ·exact absurd (lt_of_lt_of_le (Heap.lt_size e) (le_trans I.ok.Cr z)) (Nat.lt_irrefl _)
  wI:=fun b hb z=>by
   rcases mem_cons.mp (I.qy b z)with q|q
   ·exact(hf b hb).2.1 q
   ·exact(hf b hb).2.2.1 q
  pA:=I.stack
  Hz:=I.wJ}
 refine⟨ok,rfl,I.bare,Un.kept k,⟨_,hn,fun i x v e1 e2 e3=>?_⟩,fun x c e=>?_,hH C (le_of_eq hC),fun x c e=>?_,fun p hp=>?_,I.hok.kept k,?_⟩
 ·have hi:nt<=i:=by
   refine le_of_not_lt fun z=>?_
   rw[getElem?_append_left (by simpa using z),getElem?_replicate]at e2
   split at e2<;>cases e2
  rw[getElem?_append_right (by simpa using hi),getElem?_map]at e2
  have Ep:(vs[i-nt]?).map some=some (some v):=by simpa using e2
  cases q:vs[i-nt]? with
  |none=>rw[q]at Ep;cases Ep
  |some v'=>
   rw[q]at Ep
   cases Ep
   have hj:i-nt<caps.length:=by rw[<-hv];exact(List.getElem?_eq_some_iff.mp q).1
   obtain⟨x',h1,h2,h3,h4⟩:=S.caps (i-nt) caps[i-nt] (getElem?_eq_getElem hj)
   have ex:x'=x:=by
    have Ec:N[i]?=some x:=e1
    rw[show nt+(i-nt)=i by omega,Ec]at h1
    exact(Option.some.inj h1).symm
   subst ex
   have hs:=hvs (i-nt) _ v (getElem?_eq_getElem hj) q
   obtain⟨m0,hn0,Vd⟩:=I.loc
   obtain⟨u,r,l⟩:=Vd _ x' v h2 hs h4
   refine⟨u,r,?_⟩
   have hkx:=S.free _ (mem_of_lookup h3) rfl
   rcases l with⟨k1,_⟩|⟨k1,c,hc,hcell⟩
   ·have MN:X.env.kindOf x'=some .local:=k1
    rcases hkx with z|z
    ·have z':X.env.kindOf x'=some .cell:=z
     rw[MN]at z';cases z'
    ·have z':X.env.kindOf x'=some .free:=z
     rw[MN]at z';cases z'
   ·obtain⟨c',AU⟩:=ok.has x' (by
     rcases e3 with z|z|z
     ·exfalso
      obtain⟨k',e,q⟩:=bf (show(relabel scope X.env).names.lookup x'=some .local from z)
      rcases q with rfl|⟨_,q⟩
      ·rw[h3]at e;cases e
      ·cases q
     ·exact .inl z
     ·exact .inr z)
    have hc2:X.env.cells.lookup x'=some c':=by
     rcases IX AU with⟨a1,_,_⟩|⟨_,a1,_⟩
     ·exact absurd (jm _ _ (PySem.mem_of_lookup a1)) (S.apart x' h3)
     ·exact a1
    rw[hc]at hc2
    cases hc2
    refine .inr ⟨?_,c,AU,let⟨o,ho,hd⟩:=hcell;⟨o,k _ o ho,hd⟩⟩
    rcases e3 with z|z|z
    ·exfalso
     obtain⟨k',e,q⟩:=bf (show(relabel scope X.env).names.lookup x'=some .local from z)
     rcases q with rfl|⟨_,q⟩
     ·rw[h3]at e;cases e
     ·cases q
    ·exact .inl z
    ·exact .inr z
 ·rcases IX e with⟨_,_,a3⟩|⟨_,a1,_⟩
  ·exact⟨_,a3⟩
  ·obtain⟨v,z⟩:=I.cell x c a1
   exact⟨v,let⟨o,ho,hd⟩:=z;⟨o,k _ o ho,hd⟩⟩
 ·rcases IX e with⟨_,a2,_⟩|⟨_,a1,_⟩
  ·exact hH c (by rw[hC];exact le_of_lt a2)
  ·exact I.mB x c a1
 ·have Kb:p∈X.pn++pins:=by simpa[oF]using hp
  obtain⟨e,n,ne,nf,d⟩:=I.pin p Kb
  refine⟨k _ _ e,n,fun z=>absurd (Heap.lt_size e) (by rw[z];show¬C<_;rw[hC];exact Nat.lt_irrefl _),fun z=>?_,d⟩
  rcases mem_cons.mp (I.qy _ z)with q|q
  ·exact ne q
  ·exact nf q
 ·show(replicate nt none++vs.map some).length=N.length
  rw[S.len];simp[hv]
end
section
variable{X:Cx}{E:Str->Hp->Prop}{pos:Pos}{scope:Scope}{N:List Str}{nt:Nat}{caps:List Nat}
theorem Fb{elt tg iter:Expr}{ifs:List Expr}{fi:DE->R (List D)}{b:D->DE->R DE}{ct:DE->R Bool}{fe:DE->R D}(S:cG X scope N nt caps)(pL:X.calm=true)(hi:PI X tg iter (Pj X.K E fi))
  (hb1:∀ds d e,b d (dX nt ds)=.ok e->∃ts,e=ts++ds.map .val/\ts.length=nt)
  (hg:∀s H fp C pl,PG (oF X scope N s H fp C pl) tg (tG X.K EN b))(ht:∀s H fp C pl,Pk (oF X scope N s H fp C pl) ifs (tT X.K EN ct))(he:∀s H fp C pl,PE (oF X scope N s H fp C pl) elt (tD X.K EN fe))
  (hs:∀x,foldedSetIterable iter X.env x=pure x){use:Option (Value->Sem Unit)}{Qv:Value->Shared->Prop}{pins:List (Addr×Obj)}{s:Shared}{σ:St}{H:Hp}{env:DE}{os:List Addr}{g:Gh}(I:Inv X pins σ H s)(r:Rel X.K g env σ H os)
  (m:Good E g.H₀ ((fi env).bind fun xs=>(cR env caps).bind fun ds=>(bu b ct fe (dX nt ds) xs).ne.bind fit) (QU X pins σ g os H use Qv)){ps:Pos}:
  wpAny (model X.prog X.w) X.A (comprehension (.ListComp elt [⟨tg,iter,ifs,0⟩] scope pos) scope X.env ps (newList []) false (eval iter X.env) use) Qv X.xe s:=by
 refine wpAny_comprehension_free (use:=use) rfl hs (j9 (S.cells I)) S.kind S.names ?_
 refine bD (hi pins s σ H (fun J H1=>∃xs,aB H H1/\Va X.K (g.P os) J H1 xs/\Good E g.H₀ ((cR env caps).bind fun ds=>(bu b ct fe (dX nt ds) xs).ne.bind fit) _) I ⟨g,env,os,r,m.bind.mono fun xs _ m1 J H1 s1 yl=>⟨xs,s1,yl,m1⟩⟩) fun v s1 h1=>bD h1 fun itv s2 h2=>?_
 obtain⟨it,fp,tn,J,H2,rfl,I2,T,yb,f2,xs,CO,yl,m1⟩:=h2
 have r2:=r.same CO
 obtain⟨ds,vs,m2,MO,Tf,hds,hvs⟩:=m1.bind.cR r2
 cases ec:bu b ct fe (dX nt ds) xs with
 |bad=>rw[ec]at m2;exact m2.elim
 |err c=>rw[ec]at m2;exact m2.elim
 |ok ys=>
 rw[ec]at m2
 obtain⟨hz,q⟩:=(show Good E g.H₀ (fit ys) _ from m2).fit
 refine wpAny_newObj_type (pS ?_)
 dsimp only
 have CP:H2 s2.heap.objs.size=none:=I2.hok.fresh (Nat.le_refl _)
 have I3:Inv X pins σ (upd H2 s2.heap.objs.size (.lst [])) {s2 with heap:=s2.heap.push {cls:=.type "list",dict:=none,data:=.seq ([]:List Value).toArray}}:=
  I2.laid (t':=s2.toks) (fun b u e=>Heap.get?_push_of_some _ e) (Nat.le_refl _) ⟨zero_le _,[],0,.nil,Heap.get?_push_size _ rfl⟩
 generalize Kc:({s2 with heap:=s2.heap.push {cls:=.type "list",dict:=none,data:=.seq ([]:List Value).toArray}}:Shared)=s3 at I3
 have Es:s3.heap=s2.heap.push {cls:=.type "list",dict:=none,data:=.seq ([]:List Value).toArray}:=by rw[<-Kc]
 rw[<-Es]
 generalize QV:s2.heap.objs.size=Dd at*
 have k3:∀b o,s3.heap.get? b=some o->(pushCells (s3.heap.push {cls:=.type "dict",data:=.dict #[]}) scope.names).get? b=some o:=fun b o e=>pushCells_keeps _ _ b o (Heap.get?_push_of_some _ e)
 have yt:∀b∈fp,∃o,s2.heap.get? b=some o:=fun b hb=>let⟨o,e,_⟩:=T.obj 0 _ yb b hb;⟨o,e⟩
 have Et:∀b∈fp,∃o,s3.heap.get? b=some o:=fun b hb=>let⟨o,e⟩:=yt b hb;⟨o,by rw[Es];exact Heap.get?_push_of_some _ e⟩
 have QW:∀b∈fp,b≠Dd:=fun b hb=>let⟨o,e⟩:=yt b hb;by rw[<-QV];exact ne_of_lt (Heap.lt_size e)
 have f3:∀b∈fp,jI X pins (upd H2 Dd (.lst [])) b:=fun b hb=>⟨by rw[ah (QW b hb)];exact(f2 b hb).1,(f2 b hb).2⟩
 have sD:aB H2 (upd H2 Dd (.lst [])):=aD CP _
 have I4:=S.start I3 f3 rfl Et MO (fun j i v e1 e2=>hvs j i v e1 e2) _ rfl
 generalize hX:oF X scope N s3 (upd H2 Dd (.lst [])) fp s3.heap.objs.size (X.pn++pins)=X' at I4
 have Kd:=hg s3 (upd H2 Dd (.lst [])) fp s3.heap.objs.size (X.pn++pins)
 have z0:=ht s3 (upd H2 Dd (.lst [])) fp s3.heap.objs.size (X.pn++pins)
 have Hf:=he s3 (upd H2 Dd (.lst [])) fp s3.heap.objs.size (X.pn++pins)
 rw[hX]at Kd z0 Hf
 have eK:X'.K=X.K:=by rw[<-hX];rfl
 have eP:X'.prog=X.prog:=by rw[<-hX];rfl
 have eW:X'.w=X.w:=by rw[<-hX];rfl
 have eA:X'.A=X.A:=by rw[<-hX];rfl
 have eE:X'.xe=fun _ _=>False:=by rw[<-hX];rfl
 have eC:X'.calm=true:=by rw[<-hX];exact pL
 have eL:X'.env.locals=s3.heap.objs.size:=by rw[<-hX];rfl
 have eS:X'.s₀=s3:=by rw[<-hX];rfl
 have eX:X'.ex=fp:=by rw[<-hX];rfl
 have eF:X'.fs=xR X.stack:=by rw[<-hX];rfl
 have eN:X'.pn=X.pn++pins:=by rw[<-hX];rfl
 have eH:X'.H₀=upd H2 Dd (.lst []):=by rw[<-hX];rfl
 have eV:X'.env=compEnvC scope (Pu X scope s3.heap.objs.size) s3.heap.objs.size X.env:=by rw[<-hX];rfl
 have Eu:∀{Hx:Hp},(∀b∈fp,Hx b=none)->∀b∈fp,jI X' [] Hx b:=fun{Hx} hn b hb=>by
  obtain⟨_,c1,c2,c3,c4,c5⟩:=f3 b hb
  have q:=I4.ok.LX b (by rw[eX];exact hb)
  refine⟨hn b hb,q.1,I4.ok.wI b (by rw[eX];exact hb),.inl (by rw[eX];exact hb),q.2,fun p hp=>?_⟩
  rw[eN,append_nil]at hp
  exact c5 p hp
 let g':Gh:=⟨g.P os,H2⟩
 have QX:∀{Hx:Hp},aB H2 Hx->Ext (g.P os) (g'.P [Dd]) H2 Hx:=fun sx=>⟨fun a o p e=>⟨.inl p,fun z=>by
  have z':a=Dd:=by simpa using z
  rw[z',CP]at e;cases e⟩,fun a o _ e=>sx a o e⟩
 have MP:Rel X.K g' (dX nt ds) (replicate nt none++vs.map some) (upd H2 Dd (.lst [])) [Dd]:=by
  refine⟨by simp[dX,MO,Tf],sD,fun i d e=>?_,fun i xs e=>(nR e).elim,fun i j xs ys b e=>(nR e).elim,fun b hb=>?_,fun i w e=>(w9 e).elim,ym.none fun i w e=>tY e⟩
  ·obtain⟨h1,h2⟩:=w6 e
   obtain⟨v,q1,q2⟩:=hds.get h2
   refine⟨v,?_,Is.ext (QX sD) _ _ q2⟩
   rw[getElem?_append_right (by simpa using h1),getElem?_map,length_replicate,q1]<;>rfl
  ·have e:b=Dd:=by simpa using hb
   subst e
   exact⟨CP,_,ak⟩
 have loop:∀s4:Shared,Inv X' [] (replicate nt none++vs.map some) (upd H2 Dd (.lst [])) s4->tn 0 s4.heap->
   codeAny (model X.prog X.w) X.A (.compLoop (.ListComp elt [⟨tg,iter,ifs,0⟩] scope pos) 0 (.ref it) (.ref Dd) (compEnvC scope (Pu X scope s3.heap.objs.size) s3.heap.objs.size X.env))
    (compPost (model X.prog X.w) X.A X.xe use Qv (.ref Dd) s3.heap.objs.size) s4:=by
  intro s4 J4 yu
  refine mJ (fun n s'=>∃i acc as rest Hx σ',n=xs.length-i/\i<=xs.length/\Inv X' [] σ' Hx s'/\tn i s'.heap/\(∀b∈fp,Hx b=none)/\Hx Dd=some (.lst acc)/\IsL X.K (g'.P [Dd]) Hx as acc/\
   bu b ct fe (dX nt ds) (xs.drop i)=.ok rest/\as++rest=ys/\Rel X.K g' (dX nt ds) σ' Hx [Dd]) ?_ xs.length
   ⟨0,[],[],ys,_,_,by simp,zero_le _,J4,yu,fun b hb=>(f3 b hb).1,ak,rfl,by rw[drop_zero];exact ec,rfl,MP⟩
  rintro n s5 ⟨i,acc,as,rest,Hx,σ5,rfl,X1,J5,Dt,CA,Hg,MQ,c5,e5,r5⟩
  obtain⟨y1,y2⟩:=yl i Hx (g'.P [Dd]) r5.ext (QX r5.ext)
  by_cases hlt:i<xs.length
  ·have hx:xs[i]?=some xs[i]:=getElem?_eq_getElem hlt
   obtain⟨go,y3⟩:=y1 _ hx
   rw[List.drop_eq_getElem_cons hlt]at c5
   obtain⟨e1,Ip,c6⟩:=R.bU (show(b xs[i] (dX nt ds)).bind _=.ok rest from c5)
   obtain⟨t,Pn,c7⟩:=R.bU c6
   have TI:=T.item X' eP eW eK eC i [] s5 σ5 Hx (fun _ _=>False) J5 (Eu CA) Dt go
   rw[eA]at TI
   refine bD TI fun r s6 h6=>?_
   obtain⟨u,rfl,h6⟩:=h6
   refine bD h6 fun _ s7 h7=>?_
   obtain⟨x,H7,J7,rx,hy,Ew,QY⟩:=h7
   obtain⟨CQ,hix⟩:=y3 x H7 hy
   have ix:Is X.K (g'.P [Dd]) H7 xs[i] x:=Is.ext ⟨fun a o p _=>p.elim (fun z=>z) fun z=>r5.fresh z,fun _ _ _ z=>z⟩ _ _ hix
   have QZ:=J7.pinned (Eu QY) (T.obj _ _ Ew)
   have TG:=Kd _ s7 σ5 H7 x u (fun σ8 H8=>∃e8,b xs[i] (dX nt ds)=.ok e8/\Rel X.K g' e8 σ8 H8 [Dd]/\H8=H7) QZ rx ⟨g',dX nt ds,[Dd],xs[i],r5.same CQ,ix,lg Ip fun σ8 r8=>⟨e1,Ip,r8,rfl⟩⟩
   rw[eP,eW,eA,eE,eV]at TG
   refine bD TG fun _ s8 h8=>?_
   obtain⟨σ8,H8,J8,e8,Q0,r8,Tg⟩:=h8
   rw[Tg]at J8 r8
   rw[Ip]at Q0
   cases Q0
   have TT:=z0 _ s8 σ8 H7 (fun t' H9=>t'=t/\aB H7 H9) J8 ⟨g',e1,[Dd],r8,lg Pn fun H9 s9=>⟨rfl,s9⟩⟩
   rw[eP,eW,eA,eE,eV]at TT
   refine bD TT fun ok s9 h9=>?_
   obtain⟨H9,J9,rfl,vp⟩:=h9
   obtain⟨ts,hts,Ir⟩:=hb1 ds _ _ Ip
   have tZ:∀{σx:St}{Hy:Hp}{sx:Shared},Inv X' ([]++oW fp s7.heap) σx Hy sx->tn (i+1) sx.heap/\∀b∈fp,Hy b=none:=fun{σx Hy sx} Jx=>
    ⟨T.keep _ _ _ Ew fun b hb o e=>(Jx.pin (b,o) (mem_append_right _ (mem_append_right _ (du hb e)))).1,fun b hb=>by
     obtain⟨o,e,d⟩:=T.obj _ _ Ew b hb
     exact(Jx.pin (b,o) (mem_append_right _ (mem_append_right _ (du hb e)))).2.1⟩
   cases ok with
   |false=>
    rw[if_neg Bool.false_ne_true]
    have c8:bu b ct fe (dX nt ds) (xs.drop (i+1))=.ok rest:=c7
    obtain⟨k1,k2⟩:=tZ J9
    exact⟨xs.length-(i+1),by omega,i+1,acc,as,rest,H9,σ8,rfl,hlt,J9.g8,k1,k2,vp _ _ (CQ _ _ Hg),(MQ.same CQ).same vp,c8,e5,
     sN r8 hts Ir (.same vp) (r8.ext.trans vp) ⟨_,vp _ _ (CQ _ _ Hg)⟩⟩
   |true=>
    rw[if_pos rfl]
    obtain⟨d,Vf,c8⟩:=R.bU (show(fe e1).bind _=.ok rest from c7)
    obtain⟨t8,Vg,c9⟩:=R.bU c8
    have Vh:rest=d::t8:=by cases c9;rfl
    subst Vh
    have TE:=Hf _ s9 σ8 H9 (fun v pM=>aB H9 pM/\Is X.K (g'.P [Dd]) pM d v) J9 ⟨g',e1,[Dd],r8.same vp,lg Vf fun v pM Iu Vi=>⟨Iu,Vi⟩⟩
    rw[eP,eW,eA,eE,eV]at TE
    refine bD TE fun y Iu Q1=>?_
    obtain⟨v,pM,Q2,rv,xf,iv⟩:=Q1
    have Ex:pM Dd=some (.lst acc):=xf _ _ (vp _ _ (CQ _ _ Hg))
    have Ey:IsL X.K (g'.P [Dd]) pM as acc:=((MQ.same CQ).same vp).same xf
    have TM:=cV (X:=X') _ Iu σ8 pM (.ref Dd) [v] (.ref Dd) [y] (fun _ Iw=>Iw=upd pM Dd (.lst (acc++[v]))) Q2 rfl (.cons rv .nil) ⟨Dd,acc,v,rfl,rfl,Ex,by
     rw[Ey.length]
     have:(as++d::t8).length<=sizeLine:=by rw[e5];exact hz
     rw[length_append,length_cons]at this
     omega,rfl⟩
    rw[eP,eW,eA,eE]at TM
    refine bD TM fun _ X2 h11=>?_
    obtain⟨v',Iw,Ke,_,rfl⟩:=h11
    obtain⟨k1,k2⟩:=tZ Ke
    have Q3:Ext (g'.P [Dd]) (g'.P [Dd]) pM (upd pM Dd (.lst (acc++[v]))):=⟨fun _ _ p _=>p,fun a o p e=>by rw[ah (fun z=>p.2 (by simp[z]))];exact e⟩
    have MR:aB H2 pM:=(r8.ext.trans vp).trans xf
    refine⟨xs.length-(i+1),by omega,i+1,acc++[v],as++[d],t8,_,σ8,rfl,hlt,Ke.g8,k1,k2,ak,IsL.ext Q3 _ _ (Ey.app (.one iv)),Vg,by rw[List.append_assoc];exact e5,?_⟩
    exact sN (r8.same (vp.trans xf)) hts Ir Q3 (fun a o e=>by rw[ah (ao (show H2 a=some o from e) CP)];exact MR a o e) ⟨_,ak⟩
  ·have e:i=xs.length:=by omega
   subst e
   rw[drop_length]at c5
   have Vj:rest=[]:=by cases c5;rfl
   subst Vj
   rw[append_nil]at e5
   subst e5
   have TD:=T.done X' eP eW eK eC xs.length [] s5 σ5 Hx (fun _ _=>False) J5 (Eu CA) Dt (y2 rfl)
   rw[eA]at TD
   refine bD TD fun r s6 h6=>?_
   obtain⟨rfl,J6⟩:=h6
   obtain⟨m6,Dw,_⟩:=J6.loc
   rw[eL]at Dw
   have Q4:Un (xR X.stack) fp (upd H2 Dd (.lst [])) Hx s3.heap s6.heap:=by
    have u:=J6.base
    rw[eF,eX,eH,eS]at u
    exact u
   have hxC:Hx s3.heap.objs.size=none:=by have:=J6.free;rw[eL]at this;exact this
   have Ez:nK X.prog X.w Hx s6.heap:=by
    have z:=J6.hok
    rw[eP,eW]at z
    exact z
   have Q5:s6.os=s3.os:=by have:=J6.os;rw[eS]at this;exact this
   have I6:Inv X pins σ Hx s6:=I3.DI (s':=s6) Q5 Q4 Ez J6.bare fun b hb=>by
    obtain⟨_,c1,c2,c3,c4,c5⟩:=f3 b hb
    exact⟨c3,c1,c4,c5⟩
   have fC:jI X pins Hx s3.heap.objs.size:=⟨hxC,(I3.zJ (Nat.le_refl _) (I3.hok.fresh (Nat.le_refl _))).2⟩
   refine q Dd s3.heap.objs.size acc Hx s6 I6 ⟨m6,Dw⟩ fC (CO.trans r5.ext) (CO.free CP) Hg (IsL.ext ⟨fun a o p _=>?_,fun _ _ _ z=>z⟩ _ _ MQ)
   have z:g.P os a:=p.1.elim (fun z=>z) fun z=>r2.fresh z
   exact⟨z.1,fun hm=>(mem_cons.mp hm).elim (fun z=>p.2 (by simp[z])) z.2⟩
 have yu:tn 0 (pushCells (s3.heap.push {cls:=.type "dict",data:=.dict #[]}) scope.names):=T.keep _ _ _ yb fun b hb o e=>k3 b o (by rw[Es];exact Heap.get?_push_of_some _ e)
 have eG:({s3 with heap:=pushCells (s3.heap.push {cls:=.type "dict",data:=.dict #[]}) scope.names}:Shared)={s2 with heap:=pushCells (s3.heap.push {cls:=.type "dict",data:=.dict #[]}) scope.names}:=by rw[<-Kc]
 rw[eG]at I4
 exact codeAny_compStart_list (loop _ I4 yu) (T.self _ 0 _ _ _ yu (loop _ I4 yu))
variable{elt tg iter:Expr}{ifs:List Expr}{fi:DE->R (List D)}{b:D->DE->R DE}{ct:DE->R Bool}{fe:DE->R D}
theorem Nn(S:cG X scope N nt caps)(pL:X.calm=true)(hi:PI X tg iter (Pj X.K E fi))
  (hb1:∀ds d e,b d (dX nt ds)=.ok e->∃ts,e=ts++ds.map .val/\ts.length=nt)
  (hg:∀s H fp C pl,PG (oF X scope N s H fp C pl) tg (tG X.K EN b))(ht:∀s H fp C pl,Pk (oF X scope N s H fp C pl) ifs (tT X.K EN ct))(he:∀s H fp C pl,PE (oF X scope N s H fp C pl) elt (tD X.K EN fe))
  (hs:∀x,foldedSetIterable iter X.env x=pure x:=by intro _;rfl):
  PE X (.ListComp elt [⟨tg,iter,ifs,0⟩] scope pos) (tF X.K E fun env=>(fi env).bind fun xs=>(cR env caps).bind fun ds=>(bu b ct fe (dX nt ds) xs).ne.bind fit):=by
 intro pins s σ H Q I h
 obtain⟨g,env,os,r,m⟩:=h
 rw[eval_ListComp]
 refine Fb S pL hi hb1 hg ht he hs I r (m.mono fun ys _ q Dd C acc Hx s6 I6 hn fC sm hD hx ia=>?_)
 obtain⟨m6,Dw⟩:=hn
 refine⟨m6,Dw,fun h7 Q6=>⟨.ref Dd,Hx,vX (fp:=[C]) (t':=s6.toks) I6 (fun b hb=>by
  have z:b=C:=by simpa using hb
  rw[z];exact fC) (fun b u hb e=>(Q6.2 b (fun z=>hb (by simp[z]))).trans e),rfl,q Dd acc Hx sm hD hx ia⟩⟩
end
def Fc(yA sc:Scope)(XN N:List Str)(nt:Nat)(caps:List Nat):Bool:=
 sc.kind==.function&&sc.names.all (fun y=>(y.2 !=.free||sc.names.all fun z=> !(z.1==y.1&&z.2==.cell))&&(y.2 !=.local||sc.names.lookup y.1==some .local)&&(y.2 !=.free||yA.names.lookup y.1==some .cell||yA.names.lookup y.1==some .free))&&
 N.length==nt+caps.length&&decide N.Nodup&&(range caps.length).all fun j=>match caps[j]?,N[nt+j]? with
  |some i,some x=>XN[i]?==some x&&sc.names.lookup x==some .free&&(yA.names.lookup x==some .local||yA.names.lookup x==some .cell||yA.names.lookup x==some .free)
  |_,_=>false
theorem VF{X:Cx}{sc:Scope}{N:List Str}{nt:Nat}{caps:List Nat}(yA:Scope)(XN:List Str)(h:Fc yA sc XN N nt caps=true)(hsc:X.env.scope=yA:=by rfl)(hN:X.N=XN:=by rfl):cG X sc N nt caps:=by
 subst hsc hN
 unfold Fc at h
 simp only [and_eq_true,List.all_eq_true,or_eq_true,decide_eq_true_eq,beq_iff_eq,bne_iff_ne,ne_eq,Bool.not_eq_true',Bool.and_eq_false_iff,beq_eq_false_iff_ne]at h
 obtain⟨⟨⟨⟨h1,h2⟩,h3⟩,h4⟩,h5⟩:=h
 refine⟨by simpa using h1,fun x hx hm=>?_,fun y hy e=>?_,fun y hy e=>?_,h3,h4,fun j i e=>?_⟩
 ·rcases(h2 _ (mem_of_lookup hx)).1.1 with q|q
  ·exact q rfl
  ·rcases q _ hm with z|z
   ·exact z rfl
   ·exact z rfl
 ·rcases(h2 y hy).1.2 with q|q
  ·exact absurd e q
  ·exact q
 ·rcases(h2 y hy).2 with(q|q)|q
  ·exact absurd e q
  ·exact .inl q
  ·exact .inr q
 ·have hj:j<caps.length:=(List.getElem?_eq_some_iff.mp e).1
  have q:=h5 j (by simpa using hj)
  rw[e]at q
  cases hx:N[nt+j]? with
  |none=>rw[hx]at q;exact absurd q (by simp)
  |some x=>
   rw[hx]at q
   simp only [and_eq_true,or_eq_true,beq_iff_eq]at q
   obtain⟨⟨q1,q2⟩,q3⟩:=q
   refine⟨x,rfl,q1,q2,?_⟩
   rcases q3 with(q3|q3)|q3
   ·exact .inl q3
   ·exact .inr (.inl q3)
   ·exact .inr (.inr q3)
section
variable{K:PySem.W.Frag}{g:Gh}{env:DE}{σ:St}{H H':Hp}{os:List Addr}
theorem jQ{α:Type}{l:List α}{i j:Nat}{x y:α}(e:(l.set i x)[j]?=some y)(h:y≠x):i≠j/\l[j]?=some y:=by
 by_cases hj:i=j
 ·subst hj
  exact(h (aV e)).elim
 ·rw[getElem?_set_ne hj]at e
  exact⟨hj,e⟩
theorem jR:∀{a b:List Addr},a.map V.ref=b.map V.ref->a=b
 |[],[],_=>rfl
 |[],_::_,h=>by cases h
 |_::_,[],h=>by cases h
 |x::a,y::b,h=>by
  injection h with h1 h2
  injection h1 with h1
  rw[h1,jR h2]
theorem Rel.Np (r:Rel K g env σ H os){l:List Addr}(s:aB H H')(hn:∀a∈l,H a=none):Ext (g.P os) (g.P (l++os)) H H':=
 ⟨fun b o p e=>⟨p.1,fun hm=>by
  rcases mem_append.mp hm with z|z
  ·rw[hn b z]at e;cases e
  ·exact p.2 z⟩,fun b o _ e=>s b o e⟩
theorem Rel.VG (r:Rel K g env σ H os)(s:aB H H')(i:Nat){nss:List (List Int)}{a:Addr}{as:List Addr}(hn:∀b∈a::as,H b=none)(nd:(a::as).Nodup)(hl:as.length=nss.length)(hH:H' a=some (.lst (as.map V.ref)))
  (hi:∀(k:Nat)(b:Addr)(ns:List Int),as[k]?=some b->nss[k]?=some ns->H' b=some (.lst (ns.map V.int))):
  Rel K g (env.set i (.deep nss)) (σ.set i (some (.ref a))) H' ((a::as)++os):=by
 have ap:=r.Np s hn
 have f:∀(j:Nat)(sl:Sl),(env.set i (Sl.deep nss))[j]?=some sl->sl≠.deep nss->i≠j/\env[j]?=some sl:=fun j sl q hn=>jQ q hn
 have dp:Dp H' ((a::as)++os) a as nss:=⟨by simp,hH,hl,nd,fun k b ns e1 e2=>⟨mem_append_left _ (mem_cons_of_mem _ (mem_of_getElem? e1)),hi k b ns e1 e2⟩⟩
 have hnew:∀x∈a::as,x∉os:=fun x hx hm=>by
  obtain⟨o,ho⟩:=(r.new x hm).2
  rw[hn x hx]at ho
  cases ho
 refine⟨by simp[r.len],r.ext.trans s,fun j d q=>?_,fun j xs q=>?_,fun j k xs ys b q1 q2 q3 q4=>?_,fun b hb=>?_,fun j v q=>?_,?_⟩
 ·obtain⟨hj,q⟩:=f j _ q (fun z=>nomatch z)
  obtain⟨v,h1,h2⟩:=r.val j d q
  exact⟨v,by rw[getElem?_set_ne hj];exact h1,Is.ext ap _ _ h2⟩
 ·obtain⟨hj,q⟩:=f j _ q (fun z=>nomatch z)
  obtain⟨b,vs,h1,h2,h3,h4⟩:=r.own j xs q
  exact⟨b,vs,by rw[getElem?_set_ne hj];exact h1,mem_append_right _ h2,s _ _ h3,IsL.ext ap _ _ h4⟩
 ·obtain⟨hj,q1⟩:=f j _ q1 (fun z=>nomatch z)
  obtain⟨hk,q2⟩:=f k _ q2 (fun z=>nomatch z)
  rw[getElem?_set_ne hj]at q3
  rw[getElem?_set_ne hk]at q4
  exact r.inj j k xs ys b q1 q2 q3 q4
 ·rcases mem_append.mp hb with z|z
  ·exact⟨r.ext.free (hn b z),(dp.mem b z).2⟩
  ·obtain⟨h1,o,h2⟩:=r.new b z
   exact⟨h1,o,s _ _ h2⟩
 ·obtain⟨hj,q⟩:=f j _ q (fun z=>nomatch z)
  rw[getElem?_set_ne hj]
  exact r.raw j v q
 ·obtain⟨A,dd⟩:=r.Ed
  refine⟨fun j=>if j=i then a::as else A j,fun j oE q=>?_,fun j oE k xs b q1 q2 q3=>?_,fun j k oE Nq Yc q1 q2 x hx=>?_⟩
  ·by_cases hj:j=i
   ·subst hj
    have z:=aV q
    cases z
    exact⟨a,as,if_pos rfl,by rw[getElem?_set_self (by rw[r.len];exact vQ q)],dp⟩
   ·have q':=q
    rw[getElem?_set_ne (Ne.symm hj)]at q'
    obtain⟨b,bs,h1,h2,h3⟩:=dd.dp j oE q'
    refine⟨b,bs,by rw[if_neg hj];exact h1,by rw[getElem?_set_ne (Ne.symm hj)];exact h2,h3.to fun x hx=>?_⟩
    obtain⟨z1,o,z2⟩:=h3.mem x hx
    exact⟨mem_append_right _ z1,by rw[s x o z2,z2]⟩
  ·obtain⟨hk,q2⟩:=f k _ q2 (fun z=>nomatch z)
   rw[getElem?_set_ne hk]at q3
   show b∉if j=i then a::as else A j
   by_cases hj:j=i
   ·rw[if_pos hj]
    obtain⟨c,vs,h1,h2,_⟩:=r.own k xs q2
    rw[q3]at h1
    cases h1
    exact fun z=>hnew b z h2
   ·rw[if_neg hj]
    rw[getElem?_set_ne (Ne.symm hj)]at q1
    exact dd.ow j oE k xs b q1 q2 q3
  ·show x∉if k=i then a::as else A k
   have Fd:x∈if j=i then a::as else A j:=hx
   by_cases hj:j=i
   ·have hk:k≠i:=fun z=>Yc (by rw[hj,z])
    rw[if_pos hj]at Fd
    rw[if_neg hk]
    rw[getElem?_set_ne (Ne.symm hk)]at q2
    exact fun z=>hnew x Fd (dd.mem q2 x z).1
   ·rw[if_neg hj]at Fd
    rw[getElem?_set_ne (Ne.symm hj)]at q1
    by_cases hk:k=i
    ·rw[if_pos hk]
     exact fun z=>hnew x z (dd.mem q1 x Fd).1
    ·rw[if_neg hk]
     rw[getElem?_set_ne (Ne.symm hk)]at q2
     exact dd.dj j k oE Nq Yc q1 q2 x Fd
theorem Rel.VH (r:Rel K g env σ H os){i:Nat}{nss:List (List Int)}(e:env[i]?=some (.deep nss)){a:Addr}{as:List Addr}(hσ:σ[i]?=some (some (.ref a)))(ha:H a=some (.lst (as.map V.ref))){k:Nat}{b:Addr}{ns:List Int}(hk:as[k]?=some b)(hns:k<nss.length)(Pr:List Int):
  b∈os/\Rel K g (env.set i (.deep (nss.set k Pr))) σ (upd H b (.lst (Pr.map V.int))) os:=by
 obtain⟨A,dd⟩:=r.Ed
 obtain⟨a0,uX,hA,h1,h3⟩:=dd.dp i nss e
 rw[hσ]at h1
 cases h1
 have has:uX=as:=by
  have z:=h3.ha
  rw[ha]at z
  have z2:as.map V.ref=uX.map V.ref:=by injection z with z;injection z
  exact(jR z2).symm
 subst has
 have o7:b∈os:=(h3.it k b nss[k] hk (getElem?_eq_getElem hns)).1
 have Rp:b∈A i:=by rw[hA];exact mem_cons_of_mem _ (mem_of_getElem? hk)
 refine⟨o7,?_⟩
 have ex:Ext (g.P os) (g.P os) H (upd H b (.lst (Pr.map V.int))):=⟨fun _ _ p _=>p,fun c o p q=>by rw[ah (fun z=>p.2 (by rw[z];exact o7))];exact q⟩
 have f:∀(j:Nat)(sl:Sl),(env.set i (Sl.deep (nss.set k Pr)))[j]?=some sl->sl≠.deep (nss.set k Pr)->i≠j/\env[j]?=some sl:=fun j sl q hn=>jQ q hn
 have VI:b≠a:=fun z=>(nodup_cons.mp h3.nd).1 (by rw[<-z];exact mem_of_getElem? hk)
 refine⟨by simp[r.len],fun c o q=>?_,fun j d q=>?_,fun j xs q=>?_,fun j k xs ys c q1 q2 q3 q4=>?_,fun c hc=>?_,fun j v q=>?_,?_⟩
 ·rw[ah (fun z=>by rw[z,(r.new b o7).1]at q;cases q)]
  exact r.ext c o q
 ·obtain⟨hj,q⟩:=f j _ q (fun z=>nomatch z)
  obtain⟨v,h1,h2⟩:=r.val j d q
  exact⟨v,h1,Is.ext ex _ _ h2⟩
 ·obtain⟨hj,q⟩:=f j _ q (fun z=>nomatch z)
  obtain⟨c,vs,h1,h2,Rq,h4⟩:=r.own j xs q
  have VJ:c≠b:=fun z=>dd.ow i nss j xs c e q h1 (by rw[z];exact Rp)
  exact⟨c,vs,h1,h2,by rw[ah VJ];exact Rq,IsL.ext ex _ _ h4⟩
 ·obtain⟨hj,q1⟩:=f j _ q1 (fun z=>nomatch z)
  obtain⟨hk,q2⟩:=f k _ q2 (fun z=>nomatch z)
  exact r.inj j k xs ys c q1 q2 q3 q4
 ·obtain⟨z1,o,z2⟩:=r.new c hc
  refine⟨z1,?_⟩
  by_cases z:c=b
  ·exact⟨_,by rw[z];exact ak⟩
  ·exact⟨o,by rw[ah z];exact z2⟩
 ·obtain⟨hj,q⟩:=f j _ q (fun z=>nomatch z)
  exact r.raw j v q
 ·have h3k:∀(m:Nat),uX[m]?=some b->m=k:=fun m hm=>by
   have VL:=(nodup_cons.mp h3.nd).2
   have hm1:=(List.getElem?_eq_some_iff.mp hm).1
   have hk1:=(List.getElem?_eq_some_iff.mp hk).1
   exact(List.getElem_inj VL).mp (by rw[(List.getElem?_eq_some_iff.mp hm).2,(List.getElem?_eq_some_iff.mp hk).2])
  refine⟨A,fun j oE q=>?_,fun j oE m xs c q1 q2 q3=>?_,fun j m oE Nq Pw q1 q2 x hx=>?_⟩
  ·by_cases hj:i=j
   ·subst hj
    have z:=aV q
    cases z
    refine⟨a,uX,hA,hσ,h3.ma,by rw[ah (Ne.symm VI)];exact h3.ha,by rw[length_set];exact h3.len,h3.nd,fun m c ms e1 e2=>?_⟩
    by_cases hm:c=b
    ·subst hm
     have VM:=h3k m e1
     subst VM
     rw[getElem?_set_self hns]at e2
     cases e2
     exact⟨o7,ak⟩
    ·have VM:k≠m:=fun z=>hm (by rw[z]at hk;rw[hk]at e1;cases e1;rfl)
     rw[getElem?_set_ne VM]at e2
     rw[ah hm]
     exact h3.it m c ms e1 e2
   ·rw[getElem?_set_ne hj]at q
    obtain⟨c,cs,z1,z2,z3⟩:=dd.dp j oE q
    refine⟨c,cs,z1,z2,z3.to fun x hx=>?_⟩
    have hxb:x≠b:=fun z=>dd.dj i j nss oE hj e q b Rp (by rw[z1,<-z];exact hx)
    exact⟨(z3.mem x hx).1,ah hxb⟩
  ·obtain⟨_,q2⟩:=f m _ q2 (fun z=>nomatch z)
   by_cases hj:i=j
   ·subst hj
    exact dd.ow i nss m xs c e q2 q3
   ·rw[getElem?_set_ne hj]at q1
    exact dd.ow j oE m xs c q1 q2 q3
  ·have p1:∃ms,env[j]?=some (.deep ms):=by
    by_cases hj:i=j
    ·subst hj;exact⟨nss,e⟩
    ·rw[getElem?_set_ne hj]at q1;exact⟨oE,q1⟩
   have p2:∃ms,env[m]?=some (.deep ms):=by
    by_cases hj:i=m
    ·subst hj;exact⟨nss,e⟩
    ·rw[getElem?_set_ne hj]at q2;exact⟨Nq,q2⟩
   obtain⟨m1,p1⟩:=p1
   obtain⟨m2,p2⟩:=p2
   exact dd.dj j m m1 m2 Pw p1 p2 x hx
end
section
variable{X:Cx}{E:Str->Hp->Prop}{pos:Pos}
def Yd(K:PySem.W.Frag)(E:Str->Hp->Prop)(f:DE->R (List (List Int))):TA:=fun σ H Q=>∃g env os,Rel K g env σ H os/\Good E g.H₀ (f env) fun nss=>∀(as:List Addr)(H':Hp),aB H H'->(∀b∈as,H b=none)->as.Nodup->as.length=nss.length->
 (∀(k:Nat)(b:Addr)(ns:List Int),as[k]?=some b->nss[k]?=some ns->H' b=some (.lst (ns.map V.int)))->Q (as.map V.ref) H'
theorem K7:PA X [] (Yd X.K E fun _=>.ok []):=Eh aC fun σ H Q ⟨g,env,os,r,m⟩=>m [] H (aB.refl H) (fun _ z=>nomatch z) .nil rfl (fun _ _ _ z=>by simp at z)
theorem K8(i:Nat){x:Str}{es:List Expr}{f:DE->R (List (List Int))}{pos' p:Pos}(he:PA X es (Yd X.K E f))(hN:X.N.Nodup)(hi:X.N[i]?=some x:=by rfl)(hx:Loc X.env.scope x:=by first|exact Or.inl rfl|exact Or.inr rfl)(hs:swapsWith (.List es p) (some (.Name x pos')) pos.line X.env=pure false:=by rfl)
  (hf:X.fn x=true\/X.env.scope.names.lookup x=some .local:=by first|exact .inl rfl|exact .inr rfl|assumption):PS X (.Assign [.Name x pos'] (.List es p) pos) (tS X.K E fun env=>(f env).bind fun nss=>(fit nss).bind fun nss=>.ok (.nx (env.set i (.deep nss)))):=
 ou (cD hN hi hx (qD he) hs hf) fun De σ H ⟨g,env,os,r,m⟩=>⟨g,env,os,r,m.bind.mono fun nss _ m1 as H1 s1 hn nd hl hc=>by
  obtain⟨hz,q⟩:=m1.bind.fit
  refine⟨by rw[length_map,hl];exact hz,fun p hp=>?_⟩
  have VN:p∉as:=fun z=>by
   obtain⟨k,hk,rfl⟩:=getElem_of_mem z
   have:=hc k _ _ (getElem?_eq_getElem hk) (getElem?_eq_getElem (by rw[<-hl];exact hk))
   rw[hp]at this
   cases this
  have sp:=aD hp (.lst (as.map V.ref))
  have hnew:∀b∈p::as,H b=none:=fun b hb=>by
   rcases mem_cons.mp hb with rfl|hb
   ·exact s1.free hp
   ·exact hn b hb
  have s2:=s1.trans sp
  refine q _ _ ((p::as)++os) (r.VG s2 i hnew (nodup_cons.mpr ⟨VN,nd⟩) hl ak fun k b ns e1 e2=>sp _ _ (hc k b ns e1 e2)) ⟨fun b hb=>?_,fun b hb=>s2.free hb,fun b o _ hb=>s2 b o hb⟩
  rcases mem_append.mp hb with z|z
  ·exact .inr (hnew b z)
  ·exact .inl z⟩
end
def Fe:Out->R (List (List Int))
 |.Ba nss=>.ok nss
 |_=>.bad
def spT(K:PySem.W.Frag)(m:List D->R (List (List Int))):Sp:=fun vs H Q E=>∃P ds,IsL K P H ds vs/\(match m ds with
 |.ok nss=>∀(a:Addr)(as:List Addr)(H':Hp),aB H H'->ME H H' a as nss->Q (.ref a) H'
 |_=>False)
def mT(n N:Nat)(b:DE->R Out)(ds:List D):R (List (List Int)):=if ds.length=n then((b (aH N ds)).bind Fe).ne else .bad
abbrev Px(P:Program)(w:World)(K:PySem.W.Frag)(mg:Str->Option Value)(base:Heap)(k:Nat)(f:Addr)(fd:FuncData)(ps:List Str)(m:List D->R (List (List Int))):Prop:=bQ P w K mg base jL k f fd ps (spT K m)
section
variable{P:Program}{w:World}{K:PySem.W.Frag}{mg:Str->Option Value}{base:Heap}
theorem Ye{x:Str}{st:Stmt}{f:Addr}{fd:FuncData}{N ps:List Str}{k:Nat}{b:DE->R Out}(S:aw N ps (ae st))(d:Df K mg x st ps f fd)
  (hb:∀(cdv:Value)(A:Around)(outer:List Env)(s:Shared)(H:Hp)(E:XK),aX k (A.deeper (envOfC x (ae st) s.heap.objs.size f cdv))->oV (oY jL P w K mg base N x (ae st) f cdv A outer s H E).Ds (bq st) (tS K EN b)):
  Px P w K mg base (k+1) f fd ps (mT ps.length N.length b):=by
 refine d.F.ok S (fun vs H Q E h=>?_) (fun cdv A outer s H vs Q E hr h=>?_)
 ·obtain⟨Pa,ds,i,h⟩:=h
  cases e:mT ps.length N.length b ds with
  |ok nss=>
   rw[i.length]
   unfold mT at e
   split at e
   ·assumption
   ·cases e
  |err c=>rw[e]at h;exact h.elim
  |bad=>rw[e]at h;exact h.elim
 ·obtain⟨Pa,ds,i,h⟩:=h
  refine⟨_,hb cdv A outer s H E hr,⟨⟨Pa,H⟩,aH N.length ds,[],qN i,?_⟩⟩
  cases e:mT ps.length N.length b ds with
  |err c=>rw[e]at h;exact h.elim
  |bad=>rw[e]at h;exact h.elim
  |ok nss=>
   rw[e]at h
   unfold mT at e
   split at e
   ·have q:=R.bz e
    cases eb:b (aH N.length ds)with
    |bad=>rw[eb]at q;cases q
    |err c=>rw[eb]at q;cases q
    |ok o=>
     rw[eb]at q
     cases o with
     |Ba oE=>
      cases q
      exact fun a as H' s' nd=>h a as H' s' nd
     |Ig _=>cases q
     |Hc _=>cases q
     |Ie _=>cases q
     |ph _=>cases q
     |rt _=>cases q
     |nx _=>cases q
     |bk _=>cases q
     |ct _=>cases q
   ·cases e
end
section
variable{X:Cx}{E:Str->Hp->Prop}{pos:Pos}
def Yg(K:PySem.W.Frag)(E:Str->Hp->Prop)(f:DE->R (List (List Int))):TE:=fun σ H Q=>∃g env os,Rel K g env σ H os/\Good E g.H₀ (f env) fun nss=>∀(a:Addr)(as:List Addr)(H':Hp),aB H H'->ME H H' a as nss->Q (.ref a) H'
theorem fT1{x:Str}{st:Stmt}{ps:List Str}{fa:Addr}{fd:FuncData}{k:Nat}{p:Pos}{e:Expr}{es:List Expr}{f:DE->R (List D)}{m:List D->R (List (List Int))}(d:Df X.K X.mg x st ps fa fd)(F:Px X.prog X.w X.K X.mg X.base k fa fd ps m)(hr:aX k X.A)
  (ha:PA X (e::es) (pH X.K E f))(hg:Gl X x:=by rfl)(hdb:(x==("__debug__":Str))=false:=by decide)(he:starEach (e::es) X.env=(false,eval e X.env)::starEach es X.env:=by rfl)(hpl:(backTo pos (starEach es X.env)).any (·.1)=false:=by rfl):
  PE X (.Call (.Name x p) (e::es) [] pos) (Yg X.K E fun env=>((f env).bind m).ne):=
 imp (cY (E:=fun _ _ _=>False) F hr hg d.m d.F.kp d.b .nil jN ha hdb he hpl) fun σ H Q ⟨g,env,os,r,q⟩=>⟨g,env,os,r,by
  dsimp only at q
  cases ef:f env with
  |bad=>rw[ef]at q;exact q.elim
  |err c=>rw[ef]at q;exact q.elim
  |ok ds=>
   rw[ef]at q
   cases em:m ds with
   |bad=>rw[show((R.ok ds).bind m)=m ds from rfl,em]at q;exact q.elim
   |err c=>rw[show((R.ok ds).bind m)=m ds from rfl,em]at q;exact q.elim
   |ok nss=>
    rw[show((R.ok ds).bind m)=m ds from rfl,em]at q
    intro vs H1 s1 i1
    show spT X.K m (vs++[]) H1 Q _
    rw[append_nil]
    refine⟨_,ds,i1,?_⟩
    rw[em]
    exact fun a as H' s' nd=>q a as H' (s1.trans s') (nd.back s1)⟩
def fj(i:Nat)(env:DE):R (List (List Int)):=match env[i]? with
 |some (.deep (.ls nss))=>.ok nss
 |_=>.bad
theorem Good.deep {H₀:Hp}{i:Nat}{env:DE}{p:List (List Int)->Prop}(h:Good E H₀ (fj i env) p):∃nss:List (List Int),env[i]?=some (.deep nss)/\p nss:=by
 unfold fj at h
 split at h
 ·rename_i nss e
  exact⟨nss,e,h⟩
 ·exact h.elim
theorem K9(i:Nat){x:Str}{p:Pos}(hN:X.N[i]?=some x:=by rfl)(hv:vI X.env.scope x:=by first|exact Or.inl rfl|exact Or.inr (Or.inl rfl)|exact Or.inr (Or.inr rfl))(hd:(x==("__debug__":Str))=false:=by decide)
  (hcd:(x==("__classdict__":Str))=false:=by decide):PS X (.Return (some (.Name x p)) pos) (tS X.K E fun env=>(fj i env).bind fun nss=>.ok (.Ba nss)):=
 ou (j7 (iB hN hv hd hcd)) fun De σ H ⟨g,env,os,r,m⟩=>by
  obtain⟨nss,e,q⟩:=m.bind.deep
  obtain⟨A,dd⟩:=r.Ed
  obtain⟨a,as,hA,h1,h3⟩:=dd.dp i nss e
  exact⟨.ref a,h1,(show gC X.K g H os De (.Ba nss)from q) a as H r.ext ⟨fun b hb=>(r.new b (h3.mem b hb).1).1,h3.nd,h3.len,h3.ha,fun k b ns e1 e2=>(h3.it k b ns e1 e2).2⟩⟩
end
section
variable{X:Cx}{E:Str->Hp->Prop}{pos:Pos}
theorem Rel.xo {K:PySem.W.Frag}{g:Gh}{env:DE}{σ:St}{H:Hp}{os:List Addr}(r:Rel K g env σ H os){ix:Nat}{nss:List (List Int)}(e:env[ix]?=some (.deep nss)):∃(a:Addr)(as:List Addr),σ[ix]?=some (some (.ref a))/\H a=some (.lst (as.map V.ref))/\as.length=nss.length/\∀(k:Nat)(ns:List Int),nss[k]?=some ns->∃b,as[k]?=some b/\H b=some (.lst (ns.map V.int)):=by
 obtain⟨A,dd⟩:=r.Ed
 obtain⟨a,as,_,h1,h3⟩:=dd.dp ix nss e
 refine⟨a,as,h1,h3.ha,h3.len,fun k ns hk=>?_⟩
 have hl:k<as.length:=by rw[h3.len];exact(List.getElem?_eq_some_iff.mp hk).1
 exact⟨as[k],getElem?_eq_getElem hl,(h3.it k _ ns (getElem?_eq_getElem hl) hk).2⟩
def yJ(nss:List (List Int)):D->R (Nat×List Int)
 |.int i=>(match pe nss.length i with
  |some k=>(match nss[k]? with
   |some ns=>.ok (k,ns)
   |none=>.bad)
  |none=>.bad)
 |_=>.bad
theorem Good.yJ {H₀:Hp}{nss:List (List Int)}{a:D}{p:Nat×List Int->Prop}(h:Good E H₀ (yJ nss a) p):∃i k ns,a=.int i/\pe nss.length i=some k/\nss[k]?=some ns/\p (k,ns):=by
 unfold DL.yJ at h
 split at h
 ·rename_i i
  split at h
  ·rename_i k hk
   split at h
   ·rename_i ns hns
    exact⟨i,k,ns,rfl,hk,hns,h⟩
   ·exact h.elim
  ·exact h.elim
 ·exact h.elim
theorem Nr{α:Type}{xs:List α}{i:Int}{k:Nat}{x:α}(h:pe xs.length i=some k)(hx:xs[k]?=some x):iT xs i=some x:=by
 unfold L2.iT
 rw[h]
 exact hx
end
section
variable{K:PySem.W.Frag}{g:Gh}{env:DE}{σ:St}{H H1:Hp}{os:List Addr}
theorem Rel.Rt (r:Rel K g env σ H os)(s:aB H H1){i:Nat}{nss:List (List Int)}(e:env[i]?=some (.deep nss)){a b:Addr}{as:List Addr}{ns:List Int}(hσ:σ[i]?=some (some (.ref a)))(ha:H a=some (.lst (as.map V.ref)))(hn:H b=none)(hb:H1 b=some (.lst (ns.map V.int))):
  a∈os/\Rel K g (env.set i (.deep (nss++[ns]))) σ (upd H1 a (.lst (as.map V.ref++[.ref b]))) (b::os):=by
 obtain⟨A,dd⟩:=r.Ed
 obtain⟨a0,uX,hA,h1,h3⟩:=dd.dp i nss e
 rw[hσ]at h1
 cases h1
 have has:uX=as:=by
  have z:=h3.ha
  rw[ha]at z
  have z2:as.map V.ref=uX.map V.ref:=by injection z with z;injection z
  exact(jR z2).symm
 subst has
 have o7:a∈os:=h3.ma
 have hnew:b∉os:=fun hm=>by
  obtain⟨o,ho⟩:=(r.new b hm).2
  rw[hn]at ho
  cases ho
 have hab:b≠a:=fun z=>hnew (by rw[z];exact o7)
 refine⟨o7,?_⟩
 have ex:Ext (g.P os) (g.P (b::os)) H (upd H1 a (.lst (uX.map V.ref++[.ref b]))):=⟨fun c o p q=>⟨p.1,fun hm=>by
  rcases mem_cons.mp hm with z|z
  ·rw[z,hn]at q;cases q
  ·exact p.2 z⟩,fun c o p q=>by rw[ah (fun z=>p.2 (by rw[z];exact o7))];exact s c o q⟩
 have f:∀(j:Nat)(sl:Sl),(env.set i (Sl.deep (nss++[ns])))[j]?=some sl->sl≠.deep (nss++[ns])->i≠j/\env[j]?=some sl:=fun j sl q hn=>jQ q hn
 have keep:∀c∈os,c≠a->∀o,H c=some o->(upd H1 a (.lst (uX.map V.ref++[.ref b]))) c=some o:=fun c _ hc o ho=>by rw[ah hc];exact s c o ho
 refine⟨by simp[r.len],fun c o q=>?_,fun j d q=>?_,fun j xs q=>?_,fun j k xs ys c q1 q2 q3 q4=>?_,fun c hc=>?_,fun j v q=>?_,?_⟩
 ·rw[ah (fun z=>by rw[z,(r.new a o7).1]at q;cases q)]
  exact s _ _ (r.ext c o q)
 ·obtain⟨hj,q⟩:=f j _ q (fun z=>nomatch z)
  obtain⟨v,h1,h2⟩:=r.val j d q
  exact⟨v,h1,Is.ext ex _ _ h2⟩
 ·obtain⟨hj,q⟩:=f j _ q (fun z=>nomatch z)
  obtain⟨c,vs,h1,h2,Rq,h4⟩:=r.own j xs q
  have hca:c≠a:=fun z=>dd.ow i nss j xs c e q h1 (by rw[z,hA];exact mem_cons_self)
  exact⟨c,vs,h1,mem_cons_of_mem _ h2,keep c h2 hca _ Rq,IsL.ext ex _ _ h4⟩
 ·obtain⟨hj,q1⟩:=f j _ q1 (fun z=>nomatch z)
  obtain⟨hk,q2⟩:=f k _ q2 (fun z=>nomatch z)
  exact r.inj j k xs ys c q1 q2 q3 q4
 ·rcases mem_cons.mp hc with z|z
  ·rw[z]
   exact⟨r.ext.free hn,_,by rw[ah hab];exact hb⟩
  ·obtain⟨z1,o,z2⟩:=r.new c z
   refine⟨z1,?_⟩
   by_cases w:c=a
   ·exact⟨_,by rw[w];exact ak⟩
   ·exact⟨o,keep c z w o z2⟩
 ·obtain⟨hj,q⟩:=f j _ q (fun z=>nomatch z)
  exact r.raw j v q
 ·have sub:∀(j':Nat)(y:Addr),(y∈if j'=i then a::(uX++[b])else A j')->y∈A j'\/(j'=i/\y=b):=fun j' y hy=>by
   by_cases hj:j'=i
   ·rw[if_pos hj]at hy
    rw[hj,hA]
    rcases mem_cons.mp hy with w|w
    ·rw[w];exact .inl mem_cons_self
    ·rcases mem_append.mp w with w|w
     ·exact .inl (mem_cons_of_mem _ w)
     ·exact .inr ⟨rfl,by simpa using w⟩
   ·rw[if_neg hj]at hy
    exact .inl hy
  have p1:∀(j:Nat)(ms:Ct),(env.set i (Sl.deep (nss++[ns])))[j]?=some (.deep ms)->∃Nt,env[j]?=some (.deep Nt):=fun j ms q=>by
   by_cases hj:i=j
   ·subst hj;exact⟨nss,e⟩
   ·rw[getElem?_set_ne hj]at q;exact⟨ms,q⟩
  refine⟨fun j=>if j=i then a::(uX++[b])else A j,fun j oE q=>?_,fun j oE m xs c q1 q2 q3 hx=>?_,fun j m oE Nq Pw q1 q2 x hx QQ=>?_⟩
  ·by_cases hj:j=i
   ·have q':=q
    rw[hj]at q'
    have z:=aV q'
    cases z
    refine⟨a,uX++[b],if_pos hj,by rw[hj];exact hσ,mem_cons_of_mem _ h3.ma,by rw[map_append];exact ak,by rw[length_append,length_append,h3.len];rfl,?_,fun m c ms e1 e2=>?_⟩
    ·have VO:b∉uX:=fun z=>hnew (h3.mem b (mem_cons_of_mem _ z)).1
     have nd:=nodup_cons.mp h3.nd
     refine nodup_cons.mpr ⟨fun z=>?_,?_⟩
     ·rcases mem_append.mp z with w|w
      ·exact nd.1 w
      ·have:a=b:=by simpa using w
       exact hab this.symm
     ·rw[List.nodup_append]
      refine⟨nd.2,by simp,fun x hx y hy=>?_⟩
      have UK:y=b:=by simpa using hy
      rw[UK]
      exact fun z=>VO (by rw[<-z];exact hx)
    ·by_cases hm:m<uX.length
     ·rw[getElem?_append_left hm]at e1
      rw[getElem?_append_left (by rw[<-h3.len];exact hm)]at e2
      obtain⟨w1,w2⟩:=h3.it m c ms e1 e2
      have hca:c≠a:=fun z=>(nodup_cons.mp h3.nd).1 (by rw[<-z];exact mem_of_getElem? e1)
      exact⟨mem_cons_of_mem _ w1,keep c w1 hca _ w2⟩
     ·have hk2:m=uX.length:=by
       have:=(List.getElem?_eq_some_iff.mp e1).1
       rw[length_append]at this
       simp at this
       omega
      subst hk2
      have z1':b=c:=by simpa using e1
      rw[h3.len]at e2
      have z2':ns=ms:=by simpa using e2
      subst z1' z2'
      exact⟨mem_cons_self,by rw[ah hab];exact hb⟩
   ·rw[getElem?_set_ne (Ne.symm hj)]at q
    obtain⟨c,cs,z1,z2,z3⟩:=dd.dp j oE q
    refine⟨c,cs,by rw[if_neg hj];exact z1,z2,z3.to fun x hx=>?_⟩
    have hxa:x≠a:=fun z=>dd.dj i j nss oE (Ne.symm hj) e q a (by rw[hA];exact mem_cons_self) (by rw[z1,<-z];exact hx)
    obtain⟨w1,o,w2⟩:=z3.mem x hx
    exact⟨mem_cons_of_mem _ w1,by rw[keep x w1 hxa o w2,w2]⟩
  ·have Tj:=(f m _ q2 (fun z=>nomatch z)).2
   obtain⟨Nt,p⟩:=p1 j oE q1
   rcases sub j c hx with w|⟨_,w⟩
   ·exact dd.ow j Nt m xs c p Tj q3 w
   ·obtain⟨c',vs,w1,w2,_⟩:=r.own m xs Tj
    rw[q3]at w1
    cases w1
    exact hnew (by rw[<-w];exact w2)
  ·obtain⟨m1,w1⟩:=p1 j oE q1
   obtain⟨m2,w2⟩:=p1 m Nq q2
   rcases sub j x hx with u|⟨u1,u⟩<;>rcases sub m x QQ with v|⟨v1,v⟩
   ·exact dd.dj j m m1 m2 Pw w1 w2 x u v
   ·exact hnew (by rw[<-v];exact(dd.mem w1 x u).1)
   ·exact hnew (by rw[<-u];exact(dd.mem w2 x v).1)
   ·exact Pw (by rw[u1,v1])
end
section
variable{X:Cx}{E:Str->Hp->Prop}{pos:Pos}
def Af(ix:Nat)(env:DE)(nss:List (List Int))(kn:Nat×List Int):D->R Out
 |.int v=> @ite _ (kn.2.length<sizeLine) (propDecidable _) (.ok (.nx (env.set ix (.deep (nss.set kn.1 (kn.2++[v])))))) .bad
 |_=>.bad
theorem Good.Af {H₀:Hp}{ix:Nat}{env:DE}{nss:List (List Int)}{kn:Nat×List Int}{d:D}{p:Out->Prop}(h:Good E H₀ (Af ix env nss kn d) p):∃v,d=.int v/\kn.2.length<sizeLine/\p (.nx (env.set ix (.deep (nss.set kn.1 (kn.2++[v]))))):=by
 unfold DL.Af at h
 split at h
 ·split at h
  ·rename_i c
   exact⟨_,rfl,c,h⟩
  ·exact h.elim
 ·exact h.elim
theorem Nu(ix:Nat){x:Str}{ei e:Expr}{fi f:DE->R D}{p Ru apos aZ:Pos}(hi:PE X ei (tB X.K E fi))(he:PE X e (tB X.K E f))(hN:X.N[ix]?=some x:=by rfl)(hv:vI X.env.scope x:=by first|exact Or.inl rfl|exact Or.inr (Or.inl rfl)|exact Or.inr (Or.inr rfl))(hd:(x==("__debug__":Str))=false:=by decide)
  (hcd:(x==("__classdict__":Str))=false:=by decide)(hpi:sL ei:=by exact fun _ _=>rfl)
  (hbase:attributeBase (.Subscript (.Name x p) ei Ru) "append" X.env (eval (.Subscript (.Name x p) ei Ru) X.env)=eval (.Subscript (.Name x p) ei Ru) X.env:=by rfl)
  (hfew:((backTo aZ (starEach [e] X.env)).all (fun x=> !x.1)&&(backToKw aZ (keywordEach [] X.env)).all (fun x=>x.1.isSome)
   &&decide ([e].length+([]:List Keyword).length+(if([]:List Keyword).isEmpty then 0 else 1)<30))=true:=by rfl)
  (hline:(apos.endLine==aZ.line)=true:=by rfl)(hst:starEach [e] X.env=(false,eval e X.env)::starEach [] X.env:=by rfl)(hplain:(backTo aZ (starEach [] X.env)).any (·.1)=false:=by rfl)
  (hs:swapsWith (.Call (.Attribute (.Subscript (.Name x p) ei Ru) "append" apos) [e] [] aZ) none pos.line X.env=pure false:=by rfl):
  PS X (.Expr (.Call (.Attribute (.Subscript (.Name x p) ei Ru) "append" apos) [e] [] aZ) pos) (tS X.K E fun env=>(fj ix env).bind fun nss=>(fi env).bind fun a=>(yJ nss a).bind fun kn=>(f env).bind fun d=>Af ix env nss kn d):=
 ou (fM (rM plainAttrs_list PySem.F.slot_list_append PySem.F.type_list_append cV (gB cO (iB hN hv hd hcd) hi hpi) (au he aC hst) hbase hfew hline hst hplain) hs) fun De σ H ⟨g,env,os,r,m⟩=>by
  obtain⟨nss,e1,m2⟩:=m.bind.deep
  obtain⟨a,as,q1,q2,q3,q4⟩:=r.xo e1
  refine⟨.ref a,q1,g,env,os,r,m2.bind.mono fun da _ m3 w H2 s2 i2=>?_⟩
  obtain⟨i,k,ns,rfl,hk,hns,m4⟩:=m3.bind.yJ
  obtain⟨b,hb1,hb2⟩:=q4 k ns hns
  refine⟨a,as.map V.ref,i,.ref b,rfl,i2,b7.of (s2 _ _ q2),Nr (by rw[length_map,q3];exact hk) (by rw[getElem?_map,hb1];rfl),.inl ⟨rfl,_,b7.of (s2 _ _ hb2)⟩,g,env,os,r.same s2,m4.bind.mono fun d _ m5 v H3 s3 i3=>?_⟩
  obtain⟨u,rfl,hl,m6⟩:=m5.Af
  have iu:v=.int u:=i3
  subst iu
  have r3:=r.same (s2.trans s3)
  have VP:=s3 _ _ (s2 _ _ hb2)
  obtain⟨o7,r4⟩:=r3.VH (ns:=ns) e1 q1 (s3 _ _ (s2 _ _ q2)) hb1 (List.getElem?_eq_some_iff.mp hns).1 (ns++[u])
  refine⟨b,ns.map V.int,.int u,rfl,rfl,VP,by rw[length_map];exact hl,?_⟩
  rw[map_append]at r4
  exact(show gC X.K g H os De (.nx _)from m6) σ _ os r4 ((qI.same (s2.trans s3) os).trans (.mut o7))
def Ff(ix:Nat)(env:DE)(nss:List (List Int))(ns:List Int):R Out:= @ite _ (nss.length<sizeLine) (propDecidable _) (.ok (.nx (env.set ix (.deep (nss++[ns]))))) .bad
theorem La(ix:Nat){x:Str}{e:Expr}{f:DE->R (List D)}{p apos aZ:Pos}(he:PE X e (tF X.K E f))(hN:X.N[ix]?=some x:=by rfl)(hv:vI X.env.scope x:=by first|exact Or.inl rfl|exact Or.inr (Or.inl rfl)|exact Or.inr (Or.inr rfl))(hd:(x==("__debug__":Str))=false:=by decide)
  (hcd:(x==("__classdict__":Str))=false:=by decide)
  (hbase:attributeBase (.Name x p) "append" X.env (eval (.Name x p) X.env)=eval (.Name x p) X.env:=by rfl)
  (hfew:((backTo aZ (starEach [e] X.env)).all (fun x=> !x.1)&&(backToKw aZ (keywordEach [] X.env)).all (fun x=>x.1.isSome)
   &&decide ([e].length+([]:List Keyword).length+(if([]:List Keyword).isEmpty then 0 else 1)<30))=true:=by rfl)
  (hline:(apos.endLine==aZ.line)=true:=by rfl)(hst:starEach [e] X.env=(false,eval e X.env)::starEach [] X.env:=by rfl)(hplain:(backTo aZ (starEach [] X.env)).any (·.1)=false:=by rfl)
  (hs:swapsWith (.Call (.Attribute (.Name x p) "append" apos) [e] [] aZ) none pos.line X.env=pure false:=by rfl):
  PS X (.Expr (.Call (.Attribute (.Name x p) "append" apos) [e] [] aZ) pos) (tS X.K E fun env=>(fj ix env).bind fun nss=>(f env).bind fun xs=>(R.of (Bo xs)).bind fun ns=>Ff ix env nss ns):=
 ou (fM (rM plainAttrs_list PySem.F.slot_list_append PySem.F.type_list_append cV (iB hN hv hd hcd) (au he aC hst) hbase hfew hline hst hplain) hs) fun De σ H ⟨g,env,os,r,m⟩=>by
  obtain⟨nss,e1,m2⟩:=m.bind.deep
  obtain⟨a,as,q1,q2,q3,q4⟩:=r.xo e1
  refine⟨.ref a,q1,.inl ⟨rfl,_,b7.of q2⟩,g,env,os,r,m2.bind.mono fun xs _ m3 b vs H1 s1 hn hH i1=>?_⟩
  obtain⟨ns,e2,m4⟩:=m3.bind.of
  have e3:=uh e2
  subst e3
  have e4:=eI i1
  subst e4
  unfold Ff at m4
  split at m4
  ·rename_i c
   obtain⟨hos,r2⟩:=r.Rt s1 e1 q1 q2 hn hH
   refine⟨a,as.map V.ref,.ref b,rfl,rfl,s1 _ _ q2,by rw[length_map,q3];exact c,?_⟩
   refine(show gC X.K g H os De (.nx _)from m4) σ _ (b::os) r2 ⟨fun y hy=>?_,fun y hy=>?_,fun y o hy ho=>?_⟩
   ·rcases mem_cons.mp hy with z|z
    ·rw[z];exact .inr hn
    ·exact .inl z
   ·by_cases z:y=a
    ·rw[z,ak]at hy;cases hy
    ·rw[ah z]at hy;exact s1.free hy
   ·rw[ah (fun z=>hy (by rw[z];exact hos))];exact s1 _ _ ho
  ·exact m4.elim
end
section
variable{X:Cx}{E:Str->Hp->Prop}{pos:Pos}{k:Nat}{fa:Addr}{fd:FuncData}{st:Stmt}{ps:List Str}{x:Str}{p:Pos}{e:Expr}{es:List Expr}{f:DE->R (List D)}
abbrev VQ:=List (Str×(List D->R (List D)))
def FnR(X:Cx)(n:Str)(m:List D->R (List D)):Prop:=∃st ps fa fd k,Df X.K X.mg n st ps fa fd/\bQ X.prog X.w X.K X.mg X.base jL k fa fd ps (He X.K Dy m)/\aX k X.A
def FnT(X:Cx)(tab:VQ):Prop:=∀n m,tab.lookup n=some m->FnR X n m
end
def Yh:D->R Int
 |.int i=>.ok i
 |_=>.bad
def VR:Out->R (List (List Int))
 |.Hc nss=>.ok nss
 |_=>.bad
def mP(n N:Nat)(b:DE->R Out)(ds:List D):R (List (List Int)):=if ds.length=n then((b (aH N ds)).bind VR).ne else .bad
section
variable{X:Cx}{E:Str->Hp->Prop}{pos:Pos}
def toS:List D->Option (List Str)
 |[]=>some []
 |.str x::r=>(toS r).map (x::·)
 |_::_=>none
def Yi:D->R Str
 |.str i=>.ok i
 |_=>.bad
theorem pT{K:PySem.W.Frag}{P:Addr->Prop}{H:Hp}:∀{as:List Addr}{nss:List (List Int)},as.length=nss.length->(∀b∈as,P b)->(∀(k:Nat)(b:Addr)(ns:List Int),as[k]?=some b->nss[k]?=some ns->H b=some (.lst (ns.map V.int)))->IsL K P H (nss.map fun ns=>D.lst (ns.map D.int)) (as.map V.ref)
 |[],[],_,_,_=>rfl
 |[],_::_,h,_,_=>by simp at h
 |_::_,[],h,_,_=>by simp at h
 |a::as,ns::nss,h,hp,hi=>⟨_,_,rfl,⟨a,_,rfl,.inl ⟨hp a (by simp),.inl (hi 0 a ns rfl rfl)⟩,bJ ns⟩,pT (by simpa using h) (fun b hb=>hp b (by simp[hb])) fun k b ms e1 e2=>hi (k+1) b ms e1 e2⟩
theorem PE.VS {e:Expr}{f:DE->R (List (List Int))}(h:PE X e (Yg X.K E f)):PE X e (tL X.K E fun env=>(f env).bind fun nss=>.ok (nss.map fun ns=>D.lst (ns.map D.int))):=
 imp h fun σ H Q ⟨g,env,os,r,m⟩=>⟨g,env,os,r,m.bind.mono fun nss _ q a as H' s nd=>q a _ H' s (b7.of nd.ha) (pT nd.len (fun b hb=>r.fresh (nd.fr b (mem_cons_of_mem _ hb))) nd.it)⟩
end
section
variable{X:Cx}{E:Str->Hp->Prop}{pos:Pos}
def VU(T:List (Str×Int)):List (Str×PyData):=T.map fun p=>(p.1,PyData.int p.2)
def Yj(K:PySem.W.Frag)(a:Addr)(T:List (Str×Int)):Prop:=KTD.tabLook KTD.flatLooks (fun b=>K.lookup b) a (VU T)=true
end
section
variable{X:Cx}{E:Str->Hp->Prop}{pos:Pos}
def Yk:D->R Unit
 |.int 1=>.ok ()
 |_=>.bad
end
section
variable{X:Cx}{E:Str->Hp->Prop}{pos:Pos}
def Ym:D->R Unit
 |.int 2=>.ok ()
 |_=>.bad
end
section
variable{X:Cx}{E:Str->Hp->Prop}{pos:Pos}
def Yn:D->R Unit
 |.int 0=>.ok ()
 |_=>.bad
end
def IY:D->D->Option D
 |.int i,.int j=> @ite _ (CB i j) (propDecidable _) (some (.int (i*2^j.toNat))) none
 |_,_=>none
section
variable{X:Cx}{E:Str->Hp->Prop}{pos:Pos}
theorem IZ:l9 X (rI CB fun i j=>.int (i*2^j.toNat)) IY:=pI (h:=fun i j=>.int (i*2^j.toNat)) (fun _ _=>rfl) fun x y d e=>by
 unfold IY at e
 split at e
 ·split at e
  ·rename_i i j c
   cases e
   exact⟨i,j,rfl,rfl,c,rfl⟩
  ·cases e
 ·cases e
theorem Rv:Pe X .BitOr (P7 fun i j=>Builtin.bitOr i j):=by
 intro pins s σ H x y v u Q I r1 r2 h
 obtain⟨i,j,rfl,rfl,q⟩:=h
 obtain⟨t,rfl⟩:=r1
 obtain⟨t',rfl⟩:=r2
 exact ior_int ⟨.int _,H,I.tok _,⟨_,rfl⟩,q⟩
end
section
variable{K:PySem.W.Frag}{g:Gh}{env:DE}{σ:St}{H H1:Hp}{os:List Addr}
theorem Rel.Rw (r:Rel K g env σ H os){i:Nat}{c c':Ct}(e:env[i]?=some (.deep c)){a:Addr}(hσ:σ[i]?=some (some (.ref a))){o:HO}{as':List Addr}
  (hd:∀as,Dp H os a as c->(∀x,x∈as'↔x∈as)/\Dp (upd H a o) os a as' c'):a∈os/\Rel K g (env.set i (.deep c')) σ (upd H a o) os:=by
 obtain⟨A,dd⟩:=r.Ed
 obtain⟨a0,uX,hA,h1,h3⟩:=dd.dp i c e
 rw[hσ]at h1
 cases h1
 obtain⟨hm,HA⟩:=hd uX h3
 have o7:a∈os:=(h3.mem a (by simp)).1
 have Rp:a∈A i:=by rw[hA];simp
 refine⟨o7,?_⟩
 have ex:Ext (g.P os) (g.P os) H (upd H a o):=⟨fun _ _ p _=>p,fun c o p q=>by rw[ah (fun z=>p.2 (by rw[z];exact o7))];exact q⟩
 have f:∀(j:Nat)(sl:Sl),(env.set i (Sl.deep c'))[j]?=some sl->sl≠.deep c'->i≠j/\env[j]?=some sl:=fun j sl q hn=>jQ q hn
 refine⟨by simp[r.len],fun b o' q=>?_,fun j d q=>?_,fun j xs q=>?_,fun j k xs ys b q1 q2 q3 q4=>?_,fun b hc=>?_,fun j v q=>?_,?_⟩
 ·rw[ah (fun z=>by rw[z,(r.new a o7).1]at q;cases q)]
  exact r.ext b o' q
 ·obtain⟨hj,q⟩:=f j _ q (fun z=>nomatch z)
  obtain⟨v,h1,h2⟩:=r.val j d q
  exact⟨v,h1,Is.ext ex _ _ h2⟩
 ·obtain⟨hj,q⟩:=f j _ q (fun z=>nomatch z)
  obtain⟨b,vs,h1,h2,Rq,h4⟩:=r.own j xs q
  have VJ:b≠a:=fun z=>dd.ow i c j xs b e q h1 (by rw[z];exact Rp)
  exact⟨b,vs,h1,h2,by rw[ah VJ];exact Rq,IsL.ext ex _ _ h4⟩
 ·obtain⟨hj,q1⟩:=f j _ q1 (fun z=>nomatch z)
  obtain⟨hk,q2⟩:=f k _ q2 (fun z=>nomatch z)
  exact r.inj j k xs ys b q1 q2 q3 q4
 ·obtain⟨z1,o',z2⟩:=r.new b hc
  refine⟨z1,?_⟩
  by_cases z:b=a
  ·exact⟨_,by rw[z];exact ak⟩
  ·exact⟨o',by rw[ah z];exact z2⟩
 ·obtain⟨hj,q⟩:=f j _ q (fun z=>nomatch z)
  exact r.raw j v q
 ·have sub:∀(j:Nat)(y:Addr),(y∈if j=i then a::as' else A j)->y∈A j:=fun j y hy=>by
   by_cases hj:j=i
   ·rw[if_pos hj]at hy
    rw[hj,hA]
    rcases mem_cons.mp hy with w|w
    ·rw[w];exact mem_cons_self
    ·exact mem_cons_of_mem _ ((hm y).mp w)
   ·rw[if_neg hj]at hy
    exact hy
  have p1:∀(j:Nat)(ms:Ct),(env.set i (Sl.deep c'))[j]?=some (.deep ms)->∃Nt,env[j]?=some (.deep Nt):=fun j ms q=>by
   by_cases hj:i=j
   ·subst hj;exact⟨c,e⟩
   ·rw[getElem?_set_ne hj]at q;exact⟨ms,q⟩
  refine⟨fun j=>if j=i then a::as' else A j,fun j oE q=>?_,fun j oE m xs b q1 q2 q3 hx=>?_,fun j m oE Nq Pw q1 q2 x hx QQ=>?_⟩
  ·by_cases hj:j=i
   ·have q':=q
    rw[hj]at q'
    have z:=aV q'
    cases z
    exact⟨a,as',if_pos hj,by rw[hj];exact hσ,HA⟩
   ·rw[getElem?_set_ne (Ne.symm hj)]at q
    obtain⟨b,cs,z1,z2,z3⟩:=dd.dp j oE q
    refine⟨b,cs,by rw[if_neg hj];exact z1,z2,z3.to fun x hx=>?_⟩
    have hxb:x≠a:=fun z=>dd.dj i j c oE (Ne.symm hj) e q a Rp (by rw[z1,<-z];exact hx)
    exact⟨(z3.mem x hx).1,ah hxb⟩
  ·have Tj:=(f m _ q2 (fun z=>nomatch z)).2
   obtain⟨Nt,p⟩:=p1 j oE q1
   exact dd.ow j Nt m xs b p Tj q3 (sub j b hx)
  ·obtain⟨m1,w1⟩:=p1 j oE q1
   obtain⟨m2,w2⟩:=p1 m Nq q2
   exact dd.dj j m m1 m2 Pw w1 w2 x (sub j x hx) (sub m x QQ)
end
section
variable{X:Cx}{E:Str->Hp->Prop}{pos:Pos}
theorem Rx(ix:Nat){x:Str}{p apos aZ:Pos}(hN:X.N[ix]?=some x:=by rfl)(hv:vI X.env.scope x:=by first|exact Or.inl rfl|exact Or.inr (Or.inl rfl)|exact Or.inr (Or.inr rfl))(hd:(x==("__debug__":Str))=false:=by decide)
  (hcd:(x==("__classdict__":Str))=false:=by decide)
  (hbase:attributeBase (.Name x p) "reverse" X.env (eval (.Name x p) X.env)=eval (.Name x p) X.env:=by rfl)(hline:(apos.endLine==aZ.line)=true:=by rfl)
  (hs:swapsWith (.Call (.Attribute (.Name x p) "reverse" apos) [] [] aZ) none pos.line X.env=pure false:=by rfl):
  PS X (.Expr (.Call (.Attribute (.Name x p) "reverse" apos) [] [] aZ) pos) (tS X.K E fun env=>(fj ix env).bind fun nss=>.ok (.nx (env.set ix (.deep (.ls nss.reverse))))):=
 ou (fM (wR plainAttrs_list PySem.F.slot_list_reverse PySem.F.type_list_reverse zU (iB hN hv hd hcd) hbase hline) hs) fun De σ H ⟨g,env,os,r,m⟩=>by
  obtain⟨nss,e1,m2⟩:=m.bind.deep
  obtain⟨a,as,q1,q2,q3,q4⟩:=r.xo e1
  refine⟨.ref a,q1,.inl ⟨rfl,_,b7.of q2⟩,a,as.map V.ref,rfl,rfl,q2,?_⟩
  obtain⟨hos,r2⟩:=r.Rw (c':=.ls nss.reverse) (o:=.lst (as.map V.ref).reverse) (as':=as.reverse) e1 q1 (fun uX dp=>by
   have d:xS HO.lst H os a uX nss:=dp
   have has:uX=as:=by
    have z:=d.ha
    rw[q2]at z
    have z2:as.map V.ref=uX.map V.ref:=by injection z with z;injection z
    exact(jR z2).symm
   subst has
   refine⟨fun x=>mem_reverse,d.ma,by rw[<-map_reverse];exact ak,by rw[length_reverse,length_reverse];exact d.len,?_,fun k b ns e1 e2=>?_⟩
   ·have nd:=nodup_cons.mp d.nd
    exact nodup_cons.mpr ⟨fun z=>nd.1 (mem_reverse.mp z),(reverse_perm uX).nodup_iff.mpr nd.2⟩
   ·have hk:=(List.getElem?_eq_some_iff.mp e1).1
    rw[length_reverse]at hk
    rw[getElem?_reverse hk]at e1
    rw[getElem?_reverse (by rw[<-d.len];exact hk),<-d.len]at e2
    obtain⟨w1,w2⟩:=d.it _ b ns e1 e2
    have VI:b≠a:=fun z=>(nodup_cons.mp d.nd).1 (by rw[<-z];exact mem_of_getElem? e1)
    exact⟨w1,by rw[ah VI];exact w2⟩)
  exact(show gC X.K g H os De (.nx _)from m2) σ _ os r2 (.mut hos)
end
theorem dfm{K:PySem.W.Frag}{h:Heap}{mg:Str->Option Value}{x:Str}{st:Stmt}{ps:List Str}{f:Addr}{oc:Value}{od an:Option Addr}{Dv:Array (Option Value)}{kV doc pm cdv ct:Value}(X:K.In h)(G:h.Ns mainGlobals mg)(a:nsIn K mainGlobals x=some (some (.ref f)))
  (l:K.lookup f=some ⟨oc,od,.func (PySem.W.fnOf x x (cZ st) (bq st) (ae st) .none kV doc pm an cdv ct),Dv⟩)(c:codeIn K cdv x=true)(k:keepIn K (.ref f)=true)
  (hb:∀(kV doc pm:Value)(an:Option Addr)(cdv ct:Value)(us:List Value),us.length=ps.length->bindArgs (PySem.W.fnOf x x (cZ st) (bq st) (ae st) .none kV doc pm an cdv ct) ⟨us,[]⟩=pure (ps.zip us)):
  Df K mg x st ps f (PySem.W.fnOf x x (cZ st) (bq st) (ae st) .none kV doc pm an cdv ct):=⟨zV l c k,(zV l c k).binds hb,mg_of X G a,a⟩
theorem oG{N P:List Str}{sc:Scope}(h1:sc.kind=.function:=by rfl)(h2:sc.isCoroutine=false:=by rfl)(h3:sc.isGenerator=false:=by rfl)(h4:N.Nodup:=by decide +kernel)(h5:N.take P.length=P:=by rfl)
  (h6:∀x∈P,sc.names.lookup x=some .local\/sc.names.lookup x=some .cell:=by decide +kernel)(h7:∀y∈sc.names,y.2≠.free:=by decide +kernel):aw N P sc:=⟨h1,h2,h3,h4,h5,h6,h7⟩
def se(n:Int):Obj:={cls:=.type "range_iterator",data:=.fields #[rawInt (0+(n-1)*1),rawInt n,rawInt (-1)]}
theorem I0:isSubtype (.type "range_iterator") (.type "reversed")=pure false:=by rw[isSubtype_type];kernel_rfl
section
variable{prog:Program}{w:World}{A:Around}{E:Value->Shared->Prop}{s:Shared}
theorem I8{r:Addr}{n:Int}{t u v:Tok}{Q:Value->Shared->Prop}(h0:0<=n)(h1:n<=1000000)(hr:IsRange s.heap r 0 n 1 t u v)
  (h:Q (.ref s.heap.objs.size) {s with heap:=s.heap.push (se n)}):wpAny (model prog w) A (call (.builtin "range.__reversed__") [.ref r]) Q E s:=by
 refine wpAny_call_entry slot_range_reversed ⟨_,hr,rfl⟩ PySem.F.entry_range_reversed ?_ (PySem.F.args_range_reversed_1 _)
 have hsz:Builtin.Range.rangeSize 0 n 1=n:=by rw[rangeSize_one];split<;>omega
 have hsm:(Builtin.Range.rangeFitsLong 0&&Builtin.Range.rangeFitsLong n&&Builtin.Range.rangeFitsLong 1&&Builtin.Range.rangeFitsLong (-1)&&Builtin.Range.rangeFitsLong (0-1)&&Builtin.Range.rangeFitsLong n)=true:=by
  unfold Builtin.Range.rangeFitsLong
  simp only [and_eq_true,decide_eq_true_eq]
  omega
 obtain⟨hp,g,d,tk,os⟩:=s
 wp_walk using AutoSeq1.wpAny_loadPart' hr
 rw[hsz,hsm,if_neg (show¬((!true)=true)from Bool.false_ne_true)]
 dsimp only
 rw[if_pos rfl]
 exact wpAny_bind (wpAny_newObj_type (wpAny_pure ⟨_,rfl,h⟩))
theorem Nv{r:Addr}{n:Int}{t u v:Tok}{Q:Value->Shared->Prop}(h0:0<=n)(h1:n<=1000000)(hr:IsRange s.heap r 0 n 1 t u v)
  (h:Q (.ref s.heap.objs.size) {s with heap:=s.heap.push (se n)}):codeAny (model prog w) A (.call (.builtin "reversed.__new__") ⟨[.type "reversed",.ref r],[]⟩) (wants Q E) s:=by
 have hT:s.TypeIs (.ref r) "range":=⟨_,hr,rfl⟩
 have nb:¬((Value.builtin "range.__reversed__"==Value.none)=true):=Bool.false_ne_true
 refine codeAny_of_tree (show wpAny _ A.in1 (do
  checkBuiltinCall "reversed.__new__" ⟨[.type "reversed",.ref r],[]⟩
  again (.builtin "reversed.__new__" ⟨[.type "reversed",.ref r],[]⟩)) _ _ s from ?_)
 refine wpAny_bind (wpAny_of_eq (PySem.F.newCall_reversed_1 _) (wpAny_pure ⟨plainId_quiet PySem.F.plain_reversed_new _,?_⟩))
 refine codeAny_builtin PySem.F.entry_reversed_new ?_
 rw[Around.under_plainId PySem.F.plain_reversed_new _]
 show wpAny _ _ (do
  let x<-Builtin.SmallTypes.newClass "reversed" ⟨[.type "reversed",.ref r],[]⟩
  _) _ _ _
 refine wpAny_bind (wpAny_of_eq (newClass_reversed (.ref r)) ?_)
 try dsimp only
 refine wpAny_bind (wpAny_of_eq (a:=()) (by kernel_rfl) (wpAny_bind (wpAny_of_eq (a:=()) (by kernel_rfl) ?_)))
 try dsimp only
 refine wpAny_bind (wpAny_specialOf hT slot_range_reversed.lookup ?_)
 try dsimp only
 refine wpAny_bind (wpAny_of_eq (slot_range_reversed.bind (.ref r)) ?_)
 try dsimp only
 rw[if_neg nb]
 refine wpAny_bind (wpAny_rule (wpAny_bind (m:=runValue (.call (.builtin "range.__reversed__") ⟨[.ref r],[]⟩)) ?_))
 show wpAny _ _ (call (.builtin "range.__reversed__") [.ref r]) _ _ _
 refine I8 h0 h1 hr ?_
 first
 |exact wpAny_pure h
 |exact wpAny_bind (wpAny_pure (wpAny_pure h))
theorem Nx{r:Addr}{n:Int}{t u v:Tok}{Q:Value->Shared->Prop}(h0:0<=n)(h1:n<=1000000)(hr:IsRange s.heap r 0 n 1 t u v)
  (h:Q (.ref s.heap.objs.size) {s with heap:=s.heap.push (se n)}):wpAny (model prog w) A (call (.type "reversed") [.ref r]) Q E s:=by
 have hc:codeAny (model prog w) A.in1 (.call (.builtin "reversed.__new__") ⟨.type "reversed"::[.ref r],[]⟩) (wants (fun o z=>o=.ref s.heap.objs.size/\z={s with heap:=s.heap.push (se n)}) E) s:=Nv h0 h1 hr ⟨rfl,rfl⟩
 refine callType_other (U:="range_iterator") (by decide +kernel) PySem.F.create_reversed ⟨_,_,PySem.F.mro_reversed⟩ PySem.F.made_reversed I0 (PySem.F.typeCall_reversed_1 _) hc ?_
 rintro o z ⟨rfl,rfl⟩
 exact⟨⟨_,Heap.get?_push_size _ rfl,rfl⟩,h⟩
theorem I9{it:Addr}{x left c:Int}{Q:Bool->Shared->Prop}(hit:IsRangeIter s.heap it x left c)(h0:0<=left)(h1:left<=1000000)(h:∀tk,Q false {s with toks:=tk}):wpAny (model prog w) A (Builtin.List.listLengthHint (.ref it)) Q E s:=by
 have hT:s.TypeIs (.ref it) "range_iterator":=⟨_,hit,rfl⟩
 have hcall:∀(Q':Value->Shared->Prop),(∀u tk,Q' (.int left u) {s with toks:=tk})->wpAny (model prog w) A (call (.builtin "range_iterator.__length_hint__") [.ref it]) Q' E s:=fun Q' hq=>by
  refine wpAny_call_entry PySem.F.slot_range_iterator_length_hint hT PySem.F.entry_range_iterator_length_hint ?_ (PySem.F.args_range_iterator_length_hint_1 _)
  obtain⟨hp,g,d,tk,os⟩:=s
  wp_walk using AutoSeq1.wpAny_loadPart' hit
  exact⟨_,rfl,hq _ _⟩
 have Ir:Builtin.List.listTooLong left.toNat=false:=by simp[Builtin.List.listTooLong,sizeLine];omega
 unfold Builtin.List.listLengthHint
 refine wpAny_bind (wpAny_specialOf hT PySem.F.nolen_ra (show wpAny _ A (specialOf (Value.ref it) (Str.ofString "__length_hint__")>>=_) _ _ _ from wpAny_bind (wpAny_specialOf hT PySem.F.hint_ra ?_)))
 generalize hid:("range_iterator.__length_hint__":String)=Vz
 wp_delta
 rw[show splitId Vz=some ("range_iterator","__length_hint__")from by subst hid;decide +kernel]
 subst hid
 refine wpAny_bind (wpAny_isInstance (b:=true) hT (by rw[isSubtype_type];kernel_rfl) ?_)
 refine wpAny_ite_split (fun z=>absurd z (by decide)) fun _=>wpAny_ite_split (fun _=>?_) fun z=>absurd (by decide +kernel) z
 refine wpAny_ite_split (fun _=>?_) fun z=>absurd rfl z
 refine wpAny_bind (hcall _ fun u tk=>wpAny_bind (m:=asInt? (.int left u)) (wpAny_pure ?_))
 dsimp only
 rw[if_neg (by rw[Ir];decide)]
 exact wpAny_pure (h tk)
theorem Ny{R:Result->Shared->Prop}{it:Addr}{n:Nat}(hh:A.handled=none)(hn:n<=1000000)(hit:IsRangeIter s.heap it ((n:Int)-1) n (-1))(S:Addr)(res:Value)(c₀:Nat)
  (hS:s.heap.get? S=some {cls:=.type "list",data:=.seq #[] c₀})(K6:S≠it)
  (hR:∀h' tk dq c',(∀b o,b≠S->b≠it->s.heap.get? b=some o->h'.get? b=some o)->h'.get? S=some {cls:=.type "list",dict:=none,data:=.seq dq c',slots:=#[]}->
   ItemsOf (fun i v=>∃t,v=.int ((n:Int)-1+i*(-1)) t) dq n->R (.ok (.ret res)) {s with heap:=h',toks:=tk}):
  wpAny (model prog w) A.in1 (Builtin.List.listExtendWith (.ref S) (.ref it) res)
   (fun fin s'=>match fin with|.done f=>R (.ok f) s'|.again c'=>c'.quiet=true/\codeAny (model prog w) A c' R s') (fun e s'=>R (.error e) s') s:=by
 have hT:s.TypeIs (.ref it) "range_iterator":=⟨_,hit,rfl⟩
 have W:=(Walks.range (prog:=prog) (w:=w) (A:=A.in1) hh it ((n:Int)-1) (-1) n).toS
 have e1:Builtin.List.listSameRef (.ref S) (.ref it)=false:=by simp[Builtin.List.listSameRef,K6]
 have e2:(Value.type "range_iterator"==Value.type "list")=false:=by decide
 have e3:(Value.type "range_iterator"==Value.type "tuple")=false:=by decide
 have Yo:∀tk,IsRangeIter ({s with toks:=tk}:Shared).heap it ((n:Int)-1+((0:Nat):Int)*(-1)) ((n:Int)-((0:Nat):Int)) (-1):=fun tk=>by
  rw[show(n:Int)-1+((0:Nat):Int)*(-1)=(n:Int)-1 by omega,show(n:Int)-((0:Nat):Int)=n by omega]
  exact hit
 unfold Builtin.List.listExtendWith
 refine wpAny_bind (wpAny_typeOf hT ?_)
 simp only [e1,e2,e3,Bool.or_false,false_eq_true,if_false]
 refine wpAny_bind (W.self 0 _ _ _ (Yo s.toks) (wpAny_bind (wpAny_holding (I9 hit (by omega) (by omega) fun tk=>?_))))
 refine wpAny_ite_split (fun z=>absurd z (by decide)) fun _=>wpAny_pure ⟨plainId_quiet PySem.F.plain_extend_loop _,?_⟩
 refine codeAny_extend_loopS W (le_trans hn (by decide)) S (fun hm=>K6 (mem_singleton.mp hm)) res n 0 _ #[] c₀ rfl (zero_le _) (Yo tk) hS (ItemsOf.nil _) fun s' dq c' hm IM hacc=>?_
 rw[Moved.eq_with hm]
 exact hR s'.heap s'.toks dq c' (fun b o hb hb2 e=>hm.heap b o (fun hmem=>by
  rcases mem_cons.mp hmem with z|z
  ·exact hb z
  ·exact hb2 (mem_singleton.mp z)) e) IM hacc
theorem Ja{Q:Value->Shared->Prop}{it:Addr}{n:Nat}(hh:A.handled=none)(hn:n<=1000000)(hit:IsRangeIter s.heap it ((n:Int)-1) n (-1))
  (hQ:∀h' tk dq c',(∀b o,b≠it->s.heap.get? b=some o->h'.get? b=some o)->h'.get? s.heap.objs.size=some {cls:=.type "list",dict:=none,data:=.seq dq c',slots:=#[]}->
   ItemsOf (fun i v=>∃t,v=.int ((n:Int)-1+i*(-1)) t) dq n->Q (.ref s.heap.objs.size) {s with heap:=h',toks:=tk}):wpAny (model prog w) A (call (.type "list") [.ref it]) Q E s:=by
 have hlt:it<s.heap.objs.size:=Heap.lt_size hit
 have hS:(s.heap.push {cls:=.type "list",data:=.seq #[]}).get? s.heap.objs.size=some {cls:=.type "list",data:=.seq #[]}:=Heap.get?_push_size _ rfl
 refine callType_codes (Q₁:=fun o z=>o=.ref s.heap.objs.size/\z={s with heap:=s.heap.push {cls:=.type "list",data:=.seq #[]}}) PySem.F.called_list (PySem.F.typeCall_list_1 _) PySem.F.entry_list_init (code_list_new _ ⟨rfl,rfl⟩) ?_
 rintro o z ⟨rfl,rfl⟩
 refine⟨⟨_,hS,rfl⟩,PySem.F.args_list_init_2 _ _,?_⟩
 show wpAny _ _ (do
  let old<-Builtin.List.listItems (.ref s.heap.objs.size)
  Builtin.List.listUpdate (.ref s.heap.objs.size) (fun _=>#[])
  letGo old.toList.reverse
  Builtin.List.listExtendWith (.ref s.heap.objs.size) (.ref it) .none) _ _ _
 refine wpAny_bind ?_
 unfold Builtin.List.listItems
 refine wpAny_bind (wpAny_seqItems hS rfl (wpAny_pure ?_))
 show wpAny _ _ (do
  updateSeq s.heap.objs.size (fun _=>#[])
  letGo (#[]:Array Value).toList.reverse
  Builtin.List.listExtendWith (.ref s.heap.objs.size) (.ref it) .none) _ _ _
 refine wpAny_bind (wpAny_updateSeq hS rfl (wpAny_bind (wpAny_letGo ?_)))
 have hS2:=Heap.get?_update_self (Obj.mapSeq (fun _=>(#[]:Array Value))) hS rfl
 have oth:∀b o,b≠s.heap.objs.size->s.heap.get? b=some o->((s.heap.push {cls:=.type "list",data:=.seq #[]}).update s.heap.objs.size (Obj.mapSeq (fun _=>(#[]:Array Value)))).get? b=some o:=
  fun b o hb e=>(Heap.get?_update_other _ _ (Ne.symm hb)).trans (Heap.get?_push_of_some _ e)
 refine Ny (A:=A.in1) hh hn (oth it _ (ne_of_lt hlt) hit) s.heap.objs.size .none _ hS2 (ne_of_gt hlt) fun h' tk dq c' hk IM hacc=>⟨rfl,?_⟩
 exact hQ h' tk dq c' (fun b o hb e=>hk b o (ne_of_lt (Heap.lt_size e)) hb (oth b o (ne_of_lt (Heap.lt_size e)) e)) IM hacc
end
def Nz(n:Nat):List D:=(range n).map fun i=>D.int ((n:Int)-1-(i:Nat))
def uk(n:Nat):List V:=(range n).map fun i=>V.int ((n:Int)-1-(i:Nat))
def yK:List D->R (List D)
 |[.int j]=> @ite _ (0<=j/\j<=1000000) (propDecidable _) (.ok (Nz j.toNat)) .bad
 |_=>.bad
theorem Jb{K:PySem.W.Frag}{P:Addr->Prop}{H:Hp}(n:Nat):IsL K P H (Nz n) (uk n):=by
 unfold Nz uk
 induction (range n)with
 |nil=>rfl
 |cons x r ih=>exact⟨_,_,rfl,rfl,ih⟩
theorem CZ{acc:List Value}{n:Nat}(h1:acc.length=n)(h2:∀(j:Nat)(v:Value),acc[j]?=some v->∃t,v=.int ((n:Int)-1-(j:Nat)) t):Vals (uk n) acc:=by
 have gen:∀(l:List Value)(k:Nat),(∀(j:Nat)(v:Value),l[j]?=some v->∃t,v=.int ((n:Int)-1-((k+j:Nat):Int)) t)->Vals ((range' k l.length).map fun i=>V.int ((n:Int)-1-(i:Nat))) l:=by
  intro l
  induction l with
  |nil=>intro k _;exact .nil
  |cons x r ih=>
   intro k hk
   rw[length_cons,range'_succ,map_cons]
   obtain⟨t,e⟩:=hk 0 x rfl
   refine .cons ⟨t,e⟩ (ih (k+1) fun j v e=>?_)
   obtain⟨t,e⟩:=hk (j+1) v (by simpa using e)
   exact⟨t,by rw[e,show k+(j+1)=k+1+j by omega]⟩
 have:=gen acc 0 fun j v e=>by rw[zero_add];exact h2 j v e
 rw[h1,<-List.range_eq_range']at this
 exact this
section
variable{X:Cx}{E:Str->Hp->Prop}{pos:Pos}
theorem NB{a:Expr}{p p2 p3 kB C0:Pos}{f:DE->R (List D)}(hc:X.calm=true)(CT:X.mg "list"=none)(hmv:X.mg "reversed"=none)(M5:X.mg "range"=none)(ha:PA X [a] (pH X.K E f))(M6:Gl X "list":=by rfl)(hgv:Gl X "reversed":=by rfl)(hgr:Gl X "range":=by rfl)
  (hs:starEach [a] X.env=[(false,eval a X.env)]:=by rfl)(Yp:starEach [.Call (.Name "range" p3) [a] [] C0] X.env=(false,eval (.Call (.Name "range" p3) [a] [] C0) X.env)::starEach [] X.env:=by rfl)
  (he:starEach [.Call (.Name "reversed" p2) [.Call (.Name "range" p3) [a] [] C0] [] kB] X.env=(false,eval (.Call (.Name "reversed" p2) [.Call (.Name "range" p3) [a] [] C0] [] kB) X.env)::starEach [] X.env:=by rfl)
  (hpl:(backTo pos (starEach [] X.env)).any (·.1)=false:=by rfl)(Nk:(backTo kB (starEach [] X.env)).any (·.1)=false:=by rfl):
  PE X (.Call (.Name "list" p) [.Call (.Name "reversed" p2) [.Call (.Name "range" p3) [a] [] C0] [] kB] [] pos) (tF X.K E fun env=>(f env).bind yK):=by
 intro pins s σ H Q I ⟨g,env,os,r,m⟩
 refine wpAny_Call_Name_kw (dS I M6 CT jO (PyProof.Rows.callWith_type1 ?_ he hpl))
 rw[he]
 refine Calls.spliced_cons (Call_ (dS I hgv hmv mO (PyProof.Rows.callWith_type1 ?_ Yp Nk)))
 rw[Yp]
 refine Calls.spliced_cons (Call_ (dS I hgr M5 ue (PyProof.Rows.callWith_type1 (bD (ha C0 pins s σ H _ I ⟨g,env,os,r,m.bind.mono fun ds _ q vs H1 s1 i1=>(⟨ds,s1,i1,q⟩:∃ds,aB H H1/\IsL X.K Tr H1 ds vs/\Good E g.H₀ (yK ds) _)⟩) fun us s1 ⟨vs,H1,I1,r1,ds,sm,i1,q⟩=>?_) hs rfl)))
 unfold yK at q
 split at q
 ·rename_i j
  split at q
  ·rename_i c
   obtain⟨v,rfl,iv⟩:=IsL.vo i1
   have Rc:v=.int j:=iv
   subst Rc
   obtain⟨u,rfl,t,rfl⟩:=vals1 r1
   obtain⟨n,rfl⟩:∃n:Nat,j=n:=⟨j.toNat,by omega⟩
   rw[toNat_natCast]at q
   have hd:X.A.handled=none:=I.ok.hd hc
   refine call_range_1 (Calls.spliced_nil ?_)
   generalize hR:({cls:=.type "range",data:=.fields #[.int 0 s1.toks,.int (n:Int) t,.int 1 (s1.toks+1)]}:Obj)=oR
   refine Nx (n:=n) (by omega) c.2 (show IsRange _ _ 0 (n:Int) 1 s1.toks t (s1.toks+1)from by rw[<-hR];exact IsRange.new ..) (Calls.spliced_nil ?_)
   have k1:∀b o,s1.heap.get? b=some o->((s1.heap.push oR).push (se n)).get? b=some o:=fun b o e=>Heap.get?_push_of_some _ (Heap.get?_push_of_some _ e)
   have hit:((s1.heap.push oR).push (se n)).get? (s1.heap.push oR).objs.size=some (se n):=Heap.get?_push_size _ rfl
   refine Ja (n:=n) hd (by omega) (by
    show((s1.heap.push oR).push (se n)).get? (s1.heap.push oR).objs.size=_
    rw[hit]
    unfold se
    rw[show 0+((n:Int)-1)*1=(n:Int)-1 by omega]) fun h' tk dq c' hk hl VV=>?_
   obtain⟨hi1,hi2⟩:=VV
   have hv:Vals (uk n) dq.toList:=CZ (by simpa using hi1) fun i v e=>by
    obtain⟨t,q⟩:=hi2 i v (by simpa using e)
    exact⟨t,by rw[q];congr 1;omega⟩
   have hlen:(uk n).length<=sizeLine:=by
    unfold uk
    rw[length_map,length_range]
    exact le_trans (show n<=1000000 by omega) (by decide)
   have MC:∀b o,s1.heap.get? b=some o->h'.get? b=some o:=fun b o e=>hk b o (ne_of_lt (lt_trans (Heap.lt_size e) (by rw[Heap.size_push];exact lt_succ_self _))) (k1 b o e)
   have hsz:s1.heap.objs.size<=((s1.heap.push oR).push (se n)).objs.size:=by rw[Heap.size_push,Heap.size_push];omega
   have hn1:H1 ((s1.heap.push oR).push (se n)).objs.size=none:=I1.hok.fresh hsz
   refine⟨.ref _,upd H1 _ (.lst (uk n)),I1.laid (a:=((s1.heap.push oR).push (se n)).objs.size) (t':=tk) MC hsz ⟨hlen,dq.toList,c',hv,by simpa using hl⟩,rfl,?_⟩
   exact q _ _ _ (sm.trans (aD hn1 _)) (sm.free hn1) ak (Jb n)
  ·exact q.elim
 ·exact q.elim
end
def um(env:DE):R Out:=
 (R.bind (R.bind (R.bind (R.bind (R.bind (R.bind (R.bind (R.bind (aY 0 env) fun gz=>R.bind (R.ok (D.int 1000003)) fun kC=>R.of (oZ gz kC)) fun lu=>R.bind (R.ok (D.int 7)) fun ky=>R.of (yo lu ky)) fun v10=>R.bind (R.bind (aY 1 env) fun ly=>R.bind (aY 1 env) fun kT=>R.of (yo ly kT)) fun v11=>R.of (hU v10 v11)) fun v8=>R.bind (R.ok (D.int 1)) fun v9=>R.of (hU v8 v9)) fun v6=>R.bind (aY 2 env) fun v7=>R.of (yo v6 v7)) fun v4=>R.bind (R.ok (D.int 2147483647)) fun v5=>R.of (oZ v4 v5)) fun v2=>R.bind (R.ok (D.int 16)) fun v3=>R.of (wV v2 v3)) fun v1=>R.ok (Out.rt v1))
def fq:=mS 3 3 um
def mV(env:DE):R Out:=
 (aW (R.bind (R.bind (R.bind (aY 1 env) fun v4=>R.bind (R.ok (D.int 1)) fun v5=>R.bind (R.of (xU v4 v5)) jj) fun v3=>if v3=true then(R.bind (R.bind (aY 0 env) fun v8=>R.bind (R.ok (D.int 13)) fun v9=>R.of (oZ v8 v9)) fun v6=>R.bind (R.ok (D.int 5)) fun v7=>R.bind (R.of (xU v6 v7)) jj)else R.ok false) fun v2=>if v2=true then(R.bind (R.ok (D.int 1)) fun v10=>R.ok (Out.rt v10))else(R.ok (Out.nx env))) fun v1=>
 (aW (R.bind (R.bind (R.bind (R.ok (D.int 2)) fun gz=>R.bind (R.bind (aY 1 v1) fun ly=>R.bind (R.ok []) fun kT=>R.ok (ly::kT)) fun kC=>R.ok (gz::kC)) fun ky=>R.of (Bb ky)) fun lu=>R.ok (Out.nx (List.set v1 1 (Sl.val lu)))) fun v11=>
 (R.bind (R.bind (aY 1 v11) fun mW=>R.bind (R.bind (R.bind (aY 0 v11) fun qV=>R.bind (R.ok (D.int 13)) fun qW=>R.of (wV qV qW)) fun qX=>R.bind (R.bind (R.bind (aY 2 v11) fun vA=>R.bind (aY 1 v11) fun xp=>R.of (iD vA xp)) fun qY=>R.bind (R.ok (D.int 1)) fun uo=>R.of (hU qY uo)) fun kU=>R.of (oZ qX kU)) fun v20=>R.of (hU mW v20)) fun mm=>R.ok (Out.rt mm))))
def dC:=mS 3 3 mV
def lU(env:DE):R Out:=
 (aW (R.bind (R.bind (R.ok (D.int 1)) fun v3=>R.bind (R.bind (aY 0 env) fun v5=>R.bind (R.bind (aY 1 env) fun v7=>R.bind (R.ok (D.int 1)) fun v8=>R.of (iD v7 v8)) fun v6=>R.of (oZ v5 v6)) fun v4=>R.of (hU v3 v4)) fun v2=>R.ok (Out.nx (List.set env 2 (Sl.val v2)))) fun v1=>
 (aW (R.bind (R.bind (R.bind (R.bind (aY 0 v1) fun kC=>R.bind (R.ok (D.int 8)) fun ly=>R.of (wV kC ly)) fun ky=>R.bind (R.ok (D.int 2)) fun gz=>R.of (oZ ky gz)) fun v11=>R.bind (R.ok (D.int 1)) fun lu=>R.bind (R.of (xU v11 lu)) jj) fun v10=>if v10=true then(R.bind (R.bind (aY 2 v1) fun mm=>R.of (qL mm)) fun kT=>R.ok (Out.rt kT))else(R.ok (Out.nx v1))) fun v9=>
 (R.bind (bY 2 v9) fun mW=>R.ok (Out.rt mW))))
def cS:=mS 2 3 lU
def pU(env:DE):R Out:=
 (aW (R.bind (R.bind (R.bind (aY 0 env) fun v3=>R.bind (R.bind (aY 1 env) fun v5=>R.bind (R.ok []) fun v6=>R.ok (v5::v6)) fun v4=>R.ok (v3::v4)) cS) fun v2=>R.ok (Out.nx (List.set env 2 (Sl.val v2)))) fun v1=>
 (aW (R.bind (R.bind (R.bind (R.bind (R.bind (aY 0 v1) fun gz=>R.bind (R.ok (D.int 16)) fun kC=>R.of (wV gz kC)) fun lu=>R.bind (R.ok (D.int 4)) fun ky=>R.of (oZ lu ky)) fun v10=>R.bind (R.ok (D.int 0)) fun v11=>R.bind (R.of (zW v10 v11)) jj) fun v9=>if v9=true then R.ok true else(R.bind (aY 1 v1) fun ly=>R.bind (R.ok (D.int 3)) fun kT=>R.bind (R.of (J1 ly kT)) jj)) fun v8=>if v8=true then(R.bind (R.bind (R.bind (R.bind (bY 2 v1) fun v20=>R.bind (R.ok []) fun qX=>R.ok (v20::qX)) fit) fun mW=>R.ok (D.lst mW)) fun mm=>R.ok (Out.rt mm))else(R.ok (Out.nx v1))) fun v7=>
 (aW (R.bind (R.bind (R.bind (R.bind (R.bind (R.bind (R.bind (aY 2 v7) fun Fg=>R.bind (R.ok (D.int 1)) fun Fi=>R.of (hU Fg Fi)) fun Ag=>R.bind (R.ok []) fun v30=>R.ok (Ag::v30)) fun xp=>R.of (CM xp)) fun uo=>R.bind (aY 1 v7) fun vA=>R.bind (R.of (J1 uo vA)) jj) fun qY=>if qY=true then(R.bind (R.bind (aY 2 v7) fun Fj=>R.bind (R.ok (D.int 1)) fun Ah=>R.of (hU Fj Ah)) fun Fl=>R.bind (R.ok (D.int 0)) fun DA=>R.bind (R.of (Bh Fl DA)) jj)else R.ok false) fun qW=>if qW=true then(R.bind (aY 2 v7) fun Fo=>R.bind (R.ok (D.int 1)) fun Hl=>R.of (hU Fo Hl))else(R.bind (aY 2 v7) fun Fp=>R.bind (R.ok (D.int 1)) fun Hm=>R.of (iD Fp Hm))) fun qV=>R.ok (Out.nx (List.set v7 3 (Sl.val qV)))) fun kU=>
 (R.bind (R.bind (R.bind (R.bind (R.bind (R.bind (R.bind (bY 2 kU) fun Jc=>R.bind (R.bind (bY 3 kU) fun Jd=>R.bind (R.bind (bY 2 kU) fun Fq=>R.bind (R.ok []) fun Hn=>R.ok (Fq::Hn)) fun DB=>R.ok (Jd::DB)) fun Je=>R.ok (Jc::Je)) fit) fun Jf=>R.ok (D.lst Jf)) fun Ho=>R.bind (R.bind (R.bind (R.bind (R.bind (bY 2 kU) fun ND=>R.bind (R.bind (bY 3 kU) fun NF=>R.bind (R.ok []) fun NG=>R.ok (NF::NG)) fun Ft=>R.ok (ND::Ft)) fit) fun NH=>R.ok (D.lst NH)) fun NI=>R.bind (R.bind (R.bind (R.bind (R.bind (bY 2 kU) fun NJ=>R.bind (R.bind (bY 2 kU) fun NK=>R.bind (R.ok []) fun NN=>R.ok (NK::NN)) fun NP=>R.ok (NJ::NP)) fit) fun Lb=>R.ok (D.lst Lb)) fun NQ=>R.bind (R.bind (R.bind (R.bind (R.bind (bY 2 kU) fun NR=>R.bind (R.bind (R.bind (aY 3 kU) fun NS=>R.of (qL NS)) fun NT=>R.bind (R.bind (bY 2 kU) fun VW=>R.bind (R.ok []) fun VX=>R.ok (VW::VX)) fun DC=>R.ok (NT::DC)) fun NU=>R.ok (NR::NU)) fit) fun NV=>R.ok (D.lst NV)) fun NW=>R.bind (R.ok []) fun NX=>R.ok (NW::NX)) fun Fv=>R.ok (NQ::Fv)) fun Ry=>R.ok (NI::Ry)) fun DD=>R.ok (Ho::DD)) fit) fun Bu=>R.bind (R.bind (R.bind (aY 0 kU) fun Rz=>R.bind (R.ok (D.int 64)) fun RA=>R.of (wV Rz RA)) fun NY=>R.bind (R.ok (D.int 4)) fun NZ=>R.of (oZ NY NZ)) fun Ai=>vm Bu Ai) fun Jg=>R.ok (Out.rt Jg)))))
def fR:=mD 2 4 pU
def iI(d:D)(env:DE):R Out:=
 R.bind ((bT 2 (jP (bN 4) (jP (bN 5) xm))) d env) fun v8=>
  (R.bind (R.bind (aY 1 v8) fun v10=>R.bind (R.ok (D.int 1)) fun v11=>R.bind (R.of (zW v10 v11)) jj) fun v9=>if v9=true then(R.bind (R.bind (R.bind (lS 3 v8) fun gz=>R.bind (R.bind (R.bind (R.bind (R.bind (R.bind (aY 5 v8) fun mm=>R.bind (R.bind (aY 4 v8) fun v20=>R.bind (R.bind (R.ok (D.int 48271)) fun kU=>R.bind (R.ok []) fun qV=>R.ok (kU::qV)) fun qX=>R.ok (v20::qX)) fun mW=>R.ok (mm::mW)) fq) fun ly=>R.bind (R.bind (bY 1 v8) fun qW=>R.bind (R.ok []) fun qY=>R.ok (qW::qY)) fun kT=>R.ok (ly::kT)) fR) qK) fun kC=>fit (gz++kC)) fun ky=>R.ok (D.lst ky)) fun lu=>R.ok (Out.nx (List.set v8 3 (Sl.val lu))))else(R.ok (Out.nx v8)))
def pV(env:DE):R Out:=
 (aW (R.bind (R.bind (R.bind (R.ok []) fit) fun v3=>R.ok (D.lst v3)) fun v2=>R.ok (Out.nx (List.set env 3 (Sl.val v2)))) fun v1=>
 (aW (R.bind (R.bind (bY 0 v1) fun uo=>R.bind (qK uo) fun xs=>R.ok (dB xs)) fun v5=>dO iI v5 v1) fun v4=>
 (R.bind (R.bind (lS 3 v4) fun xp=>R.bind (R.ok none) fun Ag=>R.bind (R.bind (aY 2 v4) Ek) fun v30=>R.ok (cut xp Ag v30)) fun vA=>R.ok (Out.ph vA))))
def fU:=fg 3 6 pV
def Aj(c k f:Int):Int:=(c%1000003*7+k*k+1)*f%2147483647/16
theorem Fw(c k f:Int)(hk:0<=k/\k<1000000)(hf:0<=f/\f<2147483647):fq [.int c,.int k,.int f]=.ok (.int (Aj c k f)):=by
 have h1:=emod_nonneg c (show(1000003:Int)≠0 by decide)
 have h2:=emod_lt_of_pos c (show(0:Int)<1000003 by decide)
 unfold fq um
 simp -implicitDefEqProofs only [mS,mD,mF,fg,aH,reduceAdd,reduceSub,reduceEqDiff,reduceIte,ai,aj,aL,aM,aN,aO]
 rw[iH c 1000003 (by decide)]
 simp -implicitDefEqProofs only [R.jM,R.bF]
 rw[ug _ 7 (.inr (by decide))]
 simp -implicitDefEqProofs only [R.jM,R.bF]
 rw[ug k k (.inl (by omega))]
 simp -implicitDefEqProofs only [R.jM,R.bF,xh]
 rw[ug _ f (.inr (by omega))]
 simp -implicitDefEqProofs only [R.jM,R.bF]
 rw[iH _ 2147483647 (by decide)]
 simp -implicitDefEqProofs only [R.jM,R.bF]
 rw[qR _ 16 (by decide)]
 rfl
def kD(s:Int):Int:=if s%13=5 then 1 else 2+s/13%6
theorem Ak(s:Int):dC [.int s,.int 1,.int 7]=.ok (.int (kD s)):=by
 unfold dC mV kD
 simp -implicitDefEqProofs only [mS,mD,mF,fg,aH,reduceAdd,reduceSub,reduceEqDiff,reduceIte,ai,aj,aL,aM,aN,aO]
 rw[iH s 13 (by decide)]
 simp -implicitDefEqProofs only [reduceIte,ai,aj,aL,aM,aN,aO,beq_self_eq_true]
 by_cases h:s%13=5
 ·simp -implicitDefEqProofs only [h,beq_self_eq_true,reduceIte,ai,aj,aL,aM,aN,aO]
 ·have h':(s%13==5)=false:=beq_false_of_ne h
  simp -implicitDefEqProofs only [h',h,reduceIte,ai,aj,aL,aM,aN,aO]
  rw[qR s 13 (by decide)]
  simp -implicitDefEqProofs only [reduceIte,ai,aj,aL,aM,aN,aO]
  rw[iH _ _ (by decide)]
  rfl
theorem yL(s:Int):1<=kD s/\kD s<=7:=by
 unfold kD
 split<;>omega
def cX(x n:Int):Int:=if x/8%2=1 then-(1+x%(n-1))else 1+x%(n-1)
theorem Fx(x n:Int)(h:2<=n):cS [.int x,.int n]=.ok (.int (cX x n)):=by
 unfold cS lU cX
 simp -implicitDefEqProofs only [mS,mD,mF,fg,aH,reduceAdd,reduceSub,reduceEqDiff,reduceIte,ai,aj,aL,aM,aN,aO]
 rw[iH x (n-1) (by omega)]
 simp -implicitDefEqProofs only [reduceIte,ai,aj,aL,aM,aN,aO]
 rw[qR x 8 (by decide)]
 simp -implicitDefEqProofs only [reduceIte,ai,aj,aL,aM,aN,aO]
 rw[iH _ 2 (by decide)]
 simp -implicitDefEqProofs only [reduceIte,ai,aj,aL,aM,aN,aO]
 by_cases hc:x/8%2=1
 ·simp -implicitDefEqProofs only [hc,beq_self_eq_true,reduceIte,ai,aj,aL,aM,aN,aO]
 ·have AU:(x/8%2==1)=false:=beq_false_of_ne hc
  simp -implicitDefEqProofs only [hc,AU,reduceIte,ai,aj,aL,aM,aN,aO]
def rO(n k:Int):Prop:=k≠0/\ -n<k/\k<n
theorem Fy(x n:Int)(h:2<=n):rO n (cX x n):=by
 unfold cX rO
 have h1:=emod_nonneg x (show n-1≠0 by omega)
 have h2:=emod_lt_of_pos x (show 0<n-1 by omega)
 split<;>omega
def qZ(k n:Int):Int:=if(if k+1<0 then-(k+1)else k+1)<n/\k+1≠0 then k+1 else k-1
def mX(x n:Int):List Int:=
 if x/16%4>0\/n<3 then[cX x n]else
  let k:=cX x n
  let o:=qZ k n
  if x/64%4=0 then[k,o,k]else if x/64%4=1 then[k,o]else if x/64%4=2 then[k,k]else[k,-o,k]
theorem Fz{k n:Int}(h:3<=n)(hk:rO n k):rO n (qZ k n):=by
 unfold qZ rO at*
 split<;>split at* <;>omega
theorem FA{x n:Int}(h:2<=n):∀k∈mX x n,rO n k:=by
 have h1:=Fy x n h
 unfold mX
 split
 ·simp[h1]
 ·rename_i hc
  have h2:=Fz (n:=n) (by omega) h1
  have h3:rO n (-qZ (cX x n) n):=by unfold rO at*;omega
  dsimp only
  split
  ·simp[h1,h2]
  ·split
   ·simp[h1,h2]
   ·split<;>simp[h1,h3]
theorem wb(x n:Int):(mX x n).length<=3:=by
 unfold mX
 split
 ·simp
 ·dsimp only
  split
  ·simp
  ·split
   ·simp
   ·split<;>simp
theorem FD(x n:Int)(h:2<=n):fR [.int x,.int n]=.ok (.lst (aA (mX x n))):=by
 unfold fR pU mX
 simp -implicitDefEqProofs only [mS,mD,mF,fg,aH,reduceAdd,reduceSub,reduceEqDiff,reduceIte,ai,aj,aL,aM,aN,aO]
 rw[Fx x n h]
 simp -implicitDefEqProofs only [reduceIte,ai,aj,aL,aM,aN,aO]
 rw[qR x 16 (by decide)]
 simp -implicitDefEqProofs only [reduceIte,ai,aj,aL,aM,aN,aO]
 rw[iH _ 4 (by decide)]
 simp -implicitDefEqProofs only [reduceIte,ai,aj,aL,aM,aN,aO]
 by_cases h1:0<x/16%4
 ·have RB:x/16%4>0\/n<3:=.inl h1
  rw[if_pos RB]
  simp -implicitDefEqProofs only [h1,decide_true,reduceIte,ai,aj,aL,aM,aN,aO]
  rfl
 ·by_cases h2:n<3
  ·have RB:x/16%4>0\/n<3:=.inr h2
   rw[if_pos RB]
   simp -implicitDefEqProofs only [h1,h2,decide_true,decide_false,reduceIte,ai,aj,aL,aM,aN,aO]
   rfl
  ·have RB:¬(x/16%4>0\/n<3):=by omega
   rw[if_neg RB]
   simp -implicitDefEqProofs only [h1,h2,decide_false,reduceIte,ai,aj,aL,aM,aN,aO]
   have ho:(R.bind (if decide ((if cX x n+1<0 then-(cX x n+1)else cX x n+1)<n)=true then R.ok (!(cX x n+1==0))else R.ok false) fun t=>if t=true then R.ok (D.int (cX x n+1))else R.ok (D.int (cX x n-1)))=R.ok (D.int (qZ (cX x n) n)):=by
    unfold qZ
    by_cases c1:(if cX x n+1<0 then-(cX x n+1)else cX x n+1)<n
    ·by_cases c2:cX x n+1=0
     ·simp[c1,c2,R.bF]
     ·simp[c1,c2,R.bF]
    ·simp[c1,R.bF]
   rw[ho]
   simp -implicitDefEqProofs only [reduceIte,ai,aj,aL,aM,aN,aO]
   rw[qR x 64 (by decide)]
   simp -implicitDefEqProofs only [reduceIte,ai,aj,aL,aM,aN,aO]
   rw[iH _ 4 (by decide)]
   simp -implicitDefEqProofs only [reduceIte,ai,aj,aL,aM,aN,aO]
   have h5:=emod_nonneg (x/64) (show(4:Int)≠0 by decide)
   have h6:=emod_lt_of_pos (x/64) (show(0:Int)<4 by decide)
   have h7:x/64%4=0\/x/64%4=1\/x/64%4=2\/x/64%4=3:=by omega
   rcases h7 with q|q|q|q<;>simp[q,L2.iT,L2.pe,R.jM,R.bF,R.Er,ai,aA]
def lA(n:Int)(cells:List Int)(i:Nat):List Int:=((range i).map fun k=>match cells[k]? with
 |some c=>mX (Aj c k 48271) n
 |none=>[]).flatten
theorem FE{n:Int}{cells:List Int}{i:Nat}{c:Int}(h:cells[i]?=some c):lA n cells (i+1)=lA n cells i++mX (Aj c i 48271) n:=by
 unfold lA
 rw[range_succ,map_append,flatten_append]
 simp[h]
theorem Bv(n:Int)(cells:List Int):∀i:Nat,(lA n cells i).length<=3*i
 |0=>by simp[lA]
 |i+1=>by
  unfold lA
  rw[range_succ,map_append,flatten_append,length_append]
  have ih:=Bv n cells i
  unfold lA at ih
  cases h:cells[i]? with
  |none=>simp -implicitDefEqProofs only [h,map_cons,map_nil,flatten_cons,List.flatten_nil,length_append,length_nil];omega
  |some c=>
   have:=wb (Aj c i 48271) n
   simp -implicitDefEqProofs only [h,map_cons,map_nil,flatten_cons,List.flatten_nil,length_append,length_nil];omega
theorem N2{n:Int}(hn:2<=n)(cells:List Int)(i:Nat):∀k∈lA n cells i,rO n k:=by
 intro k hk
 unfold lA at hk
 rw[List.mem_flatten]at hk
 obtain⟨l,hl,hk⟩:=hk
 rw[mem_map]at hl
 obtain⟨j,_,rfl⟩:=hl
 cases h:cells[j]? with
 |none=>rw[h]at hk;cases hk
 |some c=>rw[h]at hk;exact FA hn k hk
def xq(cells:List Int)(n most:Int):List Int:=(if 1<n then lA n cells cells.length else[]).take most.toNat
theorem FG{cells:List Int}{n most:Int}:∀k∈xq cells n most,rO n k:=by
 intro k hk
 unfold xq at hk
 have:=mem_of_mem_take hk
 split at this
 ·exact N2 (by omega) _ _ k this
 ·cases this
theorem FH(cells:List Int)(n most:Int)(hc:cells.length<=1000)(hn:1<=n)(hm:0<=most):fU [.lst (aA cells),.int n,.int most]=.ok (aA (xq cells n most)):=by
 unfold fU pV
 simp -implicitDefEqProofs only [mS,mD,mF,fg,aH,reduceAdd,reduceSub,reduceEqDiff,reduceIte,ai,aj,aL,aM,aN,aO]
 obtain⟨s',e,hj⟩:=qT (S:=List Int×Sl×Sl) (b:=iI)
  (fun i s=>s.1=if 1<n then lA n cells i else[]) (fun s=>[.val (.lst (aA cells)),.val (.int n),.val (.int most),.val (.lst (aA s.1)),s.2.1,s.2.2]) (dB (aA cells)) 0 ([],.no,.no) (by simp[lA]) (by
   rintro j ⟨wd,s4,s5⟩ x hs hx
   obtain⟨c,Yq,rfl⟩:=vZ hx
   have hj:j<cells.length:=(List.getElem?_eq_some_iff.mp Yq).1
   rw[zero_add]at hs⊢
   have Hk:wd=if 1<n then lA n cells j else[]:=hs
   unfold iI
   simp -implicitDefEqProofs only [X9,reduceIte,ai,aj,aL,aM,aN,aO]
   by_cases h1:1<n
   ·rw[if_pos h1]at Hk
    subst Hk
    have hl:=Bv n cells j
    have hl2:=wb (Aj c j 48271) n
    refine⟨(lA n cells (j+1),.val (.int (j:Nat)),.val (.int c)),?_,by simp[h1]⟩
    simp -implicitDefEqProofs only [h1,decide_true,reduceIte,ai,aj,aL,aM,aN,aO]
    rw[Fw c j 48271 (by omega) (by decide)]
    simp -implicitDefEqProofs only [reduceIte,ai,aj,aL,aM,aN,aO]
    rw[FD _ n (by omega)]
    simp -implicitDefEqProofs only [reduceIte,ai,aj,aL,aM,aN,aO,pQ]
    rw[b9 (by rw[length_append];omega)]
    simp -implicitDefEqProofs only [reduceIte,ai,aj,aL,aM,aN,aO,FE Yq]
   ·rw[if_neg h1]at Hk
    subst Hk
    exact⟨([],.val (.int (j:Nat)),.val (.int c)),by simp -implicitDefEqProofs only [h1,decide_false,reduceIte,ai,aj,aL,aM,aN,aO],by simp[h1]⟩)
 obtain⟨wd,s4,s5⟩:=s'
 have Al:wd=if 1<n then lA n cells (0+(dB (aA cells)).length)else[]:=hj
 have he:(dB (aA cells)).length=cells.length:=by rw[CV,bg]
 rw[zero_add,he]at Al
 rw[show aA []=[]from rfl]at e
 rw[e]
 simp -implicitDefEqProofs only [reduceIte,ai,aj,aL,aM,aN,aO,lj]
 rw[ui _ _ hm,jl]
 simp -implicitDefEqProofs only [reduceIte,ai,aj,aL,aM,aN,aO,Al]
 rfl
theorem Bw{w:List Int}{j:Nat}{x:D}(h:(aA w)[j]?=some x):∃k,w[j]?=some k/\x=.int k:=by
 rw[IK]at h
 cases q:w[j]? with
 |none=>rw[q]at h;cases h
 |some k=>rw[q]at h;cases h;exact⟨k,rfl,rfl⟩
theorem yM{α:Type}{w:List α}{j:Nat}{k:α}(h:w[j]?=some k):w.take (j+1)=w.take j++[k]:=by
 rw[take_succ,h];rfl
theorem RD{K:PySem.W.Frag}{H:Hp}{a:Addr}{m:List D->R D}{ns:List Int}(h:m [.lst (aA ns)]=.ok (.bl true))(hS:b7 K H a (ns.map V.int)):Bc K Dy m [.ref a] H (fun v _=>v=.bl true) fun _ _ _=>False:=by
 refine⟨Tr,[.lst (aA ns)],IsL.one ⟨a,_,rfl,r6.any hS,?_⟩,?_⟩
 ·clear h hS
  induction ns with
  |nil=>rfl
  |cons x r ih=>exact⟨_,_,rfl,rfl,ih⟩
 ·rw[h]
  intro v H' _ i
  exact i
def yN(env:DE):R Bool:=
 R.ok true
def yO(env:DE):R D:=
 (R.bind (aY 0 env) fun v6=>R.of (qL v6))
def yP(env:DE):R Out:=
 (R.bind (R.bind (R.bind (bY 0 env) fun v7=>R.bind (qK v7) fun xs=>R.ok (reverse xs)) fun v2=>R.bind (cR env []) fun v3=>R.bind (R.ne (bu (bN 0) yN yO (dX 1 v3) v2)) fit) fun v1=>R.ok (Out.ph v1))
def mY:=fg 1 1 yP
def lB(d:D)(env:DE):R Out:=
 R.bind ((bN 2) d env) fun v7=>
  (R.bind (R.bind (R.bind (R.bind (R.bind (aY 1 v7) fun ky=>R.bind (R.ok []) fun gz=>R.ok (ky::gz)) fun lu=>R.of (oy lu)) fun v10=>R.bind (R.ok (D.int 0)) fun v11=>R.bind (R.of (zW v10 v11)) jj) fun v9=>if v9=true then(R.bind (R.bind (lS 1 v7) fun kT=>R.bind (R.bind (R.ok (D.int 1)) fun mW=>R.of (qL mW)) fun mm=>vm kT mm) fun kC=>R.bind (R.bind (aY 2 v7) fun v20=>R.of (qL v20)) fun ly=>R.bind (R.of (xU kC ly)) jj)else R.ok false) fun v8=>if v8=true then(R.bind (ownAt 1 v7) fun qX=>Nb 1 v7 qX)else(R.bind (ownAt 1 v7) fun kU=>R.bind (bY 2 v7) fun qV=>Na 1 v7 kU qV))
def wc(env:DE):R Out:=
 (aW (R.bind (R.bind (R.ok []) fit) fun v2=>R.ok (Out.nx (List.set env 1 (Sl.own v2)))) fun v1=>
 (aW (R.bind (R.bind (bY 0 v1) qK) fun v4=>dO lB v4 v1) fun v3=>
 (R.bind (ownAt 1 v3) fun qW=>R.ok (Out.ph qW))))
def kE:=fg 1 3 wc
def uq(env:DE):R Out:=
 (R.bind (R.bind (R.bind (aY 0 env) fun v2=>R.bind (R.ok []) fun v3=>R.ok (v2::v3)) iY) fun v1=>R.ok (Out.ph v1))
def cA:=fg 1 1 uq
def FI(env:DE):R Out:=
 (R.bind (R.bind (R.bind (R.bind (aY 0 env) fun v4=>R.bind (R.ok (D.int 1)) fun v5=>R.of (iD v4 v5)) fun v2=>R.bind (R.bind (R.bind (R.ok (D.int 1)) fun v8=>R.of (qL v8)) fun v6=>R.bind (R.bind (R.bind (R.ok (D.int 1)) fun v11=>R.of (qL v11)) fun v9=>R.bind (R.ok []) fun v10=>R.ok (v9::v10)) fun v7=>R.ok (v6::v7)) fun v3=>R.ok (v2::v3)) E9) fun v1=>R.ok (Out.ph v1))
def ur:=fg 1 1 FI
def jn(d:D)(env:DE):R Out:=
 R.bind ((bT 2 (jP (bN 2) (jP (bN 3) xm))) d env) fun gz=>
  (R.bind (bY 2 gz) fun kC=>R.bind (ownAt 1 gz) fun ly=>R.bind (aY 3 gz) fun kT=>yE 1 gz kC ly kT)
def rP(env:DE):R Out:=
 (aW (R.bind (R.bind (R.bind (R.bind (R.ok (D.int 0)) fun v5=>R.bind (R.ok []) fun v6=>R.ok (v5::v6)) fit) fun v3=>R.bind (R.bind (R.bind (aY 0 env) fun v8=>R.bind (R.ok []) fun v9=>R.ok (v8::v9)) fun v7=>R.of (oy v7)) fun v4=>IE v3 v4) fun v2=>R.ok (Out.nx (List.set env 1 (Sl.own v2)))) fun v1=>
 (aW (R.bind (R.bind (bY 0 v1) fun mm=>R.bind (qK mm) fun xs=>R.ok (dB xs)) fun v11=>dO jn v11 v1) fun v10=>
 (R.bind (ownAt 1 v10) fun mW=>R.ok (Out.ph mW))))
def bM:=fg 1 4 rP
def uu(env:DE):R Bool:=
 (R.bind (R.bind (lS 1 env) fun v8=>R.bind (R.bind (aY 0 env) fun v10=>R.bind (R.ok (D.int 1)) fun v11=>R.of (iD v10 v11)) fun v9=>vm v8 v9) fun v6=>R.bind (R.bind (lS 1 env) fun lu=>R.bind (aY 0 env) fun ky=>vm lu ky) fun v7=>R.bind (R.of (zW v6 v7)) jj)
def uv(env:DE):R D:=
 (bY 0 env)
def Bx(env:DE):R Out:=
 (R.bind (R.bind (R.bind (R.bind (R.ok (D.int 1)) fun gz=>R.bind (R.bind (R.bind (R.bind (aY 0 env) fun mW=>R.bind (R.ok []) fun v20=>R.ok (mW::v20)) fun mm=>R.of (oy mm)) fun ly=>R.bind (R.ok []) fun kT=>R.ok (ly::kT)) fun kC=>R.ok (gz::kC)) CN) fun v2=>R.bind (cR env [0]) fun v3=>R.bind (R.ne (bu (bN 0) uu uv (dX 1 v3) v2)) fit) fun v1=>R.ok (Out.ph v1))
def nV:=fg 1 1 Bx
def fV(env:DE):R Out:=
 (R.bind (R.bind (R.bind (R.bind (lS 0 env) fun v6=>R.bind (R.ok none) fun v7=>R.bind (R.bind (R.bind (aY 1 env) fun v9=>R.bind (R.ok (D.int 1)) fun v10=>R.of (iD v9 v10)) Ek) fun v8=>R.ok (cut v6 v7 v8)) fun v4=>R.bind (R.bind (R.bind (R.bind (lS 0 env) fun ky=>R.bind (aY 1 env) fun gz=>vm ky gz) fun v11=>R.bind (R.bind (R.bind (lS 0 env) fun kT=>R.bind (R.bind (aY 1 env) fun mW=>R.bind (R.ok (D.int 1)) fun v20=>R.of (iD mW v20)) fun mm=>vm kT mm) fun kC=>R.bind (R.ok []) fun ly=>R.ok (kC::ly)) fun lu=>R.ok (v11::lu)) fit) fun v5=>fit (v4++v5)) fun v2=>R.bind (R.bind (lS 0 env) fun qX=>R.bind (R.bind (R.bind (aY 1 env) fun qW=>R.bind (R.ok (D.int 1)) fun qY=>R.of (hU qW qY)) Ek) fun kU=>R.bind (R.ok none) fun qV=>R.ok (cut qX kU qV)) fun v3=>fit (v2++v3)) fun v1=>R.ok (Out.ph v1))
def aP:=fg 2 2 fV
def q8(env:DE):R Bool:=
 R.ok true
def kF(env:DE):R D:=
 (R.bind (R.bind (R.bind (R.bind (aY 1 env) fun v11=>R.bind (R.ok []) fun lu=>R.ok (v11::lu)) fun v10=>R.of (oy v10)) fun v8=>R.bind (R.ok (D.int 1)) fun v9=>R.of (iD v8 v9)) fun v6=>R.bind (aY 0 env) fun v7=>R.of (iD v6 v7))
def oH(env:DE):R Out:=
 (R.bind (R.bind (R.bind (bY 0 env) fun ky=>R.bind (qK ky) fun xs=>R.ok (reverse xs)) fun v2=>R.bind (cR env [0]) fun v3=>R.bind (R.ne (bu (bN 0) q8 kF (dX 1 v3) v2)) fit) fun v1=>R.ok (Out.ph v1))
def dY:=fg 1 1 oH
def iZ(d:D)(env:DE):R Out:=
 R.bind ((bN 2) d env) fun v7=>
  (R.bind (bY 1 v7) fun v8=>R.bind (R.bind (R.ok (D.int 1)) fun v10=>R.bind (R.bind (aY 2 v7) fun lu=>R.bind (R.ok (D.int 1)) fun ky=>R.of (iD lu ky)) fun v11=>R.of (IY v10 v11)) fun v9=>CU (fun i j=>PySem.Builtin.bitOr i j) 1 v7 v8 v9)
def we(env:DE):R Out:=
 (aW (R.bind (R.ok (D.int 0)) fun v2=>R.ok (Out.nx (List.set env 1 (Sl.val v2)))) fun v1=>
 (aW (R.bind (R.bind (bY 0 v1) qK) fun v4=>dO iZ v4 v1) fun v3=>
 (R.bind (bY 1 v3) fun gz=>R.ok (Out.rt gz))))
def kG:=mS 1 3 we
def mZ(env:DE):R Out:=
 (aW (R.bind (R.bind (aY 1 env) fun v3=>R.bind (R.bind (R.bind (aY 0 env) fun v6=>R.bind (R.ok []) fun v7=>R.ok (v6::v7)) fun v5=>R.of (oy v5)) fun v4=>R.bind (R.of (J1 v3 v4)) jj) fun v2=>if v2=true then(R.bind (R.bind (lS 0 env) fun v9=>R.bind (aY 1 env) fun v10=>vm v9 v10) fun v8=>R.ok (Out.rt v8))else(R.ok (Out.nx env))) fun v1=>
 (R.bind (R.ok (D.int 0)) fun v11=>R.ok (Out.rt v11)))
def cH:=mS 2 2 mZ
def eJ(d:D)(env:DE):R Out:=
 R.bind ((bN 3) d env) fun v10=>
  (aW (R.bind (R.bind (R.bind (aY 3 v10) fun gz=>R.bind (R.ok []) fun kC=>R.ok (gz::kC)) fun ky=>R.of (CM ky)) fun lu=>R.ok (Out.nx (List.set v10 4 (Sl.val lu)))) fun v11=>
 (R.bind (R.bind (R.bind (R.bind (R.bind (lS 2 v11) fun kU=>R.bind (R.ok none) fun qV=>R.bind (R.bind (R.bind (aY 4 v11) fun qY=>R.bind (R.ok (D.int 1)) fun uo=>R.of (iD qY uo)) Ek) fun qW=>R.ok (cut kU qV qW)) fun v20=>R.bind (R.bind (R.bind (R.bind (lS 2 v11) fun Ag=>R.bind (aY 4 v11) fun v30=>vm Ag v30) fun vA=>R.bind (R.bind (R.bind (lS 2 v11) fun Fl=>R.bind (R.bind (aY 4 v11) fun Fj=>R.bind (R.ok (D.int 1)) fun Ah=>R.of (iD Fj Ah)) fun DA=>vm Fl DA) fun Fg=>R.bind (R.ok []) fun Fi=>R.ok (Fg::Fi)) fun xp=>R.ok (vA::xp)) fit) fun qX=>fit (v20++qX)) fun mm=>R.bind (R.bind (lS 2 v11) fun Fo=>R.bind (R.bind (R.bind (aY 4 v11) fun Hm=>R.bind (R.ok (D.int 1)) fun Jg=>R.of (hU Hm Jg)) Ek) fun Hl=>R.bind (R.ok none) fun Fp=>R.ok (cut Fo Hl Fp)) fun mW=>fit (mm++mW)) fun kT=>R.ok (D.lst kT)) fun ly=>R.ok (Out.nx (List.set v11 2 (Sl.val ly)))))
def pW(env:DE):R Out:=
 (aW (R.bind (R.bind (R.bind (R.bind (aY 0 env) fun v4=>R.bind (R.ok []) fun v5=>R.ok (v4::v5)) iY) fun v3=>R.ok (D.lst v3)) fun v2=>R.ok (Out.nx (List.set env 2 (Sl.val v2)))) fun v1=>
 (aW (R.bind (R.bind (bY 1 v1) qK) fun v7=>dO eJ v7 v1) fun v6=>
 (R.bind (bY 2 v6) fun Bu=>R.ok (Out.rt Bu))))
def fW:=mD 2 5 pW
def pX(env:DE):R Bool:=
 R.ok true
def jS(env:DE):R Bool:=
 (R.bind (aY 0 env) fun kC=>R.bind (R.bind (lS 1 env) fun kT=>R.bind (aY 2 env) fun mm=>vm kT mm) fun ly=>R.bind (R.of (zW kC ly)) jj)
def jT(env:DE):R D:=
 (bY 0 env)
def jU(env:DE):R D:=
 (R.bind (R.bind (R.bind (R.bind (R.bind (R.bind (R.bind (lS 1 env) fun v20=>R.bind (R.ok none) fun qX=>R.bind (R.bind (aY 0 env) Ek) fun kU=>R.ok (cut v20 qX kU)) fun mW=>R.ok (D.lst mW)) qK) fun v11=>R.bind (cR env [1,0]) fun lu=>R.bind (R.ne (bu (bN 0) jS jT (dX 1 lu) v11)) fit) fun v10=>R.ok (D.lst v10)) fun v8=>R.bind (R.ok []) fun v9=>R.ok (v8::v9)) fun v7=>R.of (oy v7))
def m7(env:DE):R Out:=
 (R.bind (R.bind (R.bind (R.bind (R.bind (R.bind (R.bind (aY 0 env) fun uo=>R.bind (R.ok []) fun vA=>R.ok (uo::vA)) fun qY=>R.of (oy qY)) fun qV=>R.bind (R.ok []) fun qW=>R.ok (qV::qW)) Il) fun v3=>R.bind (cR env [0]) fun v4=>R.bind (R.ne (bu (bN 0) pX jU (dX 1 v4) v3)) fit) fun v2=>R.of (mR v2)) fun v1=>R.ok (Out.rt v1))
def dD:=mS 1 1 m7
def pY(env:DE):R Bool:=
 (R.bind (R.bind (R.bind (R.bind (aY 0 env) fun Ft=>z6 "int" Ft) jj) fun ND=>R.ok (!ND)) fun NH=>if NH=true then R.ok true else(R.bind (R.bind (aY 0 env) fun NF=>z6 "bool" NF) jj))
def pZ(env:DE):R D:=
 (bY 0 env)
def dg(d:D)(env:DE):R Out:=
 R.bind ((bN 4) d env) fun DF=>
  (R.bind (R.bind (R.bind (aY 2 DF) fun VY=>R.bind (R.ok D.non) fun VZ=>R.bind (R.of (yz VY VZ)) jj) fun V0=>if V0=true then(R.bind (R.bind (R.bind (lS 3 DF) fun V1=>R.bind (R.bind (aY 4 DF) fun V2=>R.bind (R.ok (D.int 1)) fun V3=>R.of (iD V2 V3)) fun V4=>mU V1 V4) fun V5=>R.bind (R.bind (lS 3 DF) fun V6=>R.bind (aY 4 DF) fun V7=>mU V6 V7) fun V8=>R.bind (R.of (zW V5 V8)) jj) fun V9=>if V9=true then(R.bind (R.bind (bY 2 DF) fun N3=>R.bind (R.bind (aY 4 DF) fun N4=>R.bind (R.ok (D.int 1)) fun N5=>R.of (iD N4 N5)) fun N6=>wX N3 N6) fun N7=>R.bind (R.bind (bY 2 DF) fun N8=>R.bind (aY 4 DF) fun Wa=>wX N8 Wa) fun N9=>R.bind (R.of (J1 N7 N9)) jj)else R.ok false)else R.ok false) fun Wb=>if Wb=true then(R.bind (R.ok (D.bl false)) fun Wc=>R.ok (Out.rt Wc))else(R.ok (Out.nx DF)))
def dh(d:D)(env:DE):R Out:=
 R.bind ((bN 3) d env) fun Bu=>
  (aW (R.bind (R.bind (R.bind (R.bind (R.bind (aY 3 Bu) fun Jc=>z6 "list" Jc) jj) fun Jf=>R.ok (!Jf)) fun DD=>if DD=true then R.ok true else(R.bind (R.bind (R.bind (R.bind (bY 3 Bu) qK) fun Fq=>R.bind (cR Bu []) fun Hn=>R.bind (R.ne (bu (bN 0) pY pZ (dX 1 Hn) Fq)) fit) fun DB=>R.ok (D.lst DB)) fun Je=>R.bind (R.bind (R.bind (R.ok []) fit) fun NG=>R.ok (D.lst NG)) fun Jd=>R.bind (R.of (Bh Je Jd)) jj)) fun Ho=>if Ho=true then(R.bind (R.ok (D.bl false)) fun NQ=>R.ok (Out.rt NQ))else(R.ok (Out.nx Bu))) fun Ai=>
 (aW (R.bind (R.bind (R.bind (R.bind (R.bind (lS 3 Ai) yH) fun NN=>R.ok (D.lst NN)) fun NP=>R.bind (R.bind (R.bind (R.bind (aY 1 Ai) fun NX=>R.bind (R.ok []) fun NV=>R.ok (NX::NV)) iY) fun NW=>R.ok (D.lst NW)) fun NK=>R.bind (R.of (Bh NP NK)) jj) fun NJ=>if NJ=true then R.ok true else(R.bind (R.bind (aY 3 Ai) fun NU=>R.bind (R.bind (R.bind (R.bind (aY 1 Ai) fun NS=>R.bind (R.ok []) fun VW=>R.ok (NS::VW)) iY) fun DC=>R.ok (D.lst DC)) fun NT=>R.bind (R.of (xU NU NT)) jj) fun NR=>if NR=true then R.ok true else(R.bind (aY 3 Ai) fun VX=>R.bind (R.bind (R.bind (R.bind (aY 1 Ai) fun Rz=>R.bind (R.ok []) fun RA=>R.ok (Rz::RA)) yK) fun NZ=>R.ok (D.lst NZ)) fun NY=>R.bind (R.of (xU VX NY)) jj))) fun Lb=>if Lb=true then(R.bind (R.ok (D.bl false)) fun Wd=>R.ok (Out.rt Wd))else(R.ok (Out.nx Ai))) fun Fv=>
 (aW (R.bind (R.bind (R.bind (R.ok (D.int 1)) fun Oa=>R.bind (R.bind (aY 1 Fv) fun Ob=>R.bind (R.ok []) fun Oc=>R.ok (Ob::Oc)) fun Oe=>R.ok (Oa::Oe)) CN) fun v83=>dO dg v83 Fv) fun Tn=>
 (R.bind (bY 3 Tn) fun We=>R.ok (Out.nx (List.set Tn 2 (Sl.val We)))))))
def m8(env:DE):R Out:=
 (aW (R.bind (R.bind (R.bind (R.bind (R.bind (aY 0 env) fun v5=>z6 "tuple" v5) jj) fun v4=>R.ok (!v4)) fun v3=>if v3=true then R.ok true else(R.bind (R.bind (R.bind (R.bind (aY 0 env) fun v10=>R.bind (R.ok []) fun v11=>R.ok (v10::v11)) fun v9=>R.of (oy v9)) fun v7=>R.bind (R.ok (D.int 2)) fun v8=>R.bind (R.of (Bh v7 v8)) jj) fun v6=>if v6=true then R.ok true else(R.bind (R.bind (R.bind (R.bind (bY 0 env) fun gz=>R.bind (R.ok (D.int 1)) fun kC=>wX gz kC) fun ky=>z6 "list" ky) jj) fun lu=>R.ok (!lu)))) fun v2=>if v2=true then(R.bind (R.ok (D.bl false)) fun ly=>R.ok (Out.rt ly))else(R.ok (Out.nx env))) fun v1=>
 (aW (R.bind (R.bind (R.bind (R.bind (R.bind (R.bind (bY 0 v1) fun kU=>R.bind (R.ok (D.int 0)) fun qV=>wX kU qV) fun qX=>z6 "int" qX) jj) fun v20=>R.ok (!v20)) fun mW=>if mW=true then R.ok true else(R.bind (R.bind (R.bind (R.bind (bY 0 v1) fun uo=>R.bind (R.ok (D.int 0)) fun vA=>wX uo vA) fun qY=>z6 "bool" qY) jj) fun qW=>if qW=true then R.ok true else(R.bind (R.bind (aY 1 v1) fun Ag=>R.bind (R.ok (D.int 1)) fun v30=>R.bind (R.of (xU Ag v30)) jj) fun xp=>if xp=true then(R.bind (R.bind (bY 0 v1) fun Fl=>R.bind (R.ok (D.int 0)) fun DA=>wX Fl DA) fun Fg=>R.bind (R.ok (D.int 0)) fun Fi=>R.bind (R.of (Bh Fg Fi)) jj)else R.ok false))) fun mm=>if mm=true then(R.bind (R.ok (D.bl false)) fun Fj=>R.ok (Out.rt Fj))else(R.ok (Out.nx v1))) fun kT=>
 (aW (R.bind (R.ok D.non) fun Fo=>R.ok (Out.nx (List.set kT 2 (Sl.val Fo)))) fun Ah=>
 (aW (R.bind (R.bind (R.bind (bY 0 Ah) fun Wf=>R.bind (R.ok (D.int 1)) fun Wg=>wX Wf Wg) qK) fun Fp=>dO dh Fp Ah) fun Hl=>
 (R.bind (R.ok (D.bl true)) fun Wh=>R.ok (Out.rt Wh))))))
def dE:=mS 2 5 m8
def yQ(env:DE):R Out:=
 (R.bind (R.bind (R.bind (R.bind (R.bind (R.bind (bY 0 env) fun v5=>R.bind (R.ok []) fun v6=>R.ok (v5::v6)) bM) fun v4=>R.ok (D.lst v4)) fun v2=>R.bind (R.ok []) fun v3=>R.ok (v2::v3)) nV) fun v1=>R.ok (Out.ph v1))
def p4:=fg 1 1 yQ
def gD(env:DE):R Out:=
 (R.bind (R.bind (R.bind (R.bind (R.bind (R.bind (R.bind (R.bind (R.bind (bY 0 env) fun v8=>R.bind (R.ok []) fun v9=>R.ok (v8::v9)) bM) fun v7=>R.ok (D.lst v7)) fun v5=>R.bind (R.bind (bY 1 env) fun v10=>R.bind (R.ok []) fun v11=>R.ok (v10::v11)) fun v6=>R.ok (v5::v6)) aP) fun v4=>R.ok (D.lst v4)) fun v2=>R.bind (R.ok []) fun v3=>R.ok (v2::v3)) bM) fun v1=>R.ok (Out.ph v1))
def bV:=fg 2 2 gD
def jV(d:D)(env:DE):R Out:=
 R.bind ((bN 3) d env) fun v9=>
  (aW (R.bind (R.bind (aY 3 v9) fun lu=>R.bind (R.ok (D.int 0)) fun ky=>R.bind (R.of (J1 lu ky)) jj) fun v11=>if v11=true then(R.bad:R Out)else(R.ok (Out.nx v9))) fun v10=>
 (aW (R.bind (R.bind (R.bind (lS 2 v10) fun mm=>R.bind (R.bind (aY 3 v10) fun v20=>R.bind (R.ok (D.int 1)) fun qX=>R.of (iD v20 qX)) fun mW=>vm mm mW) fun ly=>R.bind (R.bind (lS 2 v10) fun kU=>R.bind (aY 3 v10) fun qV=>vm kU qV) fun kT=>R.bind (R.of (zW ly kT)) jj) fun kC=>if kC=true then(R.bad:R Out)else(R.ok (Out.nx v10))) fun gz=>
 (R.bind (R.bind (R.bind (aY 2 gz) fun qY=>R.bind (R.bind (aY 3 gz) fun vA=>R.bind (R.ok []) fun xp=>R.ok (vA::xp)) fun uo=>R.ok (qY::uo)) aP) fun qW=>R.ok (Out.nx (List.set gz 2 (Sl.own qW))))))
def yR(env:DE):R Out:=
 (aW (R.bind (R.bind (R.bind (bY 0 env) fun v3=>R.bind (R.ok []) fun v4=>R.ok (v3::v4)) cA) fun v2=>R.ok (Out.nx (List.set env 2 (Sl.own v2)))) fun v1=>
 (aW (R.bind (R.bind (bY 1 v1) qK) fun v6=>dO jV v6 v1) fun v5=>
 (R.bind (ownAt 2 v5) fun Ag=>R.ok (Out.ph Ag))))
def kH:=fg 2 4 yR
def Am(env:DE):R Bool:=
 R.ok true
def uw(env:DE):R D:=
 (R.bind (R.bind (R.bind (R.bind (aY 1 env) fun v11=>R.bind (R.ok []) fun lu=>R.ok (v11::lu)) fun v10=>R.of (oy v10)) fun v8=>R.bind (R.ok (D.int 1)) fun v9=>R.of (iD v8 v9)) fun v6=>R.bind (aY 0 env) fun v7=>R.of (iD v6 v7))
def By(env:DE):R Out:=
 (R.bind (R.bind (R.bind (R.bind (R.bind (R.bind (bY 0 env) fun gz=>R.bind (R.ok []) fun kC=>R.ok (gz::kC)) bM) fun ky=>R.ok (D.lst ky)) qK) fun v2=>R.bind (cR env [0]) fun v3=>R.bind (R.ne (bu (bN 0) Am uw (dX 1 v3) v2)) fit) fun v1=>R.ok (Out.ph v1))
def p6:=fg 1 1 By
def m9(d:D)(env:DE):R Out:=
 R.bind ((bN 5) d env) fun ky=>
  (aW (R.bind (R.bind (R.bind (aY 5 ky) fun kT=>R.bind (R.ok []) fun mm=>R.ok (kT::mm)) fun ly=>R.of (CM ly)) fun kC=>R.ok (Out.nx (List.set ky 6 (Sl.val kC)))) fun gz=>
 (aW (R.bind (R.bind (R.bind (R.bind (R.bind (aY 2 gz) fun qY=>R.bind (R.ok []) fun uo=>R.ok (qY::uo)) fun qW=>R.of (oy qW)) fun kU=>R.bind (R.ok (D.int 0)) fun qV=>R.bind (R.of (xU kU qV)) jj) fun qX=>if qX=true then R.ok true else(R.bind (R.bind (aY 4 gz) fun xp=>R.bind (R.bind (aY 5 gz) fun v30=>R.bind (R.ok (D.int 0)) fun Fg=>R.of (zW v30 Fg)) fun Ag=>R.bind (R.of (Bh xp Ag)) jj) fun vA=>if vA=true then R.ok true else(R.bind (R.bind (lS 3 gz) fun DA=>R.bind (R.bind (aY 6 gz) fun Ah=>R.bind (R.ok (D.int 1)) fun Fo=>R.of (iD Ah Fo)) fun Fj=>vm DA Fj) fun Fi=>R.bind (R.bind (lS 3 gz) fun Hl=>R.bind (aY 6 gz) fun Fp=>vm Hl Fp) fun Fl=>R.bind (R.of (zW Fi Fl)) jj))) fun v20=>if v20=true then(aW (R.bind (fj 2 gz) fun Jg=>R.bind (R.bind (R.ok []) fit) fun Bu=>R.bind (R.of (Bo Bu)) fun Ai=>Ff 2 gz Jg Ai) fun Hm=>
 (aW (R.bind (R.bind (R.bind (bY 0 Hm) fun Jf=>R.bind (R.ok []) fun Jc=>R.ok (Jf::Jc)) cA) fun DD=>R.ok (Out.nx (List.set Hm 3 (Sl.own DD)))) fun Ho=>
 (R.bind (R.bind (aY 5 Ho) fun Jd=>R.bind (R.ok (D.int 0)) fun DB=>R.of (zW Jd DB)) fun Je=>R.ok (Out.nx (List.set Ho 4 (Sl.val Je))))))else(R.ok (Out.nx gz))) fun mW=>
 (aW (R.bind (fj 2 mW) fun Hn=>R.bind (R.bind (R.ok (D.int 1)) fun ND=>R.of (qL ND)) fun NI=>R.bind (yJ Hn NI) fun Ry=>R.bind (aY 5 mW) fun NH=>Af 2 mW Hn Ry NH) fun Fq=>
 (aW (R.bind (R.bind (lS 3 Fq) fun NG=>R.bind (aY 6 Fq) fun NQ=>vm NG NQ) fun NF=>R.ok (Out.nx (List.set Fq 7 (Sl.val NF)))) fun Ft=>
 (aW (R.bind (R.bind (lS 3 Ft) fun NK=>R.bind (R.bind (aY 6 Ft) fun NW=>R.bind (R.ok (D.int 1)) fun NX=>R.of (iD NW NX)) fun NN=>vm NK NN) fun Lb=>R.bind (ownAt 3 Ft) fun NJ=>R.bind (aY 6 Ft) fun NP=>yE 3 Ft Lb NJ NP) fun Fv=>
 (R.bind (bY 7 Fv) fun NV=>R.bind (ownAt 3 Fv) fun NR=>R.bind (R.bind (aY 6 Fv) fun NT=>R.bind (R.ok (D.int 1)) fun DC=>R.of (iD NT DC)) fun NU=>yE 3 Fv NV NR NU))))))
def Lc(env:DE):R Out:=
 (aW (R.bind (R.ok ([]:List (List Int))) fun v2=>(R.bind (fit v2) fun y=>R.ok (Out.nx (List.set env 2 (Sl.deep (Ct.ls y)))))) fun v1=>
 (aW (R.bind (R.bind (R.bind (bY 0 v1) fun v5=>R.bind (R.ok []) fun v6=>R.ok (v5::v6)) cA) fun v4=>R.ok (Out.nx (List.set v1 3 (Sl.own v4)))) fun v3=>
 (aW (R.bind (R.ok (D.bl false)) fun v8=>R.ok (Out.nx (List.set v3 4 (Sl.val v8)))) fun v7=>
 (aW (R.bind (R.bind (bY 1 v7) qK) fun v10=>dO m9 v10 v7) fun v9=>
 (R.bind (fj 2 v9) fun NS=>R.ok (Out.Ba NS))))))
def yS:=mT 2 8 Lc
def oJ(env:DE):R Out:=
 (aW (R.bind (R.bind (R.bind (aY 0 env) fun v5=>R.bind (R.ok (D.int 2)) fun v6=>R.of (oZ v5 v6)) fun v3=>R.bind (R.ok (D.int 0)) fun v4=>R.bind (R.of (xU v3 v4)) jj) fun v2=>if v2=true then(R.bind (lS 1 env) fun v7=>R.ok (Out.ph v7))else(R.ok (Out.nx env))) fun v1=>
 (R.bind (R.bind (R.bind (bY 1 v1) fun v9=>R.bind (R.ok []) fun v10=>R.ok (v9::v10)) dY) fun v8=>R.ok (Out.ph v8)))
def dZ:=fg 2 2 oJ
def oK(env:DE):R Out:=
 (R.bind (R.bind (R.bind (R.bind (R.bind (R.ok (D.int 1)) fun v4=>R.of (qL v4)) fun v2=>R.bind (R.bind (R.bind (R.bind (R.bind (bY 0 env) fun v8=>R.bind (R.ok []) fun v9=>R.ok (v8::v9)) p6) fun v7=>R.ok (D.lst v7)) fun v5=>R.bind (R.ok []) fun v6=>R.ok (v5::v6)) fun v3=>R.ok (v2::v3)) fit) fun ds=>R.ok (D.tup ds)) fun v1=>R.ok (Out.rt v1))
def gV:=mD 1 1 oK
def cJ(d:D)(env:DE):R Out:=
 R.bind ((bN 3) d env) fun v9=>
  (aW (R.bind (fj 1 v9) fun v11=>R.bind (R.bind (R.bind (bY 2 v9) fun gz=>R.bind (R.bind (R.bind (bY 3 v9) fun mm=>R.bind (R.ok (D.int 1)) fun mW=>wX mm mW) fun ly=>R.bind (R.ok []) fun kT=>R.ok (ly::kT)) fun kC=>R.ok (gz::kC)) dZ) fun lu=>R.bind (R.of (Bo lu)) fun ky=>Ff 1 v9 v11 ky) fun v10=>
 (R.bind (bY 2 v10) fun v20=>R.bind (R.bind (bY 3 v10) fun kU=>R.bind (R.ok (D.int 0)) fun qV=>wX kU qV) fun qX=>CU (fun i j=>i+j) 2 v10 v20 qX))
def ie(env:DE):R Out:=
 (aW (R.bind (R.ok ([]:List (List Int))) fun v2=>(R.bind (fit v2) fun y=>R.ok (Out.nx (List.set env 1 (Sl.deep (Ct.ls y)))))) fun v1=>
 (aW (R.bind (R.ok (D.int 0)) fun v4=>R.ok (Out.nx (List.set v1 2 (Sl.val v4)))) fun v3=>
 (aW (R.bind (R.bind (bY 0 v3) fun qW=>R.bind (qK qW) fun xs=>R.ok (reverse xs)) fun v6=>dO cJ v6 v3) fun v5=>
 (aW (R.bind (fj 1 v5) fun uo=>R.ok (Out.nx (List.set v5 1 (Sl.deep (Ct.ls (reverse uo)))))) fun qY=>
 (R.bind (fj 1 qY) fun vA=>R.ok (Out.Ba vA))))))
def aS:=mT 1 4 ie
def wg(env:DE):R Out:=
 (aW (R.bind (R.bind (R.bind (lS 1 env) fun v5=>R.bind (R.ok (D.int 0)) fun v6=>vm v5 v6) fun v3=>R.bind (R.ok (D.int 0)) fun v4=>R.bind (R.of (zW v3 v4)) jj) fun v2=>if v2=true then(R.bind (R.bind (R.bind (R.bind (R.ok (D.int 0)) fun v8=>R.bind (R.bind (R.bind (R.bind (R.bind (bY 0 env) fun ky=>R.bind (R.bind (bY 1 env) fun kC=>R.bind (R.ok []) fun ly=>R.ok (kC::ly)) fun gz=>R.ok (ky::gz)) kH) fun lu=>R.ok (D.lst lu)) fun v10=>R.bind (R.ok []) fun v11=>R.ok (v10::v11)) fun v9=>R.ok (v8::v9)) fit) fun ds=>R.ok (D.tup ds)) fun v7=>R.ok (Out.rt v7))else(R.ok (Out.nx env))) fun v1=>
 (R.bind (R.bind (R.bind (R.bind (R.bind (R.bind (bY 0 v1) fun qX=>R.bind (R.bind (R.bind (R.bind (R.bind (bY 1 v1) fun uo=>R.bind (R.ok []) fun vA=>R.ok (uo::vA)) mY) fun qY=>R.ok (D.lst qY)) fun qV=>R.bind (R.ok []) fun qW=>R.ok (qV::qW)) fun kU=>R.ok (qX::kU)) kH) fun v20=>R.ok (D.lst v20)) fun mm=>R.bind (R.ok []) fun mW=>R.ok (mm::mW)) gV) fun kT=>R.ok (Out.rt kT)))
def kI:=mD 2 2 wg
def nc(env:DE):R Bool:=
 R.ok true
def jo(env:DE):R D:=
 (R.bind (R.bind (aY 1 env) fun Ag=>R.bind (R.bind (aY 0 env) fun Fg=>R.bind (R.bind (R.ok (D.int 16807)) fun Fl=>R.bind (R.ok []) fun DA=>R.ok (Fl::DA)) fun Fi=>R.ok (Fg::Fi)) fun v30=>R.ok (Ag::v30)) fq)
def rQ(env:DE):R Out:=
 (aW (R.bind (R.bind (R.bind (R.bind (R.bind (R.bind (lS 0 env) fun v7=>R.bind (R.ok none) fun v8=>R.bind (R.bind (R.ok (D.int 63)) Ek) fun v9=>R.ok (cut v7 v8 v9)) fun v6=>R.ok (D.lst v6)) fun v4=>R.bind (R.bind (bY 1 env) fun v10=>R.bind (R.bind (R.ok (D.int 189)) fun lu=>R.bind (R.ok []) fun ky=>R.ok (lu::ky)) fun v11=>R.ok (v10::v11)) fun v5=>R.ok (v4::v5)) fU) fun v3=>R.ok (D.lst v3)) fun v2=>R.ok (Out.nx (List.set env 3 (Sl.val v2)))) fun v1=>
 (aW (R.bind (R.bind (R.bind (R.bind (aY 3 v1) fun mW=>R.bind (R.ok []) fun v20=>R.ok (mW::v20)) fun mm=>R.of (oy mm)) fun ly=>R.bind (aY 2 v1) fun kT=>R.bind (R.of (Te ly kT)) jj) fun kC=>if kC=true then(R.bind (bY 3 v1) fun qX=>R.ok (Out.rt qX))else(R.ok (Out.nx v1))) fun gz=>
 (aW (R.bind (R.bind (R.bind (R.bind (bY 0 gz) fun Fj=>R.bind (qK Fj) fun xs=>R.ok (dB xs)) fun qY=>R.bind (cR gz []) fun uo=>R.bind (R.ne (bu (bT 2 (jP (bN 0) (jP (bN 1) xm))) nc jo (dX 2 uo) qY)) fit) fun qW=>R.of (mR qW)) fun qV=>R.ok (Out.nx (List.set gz 4 (Sl.val qV)))) fun kU=>
 (aW (R.bind (R.bind (aY 4 kU) fun Hl=>R.bind (R.bind (R.bind (R.bind (R.bind (aY 3 kU) fun DD=>R.bind (R.ok []) fun Jf=>R.ok (DD::Jf)) fun Ho=>R.of (oy Ho)) fun Bu=>R.bind (aY 2 kU) fun Ai=>R.of (iD Bu Ai)) fun Hm=>R.bind (R.ok (D.int 1)) fun Jg=>R.of (hU Hm Jg)) fun Fp=>R.of (oZ Hl Fp)) fun Fo=>R.ok (Out.nx (List.set kU 5 (Sl.val Fo)))) fun Ah=>
 (R.bind (R.bind (R.bind (lS 3 Ah) fun Jd=>R.bind (R.bind (aY 5 Ah) Ek) fun DB=>R.bind (R.bind (R.bind (aY 5 Ah) fun Hn=>R.bind (aY 2 Ah) fun NI=>R.of (hU Hn NI)) Ek) fun Fq=>R.ok (cut Jd DB Fq)) fun Je=>R.ok (D.lst Je)) fun Jc=>R.ok (Out.rt Jc))))))
def ig:=mD 3 6 rQ
def fu(env:DE):R Bool:=
 R.ok true
def bR(env:DE):R D:=
 (R.bind (R.bind (bY 1 env) fun v7=>R.bind (R.bind (bY 0 env) fun v9=>R.bind (R.ok []) fun v10=>R.ok (v9::v10)) fun v8=>R.ok (v7::v8)) kI)
def lV(env:DE):R Out:=
 (R.bind (R.bind (R.bind (R.bind (R.ne (R.bind (R.bind (aY 0 env) fun lu=>R.bind (R.bind (R.bind (R.bind (R.bind (bY 1 env) fun kT=>R.bind (R.ok []) fun mm=>R.ok (kT::mm)) kE) fun ly=>R.ok (D.lst ly)) fun gz=>R.bind (R.ok []) fun kC=>R.ok (gz::kC)) fun ky=>R.ok (lu::ky)) yS)) fun v11=>R.ok (map (fun ns=>D.lst (map D.int ns)) v11)) fun v3=>R.bind (cR env [0]) fun v4=>R.bind (R.ne (bu (bN 0) fu bR (dX 1 v4) v3)) fit) fun v2=>R.ok (D.lst v2)) fun v1=>R.ok (Out.rt v1))
def cT:=mD 2 2 lV
section
variable{X:Cx}
theorem FJ{A:Around}{E:Value->Shared->Prop}{s:Shared}{d:Addr}{xs:List (List Key×Addr×Value)}{Q:Value->Shared->Prop}(hd:(d==sysModules)=false)
  (m:Heap.DictOfH (tupleKind (cC X.prog X.w)) s.heap d xs)(z:xs.length<=sizeLine)(q:Q (.int xs.length (s.toks+1)) {s with toks:=s.toks+1+1}):wpAny (model X.prog X.w) A (call (.builtin "len") [.ref d]) Q E s:=by
 have z':xs.length<=16777216:=z
 have inner:∀A,wpAny (model X.prog X.w) A (call (.builtin "dict.__len__") [.ref d]) (fun r s'=>r=.int xs.length s.toks/\s'={s with toks:=s.toks+1}) E s:=fun A=>by
  refine call_meetsIn (S:=fun _ R s'=>s'=s/\R (.ok (.ret (.int xs.length s.toks))) {s with toks:=s.toks+1}) slot_dict_len m.typeIs PySem.F.entry_dict_len (PySem.F.args_dict_len_1 _) (.of_wp fun A R s' h=>?_) ⟨rfl,rfl,rfl⟩
  obtain⟨rfl,h⟩:=h
  obtain⟨o,es,ep,h1,h2,h3,h4,_⟩:=m
  show wpAny _ _ (dictSize d>>=fun n=>_) _ _ _
  unfold dictSize
  refine wpAny_bind (wpAny_bind (wpAny_dictEntries h1 h3 (wpAny_pure (wpAny_bind (wpAny_pendingCount_other hd (wpAny_ret_mkInt ?_))))))
  rw[size_of_entries h4]
  exact h
 refine Calls.call_function_entry kind_len plain_len entry_len (args_len1 _) ?_
 unfold Builtin.«len»
 refine wpAny_bind (wpAny_pure (wpAny_bind (wpAny_callSpecial?_slot (name:=Str.ofString "__len__") m.typeIs slot_dict_len (bD (inner _) fun r s' h=>?_))))
 obtain⟨rfl,rfl⟩:=h
 refine wpAny_bind (wpAny_holding (wpAny_pure (wpAny_bind (wpAny_letGo ?_))))
 show wpAny _ _ (if((xs.length:Nat):Int)<0 then _ else _) _ _ _
 rw[if_neg (by omega)]
 show wpAny _ _ (if 2^63<=((xs.length:Nat):Int)then _ else _) _ _ _
 rw[if_neg (by omega)]
 exact wpAny_bind (wpAny_mkInt (wpAny_pure ⟨_,rfl,q⟩))
theorem C1:oB X (.builtin "len") (fun xs H Q=>∃a kvs,xs=[V.ref a]/\H a=some (.dT kvs)/\Q (.int kvs.length) H):=by
 intro pins s σ H xs us Q I r h
 obtain⟨a,kvs,rfl,ha,q⟩:=h
 obtain⟨u,rfl,ru⟩:=vals1 r
 cases ru
 obtain⟨z,hd,ys,rel,dd⟩:=tR I.hok (.inl ha)
 have e:kvs.length=ys.length:=Paired.length rel
 exact FJ hd dd (by omega) ⟨.int kvs.length,H,I.tok _,⟨_,by rw[e]⟩,q⟩
theorem Jh:S8 X "int.bit_length" (fun x vs H Q=>∃i,x=.int i/\vs=[]/\Q (.int (Builtin.Int.intBits i)) H):=by
 intro pins s σ H x xs v us Q I r rs h
 obtain⟨i,rfl,rfl,q⟩:=h
 obtain⟨t,rfl⟩:=r
 have e:=rs.zero
 subst e
 exact call_int_bit_length ⟨.int _,H,I.tok _,⟨_,rfl⟩,q⟩
end
theorem R.gF {α:Type}(a:α):(R.ok a).ne=.ok a:=rfl
theorem gG{b:D->DE->R DE}{ct:DE->R Bool}{fe:DE->R D}{e₀:DE}(g:Int->Int)(w:List Int)(h:∀k∈w,∃e,b (.int k) e₀=.ok e/\ct e=.ok true/\fe e=.ok (.int (g k))):bu b ct fe e₀ (aA w)=.ok (aA (w.map g)):=by
 rw[nT (fun d=>match d with
  |.int k=>.int (g k)
  |_=>.non) _ fun x hx=>by
   obtain⟨k,hk,rfl⟩:=mem_map.mp hx
   exact h k hk]
 unfold aA
 rw[map_map,map_map]
 rfl
def upTo(n:Nat):List Int:=(range n).map fun i=>((i:Nat):Int)
theorem ar(n:Nat):(upTo n).length=n:=by simp[upTo]
theorem ng(n j:Nat)(h:j<n):(upTo n)[j]?=some (j:Int):=by simp[upTo,h]
theorem mem_upTo{n:Nat}{x:Int}:x∈upTo n↔0<=x/\x<n:=by
 simp -implicitDefEqProofs only [upTo,mem_map,mem_range]
 constructor
 ·rintro⟨i,h,rfl⟩;omega
 ·rintro⟨h1,h2⟩;exact⟨x.toNat,by omega,by omega⟩
theorem kJ(n:Nat):mh 0 n=aA (upTo n):=by
 rw[sP];congr 1;simp[upTo]
theorem yT(n:Nat):(upTo n).Pairwise (·<=·):=by
 unfold upTo
 rw[pairwise_map]
 exact List.pairwise_lt_range.imp fun h=>by omega
theorem ux(n:Nat):(upTo n).Nodup:=by
 unfold upTo
 unfold Nodup
 rw[pairwise_map]
 exact List.pairwise_lt_range.imp fun h=>by omega
def bw(n:Nat)(r:List Int):Prop:=r.Perm (upTo n)
theorem bw.len {n:Nat}{r:List Int}(h:bw n r):r.length=n:=by rw[h.length_eq,ar]
theorem bw.nd {n:Nat}{r:List Int}(h:bw n r):r.Nodup:=h.nodup_iff.mpr (ux n)
theorem bw.mem {n:Nat}{r:List Int}(h:bw n r){x:Int}:x∈r↔0<=x/\x<n:=h.mem_iff.trans mem_upTo
theorem bw.get {n:Nat}{r:List Int}(h:bw n r){j:Nat}{x:Int}(e:r[j]?=some x):0<=x/\x<n:=h.mem.mp (mem_of_getElem? e)
theorem FN{n:Nat}{r:List Int}(h:bw n r):sortI r=upTo n:=(yI h.symm (yT n)).symm
def aa(ns:List Int)(k:Nat):Int:=(ns[k]?).getD 0
theorem cK{l:List Int}{j:Nat}(h:j<l.length):l[j]?=some (aa l j):=by
 unfold aa
 rw[getElem?_eq_getElem h]
 rfl
theorem bK{a b:List Int}(hl:a.length=b.length)(h:∀j,j<a.length->aa a j=aa b j):a=b:=by
 refine List.ext_getElem? fun j=>?_
 by_cases hj:j<a.length
 ·rw[cK hj,cK (hl▸hj),h j hj]
 ·rw[getElem?_eq_none (by omega),getElem?_eq_none (by omega)]
theorem aI{n j:Nat}(h:j<n):aa (upTo n) j=j:=by unfold aa;rw[ng n j h];rfl
theorem uy{l:List Int}{j i:Nat}{x:Int}(h:j<l.length):aa (l.set i x) j=if i=j then x else aa l j:=by
 unfold aa
 rw[List.getElem?_set]
 split
 ·subst_vars
  rw[if_pos h]
  rfl
 ·rfl
def fJ:List Int->Nat->List Int
 |x::y::l,0=>y::x::l
 |x::l,a+1=>x::fJ l a
 |l,_=>l
theorem rR(x:Int)(l:List Int)(a:Nat):fJ (x::l) (a+1)=x::fJ l a:=by cases l<;>rfl
theorem fX:∀(l:List Int)(a:Nat),(fJ l a).length=l.length
 |[],a=>by cases a<;>rfl
 |[x],0=>rfl
 |x::y::l,0=>rfl
 |x::l,a+1=>by rw[rR,length_cons,length_cons,fX l a]
theorem kK:∀(l:List Int)(a:Nat),a+1<l.length->∀j,aa (fJ l a) j=if j=a then aa l (a+1)else if j=a+1 then aa l a else aa l j
 |[],a,h,j=>by simp at h
 |[x],a,h,j=>by simp at h
 |x::y::l,0,h,j=>by
  match j with
  |0=>rfl
  |1=>rfl
  |j+2=>rw[if_neg (by omega),if_neg (by omega)];rfl
 |x::y::l,a+1,h,j=>by
  rw[rR]
  match j with
  |0=>rw[if_neg (by omega),if_neg (by omega)];rfl
  |j+1=>
   show aa (fJ (y::l) a) j=if j+1=a+1 then aa (y::l) (a+1)else if j+1=a+1+1 then aa (y::l) a else aa (y::l) j
   rw[kK (y::l) a (by simpa using h) j]
   repeat' split
   all_goals first|rfl|omega
theorem xr:∀(l:List Int)(a:Nat),a+1<l.length->l.take a++[aa l (a+1),aa l a]++l.drop (a+2)=fJ l a
 |[],a,h=>by simp at h
 |[x],a,h=>by simp at h
 |x::y::l,0,h=>rfl
 |x::y::l,a+1,h=>by
  rw[rR,<-xr (y::l) a (by simpa using h)]
  rfl
def sg(a:Nat)(x:Int):Int:=if x=a then(a:Int)+1 else if x=(a:Int)+1 then a else x
def zB(r:List Int)(a:Nat):List Int:=r.map (sg a)
theorem Ji(r:List Int)(a:Nat):(zB r a).length=r.length:=length_map _
theorem ed{r:List Int}{a p:Nat}(h:p<r.length):aa (zB r a) p=sg a (aa r p):=by
 have:=cK h
 unfold zB
 conv=>lhs;unfold aa
 rw[getElem?_map,this]
 rfl
structure Iv(n:Nat)(r s:List Int):Prop where
 lr:r.length=n
 ls:s.length=n
 rs:∀p,p<n->0<=aa r p/\aa r p<n/\aa s (aa r p).toNat=p
 sr:∀v,v<n->0<=aa s v/\aa s v<n/\aa r (aa s v).toNat=v
theorem Iv.symm {n:Nat}{r s:List Int}(h:Iv n r s):Iv n s r:=⟨h.ls,h.lr,h.sr,h.rs⟩
theorem Iv.step {n:Nat}{r s:List Int}(h:Iv n r s){a:Nat}(ha:a+1<n):Iv n (zB r a) (fJ s a):=by
 refine⟨by rw[Ji,h.lr],by rw[fX,h.ls],fun p hp=>?_,fun v hv=>?_⟩
 ·obtain⟨h1,h2,h3⟩:=h.rs p hp
  rw[ed (h.lr.symm▸hp),kK _ _ (h.ls.symm▸ha)]
  generalize aa r p=v at h1 h2 h3
  unfold sg
  by_cases e1:v=a
  ·rw[if_pos e1]
   refine⟨by omega,by omega,?_⟩
   rw[if_neg (by omega),if_pos (by omega),<-h3,show v.toNat=a by omega]
  ·rw[if_neg e1]
   by_cases e2:v=(a:Int)+1
   ·rw[if_pos e2]
    refine⟨by omega,by omega,?_⟩
    rw[if_pos (by omega),<-h3,show v.toNat=a+1 by omega]
   ·rw[if_neg e2]
    refine⟨h1,h2,?_⟩
    rw[if_neg (by omega),if_neg (by omega),h3]
 ·rw[kK _ _ (h.ls.symm▸ha)]
  by_cases e1:v=a
  ·obtain⟨h1,h2,h3⟩:=h.sr (a+1) ha
   rw[if_pos e1]
   refine⟨h1,h2,?_⟩
   rw[ed (by rw[h.lr];omega),h3]
   unfold sg
   rw[if_neg (by omega),if_pos (by omega),e1]
  ·rw[if_neg e1]
   by_cases e2:v=a+1
   ·obtain⟨h1,h2,h3⟩:=h.sr a (by omega)
    rw[if_pos e2]
    refine⟨h1,h2,?_⟩
    rw[ed (by rw[h.lr];omega),h3]
    unfold sg
    rw[if_pos rfl,e2]
    omega
   ·obtain⟨h1,h2,h3⟩:=h.sr v hv
    rw[if_neg e2]
    refine⟨h1,h2,?_⟩
    rw[ed (by rw[h.lr];omega),h3]
    unfold sg
    rw[if_neg (by omega),if_neg (by omega)]
theorem Iv.DG {n:Nat}{r s:List Int}(h:Iv n r s){v w:Nat}(hv:v<n)(hw:w<n)(e:aa s v=aa s w):v=w:=by
 have h1:=(h.sr v hv).2.2
 have h2:=(h.sr w hw).2.2
 rw[e]at h1
 omega
theorem Og{n:Nat}{r:List Int}(h:bw n r):∃s,Iv n r s:=by
 have hc:∀v,v<n->aa ((upTo n).map fun v=>((r.idxOf v:Nat):Int)) v=(r.idxOf ((v:Nat):Int):Nat):=fun v hv=>by
  unfold aa
  rw[getElem?_map,ng n v hv]
  rfl
 refine⟨(upTo n).map fun v=>((r.idxOf v:Nat):Int),h.len,by rw[length_map,ar],fun p hp=>?_,fun v hv=>?_⟩
 ·have Kb:p<r.length:=by rw[h.len];exact hp
  have hg:=h.get (cK Kb)
  refine⟨hg.1,hg.2,?_⟩
  rw[hc _ (by omega),show(((aa r p).toNat:Nat):Int)=aa r p by omega]
  have e:aa r p=r[p]:=by
   have:=cK Kb
   rw[getElem?_eq_getElem Kb]at this
   exact(Option.some.inj this).symm
  rw[e,h.nd.idxOf_getElem p Kb]
 ·have hm:(v:Int)∈r:=h.mem.mpr (by omega)
  have hl:=List.idxOf_lt_length_of_mem hm
  rw[hc v hv]
  have IQ:=hl
  rw[h.len]at IQ
  refine⟨by omega,by omega,?_⟩
  rw[toNat_natCast]
  have:=cK hl
  rw[getElem?_eq_getElem hl,getElem_idxOf hl]at this
  exact(Option.some.inj this).symm
theorem Iv.idx {n:Nat}{r s:List Int}(h:Iv n r s){v:Nat}(hv:v<n):(v:Int)∈r/\((r.idxOf (v:Int):Nat):Int)=aa s v:=by
 obtain⟨h1,h2,h3⟩:=h.sr v hv
 have hm:(v:Int)∈r:=by
  have:=cK (l:=r) (j:=(aa s v).toNat) (by rw[h.lr];omega)
  rw[h3]at this
  exact mem_of_getElem? this
 refine⟨hm,?_⟩
 have hl:=List.idxOf_lt_length_of_mem hm
 have:=cK hl
 rw[getElem?_eq_getElem hl,getElem_idxOf hl]at this
 have e:=Option.some.inj this
 have IQ:=hl
 rw[h.lr]at IQ
 have h4:=(h.rs _ IQ).2.2
 rw[<-e,toNat_natCast]at h4
 exact h4.symm
def xV(l:List Int):List Int:=((range (l.length-1)).map fun i=>1+((i:Nat):Int)).filter fun k=>decide (aa l k.toNat<aa l (k-1).toNat)
theorem p7{l:List Int}{k:Int}:k∈xV l↔∃a:Nat,k=(a:Int)+1/\a+1<l.length/\aa l (a+1)<aa l a:=by
 unfold xV
 rw[mem_filter,mem_map]
 constructor
 ·rintro⟨⟨i,hi,rfl⟩,h⟩
  rw[mem_range]at hi
  rw[decide_eq_true_eq,show(1+(i:Int)).toNat=i+1 by omega,show(1+(i:Int)-1).toNat=i by omega]at h
  exact⟨i,by omega,by omega,h⟩
 ·rintro⟨a,rfl,h1,h2⟩
  refine⟨⟨a,mem_range.mpr (by omega),by omega⟩,?_⟩
  rw[decide_eq_true_eq,show((a:Int)+1).toNat=a+1 by omega,show((a:Int)+1-1).toNat=a by omega]
  exact h2
theorem Jj(l:List Int):(xV l).length<=l.length:=by
 have h:=List.length_filter_le (fun k=>decide (aa l k.toNat<aa l (k-1).toNat)) ((range (l.length-1)).map fun i=>1+((i:Nat):Int))
 unfold xV
 rw[length_map,length_range]at h
 omega
theorem Jk{n:Nat}{r s:List Int}(h:Iv n r s)(hd:∀a,a+1<n->¬aa s (a+1)<aa s a):r=upTo n:=by
 have hlt:∀a,a+1<n->aa s a<aa s (a+1):=fun a ha=>by
  have h1:=hd a ha
  have h2:aa s a≠aa s (a+1):=fun z=>by
   have:=h.DG (by omega) ha z
   omega
  omega
 have hge:∀a,a<n->(a:Int)<=aa s a:=fun a=>by
  induction a with
  |zero=>intro ha;exact(h.sr 0 ha).1
  |succ a ih=>
   intro ha
   have h1:=ih (by omega)
   have h2:=hlt a ha
   omega
 have hle:∀d a,a+d+1=n->aa s a<=a:=fun d=>by
  induction d with
  |zero=>
   intro a ha
   have:=(h.sr a (by omega)).2.1
   omega
  |succ d ih=>
   intro a ha
   have h1:=ih (a+1) (by omega)
   have h2:=hlt a (by omega)
   omega
 have hs:∀a,a<n->aa s a=a:=fun a ha=>by
  have h1:=hge a ha
  have h2:=hle (n-1-a) a (by omega)
  omega
 refine bK (by rw[h.lr,ar]) fun p hp=>?_
 rw[h.lr]at hp
 obtain⟨h1,h2,h3⟩:=h.rs p hp
 rw[hs _ (by omega)]at h3
 rw[aI hp]
 omega
structure Od(n:Nat)(o r z:List Int):Prop where
 lo:o.length=n
 lz:z.length=n
 at_:∀p,p<n->aa o (aa r p).toNat=aa z p
 cr:∀p q,p<q->q<n->aa r q<aa r p->aa z q<aa z p
def S(n:Nat)(f:Nat->Nat):Nat:=((range n).map f).sum
theorem Oh(f:Nat->Nat):S 0 f=0:=rfl
theorem gH(n:Nat)(f:Nat->Nat):S (n+1) f=S n f+f n:=by
 unfold S
 rw[range_succ,map_append,sum_append]
 simp
theorem BA(n:Nat)(f:Nat->Nat):S (n+1) f=f 0+S n fun i=>f (i+1):=by
 unfold S
 rw[List.range_succ_eq_map,map_cons,sum_cons,map_map]
 rfl
theorem eM{n:Nat}{f g:Nat->Nat}(h:∀i,i<n->f i=g i):S n f=S n g:=by
 induction n with
 |zero=>rfl
 |succ n ih=>rw[gH,gH,ih fun i hi=>h i (by omega),h n (by omega)]
theorem yU(n:Nat)(f g:Nat->Nat):S n (fun i=>f i+g i)=S n f+S n g:=by
 induction n with
 |zero=>rfl
 |succ n ih=>rw[gH,gH,gH,ih];omega
theorem Jl(n c:Nat):S n (fun _=>c)=n*c:=by
 induction n with
 |zero=>rw[Nat.zero_mul];rfl
 |succ n ih=>rw[gH,ih,Nat.succ_mul]
theorem FO(n m:Nat)(f:Nat->Nat->Nat):S n (fun i=>S m fun j=>f i j)=S m fun j=>S n fun i=>f i j:=by
 induction n with
 |zero=>
  rw[Oh,show(fun j=>S 0 fun i=>f i j)=fun _=>0 from rfl,Jl,Nat.mul_zero]
 |succ n ih=>
  rw[gH,ih,<-yU]
  exact eM fun j _=>(gH n fun i=>f i j).symm
theorem Oi(n q:Nat)(g:Nat->Nat):S n (fun p=>if p<q then g p else 0)=S (min n q) g:=by
 induction n with
 |zero=>rw[Nat.zero_min];rfl
 |succ n ih=>
  rw[gH,ih]
  by_cases h:n<q
  ·rw[if_pos h,show min n q=n by omega,show min (n+1) q=n+1 by omega,gH]
  ·rw[if_neg h,show min n q=q by omega,show min (n+1) q=q by omega]
   rfl
theorem FP{n:Nat}{r s:List Int}(h:Iv n r s)(f:Nat->Nat):S n (fun v=>f (aa s v).toNat)=S n f:=by
 unfold S
 have p:((range n).map fun v=>(aa s v).toNat).Perm (range n):=by
  refine(List.perm_ext_iff_of_nodup ?_ List.nodup_range).mpr fun x=>?_
  ·unfold Nodup
   rw[pairwise_map]
   refine Pairwise.imp_of_mem ?_ List.nodup_range
   intro a b ha hb hab e
   rw[mem_range]at ha hb
   have h1:=h.sr a ha
   have h2:=h.sr b hb
   exact hab (h.DG ha hb (by omega))
  ·rw[mem_map]
   constructor
   ·rintro⟨v,hv,rfl⟩
    rw[mem_range]at hv⊢
    have:=h.sr v hv
    omega
   ·intro hx
    rw[mem_range]at hx
    obtain⟨h1,h2,h3⟩:=h.rs x hx
    exact⟨(aa r x).toNat,mem_range.mpr (by omega),by rw[h3,toNat_natCast]⟩
 have:=(p.map f).sum_nat
 rw[map_map]at this
 exact this
def uz(x:Int)(pre:List Int):Nat:=(pre.filter fun s=>decide (x<s)).length
theorem An(x y:Int)(pre:List Int):uz x (pre++[y])=uz x pre+if x<y then 1 else 0:=by
 unfold uz
 rw[List.filter_append,length_append]
 congr 1
 rw[List.filter_cons]
 by_cases h:x<y
 ·rw[if_pos (decide_eq_true h),if_pos h];rfl
 ·rw[if_neg (by rw[decide_eq_true_eq];exact h),if_neg h];rfl
theorem Jm{x:Int}{a b:List Int}(p:a.Perm b):uz x a=uz x b:=(p.filter _).length_eq
def xW:List Int->List Int->Nat
 |_,[]=>0
 |pre,x::l=>uz x pre+xW (pre++[x]) l
theorem yV:∀(l:List Int){a b:List Int},a.Perm b->xW a l=xW b l
 |[],a,b,p=>rfl
 |x::l,a,b,p=>by
  unfold xW
  rw[Jm p,yV l (p.append_right [x])]
theorem sQ:∀(l:List Int)(a:Nat)(pre:List Int),a+1<l.length->xW pre (fJ l a)+(if aa l (a+1)<aa l a then 1 else 0)=xW pre l+(if aa l a<aa l (a+1)then 1 else 0)
 |[],a,pre,h=>by simp at h
 |[x],a,pre,h=>by simp at h
 |x::y::l,0,pre,h=>by
  show uz y pre+(uz x (pre++[y])+xW (pre++[y]++[x]) l)+(if y<x then 1 else 0)=uz x pre+(uz y (pre++[x])+xW (pre++[x]++[y]) l)+(if x<y then 1 else 0)
  rw[An,An,yV l (show(pre++[y]++[x]).Perm (pre++[x]++[y])by
   rw[List.append_assoc,List.append_assoc]
   exact Perm.append_left pre (Perm.swap x y []))]
  omega
 |x::y::l,a+1,pre,h=>by
  rw[rR]
  show uz x pre+xW (pre++[x]) (fJ (y::l) a)+(if aa (y::l) (a+1)<aa (y::l) a then 1 else 0)=uz x pre+xW (pre++[x]) (y::l)+(if aa (y::l) a<aa (y::l) (a+1)then 1 else 0)
  have:=sQ (y::l) a (pre++[x]) (by simpa using h)
  omega
theorem FQ:∀(l pre:List Int),xW pre l=S l.length fun j=>uz (aa l j) (pre++l.take j)
 |[],pre=>rfl
 |x::l,pre=>by
  rw[length_cons,BA]
  show uz x pre+xW (pre++[x]) l=_
  rw[FQ l (pre++[x]),show uz (aa (x::l) 0) (pre++(x::l).take 0)=uz x pre by rw[List.take_zero,append_nil];rfl]
  congr 1
  refine eM fun i _=>?_
  show uz (aa l i) (pre++[x]++l.take i)=uz (aa l i) (pre++x::l.take i)
  rw[List.append_assoc]
  rfl
theorem RE(x:Int)(l:List Int):∀q,q<=l.length->uz x (l.take q)=S q fun p=>if x<aa l p then 1 else 0
 |0,_=>rfl
 |q+1,h=>by
  have hq:q<l.length:=by omega
  have e:l.take (q+1)=l.take q++[aa l q]:=by
   rw[take_succ,cK hq]
   rfl
  rw[e,An,RE x l q (by omega),gH]
def dR(l:List Int):Nat:=xW [] l
theorem wj(l:List Int):dR l=S l.length fun q=>S l.length fun p=>if p<q then(if aa l q<aa l p then 1 else 0)else 0:=by
 unfold dR
 rw[FQ]
 refine eM fun q hq=>?_
 rw[nil_append,RE _ _ q (by omega),Oi,show min l.length q=q by omega]
theorem Ao{n:Nat}{r s:List Int}(h:Iv n r s):dR r=dR s:=by
 rw[wj,wj,h.lr,h.ls,<-FP h (fun q=>S n fun p=>if p<q then(if aa r q<aa r p then 1 else 0)else 0),FO n n fun q p=>if p<q then(if aa s q<aa s p then 1 else 0)else 0]
 refine eM fun w hw=>?_
 rw[<-FP h (fun p=>if p<(aa s w).toNat then(if aa r (aa s w).toNat<aa r p then 1 else 0)else 0)]
 refine eM fun v hv=>?_
 obtain⟨h1,h2,h3⟩:=h.sr w hw
 obtain⟨g1,g2,g3⟩:=h.sr v hv
 rw[h3,g3]
 repeat' split
 all_goals first|rfl|omega
theorem cg{l:List Int}{i:Int}(h:0<=i)(h2:i<l.length):iT (aA l) i=some (.int (aa l i.toNat)):=by
 rw[xj,Br h,cK (by omega)]
 rfl
theorem lC{b:D->DE->R DE}{ct:DE->R Bool}{fe:DE->R D}{e₀:DE}(P:Int->Bool):∀(w:List Int),(∀k∈w,∃e,b (.int k) e₀=.ok e/\ct e=.ok (P k)/\fe e=.ok (.int k))->bu b ct fe e₀ (aA w)=.ok (aA (w.filter P))
 |[],_=>rfl
 |k::w,h=>by
  obtain⟨e,h1,h2,h3⟩:=h k (by simp)
  have ih:=lC P w fun x hx=>h x (by simp[hx])
  rw[<-mQ]
  unfold bu
  rw[h1,R.bF,h2,R.bF,List.filter_cons]
  by_cases hp:P k=true
  ·rw[if_pos hp,if_pos hp,h3,R.bF,ih]
   rfl
  ·rw[if_neg hp,if_neg hp,ih]
theorem Jo(n:Nat)(h:n<=7):CN [.int 1,.int n]=.ok (aA ((range (n-1)).map fun i=>1+((i:Nat):Int))):=by
 rw[ER 1 n (by omega),show((n:Int)-1).toNat=n-1 by omega,sP]
theorem Jp{n:Nat}{k:Int}(h:k∈(range (n-1)).map fun i=>1+((i:Nat):Int)):∃a:Nat,k=(a:Int)+1/\a+1<n:=by
 obtain⟨i,hi,rfl⟩:=mem_map.mp h
 rw[mem_range]at hi
 exact⟨i,by omega,by omega⟩
theorem yW{n:Nat}{r s:List Int}(h:Iv n r s){v:Nat}(hv:v<n):mU (aA r) (.int v)=.ok (.int (aa s v)):=by
 unfold mU
 rw[o6]
 obtain⟨h1,h2⟩:=h.idx hv
 show(if(v:Int)∈r then R.ok (D.int (r.idxOf (v:Int):Nat))else R.bad)=_
 rw[if_pos h1,h2]
theorem yX:∀n:Nat,(replicate n [D.int 0]).flatten=aA (replicate n 0)
 |0=>rfl
 |n+1=>by
  rw[replicate_succ,flatten_cons,yX n]
  rfl
theorem nW{n:Nat}{r s:List Int}(h:Iv n r s)(hn:n<=7):bM [.lst (aA r)]=.ok (aA s):=by
 unfold bM rP
 simp -implicitDefEqProofs only [mS,mD,mF,fg,aH,reduceAdd,reduceSub,reduceEqDiff,reduceIte,ai,aj,aL,aM,aN,aO,bg,h.lr]
 rw[M9 _ _ ⟨by omega,by omega,big (by rw[toNat_natCast,length_cons,length_nil];omega)⟩,toNat_natCast]
 have e0:=yX n
 rw[e0]
 simp -implicitDefEqProofs only [reduceIte,ai,aj,aL,aM,aN,aO]
 obtain⟨t,e,hj⟩:=qT (S:=List Int×Sl×Sl) (b:=jn) (fun i t=>t.1.length=n/\∀p,p<i->p<n->aa t.1 (aa r p).toNat=p) (fun t=>[.val (.lst (aA r)),.own (aA t.1),t.2.1,t.2.2]) (dB (aA r)) 0 (replicate n 0,.no,.no) ⟨length_replicate,fun p hp=>by omega⟩ (by
  rintro j ⟨l,s2,s3⟩ x ⟨hl,hs⟩ hx
  obtain⟨c,hc,rfl⟩:=vZ hx
  rw[zero_add]at hs⊢
  have Yr:j<n:=by
   have:=(List.getElem?_eq_some_iff.mp hc).1
   rwa [h.lr]at this
  rw[cK (by rw[h.lr];exact Yr)]at hc
  have AU:=Option.some.inj hc
  obtain⟨h1,h2,h3⟩:=h.rs j Yr
  unfold jn
  simp -implicitDefEqProofs only [X9,reduceIte,ai,aj,aL,aM,aN,aO]
  rw[yG (by omega) (by rw[bg];have:l.length=n:=hl;omega),IJ,<-AU]
  refine⟨(l.set (aa r j).toNat j,_,_),rfl,by rw[length_set];exact hl,fun p hp Ys=>?_⟩
  obtain⟨p1,p2,p3⟩:=h.rs p Ys
  have To:l.length=n:=hl
  show aa (l.set (aa r j).toNat j) (aa r p).toNat=p
  rw[uy (by omega)]
  by_cases ep:p=j
  ·subst ep
   rw[if_pos rfl]
  ·rw[if_neg fun z=>by rw[<-z,h3]at p3;omega]
   exact hs p (by omega) Ys)
 obtain⟨l,s2,s3⟩:=t
 obtain⟨hl,hs⟩:=hj
 dsimp only at e
 rw[e]
 have el:l=s:=by
  have IQ:l.length=n:=hl
  refine bK (by rw[IQ,h.ls]) fun v hv=>?_
  rw[IQ]at hv
  obtain⟨h1,h2,h3⟩:=h.sr v hv
  have:=hs (aa s v).toNat (by rw[zero_add];unfold dB;rw[length_map,length_zipIdx,bg,h.lr];omega) (by omega)
  rw[h3,toNat_natCast]at this
  dsimp only at this
  omega
 rw[el]
 simp -implicitDefEqProofs only [reduceIte,ai,aj,aL,aM,aN,aO,jl]
theorem yY(l:List Int)(hn:l.length<=7):nV [.lst (aA l)]=.ok (aA (xV l)):=by
 unfold nV Bx
 simp -implicitDefEqProofs only [mS,mD,mF,fg,aH,reduceAdd,reduceSub,reduceEqDiff,reduceIte,ai,aj,aL,aM,aN,aO,bg]
 rw[Jo _ hn]
 simp -implicitDefEqProofs only [reduceIte,ai,aj,aL,aM,aN,aO,cR]
 rw[lC (fun k=>decide (aa l k.toNat<aa l (k-1).toNat)) _ fun k hk=>⟨_,dQ _ _ _,by
  obtain⟨a,rfl,ha⟩:=Jp hk
  unfold uu dX
  simp -implicitDefEqProofs only [reduceIte,ai,aj,aL,aM,aN,aO]
  rw[cg (by omega) (by omega),cg (by omega) (by omega)]
  simp -implicitDefEqProofs only [reduceIte,ai,aj,aL,aM,aN,aO],by
  unfold uv dX
  simp -implicitDefEqProofs only [reduceIte,ai,aj,aL,aM,aN,aO]⟩]
 simp -implicitDefEqProofs only [reduceIte,ai,aj,aL,aM,aN,aO,R.gF]
 have hd:=Jj l
 rw[show List.filter _ _=xV l from rfl,b9 (by omega)]
 simp -implicitDefEqProofs only [reduceIte,ai,aj,aL,aM,aN,aO,jl]
theorem C2{n:Nat}{r s:List Int}(h:Iv n r s)(hn:n<=7):p4 [.lst (aA r)]=.ok (aA (xV s)):=by
 unfold p4 yQ
 simp -implicitDefEqProofs only [mS,mD,mF,fg,aH,reduceAdd,reduceSub,reduceEqDiff,reduceIte,ai,aj,aL,aM,aN,aO]
 rw[nW h hn]
 simp -implicitDefEqProofs only [reduceIte,ai,aj,aL,aM,aN,aO]
 rw[yY s (by rw[h.ls];exact hn)]
 simp -implicitDefEqProofs only [reduceIte,ai,aj,aL,aM,aN,aO,jl]
theorem q9{l:List Int}(hn:l.length<=7){a:Nat}(ha:a+1<l.length):aP [.lst (aA l),.int ((a:Int)+1)]=.ok (aA (fJ l a)):=by
 unfold aP fV
 simp -implicitDefEqProofs only [mS,mD,mF,fg,aH,reduceAdd,reduceSub,reduceEqDiff,reduceIte,ai,aj,aL,aM,aN,aO,lj]
 rw[ui _ _ (by omega),yF _ _ (by omega),cg (by omega) (by omega),cg (by omega) (by omega),show((a:Int)+1-1).toNat=a by omega,show((a:Int)+1+1).toNat=a+2 by omega,show((a:Int)+1).toNat=a+1 by omega]
 simp -implicitDefEqProofs only [reduceIte,ai,aj,aL,aM,aN,aO]
 rw[show[D.int (aa l (a+1)),D.int (aa l a)]=aA [aa l (a+1),aa l a]from rfl,pQ,b9 (by simp -implicitDefEqProofs only [length_append,length_take,length_cons,length_nil];omega)]
 simp -implicitDefEqProofs only [reduceIte,ai,aj,aL,aM,aN,aO]
 rw[pQ,xr l a ha,b9 (by rw[fX];omega)]
 simp -implicitDefEqProofs only [reduceIte,ai,aj,aL,aM,aN,aO,jl]
theorem FT{n:Nat}{r s:List Int}(h:Iv n r s)(hn:n<=7){a:Nat}(ha:a+1<n):bV [.lst (aA r),.int ((a:Int)+1)]=.ok (aA (zB r a)):=by
 unfold bV gD
 simp -implicitDefEqProofs only [mS,mD,mF,fg,aH,reduceAdd,reduceSub,reduceEqDiff,reduceIte,ai,aj,aL,aM,aN,aO]
 rw[nW h hn]
 simp -implicitDefEqProofs only [reduceIte,ai,aj,aL,aM,aN,aO]
 rw[q9 (by rw[h.ls];exact hn) (by rw[h.ls];exact ha)]
 simp -implicitDefEqProofs only [reduceIte,ai,aj,aL,aM,aN,aO]
 rw[nW (h.step ha).symm hn]
 simp -implicitDefEqProofs only [reduceIte,ai,aj,aL,aM,aN,aO,jl]
abbrev RP:=List Int×List Int
structure Ad where
 dx:Addr
 kn:Addr
 nu:Addr
 fi:Addr
 la:Addr
 sh:Addr
 lo:Addr
 ke:Addr
 li:Addr
 ks:List Addr
def Ad.hd (A:Ad):List Addr:=[A.dx,A.kn,A.nu,A.fi,A.la,A.sh,A.lo,A.ke,A.li]
def Ad.all (A:Ad):List Addr:=A.hd++A.ks
def si(A:Ad):List (Str×V):=[("known",.ref A.kn),("numbers",.ref A.nu),("firsts",.ref A.fi),("lasts",.ref A.la),("shorter",.ref A.sh),("longer",.ref A.lo),("kept",.ref A.ke),("line",.ref A.li)]
def kk(r:List Int):List Key:=r.map Sum.inl
theorem Wi(r:List Int):(kk r).map kV=r.map V.int:=by unfold kk;rw[map_map];rfl
theorem FU{r s:List Int}(h:kk r=kk s):r=s:=by
 unfold kk at h
 exact(List.map_inj_right (fun x y e=>Sum.inl.inj e)).mp h
def Aq(ks:List Int):Int:=ks.foldl (fun b k=>Builtin.bitOr b (1*2^(k-1).toNat)) 0
def sj(l:List Int):Int:=Aq (xV l)
def yZ(p:RP)(a:Nat):RP:=(fJ p.1 a,zB p.2 a)
def zC(p:RP)(a:Nat):RP:=(zB p.1 a,fJ p.2 a)
def mr(p q:RP):List Int:=(xV q.2).filter fun k=> !decide (k∈xV p.1)
def fy:Nat->RP->RP->RP×RP
 |0,p,q=>(p,q)
 |f+1,p,q=>match (mr p q).getLast? with
  |none=>(p,q)
  |some k=>fy f (yZ p (k-1).toNat) (zC q (k-1).toNat)
theorem Iv.uniq {n:Nat}{r r' s:List Int}(h:Iv n r s)(g:Iv n r' s):r=r':=by
 refine bK (by rw[h.lr,g.lr]) fun j hj=>?_
 obtain⟨a1,a2,a3⟩:=h.rs j (by rw[h.lr]at hj;exact hj)
 obtain⟨b1,b2,b3⟩:=g.sr (aa r j).toNat (by omega)
 rw[a3,toNat_natCast]at b3
 omega
theorem BC{n:Nat}{p q:RP}(h:Iv n p.1 p.2)(g:Iv n q.1 q.2)(e:p.1=q.1):p=q:=by
 have h':=h.symm
 rw[e]at h'
 exact Prod.ext e (Iv.uniq h' g.symm)
structure gA(C:Addr)(H:Hp)(a:Addr)(A:Ad)(ex:List (Str×V))(n:Nat)(kn:List RP)(ln:List Int)(B:Nat)(nu sh lo ke:List (List Key×V)):Prop where
 ob:H a=some (.ins C A.dx (si A++ex))
 dx:∃o,H A.dx=some o
 nd:(a::A.all).Nodup
 hkn:H A.kn=some (.lst (A.ks.map V.ref))
 y0:A.ks.length=kn.length
 hks:∀(i:Nat)(b:Addr)(p:RP),A.ks[i]?=some b->kn[i]?=some p->H b=some (.lst (p.1.map V.int))
 vB:H A.nu=some (.dT nu)
 uY:H A.fi=some (.lst (kn.map fun p=>V.int (sj p.2)))
 hla:H A.la=some (.lst (kn.map fun p=>V.int (sj p.1)))
 hsh:H A.sh=some (.dT sh)
 hlo:H A.lo=some (.dT lo)
 hke:H A.ke=some (.dT ke)
 hli:H A.li=some (.lst (ln.map V.int))
 rw:∀p∈kn,Iv n p.1 p.2
 n1:∀(i:Nat)(p:RP),kn[i]?=some p->cF nu (kk p.1)=some (.int i)
 n2:∀r:List Int,(∀p∈kn,p.1≠r)->cF nu (kk r)=none
 s1:∀(i:Nat)(k:Int)(v:V),cF sh [.inl (i:Int),.inl k]=some v->∃(j:Nat)(p:RP),kn[i]?=some p/\kn[j]?=some (zC p (k-1).toNat)/\v=.int j
 l1:∀(i:Nat)(k:Int)(v:V),cF lo [.inl (i:Int),.inl k]=some v->∃(j:Nat)(p:RP),kn[i]?=some p/\kn[j]?=some (yZ p (k-1).toNat)/\v=.int j
 k1:∀(i j:Nat)(v:V),cF ke [.inl (i:Int),.inl (j:Int)]=some v->∃(t:Addr)(i' j':Nat)(p q:RP),kn[i]?=some p/\kn[j]?=some q/\v=.ref t/\H t=some (.tup [.int i',.int j'])/\kn[i']?=some (fy 50 p q).1/\kn[j']?=some (fy 50 p q).2
 z:kn.length<=B/\nu.length<=B/\sh.length<=B/\lo.length<=B/\ke.length<=B
 li:∀m∈ln,0<=m/\m<kn.length
theorem gA.same {C:Addr}{H H':Hp}{a:Addr}{A:Ad}{ex:List (Str×V)}{n:Nat}{kn:List RP}{ln:List Int}{B:Nat}{nu sh lo ke:List (List Key×V)}(c:gA C H a A ex n kn ln B nu sh lo ke)(s:aB H H'):gA C H' a A ex n kn ln B nu sh lo ke:=
 ⟨s _ _ c.ob,let⟨o,h⟩:=c.dx;⟨o,s _ _ h⟩,c.nd,s _ _ c.hkn,c.y0,fun i b p e1 e2=>s _ _ (c.hks i b p e1 e2),s _ _ c.vB,s _ _ c.uY,s _ _ c.hla,s _ _ c.hsh,s _ _ c.hlo,s _ _ c.hke,s _ _ c.hli,c.rw,c.n1,c.n2,c.s1,c.l1,
  fun i j v e=>by
   obtain⟨t,i',j',p,q,h1,h2,h3,h4,h5⟩:=c.k1 i j v e
   exact⟨t,i',j',p,q,h1,h2,h3,s _ _ h4,h5⟩,c.z,c.li⟩
theorem gA.more {C:Addr}{H:Hp}{a:Addr}{A:Ad}{ex:List (Str×V)}{n:Nat}{kn:List RP}{ln:List Int}{B B':Nat}{nu sh lo ke:List (List Key×V)}(c:gA C H a A ex n kn ln B nu sh lo ke)(h:B<=B'):gA C H a A ex n kn ln B' nu sh lo ke:=
 {c with z:=by have:=c.z;omega}
theorem gA.Oj {C:Addr}{H:Hp}{a:Addr}{A:Ad}{ex:List (Str×V)}{n:Nat}{kn:List RP}{ln:List Int}{B:Nat}{nu sh lo ke:List (List Key×V)}(c:gA C H a A ex n kn ln B nu sh lo ke):
  (A.kn≠A.fi/\A.kn≠A.la/\A.kn≠A.li/\A.fi≠A.la/\A.fi≠A.li/\A.la≠A.li)/\(A.nu≠A.sh/\A.nu≠A.lo/\A.nu≠A.ke/\A.sh≠A.lo/\A.sh≠A.ke/\A.lo≠A.ke)/\
  (∀b∈A.ks,b≠A.kn/\b≠A.fi/\b≠A.la/\b≠A.li)/\(A.dx≠A.kn/\A.dx≠A.nu/\A.dx≠A.fi/\A.dx≠A.la/\A.dx≠A.sh/\A.dx≠A.lo/\A.dx≠A.ke/\A.dx≠A.li/\a≠A.dx)/\(∀b∈A.ks,b≠A.dx):=by
 have nd:=c.nd
 unfold Ad.all Ad.hd at nd
 simp only [cons_append,nil_append,nodup_cons,mem_cons,not_or]at nd
 obtain⟨⟨a1,a2⟩,⟨d1,d2,d3,d4,d5,d6,d7,d8,d9⟩,⟨k1,k2,k3,k4,k5,k6,k7,k8⟩,⟨n1,n2,n3,n4,n5,n6,n7⟩,⟨f1,f2,f3,f4,f5,f6⟩,⟨l1,l2,l3,l4,l5⟩,⟨s1,s2,s3,s4⟩,⟨o1,o2,o3⟩,⟨e1,e2⟩,i1,_⟩:=nd
 refine⟨⟨k2,k3,k7,f1,f5,l4⟩,⟨n3,n4,n5,s1,s2,o1⟩,fun b hb=>⟨fun z=>k8 (z▸hb),fun z=>f6 (z▸hb),fun z=>l5 (z▸hb),fun z=>i1 (z▸hb)⟩,⟨d1,d2,d3,d4,d5,d6,d7,d8,a1⟩,fun b hb z=>d9 (z▸hb)⟩
structure gx(H H':Hp)(F F':List Addr):Prop where
 kp:∀x o,x∉F->H x=some o->H' x=some o
 nw:∀x∈F',x∈F\/H x=none
 gr:∀x,H' x=none->H x=none
theorem gx.refl (H:Hp)(F:List Addr):gx H H F F:=⟨fun _ _ _ h=>h,fun _ h=>.inl h,fun _ h=>h⟩
theorem gx.trans {H H1 H2:Hp}{F F1 F2:List Addr}(a:gx H H1 F F1)(b:gx H1 H2 F1 F2):gx H H2 F F2:=
 ⟨fun x o hx h=>b.kp x o (fun z=>(a.nw x z).elim hx fun q=>by rw[h]at q;cases q) (a.kp x o hx h),fun x hx=>(b.nw x hx).elim (fun z=>a.nw x z) fun z=>.inr (a.gr x z),fun x hx=>a.gr x (b.gr x hx)⟩
theorem gx.same {H H1:Hp}(s:aB H H1)(F:List Addr):gx H H1 F F:=⟨fun x o _ h=>s x o h,fun _ h=>.inl h,fun _ h=>s.free h⟩
theorem gx.upd {H:Hp}{F:List Addr}{x:Addr}(hx:x∈F)(o:HO):gx H (upd H x o) F F:=⟨fun y o' hy h=>by rw[ah (fun z=>hy (by rw[z];exact hx))];exact h,fun _ h=>.inl h,fun y hy=>by
 by_cases z:y=x
 ·rw[z,ak]at hy;cases hy
 ·rw[ah z]at hy;exact hy⟩
theorem gA.there {C:Addr}{H:Hp}{a:Addr}{A:Ad}{ex:List (Str×V)}{n:Nat}{kn:List RP}{ln:List Int}{B:Nat}{nu sh lo ke:List (List Key×V)}(c:gA C H a A ex n kn ln B nu sh lo ke){x:Addr}(hx:x∈a::A.all):∃o,H x=some o:=by
 rcases mem_cons.mp hx with rfl|hx
 ·exact⟨_,c.ob⟩
 ·rcases mem_append.mp hx with hx|hx
  ·unfold Ad.hd at hx
   simp only [mem_cons,not_mem_nil,or_false]at hx
   rcases hx with rfl|rfl|rfl|rfl|rfl|rfl|rfl|rfl|rfl
   ·exact c.dx
   ·exact⟨_,c.hkn⟩
   ·exact⟨_,c.vB⟩
   ·exact⟨_,c.uY⟩
   ·exact⟨_,c.hla⟩
   ·exact⟨_,c.hsh⟩
   ·exact⟨_,c.hlo⟩
   ·exact⟨_,c.hke⟩
   ·exact⟨_,c.hli⟩
  ·obtain⟨i,hi,ei⟩:=getElem_of_mem hx
   exact⟨_,c.hks i x (kn[i]'(by rw[<-c.y0];exact hi)) (by rw[getElem?_eq_getElem hi,ei]) (getElem?_eq_getElem (by rw[<-c.y0];exact hi))⟩
theorem ni{α:Type}{l:List α}{x y:α}{i:Nat}(e:(l++[x])[i]?=some y)(h:¬i<l.length):i=l.length/\x=y:=by
 have h1:=(List.getElem?_eq_some_iff.mp e).1
 rw[length_append,length_singleton]at h1
 have h2:i=l.length:=by omega
 subst h2
 exact⟨rfl,by simpa using e⟩
theorem bH{α:Type}{l m:List α}{x:α}{i:Nat}(e:l[i]?=some x):(l++m)[i]?=some x:=by
 rw[getElem?_append_left (List.getElem?_eq_some_iff.mp e).1]
 exact e
theorem gA.add {C:Addr}{H H9:Hp}{a:Addr}{A:Ad}{ex:List (Str×V)}{n:Nat}{kn:List RP}{ln:List Int}{B:Nat}{nu sh lo ke:List (List Key×V)}(c:gA C H a A ex n kn ln B nu sh lo ke){p:RP}(hm:¬∃q∈kn,q.1=p.1)(iv:Iv n p.1 p.2){l2:Addr}(Py:H l2=none)
  (Tp:H9 a=some (.ins C A.dx (si A++ex)))(Tq:H9 A.nu=some (.dT (putK nu (kk p.1) (.int (kn.length:Int)))))(Wj:H9 A.kn=some (.lst (A.ks.map V.ref++[.ref l2])))
  (Wk:H9 A.fi=some (.lst ((kn.map fun p=>V.int (sj p.2))++[V.int (sj p.2)])))(Wl:H9 A.la=some (.lst ((kn.map fun p=>V.int (sj p.1))++[V.int (sj p.1)])))(Wm:H9 l2=some (.lst (p.1.map V.int)))
  (keep:∀x o,x≠A.nu->x≠A.kn->x≠A.fi->x≠A.la->H x=some o->H9 x=some o):gA C H9 a {A with ks:=A.ks++[l2]} ex n (kn++[p]) ln (B+1) (putK nu (kk p.1) (.int (kn.length:Int))) sh lo ke:=by
 have vC:∀j,cF (putK nu (kk p.1) (.int (kn.length:Int))) j=if j=kk p.1 then some (.int (kn.length:Int))else cF nu j:=fun j=>ji nu (kk p.1) j _
 have hz:(kn++[p]).length<=B+1/\(putK nu (kk p.1) (.int (kn.length:Int))).length<=B+1/\sh.length<=B+1/\lo.length<=B+1/\ke.length<=B+1:=by
  have h0:=c.z
  have h1:=fx nu (kk p.1) (.int (kn.length:Int))
  rw[length_append,length_singleton]
  omega
 have hli:∀m∈ln,0<=m/\m<((kn++[p]).length:Int):=fun m hm'=>by
  have:=c.li m hm'
  rw[length_append]
  omega
 have nl:∀{x y:Addr}{xs:List V}{kv:List (List Key×V)},H x=some (.lst xs)->H y=some (.dT kv)->x≠y:=fun h1 h2=>bz h1 h2 (by intro z;cases z)
 obtain⟨⟨n1,n2,n3,n4,n5,n6⟩,⟨m1,m2,m3,m4,m5,m6⟩,Ol,⟨d1,d2,d3,d4,d5,d6,d7,d8,d9⟩,RG⟩:=c.Oj
 refine⟨Tp,?_,?_,by rw[map_append];exact Wj,by rw[length_append,length_append,c.y0];rfl,fun i b' q' e1 e2=>?_,Tq,by rw[map_append];exact Wk,by rw[map_append];exact Wl,
  keep _ _ (Ne.symm m1) (Ne.symm (nl c.hkn c.hsh)) (Ne.symm (nl c.uY c.hsh)) (Ne.symm (nl c.hla c.hsh)) c.hsh,
  keep _ _ (Ne.symm m2) (Ne.symm (nl c.hkn c.hlo)) (Ne.symm (nl c.uY c.hlo)) (Ne.symm (nl c.hla c.hlo)) c.hlo,
  keep _ _ (Ne.symm m3) (Ne.symm (nl c.hkn c.hke)) (Ne.symm (nl c.uY c.hke)) (Ne.symm (nl c.hla c.hke)) c.hke,
  keep _ _ (nl c.hli c.vB) (Ne.symm n3) (Ne.symm n5) (Ne.symm n6) c.hli,fun q' HS=>?_,fun i q' e=>?_,fun r Yt=>?_,fun i k' v e=>?_,fun i k' v e=>?_,fun i j v e=>?_,hz,hli⟩
 ·obtain⟨o,ho⟩:=c.dx
  exact⟨o,keep _ _ d2 d1 d3 d4 ho⟩
 ·show(a::(A.hd++(A.ks++[l2]))).Nodup
  rw[<-List.append_assoc,<-cons_append,List.nodup_append]
  refine⟨c.nd,by simp,fun x hx y hy=>?_⟩
  have ey:y=l2:=by simpa using hy
  rw[ey]
  intro z
  obtain⟨o,ho⟩:=c.there hx
  rw[z,Py]at ho
  cases ho
 ·have Ec:(A.ks++[l2])[i]?=some b':=e1
  by_cases hi:i<kn.length
  ·rw[getElem?_append_left (by rw[c.y0];exact hi)]at Ec
   rw[getElem?_append_left hi]at e2
   have Hh:=Ol b' (mem_of_getElem? Ec)
   have Yu:=c.hks i b' q' Ec e2
   exact keep _ _ (nl Yu c.vB) Hh.1 Hh.2.1 Hh.2.2.1 Yu
  ·obtain⟨_,z2⟩:=ni e2 hi
   obtain⟨_,z1⟩:=ni Ec (by rw[c.y0];exact hi)
   rw[<-z1,<-z2]
   exact Wm
 ·rcases mem_append.mp HS with h|h
  ·exact c.rw q' h
  ·have:q'=p:=by simpa using h
   rw[this];exact iv
 ·rw[vC]
  by_cases hi:i<kn.length
  ·rw[getElem?_append_left hi]at e
   have hne:¬kk q'.1=kk p.1:=fun z=>hm ⟨q',mem_of_getElem? e,FU z⟩
   rw[if_neg hne]
   exact c.n1 i q' e
  ·obtain⟨z1,z2⟩:=ni e hi
   rw[<-z2,if_pos rfl,z1]
 ·rw[vC,if_neg (fun z=>Yt p (by simp) (FU z).symm)]
  exact c.n2 r fun q' HS=>Yt q' (by simp[HS])
 ·obtain⟨j,p',h1,h2,h3⟩:=c.s1 i k' v e
  exact⟨j,p',bH h1,bH h2,h3⟩
 ·obtain⟨j,p',h1,h2,h3⟩:=c.l1 i k' v e
  exact⟨j,p',bH h1,bH h2,h3⟩
 ·obtain⟨t',i',j',p',q',h1,h2,h3,h4,h5,h6⟩:=c.k1 i j v e
  have nt:∀{y:Addr}{xs:List V},H y=some (.lst xs)->t'≠y:=fun h=>bz h4 h (by intro z;cases z)
  exact⟨t',i',j',p',q',bH h1,bH h2,h3,keep _ _ (bz h4 c.vB (by intro z;cases z)) (nt c.hkn) (nt c.uY) (nt c.hla) h4,bH h5,bH h6⟩
theorem gA.Om {C:Addr}{H:Hp}{a:Addr}{A:Ad}{ex:List (Str×V)}{n:Nat}{kn:List RP}{ln:List Int}{B:Nat}{nu sh lo ke:List (List Key×V)}(c:gA C H a A ex n kn ln B nu sh lo ke){i j:Nat}{k:Int}{p:RP}(hi:kn[i]?=some p)(hj:kn[j]?=some (zC p (k-1).toNat)):
  gA C (upd H A.sh (.dT (putK sh [.inl (i:Int),.inl k] (.int j)))) a A ex n kn ln (B+1) nu (putK sh [.inl (i:Int),.inl k] (.int j)) lo ke:=by
 have hz:kn.length<=B+1/\nu.length<=B+1/\(putK sh ([.inl (i:Int),.inl k]:List Key) (.int j)).length<=B+1/\lo.length<=B+1/\ke.length<=B+1:=by
  have h0:=c.z
  have h1:=fx sh ([.inl (i:Int),.inl k]:List Key) (.int j)
  omega
 have vC:∀x,cF (putK sh ([.inl (i:Int),.inl k]:List Key) (.int j)) x=if x=[.inl (i:Int),.inl k]then some (.int j)else cF sh x:=fun x=>ji sh _ x _
 have nl:∀{x:Addr}{xs:List V},H x=some (.lst xs)->x≠A.sh:=fun h1=>bz h1 c.hsh (by intro z;cases z)
 obtain⟨_,⟨m1,m2,m3,m4,m5,m6⟩,Ol,⟨d1,d2,d3,d4,d5,d6,d7,d8,d9⟩,RG⟩:=c.Oj
 have kp:∀x o,x≠A.sh->H x=some o->(upd H A.sh (.dT (putK sh [.inl (i:Int),.inl k] (.int j)))) x=some o:=fun x o hx h=>by rw[ah hx];exact h
 have Wn:∀(i':Nat)(k':Int)(v:V),cF (putK sh ([.inl (i:Int),.inl k]:List Key) (.int j)) [.inl (i':Int),.inl k']=some v->∃(j:Nat)(p:RP),kn[i']?=some p/\kn[j]?=some (zC p (k'-1).toNat)/\v=.int j:=fun i' k' v e=>by
  rw[vC]at e
  split at e
  ·rename_i z
   injection z with z1 z2
   injection z2 with z2 _
   have q1:(i':Int)=i:=Sum.inl.inj z1
   have q2:k'=k:=Sum.inl.inj z2
   have q3:i'=i:=by omega
   subst q2 q3
   cases e
   exact⟨j,p,hi,hj,rfl⟩
  ·exact c.s1 i' k' v e
 refine⟨kp _ _ (bz c.ob c.hsh (by intro z;cases z)) c.ob,?_,c.nd,kp _ _ (nl c.hkn) c.hkn,c.y0,fun i b p e1 e2=>kp _ _ (nl (c.hks i b p e1 e2)) (c.hks i b p e1 e2),kp _ _ m1 c.vB,kp _ _ (nl c.uY) c.uY,kp _ _ (nl c.hla) c.hla,ak,kp _ _ (Ne.symm m4) c.hlo,kp _ _ (Ne.symm m5) c.hke,kp _ _ (nl c.hli) c.hli,c.rw,c.n1,c.n2,Wn,c.l1,fun i j v e=>?_,hz,c.li⟩
 ·obtain⟨o,h⟩:=c.dx
  exact⟨o,kp _ _ d5 h⟩
 ·obtain⟨t,i',j',p,q,h1,h2,h3,h4,h5⟩:=c.k1 i j v e
  exact⟨t,i',j',p,q,h1,h2,h3,kp _ _ (bz h4 c.hsh (by intro z;cases z)) h4,h5⟩
theorem gA.Oo {C:Addr}{H:Hp}{a:Addr}{A:Ad}{ex:List (Str×V)}{n:Nat}{kn:List RP}{ln:List Int}{B:Nat}{nu sh lo ke:List (List Key×V)}(c:gA C H a A ex n kn ln B nu sh lo ke){i j:Nat}{k:Int}{p:RP}(hi:kn[i]?=some p)(hj:kn[j]?=some (yZ p (k-1).toNat)):
  gA C (upd H A.lo (.dT (putK lo [.inl (i:Int),.inl k] (.int j)))) a A ex n kn ln (B+1) nu sh (putK lo [.inl (i:Int),.inl k] (.int j)) ke:=by
 have hz:kn.length<=B+1/\nu.length<=B+1/\sh.length<=B+1/\(putK lo ([.inl (i:Int),.inl k]:List Key) (.int j)).length<=B+1/\ke.length<=B+1:=by
  have h0:=c.z
  have h1:=fx lo ([.inl (i:Int),.inl k]:List Key) (.int j)
  omega
 have vC:∀x,cF (putK lo ([.inl (i:Int),.inl k]:List Key) (.int j)) x=if x=[.inl (i:Int),.inl k]then some (.int j)else cF lo x:=fun x=>ji lo _ x _
 have nl:∀{x:Addr}{xs:List V},H x=some (.lst xs)->x≠A.lo:=fun h1=>bz h1 c.hlo (by intro z;cases z)
 obtain⟨_,⟨m1,m2,m3,m4,m5,m6⟩,Ol,⟨d1,d2,d3,d4,d5,d6,d7,d8,d9⟩,RG⟩:=c.Oj
 have kp:∀x o,x≠A.lo->H x=some o->(upd H A.lo (.dT (putK lo [.inl (i:Int),.inl k] (.int j)))) x=some o:=fun x o hx h=>by rw[ah hx];exact h
 have Wn:∀(i':Nat)(k':Int)(v:V),cF (putK lo ([.inl (i:Int),.inl k]:List Key) (.int j)) [.inl (i':Int),.inl k']=some v->∃(j:Nat)(p:RP),kn[i']?=some p/\kn[j]?=some (yZ p (k'-1).toNat)/\v=.int j:=fun i' k' v e=>by
  rw[vC]at e
  split at e
  ·rename_i z
   injection z with z1 z2
   injection z2 with z2 _
   have q1:(i':Int)=i:=Sum.inl.inj z1
   have q2:k'=k:=Sum.inl.inj z2
   have q3:i'=i:=by omega
   subst q2 q3
   cases e
   exact⟨j,p,hi,hj,rfl⟩
  ·exact c.l1 i' k' v e
 refine⟨kp _ _ (bz c.ob c.hlo (by intro z;cases z)) c.ob,?_,c.nd,kp _ _ (nl c.hkn) c.hkn,c.y0,fun i b p e1 e2=>kp _ _ (nl (c.hks i b p e1 e2)) (c.hks i b p e1 e2),kp _ _ m2 c.vB,kp _ _ (nl c.uY) c.uY,kp _ _ (nl c.hla) c.hla,kp _ _ m4 c.hsh,ak,kp _ _ (Ne.symm m6) c.hke,kp _ _ (nl c.hli) c.hli,c.rw,c.n1,c.n2,c.s1,Wn,fun i j v e=>?_,hz,c.li⟩
 ·obtain⟨o,h⟩:=c.dx
  exact⟨o,kp _ _ d6 h⟩
 ·obtain⟨t,i',j',p,q,h1,h2,h3,h4,h5⟩:=c.k1 i j v e
  exact⟨t,i',j',p,q,h1,h2,h3,kp _ _ (bz h4 c.hlo (by intro z;cases z)) h4,h5⟩
theorem gA.Oq {C:Addr}{H:Hp}{a:Addr}{A:Ad}{ex:List (Str×V)}{n:Nat}{kn:List RP}{ln:List Int}{B:Nat}{nu sh lo ke:List (List Key×V)}(c:gA C H a A ex n kn ln B nu sh lo ke){i j i' j':Nat}{p q:RP}{t:Addr}(hi:kn[i]?=some p)(hj:kn[j]?=some q)(ht:H t=some (.tup [.int i',.int j']))(Ar:kn[i']?=some (fy 50 p q).1)(Al:kn[j']?=some (fy 50 p q).2):
  gA C (upd H A.ke (.dT (putK ke [.inl (i:Int),.inl (j:Int)] (.ref t)))) a A ex n kn ln (B+1) nu sh lo (putK ke [.inl (i:Int),.inl (j:Int)] (.ref t)):=by
 have hz:kn.length<=B+1/\nu.length<=B+1/\sh.length<=B+1/\lo.length<=B+1/\(putK ke ([.inl (i:Int),.inl (j:Int)]:List Key) (.ref t)).length<=B+1:=by
  have h0:=c.z
  have h1:=fx ke ([.inl (i:Int),.inl (j:Int)]:List Key) (.ref t)
  omega
 have vC:∀x,cF (putK ke ([.inl (i:Int),.inl (j:Int)]:List Key) (.ref t)) x=if x=[.inl (i:Int),.inl (j:Int)]then some (.ref t)else cF ke x:=fun x=>ji ke _ x _
 have nl:∀{x:Addr}{xs:List V},H x=some (.lst xs)->x≠A.ke:=fun h1=>bz h1 c.hke (by intro z;cases z)
 have nt:∀{x:Addr}{xs:List V},H x=some (.tup xs)->x≠A.ke:=fun h1=>bz h1 c.hke (by intro z;cases z)
 obtain⟨_,⟨m1,m2,m3,m4,m5,m6⟩,Ol,⟨d1,d2,d3,d4,d5,d6,d7,d8,d9⟩,RG⟩:=c.Oj
 have kp:∀x o,x≠A.ke->H x=some o->(upd H A.ke (.dT (putK ke [.inl (i:Int),.inl (j:Int)] (.ref t)))) x=some o:=fun x o hx h=>by rw[ah hx];exact h
 refine⟨kp _ _ (bz c.ob c.hke (by intro z;cases z)) c.ob,?_,c.nd,kp _ _ (nl c.hkn) c.hkn,c.y0,fun i b p e1 e2=>kp _ _ (nl (c.hks i b p e1 e2)) (c.hks i b p e1 e2),kp _ _ m3 c.vB,kp _ _ (nl c.uY) c.uY,kp _ _ (nl c.hla) c.hla,kp _ _ m5 c.hsh,kp _ _ m6 c.hlo,ak,kp _ _ (nl c.hli) c.hli,c.rw,c.n1,c.n2,c.s1,c.l1,fun x y v e=>?_,hz,c.li⟩
 ·obtain⟨o,h⟩:=c.dx
  exact⟨o,kp _ _ d7 h⟩
 ·rw[vC]at e
  split at e
  ·rename_i z
   injection z with z1 z2
   injection z2 with z2 _
   have q1:(x:Int)=i:=Sum.inl.inj z1
   have q2:(y:Int)=j:=Sum.inl.inj z2
   have q3:x=i:=by omega
   have q4:y=j:=by omega
   subst q3 q4
   cases e
   exact⟨t,i',j',p,q,hi,hj,rfl,kp _ _ (nt ht) ht,Ar,Al⟩
  ·obtain⟨t,i',j',p,q,h1,h2,h3,h4,h5⟩:=c.k1 x y v e
   exact⟨t,i',j',p,q,h1,h2,h3,kp _ _ (nt h4) h4,h5⟩
section
variable{A:Ad}{ex:List (Str×V)}
theorem wk:(si A++ex).lookup ("known":Str)=some (.ref A.kn):=rfl
theorem BD:(si A++ex).lookup ("numbers":Str)=some (.ref A.nu):=rfl
theorem FW:(si A++ex).lookup ("firsts":Str)=some (.ref A.fi):=rfl
theorem FY:(si A++ex).lookup ("lasts":Str)=some (.ref A.la):=rfl
theorem BE:(si A++ex).lookup ("shorter":Str)=some (.ref A.sh):=rfl
theorem BF:(si A++ex).lookup ("longer":Str)=some (.ref A.lo):=rfl
theorem FZ:(si A++ex).lookup ("kept":Str)=some (.ref A.ke):=rfl
theorem y4:(si A++ex).lookup ("line":Str)=some (.ref A.li):=rfl
end
def rS(z w:Int):List (Str×V):=[("none",.int z),("whole",.int w)]
theorem Ld{A:Ad}{z w:Int}:(si A++rS z w).lookup ("none":Str)=some (.int z):=rfl
theorem RH{A:Ad}{z w:Int}:(si A++rS z w).lookup ("whole":Str)=some (.int w):=rfl
abbrev six:List Int:=[1,2,3,4,5,6]
def Ot(l:List (Int×Bool)):List Int:=(l.filter (·.2)).map (·.1)
def sel(b1 b2 b3 b4 b5 b6:Bool):List Int:=Ot [(1,b1),(2,b2),(3,b3),(4,b4),(5,b5),(6,b6)]
theorem uA(f:Int->Bool):∀l:List Int,l.filter f=Ot (l.map fun k=>(k,f k))
 |[]=>rfl
 |k::l=>by
  have ih:=uA f l
  unfold Ot at ih⊢
  rw[map_cons]
  cases h:f k with
  |true=>rw[List.filter_cons_of_pos h,List.filter_cons_of_pos (by rfl),map_cons,ih]
  |false=>rw[List.filter_cons_of_neg (by rw[h];decide),List.filter_cons_of_neg (by simp),ih]
theorem p8(f:Int->Bool):six.filter f=sel (f 1) (f 2) (f 3) (f 4) (f 5) (f 6):=uA f six
theorem Jq(f:Int->Bool):∀m:Nat,m<=7->((range (m-1)).map fun i=>1+((i:Nat):Int)).filter f=six.filter fun k=>decide (k.toNat<m)&&f k
 |0,_=>rfl
 |1,_=>rfl
 |2,_=>rfl
 |3,_=>rfl
 |4,_=>rfl
 |5,_=>rfl
 |6,_=>rfl
 |7,_=>rfl
 |m+8,h=>by omega
def RJ(l:List Int)(k:Int):Bool:=decide (k.toNat<l.length)&&decide (aa l k.toNat<aa l (k-1).toNat)
theorem sS{l:List Int}(h:l.length<=7):xV l=six.filter (RJ l):=Jq _ l.length h
theorem F0:∀b1 b2 b3 b4 b5 b6 c1 c2 c3 c4 c5 c6:Bool,Builtin.bitAnd (Aq (sel b1 b2 b3 b4 b5 b6)) (Builtin.bitNot (Aq (sel c1 c2 c3 c4 c5 c6)))=Aq (sel (b1&& !c1) (b2&& !c2) (b3&& !c3) (b4&& !c4) (b5&& !c5) (b6&& !c6)):=by decide +kernel
theorem y6:∀b1 b2 b3 b4 b5 b6:Bool,decide (0<Aq (sel b1 b2 b3 b4 b5 b6))=(sel b1 b2 b3 b4 b5 b6).getLast?.isSome/\∀k∈(sel b1 b2 b3 b4 b5 b6).getLast?,((Builtin.Int.intBits (Aq (sel b1 b2 b3 b4 b5 b6)):Nat):Int)=k:=by decide +kernel
theorem xt{p q:RP}(hp:p.1.length<=7)(hq:q.2.length<=7):mr p q=six.filter fun k=>RJ q.2 k&& !RJ p.1 k:=by
 unfold mr
 rw[sS hq,sS hp,List.filter_filter]
 refine List.filter_congr fun k hk=>?_
 have:decide (k∈six.filter (RJ p.1))=RJ p.1 k:=by
  rw[Bool.eq_iff_iff,decide_eq_true_iff,mem_filter]
  exact⟨fun h=>h.2,fun h=>⟨hk,h⟩⟩
 rw[this,Bool.and_comm]
theorem BG{p q:RP}(hp:p.1.length<=7)(hq:q.2.length<=7):Builtin.bitAnd (sj q.2) (Builtin.bitNot (sj p.1))=Aq (mr p q):=by
 unfold sj
 rw[sS hq,sS hp,xt hp hq,p8,p8,p8]
 exact F0 ..
theorem F3{p q:RP}(hp:p.1.length<=7)(hq:q.2.length<=7):decide (0<Aq (mr p q))=(mr p q).getLast?.isSome:=by
 rw[xt hp hq,p8]
 exact(y6 ..).1
theorem F4{p q:RP}(hp:p.1.length<=7)(hq:q.2.length<=7){k:Int}(h:(mr p q).getLast?=some k):((Builtin.Int.intBits (Aq (mr p q)):Nat):Int)=k:=by
 rw[xt hp hq,p8]at h⊢
 exact(y6 ..).2 k h
theorem wm:∀(l pre:List Int),xW pre l<=l.length*(pre.length+l.length)
 |[],pre=>by simp[xW]
 |x::l,pre=>by
  have h1:uz x pre<=pre.length:=List.length_filter_le _ _
  have h2:=wm l (pre++[x])
  rw[length_append,length_singleton]at h2
  show uz x pre+xW (pre++[x]) l<=(l.length+1)*(pre.length+(l.length+1))
  rw[Nat.add_mul,show pre.length+(l.length+1)=pre.length+1+l.length by omega]
  omega
theorem rf{n:Nat}{p:RP}(hn:n<=7)(h:Iv n p.1 p.2):dR p.1<=49:=by
 have h1:=wm p.1 []
 rw[h.lr,length_nil,zero_add]at h1
 have h2:n*n<=7*7:=Nat.mul_le_mul hn hn
 unfold dR
 omega
theorem nX{n:Nat}{p q:RP}(hp:Iv n p.1 p.2)(hq:Iv n q.1 q.2){k:Int}(h:k∈mr p q):∃j:Nat,k=(j:Int)+1/\j+1<n/\aa p.1 j<aa p.1 (j+1)/\aa q.2 (j+1)<aa q.2 j:=by
 unfold mr at h
 obtain⟨h1,h2⟩:=mem_filter.mp h
 obtain⟨j,e,h3,h4⟩:=p7.mp h1
 rw[hq.ls]at h3
 have h5:k∉xV p.1:=by simpa using h2
 have h6:¬aa p.1 (j+1)<aa p.1 j:=fun z=>h5 (p7.mpr ⟨j,e,by rw[hp.lr];exact h3,z⟩)
 have h7:aa p.1 j≠aa p.1 (j+1):=fun z=>by
  have:=hp.symm.DG (v:=j) (w:=j+1) (by omega) h3 z
  omega
 exact⟨j,e,h3,by omega,h4⟩
theorem rg{n:Nat}{p:RP}(h:Iv n p.1 p.2){j:Nat}(hj:j+1<n):Iv n (yZ p j).1 (yZ p j).2:=(h.symm.step hj).symm
theorem rh{n:Nat}{p:RP}(h:Iv n p.1 p.2){j:Nat}(hj:j+1<n):Iv n (zC p j).1 (zC p j).2:=h.step hj
theorem nj{p q:RP}{k:Int}(f:Nat)(h:(mr p q).getLast?=some k):fy (f+1) p q=fy f (yZ p (k-1).toNat) (zC q (k-1).toNat):=by
 show(match (mr p q).getLast? with
  |none=>(p,q)
  |some k=>fy f (yZ p (k-1).toNat) (zC q (k-1).toNat))=_
 rw[h]
theorem nk{p q:RP}(f:Nat)(h:(mr p q).getLast?=none):fy f p q=(p,q):=by
 cases f with
 |zero=>rfl
 |succ f=>
  show(match (mr p q).getLast? with
   |none=>(p,q)
   |some k=>fy f (yZ p (k-1).toNat) (zC q (k-1).toNat))=_
  rw[h]
theorem F5{n:Nat}{p:RP}(h:Iv n p.1 p.2){j:Nat}(hj:j+1<n)(hl:aa p.1 j<aa p.1 (j+1)):dR p.1<dR (yZ p j).1:=by
 have e:=sQ p.1 j [] (by rw[h.lr];exact hj)
 show xW [] p.1<xW [] (fJ p.1 j)
 rw[if_pos hl,if_neg (by omega)]at e
 omega
def nI(ls:List Nat):List Int:=ls.map fun(m:Nat)=>(m:Int)
def cj(kn:List RP)(ls:List Nat)(R:List RP):Prop:=ls.map (fun m=>kn[m]?)=R.map some
theorem cj.len {kn:List RP}{ls:List Nat}{R:List RP}(h:cj kn ls R):ls.length=R.length:=by
 have:=congrArg length h
 simpa using this
theorem cj.at {kn:List RP}{ls:List Nat}{R:List RP}(h:cj kn ls R){i:Nat}{r:RP}(e:R[i]?=some r):∃m,ls[i]?=some m/\kn[m]?=some r:=by
 have h1:(ls.map fun m=>kn[m]?)[i]?=(R.map some)[i]?:=by rw[show ls.map (fun m=>kn[m]?)=R.map some from h]
 rw[getElem?_map,getElem?_map,e]at h1
 cases h2:ls[i]? with
 |none=>rw[h2]at h1;cases h1
 |some m=>rw[h2]at h1;exact⟨m,rfl,Option.some.inj h1⟩
theorem cj.mem {kn:List RP}{ls:List Nat}{R:List RP}(h:cj kn ls R){m:Nat}(hm:m∈ls):m<kn.length:=by
 have:kn[m]?∈R.map some:=by rw[<-show ls.map (fun m=>kn[m]?)=R.map some from h];exact mem_map.mpr ⟨m,hm,rfl⟩
 obtain⟨r,_,e⟩:=mem_map.mp this
 exact(List.getElem?_eq_some_iff.mp e.symm).1
theorem cj.li {kn:List RP}{ls:List Nat}{R:List RP}(h:cj kn ls R):∀m∈nI ls,0<=m/\m<kn.length:=fun m hm=>by
 obtain⟨x,hx,rfl⟩:=mem_map.mp hm
 have:=h.mem hx
 omega
theorem cj.pre {kn mo:List RP}{ls:List Nat}{R:List RP}(h:cj kn ls R):cj (kn++mo) ls R:=by
 unfold cj
 rw[<-show ls.map (fun m=>kn[m]?)=R.map some from h]
 refine map_congr_left fun m hm=>?_
 rw[getElem?_append_left (h.mem hm)]
theorem cj.app {kn:List RP}{ls:List Nat}{R:List RP}(h:cj kn ls R){m:Nat}{r:RP}(e:kn[m]?=some r):cj kn (ls++[m]) (R++[r]):=by
 unfold cj
 rw[map_append,map_append,show ls.map (fun m=>kn[m]?)=R.map some from h]
 simp[e]
theorem cj.set {kn:List RP}{ls:List Nat}{R:List RP}(h:cj kn ls R)(i:Nat){m:Nat}{r:RP}(e:kn[m]?=some r):cj kn (ls.set i m) (R.set i r):=by
 unfold cj
 rw[map_set,map_set,show ls.map (fun m=>kn[m]?)=R.map some from h,e]
theorem cj.drop {kn:List RP}{ls:List Nat}{R:List RP}(h:cj kn ls R):cj kn ls.dropLast R.dropLast:=by
 unfold cj
 rw[map_dropLast,map_dropLast,show ls.map (fun m=>kn[m]?)=R.map some from h]
theorem kc(ls:List Nat):(nI ls).length=ls.length:=length_map _
def uB:List RP->RP->List RP
 |[],c=>[c]
 |p::ps,c=>if(fy 50 p c).1=p then c::p::ps else(fy 50 p c).2::uB ps (fy 50 p c).1
def sU(R:List RP)(p:RP):List RP:=(uB R.reverse p).reverse
def fY(n:Nat)(R:List RP)(p:RP):List RP:=if(sU R p).getLast?=some (upTo n,upTo n)then(sU R p).dropLast else sU R p
theorem BH:∀(R:List RP)(p:RP),(uB R p).length=R.length+1
 |[],p=>rfl
 |r::R,p=>by
  unfold uB
  split
  ·rfl
  ·rw[length_cons,BH R,length_cons]
theorem sV(R:List RP)(p:RP):(sU R p).length=R.length+1:=by unfold sU;rw[length_reverse,BH,length_reverse]
theorem gA.y7 {C:Addr}{H:Hp}{a:Addr}{A:Ad}{ex:List (Str×V)}{n:Nat}{kn:List RP}{ln:List Int}{B:Nat}{nu sh lo ke:List (List Key×V)}(c:gA C H a A ex n kn ln B nu sh lo ke){Tt:List Int}(h:∀m∈Tt,0<=m/\m<kn.length):
  gA C (upd H A.li (.lst (Tt.map V.int))) a A ex n kn Tt B nu sh lo ke:=by
 have nd:∀{x:Addr}{xs:List (List Key×V)},H x=some (.dT xs)->x≠A.li:=fun h1=>bz h1 c.hli (by intro z;cases z)
 have nt:∀{x:Addr}{xs:List V},H x=some (.tup xs)->x≠A.li:=fun h1=>bz h1 c.hli (by intro z;cases z)
 obtain⟨⟨n1,n2,n3,n4,n5,n6⟩,_,Ol,⟨d1,d2,d3,d4,d5,d6,d7,d8,d9⟩,RG⟩:=c.Oj
 have kp:∀x o,x≠A.li->H x=some o->(upd H A.li (.lst (Tt.map V.int))) x=some o:=fun x o hx h=>by rw[ah hx];exact h
 refine⟨kp _ _ (bz c.ob c.hli (by intro z;cases z)) c.ob,?_,c.nd,kp _ _ n3 c.hkn,c.y0,fun i b p e1 e2=>kp _ _ (Ol b (mem_of_getElem? e1)).2.2.2 (c.hks i b p e1 e2),kp _ _ (nd c.vB) c.vB,kp _ _ n5 c.uY,kp _ _ n6 c.hla,kp _ _ (nd c.hsh) c.hsh,kp _ _ (nd c.hlo) c.hlo,kp _ _ (nd c.hke) c.hke,ak,c.rw,c.n1,c.n2,c.s1,c.l1,fun i j v e=>?_,c.z,h⟩
 ·obtain⟨o,h⟩:=c.dx
  exact⟨o,kp _ _ d8 h⟩
 ·obtain⟨t,i',j',p,q,h1,h2,h3,h4,h5⟩:=c.k1 i j v e
  exact⟨t,i',j',p,q,h1,h2,h3,kp _ _ (nt h4) h4,h5⟩
theorem gA.inj {C:Addr}{H:Hp}{a:Addr}{A:Ad}{ex:List (Str×V)}{n:Nat}{kn:List RP}{ln:List Int}{B:Nat}{nu sh lo ke:List (List Key×V)}(c:gA C H a A ex n kn ln B nu sh lo ke){i j:Nat}{p q:RP}(hi:kn[i]?=some p)(hj:kn[j]?=some q):((i:Int)=j↔p=q):=by
 constructor
 ·intro e
  have:i=j:=by omega
  subst this
  rw[hi]at hj
  exact Option.some.inj hj
 ·rintro rfl
  have h1:=c.n1 i p hi
  rw[c.n1 j p hj]at h1
  injection h1 with h1
  injection h1 with h1
  exact h1.symm
theorem gA.xu {n:Nat}:∀(f:Nat){p q:RP},Iv n p.1 p.2->Iv n q.1 q.2->Iv n (fy f p q).1.1 (fy f p q).1.2/\Iv n (fy f p q).2.1 (fy f p q).2.2
 |0,p,q,h1,h2=>⟨h1,h2⟩
 |f+1,p,q,h1,h2=>by
  cases hl:(mr p q).getLast? with
  |none=>rw[nk _ hl];exact⟨h1,h2⟩
  |some k=>
   rw[nj f hl]
   obtain⟨j,rfl,hj,_⟩:=nX h1 h2 (mem_of_getLast? hl)
   rw[show((j:Int)+1-1).toNat=j by omega]
   exact gA.xu f (rg h1 hj) (rh h2 hj)
theorem tP{α:Type}{l:List α}{x:α}(h:l.getLast?=some x):iT l (-1)=some x:=by
 obtain⟨ys,rfl⟩:=List.getLast?_eq_some_iff.mp h
 unfold L2.iT L2.pe
 rw[if_neg (by decide),length_append,length_singleton,if_pos (by omega)]
 simp
 rw[show(-1+((ys.length:Int)+1)).toNat=ys.length by omega]
 simp
theorem BI{α:Type}{l:List α}{x:α}(h:l.getLast?=some x):l[l.length-1]?=some x:=by
 obtain⟨ys,rfl⟩:=List.getLast?_eq_some_iff.mp h
 simp
theorem cj.last {kn:List RP}{ls:List Nat}{R:List RP}(h:cj kn ls R)(hp:0<R.length):∃m r,ls.getLast?=some m/\R.getLast?=some r/\kn[m]?=some r:=by
 have e:R[R.length-1]?=some (R[R.length-1]'(by omega)):=getElem?_eq_getElem (by omega)
 obtain⟨m,h1,h2⟩:=h.at e
 refine⟨m,_,?_,?_,h2⟩
 ·rw[List.getLast?_eq_getElem?,h.len];exact h1
 ·rw[List.getLast?_eq_getElem?];exact e
theorem Ou(ls:List Nat)(m:Nat):(nI (ls++[m])).map V.int=(nI ls).map V.int++[V.int m]:=by unfold nI;simp
theorem rm{ls:List Nat}{i m:Nat}(h:ls[i]?=some m):((nI ls).map V.int)[i]?=some (V.int m):=by unfold nI;rw[getElem?_map,getElem?_map,h];rfl
theorem F6(ls:List Nat)(i m:Nat):((nI ls).map V.int).set i (V.int m)=(nI (ls.set i m)).map V.int:=by unfold nI;rw[map_set,map_set]
theorem BJ(ls:List Nat):((nI ls).map V.int).dropLast=(nI ls.dropLast).map V.int:=by unfold nI;rw[map_dropLast,map_dropLast]
theorem sW{ls:List Nat}{m:Nat}(h:ls.getLast?=some m):((nI ls).map V.int).getLast?=some (V.int m):=by unfold nI;rw[List.getLast?_map,List.getLast?_map,h];rfl
theorem F7{R:List RP}{t:Nat}{r c:RP}(h:R[t]?=some r):uB (R.take (t+1)).reverse c=if(fy 50 r c).1=r then c::(R.take (t+1)).reverse else(fy 50 r c).2::uB (R.take t).reverse (fy 50 r c).1:=by
 have e:R.take (t+1)=R.take t++[r]:=by rw[take_succ,h];rfl
 rw[e,List.reverse_append]
 rfl
theorem gA.Le {C:Addr}{H:Hp}{a:Addr}{A:Ad}{ex:List (Str×V)}{n:Nat}{kn:List RP}{ln:List Int}{B:Nat}{nu sh lo ke:List (List Key×V)}(c:gA C H a A ex n kn ln B nu sh lo ke)(S3:List (Str×V)):
  gA C (upd H a (.ins C A.dx (si A++S3))) a A S3 n kn ln B nu sh lo ke:=by
 have nl:∀{x:Addr}{xs:List V},H x=some (.lst xs)->x≠a:=fun h1=>bz h1 c.ob (by intro z;cases z)
 have nd:∀{x:Addr}{xs:List (List Key×V)},H x=some (.dT xs)->x≠a:=fun h1=>bz h1 c.ob (by intro z;cases z)
 have nt:∀{x:Addr}{xs:List V},H x=some (.tup xs)->x≠a:=fun h1=>bz h1 c.ob (by intro z;cases z)
 obtain⟨_,_,_,⟨d1,d2,d3,d4,d5,d6,d7,d8,d9⟩,_⟩:=c.Oj
 have kp:∀x o,x≠a->H x=some o->(upd H a (.ins C A.dx (si A++S3))) x=some o:=fun x o hx h=>by rw[ah hx];exact h
 refine⟨ak,?_,c.nd,kp _ _ (nl c.hkn) c.hkn,c.y0,fun i b p e1 e2=>kp _ _ (nl (c.hks i b p e1 e2)) (c.hks i b p e1 e2),kp _ _ (nd c.vB) c.vB,kp _ _ (nl c.uY) c.uY,kp _ _ (nl c.hla) c.hla,kp _ _ (nd c.hsh) c.hsh,kp _ _ (nd c.hlo) c.hlo,kp _ _ (nd c.hke) c.hke,kp _ _ (nl c.hli) c.hli,c.rw,c.n1,c.n2,c.s1,c.l1,fun i j v e=>?_,c.z,c.li⟩
 ·obtain⟨o,h⟩:=c.dx
  exact⟨o,kp _ _ (Ne.symm d9) h⟩
 ·obtain⟨t,i',j',p,q,h1,h2,h3,h4,h5⟩:=c.k1 i j v e
  exact⟨t,i',j',p,q,h1,h2,h3,kp _ _ (nt h4) h4,h5⟩
theorem ik{H:Hp}{a C dx:Addr}{fs:List (Str×V)}(hob:H a=some (.ins C dx fs)){l:Addr}(hl:H l=none)(o:HO)(f:Str):
  l≠a/\(upd H l o) a=some (.ins C dx fs)/\(upd (upd H l o) a (.ins C dx (jh f (.ref l) fs))) a=some (.ins C dx (jh f (.ref l) fs))/\(upd (upd H l o) a (.ins C dx (jh f (.ref l) fs))) l=some o/\(∀x u,x≠a->H x=some u->(upd (upd H l o) a (.ins C dx (jh f (.ref l) fs))) x=some u)/\∀x,(upd (upd H l o) a (.ins C dx (jh f (.ref l) fs))) x=none->H x=none:=by
 have hla:l≠a:=fun z=>by rw[z,hob]at hl;cases hl
 refine⟨hla,by rw[ah (Ne.symm hla)];exact hob,ak,by rw[ah hla];exact ak,fun x u hx h=>?_,fun x hx=>?_⟩
 ·rw[ah hx,ah (fun z=>by rw[z,hl]at h;cases h)]
  exact h
 ·by_cases z:x=a
  ·rw[z,ak]at hx;cases hx
  ·rw[ah z]at hx
   by_cases z2:x=l
   ·rw[z2];exact hl
   ·rw[ah z2]at hx;exact hx
def mw(n:Nat):RP:=((upTo n).reverse,(upTo n).reverse)
def kg(n:Nat)(R:List RP):Nat:=(R.takeWhile fun r=>decide (r=mw n)).length
def rT(n:Nat)(R:List RP):D:=.tup [.int (kg n R),.lst ((R.drop (kg n R)).map fun p=>D.lst (aA p.1))]
theorem y8{n:Nat}{R:List RP}{i:Nat}(h:∀j<i,R[j]?=some (mw n))(hs:R[i]?≠some (mw n)):kg n R=i:=by
 induction R generalizing i with
 |nil=>
  cases i with
  |zero=>rfl
  |succ i=>have:=h 0 (by omega);simp at this
 |cons r R ih=>
  unfold kg
  cases i with
  |zero=>
   have hr:¬r=mw n:=fun e=>hs (by rw[e];rfl)
   rw[List.takeWhile_cons_of_neg (by simp[hr])]
   rfl
  |succ i=>
   have hr:r=mw n:=by have:=h 0 (by omega);simpa using this
   rw[List.takeWhile_cons_of_pos (by simp[hr]),length_cons]
   have:=ih (i:=i) (fun j hj=>by have:=h (j+1) (by omega);simpa using this) (by simpa using hs)
   unfold kg at this
   rw[this]
theorem F8(n:Nat)(R:List RP)(p:RP):(fY n R p).length<=R.length+1:=by
 unfold fY
 split
 ·rw[List.length_dropLast,sV];omega
 ·rw[sV];omega
def uC(r:List Int):List Int:=(upTo r.length).map fun v=>((r.idxOf v:Nat):Int)
theorem o8{n:Nat}{r:List Int}(h:bw n r):Iv n r (uC r):=by
 obtain⟨s,iv⟩:=Og h
 have e:uC r=s:=by
  refine bK (by unfold uC;rw[length_map,ar,iv.lr,iv.ls]) fun j hj=>?_
  have Al:j<n:=by unfold uC at hj;rwa [length_map,ar,iv.lr]at hj
  have hg:(uC r)[j]?=some ((r.idxOf (j:Int):Nat):Int):=by
   unfold uC
   rw[getElem?_map,ng _ j (by rw[iv.lr];exact Al)]
   rfl
  rw[<-(iv.idx Al).2]
  unfold aa
  rw[hg]
  rfl
 rw[e]
 exact iv
def fZ(n:Nat)(rs:List (List Int)):List RP:=rs.foldl (fun R r=>fY n R (r,uC r)) []
theorem C3{n:Nat}{rs:List (List Int)}{i:Nat}{r:List Int}(h:rs[i]?=some r):fZ n (rs.take (i+1))=fY n (fZ n (rs.take i)) (r,uC r):=by
 unfold fZ
 rw[take_succ,h,foldl_append]
 rfl
theorem p9(n:Nat):∀(rs:List (List Int))(R:List RP),(rs.foldl (fun R r=>fY n R (r,uC r)) R).length<=R.length+rs.length
 |[],R=>Nat.le_refl _
 |r::rs,R=>by
  have h:=p9 n rs (fY n R (r,uC r))
  have h2:=F8 n R (r,uC r)
  rw[foldl_cons,length_cons]
  omega
def Lf(n:Nat)(p y:RP):Prop:=∀i j,i<j->j<n->aa y.2 j<aa y.2 i->aa p.1 i<aa p.1 j
def Lg(n:Nat)(w q x:RP):Prop:=∀t,t<n->aa w.2 t=aa x.2 (aa q.2 t).toNat
structure F9(n:Nat)(p0 q0 p q y:RP):Prop where
 iy:Iv n y.1 y.2
 pp:Lg n p p0 y
 pq:Lg n q0 y q
 ap:Lf n p0 y
 aq:Lf n y q
 pl:∀t,t<n->aa p.1 t=aa p0.1 (aa y.1 t).toNat
def sw(a t:Nat):Nat:=if t=a then a+1 else if t=a+1 then a else t
theorem Ga{a t n:Nat}(ha:a+1<n)(ht:t<n):sw a t<n:=by
 unfold sw
 repeat' split
 all_goals omega
theorem RK(a:Nat){x:Int}(h:0<=x):sw a (sg a x).toNat=x.toNat:=by
 unfold sg sw
 repeat' split
 all_goals omega
theorem lD{l:List Int}{a:Nat}(h:a+1<l.length)(t:Nat):aa (fJ l a) t=aa l (sw a t):=by
 rw[kK _ _ h]
 unfold sw
 repeat' split
 all_goals rfl
theorem F9.start {n:Nat}{p q:RP}(ip:Iv n p.1 p.2)(hi:Iv n (upTo n) (upTo n)):F9 n p q p q (upTo n,upTo n):=by
 have c:∀t,t<n->(aa (upTo n) t).toNat=t:=fun t ht=>by rw[aI ht];exact toNat_natCast t
 refine⟨hi,fun t ht=>?_,fun t ht=>?_,fun i j hij hj h=>?_,fun i j hij hj h=>?_,fun t ht=>?_⟩
 ·obtain⟨h1,h2,_⟩:=ip.sr t ht
  show _=aa (upTo n) (aa p.2 t).toNat
  rw[aI (by omega)]
  omega
 ·show _=aa q.2 (aa (upTo n) t).toNat
  rw[c t ht]
 ·dsimp only at h
  rw[aI hj,aI (by omega)]at h
  omega
 ·dsimp only
  rw[aI hj,aI (by omega)]
  omega
 ·show _=aa p.1 (aa (upTo n) t).toNat
  rw[c t ht]
theorem F9.step {n:Nat}{p0 q0 p q y:RP}(o:F9 n p0 q0 p q y)(RL:Iv n p0.1 p0.2)(ip:Iv n p.1 p.2)(iq:Iv n q.1 q.2){j:Nat}(hj:j+1<n)(hup:aa p.1 j<aa p.1 (j+1))(hdn:aa q.2 (j+1)<aa q.2 j):F9 n p0 q0 (yZ p j) (zC q j) (yZ y j):=by
 have iy:=o.iy
 refine⟨rg iy hj,fun t ht=>?_,fun t ht=>?_,fun i i' Yv Ar h=>?_,fun i i' Yv Ar h=>?_,fun t ht=>?_⟩
 ·obtain⟨h1,h2,_⟩:=RL.sr t ht
  show aa (zB p.2 j) t=aa (zB y.2 j) (aa p0.2 t).toNat
  rw[ed (by rw[ip.ls];exact ht),ed (by rw[iy.ls];omega),o.pp t ht]
 ·obtain⟨h1,h2,_⟩:=iy.sr t ht
  show aa q0.2 t=aa (fJ q.2 j) (aa (zB y.2 j) t).toNat
  rw[ed (by rw[iy.ls];exact ht),lD (by rw[iq.ls];exact hj),RK j h1,o.pq t ht]
 ·have h':aa (zB y.2 j) i'<aa (zB y.2 j) i:=h
  rw[ed (by rw[iy.ls];exact Ar),ed (by rw[iy.ls];omega)]at h'
  by_cases hb:aa y.2 i'<aa y.2 i
  ·exact o.ap i i' Yv Ar hb
  ·obtain⟨a1,a2,a3⟩:=iy.sr i (by omega)
   obtain⟨b1,b2,b3⟩:=iy.sr i' Ar
   have hne:aa y.2 i≠aa y.2 i':=fun e=>by
    have:=iy.DG (v:=i) (w:=i') (by omega) Ar e
    omega
   have hab:aa y.2 i=j/\aa y.2 i'=j+1:=by
    unfold sg at h'
    repeat' split at h'
    all_goals omega
   have e1:=o.pl j (by omega)
   have e2:=o.pl (j+1) hj
   rw[hab.1,toNat_natCast]at a3
   rw[hab.2,show((j:Int)+1).toNat=j+1 by omega]at b3
   rw[a3,toNat_natCast]at e1
   rw[b3,toNat_natCast]at e2
   omega
 ·have h':aa (fJ q.2 j) i'<aa (fJ q.2 j) i:=h
  show aa (fJ y.1 j) i<aa (fJ y.1 j) i'
  rw[lD (by rw[iq.ls];exact hj),lD (by rw[iq.ls];exact hj)]at h'
  rw[lD (by rw[iy.lr];exact hj),lD (by rw[iy.lr];exact hj)]
  by_cases hc:i=j/\i'=j+1
  ·obtain⟨rfl,rfl⟩:=hc
   unfold sw at h'
   rw[if_pos rfl,if_neg (by omega),if_pos rfl]at h'
   omega
  ·refine o.aq (sw j i) (sw j i') ?_ (Ga hj Ar) h'
   unfold sw
   repeat' split
   all_goals omega
 ·obtain⟨h1,h2,_⟩:=iy.rs (sw j t) (Ga hj ht)
  show aa (fJ p.1 j) t=aa p0.1 (aa (fJ y.1 j) t).toNat
  rw[lD (by rw[ip.lr];exact hj),lD (by rw[iy.lr];exact hj),o.pl _ (Ga hj ht)]
theorem BK{n:Nat}{p0 q0:RP}(RL:Iv n p0.1 p0.2):∀(f:Nat)(p q y:RP),Iv n p.1 p.2->Iv n q.1 q.2->F9 n p0 q0 p q y->∃y',F9 n p0 q0 (fy f p q).1 (fy f p q).2 y'
 |0,p,q,y,_,_,o=>⟨y,o⟩
 |f+1,p,q,y,ip,iq,o=>by
  cases h:(mr p q).getLast? with
  |none=>rw[nk _ h];exact⟨y,o⟩
  |some k=>
   obtain⟨j,rfl,hj,h1,h2⟩:=nX ip iq (mem_of_getLast? h)
   rw[nj f h,show((j:Int)+1-1).toNat=j by omega]
   exact BK RL f _ _ _ (rg ip hj) (rh iq hj) (o.step RL ip iq hj h1 h2)
theorem BL{n:Nat}(hn:n<=7):∀(f:Nat)(p q:RP),Iv n p.1 p.2->Iv n q.1 q.2->49<f+dR p.1->mr (fy f p q).1 (fy f p q).2=[]
 |0,p,q,ip,iq,h=>by have:=rf hn ip;omega
 |f+1,p,q,ip,iq,h=>by
  cases hk:(mr p q).getLast? with
  |none=>
   rw[nk _ hk]
   exact List.getLast?_eq_none_iff.mp hk
  |some k=>
   obtain⟨j,rfl,hj,h1,h2⟩:=nX ip iq (mem_of_getLast? hk)
   rw[nj f hk,show((j:Int)+1-1).toNat=j by omega]
   have:=F5 ip hj h1
   exact BL hn f _ _ (rg ip hj) (rh iq hj) (by omega)
theorem Lg.calm {n:Nat}{w q x:RP}(hp:Lg n w q x)(iq:Iv n q.1 q.2)(ix:Iv n x.1 x.2)(ad:Lf n q x){i j:Nat}(hij:i<=j)(hj:j<n)(h:aa w.2 i<=aa w.2 j):aa q.2 i<=aa q.2 j:=by
 refine byContradiction fun hc=>?_
 obtain⟨a1,a2,a3⟩:=iq.sr i (by omega)
 obtain⟨b1,b2,b3⟩:=iq.sr j hj
 rw[hp i (by omega),hp j hj]at h
 have hne:(aa q.2 j).toNat<(aa q.2 i).toNat:=by omega
 have hx:aa x.2 (aa q.2 i).toNat≠aa x.2 (aa q.2 j).toNat:=fun e=>by
  have:=ix.DG (v:=(aa q.2 i).toNat) (w:=(aa q.2 j).toNat) (by omega) (by omega) e
  omega
 have:=ad (aa q.2 j).toNat (aa q.2 i).toNat hne (by omega) (by omega)
 rw[a3,b3]at this
 omega
theorem kL{p q:RP}{n:Nat}(ip:Iv n p.1 p.2)(iq:Iv n q.1 q.2):mr p q=[]↔∀j,j+1<n->aa q.2 (j+1)<aa q.2 j->aa p.1 (j+1)<aa p.1 j:=by
 constructor
 ·intro h j hj hd
  refine byContradiction fun hc=>?_
  have hm:((j:Int)+1)∈mr p q:=by
   unfold mr
   rw[mem_filter]
   refine⟨p7.mpr ⟨j,rfl,by rw[iq.ls];exact hj,hd⟩,?_⟩
   have:((j:Int)+1)∉xV p.1:=fun z=>by
    obtain⟨a,e,_,h2⟩:=p7.mp z
    have:a=j:=by omega
    subst this
    exact hc h2
   rw[decide_eq_false this]
   rfl
  rw[h]at hm
  cases hm
 ·intro h
  cases e:mr p q with
  |nil=>rfl
  |cons k t=>
   obtain⟨j,_,hj,h1,h2⟩:=nX ip iq (k:=k) (by rw[e];exact mem_cons_self)
   have:=h j hj h2
   omega
theorem switch(f:Nat->Bool):∀(d u:Nat),f u=false->f (u+d)=true->∃i,u<=i/\i<u+d/\f i=false/\f (i+1)=true
 |0,u,h1,h2=>by rw[Nat.add_zero,h1]at h2;cases h2
 |d+1,u,h1,h2=>by
  cases h:f (u+d)with
  |true=>
   obtain⟨i,a,b,c,e⟩:=switch f d u h1 h
   exact⟨i,a,by omega,c,e⟩
  |false=>exact⟨u+d,by omega,by omega,h,h2⟩
theorem Ov{n:Nat}{r q x s' w y w2 s:RP}(ir:Iv n r.1 r.2)(iq:Iv n q.1 q.2)(ix:Iv n x.1 x.2)(Yw:Iv n s'.1 s'.2)(iw:Iv n w.1 w.2)(iy:Iv n y.1 y.2)(Jr:Iv n w2.1 w2.2)
  (hrq:mr r q=[])(hws:mr w s'=[])(hw:Lg n w q x)(Yx:Lf n q x)(axs:Lf n x s')(Lh:Lg n w y w2)(Yy:Lf n y w2)(ary:Lf n r y):mr w2 s'=[]:=by
 refine(kL Jr Yw).mpr fun j hj hd=>byContradiction fun hc=>?_
 have hstop:=(kL iw Yw).mp hws j hj hd
 obtain⟨v0,v1,v2⟩:=iw.rs j (by omega)
 obtain⟨u0,u1,u2⟩:=iw.rs (j+1) hj
 generalize hv:(aa w.1 j).toNat=v at*
 generalize hu:(aa w.1 (j+1)).toNat=u at*
 have huv:u<v:=by omega
 have hy:aa y.2 v<aa y.2 u:=by
  refine byContradiction fun hz=>?_
  obtain⟨a1,a2,a3⟩:=iy.sr u (by omega)
  obtain⟨b1,b2,b3⟩:=iy.sr v (by omega)
  have e1:=Lh u (by omega)
  have e2:=Lh v (by omega)
  rw[u2]at e1
  rw[v2]at e2
  obtain⟨c1,c2,c3⟩:=Jr.sr (aa y.2 u).toNat (by omega)
  obtain⟨d1,d2,d3⟩:=Jr.sr (aa y.2 v).toNat (by omega)
  rw[<-e1,show(((j+1:Nat):Int)).toNat=j+1 by omega]at c3
  rw[<-e2,toNat_natCast]at d3
  have hne:aa y.2 u≠aa y.2 v:=fun e=>by
   have:=iy.DG (v:=u) (w:=v) (by omega) (by omega) e
   omega
  omega
 have hq:aa q.2 v<aa q.2 u:=by
  refine byContradiction fun hz=>?_
  obtain⟨a1,a2,a3⟩:=iq.sr u (by omega)
  obtain⟨b1,b2,b3⟩:=iq.sr v (by omega)
  have e1:=hw u (by omega)
  have e2:=hw v (by omega)
  rw[u2]at e1
  rw[v2]at e2
  have:=axs j (j+1) (by omega) hj hd
  obtain⟨c1,c2,c3⟩:=ix.sr (aa q.2 u).toNat (by omega)
  obtain⟨d1,d2,d3⟩:=ix.sr (aa q.2 v).toNat (by omega)
  rw[<-e1,show(((j+1:Nat):Int)).toNat=j+1 by omega]at c3
  rw[<-e2,toNat_natCast]at d3
  have hne:aa q.2 u≠aa q.2 v:=fun e=>by
   have:=iq.DG (v:=u) (w:=v) (by omega) (by omega) e
   omega
  omega
 obtain⟨i,i1,i2,i3,i4⟩:=switch (fun t=>decide (aa w.2 t<=j)) (v-u) u (by rw[decide_eq_false];omega) (by rw[show u+(v-u)=v by omega,decide_eq_true];omega)
 have i3':=of_decide_eq_false i3
 have i4':=of_decide_eq_true i4
 have y1:=Lh.calm iy Jr Yy (i:=u) (j:=i) i1 (by omega) (by omega)
 have y2:=Lh.calm iy Jr Yy (i:=i+1) (j:=v) (by omega) (by omega) (by omega)
 have q1:=hw.calm iq ix Yx (i:=u) (j:=i) i1 (by omega) (by omega)
 have q2:=hw.calm iq ix Yx (i:=i+1) (j:=v) (by omega) (by omega) (by omega)
 have hr:=(kL ir iq).mp hrq i (by omega) (by omega)
 have:=ary i (i+1) (by omega) (by omega) (by omega)
 omega
def y9:List RP->Prop
 |q::p::ps=>mr p q=[]/\y9 (p::ps)
 |_=>True
def xw(n:Nat)(R:List RP):Prop:=∀x∈R,Iv n x.1 x.2
theorem y9.tail {q:RP}{R:List RP}(h:y9 (q::R)):y9 R:=by
 cases R with
 |nil=>trivial
 |cons p ps=>exact h.2
structure Ow(n:Nat)(p c p' c':RP):Prop where
 ip:Iv n p'.1 p'.2
 ic:Iv n c'.1 c'.2
 fr:mr p' c'=[]
 ex:∃y,F9 n p c p' c' y
theorem i6{n:Nat}(hn:n<=7){p c:RP}(ip:Iv n p.1 p.2)(ic:Iv n c.1 c.2)(hi:Iv n (upTo n) (upTo n)):Ow n p c (fy 50 p c).1 (fy 50 p c).2:=
 ⟨(gA.xu 50 ip ic).1,(gA.xu 50 ip ic).2,BL hn 50 p c ip ic (by omega),BK ip 50 p c _ ip ic (F9.start ip hi)⟩
theorem Ow.none {n:Nat}{p c p' c':RP}(s:Ow n p c p' c')(ic:Iv n c.1 c.2)(ip:Iv n p.1 p.2)(e:p'=p):c'=c:=by
 obtain⟨y,o⟩:=s.ex
 subst e
 have hy:∀t,t<n->aa y.2 t=t:=fun t ht=>by
  have h1:=ip.rs t ht
  have:=o.pp (aa p'.1 t).toNat (by omega)
  rw[h1.2.2,toNat_natCast]at this
  exact this.symm
 refine BC (n:=n) s.ic ic ?_
 refine Iv.uniq (n:=n) (s:=c.2) ?_ ic
 have:c'.2=c.2:=bK (by rw[s.ic.ls,ic.ls]) fun t ht=>by
  rw[s.ic.ls]at ht
  rw[o.pq t ht,hy t ht,toNat_natCast]
 rw[<-this]
 exact s.ic
theorem Gb{n:Nat}(hn:n<=7)(hi:Iv n (upTo n) (upTo n)):∀(ps:List RP)(p c:RP),xw n (p::ps)->Iv n c.1 c.2->y9 (p::ps)->y9 ((fy 50 p c).2::uB ps (fy 50 p c).1)
 |[],p,c,hI,ic,_=>by
  have s:=i6 hn (hI p (by simp)) ic hi
  exact⟨s.fr,trivial⟩
 |r::ps,p,c,hI,ic,hL=>by
  have ip:=hI p (by simp)
  have ir:=hI r (by simp)
  have s:=i6 hn ip ic hi
  have s2:=i6 hn ir s.ip hi
  unfold uB
  by_cases e:(fy 50 r (fy 50 p c).1).1=r
  ·rw[if_pos e]
   have e2:=s2.none s.ip ir e
   have f2:=s2.fr
   rw[e,e2]at f2
   exact⟨s.fr,f2,hL.2⟩
  ·rw[if_neg e]
   refine⟨?_,Gb hn hi ps r _ (fun x hx=>hI x (mem_cons_of_mem _ hx)) s.ip hL.2⟩
   obtain⟨x,o⟩:=s.ex
   obtain⟨y,o2⟩:=s2.ex
   exact Ov (s:=c) ir ip o.iy s.ic s.ip o2.iy s2.ic hL.1 s.fr o.pp o.ap o.aq o2.pq o2.aq o2.ap
theorem Ox{n:Nat}(hn:n<=7)(hi:Iv n (upTo n) (upTo n)){R:List RP}{c:RP}(hI:xw n R)(ic:Iv n c.1 c.2)(hL:y9 R.reverse):y9 (uB R.reverse c):=by
 cases h:R.reverse with
 |nil=>exact trivial
 |cons p ps=>
  rw[h]at hL
  have Oz:xw n (p::ps):=fun x hx=>hI x (by rw[<-mem_reverse,h];exact hx)
  have s:=i6 hn (Oz p (by simp)) ic hi
  unfold uB
  by_cases e:(fy 50 p c).1=p
  ·rw[if_pos e]
   have e2:=s.none ic (Oz p (by simp)) e
   have f:=s.fr
   rw[e,e2]at f
   exact⟨f,hL⟩
  ·rw[if_neg e]
   exact Gb hn hi ps p c Oz ic hL
def Li(n:Nat)(p:RP):Prop:=∃a,a+1<n/\aa p.2 (a+1)<aa p.2 a
theorem BN{n:Nat}{p:RP}(ip:Iv n p.1 p.2)(hi:Iv n (upTo n) (upTo n))(h:¬Li n p):p=(upTo n,upTo n):=
 BC (n:=n) ip hi (Jk ip fun a ha hd=>h ⟨a,ha,hd⟩)
theorem OA{n:Nat}{p:RP}(h:Li n p):p≠(upTo n,upTo n):=fun e=>by
 obtain⟨a,ha,hd⟩:=h
 rw[e]at hd
 dsimp only at hd
 rw[aI ha,aI (by omega)]at hd
 omega
theorem Lg.Yz {n:Nat}{w q x:RP}(hp:Lg n w q x)(iq:Iv n q.1 q.2)(ix:Iv n x.1 x.2)(ad:Lf n q x){a:Nat}(ha:a+1<n)(h:aa q.2 (a+1)<aa q.2 a):aa w.2 (a+1)<aa w.2 a:=by
 refine byContradiction fun hc=>?_
 have:=hp.calm iq ix ad (i:=a) (j:=a+1) (by omega) ha (by omega)
 omega
theorem Gd{n:Nat}(hn:n<=7)(hi:Iv n (upTo n) (upTo n)):∀(ps:List RP)(p c:RP),xw n (p::ps)->Iv n c.1 c.2->y9 (p::ps)->(∀x∈p::ps,Li n x)->∀x∈uB ps (fy 50 p c).1,Li n x
 |[],p,c,hI,ic,_,hN,x,hx=>by
  have s:=i6 hn (hI p (by simp)) ic hi
  obtain⟨y,o⟩:=s.ex
  obtain⟨a,ha,hd⟩:=hN p (by simp)
  rw[mem_singleton.mp hx]
  exact⟨a,ha,o.pp.Yz (hI p (by simp)) o.iy o.ap ha hd⟩
 |r::ps,p,c,hI,ic,hL,hN,x,hx=>by
  have ip:=hI p (by simp)
  have ir:=hI r (by simp)
  have s:=i6 hn ip ic hi
  have s2:=i6 hn ir s.ip hi
  obtain⟨z,o⟩:=s.ex
  obtain⟨y,o2⟩:=s2.ex
  obtain⟨a,ha,hd⟩:=hN p (by simp)
  have HA:=o.pp.Yz ip o.iy o.ap ha hd
  unfold uB at hx
  by_cases e:(fy 50 r (fy 50 p c).1).1=r
  ·rw[if_pos e]at hx
   rcases mem_cons.mp hx with rfl|hx
   ·exact⟨a,ha,HA⟩
   ·exact hN x (mem_cons_of_mem _ hx)
  ·rw[if_neg e]at hx
   rcases mem_cons.mp hx with rfl|hx
   ·refine byContradiction fun hc=>?_
    have e2:=BN s2.ic hi hc
    have hy:∀t,t<n->aa (fy 50 p c).1.2 t=aa y.2 t:=fun t ht=>by
     have h1:=o2.iy.sr t ht
     have:=o2.pq t ht
     rw[e2]at this
     dsimp only at this
     rw[aI (by omega)]at this
     omega
    rw[hy _ ha,hy _ (by omega)]at HA
    have h1:=o2.ap a (a+1) (by omega) ha HA
    have h2:=(kL ir ip).mp hL.1 a ha hd
    omega
   ·exact Gd hn hi ps r _ (fun x hx=>hI x (mem_cons_of_mem _ hx)) s.ip hL.2 (fun x hx=>hN x (mem_cons_of_mem _ hx)) x hx
structure Au(n:Nat)(R:List RP):Prop where
 iv:xw n R
 lw:y9 R.reverse
 ns:∀x∈R,Li n x
theorem xx{n:Nat}:∀(R:List RP)(p:RP),(∀x∈R,Iv n x.1 x.2)->Iv n p.1 p.2->∀x∈uB R p,Iv n x.1 x.2
 |[],p,_,hp,x,hx=>by rw[mem_singleton.mp hx];exact hp
 |r::R,p,hR,hp,x,hx=>by
  obtain⟨i1,i2⟩:=gA.xu 50 (hR r (by simp)) hp
  unfold uB at hx
  split at hx
  ·rcases mem_cons.mp hx with rfl|hx
   ·exact hp
   ·exact hR x hx
  ·rcases mem_cons.mp hx with rfl|hx
   ·exact i2
   ·exact xx R _ (fun y hy=>hR y (by simp[hy])) i1 x hx
theorem Ge{n:Nat}(hn:n<=7)(hi:Iv n (upTo n) (upTo n)){R:List RP}{c:RP}(h:Au n R)(ic:Iv n c.1 c.2):∃d T,uB R.reverse c=d::T/\∀x∈T,Li n x:=by
 cases hr:R.reverse with
 |nil=>exact⟨c,[],rfl,fun x hx=>nomatch hx⟩
 |cons p ps=>
  have Oz:xw n (p::ps):=fun x hx=>h.iv x (by rw[<-mem_reverse,hr];exact hx)
  have YA:∀x∈p::ps,Li n x:=fun x hx=>h.ns x (by rw[<-mem_reverse,hr];exact hx)
  have hL:=h.lw
  rw[hr]at hL
  unfold uB
  by_cases e:(fy 50 p c).1=p
  ·rw[if_pos e]
   exact⟨c,p::ps,rfl,YA⟩
  ·rw[if_neg e]
   exact⟨_,_,rfl,Gd hn hi ps p c Oz ic hL YA⟩
theorem Gf{n:Nat}(hn:n<=7)(hi:Iv n (upTo n) (upTo n)){R:List RP}{c:RP}(h:Au n R)(ic:Iv n c.1 c.2):Au n (fY n R c):=by
 have Wo:=Ox hn hi h.iv ic h.lw
 have Pz:=xx R.reverse c (fun x hx=>h.iv x (by simpa using hx)) ic
 obtain⟨d,T,e,hT⟩:=Ge hn hi h ic
 have RM:(sU R c).getLast?=some d:=by unfold sU;rw[e];simp
 have RN:(sU R c).dropLast=T.reverse:=by unfold sU;rw[e];simp
 unfold fY
 rw[RM]
 by_cases hd:some d=some (upTo n,upTo n)
 ·rw[if_pos hd,RN]
  rw[e]at Wo Pz
  exact⟨fun x hx=>Pz x (mem_cons_of_mem _ (by simpa using hx)),by rw[reverse_reverse];exact Wo.tail,fun x hx=>hT x (by simpa using hx)⟩
 ·rw[if_neg hd]
  unfold sU
  refine⟨fun x hx=>Pz x (by simpa using hx),by rw[reverse_reverse];exact Wo,fun x hx=>?_⟩
  rw[mem_reverse,e]at hx
  rcases mem_cons.mp hx with rfl|hx
  ·refine byContradiction fun hc=>hd ?_
   rw[BN (Pz x (by rw[e];exact mem_cons_self)) hi hc]
  ·exact hT x hx
theorem BO{n:Nat}(hn:n<=7)(hi:Iv n (upTo n) (upTo n)):∀(rs:List (List Int))(R:List RP),(∀r∈rs,bw n r)->Au n R->Au n (rs.foldl (fun R r=>fY n R (r,uC r)) R)
 |[],R,_,h=>h
 |r::rs,R,hr,h=>BO hn hi rs _ (fun x hx=>hr x (by simp[hx])) (Gf hn hi h (o8 (hr r (by simp))))
theorem C4{n:Nat}{r s:List Int}(h:Iv n r s)(hd:∀j,j+1<n->aa r (j+1)<aa r j):r=(upTo n).reverse:=by
 have up:∀j,j<n->aa r j<=(n:Int)-1-j:=fun j=>by
  induction j with
  |zero=>intro h0;have:=(h.rs 0 h0).2.1;omega
  |succ j ih=>intro hj;have:=ih (by omega);have:=hd j hj;omega
 have dn:∀d j,j+d+1=n->(d:Int)<=aa r j:=fun d=>by
  induction d with
  |zero=>intro j hj;exact(h.rs j (by omega)).1
  |succ d ih=>intro j hj;have:=ih (j+1) (by omega);have:=hd j (by omega);omega
 refine bK (by rw[h.lr,length_reverse,ar]) fun j hj=>?_
 rw[h.lr]at hj
 have h1:=up j hj
 have h2:=dn (n-1-j) j (by omega)
 have h3:aa (upTo n).reverse j=((n-1-j:Nat):Int):=by
  unfold aa
  rw[getElem?_reverse (by rw[ar];exact hj),ar,ng n _ (by omega)]
  rfl
 omega
theorem Av{n:Nat}{p:RP}(ip:Iv n p.1 p.2)(hh:Iv n (mw n).1 (mw n).2)(h:mr p (mw n)=[]):p=mw n:=by
 refine BC (n:=n) ip hh (C4 ip fun j hj=>(kL ip hh).mp h j hj ?_)
 have c:∀p,p<n->aa (upTo n).reverse p=((n-1-p:Nat):Int):=fun p hp=>by
  unfold aa
  rw[getElem?_reverse (by rw[ar];exact hp),ar,ng n _ (by omega)]
  rfl
 show aa (upTo n).reverse (j+1)<aa (upTo n).reverse j
 rw[c _ hj,c _ (by omega)]
 omega
theorem y9.at_:∀{l A B:List RP}{p q:RP},y9 l->l=A++q::p::B->mr p q=[]
 |_,[],B,p,q,h,e=>by rw[e]at h;exact h.1
 |l,a::A,B,p,q,h,e=>by
  rw[e,cons_append]at h
  exact y9.at_ h.tail rfl
theorem Au.nb {n:Nat}{R A B:List RP}{p q:RP}(h:Au n R)(e:R=A++p::q::B):mr p q=[]:=
 h.lw.at_ (A:=B.reverse) (B:=A.reverse) (by rw[e];simp)
theorem BP{n:Nat}(hh:Iv n (mw n).1 (mw n).2){R:List RP}(h:Au n R):∀(B A:List RP)(p:RP),R=A++p::B->p≠mw n->∀x∈p::B,x≠mw n
 |[],A,p,e,hp,x,hx=>by rw[mem_singleton.mp hx];exact hp
 |q::B,A,p,e,hp,x,hx=>by
  have ip:=h.iv p (by rw[e];simp)
  have hq:q≠mw n:=fun z=>by
   have:=h.nb e
   rw[z]at this
   exact hp (Av ip hh this)
  rcases mem_cons.mp hx with rfl|hx
  ·exact hp
  ·exact BP hh h B (A++[p]) q (by rw[e];simp) hq x hx
theorem za{n:Nat}(R:List RP):R=replicate (kg n R) (mw n)++R.drop (kg n R):=by
 unfold kg
 induction R with
 |nil=>rfl
 |cons p R ih=>
  by_cases h:p=mw n
  ·rw[List.takeWhile_cons_of_pos (by simpa using h),length_cons,replicate_succ,List.drop_succ_cons,cons_append,<-ih,h]
  ·rw[List.takeWhile_cons_of_neg (by simpa using h)]
   rfl
theorem Gg{n:Nat}(R:List RP):∀p B,R.drop (kg n R)=p::B->p≠mw n:=by
 unfold kg
 induction R with
 |nil=>intro p B h;cases h
 |cons q R ih=>
  intro p B h
  by_cases hq:q=mw n
  ·rw[List.takeWhile_cons_of_pos (by simpa using hq),length_cons,List.drop_succ_cons]at h
   exact ih p B h
  ·rw[List.takeWhile_cons_of_neg (by simpa using hq)]at h
   have:q=p:=(List.cons.inj h).1
   rw[<-this];exact hq
theorem C5{n:Nat}(hh:Iv n (mw n).1 (mw n).2){R:List RP}(h:Au n R):∀x∈R.drop (kg n R),x≠mw n:=fun x hx=>by
 cases e:R.drop (kg n R)with
 |nil=>rw[e]at hx;cases hx
 |cons p B=>
  rw[e]at hx
  exact BP hh h B (replicate (kg n R) (mw n)) p (by rw[<-e];exact za R) (Gg R p B e) x hx
def cmp(o r:List Int):List Int:=r.map fun s=>aa o s.toNat
def sX(o:List Int)(R:List (List Int)):List Int:=R.foldl cmp o
def iJ(R:List (List Int)):Nat:=(R.map dR).sum
theorem cL{o r:List Int}{t:Nat}(h:t<r.length):aa (cmp o r) t=aa o (aa r t).toNat:=by
 unfold cmp
 have:=cK h
 unfold aa at this⊢
 rw[getElem?_map,this]
 rfl
theorem lE(o:List Int)(a b:List (List Int)):sX o (a++b)=sX (sX o a) b:=foldl_append
theorem qb(a b:List (List Int)):iJ (a++b)=iJ a+iJ b:=by unfold iJ;rw[map_append,sum_append]
theorem BQ{n:Nat}{o r q s:List Int}(iq:Iv n q s)(hr:r.length=n):cmp (cmp o r) q=cmp o (cmp r q):=by
 refine bK (by unfold cmp;simp) fun t ht=>?_
 have z0:t<q.length:=by unfold cmp at ht;simpa using ht
 have h1:=iq.rs t (by rw[<-iq.lr];exact z0)
 rw[cL z0,cL (by rw[hr];omega),cL (by unfold cmp;simpa using z0),cL z0]
theorem F9.prd {n:Nat}{p0 q0 p q y:RP}(o:F9 n p0 q0 p q y)(Tu:Iv n q0.1 q0.2)(RL:Iv n p0.1 p0.2)(ip:Iv n p.1 p.2)(iq:Iv n q.1 q.2):cmp p.1 q.1=cmp p0.1 q0.1:=by
 refine bK (by unfold cmp;simp[iq.lr,Tu.lr]) fun t ht=>?_
 have z0:t<n:=by unfold cmp at ht;rw[length_map,iq.lr]at ht;exact ht
 rw[cL (by rw[iq.lr];exact z0),cL (by rw[Tu.lr];exact z0)]
 obtain⟨a1,a2,a3⟩:=iq.rs t z0
 obtain⟨b1,b2,b3⟩:=Tu.rs t z0
 obtain⟨c1,c2,c3⟩:=o.iy.rs (aa q.1 t).toNat (by omega)
 rw[o.pl _ (by omega)]
 have h1:=o.pq (aa y.1 (aa q.1 t).toNat).toNat (by omega)
 rw[c3,toNat_natCast,a3]at h1
 have:=Tu.DG (v:=(aa y.1 (aa q.1 t).toNat).toNat) (w:=(aa q0.1 t).toNat) (by omega) (by omega) (by rw[h1,b3])
 rw[this]
theorem Gi{n:Nat}{o s:List Int}(h:Iv n o s){a:Nat}(ha:a+1<n):(aa o a<aa o (a+1)->dR (fJ o a)=dR o+1)/\(aa o (a+1)<aa o a->dR (fJ o a)+1=dR o):=by
 have e:=sQ o a [] (by rw[h.lr];exact ha)
 unfold dR
 constructor
 ·intro c
  rw[if_neg (by omega),if_pos c]at e
  omega
 ·intro c
  rw[if_pos c,if_neg (by omega)]at e
  omega
theorem BR{n:Nat}:∀(f:Nat)(p q:RP),Iv n p.1 p.2->Iv n q.1 q.2->dR (fy f p q).1.1+dR (fy f p q).2.1=dR p.1+dR q.1
 |0,p,q,_,_=>rfl
 |f+1,p,q,ip,iq=>by
  cases h:(mr p q).getLast? with
  |none=>rw[nk _ h]
  |some k=>
   obtain⟨j,rfl,hj,h1,h2⟩:=nX ip iq (mem_of_getLast? h)
   rw[nj f h,show((j:Int)+1-1).toNat=j by omega,BR f _ _ (rg ip hj) (rh iq hj)]
   have e1:=(Gi ip hj).1 h1
   have e2:=(Gi iq.symm hj).2 h2
   have e3:=Ao iq
   have e4:=Ao (rh iq hj)
   show dR (fJ p.1 j)+dR (zC q j).1=_
   have e5:dR (zC q j).2=dR (fJ q.2 j):=rfl
   omega
theorem Gj{n:Nat}(hn:n<=7)(hi:Iv n (upTo n) (upTo n)){p c:RP}(ip:Iv n p.1 p.2)(ic:Iv n c.1 c.2):cmp (fy 50 p c).1.1 (fy 50 p c).2.1=cmp p.1 c.1:=by
 have s:=i6 hn ip ic hi
 obtain⟨y,o⟩:=s.ex
 exact o.prd ic ip s.ip s.ic
def fwd(R:List RP):List (List Int):=(R.reverse).map (·.1)
theorem kM(p:RP)(R:List RP):fwd (p::R)=fwd R++[p.1]:=by unfold fwd;simp
theorem BU{n:Nat}(hn:n<=7)(hi:Iv n (upTo n) (upTo n)):∀(R:List RP)(c:RP),xw n R->Iv n c.1 c.2->(∀o,sX o (fwd (uB R c))=sX o (fwd R++[c.1]))/\iJ (fwd (uB R c))=iJ (fwd R)+dR c.1
 |[],c,_,_=>⟨fun o=>rfl,by unfold uB iJ fwd;simp⟩
 |p::ps,c,hI,ic=>by
  have ip:=hI p (by simp)
  have s:=i6 hn ip ic hi
  unfold uB
  by_cases e:(fy 50 p c).1=p
  ·rw[if_pos e]
   exact⟨fun o=>by rw[kM],by rw[kM,qb];simp[iJ]⟩
  ·rw[if_neg e]
   obtain⟨h1,h2⟩:=BU hn hi ps (fy 50 p c).1 (fun x hx=>hI x (by simp[hx])) s.ip
   refine⟨fun o=>?_,?_⟩
   ·rw[kM,lE,h1 o,kM,List.append_assoc,lE,lE]
    show cmp (cmp (sX o (fwd ps)) (fy 50 p c).1.1) (fy 50 p c).2.1=cmp (cmp (sX o (fwd ps)) p.1) c.1
    rw[BQ s.ic s.ip.lr,Gj hn hi ip ic,<-BQ ic ip.lr]
   ·rw[kM,qb,h2,kM,qb]
    have:=BR 50 p c ip ic
    have e1:∀r:List Int,iJ [r]=dR r:=fun r=>by simp[iJ]
    rw[e1,e1]
    omega
theorem Js{n:Nat}(hn:n<=7)(hi:Iv n (upTo n) (upTo n))(c0:dR (upTo n)=0){R:List RP}{c:RP}(hI:xw n R)(ic:Iv n c.1 c.2):(∀o:List Int,o.length=n->sX o ((fY n R c).map (·.1))=sX o (R.map (·.1)++[c.1]))/\iJ ((fY n R c).map (·.1))=iJ (R.map (·.1))+dR c.1:=by
 have Oz:xw n R.reverse:=fun x hx=>hI x (by simpa using hx)
 obtain⟨h1,h2⟩:=BU hn hi R.reverse c Oz ic
 have ef:fwd (uB R.reverse c)=(sU R c).map (·.1):=rfl
 have er:fwd R.reverse=R.map (·.1):=by unfold fwd;rw[reverse_reverse]
 rw[ef,er]at h2
 unfold fY
 by_cases hd:(sU R c).getLast?=some (upTo n,upTo n)
 ·rw[if_pos hd]
  have hne:sU R c≠[]:=fun z=>by rw[z]at hd;cases hd
  have wM:(sU R c).dropLast++[(upTo n,upTo n)]=sU R c:=by
   have:=List.dropLast_concat_getLast hne
   rw[List.getLast?_eq_some_getLast hne]at hd
   rw[Option.some.inj hd]at this
   exact this
  rw[<-wM,map_append,qb]at h2
  have e1:iJ ([((upTo n,upTo n):RP)].map (·.1))=0:=by simp[iJ,c0]
  rw[e1]at h2
  refine⟨fun o ho=>?_,h2⟩
  have h3:=h1 o
  rw[ef,er,<-wM,map_append,lE]at h3
  rw[<-h3]
  show _=cmp (sX o ((sU R c).dropLast.map (·.1))) (upTo n)
  have hl:(sX o ((sU R c).dropLast.map (·.1))).length=n:=by
   have Pz:=xx R.reverse c (fun x hx=>hI x (by simpa using hx)) ic
   have ha:∀x∈(sU R c).dropLast,x.1.length=n:=fun x hx=>by
    rw[dropLast_eq_take]at hx
    have:=mem_of_mem_take hx
    unfold sU at this
    exact(Pz x (by simpa using this)).lr
   generalize (sU R c).dropLast=Z at ha
   clear wM h3 h2 h1
   induction Z generalizing o with
   |nil=>exact ho
   |cons z Z ih=>
    refine ih (cmp o z.1) ?_ fun x hx=>ha x (by simp[hx])
    unfold cmp
    rw[length_map]
    exact ha z (by simp)
  refine bK (by unfold cmp;rw[length_map,hl,ar]) fun t ht=>?_
  rw[hl]at ht
  rw[cL (by rw[ar];exact ht),aI ht,toNat_natCast]
 ·rw[if_neg hd]
  exact⟨fun o _=>by have:=h1 o;rw[ef,er]at this;exact this,h2⟩
def tCI(K:PySem.W.Frag)(caps:List Nat)(tl te:TE):TE:=fun σ H Q=>DT K tl σ H fun J H1=>∃(l:Addr)(xs vs:List V),J=Md K l/\b7 K H1 l xs/\vs.length=caps.length/\(∀(j i:Nat)(v:V),caps[j]?=some i->vs[j]?=some v->σ[i]?=some (some v))/\
 ∀Dd,H1 Dd=none->∃Pv:Nat->List V->Hp->Prop,Pv 0 [] (upd H1 Dd (.lst []))/\(∀i acc Hx,Pv i acc Hx->b7 K Hx l xs/\Hx Dd=some (.lst acc))/\
  (∀i acc Hx x,Pv i acc Hx->xs[i]?=some x->te (some x::vs.map some) Hx fun v H2=>H2 Dd=some (.lst acc)/\acc.length<sizeLine/\Pv (i+1) (acc++[v]) (upd H2 Dd (.lst (acc++[v]))))/\∀acc Hx,Pv xs.length acc Hx->Q (.ref Dd) Hx
section
variable{X:Cx}{pos:Pos}{scope:Scope}{N:List Str}{caps:List Nat}
theorem Gk{elt tg iter:Expr}{tl te:TE}(S:gU X scope N 1 caps)(pL:X.calm=true)(hi:PI X tg iter (DT X.K tl))(hg:∀s H fp C pl,PG (qO X scope N s H fp C pl) tg (DP 0))(he:∀s H fp C pl,PE (qO X scope N s H fp C pl) elt te)
  (hs:∀x,foldedSetIterable iter X.env x=pure x:=by intro _;rfl):PE X (.ListComp elt [⟨tg,iter,[],0⟩] scope pos) (tCI X.K caps tl te):=by
 intro pins s σ H Q I h
 rw[eval_ListComp]
 refine wpAny_comprehension_free (use:=none) rfl hs (j9 (S.cells I)) S.kind S.names ?_
 refine bD (hi pins s σ H (fun J H1=>∃(l:Addr)(xs vs:List V),J=Md X.K l/\b7 X.K H1 l xs/\vs.length=caps.length/\(∀(j i:Nat)(v:V),caps[j]?=some i->vs[j]?=some v->σ[i]?=some (some v))/\
  ∀Dd,H1 Dd=none->∃Pv:Nat->List V->Hp->Prop,Pv 0 [] (upd H1 Dd (.lst []))/\(∀i acc Hx,Pv i acc Hx->b7 X.K Hx l xs/\Hx Dd=some (.lst acc))/\
   (∀i acc Hx x,Pv i acc Hx->xs[i]?=some x->te (some x::vs.map some) Hx fun v H2=>H2 Dd=some (.lst acc)/\acc.length<sizeLine/\Pv (i+1) (acc++[v]) (upd H2 Dd (.lst (acc++[v]))))/\∀acc Hx,Pv xs.length acc Hx->Q (.ref Dd) Hx) I ?_) fun v s1 h1=>bD h1 fun itv s2 h2=>?_
 ·exact h
 obtain⟨it,fp,tn,J,H2,rfl,I2,T,yb,f2,l,xs,vs,rfl,hq,MO,hvs,hinv⟩:=h2
 refine wpAny_newObj_type (wpAny_newFunctionEnv S.cell (by intro y hy;simp at hy) (fun h₁ zZ hsb₁=>?_) S.kind)
 dsimp only at zZ hsb₁⊢
 have CP:H2 s2.heap.objs.size=none:=I2.hok.fresh (Nat.le_refl _)
 have I3:Inv X pins σ (upd H2 s2.heap.objs.size (.lst [])) {s2 with heap:=s2.heap.push {cls:=.type "list",dict:=none,data:=.seq ([]:List Value).toArray}}:=
  I2.laid (t':=s2.toks) (fun b u e=>Heap.get?_push_of_some _ e) (Nat.le_refl _) ⟨zero_le _,[],0,.nil,Heap.get?_push_size _ rfl⟩
 generalize Kc:({s2 with heap:=s2.heap.push {cls:=.type "list",dict:=none,data:=.seq ([]:List Value).toArray}}:Shared)=s3 at I3
 have Es:s3.heap=s2.heap.push {cls:=.type "list",dict:=none,data:=.seq ([]:List Value).toArray}:=by rw[<-Kc]
 rw[<-Es]at zZ hsb₁⊢
 generalize QV:s2.heap.objs.size=Dd at*
 have k3:∀b o,s3.heap.get? b=some o->h₁.get? b=some o:=fun b o e=>hsb₁.extBut b o (ne_of_lt (Heap.lt_size e)) (Heap.get?_push_of_some _ e)
 have yt:∀b∈fp,∃o,s2.heap.get? b=some o:=fun b hb=>let⟨o,e,_⟩:=T.obj 0 _ yb b hb;⟨o,e⟩
 have Et:∀b∈fp,∃o,s3.heap.get? b=some o:=fun b hb=>let⟨o,e⟩:=yt b hb;⟨o,by rw[Es];exact Heap.get?_push_of_some _ e⟩
 have QW:∀b∈fp,b≠Dd:=fun b hb=>let⟨o,e⟩:=yt b hb;by rw[<-QV];exact ne_of_lt (Heap.lt_size e)
 have f3:∀b∈fp,jI X pins (upd H2 Dd (.lst [])) b:=fun b hb=>⟨by rw[ah (QW b hb)];exact(f2 b hb).1,(f2 b hb).2⟩
 have I4:=S.start (t':=s2.toks+([]:List (Str×Value)).length) I3 f3 (Nat.le_refl _) zZ k3 Et MO (fun j i v e1 e2=>hvs j i v e1 e2) _ rfl
 generalize hX:qO X scope N s3 (upd H2 Dd (.lst [])) fp s3.heap.objs.size (X.pn++pins)=X' at I4
 have Kd:=hg s3 (upd H2 Dd (.lst [])) fp s3.heap.objs.size (X.pn++pins)
 have Hf:=he s3 (upd H2 Dd (.lst [])) fp s3.heap.objs.size (X.pn++pins)
 rw[hX]at Kd Hf
 have eK:X'.K=X.K:=by rw[<-hX];rfl
 have eP:X'.prog=X.prog:=by rw[<-hX];rfl
 have eW:X'.w=X.w:=by rw[<-hX];rfl
 have eA:X'.A=X.A:=by rw[<-hX];rfl
 have eE:X'.xe=fun _ _=>False:=by rw[<-hX];rfl
 have eC:X'.calm=true:=by rw[<-hX];exact pL
 have eL:X'.env.locals=s3.heap.objs.size:=by rw[<-hX];rfl
 have eS:X'.s₀=s3:=by rw[<-hX];rfl
 have eX:X'.ex=fp:=by rw[<-hX];rfl
 have eF:X'.fs=xR X.stack:=by rw[<-hX];rfl
 have eN:X'.pn=X.pn++pins:=by rw[<-hX];rfl
 have eH:X'.H₀=upd H2 Dd (.lst []):=by rw[<-hX];rfl
 have eV:X'.env=compEnvC scope (vW X.env.cells scope.names []) s3.heap.objs.size X.env:=by rw[<-hX];rfl
 have Eu:∀{Hx:Hp},(∀b∈fp,Hx b=none)->∀b∈fp,jI X' [] Hx b:=fun{Hx} hn b hb=>by
  obtain⟨_,c1,c2,c3,c4,c5⟩:=f3 b hb
  have q:=I4.ok.LX b (by rw[eX];exact hb)
  refine⟨hn b hb,q.1,I4.ok.wI b (by rw[eX];exact hb),.inl (by rw[eX];exact hb),q.2,fun p hp=>?_⟩
  rw[eN,append_nil]at hp
  exact c5 p hp
 obtain⟨Pv,pv0,pvl,pvs,pvd⟩:=hinv Dd CP
 have loop:∀s4:Shared,Inv X' [] (replicate 1 none++vs.map some) (upd H2 Dd (.lst [])) s4->tn 0 s4.heap->
   codeAny (model X.prog X.w) X.A (.compLoop (.ListComp elt [⟨tg,iter,[],0⟩] scope pos) 0 (.ref it) (.ref Dd) (compEnvC scope (vW X.env.cells scope.names []) s3.heap.objs.size X.env))
    (compPost (model X.prog X.w) X.A X.xe none (EP X pins σ Q) (.ref Dd) s3.heap.objs.size) s4:=by
  intro s4 J4 yu
  refine mJ (fun n s'=>∃(i:Nat)(acc:List V)(Hx:Hp)(t0:Option V),n=xs.length-i/\i<=xs.length/\Inv X' [] (t0::vs.map some) Hx s'/\tn i s'.heap/\(∀b∈fp,Hx b=none)/\Pv i acc Hx) ?_ xs.length
   ⟨0,[],_,none,by simp,zero_le _,J4,yu,fun b hb=>(f3 b hb).1,pv0⟩
  rintro n s5 ⟨i,acc,Hx,t0,rfl,X1,J5,Dt,CA,p5⟩
  obtain⟨Wq,Hg⟩:=pvl i acc Hx p5
  by_cases hlt:i<xs.length
  ·have hx:xs[i]?=some xs[i]:=getElem?_eq_getElem hlt
   have TI:=T.item X' eP eW eK eC i [] s5 _ Hx (fun _ _=>False) J5 (Eu CA) Dt ⟨xs,xs[i],Wq,hx⟩
   rw[eA]at TI
   refine bD TI fun r s6 h6=>?_
   obtain⟨u,rfl,h6⟩:=h6
   refine bD h6 fun _ s7 h7=>?_
   obtain⟨x,H7,J7,rx,⟨rfl,hy⟩,Ew,QY⟩:=h7
   have exi:=hy xs Wq
   have QZ:=J7.pinned (Eu QY) (T.obj _ _ Ew)
   have TG:=Kd _ s7 _ H7 x u (fun σ8 H8=>σ8=some x::vs.map some/\H8=H7) QZ rx ⟨rfl,rfl⟩
   rw[eP,eW,eA,eE,eV]at TG
   refine bD TG fun _ s8 h8=>?_
   obtain⟨σ8,H8,J8,rfl,rfl⟩:=h8
   refine bD (wpAny_tests_nil (Q:=fun b s'=>b=true/\s'=s8) ⟨rfl,rfl⟩) fun ok s9 h9=>?_
   obtain⟨rfl,rfl⟩:=h9
   have tZ:∀{σx:St}{Hy:Hp}{sx:Shared},Inv X' ([]++oW fp s7.heap) σx Hy sx->tn (i+1) sx.heap/\∀b∈fp,Hy b=none:=fun{σx Hy sx} Jx=>
    ⟨T.keep _ _ _ Ew fun b hb o e=>(Jx.pin (b,o) (mem_append_right _ (mem_append_right _ (du hb e)))).1,fun b hb=>by
     obtain⟨o,e,d⟩:=T.obj _ _ Ew b hb
     exact(Jx.pin (b,o) (mem_append_right _ (mem_append_right _ (du hb e)))).2.1⟩
   rw[if_pos rfl]
   have TE:=Hf _ s9 _ H8 _ J8 (pvs i acc H8 x p5 exi)
   rw[eP,eW,eA,eE,eV]at TE
   refine bD TE fun y Iu Q1=>?_
   obtain⟨v,pM,Q2,rv,Ex,hlen,p10⟩:=Q1
   have TM:=cV (X:=X') _ Iu _ pM (.ref Dd) [v] (.ref Dd) [y] (fun _ Iw=>Iw=upd pM Dd (.lst (acc++[v]))) Q2 rfl (.cons rv .nil) ⟨Dd,acc,v,rfl,rfl,Ex,hlen,rfl⟩
   rw[eP,eW,eA,eE]at TM
   refine bD TM fun _ X2 h11=>?_
   obtain⟨v',Iw,Ke,_,rfl⟩:=h11
   obtain⟨k1,k2⟩:=tZ Ke
   exact⟨xs.length-(i+1),by omega,i+1,acc++[v],_,some x,rfl,hlt,Ke.g8,k1,k2,p10⟩
  ·have e:i=xs.length:=by omega
   subst e
   have TD:=T.done X' eP eW eK eC xs.length [] s5 _ Hx (fun _ _=>False) J5 (Eu CA) Dt ⟨xs,Wq,Nat.le_refl _⟩
   rw[eA]at TD
   refine bD TD fun r s6 h6=>?_
   obtain⟨rfl,J6⟩:=h6
   obtain⟨m6,Dw,_⟩:=J6.loc
   rw[eL]at Dw
   have Q4:Un (xR X.stack) fp (upd H2 Dd (.lst [])) Hx s3.heap s6.heap:=by
    have u:=J6.base
    rw[eF,eX,eH,eS]at u
    exact u
   have hxC:Hx s3.heap.objs.size=none:=by have:=J6.free;rw[eL]at this;exact this
   have Ez:nK X.prog X.w Hx s6.heap:=by
    have z:=J6.hok
    rw[eP,eW]at z
    exact z
   have Q5:s6.os=s3.os:=by have:=J6.os;rw[eS]at this;exact this
   have I6:Inv X pins σ Hx s6:=I3.DI (s':=s6) Q5 Q4 Ez J6.bare fun b hb=>by
    obtain⟨_,c1,c2,c3,c4,c5⟩:=f3 b hb
    exact⟨c3,c1,c4,c5⟩
   have fC:jI X pins Hx s3.heap.objs.size:=⟨hxC,(I3.zJ (Nat.le_refl _) (I3.hok.fresh (Nat.le_refl _))).2⟩
   refine⟨m6,Dw,fun h7 Q6=>⟨.ref Dd,Hx,vX (fp:=[s3.heap.objs.size]) (t':=s6.toks) I6 (fun b hb=>by
    have z:b=s3.heap.objs.size:=by simpa using hb
    rw[z];exact fC) (fun b u hb e=>(Q6.2 b (fun z=>hb (by simp[z]))).trans e),rfl,pvd acc Hx p5⟩⟩
 have yu:tn 0 h₁:=T.keep _ _ _ yb fun b hb o e=>k3 b o (by rw[Es];exact Heap.get?_push_of_some _ e)
 have eG:({heap:=h₁,gens:=s3.gens,drawn:=s3.drawn,toks:=s2.toks+([]:List (Str×Value)).length,os:=s3.os}:Shared)={heap:=h₁,gens:=s2.gens,drawn:=s2.drawn,toks:=s2.toks+([]:List (Str×Value)).length,os:=s2.os}:=by rw[<-Kc]
 rw[eG]at I4
 exact codeAny_compStart_list (loop _ I4 yu) (T.self _ 0 _ _ _ yu (loop _ I4 yu))
end
def jq(env:DE):R Bool:=
 R.ok true
def jr(env:DE):R D:=
 (R.bind (bY 0 env) fun ky=>R.bind (R.ok (D.int 0)) fun gz=>wX ky gz)
def BV(env:DE):R Out:=
 (R.bind (R.bind (R.bind (R.bind (R.bind (R.bind (bY 4 env) fun v6=>R.bind (R.ok (D.int 0)) fun v7=>wX v6 v7) fun v4=>R.bind (R.bind (R.bind (R.bind (bY 1 env) qK) fun v9=>R.bind (cR env []) fun v10=>R.bind (R.ne (bu (bN 0) jq jr (dX 1 v10) v9)) fit) fun v8=>R.of (mR v8)) fun v5=>R.of (hU v4 v5)) fun v2=>R.bind (R.bind (R.bind (bY 4 env) fun kT=>R.bind (R.ok (D.int 1)) fun mm=>wX kT mm) fun kC=>R.bind (R.ok []) fun ly=>R.ok (kC::ly)) fun v3=>R.ok (v2::v3)) fit) fun ds=>R.ok (D.tup ds)) fun v1=>R.ok (Out.rt v1))
def cU(ds:List D):R D:=match ds with
 |[.int n,d]=>R.ne (R.bind (aS [d]) fun rs=> @ite _ ((1<=n/\n<=7)/\rs.length<=40/\∀r∈rs,bw n.toNat r) (propDecidable _) (R.bind (BV [.val (.int n),.val d,.no,.no,.val (rT n.toNat (fZ n.toNat rs))]) ai) .bad)
 |_=>.bad
def Gm(env:DE):R Out:=
 (R.bind (R.bind (R.bind (bY 0 env) fun v2=>R.bind (R.bind (R.bind (R.bind (bY 0 env) fun v6=>R.bind (R.bind (bY 1 env) fun v8=>R.bind (R.ok []) fun v9=>R.ok (v8::v9)) fun v7=>R.ok (v6::v7)) cT) fun v4=>R.bind (R.ok []) fun v5=>R.ok (v4::v5)) fun v3=>R.ok (v2::v3)) cU) fun v1=>R.ok (Out.rt v1))
def uD:=mD 2 2 Gm
def zb(env:DE):R Bool:=
 R.ok true
def uE(env:DE):R D:=
 (R.bind (lS 1 env) fun v85=>R.bind (aY 0 env) fun DF=>vm v85 DF)
def kN(d:D)(env:DE):R Out:=
 R.bind ((bN 7) d env) fun NY=>
  (aW (R.bind (R.bind (R.bind (R.bind (bY 7 NY) qK) fun Wd=>R.bind (cR NY [5]) fun Tn=>R.bind (R.ne (bu (bN 0) zb uE (dX 1 Tn) Wd)) fit) fun RA=>R.ok (D.lst RA)) fun Rz=>R.ok (Out.nx (List.set NY 5 (Sl.val Rz)))) fun NZ=>
 (R.bind (R.bind (aY 6 NZ) fun V0=>R.bind (R.bind (R.bind (aY 7 NZ) fun VZ=>R.bind (R.ok []) fun V9=>R.ok (VZ::V9)) dD) fun VY=>R.of (hU V0 VY)) fun Wb=>R.ok (Out.nx (List.set NZ 6 (Sl.val Wb)))))
def zc(env:DE):R Bool:=
 R.ok true
def uF(env:DE):R D:=
 (R.bind (R.bind (aY 0 env) fun Oe=>R.bind (R.ok (D.int 0)) fun Ob=>R.bind (R.of (zW Oe Ob)) jj) fun Oa=>if Oa=true then(R.ok (D.int 1))else(R.bind (R.ok (D.int 1)) fun Oc=>R.of (qL Oc)))
def Lj(env:DE):R Out:=
 (aW (R.bind (R.bind (R.bind (R.bind (R.bind (R.bind (aY 0 env) fun v7=>R.bind (R.bind (R.ok (D.int 0)) fun v9=>R.bind (R.ok []) fun v10=>R.ok (v9::v10)) fun v8=>R.ok (v7::v8)) cH) fun v5=>R.bind (R.bind (R.ok (D.int 10)) fun v11=>R.bind (R.ok (D.int 9)) fun lu=>R.of (Ei v11 lu)) fun v6=>R.of (oZ v5 v6)) fun v3=>R.bind (R.bind (R.ok (D.int 1)) fun ky=>R.bind (R.bind (R.ok (D.int 7)) fun kC=>R.bind (R.ok []) fun ly=>R.ok (kC::ly)) fun gz=>R.ok (ky::gz)) fun v4=>R.ok (v3::v4)) dC) fun v2=>R.ok (Out.nx (List.set env 1 (Sl.val v2)))) fun v1=>
 (aW (R.bind (R.bind (R.bind (bY 0 v1) fun mW=>R.bind (R.bind (bY 1 v1) fun qX=>R.bind (R.bind (R.ok (D.int 24)) fun qV=>R.bind (R.ok []) fun qW=>R.ok (qV::qW)) fun kU=>R.ok (qX::kU)) fun v20=>R.ok (mW::v20)) ig) fun mm=>R.ok (Out.nx (List.set v1 2 (Sl.val mm)))) fun kT=>
 (aW (R.bind (R.bind (lS 2 kT) fun vA=>R.ok (D.lst vA)) fun uo=>R.ok (Out.nx (List.set kT 3 (Sl.val uo)))) fun qY=>
 (aW (R.bind (R.bind (R.bind (bY 1 qY) fun v30=>R.bind (R.bind (bY 3 qY) fun Fi=>R.bind (R.ok []) fun Fl=>R.ok (Fi::Fl)) fun Fg=>R.ok (v30::Fg)) uD) fun Ag=>R.ok (Out.nx (List.set qY 4 (Sl.val Ag)))) fun xp=>
 (aW (R.bind (R.bind (R.bind (aY 3 xp) fun Fo=>R.bind (aY 2 xp) fun Hl=>R.bind (R.of (Bh Fo Hl)) jj) fun Ah=>if Ah=true then R.ok true else(R.bind (R.bind (R.bind (R.bind (aY 4 xp) fun Hm=>R.bind (R.bind (aY 1 xp) fun Bu=>R.bind (R.ok []) fun Ai=>R.ok (Bu::Ai)) fun Jg=>R.ok (Hm::Jg)) dE) jj) fun Fp=>R.ok (!Fp))) fun Fj=>if Fj=true then(R.bind (R.ok (D.bl false)) fun Ho=>R.ok (Out.rt Ho))else(R.ok (Out.nx xp))) fun DA=>
 (aW (R.bind (R.bind (R.bind (R.bind (aY 1 DA) fun Je=>R.bind (R.ok []) fun Jd=>R.ok (Je::Jd)) iY) fun Jc=>R.ok (D.lst Jc)) fun Jf=>R.ok (Out.nx (List.set DA 5 (Sl.val Jf)))) fun DD=>
 (aW (R.bind (R.bind (R.bind (bY 4 DD) fun Ry=>R.bind (R.ok (D.int 0)) fun NH=>wX Ry NH) fun Hn=>R.bind (R.bind (R.bind (aY 1 DD) fun NF=>R.bind (R.bind (aY 1 DD) fun NQ=>R.bind (R.ok (D.int 1)) fun Fv=>R.of (iD NQ Fv)) fun NG=>R.of (yo NF NG)) fun ND=>R.bind (R.ok (D.int 2)) fun Ft=>R.of (wV ND Ft)) fun NI=>R.of (yo Hn NI)) fun Fq=>R.ok (Out.nx (List.set DD 6 (Sl.val Fq)))) fun DB=>
 (aW (R.bind (R.bind (R.bind (R.bind (bY 4 DB) fun NX=>R.bind (R.ok (D.int 0)) fun NV=>wX NX NV) fun NN=>R.bind (R.ok (D.int 2)) fun NW=>R.of (oZ NN NW)) fun NP=>R.bind (R.ok (D.int 1)) fun NK=>R.bind (R.of (xU NP NK)) jj) fun NJ=>if NJ=true then(R.bind (R.bind (R.bind (lS 5 DB) fun NT=>R.ok (reverse NT)) fun NU=>R.ok (D.lst NU)) fun NR=>R.ok (Out.nx (List.set DB 5 (Sl.val NR))))else(R.ok (Out.nx DB))) fun Lb=>
 (aW (R.bind (R.bind (R.bind (bY 4 Lb) fun V5=>R.bind (R.ok (D.int 1)) fun V8=>wX V5 V8) qK) fun NS=>dO kN NS Lb) fun DC=>
 (R.bind (R.bind (R.bind (aY 5 DC) fun V2=>R.bind (R.bind (R.bind (bY 1 DC) fun V6=>R.bind (R.bind (bY 2 DC) fun N7=>R.bind (R.ok []) fun N9=>R.ok (N7::N9)) fun V7=>R.ok (V6::V7)) fW) fun V3=>R.of (xU V2 V3)) fun V4=>R.bind (jj V4) fun t=>if t=true then(R.bind (aY 6 DC) fun N3=>R.bind (R.bind (R.bind (R.bind (bY 2 DC) qK) fun N5=>R.bind (cR DC []) fun N8=>R.bind (R.ne (bu (bN 0) zc uF (dX 1 N8) N5)) fit) fun N4=>R.of (mR N4)) fun N6=>R.of (xU N3 N6))else R.ok (D.bl false)) fun V1=>R.ok (Out.rt V1)))))))))))
def uG:=mS 1 8 Lj
end DL
namespace DL.nq
open PySem PySem.Spec PyProof.Rows L2 DL
def top(i:Nat):Stmt:=PySem.Challenge.pw_braidcomb_k31_forms_are_sound.main.body.getD i (.Pass ⟨0,0,0,0⟩)
abbrev rn:Stmt:=top 4
theorem Aw:aw ["word"] ["word"] (ae rn):=oG
abbrev uH:Stmt:=top 5
theorem nv:aw ["word","left","k"] ["word"] (ae uH):=oG
abbrev rV:Stmt:=top 7
theorem xy:aw ["n"] ["n"] (ae rV):=oG
abbrev BW:Stmt:=top 8
theorem Gn:aw ["n"] ["n"] (ae BW):=oG
abbrev qc:Stmt:=top 9
theorem gW:aw ["row","places","place","string"] ["row"] (ae qc):=oG
abbrev uI:Stmt:=top 10
theorem C6:aw ["row"] ["row"] (ae uI):=oG
abbrev wo:Stmt:=top 11
theorem Ay:aw ["row"] ["row"] (ae wo):=oG
abbrev fz:Stmt:=top 12
theorem kh:aw ["row","k"] ["row","k"] (ae fz):=oG
abbrev f9:Stmt:=top 13
theorem kO:aw ["row","k"] ["row","k"] (ae f9):=oG
abbrev wq:Stmt:=top 14
theorem lF:aw ["n","word","row","k"] ["n","word"] (ae wq):=oG
abbrev uJ:Stmt:=top 15
theorem C7:aw ["row"] ["row"] (ae uJ):=oG
abbrev jt:Stmt:=top 16
theorem sy:aw ["row"] ["row"] (ae jt):=oG
abbrev uK:Stmt:=top 19
theorem jW:aw ["crossings","bits","k"] ["crossings"] (ae uK):=oG
abbrev Gq:Stmt:=top 22
theorem i7:aw ["n","word","pieces","order","sign_above","k","place","held"] ["n","word"] (ae Gq):=oG
abbrev nz:Stmt:=top 23
theorem sA:aw ["row"] ["row"] (ae nz):=oG
abbrev uL:Stmt:=top 24
theorem zd:aw ["n","piece"] ["n","piece"] (ae uL):=oG
abbrev nA:Stmt:=top 25
theorem sC:aw ["halves","row"] ["halves","row"] (ae nA):=oG
abbrev gE:Stmt:=top 26
theorem bp:aw ["steps","rows","halves","step"] ["steps"] (ae gE):=oG
abbrev gI:Stmt:=top 27
theorem di:aw ["n","steps","comb","row","found"] ["n","steps"] (ae gI):=oG
abbrev gJ:Stmt:=top 28
theorem qd:aw ["n","word"] ["n","word"] (ae gJ):=oG
abbrev BX:Stmt:=top 29
theorem Gr:aw ["n","word"] ["n","word"] (ae BX):=oG
abbrev rW:Stmt:=top 31
theorem xA:aw ["_law_cell","_law_k","_law_factor"] ["_law_cell","_law_k","_law_factor"] (ae rW):=oG
abbrev lW:Stmt:=top 32
theorem rq:aw ["_law_script","_law_k"] ["_law_script","_law_k"] (ae lW):=oG
abbrev lX:Stmt:=top 33
theorem kP:aw ["_law_seed","_law_least","_law_most"] ["_law_seed","_law_least","_law_most"] (ae lX):=oG
abbrev kQ:Stmt:=top 34
theorem jX:aw ["_law_number","_law_n","_law_k"] ["_law_number","_law_n"] (ae kQ):=oG
abbrev oM:Stmt:=top 35
theorem ju:aw ["_law_number","_law_n","_law_k","_law_other"] ["_law_number","_law_n"] (ae oM):=oG
abbrev oN:Stmt:=top 36
theorem dF:aw ["_law_cells","_law_n","_law_most","_law_word","_law_k","_law_cell"] ["_law_cells","_law_n","_law_most"] (ae oN):=oG
abbrev lG:Stmt:=top 37
theorem gX:aw ["_law_cells","_law_n","_law_most","_law_word","_law_total","_law_at"] ["_law_cells","_law_n","_law_most"] (ae lG):=oG
abbrev oO:Stmt:=top 38
theorem dG:aw ["_law_n","_law_word","_law_hung","_law_k","_law_at"] ["_law_n","_law_word"] (ae oO):=oG
abbrev iK:Stmt:=top 39
theorem rz:aw ["_law_row"] ["_law_row"] (ae iK):=oG
abbrev iM:Stmt:=top 40
theorem cM:aw ["_law_found","_law_n","_law_last","_law_row","_law_k"] ["_law_found","_law_n"] (ae iM):=oG
abbrev xB:Stmt:=top 41
theorem gb:aw ["_law_script","_law_n","_law_word","_law_handed","_law_found","_law_order_here","_law_many","_law_row"] ["_law_script"] (ae xB):=oG
structure Tb(K:PySem.W.Frag)(mg:Str->Option Value) where
 qe:Addr
 qg:FuncData
 uM:Df K mg "turned" rn ["word"] qe qg
 nY:Addr
 nZ:FuncData
 rA:Df K mg "trimmed" uH ["word"] nY nZ
 gK:Addr
 gM:FuncData
 dH:Df K mg "straight" rV ["n"] gK gM
 xC:Addr
 xD:FuncData
 uN:Df K mg "half" BW ["n"] xC xD
 fA:Addr
 fE:FuncData
 fG:Df K mg "places_of" qc ["row"] fA fE
 qh:Addr
 qi:FuncData
 n8:Df K mg "stops" uI ["row"] qh qi
 qj:Addr
 qk:FuncData
 nC:Df K mg "starts" wo ["row"] qj qk
 aT:Addr
 aU:FuncData
 aQ:Df K mg "with_crossing_behind" fz ["row","k"] aT aU
 bW:Addr
 bX:FuncData
 bx:Df K mg "with_crossing_ahead" f9 ["row","k"] bW bX
 ql:Addr
 qm:FuncData
 qo:Df K mg "row_of" wq ["n","word"] ql qm
 sY:Addr
 sZ:FuncData
 xE:Df K mg "ahead" uJ ["row"] sY sZ
 gY:Addr
 gZ:FuncData
 ki:Df K mg "flipped_row" jt ["row"] gY gZ
 n9:Addr
 og:FuncData
 fH:Df K mg "as_bits" uK ["crossings"] n9 og
 BZ:Addr
 B0:FuncData
 Gs:Df K mg "cut" Gq ["n","word"] BZ B0
 g4:Addr
 g5:FuncData
 kj:Df K mg "turned_step" nz ["row"] g4 g5
 oh:Addr
 oi:FuncData
 rB:Df K mg "step_of" uL ["n","piece"] oh oi
 g6:Addr
 g7:FuncData
 km:Df K mg "past_halves" nA ["halves","row"] g6 g7
 ck:Addr
 cu:FuncData
 bC:Df K mg "rows_behind_halves" gE ["steps"] ck cu
 eO:Addr
 eQ:FuncData
 iN:Df K mg "form_of_steps" gI ["n","steps"] eO eQ
 eR:Addr
 eU:FuncData
 iO:Df K mg "steps_of_word" gJ ["n","word"] eR eU
 xF:Addr
 xG:FuncData
 Az:Df K mg "form" BX ["n","word"] xF xG
 jv:Addr
 jw:FuncData
 lH:Df K mg "_law_mix" rW ["_law_cell","_law_k","_law_factor"] jv jw
 gf:Addr
 gg:FuncData
 jx:Df K mg "_law_cell_at" lW ["_law_script","_law_k"] gf gg
 gh:Addr
 gj:FuncData
 jy:Df K mg "_law_strings" lX ["_law_seed","_law_least","_law_most"] gh gj
 eY:Addr
 eZ:FuncData
 iP:Df K mg "_law_crossing" kQ ["_law_number","_law_n"] eY eZ
 i9:Addr
 ja:FuncData
 lI:Df K mg "_law_piece" oM ["_law_number","_law_n"] i9 ja
 jb:Addr
 jc:FuncData
 lJ:Df K mg "_law_drawn" oN ["_law_cells","_law_n","_law_most"] jb jc
 jY:Addr
 jZ:FuncData
 nE:Df K mg "_law_part" lG ["_law_cells","_law_n","_law_most"] jY jZ
 jd:Addr
 je:FuncData
 lK:Df K mg "_law_order" oO ["_law_n","_law_word"] jd je
 gk:Addr
 gm:FuncData
 jz:Df K mg "_law_crossed" iK ["_law_row"] gk gm
 gn:Addr
 gp:FuncData
 jA:Df K mg "_law_is_form" iM ["_law_found","_law_n"] gn gp
 Gu:Addr
 B1:FuncData
 Lk:Df K mg "law" xB ["_law_script"] Gu B1
 B3:mg "abs"=none
 AA:mg "bool"=none
 j0:mg "enumerate"=none
 Gv:mg "int"=none
 cy:mg "isinstance"=none
 j3:mg "len"=none
 gq:mg "list"=none
 Ll:mg "max"=none
 gu:mg "range"=none
 gO:mg "reversed"=none
 ze:mg "sorted"=none
 zf:mg "sum"=none
 xH:mg "tuple"=none
 qp:Tok
 qq:mg "MOST_KEPT"=some (.int 200000 qp)
end DL.nq
namespace DL.H
open PySem PySem.W L2
noncomputable section
def vi(i:Int)(t:Nat):Value:=.int i t
def vs(s:String)(t:Nat):Value:=.str (Str.ofString s) t
def vr(a:Nat):Value:=.ref a
def vy(s:String):Value:=.type s
def vb(s:String):Value:=.builtin s
def vn:Value:=.none
def vt:Value:=.bool true
def vf:Value:=.bool false
def pl:Data:=.plain
def ob(c:Value)(d:Data)(s:List (Option Value)):Obj:=⟨c,none,d,⟨s⟩⟩
def en(P:Params)(x:String)(t:Nat)(v:Value):DictEntry:=⟨PyData.keyHash P (Str.ofString x),.str (Str.ofString x) t,v⟩
def cd(n:String)(b m:List Value)(s:Addr)(q:String)(hd:Bool)(sn:List Str)(su:List Value)(ab:Bool)(c:Option Bool)(de:Bool):ClassData:=⟨Str.ofString n,b,m,s,Str.ofString q,hd,sn,su,ab,c,de⟩
def E:Obj:=ob (vy "tuple") (.seq ⟨[]⟩ 0) []
def F:Obj:=ob vn (.fields ⟨[]⟩) []
def Z:String:="/claim/cut.py"
def nO(s:Stmt):Str:=match s with|.FunctionDef n _ _ _ _ _ _ _ _ _=>n|_=>Str.empty
def lO(s:Stmt):Nat:=match s with|.FunctionDef _ _ _ _ _ _ _ _ _ p=>p.line|_=>0
def tf(s:Stmt)(q:Str):Obj:=⟨.none,none,.func {name:=nO s,qualname:=q,params:=cZ s,body:=.stmts (bq s),scope:=ae s,globals:=0,closure:=[],defaults:=.none,kwdefaults:=.none},⟨[]⟩⟩
def hf(n q:Str)(s:Stmt)(m:Value)(c:Nat):Obj:=⟨.type "function",none,.func (fnOf n q (cZ s) (bq s) (ae s) .none .none .none m none (.ref c) .none),⟨[]⟩⟩
def cf(n q:Str)(t l k:Nat)(f:Value)(a b:Nat)(x y z:Value)(u:Nat):Obj:=ob (vy "code") (.fields ⟨[.str n t,.str q (t+1),vs Z (t+2),.int l 0,.int k 0,vi 0 0,vi 0 0,f,vr a,.bool (f !=vi 0 0),vi 181 0,vr b,vn,x,y,z,.int u 0,.int l 0,vs Z (u+1)]⟩) []
def tu:List String->Nat->List Value
 |[],_=>[]
 |x::l,t=>vs x t::tu l (t+1)
def Ln(s:Stmt)(q:Str)(a t:Nat)(m:Value)(ns:List String):List Obj:=[E,F,ob (vy "tuple") (.seq ⟨tu ns (t+3)⟩ 0) [],E,tf s q,cf (nO s) q t (lO s) (cZ s).args.length (vi 3 0) a (a+1) (vr (a+2)) (vr (a+3)) (vr (a+4)) (t+3+ns.length),hf (nO s) q s m (a+5)]
def YB(s:Stmt)(q:Str)(a t:Nat)(m:Value):List Obj:=[E,F,tf s q,cf (nO s) q t (lO s) (cZ s).args.length (vi 3 0) a (a+1) vn vn (vr (a+2)) (t+3),hf (nO s) q s m (a+3)]
def xb(P:Params)(n:String)(a t:Nat)(m:Value)(b:Nat)(l:Nat):List Obj:=
 [ob (vy "tuple") (.seq ⟨[vr b]⟩ 0) [],ob (vy "builtin_function_or_method") (.fields ⟨[vb "type.__prepare__",vy "type"]⟩) [],
  ob (vy "dict") (.dict ⟨[en P "__module__" (t+5) m,en P "__qualname__" (t+7) (vs n (t+6)),en P "__firstlineno__" (t+9) (.int l (t+8)),en P "__static_attributes__" (t+10) (vr (a+7))]⟩ 4) [],E,F,
  cf (Str.ofString n) (Str.ofString n) t l 0 (vi 0 0) (a+3) (a+4) vn vn vn (t+3),ob (vy "frame") pl [some (vr (a+5)),some (vr 3),some (vr (a+2)),none,some m,none,some (vr 0)],E,
  ob (vy "dict") (.dict ⟨[en P "__module__" (t+5) m,en P "__firstlineno__" (t+9) (.int l (t+8)),en P "__static_attributes__" (t+10) (vr (a+7)),en P "__doc__" (t+11) vn]⟩ 2) [],
  ob (vy "type") (.cls (cd n [vr b] [vr (a+9),vr b,vy "ValueError",vy "Exception",vy "BaseException",vy "object"] (a+8) n true [] [] false none false)) [some (vr a),none,some (vs n (t-2)),some (vs n (t+6)),some (vb "ValueError.__new__"),some vt],
  ob (vy "super") (.fields ⟨[vr (a+9),vr (a+9),vr (a+9)]⟩) [],ob (vy "builtin_function_or_method") (.fields ⟨[vb "object.__init_subclass__",vr (a+9)]⟩) []]
def sp:List Obj->List Obj×List Obj
 |[]=>([],[])
 |x::l=>(x::(sp l).2,(sp l).1)
def bt:Nat->List Obj->BT
 |0,_=>.nil
 |_+1,[]=>.nil
 |n+1,x::l=>.node x (bt n (sp l).1) (bt n (sp l).2)
end
end DL.H
namespace DL.nq.H
open PySem PySem.W DL.H L2
noncomputable section
abbrev pw:Program:=PySem.Challenge.pw_braidcomb_k31_forms_are_sound
abbrev T(i:Nat):Stmt:=DL.nq.top i
def J(i j:Nat):Stmt:=match T i with|.ClassDef _ _ _ b _ _ _ _ _ _ _=>b.getD j (.Pass ⟨0,0,0,0⟩)|s=>s
def M3(P:Params):List DictEntry:=[en P "__doc__" 166 vn,en P "__package__" 167 vn,en P "__loader__" 168 (vb "__main__.__loader__#opaque"),en P "__spec__" 169 vn,en P "__annotations__" 170 (vr 6),en P "__builtins__" 171 (vr 4),en P "__file__" 173 (vs "/claim/cut.py" 172),en P "__cached__" 174 vn,en P "BraidError" 206 (vr 24),en P "NoRow" 222 (vr 37),en P "turned" 230 (vr 44),en P "trimmed" 239 (vr 51),en P "straight" 248 (vr 58),en P "half" 255 (vr 65),en P "places_of" 265 (vr 72),en P "stops" 271 (vr 77),en P "starts" 278 (vr 84),en P "with_crossing_behind" 286 (vr 91),en P "with_crossing_ahead" 294 (vr 98),en P "row_of" 304 (vr 105),en P "ahead" 310 (vr 110),en P "flipped_row" 316 (vr 115),en P "MOST_KEPT" 320 (vi 200000 319),en P "as_bits" 329 (vr 122),en P "Comb" 435 (vr 186),en P "cut" 451 (vr 197),en P "turned_step" 458 (vr 204),en P "step_of" 466 (vr 211),en P "past_halves" 474 (vr 218),en P "rows_behind_halves" 484 (vr 225),en P "form_of_steps" 490 (vr 230),en P "steps_of_word" 496 (vr 235),en P "form" 504 (vr 242),en P "_law_mix" 515 (vr 249),en P "_law_cell_at" 523 (vr 256),en P "_law_strings" 532 (vr 263),en P "_law_crossing" 541 (vr 270),en P "_law_piece" 551 (vr 277),en P "_law_drawn" 563 (vr 284),en P "_law_part" 569 (vr 289),en P "_law_order" 580 (vr 296),en P "_law_crossed" 586 (vr 301),en P "_law_is_form" 592 (vr 306),en P "law" 598 (vr 311)]
def m3(P:Params)(v:Value)(k e:Nat):Obj:=ob (vy "dict") (.dict ⟨en P "__name__" 165 v::(M3 P).take k⟩ e) []
def L12:List (Nat×Nat):=[(2,20),(4,33),(7,43),(9,50),(18,57),(20,64),(22,71),(27,76),(29,83),(31,90),(33,97),(35,104),(44,109),(46,114),(50,121),(55,128),(128,196),(143,203),(145,210),(149,217),(153,224),(161,229),(167,234),(169,241),(172,248),(174,255),(178,262),(183,269),(188,276),(194,283),(200,288),(207,295),(213,300),(215,305),(231,310)]
def PB(k:Nat):Obj:=ob vn (.fields ⟨(L12.take k).flatMap fun x=>[.int x.1 0,vi 0 0,vr x.2]⟩) []
def w0:Value:=vs "braidcomb.errors" 187
def w1:Value:=vs "braidcomb.words" 223
def w2:Value:=vs "braidcomb.rows" 240
def w3:Value:=vs "braidcomb.sliding" 317
def w4:Value:=vs "braidcomb.forms" 436
def w5:Value:=vs "law_braidcomb_k31_forms_are_sound" 505
def f7(i a t:Nat)(m:Value)(ns:List String):List Obj:=Ln (T i) (nO (T i)) a t m ns
def f5(i a t:Nat)(m:Value):List Obj:=YB (T i) (nO (T i)) a t m
def FL(P:Params):List Obj:=[boot_o_0 P,boot_o_1 P,boot_o_2 P,m3 P w5 44 45,boot_o_4 P,boot_o_5 P,boot_o_6 P,boot_o_7 P,boot_o_8 P,boot_o_9 P,boot_o_10 P]
 ++[E,(PB 35),(ob (vy "code") (.fields ⟨[(vs "<module>" 182),(vs "<module>" 183),(vs "/claim/cut.py" 184),(vi 1 0),(vi 0 0),(vi 0 0),(vi 0 0),(vi 0 0),(vr 11),vf,(vi 181 0),(vr 12),vn,vn,vn,vn,(vi 185 0),(vi 1 0),(vs "/claim/cut.py" 186)]⟩) []),(ob (vy "frame") pl [(some (vr 13)),(some (vr 3)),(some (vr 3)),none,(some (vs "__main__" 164)),none,(some (vr 0))]),(ob (vy "tuple") (.seq ⟨[(vy "ValueError")]⟩ 0) []),(ob (vy "builtin_function_or_method") (.fields ⟨[(vb "type.__prepare__"),(vy "type")]⟩) []),(ob (vy "dict") (.dict ⟨[(en P "__module__" 196 (vs "braidcomb.errors" 187)),(en P "__qualname__" 198 (vs "BraidError" 197)),(en P "__firstlineno__" 200 (vi 2 199)),(en P "__static_attributes__" 201 (vr 22))]⟩ 4) []),E,F,(ob (vy "code") (.fields ⟨[(vs "BraidError" 191),(vs "BraidError" 192),(vs "/claim/cut.py" 193),(vi 2 0),(vi 0 0),(vi 0 0),(vi 0 0),(vi 0 0),(vr 18),vf,(vi 181 0),(vr 19),vn,vn,vn,vn,(vi 194 0),(vi 2 0),(vs "/claim/cut.py" 195)]⟩) []),(ob (vy "frame") pl [(some (vr 20)),(some (vr 3)),(some (vr 17)),none,(some (vs "braidcomb.errors" 187)),none,(some (vr 0))]),E,(ob (vy "dict") (.dict ⟨[(en P "__module__" 196 (vs "braidcomb.errors" 187)),(en P "__firstlineno__" 200 (vi 2 199)),(en P "__static_attributes__" 201 (vr 22)),(en P "__weakref__" 203 (vr 25)),(en P "__doc__" 204 vn)]⟩ 3) []),(ob (vy "type") (.cls (cd "BraidError" [(vy "ValueError")] [(vr 24),(vy "ValueError"),(vy "Exception"),(vy "BaseException"),(vy "object")] 23 "BraidError" true [] [(vr 37)] false none false)) [(some (vr 15)),none,(some (vs "BraidError" 189)),(some (vs "BraidError" 197)),(some (vb "ValueError.__new__")),(some vt)]),(ob (vy "getset_descriptor") (.fields ⟨[(vs "__weakref__" 202),(vr 24),(vb "ExceptionGroup.__weakref__"),vn]⟩) []),(ob (vy "super") (.fields ⟨[(vr 24),(vr 24),(vr 24)]⟩) []),(ob (vy "builtin_function_or_method") (.fields ⟨[(vb "object.__init_subclass__"),(vr 24)]⟩) [])]
 ++xb P "NoRow" 28 209 w0 24 4
 ++f5 4 40 225 w1
 ++f7 5 45 231 w1 ["word","left","k"]
 ++f7 7 52 242 w2 ["n"]
 ++f7 8 59 249 w2 ["n"]
 ++f7 9 66 256 w2 ["row","places","place","string"]
 ++f5 10 73 266 w2
 ++f7 11 78 272 w2 ["row"]
 ++f7 12 85 279 w2 ["row","k"]
 ++f7 13 92 287 w2 ["row","k"]
 ++f7 14 99 295 w2 ["n","word","row","k"]
 ++f5 15 106 305 w2
 ++f5 16 111 311 w2
 ++f7 19 116 321 w3 ["crossings","bits","k"]
 ++[E,(ob (vy "builtin_function_or_method") (.fields ⟨[(vb "type.__prepare__"),(vy "type")]⟩) []),(ob (vy "dict") (.dict ⟨[(en P "__module__" 337 w3),(en P "__qualname__" 339 (vs "Comb" 338)),(en P "__firstlineno__" 341 (vi 55 340)),(en P "__init__" 349 (vr 136)),(en P "number_of" 358 (vr 143)),(en P "without_first" 368 (vr 150)),(en P "with_last" 378 (vr 157)),(en P "slide" 389 (vr 164)),(en P "slide_kept" 400 (vr 171)),(en P "put" 411 (vr 178)),(en P "form_told" 417 (vr 183)),(en P "__static_attributes__" 428 (vr 184))]⟩ 12) []),E,(ob vn (.fields ⟨[(vi 57 0),(vi 4 0),(vr 135),(vi 69 0),(vi 4 0),(vr 142),(vi 78 0),(vi 4 0),(vr 149),(vi 84 0),(vi 4 0),(vr 156),(vi 90 0),(vi 4 0),(vr 163),(vi 99 0),(vi 4 0),(vr 170),(vi 108 0),(vi 4 0),(vr 177),(vi 122 0),(vi 4 0),(vr 182)]⟩) []),(ob (vy "code") (.fields ⟨[(vs "Comb" 332),(vs "Comb" 333),(vs "/claim/cut.py" 334),(vi 55 0),(vi 0 0),(vi 0 0),(vi 0 0),(vi 0 0),(vr 126),vf,(vi 181 0),(vr 127),vn,vn,vn,vn,(vi 335 0),(vi 55 0),(vs "/claim/cut.py" 336)]⟩) []),(ob (vy "frame") pl [(some (vr 128)),(some (vr 3)),(some (vr 125)),none,(some w3),none,(some (vr 0))])]
 ++Ln (J 20 0) "Comb.__init__" 130 342 w3 ["self","n"]
 ++Ln (J 20 1) "Comb.number_of" 137 350 w3 ["self","row","key"]
 ++Ln (J 20 2) "Comb.without_first" 144 359 w3 ["self","number","k","step"]
 ++Ln (J 20 3) "Comb.with_last" 151 369 w3 ["self","number","k","step"]
 ++Ln (J 20 4) "Comb.slide" 158 379 w3 ["self","one","other","free","k"]
 ++Ln (J 20 5) "Comb.slide_kept" 165 390 w3 ["self","one","other","pair","found"]
 ++Ln (J 20 6) "Comb.put" 172 401 w3 ["self","row","line","place","pair"]
 ++YB (J 20 7) "Comb.form_told" 179 412 w3
 ++[(ob (vy "tuple") (.seq ⟨[(vs "firsts" 418),(vs "kept" 419),(vs "known" 420),(vs "lasts" 421),(vs "line" 422),(vs "longer" 423),(vs "none" 424),(vs "numbers" 425),(vs "shorter" 426),(vs "whole" 427)]⟩ 0) []),(ob (vy "dict") (.dict ⟨[(en P "__module__" 337 w3),(en P "__firstlineno__" 341 (vi 55 340)),(en P "__init__" 349 (vr 136)),(en P "number_of" 358 (vr 143)),(en P "without_first" 368 (vr 150)),(en P "with_last" 378 (vr 157)),(en P "slide" 389 (vr 164)),(en P "slide_kept" 400 (vr 171)),(en P "put" 411 (vr 178)),(en P "form_told" 417 (vr 183)),(en P "__static_attributes__" 428 (vr 184)),(en P "__dict__" 430 (vr 187)),(en P "__weakref__" 432 (vr 188)),(en P "__doc__" 433 vn)]⟩ 4) []),(ob (vy "type") (.cls (cd "Comb" [(vy "object")] [(vr 186),(vy "object")] 185 "Comb" true [] [] false none false)) [none,none,(some (vs "Comb" 330)),(some (vs "Comb" 338)),(some (vb "object.__new__")),(some vt)]),(ob (vy "getset_descriptor") (.fields ⟨[(vs "__dict__" 429),(vr 186),(vb "function.__dict__"),(vb "function.__dict__#set")]⟩) []),(ob (vy "getset_descriptor") (.fields ⟨[(vs "__weakref__" 431),(vr 186),(vb "ExceptionGroup.__weakref__"),vn]⟩) []),(ob (vy "super") (.fields ⟨[(vr 186),(vr 186),(vr 186)]⟩) []),(ob (vy "builtin_function_or_method") (.fields ⟨[(vb "object.__init_subclass__"),(vr 186)]⟩) [])]
 ++f7 22 191 438 w4 ["n","word","pieces","order","sign_above","k","place","held"]
 ++f7 23 198 452 w4 ["row"]
 ++f7 24 205 459 w4 ["n","piece"]
 ++f7 25 212 467 w4 ["halves","row"]
 ++f7 26 219 475 w4 ["steps","rows","halves","step"]
 ++f5 27 226 485 w4
 ++f5 28 231 491 w4
 ++f7 29 236 497 w4 ["n","word"]
 ++f7 31 243 507 w5 ["_law_cell","_law_k","_law_factor"]
 ++f7 32 250 516 w5 ["_law_script","_law_k"]
 ++f7 33 257 524 w5 ["_law_seed","_law_least","_law_most"]
 ++f7 34 264 533 w5 ["_law_number","_law_n","_law_k"]
 ++f7 35 271 542 w5 ["_law_number","_law_n","_law_k","_law_other"]
 ++f7 36 278 552 w5 ["_law_cells","_law_n","_law_most","_law_word","_law_k","_law_cell"]
 ++f5 37 285 564 w5
 ++f7 38 290 570 w5 ["_law_n","_law_word","_law_hung","_law_k","_law_at"]
 ++f5 39 297 581 w5
 ++f5 40 302 587 w5
 ++f5 41 307 593 w5
def as:List Addr:=2::3::(range 301).map (·+11)
def K(P:Params):Frag:=as.map fun a=>(a,(FL P).getD a E)
def q:Program:=view pw [1,2,4,5,7,8,9,10,11,12,13,14,15,16,18,19,20,22,23,24,25,26,27,28,29,31,32,33,34,35,36,37,38,39,40,41]
def env:Env:={scope:=pw.main.scope,locals:=mainNs,globals:=mainNs,cells:=[],code:=vr 13,frame:=some 14}
def bd:List Stmt:=behindTheImports pw
abbrev cE:Code:=.body bd env
abbrev fr:List Frame:=[topFrame ⟨0,0,0,0⟩]
abbrev an:Option Value:=(some (vr 6))
def S(P:Params):Nat->List Obj
 |0=>(((FL P).take 15).set 12 (PB 0)).set 3 (boot_o_3 P)
 |1=>(((FL P).take 45).set 3 (m3 P w1 11 12)).set 12 (PB 3)
 |2=>(((FL P).take 123).set 3 (m3 P w3 24 25)).set 12 (PB 15)
 |3=>(((FL P).take 191).set 3 (m3 P w3 25 26)).set 12 (PB 16)
 |4=>(((FL P).take 285).set 3 (m3 P w5 39 40)).set 12 (PB 30)
 |5=>(FL P).take 312
 |_=>[]
abbrev st(i n t:Nat)(w:World)(os:OsState):SharedT:=⟨bt 12 (S w.params i),n,(boot_heap w.params).life,⟨[]⟩,boot_drawn,t,os⟩
theorem pre(w:World)(os:OsState):topGo treeTable pw w 11 an 12 ⟨boot_heap w.params,⟨[]⟩,boot_drawn,boot_toks,os⟩ (topStub pw)=some ((st 0 15 187 w os).abs,⟨denote treeTable cE,cE,⟨0,0,0,0⟩,fr⟩):=by kernel_rfl
theorem blk(w:World)(os:OsState):segRun treeTable pw w 11 an 1 1 (st 0 15 187 w os).abs (blockOf bd env cE ⟨0,0,0,0⟩ fr)=some (.next,(st 0 15 187 w os).abs,cE,⟨0,0,0,0⟩):=by kernel_rfl
abbrev Pc(N i n t d k:Nat)(p:Pos)(n2 t2:Nat)(p2:Pos)(w:World)(os:OsState):Prop:=segRunT treeTable pw w 11 an 1 N (st i n t w os) (piecesOf ((bd.drop d).take k) env cE p fr)=some (.next,st (i+1) n2 t2 w os,cE,p2)
theorem pc0(w:World)(os:OsState):Pc 444 0 15 187 0 5 ⟨0,0,0,0⟩ 45 231 ⟨7,0,8,39⟩ w os:=by kernel_rfl
theorem pc1(w:World)(os:OsState):Pc 379 1 45 231 5 15 ⟨7,0,8,39⟩ 123 330 ⟨50,0,54,15⟩ w os:=by kernel_rfl
theorem pc2(w:World)(os:OsState):Pc 466 2 123 330 20 1 ⟨50,0,54,15⟩ 191 436 ⟨55,0,126,80⟩ w os:=by kernel_rfl
theorem pc3(w:World)(os:OsState):Pc 447 3 191 436 21 16 ⟨55,0,126,80⟩ 285 564 ⟨194,0,199,32⟩ w os:=by kernel_rfl
theorem pc4(w:World)(os:OsState):Pc 138 4 285 564 37 5 ⟨194,0,199,32⟩ 312 599 ⟨231,0,245,131⟩ w os:=by kernel_rfl
theorem fin(w:World)(os:OsState):topRun treeTable pw w 11 an 2 (st 5 312 599 w os).abs (restOf [] env cE ⟨231,0,245,131⟩ fr)=some (st 5 312 599 w os).abs:=by kernel_rfl
theorem cut:bd=((bd.drop 0).take 5++((bd.drop 5).take 15++((bd.drop 20).take 1++((bd.drop 21).take 16++((bd.drop 37).take 5++[]))))):=by kernel_rfl
theorem rest{tb:String->Option Builtin}{p:Program}{w:World}{n₀ N:Nat}{ann:Option Value}{s r:Shared}{b b':List Stmt}{e:Env}{c:Code}{ps:Pos}{B:List Frame}(h:b=b')(k:topRun tb p w n₀ ann N s (restOf b' e c ps B)=some r):topRun tb p w n₀ ann N s (restOf b e c ps B)=some r:=h▸k
theorem run(w:World)(os:OsState):topRun treeTable pw w 11 an (12+(1+(444+(379+(466+(447+(138+2))))))) ⟨boot_heap w.params,⟨[]⟩,boot_drawn,boot_toks,os⟩ (topStub pw)=some (st 5 312 599 w os).abs:=go_top (pre w os) (piece_block (blk w os) (rest cut (piece_app (segRun_of (pc0 w os)) (piece_app (segRun_of (pc1 w os)) (piece_app (segRun_of (pc2 w os)) (piece_app (segRun_of (pc3 w os)) (piece_app (segRun_of (pc4 w os)) (fin w os))))))))
def lo:List Str:=[]
def hk:Hook:=kHook K as (fun _=>by kernel_rfl)
def Xt(s:Shared):Bool:=xlAt q [] s&&recOk (OpenLaw.row PySem.Challenge.rw_braidcomb_k31_forms_are_sound).toRowW.records s
abbrev H1(P:Params):Heap:=absHeap (bt 12 (S P 5)) 312 (boot_heap P).life
theorem RO(w:World)(os:OsState):(staticsOk (importedModules pw.main.body) (boot_heap w.params) (H1 w.params)&&namesBound pw (H1 w.params)&&gensDone ⟨H1 w.params,⟨[]⟩,boot_drawn,599,os⟩&&laidKept (boot_heap w.params) (H1 w.params))=true:=by kernel_rfl
theorem RQ(w:World)(os:OsState):(openSeen q lo (importedModules pw.main.body) Xt true ⟨H1 w.params,⟨[]⟩,boot_drawn,599,os⟩)=openGood q lo:=by kernel_rfl
theorem RT(w:World)(os:OsState):(hk.obs ⟨H1 w.params,⟨[]⟩,boot_drawn,599,os⟩)=hk.val w:=by kernel_rfl
theorem o1:opening pw=plainProg pw.main.scope.names:=by kernel_rfl
theorem o2(s:Shared):fenceModules? pw s=some s:=by kernel_rfl
theorem o3:ble 600 3864=true:=by kernel_rfl
theorem op(w:World):(fencedOpening treeTable pw w 3864).map (fun s=>(s.heap,s.gens,s.drawn,s.toks))=some (boot_heap w.params,⟨[]⟩,boot_drawn,boot_toks):=boot_open o1 o3 o2 w
theorem sz(w:World):((boot_heap w.params).isNs mainGlobals&&(⟨[]⟩:Array GenState).size==0,(boot_heap w.params).objs.size,(boot_heap w.params).nsMap mainGlobals "__annotations__")=(true,11,an):=by kernel_rfl
theorem le:ble (12+(1+(444+(379+(466+(447+(138+2))))))) 3864=true:=by kernel_rfl
theorem ab(w:World)(os:OsState):some (st 5 312 599 w os).abs=some ⟨H1 w.params,⟨[]⟩,boot_drawn,599,os⟩:=by kernel_rfl
theorem run'(w:World)(os:OsState):topRun treeTable pw w 11 an (12+(1+(444+(379+(466+(447+(138+2))))))) ⟨boot_heap w.params,⟨[]⟩,boot_drawn,boot_toks,os⟩ (topStub pw)=some ⟨H1 w.params,⟨[]⟩,boot_drawn,599,os⟩:=Eq.trans (run w os) (ab w os)
theorem left:LeftO pw q lo Xt hk.obs hk.val 3864 true:=
 @LeftO.of_pieces pw q lo Xt hk.α hk.obs hk.val 3864 true boot_heap H1 ⟨[]⟩ ⟨[]⟩ boot_drawn boot_drawn boot_toks 599 11 an (12+(1+(444+(379+(466+(447+(138+2))))))) op sz run' le (fun w=>funext fun os=>Prod.ext (RO w os) (Prod.ext (RQ w os) (RT w os)))
end
end DL.nq.H
namespace DL.nq
open PySem PySem.Spec PyProof.Rows L2 DL
abbrev Gw:Stmt:=inClass (top 20) 1
structure Hq(K:PySem.W.Frag)(mg:Str->Option Value)(C:Addr):Prop where
 cl:D1 K C
 kn:dU K C "known"
 nu:dU K C "numbers"
 fi:dU K C "firsts"
 la:dU K C "lasts"
 sh:dU K C "shorter"
 lo:dU K C "longer"
 ke:dU K C "kept"
 li:dU K C "line"
 no:dU K C "none"
 wh:dU K C "whole"
 mgC:mg "Comb"=some (.ref C)
 mtu:mg "tuple"=none
 YC:mg "list"=none
 Tv:mg "len"=none
def zg(K:PySem.W.Frag)(C:Addr):Sp:=fun vs H Q _=>∃(a:Addr)(A:Ad)(ex:List (Str×V))(n:Nat)(kn:List RP)(ln:List Int)(B:Nat)(nu sh lo ke:List (List Key×V))(p:RP)(v:V),
 vs=[.ref a,v]/\gA C H a A ex n kn ln B nu sh lo ke/\n<=7/\B<1000000/\Iv n p.1 p.2/\Is K (fun x=>x∉a::A.all) H (.lst (aA p.1)) v/\
 ∀(i:Nat)(H':Hp)(A':Ad)(mo:List RP)(AB:List (List Key×V)),gA C H' a A' ex n (kn++mo) ln (B+1) AB sh lo ke->(kn++mo)[i]?=some p->gx H H' (a::A.all) (a::A'.all)->A'.li=A.li->Q (.int i) H'
section
variable{P:Program}{w:World}{K:PySem.W.Frag}{mg:Str->Option Value}{base:Heap}
theorem YD:aw ["self","row","key"] ["self","row"] (ae Gw):=⟨rfl,rfl,rfl,by decide +kernel,rfl,by decide +kernel,by decide +kernel⟩
theorem OB{f C:Addr}{fd:FuncData}(F:yg K "number_of" "Comb.number_of" Gw f fd)(T:Hq K mg C)(t:Tb K mg)
  (uO:mj P w K mg base 2 t.qj t.qk ["row"] p4)(om:mj P w K mg base 1 t.qh t.qi ["row"] nV)(Gx:Ok P w K mg base 1 t.n9 t.og ["crossings"] kG)
  (Lo:∀ks:List Int,(∀k∈ks,1<=k/\k<=7)->kG [.lst (aA ks)]=.ok (.int (Aq ks))):bQ P w K mg base jL 3 f fd ["self","row"] (zg K C):=by
 refine F.ok YD (fun vs H Q E h=>?_) (fun cdv A outer s H vs Q E hr h=>?_)
 ·obtain⟨a,A,ex,n,kn,ln,B,nu,sh,lo,ke,p,v,rfl,_⟩:=h
  rfl
 ·obtain⟨a,A,ex,n,kn,ln,B,nu,sh,lo,ke,p,v,rfl,c,hn,hB,iv,Hj,k⟩:=h
  have hu:=pD hr
  refine⟨_,az (cD (i:=2) YD.nd rfl (Or.inl rfl) (nP vj (by rfl) T.mtu yw (au (pv 1) aC)))
   (az (rJ (zF (qH hu (pv 2) (bj (pv 0) rfl)))
    (az (sM hu (bj (pv 0) rfl) (pv 2) (g9 kX (by rfl) T.Tv dW (au (bj (pv 0) rfl) aC)) rfl)
    (az (fM (rM plainAttrs_list PySem.F.slot_list_append PySem.F.type_list_append cV (bj (pv 0) rfl) (au (nP kY (by rfl) T.YC jO (au (pv 1) aC)) aC)) rfl)
    (az (fM (rM plainAttrs_list PySem.F.slot_list_append PySem.F.type_list_append cV (bj (pv 0) rfl) (au (cY (E:=fun _ _ _=>False) Gx (hr.mono (by decide)) (by rfl) t.fH.m t.fH.F.kp t.fH.b .nil jN (au (cY (E:=fun _ _ _=>False) uO (hr.mono (by decide)) (by rfl) t.nC.m t.nC.F.kp t.nC.b .nil jN (au (pv 1) aC)) aC)) aC)) rfl)
    (bE (fM (rM plainAttrs_list PySem.F.slot_list_append PySem.F.type_list_append cV (bj (pv 0) rfl) (au (cY (E:=fun _ _ _=>False) Gx (hr.mono (by decide)) (by rfl) t.fH.m t.fH.F.kp t.fH.b .nil jN (au (cY (E:=fun _ _ _=>False) om (hr.mono (by decide)) (by rfl) t.n8.m t.n8.F.kp t.n8.b .nil jN (au (pv 1) aC)) aC)) aC)) rfl))))) jJ)
   (bE (j7 (wU hu (bj (pv 0) rfl) (pv 2) (fun _ _=>rfl))))),?_⟩
  obtain⟨b,vs,rfl,lb,il⟩:=id Hj
  have ev:=eI il
  subst ev
  refine⟨_,rfl,b,_,rfl,.inl ⟨lb.sq,fun l hl=>?_⟩⟩
  have s1:aB H (upd H l (.tup (p.1.map V.int))):=aD hl _
  have c1:=c.same s1
  have hkey:(upd H l (.tup (p.1.map V.int))) l=some (.tup ((kk p.1).map kV)):=by rw[Wi];exact ak
  have xJ:=gx.same s1 (a::A.all)
  generalize hH1:upd H l (.tup (p.1.map V.int))=H1 at s1 c1 hkey xJ
  refine⟨_,rfl,_,rfl,a,C,A.dx,_,_,rfl,c1.ob,T.cl,T.nu,BD,A.nu,_,rfl,kZ.t c1.vB hkey,_,rfl,?_⟩
  by_cases hm:∃q∈kn,q.1=p.1
  ·obtain⟨q,hq,eq⟩:=hm
   have hqp:q=p:=BC (c.rw q hq) iv eq
   subst hqp
   obtain⟨i,hi,ei⟩:=getElem_of_mem hq
   have Ar:kn[i]?=some q:=by rw[getElem?_eq_getElem hi,ei]
   have hv:=c.n1 i q Ar
   rw[hv]
   refine qF ?_
   refine⟨_,rfl,a,C,A.dx,_,_,rfl,c1.ob,T.cl,T.nu,BD,_,rfl,A.nu,.int i,rfl,?_,?_⟩
   ·have:=kZ.t (k:=kk q.1) c1.vB hkey
    rw[hv]at this
    exact this
   ·exact k i H1 A [] nu (by rw[append_nil];exact c1.more (by omega)) (by rw[append_nil];exact Ar) xJ rfl
  ·have hv:cF nu (kk p.1)=none:=c.n2 p.1 fun q hq e=>hm ⟨q,hq,e⟩
   rw[hv]
   refine rZ ?_
   have hz:=c.z
   obtain⟨⟨n1,n2,n3,n4,n5,n6⟩,⟨m1,m2,m3,m4,m5,m6⟩,Ol,⟨d1,d2,d3,d4,d5,d6,d7,d8,d9⟩,RG⟩:=c.Oj
   have big:∀{x:Nat},x<=1000001->x<sizeLine:=fun h=>Nat.lt_of_le_of_lt h (by decide)
   have Jt:∀x∈A.hd,x∈a::A.all:=fun x hx=>mem_cons_of_mem _ (mem_append_left _ hx)
   refine⟨_,rfl,a,C,A.dx,_,_,rfl,c1.ob,T.cl,T.kn,wk,A.kn,_,rfl,.inl (b7.of c1.hkn),_,rfl,a,C,A.dx,_,_,rfl,c1.ob,T.cl,T.nu,BD,_,rfl,A.nu,_,rfl,yj.t c1.vB hkey (big (by omega)),?_⟩
   rw[length_map,c.y0]
   have YE:A.kn≠A.nu:=bz c.hkn c.vB (by intro z;cases z)
   have fin:A.fi≠A.nu:=bz c.uY c.vB (by intro z;cases z)
   have YF:A.la≠A.nu:=bz c.hla c.vB (by intro z;cases z)
   have an:a≠A.nu:=bz c.ob c.vB (by intro z;cases z)
   have YG:a≠A.kn:=bz c.ob c.hkn (by intro z;cases z)
   have YH:a≠A.fi:=bz c.ob c.uY (by intro z;cases z)
   have ala:a≠A.la:=bz c.ob c.hla (by intro z;cases z)
   have ln1:l≠A.nu:=fun z=>by rw[z,c.vB]at hl;cases hl
   generalize hH2:upd H1 A.nu (.dT (putK nu (kk p.1) (.int (kn.length:Int))))=H2
   have RU:H2 a=some (.ins C A.dx (si A++ex)):=by rw[<-hH2,ah an];exact c1.ob
   have Lp:H2 A.kn=some (.lst (A.ks.map V.ref)):=by rw[<-hH2,ah YE];exact c1.hkn
   have AD:gx H H2 (a::A.all) (a::A.all):=xJ.trans (by rw[<-hH2];exact gx.upd (Jt _ (by simp[Ad.hd])) _)
   have lb2:r6 K (fun _=>True) H2 b (p.1.map V.int):=lb.ext ⟨fun _ _ _ _=>trivial,fun x o px hx=>AD.kp x o px hx⟩
   refine⟨_,rfl,a,C,A.dx,_,_,rfl,RU,T.cl,T.kn,wk,.inl ⟨rfl,_,b7.of Lp⟩,_,rfl,b,_,rfl,.inl lb2.sq,fun l2 hl2=>?_⟩
   have Py:H l2=none:=AD.gr l2 hl2
   have l2k:A.kn≠l2:=fun z=>by rw[<-z,Lp]at hl2;cases hl2
   refine⟨A.kn,A.ks.map V.ref,.ref l2,rfl,rfl,by rw[ah l2k];exact Lp,by rw[length_map,c.y0];exact big (by omega),?_⟩
   generalize Hr:upd (upd H2 l2 (.lst (p.1.map V.int))) A.kn (.lst (A.ks.map V.ref++[.ref l2]))=H3
   have qz:gx H H3 (a::A.all) (a::A.all):=by
    rw[<-Hr]
    exact(AD.trans (gx.same (aD hl2 _) _)).trans (gx.upd (Jt _ (by simp[Ad.hd])) _)
   have RV:H3 a=some (.ins C A.dx (si A++ex)):=by rw[<-Hr,ah YG];exact aD hl2 _ _ _ RU
   have YJ:H3 A.fi=some (.lst (kn.map fun p=>V.int (sj p.2))):=by
    rw[<-Hr,ah (Ne.symm n1)]
    refine aD hl2 _ _ _ ?_
    rw[<-hH2,ah fin]
    exact c1.uY
   have lb3:r6 K (fun _=>True) H3 b (p.1.map V.int):=lb.ext ⟨fun _ _ _ _=>trivial,fun x o px hx=>qz.kp x o px hx⟩
   refine⟨_,rfl,a,C,A.dx,_,_,rfl,RV,T.cl,T.fi,FW,.inl ⟨rfl,_,b7.of YJ⟩,_,rfl,_,[.lst (aA p.1)],⟨.ref b,[],rfl,⟨b,_,rfl,lb3,bJ p.1⟩,rfl⟩,?_⟩
   have YK:∀(m:Nat)(x y:List Int),m<=7->Iv m x y->∀k∈xV y,1<=k/\k<=7:=fun m x y hm h k hk=>by
    obtain⟨a',e,h1,_⟩:=p7.mp hk
    rw[h.ls]at h1
    omega
   rw[C2 iv hn]
   intro q ws H4 s4 hq4 hw4 iw4
   have ew:=eI iw4
   subst ew
   refine⟨fun _=>True,[.lst (aA (xV p.2))],⟨.ref q,[],rfl,⟨q,_,rfl,.inl ⟨trivial,.inl hw4⟩,bJ _⟩,rfl⟩,?_⟩
   rw[Lo _ (YK n p.1 p.2 hn iv)]
   intro v5 H5 s5 i5
   have e5:v5=.int (Aq (xV p.2)):=i5
   subst e5
   have Ju:=s4.trans s5
   refine⟨A.fi,_,.int (sj p.2),rfl,rfl,Ju _ _ YJ,by rw[length_map];exact big (by omega),?_⟩
   generalize Hs:upd H5 A.fi (.lst ((kn.map fun p=>V.int (sj p.2))++[V.int (sj p.2)]))=H6
   have Tw:gx H H6 (a::A.all) (a::A.all):=by
    rw[<-Hs]
    exact(qz.trans (gx.same Ju _)).trans (gx.upd (Jt _ (by simp[Ad.hd])) _)
   have Tz:H6 a=some (.ins C A.dx (si A++ex)):=by rw[<-Hs,ah YH];exact Ju _ _ RV
   have YL:H6 A.la=some (.lst (kn.map fun p=>V.int (sj p.1))):=by
    rw[<-Hs,ah (Ne.symm n4)]
    refine Ju _ _ ?_
    rw[<-Hr,ah (Ne.symm n2)]
    refine aD hl2 _ _ _ ?_
    rw[<-hH2,ah YF]
    exact c1.hla
   have lb6:r6 K (fun _=>True) H6 b (p.1.map V.int):=lb.ext ⟨fun _ _ _ _=>trivial,fun x o px hx=>Tw.kp x o px hx⟩
   refine⟨_,rfl,a,C,A.dx,_,_,rfl,Tz,T.cl,T.la,FY,.inl ⟨rfl,_,b7.of YL⟩,_,rfl,_,[.lst (aA p.1)],⟨.ref b,[],rfl,⟨b,_,rfl,lb6,bJ p.1⟩,rfl⟩,?_⟩
   rw[yY p.1 (by rw[iv.lr];exact hn)]
   intro q7 ws7 H7 s7 hq7 hw7 iw7
   have ew7:=eI iw7
   subst ew7
   refine⟨fun _=>True,[.lst (aA (xV p.1))],⟨.ref q7,[],rfl,⟨q7,_,rfl,.inl ⟨trivial,.inl hw7⟩,bJ _⟩,rfl⟩,?_⟩
   rw[Lo _ (YK n p.2 p.1 hn iv.symm)]
   intro v8 H8 s8 i8
   have e8:v8=.int (Aq (xV p.1)):=i8
   subst e8
   have Lq:=s7.trans s8
   refine⟨A.la,_,.int (sj p.1),rfl,rfl,Lq _ _ YL,by rw[length_map];exact big (by omega),?_⟩
   generalize Lr:upd H8 A.la (.lst ((kn.map fun p=>V.int (sj p.1))++[V.int (sj p.1)]))=H9
   have YM:gx H H9 (a::A.all) (a::A.all):=by
    rw[<-Lr]
    exact(Tw.trans (gx.same Lq _)).trans (gx.upd (Jt _ (by simp[Ad.hd])) _)
   have keep:∀x o,x≠A.nu->x≠A.kn->x≠A.fi->x≠A.la->H x=some o->H9 x=some o:=fun x o x1 x2 x3 x4 hx=>by
    rw[<-Lr,ah x4]
    refine Lq _ _ ?_
    rw[<-Hs,ah x3]
    refine Ju _ _ ?_
    rw[<-Hr,ah x2]
    refine aD hl2 _ _ _ ?_
    rw[<-hH2,ah x1]
    exact s1 _ _ hx
   have Tp:H9 a=some (.ins C A.dx (si A++ex)):=keep a _ an YG YH ala c.ob
   have Tq:H9 A.nu=some (.dT (putK nu (kk p.1) (.int (kn.length:Int)))):=by
    rw[<-Lr,ah (Ne.symm YF)]
    refine Lq _ _ ?_
    rw[<-Hs,ah (Ne.symm fin)]
    refine Ju _ _ ?_
    rw[<-Hr,ah (Ne.symm YE)]
    refine aD hl2 _ _ _ ?_
    rw[<-hH2]
    exact ak
   have Wr:H9 l=some (.tup ((kk p.1).map kV)):=by
    have lk:∀{x:Addr}{o:HO},H x=some o->l≠x:=fun hx z=>by rw[z,hx]at hl;cases hl
    rw[<-Lr,ah (lk c.hla)]
    refine Lq _ _ ?_
    rw[<-Hs,ah (lk c.uY)]
    refine Ju _ _ ?_
    rw[<-Hr,ah (lk c.hkn)]
    refine aD hl2 _ _ _ ?_
    rw[<-hH2,ah (lk c.vB)]
    exact hkey
   have Wm:H9 l2=some (.lst (p.1.map V.int)):=by
    have lk:∀{x:Addr}{o:HO},H x=some o->l2≠x:=fun hx z=>by rw[z,hx]at Py;cases Py
    rw[<-Lr,ah (lk c.hla)]
    refine Lq _ _ ?_
    rw[<-Hs,ah (lk c.uY)]
    refine Ju _ _ ?_
    rw[<-Hr,ah (lk c.hkn)]
    exact ak
   have Wj:H9 A.kn=some (.lst (A.ks.map V.ref++[.ref l2])):=by
    rw[<-Lr,ah n2]
    refine Lq _ _ ?_
    rw[<-Hs,ah n1]
    refine Ju _ _ ?_
    rw[<-Hr]
    exact ak
   have Wk:H9 A.fi=some (.lst ((kn.map fun p=>V.int (sj p.2))++[V.int (sj p.2)])):=by
    rw[<-Lr,ah n4]
    refine Lq _ _ ?_
    rw[<-Hs]
    exact ak
   have Wl:H9 A.la=some (.lst ((kn.map fun p=>V.int (sj p.1))++[V.int (sj p.1)])):=by
    rw[<-Lr]
    exact ak
   have vC:∀j,cF (putK nu (kk p.1) (.int (kn.length:Int))) j=if j=kk p.1 then some (.int (kn.length:Int))else cF nu j:=fun j=>ji nu (kk p.1) j _
   have c9:=c.add hm iv Py Tp Tq Wj Wk Wl Wm keep
   refine⟨_,rfl,a,C,A.dx,_,_,rfl,Tp,T.cl,T.nu,BD,_,rfl,A.nu,.int (kn.length:Int),rfl,?_,?_⟩
   ·have:=kZ.t (k:=kk p.1) Tq Wr
    rw[vC,if_pos rfl]at this
    exact this
   ·refine k kn.length H9 _ [p] _ c9 (by simp) ⟨YM.kp,fun x hx=>?_,YM.gr⟩ rfl
    have Fd:x∈a::(A.hd++(A.ks++[l2])):=hx
    rw[<-List.append_assoc,<-cons_append]at Fd
    rcases mem_append.mp Fd with h|h
    ·exact .inl h
    ·have:x=l2:=by simpa using h
     rw[this];exact .inr Py
end
end DL.nq
namespace DL.nq
open PySem PySem.Spec PyProof.Rows L2 DL
abbrev Gy:Stmt:=inClass (top 20) 2
def Ls(C:Addr):Sp:=fun vs H Q _=>∃(a:Addr)(A:Ad)(z w:Int)(n:Nat)(kn:List RP)(ln:List Int)(B:Nat)(nu sh lo ke:List (List Key×V))(p:RP)(i j:Nat),
 vs=[.ref a,.int i,.int ((j:Int)+1)]/\gA C H a A (rS z w) n kn ln B nu sh lo ke/\n<=7/\B+1<1000000/\kn[i]?=some p/\j+1<n/\
 ∀(i':Nat)(H':Hp)(A':Ad)(mo:List RP)(AB OC:List (List Key×V)),gA C H' a A' (rS z w) n (kn++mo) ln (B+2) AB OC lo ke->(kn++mo)[i']?=some (zC p j)->gx H H' (a::A.all) (a::A'.all)->A'.li=A.li->Q (.int i') H'
section
variable{P:Program}{w:World}{K:PySem.W.Frag}{mg:Str->Option Value}{base:Heap}
theorem YN:aw ["self","number","k","step"] ["self","number","k"] (ae Gy):=⟨rfl,rfl,rfl,by decide +kernel,rfl,by decide +kernel,by decide +kernel⟩
theorem RW{f C fN:Addr}{fd Gz:FuncData}(F:yg K "without_first" "Comb.without_first" Gy f fd)(T:Hq K mg C)(t:Tb K mg)
  (mN:Meth K C "number_of" fN)(bN:Binds K Gz ["self","row"] [])(GN:bQ P w K mg base jL 3 fN Gz ["self","row"] (zg K C))
  (Ws:mj P w K mg base 2 t.bW t.bX ["row","k"] bV):bQ P w K mg base jL 4 f fd ["self","number","k"] (Ls C):=by
 refine F.ok YN (fun vs H Q E h=>?_) (fun cdv A outer s H vs Q E hr h=>?_)
 ·obtain⟨a,A,z,w,n,kn,ln,B,nu,sh,lo,ke,p,i,j,rfl,_⟩:=h
  rfl
 ·obtain⟨a,A,z,w,n,kn,ln,B,nu,sh,lo,ke,p,i,j,rfl,c,hn,hB,hi,hj,k⟩:=h
  have hu:=pD hr
  refine⟨_,az (cD (i:=3) YN.nd rfl (Or.inl rfl) (qC (au (pv 1) (au (pv 2) aC))))
   (az (rJ (zF (qH hu (pv 3) (bj (pv 0) rfl)))
    (bE (sM hu (bj (pv 0) rfl) (pv 3) (gQ (pv 0) T.cl mN GN (hr.mono (by decide)) bN .nil lR (au (cY (E:=fun _ _ _=>False) Ws (hr.mono (by decide)) (by rfl) t.bx.m t.bx.F.kp t.bx.b .nil jN (au (gB cO (bj (pv 0) rfl) (pv 1) (fun _ _=>rfl)) (au (pv 2) aC))) aC)) rfl)) jJ)
   (bE (j7 (wU hu (bj (pv 0) rfl) (pv 3) (fun _ _=>rfl))))),?_⟩
  refine⟨_,rfl,_,rfl,(by show 2<=sizeLine;decide),fun l hl=>?_⟩
  have s1:aB H (upd H l (.tup [.int i,.int ((j:Int)+1)])):=aD hl _
  have c1:=c.same s1
  have hkey:(upd H l (.tup [.int i,.int ((j:Int)+1)])) l=some (.tup (([.inl (i:Int),.inl ((j:Int)+1)]:List Key).map kV)):=ak
  have xJ:=gx.same s1 (a::A.all)
  have RX:l∉a::A.all:=fun hx=>by
   obtain⟨o,ho⟩:=c.there hx
   rw[hl]at ho
   cases ho
  generalize hH1:upd H l (.tup [.int i,.int ((j:Int)+1)])=H1 at s1 c1 hkey xJ
  refine⟨_,rfl,_,rfl,a,C,A.dx,_,_,rfl,c1.ob,T.cl,T.sh,BE,A.sh,_,rfl,kZ.t c1.hsh hkey,_,rfl,?_⟩
  have ej:((j:Int)+1-1).toNat=j:=by omega
  cases hv:cF sh ([.inl (i:Int),.inl ((j:Int)+1)]:List Key)with
  |some v=>
   refine qF ?_
   obtain⟨j',p',h1,h2,rfl⟩:=c.s1 i ((j:Int)+1) v hv
   rw[hi]at h1
   cases h1
   rw[ej]at h2
   refine⟨_,rfl,a,C,A.dx,_,_,rfl,c1.ob,T.cl,T.sh,BE,_,rfl,A.sh,.int j',rfl,?_,?_⟩
   ·have:=kZ.t (k:=[.inl (i:Int),.inl ((j:Int)+1)]) c1.hsh hkey
    rw[hv]at this
    exact this
   ·exact k j' H1 A [] nu sh (by rw[append_nil];exact c1.more (by omega)) (by rw[append_nil];exact h2) xJ rfl
  |none=>
   refine rZ ?_
   have iv:=c.rw p (mem_of_getElem? hi)
   have E4:i<A.ks.length:=by rw[c.y0];exact(List.getElem?_eq_some_iff.mp hi).1
   have hb1:=c1.hks i A.ks[i] p (getElem?_eq_getElem E4) hi
   refine⟨_,rfl,a,A.dx,_,rfl,c1.ob,rfl,_,rfl,a,C,A.dx,_,_,rfl,c1.ob,T.cl,T.kn,wk,_,rfl,A.kn,A.ks.map V.ref,i,.ref A.ks[i],rfl,rfl,b7.of c1.hkn,gR (by rw[getElem?_map,getElem?_eq_getElem E4];rfl),_,rfl,fun _=>True,[.lst (aA p.1),.int ((j:Int)+1)],⟨_,_,rfl,⟨_,_,rfl,.inl ⟨trivial,.inl hb1⟩,bJ _⟩,⟨_,_,rfl,rfl,rfl⟩⟩,?_⟩
   rw[FT iv hn hj]
   intro q ws H2 s2 hq2 Lh Jr
   have ew:=eI Jr
   subst ew
   have c2:=c1.same s2
   have Wt:q∉a::A.all:=fun hx=>by
    obtain⟨o,ho⟩:=c1.there hx
    rw[hq2]at ho
    cases ho
   refine⟨a,A,rS z w,n,kn,ln,B,nu,sh,lo,ke,zC p j,.ref q,rfl,c2,hn,by omega,iv.step hj,⟨q,_,rfl,.inl ⟨Wt,.inl Lh⟩,bJ _⟩,fun i' H3 A' mo AB c3 OD qz Wu=>?_⟩
   have qr:H3 l=some (.tup (([.inl (i:Int),.inl ((j:Int)+1)]:List Key).map kV)):=qz.kp l _ RX (s2 _ _ hkey)
   have hz:=c3.z
   refine⟨_,rfl,a,C,A'.dx,_,_,rfl,c3.ob,T.cl,T.sh,BE,_,rfl,A'.sh,_,rfl,yj.t c3.hsh qr (Nat.lt_of_le_of_lt (show sh.length<=1000001 by omega) (by decide)),?_⟩
   have Ar:(kn++mo)[i]?=some p:=bH hi
   have c4:=c3.Om (i:=i) (j:=i') (k:=(j:Int)+1) Ar (by rw[ej];exact OD)
   have Wv:A'.sh≠l:=fun zz=>by rw[<-zz,c3.hsh]at qr;cases qr
   refine⟨_,rfl,a,C,A'.dx,_,_,rfl,c4.ob,T.cl,T.sh,BE,_,rfl,A'.sh,.int i',rfl,?_,?_⟩
   ·have Ww:(upd H3 A'.sh (.dT (putK sh [.inl (i:Int),.inl ((j:Int)+1)] (.int i')))) l=some (.tup (([.inl (i:Int),.inl ((j:Int)+1)]:List Key).map kV)):=by rw[ah (Ne.symm Wv)];exact qr
    have:=kZ.t (k:=[.inl (i:Int),.inl ((j:Int)+1)]) c4.hsh Ww
    rw[ji,if_pos rfl]at this
    exact this
   ·refine k i' _ A' mo AB _ c4 OD ?_ Wu
    exact((xJ.trans (gx.same s2 _)).trans qz).trans (gx.upd (mem_cons_of_mem _ (mem_append_left _ (by simp[Ad.hd]))) _)
end
abbrev GA:Stmt:=inClass (top 20) 3
def Lu(C:Addr):Sp:=fun vs H Q _=>∃(a:Addr)(A:Ad)(z w:Int)(n:Nat)(kn:List RP)(ln:List Int)(B:Nat)(nu sh lo ke:List (List Key×V))(p:RP)(i j:Nat),
 vs=[.ref a,.int i,.int ((j:Int)+1)]/\gA C H a A (rS z w) n kn ln B nu sh lo ke/\n<=7/\B+1<1000000/\kn[i]?=some p/\j+1<n/\
 ∀(i':Nat)(H':Hp)(A':Ad)(mo:List RP)(AB OE:List (List Key×V)),gA C H' a A' (rS z w) n (kn++mo) ln (B+2) AB sh OE ke->(kn++mo)[i']?=some (yZ p j)->gx H H' (a::A.all) (a::A'.all)->A'.li=A.li->Q (.int i') H'
section
variable{P:Program}{w:World}{K:PySem.W.Frag}{mg:Str->Option Value}{base:Heap}
theorem YQ:aw ["self","number","k","step"] ["self","number","k"] (ae GA):=⟨rfl,rfl,rfl,by decide +kernel,rfl,by decide +kernel,by decide +kernel⟩
theorem RY{f C fN:Addr}{fd Gz:FuncData}(F:yg K "with_last" "Comb.with_last" GA f fd)(T:Hq K mg C)(t:Tb K mg)
  (mN:Meth K C "number_of" fN)(bN:Binds K Gz ["self","row"] [])(GN:bQ P w K mg base jL 3 fN Gz ["self","row"] (zg K C))
  (Ws:mj P w K mg base 1 t.aT t.aU ["row","k"] aP):bQ P w K mg base jL 4 f fd ["self","number","k"] (Lu C):=by
 refine F.ok YQ (fun vs H Q E h=>?_) (fun cdv A outer s H vs Q E hr h=>?_)
 ·obtain⟨a,A,z,w,n,kn,ln,B,nu,sh,lo,ke,p,i,j,rfl,_⟩:=h
  rfl
 ·obtain⟨a,A,z,w,n,kn,ln,B,nu,sh,lo,ke,p,i,j,rfl,c,hn,hB,hi,hj,k⟩:=h
  have hu:=pD hr
  refine⟨_,az (cD (i:=3) YQ.nd rfl (Or.inl rfl) (qC (au (pv 1) (au (pv 2) aC))))
   (az (rJ (zF (qH hu (pv 3) (bj (pv 0) rfl)))
    (bE (sM hu (bj (pv 0) rfl) (pv 3) (gQ (pv 0) T.cl mN GN (hr.mono (by decide)) bN .nil lR (au (cY (E:=fun _ _ _=>False) Ws (hr.mono (by decide)) (by rfl) t.aQ.m t.aQ.F.kp t.aQ.b .nil jN (au (gB cO (bj (pv 0) rfl) (pv 1) (fun _ _=>rfl)) (au (pv 2) aC))) aC)) rfl)) jJ)
   (bE (j7 (wU hu (bj (pv 0) rfl) (pv 3) (fun _ _=>rfl))))),?_⟩
  refine⟨_,rfl,_,rfl,(by show 2<=sizeLine;decide),fun l hl=>?_⟩
  have s1:aB H (upd H l (.tup [.int i,.int ((j:Int)+1)])):=aD hl _
  have c1:=c.same s1
  have hkey:(upd H l (.tup [.int i,.int ((j:Int)+1)])) l=some (.tup (([.inl (i:Int),.inl ((j:Int)+1)]:List Key).map kV)):=ak
  have xJ:=gx.same s1 (a::A.all)
  have RX:l∉a::A.all:=fun hx=>by
   obtain⟨o,ho⟩:=c.there hx
   rw[hl]at ho
   cases ho
  generalize hH1:upd H l (.tup [.int i,.int ((j:Int)+1)])=H1 at s1 c1 hkey xJ
  refine⟨_,rfl,_,rfl,a,C,A.dx,_,_,rfl,c1.ob,T.cl,T.lo,BF,A.lo,_,rfl,kZ.t c1.hlo hkey,_,rfl,?_⟩
  have ej:((j:Int)+1-1).toNat=j:=by omega
  cases hv:cF lo ([.inl (i:Int),.inl ((j:Int)+1)]:List Key)with
  |some v=>
   refine qF ?_
   obtain⟨j',p',h1,h2,rfl⟩:=c.l1 i ((j:Int)+1) v hv
   rw[hi]at h1
   cases h1
   rw[ej]at h2
   refine⟨_,rfl,a,C,A.dx,_,_,rfl,c1.ob,T.cl,T.lo,BF,_,rfl,A.lo,.int j',rfl,?_,?_⟩
   ·have:=kZ.t (k:=[.inl (i:Int),.inl ((j:Int)+1)]) c1.hlo hkey
    rw[hv]at this
    exact this
   ·exact k j' H1 A [] nu lo (by rw[append_nil];exact c1.more (by omega)) (by rw[append_nil];exact h2) xJ rfl
  |none=>
   refine rZ ?_
   have iv:=c.rw p (mem_of_getElem? hi)
   have E4:i<A.ks.length:=by rw[c.y0];exact(List.getElem?_eq_some_iff.mp hi).1
   have hb1:=c1.hks i A.ks[i] p (getElem?_eq_getElem E4) hi
   refine⟨_,rfl,a,A.dx,_,rfl,c1.ob,rfl,_,rfl,a,C,A.dx,_,_,rfl,c1.ob,T.cl,T.kn,wk,_,rfl,A.kn,A.ks.map V.ref,i,.ref A.ks[i],rfl,rfl,b7.of c1.hkn,gR (by rw[getElem?_map,getElem?_eq_getElem E4];rfl),_,rfl,fun _=>True,[.lst (aA p.1),.int ((j:Int)+1)],⟨_,_,rfl,⟨_,_,rfl,.inl ⟨trivial,.inl hb1⟩,bJ _⟩,⟨_,_,rfl,rfl,rfl⟩⟩,?_⟩
   rw[q9 (by rw[iv.lr];exact hn) (by rw[iv.lr];exact hj)]
   intro q ws H2 s2 hq2 Lh Jr
   have ew:=eI Jr
   subst ew
   have c2:=c1.same s2
   have Wt:q∉a::A.all:=fun hx=>by
    obtain⟨o,ho⟩:=c1.there hx
    rw[hq2]at ho
    cases ho
   refine⟨a,A,rS z w,n,kn,ln,B,nu,sh,lo,ke,yZ p j,.ref q,rfl,c2,hn,by omega,(iv.symm.step hj).symm,⟨q,_,rfl,.inl ⟨Wt,.inl Lh⟩,bJ _⟩,fun i' H3 A' mo AB c3 OD qz Wu=>?_⟩
   have qr:H3 l=some (.tup (([.inl (i:Int),.inl ((j:Int)+1)]:List Key).map kV)):=qz.kp l _ RX (s2 _ _ hkey)
   have hz:=c3.z
   refine⟨_,rfl,a,C,A'.dx,_,_,rfl,c3.ob,T.cl,T.lo,BF,_,rfl,A'.lo,_,rfl,yj.t c3.hlo qr (Nat.lt_of_le_of_lt (show lo.length<=1000001 by omega) (by decide)),?_⟩
   have Ar:(kn++mo)[i]?=some p:=bH hi
   have c4:=c3.Oo (i:=i) (j:=i') (k:=(j:Int)+1) Ar (by rw[ej];exact OD)
   have Wv:A'.lo≠l:=fun zz=>by rw[<-zz,c3.hlo]at qr;cases qr
   refine⟨_,rfl,a,C,A'.dx,_,_,rfl,c4.ob,T.cl,T.lo,BF,_,rfl,A'.lo,.int i',rfl,?_,?_⟩
   ·have Ww:(upd H3 A'.lo (.dT (putK lo [.inl (i:Int),.inl ((j:Int)+1)] (.int i')))) l=some (.tup (([.inl (i:Int),.inl ((j:Int)+1)]:List Key).map kV)):=by rw[ah (Ne.symm Wv)];exact qr
    have:=kZ.t (k:=[.inl (i:Int),.inl ((j:Int)+1)]) c4.hlo Ww
    rw[ji,if_pos rfl]at this
    exact this
   ·refine k i' _ A' mo AB _ c4 OD ?_ Wu
    exact((xJ.trans (gx.same s2 _)).trans qz).trans (gx.upd (mem_cons_of_mem _ (mem_append_left _ (by simp[Ad.hd]))) _)
end
end DL.nq
namespace DL.nq
open PySem PySem.Spec PyProof.Rows L2 DL
abbrev GB:Stmt:=inClass (top 20) 4
def Lv(C:Addr):Sp:=fun vs H Q _=>∃(a:Addr)(A:Ad)(z w:Int)(n:Nat)(kn:List RP)(ln:List Int)(B:Nat)(nu sh lo ke:List (List Key×V))(p q:RP)(i j:Nat),
 vs=[.ref a,.int i,.int j]/\gA C H a A (rS z w) n kn ln B nu sh lo ke/\n<=7/\B+300<1000000/\kn[i]?=some p/\kn[j]?=some q/\
 ∀(t:Addr)(i' j':Nat)(H':Hp)(A':Ad)(mo:List RP)(AB OC OE:List (List Key×V)),gA C H' a A' (rS z w) n (kn++mo) ln (B+200) AB OC OE ke->(kn++mo)[i']?=some (fy 50 p q).1->(kn++mo)[j']?=some (fy 50 p q).2->
  H t=none->H' t=some (.tup [.int i',.int j'])->gx H H' (a::A.all) (a::A'.all)->A'.li=A.li->Q (.ref t) H'
section
variable{P:Program}{w:World}{K:PySem.W.Frag}{mg:Str->Option Value}{base:Heap}
theorem PD:aw ["self","one","other","free","k"] ["self","one","other"] (ae GB):=⟨rfl,rfl,rfl,by decide +kernel,rfl,by decide +kernel,by decide +kernel⟩
theorem RZ{f C fS fL:Addr}{fd Lw YR:FuncData}(F:yg K "slide" "Comb.slide" GB f fd)(T:Hq K mg C)
  (mS:Meth K C "without_first" fS)(bS:Binds K Lw ["self","number","k"] [])(GS:bQ P w K mg base jL 4 fS Lw ["self","number","k"] (Ls C))
  (mL:Meth K C "with_last" fL)(bL:Binds K YR ["self","number","k"] [])(GL:bQ P w K mg base jL 4 fL YR ["self","number","k"] (Lu C)):bQ P w K mg base jL 5 f fd ["self","one","other"] (Lv C):=by
 refine F.ok PD (fun vs H Q E h=>?_) (fun cdv A outer s H vs Q E hr h=>?_)
 ·obtain⟨a,A,z,w,n,kn,ln,B,nu,sh,lo,ke,p,q,i,j,rfl,_⟩:=h
  rfl
 ·obtain⟨a,A,z,w,n,kn,ln,B,nu,sh,lo,ke,p,q,i,j,rfl,c,hn,hB,hi,hj,k⟩:=h
  have hu:=pD hr
  refine⟨_,az (cD (i:=3) PD.nd rfl (Or.inl rfl) (pC DW (gB cO (bj (pv 0) rfl) (pv 2) (fun _ _=>rfl)) (AX DX (gB cO (bj (pv 0) rfl) (pv 1) (fun _ _=>rfl)))))
   (az (tE PassesOwn.never (iX jK (pv 3) fK (aK _))
    (az (cD (i:=4) PD.nd rfl (Or.inl rfl) (wR PySem.F.plainAttrs_int PySem.F.slot_int_bit_length PySem.F.type_int_bit_length Jh (pv 3)))
    (az (cD (i:=1) PD.nd rfl (Or.inl rfl) (gQ (pv 0) T.cl mL GL (hr.mono (by decide)) bL .nil lR (au (pv 1) (au (pv 4) aC))))
    (az (cD (i:=2) PD.nd rfl (Or.inl rfl) (gQ (pv 0) T.cl mS GS (hr.mono (by decide)) bS .nil lR (au (pv 2) (au (pv 4) aC))))
    (bE (cD (i:=3) PD.nd rfl (Or.inl rfl) (pC DW (gB cO (bj (pv 0) rfl) (pv 2) (fun _ _=>rfl)) (AX DX (gB cO (bj (pv 0) rfl) (pv 1) (fun _ _=>rfl))))))))))
   (bE (j7 (qC (au (pv 1) (au (pv 2) aC)))))),?_⟩
  have TF:∀{H2:Hp}{A2:Ad}{Lp:List RP}{B2:Nat}{tj uP lo2:List (List Key×V)}{i2:Nat}{p2:RP},gA C H2 a A2 (rS z w) n Lp ln B2 tj uP lo2 ke->Lp[i2]?=some p2->iT (Lp.map fun p=>V.int (sj p.2)) (i2:Int)=some (.int (sj p2.2))/\iT (Lp.map fun p=>V.int (sj p.1)) (i2:Int)=some (.int (sj p2.1)):=fun c2 h2=>
   ⟨gR (by rw[getElem?_map,h2];rfl),gR (by rw[getElem?_map,h2];rfl)⟩
  have l7:∀{x:RP},Iv n x.1 x.2->x.1.length<=7/\x.2.length<=7:=fun h=>⟨by rw[h.lr];exact hn,by rw[h.ls];exact hn⟩
  have Wx:=c.rw p (mem_of_getElem? hi)
  have ivq:=c.rw q (mem_of_getElem? hj)
  refine⟨_,rfl,a,C,A.dx,_,_,rfl,c.ob,T.cl,T.fi,FW,_,rfl,A.fi,_,j,_,rfl,rfl,b7.of c.uY,(TF c hj).1,_,rfl,a,C,A.dx,_,_,rfl,c.ob,T.cl,T.la,FY,_,rfl,A.la,_,i,_,rfl,rfl,b7.of c.hla,(TF c hi).2,_,rfl,_,_,rfl,rfl,?_⟩
  dsimp only
  rw[BG (l7 Wx).1 (l7 ivq).2]
  refine⟨fun m σ H2=>∃(A2:Ad)(mo:List RP)(tj uP lo2:List (List Key×V))(i2 j2:Nat)(p2 q2:RP)(s:Nat)(kv:Option V),σ=[some (.ref a),some (.int i2),some (.int j2),some (.int (Aq (mr p2 q2))),kv]/\gA C H2 a A2 (rS z w) n (kn++mo) ln (B+4*s) tj uP lo2 ke/\
    (kn++mo)[i2]?=some p2/\(kn++mo)[j2]?=some q2/\fy (50-s) p2 q2=fy 50 p q/\s<=dR p2.1/\m=50-s/\gx H H2 (a::A.all) (a::A2.all)/\A2.li=A.li,⟨50,A,[],nu,sh,lo,i,j,p,q,0,none,rfl,by rw[append_nil];exact c,by rw[append_nil];exact hi,by rw[append_nil];exact hj,rfl,zero_le _,rfl,gx.refl _ _,rfl⟩,?_⟩
  rintro m σ H2 ⟨A2,mo,tj,uP,lo2,i2,j2,p2,q2,s,kv,rfl,c2,hi2,Jv,hs,hsc,hm,AD,PF⟩
  have Hi:=c2.rw p2 (mem_of_getElem? hi2)
  have Hj:=c2.rw q2 (mem_of_getElem? Jv)
  have aaX:=rf hn Hi
  refine⟨_,rfl,_,_,rfl,rfl,_,rfl,?_⟩
  dsimp only
  rw[F3 (l7 Hi).1 (l7 Hj).2]
  cases hl:(mr p2 q2).getLast? with
  |none=>
   refine qF ?_
   rw[nk _ hl]at hs
   refine⟨_,rfl,_,rfl,(by show 2<=sizeLine;decide),fun t ht=>?_⟩
   have st:=aD ht (.tup [V.int i2,V.int j2])
   refine k t i2 j2 _ A2 mo tj uP lo2 ((c2.same st).more (by omega)) (by rw[<-hs];exact hi2) (by rw[<-hs];exact Jv) (AD.gr t ht) ak (AD.trans (gx.same st _)) PF
  |some kk'=>
   refine rZ ?_
   obtain⟨j',rfl,Al,hlt,_⟩:=nX Hi Hj (mem_of_getLast? hl)
   have hup:=F5 Hi Al hlt
   have YS:=rg Hi Al
   have aaY:=rf hn YS
   have hsl:fy (50-(s+1)) (yZ p2 j') (zC q2 j')=fy 50 p q:=by
    rw[<-hs,show 50-s=(50-(s+1))+1 by omega,nj _ hl,show((j':Int)+1-1).toNat=j' by omega]
   refine⟨fun σ' H'=>∃m'<m,∃(A2:Ad)(mo:List RP)(tj uP lo2:List (List Key×V))(i2 j2:Nat)(p2 q2:RP)(s:Nat)(kv:Option V),σ'=[some (.ref a),some (.int i2),some (.int j2),some (.int (Aq (mr p2 q2))),kv]/\gA C H' a A2 (rS z w) n (kn++mo) ln (B+4*s) tj uP lo2 ke/\
    (kn++mo)[i2]?=some p2/\(kn++mo)[j2]?=some q2/\fy (50-s) p2 q2=fy 50 p q/\s<=dR p2.1/\m'=50-s/\gx H H' (a::A.all) (a::A2.all)/\A2.li=A.li,fun σ' H' h=>h,?_⟩
   refine⟨_,rfl,(by first|exact rfl|exact trivial),_,rfl,rfl,?_⟩
   dsimp only
   rw[F4 (l7 Hi).1 (l7 Hj).2 hl]
   refine⟨_,rfl,a,A2.dx,_,rfl,c2.ob,rfl,_,rfl,_,rfl,a,A2,z,w,n,kn++mo,ln,B+4*s,tj,uP,lo2,ke,p2,i2,j',rfl,c2,hn,by omega,hi2,Al,fun i3 H3 A3 TH Wy TJ c3 OD qz R0=>?_⟩
   have hj3:(kn++mo++TH)[j2]?=some q2:=bH Jv
   refine⟨_,rfl,a,A3.dx,_,rfl,c3.ob,rfl,_,rfl,_,rfl,a,A3,z,w,n,kn++mo++TH,ln,B+4*s+2,Wy,uP,TJ,ke,q2,j2,j',rfl,c3,hn,by omega,hj3,Al,fun j4 H4 A4 B4 R3 R4 c4 R5 OG Wz=>?_⟩
   have OH:(kn++mo++TH++B4)[i3]?=some (yZ p2 j'):=bH OD
   refine⟨_,rfl,a,C,A4.dx,_,_,rfl,c4.ob,T.cl,T.fi,FW,_,rfl,A4.fi,_,j4,_,rfl,rfl,b7.of c4.uY,(TF c4 R5).1,_,rfl,a,C,A4.dx,_,_,rfl,c4.ob,T.cl,T.la,FY,_,rfl,A4.la,_,i3,_,rfl,rfl,b7.of c4.hla,(TF c4 OH).2,_,rfl,_,_,rfl,rfl,?_⟩
   have iva:=rh Hj Al
   dsimp only
   rw[BG (l7 YS).1 (l7 iva).2]
   rw[List.append_assoc,List.append_assoc]at c4 OH R5
   refine⟨50-(s+1),by omega,A4,mo++(TH++B4),R3,R4,TJ,i3,j4,yZ p2 j',zC q2 j',s+1,_,rfl,?_,OH,R5,hsl,by omega,rfl,(AD.trans qz).trans OG,Wz.trans (R0.trans PF)⟩
   rw[show B+4*(s+1)=B+4*s+2+2 by omega]
   exact c4
end
end DL.nq
namespace DL.nq
open PySem PySem.Spec PyProof.Rows L2 DL
abbrev GC:Stmt:=inClass (top 20) 5
def Lx(C:Addr):Sp:=fun vs H Q _=>∃(a:Addr)(A:Ad)(z w:Int)(n:Nat)(kn:List RP)(ln:List Int)(B:Nat)(nu sh lo ke:List (List Key×V))(p q:RP)(i j:Nat),
 vs=[.ref a,.int i,.int j]/\gA C H a A (rS z w) n kn ln B nu sh lo ke/\n<=7/\B+400<1000000/\kn[i]?=some p/\kn[j]?=some q/\
 ∀(t:Addr)(i' j':Nat)(H':Hp)(A':Ad)(mo:List RP)(AB OC OE WA:List (List Key×V)),gA C H' a A' (rS z w) n (kn++mo) ln (B+201) AB OC OE WA->(kn++mo)[i']?=some (fy 50 p q).1->(kn++mo)[j']?=some (fy 50 p q).2->
  H' t=some (.tup [.int i',.int j'])->gx H H' (a::A.all) (a::A'.all)->A'.li=A.li->Q (.ref t) H'
section
variable{P:Program}{w:World}{K:PySem.W.Frag}{mg:Str->Option Value}{base:Heap}
theorem TN:aw ["self","one","other","pair","found"] ["self","one","other"] (ae GC):=⟨rfl,rfl,rfl,by decide +kernel,rfl,by decide +kernel,by decide +kernel⟩
theorem R6{f C fS:Addr}{fd Lw:FuncData}(F:yg K "slide_kept" "Comb.slide_kept" GC f fd)(T:Hq K mg C)(t:Tb K mg)
  (mS:Meth K C "slide" fS)(bS:Binds K Lw ["self","one","other"] [])(GS:bQ P w K mg base jL 5 fS Lw ["self","one","other"] (Lv C)):bQ P w K mg base jL 6 f fd ["self","one","other"] (Lx C):=by
 refine F.ok TN (fun vs H Q E h=>?_) (fun cdv A outer s H vs Q E hr h=>?_)
 ·obtain⟨a,A,z,w,n,kn,ln,B,nu,sh,lo,ke,p,q,i,j,rfl,_⟩:=h
  rfl
 ·obtain⟨a,A,z,w,n,kn,ln,B,nu,sh,lo,ke,p,q,i,j,rfl,c,hn,hB,hi,hj,k⟩:=h
  have hu:=pD hr
  refine⟨_,az (cD (i:=3) TN.nd rfl (Or.inl rfl) (qC (au (pv 1) (au (pv 2) aC))))
   (az (cD (i:=4) TN.nd rfl (Or.inl rfl) (Eb hu (bj (pv 0) rfl) (pv 3) ⟨rfl,rfl,rfl,rfl⟩))
   (az (rJ (iX Mm (pv 4) DJ (aK _))
    (az (cD (i:=4) TN.nd rfl (Or.inl rfl) (gQ (pv 0) T.cl mS GS (hr.mono (by decide)) bS .nil lR (au (pv 1) (au (pv 2) aC))))
    (bE (rJ (iX tJ (g9 C1 (by rfl) T.Tv dW (au (bj (pv 0) rfl) aC)) (HC (by rfl) t.qq (v:=.int 200000) ⟨_,rfl⟩) (aK _))
     (bE (sM hu (bj (pv 0) rfl) (pv 3) (pv 4) rfl)) jJ))) jJ)
   (bE (j7 (pv 4))))),?_⟩
  refine⟨_,rfl,_,rfl,(by show 2<=sizeLine;decide),fun l hl=>?_⟩
  have s1:aB H (upd H l (.tup [.int i,.int j])):=aD hl _
  have c1:=c.same s1
  have hkey:(upd H l (.tup [.int i,.int j])) l=some (.tup (([.inl (i:Int),.inl (j:Int)]:List Key).map kV)):=ak
  have xJ:=gx.same s1 (a::A.all)
  have RX:l∉a::A.all:=fun hx=>by
   obtain⟨o,ho⟩:=c.there hx
   rw[hl]at ho
   cases ho
  generalize hH1:upd H l (.tup [.int i,.int j])=H1 at s1 c1 hkey xJ
  refine⟨_,rfl,a,C,A.dx,_,_,rfl,c1.ob,T.cl,T.ke,FZ,A.ke,rfl,.inr ⟨_,.inl c1.hke⟩,_,rfl,_,kZ.t c1.hke hkey,?_⟩
  cases hv:cF ke ([.inl (i:Int),.inl (j:Int)]:List Key)with
  |some v=>
   obtain⟨t',i',j',p',q',h1,h2,rfl,h4,h5,h6⟩:=c1.k1 i j v hv
   rw[hi]at h1
   rw[hj]at h2
   cases h1
   cases h2
   refine⟨_,rfl,rfl,_,rfl,?_⟩
   rw[decide_eq_false (show¬((some (V.ref t')).getD .non=.non)from fun zz=>nomatch zz)]
   refine qF ?_
   exact⟨_,rfl,k t' i' j' H1 A [] nu sh lo ke (by rw[append_nil];exact c1.more (by omega)) (by rw[append_nil];exact h5) (by rw[append_nil];exact h6) h4 xJ rfl⟩
  |none=>
   refine⟨_,rfl,rfl,_,rfl,?_⟩
   rw[decide_eq_true (show((none:Option V).getD .non=.non)from rfl)]
   refine rZ ?_
   refine⟨_,rfl,a,A.dx,_,rfl,c1.ob,rfl,_,rfl,_,rfl,a,A,z,w,n,kn,ln,B,nu,sh,lo,ke,p,q,i,j,rfl,c1,hn,by omega,hi,hj,fun t' i' j' H2 A2 mo tj uP lo2 c2 hi2 Jv htn TQ AD PF=>?_⟩
   have hz:=c2.z
   have R7:=xJ.trans AD
   refine⟨_,rfl,a,C,A2.dx,_,_,rfl,c2.ob,T.cl,T.ke,FZ,A2.ke,_,rfl,c2.hke,_,_,rfl,rfl,_,rfl,?_⟩
   generalize decide ((ke.length:Int)<200000)=bb
   cases bb with
   |true=>
    refine rZ ?_
    have R8:H2 l=some (.tup (([.inl (i:Int),.inl (j:Int)]:List Key).map kV)):=AD.kp l _ RX hkey
    refine⟨_,rfl,_,rfl,a,C,A2.dx,_,_,rfl,c2.ob,T.cl,T.ke,FZ,_,rfl,A2.ke,_,rfl,yj.t c2.hke R8 (Nat.lt_of_le_of_lt (show ke.length<=1000001 by omega) (by decide)),?_⟩
    have c3:=c2.Oq (bH hi) (bH hj) TQ hi2 Jv
    refine⟨_,rfl,k t' i' j' _ A2 mo tj uP lo2 _ c3 hi2 Jv ?_ (R7.trans (gx.upd (mem_cons_of_mem _ (mem_append_left _ (by simp[Ad.hd]))) _)) PF⟩
    rw[ah (bz TQ c2.hke (by intro zz;cases zz))]
    exact TQ
   |false=>
    refine qF ?_
    exact⟨_,rfl,k t' i' j' H2 A2 mo tj uP lo2 ke (c2.more (by omega)) hi2 Jv TQ R7 PF⟩
end
end DL.nq
namespace DL.nq
open PySem PySem.Spec PyProof.Rows L2 DL
abbrev GD:Stmt:=inClass (top 20) 6
def Ly(K:PySem.W.Frag)(C:Addr):Sp:=fun vs H Q _=>∃(a:Addr)(A:Ad)(zn:Nat)(w:Int)(n:Nat)(kn:List RP)(ls:List Nat)(R:List RP)(B:Nat)(nu sh lo ke:List (List Key×V))(p:RP)(v:V),
 vs=[.ref a,v]/\gA C H a A (rS zn w) n kn (nI ls) B nu sh lo ke/\cj kn ls R/\kn[zn]?=some (upTo n,upTo n)/\n<=7/\B+402*(R.length+1)<900000/\R.length<=1000/\Iv n p.1 p.2/\Is K (fun x=>x∉a::A.all) H (.lst (aA p.1)) v/\
 ∀(H':Hp)(A':Ad)(mo:List RP)(YT:List Nat)(AB OC OE WA:List (List Key×V)),gA C H' a A' (rS zn w) n (kn++mo) (nI YT) (B+402*(R.length+1)) AB OC OE WA->cj (kn++mo) YT (fY n R p)->gx H H' (a::A.all) (a::A'.all)->Q .non H'
section
variable{P:Program}{w:World}{K:PySem.W.Frag}{mg:Str->Option Value}{base:Heap}
theorem R9:aw ["self","row","line","place","pair"] ["self","row"] (ae GD):=⟨rfl,rfl,rfl,by decide +kernel,rfl,by decide +kernel,by decide +kernel⟩
theorem Sd{f C fN fS:Addr}{fd Gz Lw:FuncData}(F:yg K "put" "Comb.put" GD f fd)(T:Hq K mg C)
  (mN:Meth K C "number_of" fN)(bN:Binds K Gz ["self","row"] [])(GN:bQ P w K mg base jL 3 fN Gz ["self","row"] (zg K C))
  (mS:Meth K C "slide_kept" fS)(bS:Binds K Lw ["self","one","other"] [])(GS:bQ P w K mg base jL 6 fS Lw ["self","one","other"] (Lx C)):bQ P w K mg base jL 7 f fd ["self","row"] (Ly K C):=by
 refine F.ok R9 (fun vs H Q E h=>?_) (fun cdv A outer s H vs Q E hr h=>?_)
 ·obtain⟨a,A,zn,w,n,kn,ls,R,B,nu,sh,lo,ke,p,v,rfl,_⟩:=h
  rfl
 ·obtain⟨a,A,zn,w,n,kn,ls,R,B,nu,sh,lo,ke,p,v,rfl,c,hR,YU,hn,hB,hRl,Wx,isr,k⟩:=h
  have hu:=pD hr
  refine⟨_,az (cD (i:=2) R9.nd rfl (Or.inl rfl) (bj (pv 0) rfl))
   (az (fM (rM plainAttrs_list PySem.F.slot_list_append PySem.F.type_list_append cV (pv 2) (au (gQ (pv 0) T.cl mN GN (hr.mono (by decide)) bN .nil lR (au (pv 1) aC)) aC)) rfl)
   (az (cD (i:=3) R9.nd rfl (Or.inl rfl) (pC bA (g9 kX (by rfl) T.Tv dW (au (pv 2) aC)) fK))
   (az (tE PassesOwn.never (iX jK (pv 3) fK (aK _))
    (az (cD (i:=4) R9.nd rfl (Or.inl rfl) (gQ (pv 0) T.cl mS GS (hr.mono (by decide)) bS .nil lR (au (gB cO (pv 2) (pC bA (pv 3) fK) (fun _ _=>rfl)) (au (gB cO (pv 2) (pv 3) (fun _ _=>rfl)) aC))))
    (az (rJ (iX DY (gB wO (pv 4) fK (fun _ _=>rfl)) (gB cO (pv 2) (pC bA (pv 3) fK) (fun _ _=>rfl)) (aK _)) (bE DN) jJ)
    (az (zH (gB wO (pv 4) fK (fun _ _=>rfl)) (zG (pv 2) (pC bA (pv 3) fK) set_list (by intro _;rfl)) rfl rfl rfl)
    (az (zH (gB wO (pv 4) fK (fun _ _=>rfl)) (zG (pv 2) (pv 3) set_list (by intro _;rfl)) rfl rfl rfl)
    (bE (zI (i:=3) R9.nd rfl (Or.inl rfl) fK Mb)))))))
   (bE (rJ (iX DY (gB cO (pv 2) (AX jg fK) (fun _ _=>rfl)) (bj (pv 0) rfl) (aK _))
    (bE (fM (wR plainAttrs_list slot_list_pop type_list_pop D7 (pv 2)) rfl)) jJ))))),?_⟩
  refine⟨_,rfl,a,C,A.dx,_,_,rfl,c.ob,T.cl,T.li,y4,?_⟩
  refine⟨_,rfl,.inl ⟨rfl,_,b7.of c.hli⟩,_,rfl,a,A.dx,_,rfl,c.ob,rfl,_,rfl,a,A,rS zn w,n,kn,nI ls,B,nu,sh,lo,ke,p,v,rfl,c,hn,by omega,Wx,isr,fun i1 H1 A1 Se Sf c1 hi1 xJ PH=>?_⟩
  have hz:=c1.z
  have To:=hR.len
  have big:∀{x:Nat},x<=1000001->x<sizeLine:=fun h=>Nat.lt_of_le_of_lt h (by decide)
  refine⟨A.li,(nI ls).map V.int,.int i1,rfl,rfl,by rw[<-PH];exact c1.hli,by rw[length_map,kc];exact big (by omega),?_⟩
  have YV:cj (kn++Se) (ls++[i1]) (R++[p]):=hR.pre.app hi1
  have c2:=c1.y7 YV.li
  rw[Ou,PH]at c2
  have AD:gx H (upd H1 A.li (.lst ((nI ls).map V.int++[.int i1]))) (a::A.all) (a::A1.all):=xJ.trans (gx.upd (by rw[<-PH];exact mem_cons_of_mem _ (mem_append_left _ (by simp[Ad.hd]))) _)
  generalize upd H1 A.li (.lst ((nI ls).map V.int++[.int i1]))=H2 at c2 AD
  have WB:H2 A.li=some (.lst ((nI (ls++[i1])).map V.int)):=by rw[<-PH];exact c2.hli
  refine⟨_,rfl,A.li,_,rfl,.inl (b7.of WB),_,_,rfl,rfl,?_⟩
  have epl:((((nI (ls++[i1])).map V.int).length:Nat):Int)-1=(R.length:Nat):=by
   rw[length_map,kc,length_append,length_singleton]
   omega
  dsimp only
  rw[epl]
  refine⟨fun m σ H2=>∃(A2:Ad)(mo:List RP)(tj uP lo2 Ht:List (List Key×V))(Sg:List Nat)(t:Nat)(cr:RP)(dn:List RP)(pr:Option V),σ=[some (.ref a),some v,some (.ref A.li),some (.int t),pr]/\gA C H2 a A2 (rS zn w) n (kn++mo) (nI Sg) (B+1+201*(R.length-t)) tj uP lo2 Ht/\
    cj (kn++mo) Sg (R.take t++cr::dn)/\t<=R.length/\(uB (R.take t).reverse cr).reverse++dn=sU R p/\m=t/\gx H H2 (a::A.all) (a::A2.all)/\A2.li=A.li,
   ⟨R.length,A1,Se,Sf,sh,lo,ke,ls++[i1],R.length,p,[],none,rfl,by rw[sub_self];exact c2,by rw[take_length];exact YV,Nat.le_refl _,by rw[take_length,append_nil];rfl,rfl,AD,PH⟩,?_⟩
  rintro m σ H3 ⟨A3,mo,Wy,sh3,TJ,ke3,uZ,t,cr,dn,pr,rfl,c3,hL,htR,hT,rfl,qz,R0⟩
  have hli:H3 A.li=some (.lst ((nI uZ).map V.int)):=by rw[<-R0];exact c3.hli
  refine⟨_,rfl,_,_,rfl,rfl,_,rfl,?_⟩
  cases m with
  |zero=>
   rw[decide_eq_false (by omega)]
   refine qF ?_
   have Lz:cj (kn++mo) uZ (sU R p):=by
    rw[<-hT]
    exact hL
   obtain⟨m1,r1,hm1,hm2,PJ⟩:=Lz.last (by rw[sV];omega)
   refine⟨_,rfl,_,rfl,A.li,_,-1,_,rfl,rfl,b7.of hli,tP (sW hm1),_,rfl,a,C,A3.dx,_,_,rfl,c3.ob,T.cl,T.no,Ld,rfl,_,rfl,?_⟩
   have hz2:(kn++mo)[zn]?=some (upTo n,upTo n):=bH YU
   by_cases hq:r1=(upTo n,upTo n)
   ·rw[decide_eq_true (show V.int (m1:Int)=V.int (zn:Int)from congrArg V.int ((c3.inj PJ hz2).mpr hq))]
    refine rZ ?_
    refine⟨_,rfl,.inl ⟨rfl,_,b7.of hli⟩,A.li,_,_,rfl,rfl,hli,BI (sW hm1),?_⟩
    rw[BJ,<-R0]
    have hdr:cj (kn++mo) uZ.dropLast (fY n R p):=by
     unfold fY
     rw[if_pos (by rw[hm2,hq])]
     exact Lz.drop
    exact k _ A3 mo uZ.dropLast _ _ _ _ ((c3.y7 hdr.li).more (by omega)) hdr (qz.trans (gx.upd (mem_cons_of_mem _ (mem_append_left _ (by simp[Ad.hd]))) _))
   ·rw[decide_eq_false (show¬V.int (m1:Int)=V.int (zn:Int)from fun e=>hq ((c3.inj PJ hz2).mp (by injection e)))]
    refine qF ?_
    have hdr:cj (kn++mo) uZ (fY n R p):=by
     unfold fY
     rw[if_neg (by rw[hm2];exact fun e=>hq (Option.some.inj e))]
     exact Lz
    exact k _ A3 mo uZ _ _ _ _ (c3.more (by omega)) hdr qz
  |succ t=>
   rw[decide_eq_true (by omega)]
   refine rZ ?_
   have WC:R[t]?=some (R[t]'(by omega)):=getElem?_eq_getElem (by omega)
   generalize R[t]'(by omega)=r at WC
   have YW:R.take (t+1)=R.take t++[r]:=by rw[take_succ,WC];rfl
   have YX:(R.take t).length=t:=by rw[length_take];omega
   have g1:(R.take (t+1)++cr::dn)[t]?=some r:=by
    rw[YW,List.append_assoc,getElem?_append_right (by omega),YX,sub_self]
    rfl
   have g2:(R.take (t+1)++cr::dn)[t+1]?=some cr:=by
    rw[getElem?_append_right (by rw[length_take];omega),show t+1-(R.take (t+1)).length=0 by rw[length_take];omega]
    rfl
   obtain⟨ma,la,ka⟩:=hL.at g1
   obtain⟨mb,lb,kb⟩:=hL.at g2
   refine⟨fun σ' H'=>∃m'<t+1,∃(A2:Ad)(mo:List RP)(tj uP lo2 Ht:List (List Key×V))(Sg:List Nat)(t:Nat)(cr:RP)(dn:List RP)(pr:Option V),σ'=[some (.ref a),some v,some (.ref A.li),some (.int t),pr]/\gA C H' a A2 (rS zn w) n (kn++mo) (nI Sg) (B+1+201*(R.length-t)) tj uP lo2 Ht/\
    cj (kn++mo) Sg (R.take t++cr::dn)/\t<=R.length/\(uB (R.take t).reverse cr).reverse++dn=sU R p/\m'=t/\gx H H' (a::A.all) (a::A2.all)/\A2.li=A.li,fun σ' H' h=>h,?_⟩
   have TR:((t+1:Nat):Int)-1=(t:Nat):=by omega
   refine⟨_,rfl,a,A3.dx,_,rfl,c3.ob,rfl,_,rfl,_,rfl,_,_,rfl,rfl,A.li,_,((t+1:Nat):Int)-1,.int ma,rfl,rfl,b7.of hli,by rw[TR];exact gR (rm la),_,rfl,_,rfl,A.li,_,((t+1:Nat):Int),.int mb,rfl,rfl,b7.of hli,gR (rm lb),
    a,A3,zn,w,n,kn++mo,nI uZ,_,Wy,sh3,TJ,ke3,r,cr,ma,mb,rfl,c3,hn,by omega,ka,kb,fun tt i4 j4 H4 A4 B4 R3 R4 WD WE c4 OH R5 TU OG Wz=>?_⟩
   have zh:=Wz.trans R0
   have Jw:H4 A.li=some (.lst ((nI uZ).map V.int)):=by rw[<-zh];exact c4.hli
   refine⟨_,rfl,tt,_,0,_,rfl,rfl,x9.of TU,rfl,_,rfl,_,rfl,_,_,rfl,rfl,A.li,_,((t+1:Nat):Int)-1,.int ma,rfl,rfl,b7.of Jw,by rw[TR];exact gR (rm la),rfl,_,rfl,?_⟩
   have YY:(kn++mo++B4)[ma]?=some r:=bH ka
   have hsl:=F7 (c:=cr) WC
   by_cases TV:(fy 50 r cr).1=r
   ·rw[decide_eq_true (show V.int (i4:Int)=V.int (ma:Int)from congrArg V.int ((c4.inj OH YY).mpr TV))]
    refine rZ ?_
    have Lz:cj (kn++mo++B4) uZ (sU R p):=by
     rw[<-hT,hsl,if_pos TV,reverse_cons,reverse_reverse,show R.take (t+1)++[cr]++dn=R.take (t+1)++cr::dn by rw[List.append_assoc];rfl]
     exact hL.pre
    have hli:=Jw
    obtain⟨m1,r1,hm1,hm2,PJ⟩:=Lz.last (by rw[sV];omega)
    rw[List.append_assoc]at c4 PJ Lz
    refine⟨_,rfl,_,rfl,A.li,_,-1,_,rfl,rfl,b7.of hli,tP (sW hm1),_,rfl,a,C,A4.dx,_,_,rfl,c4.ob,T.cl,T.no,Ld,rfl,_,rfl,?_⟩
    have hz2:(kn++(mo++B4))[zn]?=some (upTo n,upTo n):=bH YU
    by_cases hq:r1=(upTo n,upTo n)
    ·rw[decide_eq_true (show V.int (m1:Int)=V.int (zn:Int)from congrArg V.int ((c4.inj PJ hz2).mpr hq))]
     refine rZ ?_
     refine⟨_,rfl,.inl ⟨rfl,_,b7.of hli⟩,A.li,_,_,rfl,rfl,hli,BI (sW hm1),?_⟩
     rw[BJ,<-zh]
     have hdr:cj (kn++(mo++B4)) uZ.dropLast (fY n R p):=by
      unfold fY
      rw[if_pos (by rw[hm2,hq])]
      exact Lz.drop
     exact k _ A4 (mo++B4) uZ.dropLast _ _ _ _ ((c4.y7 hdr.li).more (by omega)) hdr ((qz.trans OG).trans (gx.upd (mem_cons_of_mem _ (mem_append_left _ (by simp[Ad.hd]))) _))
    ·rw[decide_eq_false (show¬V.int (m1:Int)=V.int (zn:Int)from fun e=>hq ((c4.inj PJ hz2).mp (by injection e)))]
     refine qF ?_
     have hdr:cj (kn++(mo++B4)) uZ (fY n R p):=by
      unfold fY
      rw[if_neg (by rw[hm2];exact fun e=>hq (Option.some.inj e))]
      exact Lz
     exact k _ A4 (mo++B4) uZ _ _ _ _ (c4.more (by omega)) hdr (qz.trans OG)
   ·rw[decide_eq_false (show¬V.int (i4:Int)=V.int (ma:Int)from fun e=>TV ((c4.inj OH YY).mp (by injection e)))]
    refine qF ?_
    have lt1:t+1<uZ.length:=(List.getElem?_eq_some_iff.mp lb).1
    have ixa:pe ((nI uZ).map V.int).length (((t+1:Nat):Int)-1)=some t:=by
     unfold L2.pe
     rw[TR,if_pos (by omega),if_pos (by rw[length_map,kc];omega),toNat_natCast]
    refine⟨_,rfl,tt,_,0,_,rfl,rfl,x9.of TU,rfl,_,rfl,_,rfl,_,_,rfl,rfl,A.li,_,_,t,rfl,rfl,Jw,ixa,?_⟩
    have YZ:cj (kn++mo++B4) (uZ.set t i4) ((R.take (t+1)++cr::dn).set t (fy 50 r cr).1):=hL.pre.set t OH
    have c5:=c4.y7 YZ.li
    rw[zh,<-F6]at c5
    have CA:gx H (upd H4 A.li (.lst (((nI uZ).map V.int).set t (.int i4)))) (a::A.all) (a::A4.all):=(qz.trans OG).trans (gx.upd (by rw[<-zh];exact mem_cons_of_mem _ (mem_append_left _ (by simp[Ad.hd]))) _)
    have Pn:(upd H4 A.li (.lst (((nI uZ).map V.int).set t (.int i4)))) tt=some (.tup [.int i4,.int j4]):=by rw[ah (bz TU Jw (by intro zz;cases zz))];exact TU
    generalize upd H4 A.li (.lst (((nI uZ).map V.int).set t (.int i4)))=H5 at c5 CA Pn
    have WG:H5 A.li=some (.lst ((nI (uZ.set t i4)).map V.int)):=by rw[<-zh];exact c5.hli
    have ixb:pe ((nI (uZ.set t i4)).map V.int).length ((t+1:Nat):Int)=some (t+1):=by
     unfold L2.pe
     rw[if_pos (by omega),if_pos (by rw[length_map,kc,length_set];omega),toNat_natCast]
    refine⟨_,rfl,tt,_,1,_,rfl,rfl,x9.of Pn,rfl,_,rfl,_,rfl,A.li,_,_,t+1,rfl,rfl,WG,ixb,?_⟩
    have TX:=YZ.set (t+1) R5
    have c6:=c5.y7 TX.li
    rw[zh,<-F6]at c6
    have Tw:gx H (upd H5 A.li (.lst (((nI (uZ.set t i4)).map V.int).set (t+1) (.int j4)))) (a::A.all) (a::A4.all):=CA.trans (gx.upd (by rw[<-zh];exact mem_cons_of_mem _ (mem_append_left _ (by simp[Ad.hd]))) _)
    refine⟨_,rfl,_,_,rfl,rfl,?_⟩
    have WH:((R.take (t+1)++cr::dn).set t (fy 50 r cr).1).set (t+1) (fy 50 r cr).2=R.take t++(fy 50 r cr).1::(fy 50 r cr).2::dn:=by
     rw[YW,List.append_assoc,List.set_append_right _ _ (by omega),List.set_append_right _ _ (by omega),YX,sub_self,show t+1-t=1 by omega]
     rfl
    rw[WH]at TX
    rw[List.append_assoc]at c6 TX
    dsimp only
    rw[TR]
    refine⟨t,by omega,A4,mo++B4,R3,R4,WD,WE,_,t,(fy 50 r cr).1,(fy 50 r cr).2::dn,_,rfl,c6.more (by omega),TX,by omega,?_,rfl,Tw,zh⟩
    rw[<-hT,hsl,if_neg TV,reverse_cons,List.append_assoc]
    rfl
end
end DL.nq
namespace DL.nq
open PySem PySem.Spec PyProof.Rows L2 DL
abbrev B5:Stmt:=inClass (top 20) 7
def WI(K:PySem.W.Frag):TE:=UC (fun xs H Q=>∃p ys,xs=[V.ref p]/\(b7 K H p ys\/x9 K H p ys)/\∀l,H l=none->Q (.ref l) (upd H l (.lst ys))) (D2 (Qe (Mp K) (Ql K (HB 1) "known") (HB 0)) HR)
def LA(K:PySem.W.Frag)(C:Addr):Sp:=fun vs H Q _=>∃(a:Addr)(A:Ad)(z:Int)(wn n:Nat)(kn:List RP)(ls:List Nat)(R:List RP)(B:Nat)(nu sh lo ke:List (List Key×V)),
 vs=[.ref a]/\gA C H a A (rS z wn) n kn (nI ls) B nu sh lo ke/\cj kn ls R/\kn[wn]?=some (mw n)/\R.length<=1000/\∀(v:V)(H':Hp),aB H H'->Is K (fun x=>H x=none) H' (rT n R) v->Q v H'
section
variable{P:Program}{w:World}{K:PySem.W.Frag}{mg:Str->Option Value}{base:Heap}
theorem WK:aw ["self","many"] ["self"] (ae B5):=⟨rfl,rfl,rfl,by decide +kernel,rfl,by decide +kernel,by decide +kernel⟩
theorem Sh{f C:Addr}{fd:FuncData}(F:yg K "form_told" "Comb.form_told" B5 f fd)(T:Hq K mg C):bQ P w K mg base jL 1 f fd ["self"] (LA K C):=by
 refine F.ok WK (fun vs H Q E h=>?_) (fun cdv A outer s H vs Q E hr h=>?_)
 ·obtain⟨a,A,z,wn,n,kn,ls,R,B,nu,sh,lo,ke,rfl,_⟩:=h
  rfl
 ·obtain⟨a,A,z,wn,n,kn,ls,R,B,nu,sh,lo,ke,rfl,c,hR,Y0,hRl,k⟩:=h
  have hu:=pD hr
  refine⟨_,az (cD (i:=1) WK.nd rfl (Or.inl rfl) fK)
   (az (tE PassesOwn.never (pw_and (iX tJ (pv 1) (g9 kX (by rfl) T.Tv dW (au (bj (pv 0) rfl) aC)) (aK _)) (pw_and1 (iX DY (gB cO (bj (pv 0) rfl) (pv 1) (fun _ _=>rfl)) (bj (pv 0) rfl) (aK _)))).pt
    (bE (zI (i:=1) WK.nd rfl (Or.inl rfl) fK DR)))
   (bE (j7 (qC (au (pv 1) (au (Gk (te:=WI K) (Dz (N:=["number","self"]) (nt:=1) (caps:=[0]) (ae B5) ["self","many"] (by decide +kernel)) rfl (sI (yd A5 (bj (pv 0) rfl) (AZ (pv 1)) AY)) (fun _ _ _ _ _=>wL (i:=0) (by show Nodup (["number","self"]:List Str);decide +kernel) rfl (Or.inl rfl)) (fun _ _ _ _ _=>by exact nP kY (by rfl) T.YC jO (au (gB cO (bj (pv 1) rfl) (pv 0) (fun _ _=>rfl)) aC))) aC)))))),?_⟩
  refine⟨fun m σ H2=>∃i:Nat,σ=[some (.ref a),some (.int i)]/\H2=H/\i<=R.length/\(∀j<i,R[j]?=some (mw n))/\m=R.length-i,⟨R.length,0,rfl,rfl,zero_le _,fun j hj=>absurd hj (Nat.not_lt_zero _),rfl⟩,?_⟩
  rintro m σ H2 ⟨i,rfl,rfl,Y1,hal,hm⟩
  refine⟨_,rfl,_,rfl,a,C,A.dx,_,_,rfl,c.ob,T.cl,T.li,y4,A.li,_,rfl,.inl (b7.of c.hli),_,_,rfl,rfl,_,rfl,?_⟩
  by_cases hlt:i<R.length
  ·rw[decide_eq_true (show(i:Int)<(((nI ls).map V.int).length:Nat)by rw[length_map,kc,hR.len];omega)]
   refine rZ ?_
   obtain⟨mi,hm1,hm2⟩:=hR.at (getElem?_eq_getElem hlt)
   refine⟨_,rfl,a,C,A.dx,_,_,rfl,c.ob,T.cl,T.li,y4,_,rfl,A.li,_,i,.int mi,rfl,rfl,b7.of c.hli,gR (rm hm1),_,rfl,a,C,A.dx,_,_,rfl,c.ob,T.cl,T.wh,RH,rfl,_,rfl,?_⟩
   by_cases he:R[i]=mw n
   ·rw[decide_eq_true (show V.int (mi:Int)=V.int (wn:Int)from congrArg V.int ((c.inj hm2 Y0).mpr he))]
    refine rZ ?_
    refine⟨fun σ' H'=>∃m'<m,∃i:Nat,σ'=[some (.ref a),some (.int i)]/\H'=H2/\i<=R.length/\(∀j<i,R[j]?=some (mw n))/\m'=R.length-i,fun _ _ h=>h,_,rfl,_,_,rfl,rfl,R.length-(i+1),by omega,i+1,rfl,rfl,hlt,fun j hj=>?_,rfl⟩
    by_cases hji:j<i
    ·exact hal j hji
    ·have:j=i:=by omega
     subst this
     rw[getElem?_eq_getElem hlt,he]
   ·rw[decide_eq_false (show¬V.int (mi:Int)=V.int (wn:Int)from fun e=>he ((c.inj hm2 Y0).mp (by injection e)))]
    refine qF ?_
    have hcn:kg n R=i:=y8 hal (by rw[getElem?_eq_getElem hlt];exact fun e=>he (Option.some.inj e))
    have OI:vg ((nI ls).map V.int) (some (i:Int)) none=(nI (ls.drop i)).map V.int:=by
     unfold vg nI
     rw[kW _ _ _ (by omega),mE,toNat_natCast,length_map,length_map,hR.len,min_eq_left Y1,map_drop,map_drop]
     refine take_of_length_le ?_
     rw[length_drop,length_map,length_map,hR.len]
     exact Nat.le_refl _
    refine⟨_,rfl,_,rfl,a,C,A.dx,_,_,rfl,c.ob,T.cl,T.li,y4,_,rfl,_,rfl,A.li,_,rfl,b7.of c.hli,fun q hq=>?_⟩
    rw[OI]
    have s1:=aD hq (.lst ((nI (ls.drop i)).map V.int))
    have hq1:(upd H2 q (.lst ((nI (ls.drop i)).map V.int))) q=some (.lst ((nI (ls.drop i)).map V.int)):=ak
    generalize upd H2 q (.lst ((nI (ls.drop i)).map V.int))=H1 at s1 hq1
    have OJ:cj kn (ls.drop i) (R.drop i):=by
     unfold cj
     rw[map_drop,map_drop,show ls.map (fun m=>kn[m]?)=R.map some from hR]
    refine⟨q,rfl,⟨_,b7.of hq1⟩,q,_,[.ref a],rfl,b7.of hq1,rfl,fun j i' v e1 e2=>?_,fun Dd hD=>?_⟩
    ·match j with
     |0=>
      have z1:0=i':=by simpa using e1
      have z2:V.ref a=v:=by simpa using e2
      subst z1 z2
      rfl
     |j+1=>simp at e1
    ·refine⟨fun j acc Hx=>∃as:List Addr,acc=as.map V.ref/\as.length=j/\j<=(R.drop i).length/\aB H1 Hx/\Hx Dd=some (.lst acc)/\(∀b∈as,H1 b=none/\b≠Dd)/\∀(k:Nat)(b:Addr)(r:RP),as[k]?=some b->(R.drop i)[k]?=some r->Hx b=some (.lst (r.1.map V.int)),⟨[],rfl,rfl,zero_le _,aD hD _,ak,(fun b hb=>nomatch hb),fun k b r e=>by simp at e⟩,?_,?_,?_⟩
     ·rintro j acc Hx ⟨as,rfl,_,_,sx,C8,_⟩
      exact⟨b7.of (sx _ _ hq1),C8⟩
     ·rintro j acc Hx x ⟨as,rfl,hj,OO,sx,C8,hnew,hat⟩ hx
      have WL:j<(ls.drop i).length:=by
       have:=(List.getElem?_eq_some_iff.mp hx).1
       rwa [length_map,kc]at this
      have Jy:j<(R.drop i).length:=by rw[<-OJ.len];exact WL
      obtain⟨m,hm1,hm2⟩:=OJ.at (getElem?_eq_getElem Jy)
      rw[rm hm1]at hx
      cases hx
      have cx:=c.same (s1.trans sx)
      have CT:m<A.ks.length:=by rw[c.y0];exact(List.getElem?_eq_some_iff.mp hm2).1
      have hb:=cx.hks m A.ks[m] _ (getElem?_eq_getElem CT) hm2
      refine⟨_,rfl,a,C,A.dx,_,_,rfl,cx.ob,T.cl,T.kn,wk,_,rfl,A.kn,A.ks.map V.ref,m,.ref A.ks[m],rfl,rfl,b7.of cx.hkn,gR (by rw[getElem?_map,getElem?_eq_getElem CT];rfl),A.ks[m],_,rfl,.inl (b7.of hb),fun l2 hl2=>?_⟩
      have OP:Dd≠l2:=fun zz=>by rw[<-zz,C8]at hl2;cases hl2
      have hl1:H1 l2=none:=sx.free hl2
      refine⟨by rw[ah OP];exact C8,by rw[length_map,hj];exact lt_of_lt_of_le (show j<1000001 by rw[length_drop]at Jy;omega) (by decide),as++[l2],by rw[map_append];rfl,by rw[length_append,hj];rfl,Jy,?_,ak,fun b Hh=>?_,fun k' b r e1 e2=>?_⟩
      ·intro y o hy
       have WM:y≠Dd:=fun zz=>by rw[zz,hD]at hy;cases hy
       rw[ah WM]
       exact aD hl2 _ _ _ (sx _ _ hy)
      ·rcases mem_append.mp Hh with h|h
       ·exact hnew b h
       ·have:b=l2:=by simpa using h
        rw[this];exact⟨hl1,Ne.symm OP⟩
      ·by_cases hk:k'<as.length
       ·rw[getElem?_append_left hk]at e1
        have QA:=hat k' b r e1 e2
        rw[ah (hnew b (mem_of_getElem? e1)).2]
        exact aD hl2 _ _ _ QA
       ·obtain⟨z1,z2⟩:=ni e1 hk
        rw[hj]at z1
        rw[z1,getElem?_eq_getElem Jy]at e2
        cases e2
        rw[<-z2,ah (Ne.symm OP)]
        exact ak
     ·rintro acc Hx ⟨as,rfl,hj,OO,sx,C8,hnew,hat⟩
      refine⟨(by show 2<=sizeLine;decide),fun pt Si=>?_⟩
      have st:=aD Si (.tup [V.int i,V.ref Dd])
      have hlen:as.length=((R.drop i).map (·.1)).length:=by
       rw[hj,length_map,kc,length_map]
       exact OJ.len
      have WN:H2 Dd=none:=s1.free hD
      refine k _ _ ((s1.trans sx).trans st) ?_
      unfold rT
      rw[hcn]
      refine⟨pt,_,rfl,.inl ⟨(s1.trans sx).free Si,.inl ak⟩,_,_,rfl,rfl,_,_,rfl,⟨Dd,_,rfl,.inl ⟨WN,.inl (st _ _ C8)⟩,?_⟩,rfl⟩
      have:=pT (K:=K) (P:=fun x=>H2 x=none) (H:=upd Hx pt (.tup [V.int i,V.ref Dd])) hlen (fun b hb=>s1.free (hnew b hb).1) fun k' b ns e1 e2=>by
       rw[getElem?_map]at e2
       cases hr:(R.drop i)[k']? with
       |none=>rw[hr]at e2;cases e2
       |some r=>
        rw[hr]at e2
        cases e2
        exact st _ _ (hat k' b r e1 hr)
      rw[map_map]at this
      exact this
  ·rw[decide_eq_false (show¬(i:Int)<(((nI ls).map V.int).length:Nat)by rw[length_map,kc,hR.len];omega)]
   refine qF ?_
   refine qF ?_
   have hcn:kg n R=i:=y8 hal (by rw[getElem?_eq_none (by omega)];exact fun e=>nomatch e)
   have OI:vg ((nI ls).map V.int) (some (i:Int)) none=(nI (ls.drop i)).map V.int:=by
    unfold vg nI
    rw[kW _ _ _ (by omega),mE,toNat_natCast,length_map,length_map,hR.len,min_eq_left Y1,map_drop,map_drop]
    refine take_of_length_le ?_
    rw[length_drop,length_map,length_map,hR.len]
    exact Nat.le_refl _
   refine⟨_,rfl,_,rfl,a,C,A.dx,_,_,rfl,c.ob,T.cl,T.li,y4,_,rfl,_,rfl,A.li,_,rfl,b7.of c.hli,fun q hq=>?_⟩
   rw[OI]
   have s1:=aD hq (.lst ((nI (ls.drop i)).map V.int))
   have hq1:(upd H2 q (.lst ((nI (ls.drop i)).map V.int))) q=some (.lst ((nI (ls.drop i)).map V.int)):=ak
   generalize upd H2 q (.lst ((nI (ls.drop i)).map V.int))=H1 at s1 hq1
   have OJ:cj kn (ls.drop i) (R.drop i):=by
    unfold cj
    rw[map_drop,map_drop,show ls.map (fun m=>kn[m]?)=R.map some from hR]
   refine⟨q,rfl,⟨_,b7.of hq1⟩,q,_,[.ref a],rfl,b7.of hq1,rfl,fun j i' v e1 e2=>?_,fun Dd hD=>?_⟩
   ·match j with
    |0=>
     have z1:0=i':=by simpa using e1
     have z2:V.ref a=v:=by simpa using e2
     subst z1 z2
     rfl
    |j+1=>simp at e1
   ·refine⟨fun j acc Hx=>∃as:List Addr,acc=as.map V.ref/\as.length=j/\j<=(R.drop i).length/\aB H1 Hx/\Hx Dd=some (.lst acc)/\(∀b∈as,H1 b=none/\b≠Dd)/\∀(k:Nat)(b:Addr)(r:RP),as[k]?=some b->(R.drop i)[k]?=some r->Hx b=some (.lst (r.1.map V.int)),⟨[],rfl,rfl,zero_le _,aD hD _,ak,(fun b hb=>nomatch hb),fun k b r e=>by simp at e⟩,?_,?_,?_⟩
    ·rintro j acc Hx ⟨as,rfl,_,_,sx,C8,_⟩
     exact⟨b7.of (sx _ _ hq1),C8⟩
    ·rintro j acc Hx x ⟨as,rfl,hj,OO,sx,C8,hnew,hat⟩ hx
     have WL:j<(ls.drop i).length:=by
      have:=(List.getElem?_eq_some_iff.mp hx).1
      rwa [length_map,kc]at this
     have Jy:j<(R.drop i).length:=by rw[<-OJ.len];exact WL
     obtain⟨m,hm1,hm2⟩:=OJ.at (getElem?_eq_getElem Jy)
     rw[rm hm1]at hx
     cases hx
     have cx:=c.same (s1.trans sx)
     have CT:m<A.ks.length:=by rw[c.y0];exact(List.getElem?_eq_some_iff.mp hm2).1
     have hb:=cx.hks m A.ks[m] _ (getElem?_eq_getElem CT) hm2
     refine⟨_,rfl,a,C,A.dx,_,_,rfl,cx.ob,T.cl,T.kn,wk,_,rfl,A.kn,A.ks.map V.ref,m,.ref A.ks[m],rfl,rfl,b7.of cx.hkn,gR (by rw[getElem?_map,getElem?_eq_getElem CT];rfl),A.ks[m],_,rfl,.inl (b7.of hb),fun l2 hl2=>?_⟩
     have OP:Dd≠l2:=fun zz=>by rw[<-zz,C8]at hl2;cases hl2
     have hl1:H1 l2=none:=sx.free hl2
     refine⟨by rw[ah OP];exact C8,by rw[length_map,hj];exact lt_of_lt_of_le (show j<1000001 by rw[length_drop]at Jy;omega) (by decide),as++[l2],by rw[map_append];rfl,by rw[length_append,hj];rfl,Jy,?_,ak,fun b Hh=>?_,fun k' b r e1 e2=>?_⟩
     ·intro y o hy
      have WM:y≠Dd:=fun zz=>by rw[zz,hD]at hy;cases hy
      rw[ah WM]
      exact aD hl2 _ _ _ (sx _ _ hy)
     ·rcases mem_append.mp Hh with h|h
      ·exact hnew b h
      ·have:b=l2:=by simpa using h
       rw[this];exact⟨hl1,Ne.symm OP⟩
     ·by_cases hk:k'<as.length
      ·rw[getElem?_append_left hk]at e1
       have QA:=hat k' b r e1 e2
       rw[ah (hnew b (mem_of_getElem? e1)).2]
       exact aD hl2 _ _ _ QA
      ·obtain⟨z1,z2⟩:=ni e1 hk
       rw[hj]at z1
       rw[z1,getElem?_eq_getElem Jy]at e2
       cases e2
       rw[<-z2,ah (Ne.symm OP)]
       exact ak
    ·rintro acc Hx ⟨as,rfl,hj,OO,sx,C8,hnew,hat⟩
     refine⟨(by show 2<=sizeLine;decide),fun pt Si=>?_⟩
     have st:=aD Si (.tup [V.int i,V.ref Dd])
     have hlen:as.length=((R.drop i).map (·.1)).length:=by
      rw[hj,length_map,kc,length_map]
      exact OJ.len
     have WN:H2 Dd=none:=s1.free hD
     refine k _ _ ((s1.trans sx).trans st) ?_
     unfold rT
     rw[hcn]
     refine⟨pt,_,rfl,.inl ⟨(s1.trans sx).free Si,.inl ak⟩,_,_,rfl,rfl,_,_,rfl,⟨Dd,_,rfl,.inl ⟨WN,.inl (st _ _ C8)⟩,?_⟩,rfl⟩
     have:=pT (K:=K) (P:=fun x=>H2 x=none) (H:=upd Hx pt (.tup [V.int i,V.ref Dd])) hlen (fun b hb=>s1.free (hnew b hb).1) fun k' b ns e1 e2=>by
      rw[getElem?_map]at e2
      cases hr:(R.drop i)[k']? with
      |none=>rw[hr]at e2;cases e2
      |some r=>
       rw[hr]at e2
       cases e2
       exact st _ _ (hat k' b r e1 hr)
     rw[map_map]at this
     exact this
end
end DL.nq
namespace DL.nq
open PySem PySem.Spec PyProof.Rows L2 DL
abbrev AE:Stmt:=inClass (top 20) 0
def PK(i:Int):List (Str×V):=[("none",.int i)]
def LB(K:PySem.W.Frag)(C:Addr):Sp:=fun vs H Q _=>∃(a dx:Addr)(n:Nat),vs=[.ref a,.int n]/\(1<=n/\n<=7)/\H a=some (.ins C dx [])/\(∃o,H dx=some o)/\a≠dx/\
 ∀(H':Hp)(A':Ad)(kn:List RP)(zn wn:Nat)(nu:List (List Key×V)),gA C H' a A' (rS zn wn) n kn (nI []) 2 nu [] [] []->kn[zn]?=some (upTo n,upTo n)->kn[wn]?=some (mw n)->(∀x u,x≠a->H x=some u->x≠dx->H' x=some u)->(∀x∈A'.all,x=dx\/H x=none)->(∀x,H' x=none->H x=none)->Q .non H'
section
variable{P:Program}{w:World}{K:PySem.W.Frag}{mg:Str->Option Value}{base:Heap}
theorem sc0:aw ["self","n"] ["self","n"] (ae AE):=⟨rfl,rfl,rfl,by decide +kernel,rfl,by decide +kernel,by decide +kernel⟩
theorem Sn{f C fN:Addr}{fd Gz:FuncData}(F:yg K "__init__" "Comb.__init__" AE f fd)(T:Hq K mg C)(t:Tb K mg)
  (mN:Meth K C "number_of" fN)(bN:Binds K Gz ["self","row"] [])(GN:bQ P w K mg base jL 3 fN Gz ["self","row"] (zg K C))
  (G_s:mj P w K mg base 1 t.gK t.gM ["n"] cA)(G_h:mj P w K mg base 1 t.xC t.xD ["n"] ur)
  (es:∀n:Nat,n<=7->cA [.int n]=.ok (aA (upTo n)))(eh:∀n:Nat,1<=n/\n<=7->ur [.int n]=.ok (aA (upTo n).reverse))(ivh:∀n:Nat,Iv n (upTo n).reverse (upTo n).reverse)(ivs:∀n:Nat,Iv n (upTo n) (upTo n)):bQ P w K mg base jL 4 f fd ["self","n"] (LB K C):=by
 refine F.ok sc0 (fun vs H Q E h=>?_) (fun cdv A outer s H vs Q E hr h=>?_)
 ·obtain⟨a,dx,n,rfl,_⟩:=h
  rfl
 ·obtain⟨a,dx,n,rfl,hn,hob,hdx,hne,k⟩:=h
  have hu:=pD hr
  refine⟨_,(az (j8 (pv 0) (qD aC) rfl) (az (j8 (pv 0) pG rfl) (az (j8 (pv 0) (qD aC) rfl) (az (j8 (pv 0) (qD aC) rfl) (az (j8 (pv 0) pG rfl) (az (j8 (pv 0) pG rfl) (az (j8 (pv 0) pG rfl) (az (j8 (pv 0) (qD aC) rfl) (az (j8 (pv 0) (gQ (pv 0) T.cl mN GN (hr.mono (by decide)) bN .nil lR (au (cY (E:=fun _ _ _=>False) G_s (hr.mono (by decide)) (by rfl) t.dH.m t.dH.F.kp t.dH.b .nil jN (au (pv 1) aC)) aC)) rfl) (bE (j8 (pv 0) (gQ (pv 0) T.cl mN GN (hr.mono (by decide)) bN .nil lR (au (cY (E:=fun _ _ _=>False) G_h (hr.mono (by decide)) (by rfl) t.uN.m t.uN.F.kp t.uN.b .nil jN (au (pv 1) aC)) aC)) rfl))))))))))),?_⟩
  refine⟨(by show 0<=sizeLine;decide),fun l1 h1=>?_⟩
  obtain⟨ne1,So,Y2,at1,TY,Hu⟩:=ik hob h1 (.lst []) "known"
  refine⟨_,rfl,a,C,dx,_,rfl,So,T.cl,T.kn,(by show 0<1000;decide),?_⟩
  generalize hH1:upd (upd H l1 (.lst [])) a _=H1 at Y2 at1 TY Hu
  intro l2 h2
  obtain⟨ne2,Sq,RU,at2,Jz,LC⟩:=ik Y2 h2 (.dT []) "numbers"
  refine⟨_,rfl,a,C,dx,_,rfl,Sq,T.cl,T.nu,(by show 1<1000;decide),?_⟩
  generalize hH2:upd (upd H1 l2 (.dT [])) a _=H2 at RU at2 Jz LC
  refine⟨(by show 0<=sizeLine;decide),fun l3 h3=>?_⟩
  obtain⟨ne3,Ss,RV,OQ,B6,OS⟩:=ik RU h3 (.lst []) "firsts"
  refine⟨_,rfl,a,C,dx,_,rfl,Ss,T.cl,T.fi,(by show 2<1000;decide),?_⟩
  generalize Hr:upd (upd H2 l3 (.lst [])) a _=H3 at RV OQ B6 OS
  refine⟨(by show 0<=sizeLine;decide),fun l4 h4=>?_⟩
  obtain⟨ne4,Su,Y3,PL,zj,PN⟩:=ik RV h4 (.lst []) "lasts"
  refine⟨_,rfl,a,C,dx,_,rfl,Su,T.cl,T.la,(by show 3<1000;decide),?_⟩
  generalize hH4:upd (upd H3 l4 (.lst [])) a _=H4 at Y3 PL zj PN
  intro l5 h5
  obtain⟨ne5,Sv,Y4,Sw,xX,Sx⟩:=ik Y3 h5 (.dT []) "shorter"
  refine⟨_,rfl,a,C,dx,_,rfl,Sv,T.cl,T.sh,(by show 4<1000;decide),?_⟩
  generalize hH5:upd (upd H4 l5 (.dT [])) a _=H5 at Y4 Sw xX Sx
  intro l6 h6
  obtain⟨TZ,Sy,Tz,T3,zk,T4⟩:=ik Y4 h6 (.dT []) "longer"
  refine⟨_,rfl,a,C,dx,_,rfl,Sy,T.cl,T.lo,(by show 5<1000;decide),?_⟩
  generalize Hs:upd (upd H5 l6 (.dT [])) a _=H6 at Tz T3 zk T4
  intro l7 h7
  obtain⟨Y5,Sz,Y6,WO,B7,WQ⟩:=ik Tz h7 (.dT []) "kept"
  refine⟨_,rfl,a,C,dx,_,rfl,Sz,T.cl,T.ke,(by show 6<1000;decide),?_⟩
  generalize hH7:upd (upd H6 l7 (.dT [])) a _=H7 at Y6 WO B7 WQ
  refine⟨(by show 0<=sizeLine;decide),fun l8 h8=>?_⟩
  obtain⟨ne8,SA,T5,Y7,JA,Y8⟩:=ik Y6 h8 (.lst []) "line"
  refine⟨_,rfl,a,C,dx,_,rfl,SA,T.cl,T.li,(by show 7<1000;decide),?_⟩
  generalize Tg:upd (upd H7 l8 (.lst [])) a _=H8 at T5 Y7 JA Y8
  have v1:H8 l1=some (.lst []):=(JA _ _ ne1 (B7 _ _ ne1 (zk _ _ ne1 (xX _ _ ne1 (zj _ _ ne1 (B6 _ _ ne1 (Jz _ _ ne1 at1)))))))
  have v2:H8 l2=some (.dT []):=(JA _ _ ne2 (B7 _ _ ne2 (zk _ _ ne2 (xX _ _ ne2 (zj _ _ ne2 (B6 _ _ ne2 at2))))))
  have v3:H8 l3=some (.lst []):=(JA _ _ ne3 (B7 _ _ ne3 (zk _ _ ne3 (xX _ _ ne3 (zj _ _ ne3 OQ)))))
  have v4:H8 l4=some (.lst []):=(JA _ _ ne4 (B7 _ _ ne4 (zk _ _ ne4 (xX _ _ ne4 PL))))
  have v5:H8 l5=some (.dT []):=(JA _ _ ne5 (B7 _ _ ne5 (zk _ _ ne5 Sw)))
  have v6:H8 l6=some (.dT []):=(JA _ _ TZ (B7 _ _ TZ T3))
  have v7:H8 l7=some (.dT []):=(JA _ _ Y5 WO)
  have v8:H8 l8=some (.lst []):=Y7
  have kp:∀x u,x≠a->H x=some u->H8 x=some u:=fun x u hn hx=>(JA _ _ hn (B7 _ _ hn (zk _ _ hn (xX _ _ hn (zj _ _ hn (B6 _ _ hn (Jz _ _ hn (TY _ _ hn hx))))))))
  have gr:∀x,H8 x=none->H x=none:=fun x hx=>(Hu _ (LC _ (OS _ (PN _ (Sx _ (T4 _ (WQ _ (Y8 _ hx))))))))
  have f1:H l1=none:=h1
  have f2:H l2=none:=(Hu _ h2)
  have f3:H l3=none:=(Hu _ (LC _ h3))
  have f4:H l4=none:=(Hu _ (LC _ (OS _ h4)))
  have f5:H l5=none:=(Hu _ (LC _ (OS _ (PN _ h5))))
  have f6:H l6=none:=(Hu _ (LC _ (OS _ (PN _ (Sx _ h6)))))
  have f7:H l7=none:=(Hu _ (LC _ (OS _ (PN _ (Sx _ (T4 _ h7))))))
  have f8:H l8=none:=(Hu _ (LC _ (OS _ (PN _ (Sx _ (T4 _ (WQ _ h8)))))))
  have WR:l1≠l2:=ao at1 h2
  have WS:l1≠l3:=ao (Jz _ _ ne1 at1) h3
  have WT:l2≠l3:=ao at2 h3
  have WU:l1≠l4:=ao (B6 _ _ ne1 (Jz _ _ ne1 at1)) h4
  have WV:l2≠l4:=ao (B6 _ _ ne2 at2) h4
  have WW:l3≠l4:=ao OQ h4
  have WX:l1≠l5:=ao (zj _ _ ne1 (B6 _ _ ne1 (Jz _ _ ne1 at1))) h5
  have WY:l2≠l5:=ao (zj _ _ ne2 (B6 _ _ ne2 at2)) h5
  have WZ:l3≠l5:=ao (zj _ _ ne3 OQ) h5
  have W0:l4≠l5:=ao PL h5
  have W2:l1≠l6:=ao (xX _ _ ne1 (zj _ _ ne1 (B6 _ _ ne1 (Jz _ _ ne1 at1)))) h6
  have W3:l2≠l6:=ao (xX _ _ ne2 (zj _ _ ne2 (B6 _ _ ne2 at2))) h6
  have W4:l3≠l6:=ao (xX _ _ ne3 (zj _ _ ne3 OQ)) h6
  have W5:l4≠l6:=ao (xX _ _ ne4 PL) h6
  have W6:l5≠l6:=ao Sw h6
  have W7:l1≠l7:=ao (zk _ _ ne1 (xX _ _ ne1 (zj _ _ ne1 (B6 _ _ ne1 (Jz _ _ ne1 at1))))) h7
  have W8:l2≠l7:=ao (zk _ _ ne2 (xX _ _ ne2 (zj _ _ ne2 (B6 _ _ ne2 at2)))) h7
  have W9:l3≠l7:=ao (zk _ _ ne3 (xX _ _ ne3 (zj _ _ ne3 OQ))) h7
  have Xa:l4≠l7:=ao (zk _ _ ne4 (xX _ _ ne4 PL)) h7
  have Xb:l5≠l7:=ao (zk _ _ ne5 Sw) h7
  have Xc:l6≠l7:=ao T3 h7
  have Xd:l1≠l8:=ao (B7 _ _ ne1 (zk _ _ ne1 (xX _ _ ne1 (zj _ _ ne1 (B6 _ _ ne1 (Jz _ _ ne1 at1)))))) h8
  have Xe:l2≠l8:=ao (B7 _ _ ne2 (zk _ _ ne2 (xX _ _ ne2 (zj _ _ ne2 (B6 _ _ ne2 at2))))) h8
  have Xf:l3≠l8:=ao (B7 _ _ ne3 (zk _ _ ne3 (xX _ _ ne3 (zj _ _ ne3 OQ)))) h8
  have Xg:l4≠l8:=ao (B7 _ _ ne4 (zk _ _ ne4 (xX _ _ ne4 PL))) h8
  have Xh:l5≠l8:=ao (B7 _ _ ne5 (zk _ _ ne5 Sw)) h8
  have Xi:l6≠l8:=ao (B7 _ _ TZ T3) h8
  have Xj:l7≠l8:=ao WO h8
  have vd:∃o,H8 dx=some o:=by
   obtain⟨o,ho⟩:=hdx
   exact⟨o,kp _ _ (Ne.symm hne) ho⟩
  have LD:∀{l:Addr},H l=none->l≠dx:=fun hl z=>by
   obtain⟨o,ho⟩:=hdx
   rw[<-z,hl]at ho
   cases ho
  have c:gA C H8 a ⟨dx,l1,l2,l3,l4,l5,l6,l7,l8,[]⟩ [] n [] [] 0 [] [] [] []:=by
   refine⟨T5,vd,?_,v1,rfl,(fun i b p e=>by simp at e),v2,v3,v4,v5,v6,v7,v8,(fun p hp=>by simp at hp),(fun i p e=>by simp at e),(fun r _=>rfl),(fun i k v e=>by cases e),(fun i k v e=>by cases e),(fun i j v e=>by cases e),⟨Nat.le_refl _,Nat.le_refl _,Nat.le_refl _,Nat.le_refl _,Nat.le_refl _⟩,(fun m hm=>by simp at hm)⟩
   show(a::dx::l1::l2::l3::l4::l5::l6::l7::l8::[]).Nodup
   simp only [nodup_cons,mem_cons,not_mem_nil,or_false,not_or,not_false_eq_true,List.nodup_nil,and_true]
   exact⟨⟨hne,Ne.symm ne1,Ne.symm ne2,Ne.symm ne3,Ne.symm ne4,Ne.symm ne5,Ne.symm TZ,Ne.symm Y5,Ne.symm ne8⟩,⟨Ne.symm (LD f1),Ne.symm (LD f2),Ne.symm (LD f3),Ne.symm (LD f4),Ne.symm (LD f5),Ne.symm (LD f6),Ne.symm (LD f7),Ne.symm (LD f8)⟩,⟨WR,WS,WU,WX,W2,W7,Xd⟩,⟨WT,WV,WY,W3,W8,Xe⟩,⟨WW,WZ,W4,W9,Xf⟩,⟨W0,W5,Xa,Xg⟩,⟨W6,Xb,Xh⟩,⟨Xc,Xi⟩,Xj⟩
  generalize T5=T5 at c
  clear So Sq Ss Su Sv Sy Sz SA
  have Xk:∀x∈(⟨dx,l1,l2,l3,l4,l5,l6,l7,l8,[]⟩:Ad).all,x=dx\/H x=none:=fun x hx=>by
   unfold Ad.all Ad.hd at hx
   simp only [append_nil,mem_cons,not_mem_nil,or_false]at hx
   rcases hx with rfl|rfl|rfl|rfl|rfl|rfl|rfl|rfl|rfl
   ·exact .inl rfl
   ·exact .inr f1
   ·exact .inr f2
   ·exact .inr f3
   ·exact .inr f4
   ·exact .inr f5
   ·exact .inr f6
   ·exact .inr f7
   ·exact .inr f8
  generalize (⟨dx,l1,l2,l3,l4,l5,l6,l7,l8,[]⟩:Ad)=A at c Xk
  refine⟨_,rfl,a,A.dx,_,rfl,c.ob,rfl,_,rfl,fun _=>True,[.int n],⟨_,_,rfl,rfl,rfl⟩,?_⟩
  rw[es n hn.2]
  intro q ws H9 s9 hq9 hw9 iw9
  have ew:=eI iw9
  subst ew
  have c9:=c.same s9
  have nF:∀{Hx Hy:Hp}{Ax:Ad}{y:Addr}{exx:List (Str×V)}{knn:List RP}{lnn:List Int}{BB:Nat}{nn ss ll kk:List (List Key×V)},gA C Hx a Ax exx n knn lnn BB nn ss ll kk->Hx y=none->y∉a::Ax.all:=fun cx hy hx=>by
   obtain⟨o,ho⟩:=cx.there hx
   rw[hy]at ho
   cases ho
  refine⟨a,A,[],n,[],[],0,[],[],[],[],(upTo n,upTo n),.ref q,rfl,c9,hn.2,by decide,ivs n,⟨q,_,rfl,.inl ⟨nF (Hy:=H9) c hq9,.inl hw9⟩,bJ _⟩,fun i1 pM A1 Se Sf Y9 hi1 xJ PH=>?_⟩
  refine⟨_,rfl,a,C,A1.dx,_,rfl,Y9.ob,T.cl,T.no,(by show 8<1000;decide),?_⟩
  have T6:=Y9.Le (PK i1)
  have SD:gx H8 (upd pM a (.ins C A1.dx (si A1++(PK i1)))) (a::A.all) (a::A1.all):=((gx.same s9 _).trans xJ).trans (gx.upd mem_cons_self _)
  rw[show jh ("none":Str) (.int (i1:Int)) (si A1++[])=si A1++(PK i1)from rfl]
  generalize upd pM a (.ins C A1.dx (si A1++(PK i1)))=Iw at T6 SD
  refine⟨_,rfl,a,A1.dx,_,rfl,T6.ob,rfl,_,rfl,fun _=>True,[.int n],⟨_,_,rfl,rfl,rfl⟩,?_⟩
  rw[eh n hn]
  intro q2 ws2 H12 CO Xl Xm Xn
  have ew2:=eI Xn
  subst ew2
  have c12:=T6.same CO
  refine⟨a,A1,(PK i1),n,[]++Se,[],1,Sf,[],[],[],mw n,.ref q2,rfl,c12,hn.2,by decide,ivh n,⟨q2,_,rfl,.inl ⟨nF (Hy:=H12) T6 Xl,.inl Xm⟩,bJ _⟩,fun i2 H13 A2 mo2 tj Za hi2 AD PF=>?_⟩
  refine⟨_,rfl,a,C,A2.dx,_,rfl,Za.ob,T.cl,T.wh,(by show 9<1000;decide),?_⟩
  have Zb:=Za.Le (rS i1 i2)
  rw[show jh ("whole":Str) (.int (i2:Int)) (si A2++(PK i1))=si A2++rS i1 i2 from rfl]
  have OT:gx H8 (upd H13 a (.ins C A2.dx (si A2++rS i1 i2))) (a::A.all) (a::A2.all):=((SD.trans (gx.same CO _)).trans AD).trans (gx.upd mem_cons_self _)
  refine k _ A2 ([]++Se++mo2) i1 i2 tj Zb (bH hi1) hi2 (fun x u hx h1 h2=>?_) (fun x hx=>?_) (fun x hx=>gr x (OT.gr x hx))
  ·refine OT.kp x u (fun hm=>?_) (kp x u hx h1)
   rcases mem_cons.mp hm with z|z
   ·exact hx z
   ·rcases Xk x z with z|z
    ·exact h2 z
    ·rw[z]at h1;cases h1
  ·rcases OT.nw x (mem_cons_of_mem _ hx)with z|z
   ·rcases mem_cons.mp z with z|z
    ·rw[z]at hx
     exact absurd hx (nodup_cons.mp Zb.nd).1
    ·exact Xk x z
   ·exact .inr (gr x z)
end
end DL.nq
namespace DL.nq
open PySem PySem.Spec PyProof.Rows L2 DL
theorem OU{α:Type}(r:R α)(c:Str):r.ne≠.err c:=by cases r<;>exact fun z=>nomatch z
structure CbM(P:Program)(w:World)(K:PySem.W.Frag)(mg:Str->Option Value)(base:Heap)(C:Addr) where
 fI:Addr
 dI:FuncData
 fP:Addr
 dP:FuncData
 fT:Addr
 dT:FuncData
 M:Mk K C fI
 bI:Binds K dI ["self","n"] []
 GI:bQ P w K mg base jL 4 fI dI ["self","n"] (LB K C)
 mP:Meth K C "put" fP
 bP:Binds K dP ["self","row"] []
 GP:bQ P w K mg base jL 7 fP dP ["self","row"] (Ly K C)
 mT:Meth K C "form_told" fT
 bT:Binds K dT ["self"] []
 GT:bQ P w K mg base jL 1 fT dT ["self"] (LA K C)
section
variable{P:Program}{w:World}{K:PySem.W.Frag}{mg:Str->Option Value}{base:Heap}
theorem OV{C:Addr}(T:Hq K mg C)(Z:CbM P w K mg base C)(t:Tb K mg)(G_r:Px P w K mg base 3 t.ck t.cu ["steps"] aS):
  Ok P w K mg base 9 t.eO t.eQ ["n","steps"] cU:=by
 refine t.iN.F.ok di (fun vs H Q E h=>?_) (fun cdv A outer s H vs Q E hr h=>?_)
 ·obtain⟨Pa,ds,i,h⟩:=h
  match ds,h with
  |[.int n,d],h=>
   obtain⟨v,r,rfl,_,v',r',rfl,_,e⟩:=i
   have e':r'=[]:=e
   subst e'
   rfl
 ·obtain⟨Pa,ds,i,h⟩:=h
  obtain⟨n,d,rfl⟩:∃n d,ds=[.int n,d]:=by
   match ds,h with
   |[.int n,d],h=>exact⟨n,d,rfl⟩
  obtain⟨v0,r0,rfl,i0,v1,r1,rfl,i1,e2⟩:=i
  have Ep:r1=[]:=e2
  have e0':v0=.int n:=i0
  subst Ep e0'
  cases em:cU [.int n,d]with
  |bad=>rw[em]at h;exact h.elim
  |err c=>exact absurd em (OU _ c)
  |ok Xo=>
  rw[em]at h
  have em':R.bind (aS [d]) (fun rs=> @ite _ ((1<=n/\n<=7)/\rs.length<=40/\∀r∈rs,bw n.toNat r) (propDecidable _) (R.bind (BV [.val (.int n),.val d,.no,.no,.val (rT n.toNat (fZ n.toNat rs))]) ai) .bad)=.ok Xo:=R.bz em
  obtain⟨rs,hrs,SE⟩:=R.bU em'
  by_cases hg:(1<=n/\n<=7)/\rs.length<=40/\∀r∈rs,bw n.toNat r
  case neg=>
   rw[if_neg hg]at SE
   cases SE
  case pos=>
  rw[if_pos hg]at SE
  obtain⟨hn,abw,SG⟩:=hg
  obtain⟨m,rfl⟩:∃m:Nat,n=m:=⟨n.toNat,by omega⟩
  rw[toNat_natCast]at SE SG
  have hu:=pD hr
  refine⟨_,az (cD (i:=2) di.nd rfl (Or.inl rfl) (HU Z.M Z.GI (hr.mono (by decide)) (by rfl) T.mgC Z.bI .nil lR (au (pv 0) aC)))
   (az (DU PassesOwn.never rfl (sI (cY (E:=fun _ _ _=>False) G_r (hr.mono (by decide)) (by rfl) t.bC.m t.bC.F.kp t.bC.b .nil jN (au (pv 1) aC))) (wL (i:=3) di.nd rfl (Or.inl rfl))
    (bE (fM (gQ (pv 2) T.cl Z.mP Z.GP (hr.mono (by decide)) Z.bP .nil lR (au (pv 3) aC)) rfl)))
   (az (cD (i:=4) di.nd rfl (Or.inl rfl) (D3 (pv 2) T.cl Z.mT Z.GT (hr.mono (by decide)) Z.bT .nil lR))
   (bc (gy (E:=EN) (MH (aG (bh fO b8 (PE.aF (zY (nD 4) (PE.aF cI))) (PE.aF (IP rfl t.zf (PE.qJ (mK (Dz (N:=["step"]) (nt:=1) (caps:=[]) (ae gI) ["n","steps","comb","row","found"] (by decide +kernel)) rfl (tW (iL (nD 1))) (Kp.ok (qU (nt:=1) 0)) (fun _ _ _ _ _=>(rN 0 (by show Nodup (["step"]:List Str);decide +kernel))) (fun _ _ _ _ _=>Im) (fun _ _ _ _ _=>(zY (nD 0) (PE.aF cI)))))))) (aG (zY (nD 4) (PE.aF cI)) cz))))))),?_⟩
  refine⟨_,rfl,fun x dx hx hdx hne=>?_⟩
  refine⟨x,dx,m,rfl,by omega,ak,⟨_,by rw[ah hne];exact ak⟩,Ne.symm hne,fun H1 A1 T7 zn wn Sf c1 hz1 hw1 TY nw1 Hu=>⟨rfl,?_⟩⟩
  have Zc:aB H H1:=fun y u hy=>by
   have hyx:y≠x:=fun z=>by rw[z,hx]at hy;cases hy
   have Zd:y≠dx:=fun z=>by rw[z,hdx]at hy;cases hy
   exact TY y u hyx (by rw[ah hyx,ah Zd];exact hy) Zd
  have nF1:∀y∈x::A1.all,H y=none:=fun y hy=>by
   rcases mem_cons.mp hy with rfl|hy
   ·exact hx
   ·rcases nw1 y hy with rfl|hy
    ·exact hdx
    ·by_cases z1:y=x
     ·rw[z1];exact hx
     ·by_cases z2:y=dx
      ·rw[z2];exact hdx
      ·rw[ah z1,ah z2]at hy;exact hy
  refine⟨_,rfl,fun _=>True,[d],⟨_,_,rfl,(i1.same Zc).weak,rfl⟩,?_⟩
  rw[hrs]
  intro la as H2 CO SH
  have c2:=c1.same CO
  have hlen:=SH.len
  have Ze:∀b∈la::as,b∉x::A1.all:=fun b hb hF=>by
   obtain⟨o,ho⟩:=c1.there hF
   rw[SH.fr b hb]at ho
   cases ho
  refine⟨la,rfl,⟨_,b7.of SH.ha⟩,DV (K:=K) (a:=la) (xs:=as.map V.ref) (fun i σ Hx=>∃(A2:Ad)(mo:List RP)(ls:List Nat)(B2:Nat)(tj uP lo2 Ht:List (List Key×V))(rv:Option V),σ=[some (.int (m:Int)),some v1,some (.ref x),rv,none]/\gA C Hx x A2 (rS zn wn) m (T7++mo) (nI ls) B2 tj uP lo2 Ht/\
    cj (T7++mo) ls (fZ m (rs.take i))/\B2<=2+402*41*i/\i<=rs.length/\gx H2 Hx (x::A1.all) (x::A2.all)) ⟨A1,[],[],2,Sf,[],[],[],none,rfl,by rw[append_nil];exact c2,rfl,by omega,zero_le _,gx.refl _ _⟩ ?_ ?_ ?_⟩
  ·rintro i σ Hx hi ⟨A2,mo,ls,B2,tj,uP,lo2,Ht,rv,rfl,c3,hL,hB,Zf,qz⟩
   exact b7.of (qz.kp la _ (Ze la (by simp)) SH.ha)
  ·rintro i y σ Hx hy ⟨A2,mo,ls,B2,tj,uP,lo2,Ht,rv,rfl,c3,hL,hB,Zf,qz⟩
   have Xp:i<as.length:=by
    have:=(List.getElem?_eq_some_iff.mp hy).1
    rwa [length_map]at this
   have SJ:i<rs.length:=by rw[<-hlen];exact Xp
   rw[getElem?_map,getElem?_eq_getElem Xp]at hy
   cases hy
   have Zg:rs[i]?=some rs[i]:=getElem?_eq_getElem SJ
   have hb2:=SH.it i as[i] rs[i] (getElem?_eq_getElem Xp) Zg
   have Zh:=Ze as[i] (mem_cons_of_mem _ (getElem_mem _))
   have VP:=qz.kp _ _ Zh hb2
   have Xq:as[i]∉x::A2.all:=fun hF=>by
    rcases qz.nw _ hF with z|z
    ·exact Zh z
    ·rw[hb2]at z;cases z
   have hcl:=p9 m (rs.take i) []
   have JB:(fZ m (rs.take i)).length<=40:=by
    unfold fZ
    rw[length_nil,length_take]at hcl
    omega
   refine⟨_,rfl,x,A2.dx,_,rfl,c3.ob,rfl,_,rfl,x,A2,zn,wn,m,T7++mo,ls,fZ m (rs.take i),B2,tj,uP,lo2,Ht,(rs[i],uC rs[i]),.ref as[i],rfl,c3,hL,bH hz1,by omega,by omega,by omega,o8 (SG _ (getElem_mem _)),⟨as[i],_,rfl,.inl ⟨Xq,.inl VP⟩,bJ _⟩,fun H4 A4 B4 ls4 R3 R4 WD WE c4 Zi OG=>?_⟩
   rw[List.append_assoc]at c4 Zi
   exact⟨A4,mo++B4,ls4,_,R3,R4,WD,WE,_,rfl,c4,by rw[C3 Zg];exact Zi,by omega,SJ,qz.trans OG⟩
  ·rintro σ Hx ⟨A2,mo,ls,B2,tj,uP,lo2,Ht,rv,rfl,c3,hL,hB,Zf,qz⟩
   rw[length_map,hlen,take_length]at hL
   have hcl:=p9 m rs []
   have JB:(fZ m rs).length<=1000:=by
    unfold fZ
    rw[length_nil]at hcl
    omega
   refine⟨_,rfl,x,A2.dx,_,rfl,c3.ob,rfl,x,A2,zn,wn,m,T7++mo,ls,fZ m rs,B2,tj,uP,lo2,Ht,rfl,c3,hL,bH hw1,JB,fun fv H5 s5 i5=>?_⟩
   have Zj:aB H Hx:=fun y u hy=>qz.kp y u (fun hF=>by rw[nF1 y hF]at hy;cases hy) (CO _ _ (Zc _ _ hy))
   have Zk:=Zj.trans s5
   refine⟨⟨Pa,H⟩,[.val (.int (m:Int)),.val d,.no,.no,.val (rT m (fZ m rs))],[],⟨rfl,Zk,fun i dd e=>?_,fun i xs e=>?_,fun i j xs ys b e=>?_,(fun b hb=>nomatch hb),fun i v e=>?_,ym.none fun i w e=>?_⟩,?_⟩
   ·match i with
    |0=>cases e;exact⟨_,rfl,rfl⟩
    |1=>cases e;exact⟨_,rfl,Is.ext ⟨fun a o p _=>⟨.inl p,fun z=>nomatch z⟩,fun a o _ q=>Zk a o q⟩ _ _ i1⟩
    |2=>cases e
    |3=>cases e
    |4=>cases e;exact⟨_,rfl,Is.ext ⟨fun a o p _=>⟨.inr (Zj.free p),fun z=>nomatch z⟩,fun a o _ q=>q⟩ _ _ i5⟩
    |i+5=>cases e
   ·match i with
    |0=>cases e
    |1=>cases e
    |2=>cases e
    |3=>cases e
    |4=>cases e
    |i+5=>cases e
   ·match i with
    |0=>cases e
    |1=>cases e
    |2=>cases e
    |3=>cases e
    |4=>cases e
    |i+5=>cases e
   ·match i with
    |0=>cases e
    |1=>cases e
    |2=>cases e
    |3=>cases e
    |4=>cases e
    |i+5=>cases e
   ·match i with
    |0=>cases e
    |1=>cases e
    |2=>cases e
    |3=>cases e
    |4=>cases e
    |i+5=>cases e
   ·obtain⟨o,ho,hv⟩:=R.bU SE
    obtain⟨dd,hdd,ho2⟩:=R.bU (show R.bind _ (fun v1=>R.ok (Out.rt v1))=.ok o from ho)
    cases ho2
    cases hv
    exact lg ho fun v H' sH' Rc=>h v H' sH' (Is.ext ⟨fun a o p _=>p.1,fun a o _ q=>q⟩ _ _ Rc)
end
end DL.nq
namespace DL
open PySem PySem.Spec PyProof.Rows L2
def ee:List Int->List Int->Option (List Int)
 |[],o=>some o
 |k::w,o=>if k<0\/aa o k.toNat<aa o (k-1).toNat then none else ee w (fJ o (k-1).toNat)
theorem jf{n a:Nat}{o w:List Int}:ee (((a:Int)+1)::w) o=if aa o (a+1)<aa o a then none else ee w (fJ o a):=by
 conv=>lhs;unfold ee
 rw[show((a:Int)+1).toNat=a+1 by omega,show((a:Int)+1-1).toNat=a by omega]
 by_cases h:aa o (a+1)<aa o a
 ·rw[if_pos (.inr h),if_pos h]
 ·rw[if_neg (by rintro(z|z);omega;exact h z),if_neg h]
def Ps(n:Nat)(w:List Int):Prop:=∀k∈w,∃a:Nat,k=(a:Int)+1/\a+1<n
def jH(w o:List Int):List Int:=w.foldl (fun o k=>fJ o (k-1).toNat) o
theorem B8(f:Int->Int):∀(l:List Int)(a:Nat),fJ (l.map f) a=(fJ l a).map f
 |[],a=>by cases a<;>rfl
 |[x],0=>rfl
 |[x],a+1=>by cases a<;>rfl
 |x::y::l,0=>rfl
 |x::y::l,a+1=>by
  show fJ (f x::map f (y::l)) (a+1)=_
  rw[rR,rR,B8 f (y::l) a]
  rfl
theorem GF{n a:Nat}(h:a+1<n):fJ (upTo n) a=(upTo n).map (sg a):=by
 refine bK (by rw[fX,length_map]) fun j hj=>?_
 rw[fX,ar]at hj
 have e:=ed (r:=upTo n) (a:=a) (p:=j) (by rw[ar];exact hj)
 unfold zB at e
 rw[e,kK _ _ (by rw[ar];exact h),aI hj]
 unfold sg
 by_cases h1:j=a
 ·rw[if_pos h1,aI (by omega),if_pos (show(j:Int)=a by omega)]
  omega
 ·rw[if_neg h1,if_neg (show¬(j:Int)=a by omega)]
  by_cases h2:j=a+1
  ·rw[if_pos h2,aI (by omega),if_pos (show(j:Int)=a+1 by omega)]
  ·rw[if_neg h2,if_neg (show¬(j:Int)=a+1 by omega)]
theorem xK(f:Int->Int):∀(w o:List Int),jH w (o.map f)=(jH w o).map f
 |[],o=>rfl
 |k::w,o=>by
  show jH w (fJ (o.map f) (k-1).toNat)=(jH w (fJ o (k-1).toNat)).map f
  rw[B8,xK f w]
theorem lY(n:Nat):Iv n (upTo n) (upTo n):=⟨ar n,ar n,fun p hp=>by rw[aI hp,toNat_natCast];exact⟨by omega,by omega,aI hp⟩,fun p hp=>by rw[aI hp,toNat_natCast];exact⟨by omega,by omega,aI hp⟩⟩
theorem AF{n:Nat}:∀w:List Int,Ps n w->Iv n (jH w.reverse (upTo n)) (jH w (upTo n))
 |[],_=>lY n
 |k::w,h=>by
  obtain⟨a,rfl,ha⟩:=h k (by simp)
  have ih:=AF w fun x hx=>h x (by simp[hx])
  rw[reverse_cons]
  have e1:jH (((a:Int)+1)::w) (upTo n)=zB (jH w (upTo n)) a:=by
   show jH w (fJ (upTo n) ((a:Int)+1-1).toNat)=_
   rw[show((a:Int)+1-1).toNat=a by omega,GF ha,xK]
   rfl
  have e2:jH (w.reverse++[(a:Int)+1]) (upTo n)=fJ (jH w.reverse (upTo n)) a:=by
   unfold jH
   rw[foldl_append]
   show fJ _ ((a:Int)+1-1).toNat=_
   rw[show((a:Int)+1-1).toNat=a by omega]
  rw[e1,e2]
  exact(ih.symm.step ha).symm
theorem SK{n:Nat}{o s:List Int}(h:Iv n o s){a:Nat}(ha:a+1<n):aa o a≠aa o (a+1):=fun e=>by
 have:=h.symm.DG (v:=a) (w:=a+1) (by omega) ha e
 omega
theorem B9{n:Nat}{o s:List Int}(h:Iv n o s){a:Nat}(ha:a+1<n):dR (fJ o a)=dR o+1/\aa o a<aa o (a+1)\/dR (fJ o a)+1=dR o/\aa o (a+1)<aa o a:=by
 have e:=sQ o a [] (by rw[h.lr];exact ha)
 have d:=SK h ha
 unfold dR
 by_cases c:aa o a<aa o (a+1)
 ·rw[if_neg (by omega),if_pos c]at e
  exact .inl ⟨by omega,c⟩
 ·rw[if_pos (by omega),if_neg c]at e
  exact .inr ⟨by omega,by omega⟩
theorem nG{n:Nat}:∀(w o s z:List Int),Ps n w->Iv n o s->ee w o=some z->z=jH w o/\dR z=dR o+w.length
 |[],o,s,z,_,_,h=>by cases h;exact⟨rfl,rfl⟩
 |k::w,o,s,z,hw,hi,h=>by
  obtain⟨a,rfl,ha⟩:=hw k (by simp)
  rw[jf (n:=n)]at h
  split at h
  ·cases h
  ·rename_i hc
   obtain⟨e1,e2⟩:=nG w (fJ o a) (zB s a) z (fun x hx=>hw x (by simp[hx])) (hi.symm.step ha).symm h
   have:=B9 hi ha
   refine⟨?_,by rw[e2,length_cons];omega⟩
   rw[e1]
   show _=jH w (fJ o ((a:Int)+1-1).toNat)
   rw[show((a:Int)+1-1).toNat=a by omega]
theorem zm{n:Nat}:∀(w o s:List Int),Ps n w->Iv n o s->dR (jH w o)<=dR o+w.length/\(dR (jH w o)=dR o+w.length->ee w o=some (jH w o))
 |[],o,s,_,_=>⟨Nat.le_refl _,fun _=>rfl⟩
 |k::w,o,s,hw,hi=>by
  obtain⟨a,rfl,ha⟩:=hw k (by simp)
  have e0:jH (((a:Int)+1)::w) o=jH w (fJ o a):=by
   show jH w (fJ o ((a:Int)+1-1).toNat)=_
   rw[show((a:Int)+1-1).toNat=a by omega]
  obtain⟨e1,e2⟩:=zm w (fJ o a) (zB s a) (fun x hx=>hw x (by simp[hx])) (hi.symm.step ha).symm
  rw[jf (n:=n),e0,length_cons]
  rcases B9 hi ha with⟨c1,c2⟩|⟨c1,c2⟩
  ·exact⟨by omega,fun h=>by rw[if_neg (by omega)];exact e2 (by omega)⟩
  ·exact⟨by omega,fun h=>by omega⟩
theorem JC:∀n:Nat,n<8->dR (upTo n)=0:=by decide +kernel
theorem GG{n:Nat}{w z:List Int}(hw:Ps n w)(h:ee w (upTo n)=some z):ee w.reverse (upTo n)=some (jH w.reverse (upTo n)):=by
 obtain⟨e1,e2⟩:=nG w _ _ z hw (lY n) h
 refine(zm w.reverse (upTo n) (upTo n) (fun k hk=>hw k (by simpa using hk)) (lY n)).2 ?_
 rw[Ao (AF w hw),<-e1,e2,length_reverse]
theorem Ca{n:Nat}{w z:List Int}(hw:Ps n w)(h:ee w (upTo n)=some z):Iv n z (jH w.reverse (upTo n)):=by
 rw[(nG w _ _ z hw (lY n) h).1]
 exact(AF w hw).symm
theorem wt:∀(w o:List Int)(k:Int),ee (w++[k]) o=(ee w o).bind fun z=>ee [k] z
 |[],o,k=>rfl
 |x::w,o,k=>by
  rw[cons_append]
  unfold ee
  split
  ·rfl
  ·exact wt w _ k
theorem Iv.nd {n:Nat}{r s:List Int}(h:Iv n r s):s.Nodup:=by
 unfold Nodup
 rw[List.pairwise_iff_getElem]
 intro i j hi hj hij e
 rw[h.ls]at hi hj
 have e2:aa s i=aa s j:=by
  unfold aa
  rw[getElem?_eq_getElem,getElem?_eq_getElem]
  ·exact e
 have:=h.DG hi hj e2
 omega
theorem xM{n:Nat}{r s:List Int}(h:Iv n r s):bw n r:=by
 refine(List.perm_ext_iff_of_nodup h.symm.nd (ux n)).mpr fun x=>?_
 rw[mem_upTo]
 constructor
 ·intro hx
  obtain⟨p,hp,rfl⟩:=getElem_of_mem hx
  rw[h.lr]at hp
  have:=h.rs p hp
  rw[show aa r p=r[p]by
   unfold aa
   rw[getElem?_eq_getElem]
   rfl]at this
  exact⟨this.1,this.2.1⟩
 ·rintro⟨h0,h1⟩
  have:=(h.idx (v:=x.toNat) (by omega)).1
  rwa [show((x.toNat:Nat):Int)=x by omega]at this
def fl(n:Nat)(l:List Int):List Int:=l.map fun x=>(n:Int)-1-x
theorem lL(n:Nat)(l:List Int):(fl n l).length=l.length:=length_map _
theorem qt{n:Nat}{l:List Int}{p:Nat}(h:p<l.length):aa (fl n l) p=(n:Int)-1-aa l p:=by
 have:=cK h
 unfold fl
 conv=>lhs;unfold aa
 rw[getElem?_map,this]
 rfl
theorem dJ{l:List Int}{p:Nat}(h:p<l.length):aa l.reverse p=aa l (l.length-1-p):=by
 unfold aa
 rw[getElem?_reverse h]
theorem LG(n:Nat):fl n (upTo n).reverse=upTo n:=by
 refine bK (by rw[lL,length_reverse]) fun p hp=>?_
 rw[lL,length_reverse,ar]at hp
 rw[qt (by rw[length_reverse,ar];exact hp),dJ (by rw[ar];exact hp),ar,aI (by omega),aI hp]
 omega
theorem GH{n:Nat}{r:List Int}(h:bw n r):bw n (fl n r):=by
 have e:fl n (upTo n)=(upTo n).reverse:=by
  rw[<-LG n]
  unfold fl
  rw[map_reverse,reverse_reverse,<-map_reverse]
  congr 1
  have:=LG n
  unfold fl at this
  rw[this]
 exact(Perm.map _ h).trans (by
  show(fl n (upTo n)).Perm _
  rw[e]
  exact reverse_perm _)
theorem Cb{n:Nat}{r:List Int}(h:bw n r):bw n r.reverse:=(reverse_perm r).trans h
theorem j5(n:Nat)(hn:n<=7):cA [.int n]=.ok (aA (upTo n)):=by
 unfold cA uq
 simp -implicitDefEqProofs only [mS,mD,mF,fg,aH,reduceAdd,reduceSub,reduceEqDiff,reduceIte,ai,aj,aL,aM,aN,aO]
 rw[nS _ (by omega),toNat_natCast,kJ]
 simp -implicitDefEqProofs only [reduceIte,ai,aj,aL,aM,aN,aO,jl]
theorem C9{n:Nat}{r s:List Int}(h:Iv n r s)(hn:n<=7):p6 [.lst (aA r)]=.ok (aA (fl n s)):=by
 unfold p6 By
 simp -implicitDefEqProofs only [mS,mD,mF,fg,aH,reduceAdd,reduceSub,reduceEqDiff,reduceIte,ai,aj,aL,aM,aN,aO]
 rw[nW h hn]
 simp -implicitDefEqProofs only [reduceIte,ai,aj,aL,aM,aN,aO,cR]
 rw[gG (fun k=>(n:Int)-1-k) s fun k _=>⟨_,dQ _ _ _,rfl,by
  unfold uw dX
  simp -implicitDefEqProofs only [reduceIte,ai,aj,aL,aM,aN,aO,bg,h.lr]⟩]
 simp -implicitDefEqProofs only [reduceIte,ai,aj,aL,aM,aN,aO,R.gF]
 rw[b9 (by rw[length_map,h.ls];omega)]
 simp -implicitDefEqProofs only [reduceIte,ai,aj,aL,aM,aN,aO,jl]
 rfl
theorem AG{n:Nat}{r:List Int}(h:r.length=n)(hn:n<=7):dY [.lst (aA r)]=.ok (aA (fl n r.reverse)):=by
 unfold dY oH
 simp -implicitDefEqProofs only [mS,mD,mF,fg,aH,reduceAdd,reduceSub,reduceEqDiff,reduceIte,ai,aj,aL,aM,aN,aO,Bs,cR]
 rw[gG (fun k=>(n:Int)-1-k) r.reverse fun k _=>⟨_,dQ _ _ _,rfl,by
  unfold kF dX
  simp -implicitDefEqProofs only [reduceIte,ai,aj,aL,aM,aN,aO,bg,h]⟩]
 simp -implicitDefEqProofs only [reduceIte,ai,aj,aL,aM,aN,aO,R.gF]
 rw[b9 (by rw[length_map,length_reverse];omega)]
 simp -implicitDefEqProofs only [reduceIte,ai,aj,aL,aM,aN,aO,jl]
 rfl
theorem GJ{b:D->DE->R Out}{x:D}{xs:List D}{e e':DE}(h:b x e=.ok (.nx e')):dO b (x::xs) e=dO b xs e':=by
 rw[dO,h];rfl
theorem rC(gs:List (List Int))(c:List Int):yJ (gs++[c]) (.int (-1))=.ok (gs.length,c):=by
 have hk:pe (gs++[c]).length (-1)=some gs.length:=by
  unfold L2.pe
  rw[if_neg (by decide),length_append,length_singleton,if_pos (by omega)]
  congr 1
  omega
 have hg:(gs++[c])[gs.length]?=some c:=by simp
 unfold yJ
 simp -implicitDefEqProofs only [hk,hg]
theorem Cc{ix:Nat}{env:DE}{nss:List (List Int)}{k:Nat}{l:List Int}{v:Int}(h:l.length<1000):Af ix env nss (k,l) (.int v)=.ok (.nx (env.set ix (.deep (Ct.ls (nss.set k (l++[v])))))):=if_pos (lt_of_lt_of_le h (by decide))
theorem Cd{ix:Nat}{env:DE}{nss:List (List Int)}{ns:List Int}(h:nss.length<1000):Ff ix env nss ns=.ok (.nx (env.set ix (.deep (Ct.ls (nss++[ns]))))):=if_pos (lt_of_lt_of_le h (by decide))
theorem jB(nss:List (List Int))(r:DE):fj 0 (.deep (Ct.ls nss)::r)=.ok nss:=rfl
theorem jC(i:Nat)(a:Sl)(r:DE):fj (i+1) (a::r)=fj i r:=rfl
theorem GK(nss:List (List Int))(r:DE):aY 0 (.deep (Ct.ls nss)::r)=.ok (.lst (nss.map fun ns=>.lst (aA ns))):=rfl
theorem OW{n:Nat}(hn:n<=7){o:List Int}(ho:o.length=n)(s0 s1 s3:Sl){a:Nat}(ha:a+1<n)(hc:¬aa o (a+1)<aa o a):jV (.int ((a:Int)+1)) [s0,s1,.own (aA o),s3]=.ok (.nx [s0,s1,.own (aA (fJ o a)),.val (.int ((a:Int)+1))]):=by
 unfold jV
 have h0:¬(a:Int)+1<0:=by omega
 simp -implicitDefEqProofs only [dQ,mS,mD,mF,fg,aH,reduceAdd,reduceSub,reduceEqDiff,reduceIte,ai,aj,aL,aM,aN,aO,h0,decide_false]
 rw[cg (by omega) (by omega),cg (by omega) (by omega),show((a:Int)+1-1).toNat=a by omega,show((a:Int)+1).toNat=a+1 by omega]
 simp -implicitDefEqProofs only [reduceIte,ai,aj,aL,aM,aN,aO,hc,decide_false]
 rw[q9 (by omega) (by omega)]
 simp -implicitDefEqProofs only [reduceIte,ai,aj,aL,aM,aN,aO]
theorem zo{n:Nat}(hn:n<=7)(s0 s1:Sl):∀(w o z:List Int)(s3:Sl),Ps n w->o.length=n->ee w o=some z->∃OY,dO jV (aA w) [s0,s1,.own (aA o),s3]=.ok (.nx [s0,s1,.own (aA z),OY])
 |[],o,z,s3,_,_,h=>by cases h;exact⟨s3,rfl⟩
 |k::w,o,z,s3,hv,ho,h=>by
  obtain⟨a,rfl,ha⟩:=hv k (by simp)
  rw[jf (n:=n)]at h
  split at h
  ·cases h
  ·rename_i hc
   rw[<-mQ,GJ (OW hn ho s0 s1 s3 ha hc)]
   exact zo hn s0 s1 w (fJ o a) z _ (fun x hx=>hv x (by simp[hx])) (by rw[fX,ho]) h
theorem wu{n:Nat}(hn:n<=7){w z:List Int}(hv:Ps n w)(h:ee w (upTo n)=some z):kH [.int n,.lst (aA w)]=.ok (aA z):=by
 unfold kH yR
 simp -implicitDefEqProofs only [mS,mD,mF,fg,aH,reduceAdd,reduceSub,reduceEqDiff,reduceIte,ai,aj,aL,aM,aN,aO]
 rw[j5 n hn]
 simp -implicitDefEqProofs only [reduceIte,ai,aj,aL,aM,aN,aO]
 obtain⟨s3,e⟩:=zo hn (.val (.int n)) (.val (.lst (aA w))) w (upTo n) z .no hv (ar n) h
 rw[e]
 simp -implicitDefEqProofs only [reduceIte,ai,aj,aL,aM,aN,aO,jl]
def iW(l:List Int)(k:Int):List Int:=if l.getLast?=some (-k)then l.dropLast else l++[k]
def iz(s w:List Int):List Int:=w.foldl iW s
theorem GO(s a b:List Int):iz s (a++b)=iz (iz s a) b:=foldl_append
theorem uQ:∀(w s:List Int),(iz s w).length<=s.length+w.length
 |[],s=>by simp[iz]
 |k::w,s=>by
  have:=uQ w (iW s k)
  show(iz (iW s k) w).length<=_
  have h2:(iW s k).length<=s.length+1:=by
   unfold iW
   split
   ·rw[List.length_dropLast];omega
   ·simp
  rw[length_cons];omega
theorem AH(l:List Int):iT l (-1)=l.getLast?:=by
 rw[List.getLast?_eq_getElem?]
 unfold L2.iT L2.pe
 rw[if_neg (by decide)]
 cases l with
 |nil=>rfl
 |cons x r=>
  rw[if_pos (by simp;omega)]
  show(x::r)[(-1+((x::r).length:Int)).toNat]?=_
  congr 1
  simp;omega
theorem AI(w:List Int)(hw:w.length<=100000):kE [.lst (aA w)]=.ok (aA (iz [] w)):=by
 unfold kE wc
 simp -implicitDefEqProofs only [mS,mD,mF,fg,aH,reduceAdd,reduceSub,reduceEqDiff,reduceIte,ai,aj,aL,aM,aN,aO]
 obtain⟨s',e,hj⟩:=qT (S:=List Int×Sl) (b:=lB) (fun i s=>s.1=iz [] (w.take i))
  (fun s=>[.val (.lst (aA w)),.own (aA s.1),s.2]) (aA w) 0 ([],.no) rfl (by
   rintro j ⟨l,s2⟩ x hs hx
   obtain⟨k,hk,rfl⟩:=Bw hx
   rw[zero_add]at hs⊢
   have Hk:l=iz [] (w.take j):=hs
   have To:=uQ (w.take j) []
   rw[<-Hk,length_take]at To
   simp -implicitDefEqProofs only [length_nil]at To
   refine⟨(iW l k,.val (.int k)),?_,by show iW l k=_;rw[yM hk,GO,Hk];rfl⟩
   unfold lB iW
   simp -implicitDefEqProofs only [dQ,reduceIte,ai,aj,aL,aM,aN,aO,bg]
   cases l with
   |nil=>
    simp -implicitDefEqProofs only [length_nil,reduceIte,ai,aj,aL,aM,aN,aO,Int.natCast_zero,Int.lt_irrefl,decide_false,List.getLast?_nil]
    rw[Bq (by simp[aA])]
    rfl
   |cons y r=>
    have h0:(0:Int)<((y::r).length:Nat):=by simp
    generalize hyr:y::r=l at*
    simp -implicitDefEqProofs only [h0,decide_true,reduceIte,ai,aj,aL,aM,aN,aO]
    rw[xj,AH]
    cases hq:l.getLast? with
    |none=>rw[<-hyr]at hq;simp at hq
    |some z=>
     simp -implicitDefEqProofs only [map_some,reduceIte,ai,aj,aL,aM,aN,aO]
     by_cases hz:z= -k
     ·have Th:(z== -k)=true:=by rw[beq_iff_eq];exact hz
      subst hz
      simp -implicitDefEqProofs only [beq_self_eq_true,reduceIte,ai,aj,aL,aM,aN,aO]
      rw[II (by rw[bg];omega)]
      simp -implicitDefEqProofs only [reduceIte,ai,aj,aL,aM,aN,aO]
      show _=R.ok (Out.nx [_,Sl.own (aA l.dropLast),_])
      unfold aA
      rw[map_dropLast]
     ·have Th:(z== -k)=false:=beq_false_of_ne hz
      have hz2:¬(some z=some (-k)):=fun e=>hz (Option.some.inj e)
      simp -implicitDefEqProofs only [Th,reduceIte,ai,aj,aL,aM,aN,aO]
      rw[Bq (by rw[bg];omega),if_neg hz2]
      simp -implicitDefEqProofs only [reduceIte,ai,aj,aL,aM,aN,aO]
      unfold aA
      rw[map_append]
      rfl)
 obtain⟨l,s2⟩:=s'
 rw[zero_add,bg,take_length]at hj
 have Al:l=iz [] w:=hj
 dsimp only at e
 rw[show([]:List D)=aA []from rfl,e,Al]
 simp -implicitDefEqProofs only [reduceIte,ai,aj,aL,aM,aN,aO,jl]
theorem zp:∀(w s:List Int),∀k∈iz s w,k∈s\/k∈w
 |[],s,k,h=>.inl h
 |x::w,s,k,h=>by
  rcases zp w (iW s x) k h with h|h
  ·unfold iW at h
   split at h
   ·exact .inl (mem_of_mem_take (by rw[dropLast_eq_take]at h;exact h))
   ·rcases mem_append.mp h with h|h
    ·exact .inl h
    ·exact .inr (by rw[mem_singleton.mp h];exact mem_cons_self)
  ·exact .inr (mem_cons_of_mem _ h)
theorem JD(s0:Sl)(b k:Int)(hk:1<=k/\k<=7)(s2:Sl):iZ (.int k) [s0,.val (.int b),s2]=.ok (.nx [s0,.val (.int (Builtin.bitOr b (1*2^(k-1).toNat))),.val (.int k)]):=by
 unfold iZ
 simp -implicitDefEqProofs only [dQ,mS,mD,mF,fg,aH,reduceAdd,reduceSub,reduceEqDiff,reduceIte,ai,aj,aL,aM,aN,aO]
 rw[show IY (.int 1) (.int (k-1))=some (.int (1*2^(k-1).toNat))from if_pos (by
  unfold CB
  exact⟨by omega,by omega,by decide⟩)]
 simp -implicitDefEqProofs only [reduceIte,ai,aj,aL,aM,aN,aO,CU]
theorem wx(s0:Sl):∀(ks:List Int)(b:Int)(s2:Sl),(∀k∈ks,1<=k/\k<=7)->∃Xr,dO iZ (aA ks) [s0,.val (.int b),s2]=.ok (.nx [s0,.val (.int (ks.foldl (fun b k=>Builtin.bitOr b (1*2^(k-1).toNat)) b)),Xr])
 |[],b,s2,_=>⟨s2,rfl⟩
 |k::ks,b,s2,h=>by
  rw[<-mQ,GJ (JD s0 b k (h k (by simp)) s2)]
  exact wx s0 ks _ _ fun x hx=>h x (by simp[hx])
theorem JE:∀ks:List Int,(∀k∈ks,1<=k/\k<=7)->kG [.lst (aA ks)]=.ok (.int (Aq ks)):=fun ks h=>by
 unfold kG we
 simp -implicitDefEqProofs only [mS,mD,mF,fg,aH,reduceAdd,reduceSub,reduceEqDiff,reduceIte,ai,aj,aL,aM,aN,aO]
 obtain⟨s2,e⟩:=wx (.val (.lst (aA ks))) ks 0 .no h
 rw[e]
 simp -implicitDefEqProofs only [reduceIte,ai,aj,aL,aM,aN,aO]
 rfl
theorem JF(n:Nat):Iv n (upTo n).reverse (upTo n).reverse:=by
 have c:∀p,p<n->aa (upTo n).reverse p=((n-1-p:Nat):Int):=fun p hp=>by
  rw[dJ (by rw[ar];exact hp),ar,aI (by omega)]
 have h:∀p,p<n->0<=aa (upTo n).reverse p/\aa (upTo n).reverse p<n/\aa (upTo n).reverse (aa (upTo n).reverse p).toNat=p:=fun p hp=>by
  rw[c p hp,toNat_natCast,c _ (by omega)]
  refine⟨by omega,by omega,?_⟩
  omega
 exact⟨by rw[length_reverse,ar],by rw[length_reverse,ar],h,h⟩
theorem JG(n:Nat)(hn:1<=n/\n<=7):ur [.int n]=.ok (aA (upTo n).reverse):=by
 unfold ur FI
 simp -implicitDefEqProofs only [mS,mD,mF,fg,aH,reduceAdd,reduceSub,reduceEqDiff,reduceIte,ai,aj,aL,aM,aN,aO]
 have er:E9 [.int ((n:Int)-1),.int (-1),.int (-1)]=.ok (E8 ((n:Int)-1) (-1) (Builtin.Range.rangeSize ((n:Int)-1) (-1) (-1)).toNat):=if_pos (by unfold RC;omega)
 rw[er]
 have e2:E8 ((n:Int)-1) (-1) (Builtin.Range.rangeSize ((n:Int)-1) (-1) (-1)).toNat=aA (upTo n).reverse:=by
  have hc:n=1\/n=2\/n=3\/n=4\/n=5\/n=6\/n=7:=by omega
  rcases hc with rfl|rfl|rfl|rfl|rfl|rfl|rfl<;>rfl
 rw[e2]
 simp -implicitDefEqProofs only [reduceIte,ai,aj,aL,aM,aN,aO,jl]
theorem LH(n:Nat)(f:Nat->Nat):S n (fun i=>f (n-1-i))=S n f:=by
 induction n with
 |zero=>rfl
 |succ n ih=>
  rw[BA,gH,<-ih]
  rw[show n+1-1-0=n by omega,Nat.add_comm]
  congr 1
  exact eM fun i _=>by rw[show n+1-1-(i+1)=n-1-i by omega]
def T2(n:Nat):Nat:=S n fun q=>S n fun p=>if p<q then 1 else 0
theorem JH{n:Nat}(h:1<=n/\n<=7):((T2 n:Nat):Int)=(n:Int)*((n:Int)-1)/2:=by
 have hc:n=1\/n=2\/n=3\/n=4\/n=5\/n=6\/n=7:=by omega
 rcases hc with rfl|rfl|rfl|rfl|rfl|rfl|rfl<;>rfl
theorem GQ{n:Nat}{r s:List Int}(h:Iv n r s):dR (fl n s)+dR s=T2 n:=by
 rw[wj,wj,lL,h.ls,<-yU]
 unfold T2
 refine eM fun q hq=>?_
 rw[<-yU]
 refine eM fun p hp=>?_
 by_cases hpq:p<q
 ·rw[if_pos hpq,if_pos hpq,if_pos hpq,qt (by rw[h.ls];exact hq),qt (by rw[h.ls];exact hp)]
  have hne:aa s p≠aa s q:=fun z=>by
   have:=h.DG hp hq z
   omega
  repeat' split
  all_goals omega
 ·rw[if_neg hpq,if_neg hpq,if_neg hpq]
theorem Ce{n:Nat}{r s:List Int}(h:Iv n r s):dR s.reverse+dR s=T2 n:=by
 have e1:dR s.reverse=S n fun q=>S n fun p=>if p<q then(if aa s p<aa s q then 1 else 0)else 0:=by
  rw[wj,length_reverse,h.ls,FO n n fun q p=>if p<q then(if aa s p<aa s q then 1 else 0)else 0,<-LH n fun p=>S n fun q=>if p<q then(if aa s p<aa s q then 1 else 0)else 0]
  refine eM fun q hq=>?_
  rw[<-LH n fun Zl=>if n-1-q<Zl then(if aa s (n-1-q)<aa s Zl then 1 else 0)else 0]
  refine eM fun p hp=>?_
  rw[dJ (by rw[h.ls];exact hq),dJ (by rw[h.ls];exact hp),h.ls]
  by_cases hpq:p<q
  ·have hq2:n-1-q<n-1-p:=by omega
   rw[if_pos hpq,if_pos hq2]
  ·have hq2:¬n-1-q<n-1-p:=by omega
   rw[if_neg hpq,if_neg hq2]
 rw[e1,wj,h.ls,<-yU]
 unfold T2
 refine eM fun q hq=>?_
 rw[<-yU]
 refine eM fun p hp=>?_
 by_cases hpq:p<q
 ·rw[if_pos hpq,if_pos hpq,if_pos hpq]
  have hne:aa s p≠aa s q:=fun z=>by
   have:=h.DG hp hq z
   omega
  repeat' split
  all_goals omega
 ·rw[if_neg hpq,if_neg hpq,if_neg hpq]
def Cf(k:Int):Int:=if 0<k then 1 else-1
def o9(w:List Int):Int:=(w.map Cf).sum
theorem xN(a b:List Int):o9 (a++b)=o9 a+o9 b:=by unfold o9;rw[map_append,sum_append]
def gw(h:Int)(o:List Int):List Int:=if h%2=0 then o else o.reverse
theorem uR(h:Int)(o:List Int):(gw h o).length=o.length:=by unfold gw;split<;>simp
theorem cP(o r:List Int):(cmp o r).length=r.length:=by unfold cmp;exact length_map _
theorem Cg:∀(w o:List Int),(jH w o).length=o.length
 |[],o=>rfl
 |k::w,o=>by
  show(jH w (fJ o _)).length=_
  rw[Cg w,fX]
theorem OZ{n:Nat}{o:List Int}(h:o.length=n):cmp o (upTo n)=o:=by
 refine bK (by rw[cP,ar,h]) fun t ht=>?_
 rw[cP,ar]at ht
 rw[cL (by rw[ar];exact ht),aI ht,toNat_natCast]
theorem Ci{n:Nat}{o:List Int}(h:o.length=n)(w:List Int):jH w o=cmp o (jH w (upTo n)):=by
 conv=>lhs;rw[<-OZ h]
 unfold cmp
 exact xK _ w _
theorem qu(a b o:List Int):jH (a++b) o=jH b (jH a o):=foldl_append
theorem O0{n:Nat}{o r s:List Int}(h:o.length=n)(i:Iv n r s):cmp o.reverse (fl n s)=cmp o s:=by
 refine bK (by rw[cP,cP,lL]) fun t ht=>?_
 rw[cP,lL,i.ls]at ht
 obtain⟨a1,a2,_⟩:=i.sr t ht
 rw[cL (by rw[lL,i.ls];exact ht),cL (by rw[i.ls];exact ht),qt (by rw[i.ls];exact ht),dJ (by rw[h];omega),h]
 congr 1
 omega
theorem GR{n:Nat}{r s:List Int}(h:Iv n r s)(hr:Iv n r.reverse (uC r.reverse)):dR (fl n r.reverse)=dR r:=by
 have e1:=GQ hr.symm
 have e2:=Ce h.symm
 omega
theorem zq{n:Nat}{o r s:List Int}(h:o.length=n)(i:Iv n r s):cmp o.reverse (fl n r.reverse)=(cmp o r).reverse:=by
 refine bK (by rw[cP,lL,length_reverse,length_reverse,cP]) fun t ht=>?_
 rw[cP,lL,length_reverse,i.lr]at ht
 obtain⟨a1,a2,_⟩:=i.rs (n-1-t) (by omega)
 have e1:aa r.reverse t=aa r (n-1-t):=by rw[dJ (by rw[i.lr];exact ht),i.lr]
 have e2:aa (cmp o r).reverse t=aa (cmp o r) (n-1-t):=by rw[dJ (by rw[cP,i.lr];exact ht),cP,i.lr]
 rw[cL (by rw[lL,length_reverse,i.lr];exact ht),qt (by rw[length_reverse,i.lr];exact ht),e1,e2,dJ (by rw[h];omega),h,cL (by rw[i.lr];omega)]
 congr 1
 omega
def j6(n:Nat)(h:Int)(r:List Int):List Int:=if h%2=0 then r else fl n r.reverse
theorem Dc{n:Nat}(h:Int){r:List Int}(hr:bw n r):bw n (j6 n h r):=by
 unfold j6
 split
 ·exact hr
 ·exact GH (Cb hr)
theorem Dg{n:Nat}(h:Int){r:List Int}(hr:bw n r):dR (j6 n h r)=dR r:=by
 unfold j6
 split
 ·rfl
 ·exact GR (o8 hr) (o8 (Cb hr))
theorem Dh{n:Nat}(h g:Int){o r:List Int}(ho:o.length=n)(hr:bw n r):cmp (gw (g+h) o) (j6 n h r)=gw h (cmp (gw g o) r):=by
 unfold j6 gw
 by_cases c:h%2=0
 ·rw[if_pos c,if_pos c]
  by_cases d:g%2=0
  ·rw[if_pos d,if_pos (by omega)]
  ·rw[if_neg d,if_neg (by omega)]
 ·rw[if_neg c,if_neg c]
  by_cases d:g%2=0
  ·rw[if_pos d,if_neg (by omega),zq ho (o8 hr)]
  ·rw[if_neg d,if_pos (by omega)]
   have:=zq (o:=o.reverse) (by rw[length_reverse];exact ho) (o8 hr)
   rw[reverse_reverse]at this
   exact this
abbrev hS(qs:List (Int×List Int)):Int:=(qs.map (·.1)).sum
def dm(n:Nat):List (Int×List Int)->List (List Int)
 |[]=>[]
 |q::qs=>j6 n (hS qs) q.2::dm n qs
def GU(o:List Int)(qs:List (Int×List Int)):List Int:=qs.foldl (fun o q=>cmp (gw q.1 o) q.2) o
theorem rD(n:Nat):∀qs,(dm n qs).length=qs.length
 |[]=>rfl
 |q::qs=>by show(dm n qs).length+1=_;rw[rD n qs];rfl
theorem wy{n:Nat}:∀(qs:List (Int×List Int)),(∀q∈qs,bw n q.2)->∀r∈dm n qs,bw n r
 |[],_,r,hr=>nomatch hr
 |q::qs,h,r,hr=>by
  rcases mem_cons.mp hr with rfl|hr
  ·exact Dc _ (h q (by simp))
  ·exact wy qs (fun x hx=>h x (by simp[hx])) r hr
theorem wz{n:Nat}:∀(qs:List (Int×List Int))(o:List Int),(∀q∈qs,bw n q.2)->o.length=n->sX (gw (hS qs) o) (dm n qs)=GU o qs
 |[],o,_,_=>by
  show gw 0 o=o
  rfl
 |q::qs,o,h,ho=>by
  have hq:=h q (by simp)
  have ih:=wz qs (cmp (gw q.1 o) q.2) (fun x hx=>h x (by simp[hx])) (by rw[cP,hq.len])
  show sX (cmp (gw (hS (q::qs)) o) (j6 n (hS qs) q.2)) (dm n qs)=GU (cmp (gw q.1 o) q.2) qs
  rw[<-ih,show hS (q::qs)=q.1+hS qs from rfl,Dh _ _ ho hq]
theorem wA{n:Nat}:∀(qs:List (Int×List Int)),(∀q∈qs,bw n q.2)->iJ (dm n qs)=iJ (qs.map (·.2))
 |[],_=>rfl
 |q::qs,h=>by
  have ih:=wA qs fun x hx=>h x (by simp[hx])
  have e:∀(r:List Int)(R:List (List Int)),iJ (r::R)=dR r+iJ R:=fun r R=>by unfold iJ;rw[map_cons,sum_cons]
  show iJ (j6 n (hS qs) q.2::dm n qs)=iJ (q.2::qs.map (·.2))
  rw[e,e,ih,Dg _ (h q (by simp))]
abbrev oA(k:Int):Int:=if k<0 then-k else k
theorem GV{n:Nat}{k:Int}(h:rO n k):∃a:Nat,oA k=(a:Int)+1/\a+1<n:=by
 unfold rO at h
 unfold oA
 split
 ·exact⟨(-k-1).toNat,by omega,by omega⟩
 ·exact⟨(k-1).toNat,by omega,by omega⟩
theorem O1{n:Nat}{p:List Int}(h:∀k∈p,rO n k):Ps n (p.map oA):=fun k hk=>by
 obtain⟨x,hx,rfl⟩:=mem_map.mp hk
 exact GV (h x hx)
theorem GW(a b:Bool):Bh (.bl a) (.bl b)=some (.bl (!(a==b))):=rfl
theorem JI:Bo []=some []:=rfl
theorem zr{α:Type}(l:List α)(x y:α):(l++[x]).set l.length y=l++[y]:=by simp
structure Gp(n:Nat)(p:List Int):Prop where
 ne:p≠[]
 x:∀k∈p,rO n k
 sg:(∀k∈p,0<k)\/∀k∈p,k<0
 le:∃z,ee (p.map oA) (upTo n)=some z
structure O2(n i:Nat)(u:List Int)(lA:List (List Int))(o:List Int)(s:Bool):Prop where
 len:lA.length<=i
 lo:o.length=n
 good:∀p∈lA,Gp n p/\p.length<=i
 fla:lA.flatten=u
 last:lA=[]\/∃ini cur,lA=ini++[cur]/\(∀k∈cur,s=decide (0<k))/\ee (cur.map oA) (upTo n)=some o
theorem tm{i:Nat}{env:DE}{a v:Int}{l:List Int}(h:0<=a)(h2:a<l.length):yE i env (.int v) (aA l) (.int a)=.ok (.nx (env.set i (.own (aA (l.set a.toNat v))))):=by
 rw[yG h (by rw[bg];exact h2)]
 unfold aA
 rw[map_set]
theorem Cj{l:List Int}{a:Nat}(h:a+1<l.length):(l.set (a+1) (aa l a)).set a (aa l (a+1))=fJ l a:=by
 refine bK (by rw[length_set,length_set,fX]) fun j hj=>?_
 rw[length_set,length_set]at hj
 rw[uy (by rw[length_set];exact hj),uy hj,kK _ _ h]
 repeat' split
 all_goals first|rfl|omega|(subst_vars;rfl)
theorem O3{n i:Nat}(hn:n<=7)(hi:i<100){lA:List (List Int)}{o:List Int}{s:Bool}{u:List Int}(J:O2 n i u lA o s){k:Int}(hk:rO n k)(s1 s5 s6 s7:Sl):
  ∃SM o' s' t5 t6 t7,m9 (.int k) [.val (.int n),s1,.deep (.ls lA),.own (aA o),.val (.bl s),s5,s6,s7]=.ok (.nx [.val (.int n),s1,.deep (.ls SM),.own (aA o'),.val (.bl s'),t5,t6,t7])/\O2 n (i+1) (u++[k]) SM o' s':=by
 obtain⟨a,ea,ha⟩:=GV hk
 have lo:=J.lo
 have hlen:=J.len
 have at1:iT (aA o) ((a:Int)+1-1)=some (.int (aa o a)):=by rw[cg (by omega) (by omega),show((a:Int)+1-1).toNat=a by omega]
 have at2:iT (aA o) ((a:Int)+1)=some (.int (aa o (a+1))):=by rw[cg (by omega) (by omega),show((a:Int)+1).toNat=a+1 by omega]
 have ku:iT (aA (upTo n)) ((a:Int)+1-1)=some (.int (aa (upTo n) a)):=by rw[cg (by omega) (by rw[ar];omega),show((a:Int)+1-1).toNat=a by omega]
 have ku2:iT (aA (upTo n)) ((a:Int)+1)=some (.int (aa (upTo n) (a+1))):=by rw[cg (by omega) (by rw[ar];omega),show((a:Int)+1).toNat=a+1 by omega]
 have hgk:Gp n [k]:=⟨by simp,fun x hx=>by rw[mem_singleton.mp hx];exact hk,by
  unfold rO at hk
  by_cases c:0<k
  ·exact .inl fun x hx=>by rw[mem_singleton.mp hx];exact c
  ·exact .inr fun x hx=>by rw[mem_singleton.mp hx];omega,⟨fJ (upTo n) a,by
   show ee [oA k] (upTo n)=_
   rw[ea,jf (n:=n),if_neg (by rw[aI (by omega),aI (by omega)];omega)]
   rfl⟩⟩
 have hkl:ee [oA k] (upTo n)=some (fJ (upTo n) a):=by
  rw[ea,jf (n:=n),if_neg (by rw[aI (by omega),aI (by omega)];omega)]
  rfl
 by_cases hnew:lA=[]\/s≠decide (0<k)\/aa o (a+1)<aa o a
 ·refine⟨lA++[[k]],fJ (upTo n) a,decide (0<k),.val (.int k),.val (.int ((a:Int)+1)),.val (.int (aa (upTo n) (a+1))),?_,⟨by simp;omega,by rw[fX,ar],fun p hp=>?_,by rw[flatten_append,J.fla];simp,.inr ⟨lA,[k],rfl,fun x hx=>by rw[mem_singleton.mp hx],hkl⟩⟩⟩
  ·have GX:(if(((lA.length:Nat):Int)==0)=true then R.ok true else if(!(s==decide (0<k)))=true then R.ok true else R.ok (decide (aa o (a+1)<aa o a)):R Bool)=.ok true:=by
    rcases hnew with h|h|h
    ·rw[if_pos (by rw[h];rfl)]
    ·split
     ·rfl
     ·rw[if_pos (by simpa using h)]
    ·rw[decide_eq_true h]
     repeat' split
     all_goals rfl
   unfold m9
   simp -implicitDefEqProofs only [dQ,mS,mD,mF,fg,aH,reduceAdd,reduceSub,reduceEqDiff,reduceIte,ai,aj,aL,aM,aN,aO,GK,GW,ea,at1,at2,length_map,GX,jB,jC,JI]
   rw[Cd (by omega)]
   simp -implicitDefEqProofs only [reduceIte,ai,aj,aL,aM,aN,aO,jB,jC,rC]
   rw[j5 n hn]
   simp -implicitDefEqProofs only [reduceIte,ai,aj,aL,aM,aN,aO,jB,jC,rC]
   rw[Cc (by simp)]
   simp -implicitDefEqProofs only [reduceIte,ai,aj,aL,aM,aN,aO,ku,ku2]
   rw[tm (by omega) (by rw[ar];omega)]
   simp -implicitDefEqProofs only [reduceIte,ai,aj,aL,aM,aN,aO]
   rw[tm (by omega) (by rw[length_set,ar];omega)]
   simp -implicitDefEqProofs only [reduceIte,ai,aj,aL,aM,aN,aO]
   rw[show((a:Int)+1).toNat=a+1 by omega,show((a:Int)+1-1).toNat=a by omega,Cj (by rw[ar];omega),zr]
  ·rcases mem_append.mp hp with h|h
   ·exact⟨(J.good p h).1,by have:=(J.good p h).2;omega⟩
   ·rw[mem_singleton.mp h]
    exact⟨hgk,by simp⟩
 ·have h1:lA≠[]:=fun z=>hnew (.inl z)
  have h2:s=decide (0<k):=byContradiction fun z=>hnew (.inr (.inl z))
  have h3:¬aa o (a+1)<aa o a:=fun z=>hnew (.inr (.inr z))
  obtain⟨ini,cur,rfl,hs,hl⟩:=J.last.resolve_left h1
  obtain⟨gc,gl⟩:=J.good cur (by simp)
  have SN:ee ((cur++[k]).map oA) (upTo n)=some (fJ o a):=by
   rw[map_append,map_cons,map_nil,wt,hl,ea]
   show ee [(a:Int)+1] o=_
   rw[jf (n:=n),if_neg h3]
   rfl
  refine⟨ini++[cur++[k]],fJ o a,s,.val (.int k),.val (.int ((a:Int)+1)),.val (.int (aa o (a+1))),?_,⟨by simp at hlen⊢;omega,by rw[fX,lo],fun p hp=>?_,by have:=J.fla;rw[flatten_append]at this⊢;rw[<-this];simp,.inr ⟨ini,cur++[k],rfl,fun x hx=>?_,SN⟩⟩⟩
  ·have GX:(if((((ini++[cur]).length:Nat):Int)==0)=true then R.ok true else if(!(s==decide (0<k)))=true then R.ok true else R.ok (decide (aa o (a+1)<aa o a)):R Bool)=.ok false:=by
    rw[if_neg (by simp;omega),h2,if_neg (by simp),decide_eq_false h3]
   unfold m9
   simp -implicitDefEqProofs only [dQ,reduceIte,ai,aj,aL,aM,aN,aO,GK,GW,ea,at1,at2,length_map,GX,jB,jC,rC]
   rw[Cc (by omega)]
   simp -implicitDefEqProofs only [reduceIte,ai,aj,aL,aM,aN,aO,at1,at2]
   rw[tm (by omega) (by omega)]
   simp -implicitDefEqProofs only [reduceIte,ai,aj,aL,aM,aN,aO]
   rw[tm (by omega) (by rw[length_set];omega)]
   simp -implicitDefEqProofs only [reduceIte,ai,aj,aL,aM,aN,aO]
   rw[show((a:Int)+1).toNat=a+1 by omega,show((a:Int)+1-1).toNat=a by omega,Cj (by omega),zr]
  ·rcases mem_append.mp hp with h|h
   ·exact⟨(J.good p (by simp[h])).1,by have:=(J.good p (by simp[h])).2;omega⟩
   ·rw[mem_singleton.mp h]
    refine⟨⟨by simp,fun x hx=>?_,?_,⟨_,SN⟩⟩,by rw[length_append,length_singleton];omega⟩
    ·rcases mem_append.mp hx with q|q
     ·exact gc.x x q
     ·rw[mem_singleton.mp q];exact hk
    ·have MC:=hk
     unfold rO at MC
     by_cases c:0<k
     ·refine .inl fun x hx=>?_
      rcases mem_append.mp hx with q|q
      ·have:=hs x q
       rw[h2,decide_eq_true c]at this
       exact of_decide_eq_true this.symm
      ·rw[mem_singleton.mp q];exact c
     ·refine .inr fun x hx=>?_
      rcases mem_append.mp hx with q|q
      ·have:=hs x q
       rw[h2,decide_eq_false c]at this
       have:=of_decide_eq_false this.symm
       have:=(gc.x x q).1
       omega
      ·rw[mem_singleton.mp q];omega
  ·rcases mem_append.mp hx with q|q
   ·exact hs x q
   ·rw[mem_singleton.mp q];exact h2
theorem O4{n:Nat}(hn:n<=7){w:List Int}(hw:∀k∈w,rO n k)(hl:w.length<=100):∃lA:List (List Int),yS [.int n,.lst (aA w)]=.ok lA/\lA.flatten=w/\lA.length<=w.length/\∀p∈lA,Gp n p/\p.length<=w.length:=by
 unfold yS Lc mT
 simp -implicitDefEqProofs only [mS,mD,mF,fg,aH,reduceAdd,reduceSub,reduceEqDiff,reduceIte,ai,aj,aL,aM,aN,aO]
 rw[j5 n hn]
 simp -implicitDefEqProofs only [reduceIte,ai,aj,aL,aM,aN,aO]
 obtain⟨⟨lA,o,s,t5,t6,t7⟩,e,hj⟩:=qT (S:=List (List Int)×List Int×Bool×Sl×Sl×Sl) (b:=m9) (fun i q=>O2 n i (w.take i) q.1 q.2.1 q.2.2.1)
  (fun q=>[.val (.int n),.val (.lst (aA w)),.deep (.ls q.1),.own (aA q.2.1),.val (.bl q.2.2.1),q.2.2.2.1,q.2.2.2.2.1,q.2.2.2.2.2]) (aA w) 0 ([],upTo n,false,.no,.no,.no)
  ⟨Nat.le_refl _,ar n,(fun p hp=>nomatch hp),rfl,.inl rfl⟩ (by
   rintro j ⟨lA,o,s,t5,t6,t7⟩ x hs hx
   obtain⟨k,hk,rfl⟩:=Bw hx
   have OO:j<w.length:=(List.getElem?_eq_some_iff.mp hk).1
   obtain⟨p1,o1,s1,u5,u6,u7,e,hJ⟩:=O3 hn (show 0+j<100 by omega) hs (hw k (mem_of_getElem? hk)) (.val (.lst (aA w))) t5 t6 t7
   refine⟨(p1,o1,s1,u5,u6,u7),e,?_⟩
   rw[zero_add]at hJ⊢
   rw[yM hk]
   exact hJ)
 dsimp only at e hj
 rw[e]
 rw[zero_add,bg]at hj
 simp -implicitDefEqProofs only [reduceIte,ai,aj,aL,aM,aN,aO,jB,jC,Fe]
 exact⟨lA,rfl,by rw[hj.fla,take_length],hj.len,hj.good⟩
theorem Di(w:List Int)(hw:w.length<=1000):mY [.lst (aA w)]=.ok (aA (w.reverse.map fun k=> -k)):=by
 unfold mY yP
 simp -implicitDefEqProofs only [mS,mD,mF,fg,aH,reduceAdd,reduceSub,reduceEqDiff,reduceIte,ai,aj,aL,aM,aN,aO,Bs,cR]
 rw[gG (fun k=> -k) w.reverse fun k _=>⟨_,dQ _ _ _,rfl,rfl⟩]
 simp -implicitDefEqProofs only [reduceIte,ai,aj,aL,aM,aN,aO,R.gF]
 rw[b9 (by rw[length_map,length_reverse];omega)]
 simp -implicitDefEqProofs only [reduceIte,ai,aj,aL,aM,aN,aO,jl]
def zD(q:Int×List Int):D:=.tup [.int q.1,.lst (aA q.2)]
structure StP(n:Nat)(p:List Int)(q:Int×List Int):Prop where
 h:q.1=0\/q.1= -1
 r:bw n q.2
 o:∀o:List Int,o.length=n->cmp (gw q.1 o) q.2=jH (p.map oA) o
 c:q.1*(T2 n:Int)+(dR q.2:Int)=o9 p
theorem GY:∀{p:List Int},(∀k∈p,0<k)->o9 p=p.length
 |[],_=>rfl
 |k::p,h=>by
  have ih:=GY (p:=p) fun x hx=>h x (by simp[hx])
  unfold o9 at ih⊢
  rw[map_cons,sum_cons,ih,length_cons]
  unfold Cf
  rw[if_pos (h k (by simp))]
  omega
theorem GZ:∀{p:List Int},(∀k∈p,k<0)->o9 p= -(p.length:Int)
 |[],_=>rfl
 |k::p,h=>by
  have ih:=GZ (p:=p) fun x hx=>h x (by simp[hx])
  have:=h k (by simp)
  unfold o9 at ih⊢
  rw[map_cons,sum_cons,ih,length_cons]
  unfold Cf
  rw[if_neg (by omega)]
  omega
theorem JJ{n:Nat}(hn:n<=7){p:List Int}(g:Gp n p)(hl:p.length<=1000):∃q,kI [.int n,.lst (aA p)]=.ok (zD q)/\StP n p q:=by
 obtain⟨k0,p',rfl⟩:=List.exists_cons_of_ne_nil g.ne
 obtain⟨z,hz⟩:=g.le
 have hp:=O1 g.x
 have at0:iT (aA (k0::p')) 0=some (.int k0):=by rw[xj,Br (by decide)];rfl
 unfold kI wg
 simp -implicitDefEqProofs only [mS,mD,mF,fg,aH,reduceAdd,reduceSub,reduceEqDiff,reduceIte,ai,aj,aL,aM,aN,aO,at0]
 rcases g.sg with hs|hs
 ·have e:(k0::p').map oA=k0::p':=by
   conv=>rhs;rw[<-List.map_id (k0::p')]
   refine map_congr_left fun x hx=>?_
   have:=hs x hx
   show(if x<0 then-x else x)=x
   rw[if_neg (by omega)]
  rw[e]at hp hz
  simp -implicitDefEqProofs only [mS,mD,mF,fg,aH,reduceAdd,reduceSub,reduceEqDiff,reduceIte,ai,aj,aL,aM,aN,aO,decide_eq_true (hs k0 (by simp)),wu hn hp hz]
  obtain⟨w1,w2⟩:=nG (k0::p') _ _ z hp (lY n) hz
  refine⟨(0,z),rfl,⟨.inl rfl,xM (Ca hp hz),fun o ho=>?_,?_⟩⟩
  ·rw[e,Ci ho,<-w1]
   rfl
  ·rw[GY hs]
   dsimp only
   rw[w2,JC n (by omega)]
   omega
 ·have e:(k0::p').map oA=(k0::p').map fun k=> -k:=map_congr_left fun x hx=>by
   have:=hs x hx
   show(if x<0 then-x else x)= -x
   rw[if_pos this]
  rw[e]at hp hz
  have hk0:=hs k0 (by simp)
  have hr:=GG hp hz
  rw[<-map_reverse]at hr
  have Tc:Ps n ((k0::p').reverse.map fun k=> -k):=fun x hx=>hp x (by
   rw[map_reverse,mem_reverse]at hx
   exact hx)
  simp -implicitDefEqProofs only [mS,mD,mF,fg,aH,reduceAdd,reduceSub,reduceEqDiff,reduceIte,ai,aj,aL,aM,aN,aO,decide_eq_false (show¬0<k0 by omega),Di _ hl,wu hn Tc hr]
  have iv:=Ca Tc hr
  unfold gV oK
  simp -implicitDefEqProofs only [mS,mD,mF,fg,aH,reduceAdd,reduceSub,reduceEqDiff,reduceIte,ai,aj,aL,aM,aN,aO,C9 iv hn]
  have es:jH ((k0::p').reverse.map fun k=> -k).reverse (upTo n)=jH ((k0::p').map oA) (upTo n):=by rw[e,map_reverse,reverse_reverse]
  rw[es]at iv⊢
  obtain⟨w1,w2⟩:=nG ((k0::p').map fun k=> -k) _ _ z hp (lY n) hz
  rw[<-e]at w1
  refine⟨(-1,fl n (jH ((k0::p').map oA) (upTo n))),rfl,⟨.inr rfl,GH (xM iv.symm),fun o ho=>?_,?_⟩⟩
  ·show cmp o.reverse (fl n (jH ((k0::p').map oA) (upTo n)))=_
   rw[O0 ho iv,<-Ci ho]
  ·rw[GZ hs]
   dsimp only
   have e1:=GQ iv
   rw[<-w1]at e1⊢
   rw[w2,JC n (by omega),length_map]at e1
   omega
theorem uS{n:Nat}(hn:n<=7):∀(ps:List (List Int)),(∀p∈ps,Gp n p/\p.length<=1000)->∃qs:List (Int×List Int),bu (bN 0) fu bR (dX 1 [.int n]) (ps.map fun ns=>D.lst (ns.map D.int))=.ok (qs.map zD)/\qs.length=ps.length/\
  (∀q∈qs,(q.1=0\/q.1= -1)/\bw n q.2)/\(∀o:List Int,o.length=n->GU o qs=jH (ps.flatten.map oA) o)/\hS qs*(T2 n:Int)+(iJ (qs.map (·.2)):Int)=o9 ps.flatten
 |[],_=>⟨[],rfl,rfl,(fun q hq=>nomatch hq),(fun o _=>rfl),by show(0:Int)*_+0=0;rw[Int.zero_mul];rfl⟩
 |p::ps,h=>by
  obtain⟨qs,e1,e2,e3,e8,e9⟩:=uS hn ps fun x hx=>h x (by simp[hx])
  obtain⟨q,e4,e5⟩:=JJ hn (h p (by simp)).1 (h p (by simp)).2
  refine⟨q::qs,?_,by rw[length_cons,length_cons,e2],fun x hx=>?_,fun o ho=>?_,?_⟩
  ·rw[map_cons]
   unfold bu
   rw[e1]
   have e6:bR [.val (.lst (aA p)),.val (.int n)]=.ok (zD q):=by
    unfold bR
    simp -implicitDefEqProofs only [mS,mD,mF,fg,aH,reduceAdd,reduceSub,reduceEqDiff,reduceIte,ai,aj,aL,aM,aN,aO,e4]
   rw[dQ,R.bF,show fu _=.ok true from rfl,R.bF,if_pos rfl]
   have e7:bR (List.set (dX 1 [.int n]) 0 (.val (.lst (p.map D.int))))=.ok (zD q):=e6
   rw[e7]
   rfl
  ·rcases mem_cons.mp hx with rfl|hx
   ·exact⟨e5.h,e5.r⟩
   ·exact e3 x hx
  ·show GU (cmp (gw q.1 o) q.2) qs=_
   rw[e5.o o ho,e8 _ (by rw[Cg,ho]),flatten_cons,map_append,qu]
  ·have hc:=e5.c
   have e:iJ (q.2::qs.map (·.2))=dR q.2+iJ (qs.map (·.2)):=by unfold iJ;rw[map_cons,sum_cons]
   show(q.1+hS qs)*(T2 n:Int)+(iJ (q.2::qs.map (·.2)):Int)=_
   rw[e,flatten_cons,xN,<-hc,<-e9,Int.add_mul]
   omega
theorem Ck:∀(l:List Int)(a:Nat),fJ (fJ l a) a=l
 |[],a=>by cases a<;>rfl
 |[x],0=>rfl
 |x::y::l,0=>rfl
 |x::l,a+1=>by rw[rR,rR,Ck l a]
theorem JK(k:Int):oA (-k)=oA k:=by unfold oA;split<;>split<;>omega
theorem JL{k:Int}(h:k≠0):Cf (-k)= -Cf k:=by unfold Cf;split<;>split<;>omega
theorem Dj{k:Int}(h:k≠0)(s:List Int):o9 (iW s k)=o9 s+Cf k/\∀o,jH ((iW s k).map oA) o=jH ((s++[k]).map oA) o:=by
 unfold iW
 have e1:∀k,o9 [k]=Cf k:=fun k=>by simp[o9]
 split
 ·rename_i hl
  have hne:s≠[]:=fun z=>by rw[z]at hl;cases hl
  have wM:s.dropLast++[-k]=s:=by
   have:=List.dropLast_concat_getLast hne
   rw[List.getLast?_eq_some_getLast hne]at hl
   rw[Option.some.inj hl]at this
   exact this
  have h2:o9 s=o9 s.dropLast+Cf (-k):=by
   conv=>lhs;rw[<-wM]
   rw[xN,e1]
  refine⟨by rw[h2,JL h];omega,fun o=>?_⟩
  conv=>rhs;rw[<-wM]
  rw[map_append,map_append,qu,qu]
  show _=fJ (fJ _ (oA (-k)-1).toNat) (oA k-1).toNat
  rw[JK,Ck]
 ·exact⟨by rw[xN,e1],fun o=>rfl⟩
theorem wB:∀(w s:List Int),(∀k∈w,k≠0)->o9 (iz s w)=o9 s+o9 w/\∀o,jH ((iz s w).map oA) o=jH ((s++w).map oA) o
 |[],s,_=>⟨by simp[iz,o9],fun o=>by rw[append_nil];rfl⟩
 |k::w,s,h=>by
  obtain⟨p1,p2⟩:=Dj (h k (by simp)) s
  obtain⟨t1,t2⟩:=wB w (iW s k) fun x hx=>h x (by simp[hx])
  have e:o9 (k::w)=Cf k+o9 w:=by unfold o9;rw[map_cons,sum_cons]
  refine⟨?_,fun o=>?_⟩
  ·show o9 (iz (iW s k) w)=_
   rw[t1,p1,e]
   omega
  ·show jH ((iz (iW s k) w).map oA) o=_
   rw[t2,map_append,qu,p2,<-qu,<-map_append,List.append_assoc]
   rfl
theorem G0{n:Nat}(hn:n<=7){w:List Int}(hw:∀k∈w,rO n k)(hl:w.length<=40):∃qs:List (Int×List Int),cT [.int n,.lst (aA w)]=.ok (.lst (qs.map zD))/\qs.length<=w.length/\
  (∀q∈qs,(q.1=0\/q.1= -1)/\bw n q.2)/\(∀o:List Int,o.length=n->GU o qs=jH (w.map oA) o)/\hS qs*(T2 n:Int)+(iJ (qs.map (·.2)):Int)=o9 w:=by
 have Ir:=uQ w []
 simp -implicitDefEqProofs only [length_nil]at Ir
 obtain⟨t1,t2⟩:=wB w [] fun k hk=>(hw k hk).1
 obtain⟨lA,e1,ef,e2,e3⟩:=O4 hn (w:=iz [] w) (fun k hk=>by
  rcases zp w [] k hk with h|h
  ·cases h
  ·exact hw k h) (by omega)
 obtain⟨qs,e4,e5,e6,e7,e8⟩:=uS hn lA fun p hp=>⟨(e3 p hp).1,by have:=(e3 p hp).2;omega⟩
 rw[ef]at e7 e8
 refine⟨qs,?_,by omega,e6,fun o ho=>by rw[e7 o ho,t2];rfl,by rw[e8,t1];show 0+o9 w=_;omega⟩
 unfold cT lV
 simp -implicitDefEqProofs only [mS,mD,mF,fg,aH,reduceAdd,reduceSub,reduceEqDiff,reduceIte,ai,aj,aL,aM,aN,aO,AI w (by omega),e1,R.gF,cR,e4]
 rw[o5 (by rw[length_map];exact big (by omega))]
 simp -implicitDefEqProofs only [reduceIte,ai,aj,aL,aM,aN,aO]
theorem JM{n:Nat}(hn:n<=7)(h:Int){r:List Int}(hr:bw n r):dZ [.int h,.lst (aA r)]=.ok (aA (j6 n h r)):=by
 unfold dZ oJ j6
 simp -implicitDefEqProofs only [mS,mD,mF,fg,aH,reduceAdd,reduceSub,reduceEqDiff,reduceIte,ai,aj,aL,aM,aN,aO]
 rw[iH _ _ (by decide)]
 simp -implicitDefEqProofs only [reduceIte,ai,aj,aL,aM,aN,aO]
 by_cases c:h%2=0
 ·rw[if_pos c]
  simp -implicitDefEqProofs only [reduceIte,ai,aj,aL,aM,aN,aO,show(h%2==0)=true by rw[beq_iff_eq];exact c,jl]
 ·rw[if_neg c]
  simp -implicitDefEqProofs only [reduceIte,ai,aj,aL,aM,aN,aO,show(h%2==0)=false by rw[beq_eq_false_iff_ne];exact c,AG hr.len hn,jl]
theorem JN{n:Nat}(hn:n<=7){qs:List (Int×List Int)}(hq:∀q∈qs,bw n q.2)(hl:qs.length<=100):aS [.lst (qs.map zD)]=.ok (dm n qs):=by
 unfold aS ie mT
 simp -implicitDefEqProofs only [mS,mD,mF,fg,aH,reduceAdd,reduceSub,reduceEqDiff,reduceIte,ai,aj,aL,aM,aN,aO]
 obtain⟨⟨rs,h,t3⟩,e,Xs,Jv⟩:=qT (S:=List (List Int)×Int×Sl) (b:=cJ) (fun i q=>q.1=(dm n (qs.drop (qs.length-i))).reverse/\q.2.1=hS (qs.drop (qs.length-i)))
  (fun q=>[.val (.lst (qs.map zD)),.deep (.ls q.1),.val (.int q.2.1),q.2.2]) (qs.map zD).reverse 0 ([],0,.no) ⟨by rw[sub_zero,drop_length];rfl,by rw[sub_zero,drop_length];rfl⟩ (by
   rintro j ⟨rs,h,t3⟩ x ⟨hs1,hs2⟩ hx
   rw[zero_add]at hs1 hs2⊢
   dsimp only at hs1 hs2
   have OO:j<(qs.map zD).reverse.length:=(List.getElem?_eq_some_iff.mp hx).1
   rw[length_reverse,length_map]at OO
   rw[getElem?_reverse (by rw[length_map];exact OO),length_map,getElem?_map,getElem?_eq_getElem (show qs.length-1-j<qs.length by omega)]at hx
   have Fd:x=zD (qs[qs.length-1-j]'(by omega)):=(Option.some.inj hx).symm
   have hd:qs.drop (qs.length-(j+1))=(qs[qs.length-1-j]'(by omega))::qs.drop (qs.length-j):=by
    rw[show qs.length-(j+1)=qs.length-1-j by omega,List.drop_eq_getElem_cons (by omega),show qs.length-1-j+1=qs.length-j by omega]
   have Zm:(qs[qs.length-1-j]'(by omega))∈qs:=getElem_mem _
   generalize (qs[qs.length-1-j]'(by omega))=q at Fd hd Zm
   obtain⟨hh,r⟩:=q
   subst Fd
   have e1:=JM hn h (hq _ Zm)
   have hlen:rs.length<=100:=by rw[hs1,length_reverse,rD,length_drop];omega
   refine⟨(rs++[j6 n h r],h+hh,.val (zD (hh,r))),?_,?_,?_⟩
   ·unfold cJ
    have a1:iT [D.int hh,.lst (aA r)] 1=some (.lst (aA r)):=rfl
    have a0:iT [D.int hh,.lst (aA r)] 0=some (.int hh):=rfl
    simp -implicitDefEqProofs only [dQ,reduceIte,ai,aj,aL,aM,aN,aO,zD,jB,jC,a1,a0,e1,o6]
    rw[Cd (by omega)]
    simp -implicitDefEqProofs only [reduceIte,ai,aj,aL,aM,aN,aO,a0,CU]
   ·show rs++[j6 n h r]=_
    rw[hd,hs1,hs2]
    show _=(j6 n (hS (qs.drop (qs.length-j))) r::dm n (qs.drop (qs.length-j))).reverse
    rw[reverse_cons]
   ·show h+hh=_
    rw[hd,hs2]
    show _=hh+hS (qs.drop (qs.length-j))
    omega)
 dsimp only at e Xs Jv
 rw[e]
 rw[zero_add,length_reverse,length_map,sub_self,drop_zero]at Xs
 simp -implicitDefEqProofs only [reduceIte,ai,aj,aL,aM,aN,aO,jB,jC,Fe,Xs,reverse_reverse]
theorem zt{n:Nat}(hn:n<=7):∀(rs:List (List Int))(R:List RP),(∀r∈rs,bw n r)->Au n R->(∀o:List Int,o.length=n->sX o ((rs.foldl (fun R r=>fY n R (r,uC r)) R).map (·.1))=sX o (R.map (·.1)++rs))/\iJ ((rs.foldl (fun R r=>fY n R (r,uC r)) R).map (·.1))=iJ (R.map (·.1))+iJ rs
 |[],R,_,_=>⟨fun o _=>by rw[append_nil];rfl,by simp[iJ]⟩
 |r::rs,R,hr,h=>by
  have iv:=o8 (hr r (by simp))
  obtain⟨a1,a2⟩:=Js hn (lY n) (JC n (by omega)) (c:=(r,uC r)) h.iv iv
  obtain⟨b1,b2⟩:=zt hn rs (fY n R (r,uC r)) (fun x hx=>hr x (by simp[hx])) (Gf hn (lY n) h iv)
  have e:iJ (r::rs)=dR r+iJ rs:=by unfold iJ;rw[map_cons,sum_cons]
  refine⟨fun o ho=>?_,?_⟩
  ·show sX o ((rs.foldl (fun R r=>fY n R (r,uC r)) (fY n R (r,uC r))).map (·.1))=_
   rw[b1 o ho,lE,a1 o ho,<-lE,List.append_assoc]
   rfl
  ·show iJ ((rs.foldl (fun R r=>fY n R (r,uC r)) (fY n R (r,uC r))).map (·.1))=_
   rw[b2,a2,e]
   show _+dR r+_=_
   omega
theorem G1(qs:List (Int×List Int)):bu (bN 0) jq jr (dX 1 []) (qs.map zD)=.ok (aA (qs.map (·.1))):=by
 rw[nT (fun d=>match d with
  |.tup (x::_)=>x
  |_=>.non) _ fun x hx=>by
   obtain⟨q,hq,rfl⟩:=mem_map.mp hx
   exact⟨_,dQ _ _ _,rfl,rfl⟩]
 unfold aA
 rw[map_map,map_map]
 rfl
theorem G2(n:Nat):Iv n (mw n).1 (mw n).2:=by
 have c:∀p,p<n->aa (upTo n).reverse p=((n-1-p:Nat):Int):=fun p hp=>by
  rw[dJ (by rw[ar];exact hp),ar,aI (by omega)]
 have h:∀p,p<n->0<=aa (upTo n).reverse p/\aa (upTo n).reverse p<n/\aa (upTo n).reverse (aa (upTo n).reverse p).toNat=p:=fun p hp=>by
  rw[c p hp,toNat_natCast,c _ (by omega)]
  exact⟨by omega,by omega,by omega⟩
 exact⟨by show(upTo n).reverse.length=n;rw[length_reverse,ar],by show(upTo n).reverse.length=n;rw[length_reverse,ar],h,h⟩
theorem G3{n:Nat}{o:List Int}(h:o.length=n):cmp o (upTo n).reverse=o.reverse:=by
 refine bK (by rw[cP,length_reverse,length_reverse,ar,h]) fun t ht=>?_
 rw[cP,length_reverse,ar]at ht
 rw[cL (by rw[length_reverse,ar];exact ht),dJ (by rw[ar];exact ht),ar,aI (by omega),toNat_natCast,dJ (by rw[h];exact ht),h]
theorem zu(a b:Int)(o:List Int):gw a (gw b o)=gw (a+b) o:=by
 unfold gw
 by_cases c:a%2=0
 ·rw[if_pos c]
  by_cases d:b%2=0
  ·rw[if_pos d,if_pos (by omega)]
  ·rw[if_neg d,if_neg (by omega)]
 ·rw[if_neg c]
  by_cases d:b%2=0
  ·rw[if_pos d,if_neg (by omega)]
  ·rw[if_neg d,if_pos (by omega),reverse_reverse]
theorem wC{n:Nat}:∀(m:Nat)(o:List Int),o.length=n->sX o ((replicate m (mw n)).map (·.1))=gw m o
 |0,o,_=>rfl
 |m+1,o,h=>by
  rw[replicate_succ,map_cons]
  show sX (cmp o (upTo n).reverse) _=_
  rw[G3 h,wC m _ (by rw[length_reverse];exact h),show o.reverse=gw 1 o from rfl,zu]
  congr 1
theorem wD{n:Nat}(hc:dR (upTo n).reverse=T2 n):∀m:Nat,(iJ ((replicate m (mw n)).map (·.1)):Int)=m*(T2 n:Int)
 |0=>by rw[show((0:Nat):Int)=0 from rfl,Int.zero_mul];rfl
 |m+1=>by
  have e:∀(r:List Int)(R:List (List Int)),iJ (r::R)=dR r+iJ R:=fun r R=>by unfold iJ;rw[map_cons,sum_cons]
  rw[replicate_succ,map_cons,e]
  show((dR (upTo n).reverse+iJ _:Nat):Int)=_
  rw[hc,Int.natCast_add,wD hc m,Int.natCast_add,Int.add_mul]
  omega
theorem G4{n:Nat}(hn:n<8):dR (upTo n).reverse=T2 n:=by
 have:=Ce (lY n)
 rw[JC n hn]at this
 omega
structure FmS(n:Nat)(w:List Int)(h:Int)(R:List RP):Prop where
 ln:Au n R
 nh:∀x∈R,x≠mw n
 or:sX (gw h (upTo n)) (R.map (·.1))=jH (w.map oA) (upTo n)
 cr:h*(T2 n:Int)+(iJ (R.map (·.1)):Int)=o9 w
 bd: -(w.length:Int)<=h/\h<=w.length
 le:R.length<=40
theorem y9.app:∀{A B:List RP},y9 (A++B)->y9 A
 |[],B,_=>trivial
 |[p],B,_=>trivial
 |q::p::A,B,h=>⟨h.1,y9.app (A:=p::A) h.2⟩
theorem JO{n:Nat}(h1:1<=n)(hn:n<=7){w:List Int}(hw:∀k∈w,rO n k)(hl:w.length<=40):∃h R,uD [.int n,.lst (aA w)]=.ok (.tup [.int h,.lst (R.map fun p=>.lst (aA p.1))])/\FmS n w h R:=by
 obtain⟨qs,e1,e2,e3,e7,e8⟩:=G0 hn hw hl
 have hq2:∀q∈qs,bw n q.2:=fun q hq=>(e3 q hq).2
 have e4:=JN hn hq2 (by omega)
 have e5:=rD n qs
 have e6:=wy qs hq2
 have l0:Au n []:=⟨(fun x hx=>nomatch hx),trivial,(fun x hx=>nomatch hx)⟩
 have hL:Au n (fZ n (dm n qs)):=BO hn (lY n) (dm n qs) [] e6 l0
 obtain⟨p1,p2⟩:=zt hn (dm n qs) [] e6 l0
 have hcl:=p9 n (dm n qs) []
 rw[length_nil]at hcl
 have JB:(fZ n (dm n qs)).length<=qs.length:=by
  show((dm n qs).foldl (fun R r=>fY n R (r,uC r)) []).length<=qs.length
  omega
 have Zn:∀o:List Int,o.length=n->sX o ((fZ n (dm n qs)).map (·.1))=sX o (dm n qs):=p1
 have Xu:iJ ((fZ n (dm n qs)).map (·.1))=iJ (dm n qs):=by
  have:iJ ((fZ n (dm n qs)).map (·.1))=0+iJ (dm n qs):=p2
  omega
 have hsb: -(qs.length:Int)<=hS qs/\hS qs<=0:=by
  clear e1 e4 e5 e6 hL p1 p2 hcl JB Zn Xu e7 e8 e2 hq2
  induction qs with
  |nil=>exact⟨Int.le_refl _,Int.le_refl _⟩
  |cons q qs ih=>
   have:=ih fun x hx=>e3 x (by simp[hx])
   have:=(e3 q (by simp)).1
   rw[show hS (q::qs)=q.1+hS qs from rfl,length_cons]
   omega
 generalize hR:fZ n (dm n qs)=C at*
 have hcn:kg n C<=C.length:=List.Sublist.length_le (List.takeWhile_sublist _)
 have wM:=za (n:=n) C
 have hrest:=C5 (G2 n) hL
 refine⟨kg n C+hS qs,C.drop (kg n C),?_,⟨⟨fun x hx=>hL.iv x (List.mem_of_mem_drop hx),?_,fun x hx=>hL.ns x (List.mem_of_mem_drop hx)⟩,hrest,?_,?_,by omega,by rw[length_drop];omega⟩⟩
 ·unfold uD Gm
  simp -implicitDefEqProofs only [mS,mD,mF,fg,aH,reduceAdd,reduceSub,reduceEqDiff,reduceIte,ai,aj,aL,aM,aN,aO,e1]
  have e9:cU [.int n,.lst (qs.map zD)]=R.ne (R.bind (BV [.val (.int n),.val (.lst (qs.map zD)),.no,.no,.val (rT n C)]) ai):=by
   show R.ne (R.bind (aS [.lst (qs.map zD)]) _)=_
   rw[e4,R.bF]
   refine congrArg R.ne ((if_pos ⟨⟨by omega,by omega⟩,by omega,e6⟩).trans ?_)
   rw[toNat_natCast,hR]
  rw[e9]
  unfold BV rT
  have a0:∀(x y:D),iT [x,y] 0=some x:=fun _ _=>rfl
  have a1:∀(x y:D),iT [x,y] 1=some y:=fun _ _=>rfl
  simp -implicitDefEqProofs only [reduceIte,ai,aj,aL,aM,aN,aO,a0,a1,cR,G1,R.gF]
  rw[b9 (by rw[length_map];omega)]
  simp -implicitDefEqProofs only [reduceIte,ai,aj,aL,aM,aN,aO,mR,o6,map_some]
 ·have:=hL.lw
  rw[wM,List.reverse_append]at this
  exact this.app
 ·have h2:=Zn (gw (hS qs) (upTo n)) (by rw[uR,ar])
  rw[wz qs (upTo n) hq2 (ar n),e7 _ (ar n)]at h2
  rw[<-h2]
  conv=>rhs;rw[wM]
  rw[map_append,lE,wC _ _ (by rw[uR,ar]),zu]
 ·rw[wA qs hq2]at Xu
  have h3:iJ (C.map (·.1))=iJ ((replicate (kg n C) (mw n)).map (·.1))+iJ ((C.drop (kg n C)).map (·.1)):=by
   conv=>lhs;rw[wM]
   rw[map_append,qb]
  have h4:=wD (G4 (show n<8 by omega)) (kg n C)
  rw[<-e8,<-Xu,h3,Int.natCast_add,h4,Int.add_mul]
  omega
theorem qv{b:D->DE->R Out}{x:D}{xs:List D}{e e':DE}(h:b x e=.ok (.nx e')):dO b (x::xs) e=dO b xs e':=by
 conv=>lhs;unfold dO
 rw[h]
 rfl
theorem SQ{n:Nat}(s0 s1 s3 s4:Sl){o:List Int}(hlo:o.length=n)(hn:n<=7){k:Int}(hk:rO n k):∃OY JP,eJ (.int k) [s0,s1,.val (.lst (aA o)),s3,s4]=.ok (.nx [s0,s1,.val (.lst (aA (fJ o (oA k-1).toNat))),OY,JP]):=by
 obtain⟨a,ha,h2⟩:=GV hk
 have hab:(if k<0 then-k else k)=(a:Int)+1:=ha
 unfold eJ
 simp -implicitDefEqProofs only [dQ,mS,mD,mF,fg,aH,reduceAdd,reduceSub,reduceEqDiff,reduceIte,ai,aj,aL,aM,aN,aO,hab]
 rw[cg (by omega) (by omega),cg (by omega) (by omega),lj,lj,ui _ _ (by omega),yF _ _ (by omega)]
 simp -implicitDefEqProofs only [reduceIte,ai,aj,aL,aM,aN,aO]
 rw[show((a:Int)+1-1).toNat=a by omega,show((a:Int)+1).toNat=a+1 by omega,show((a:Int)+1+1).toNat=a+2 by omega,show[D.int (aa o (a+1)),D.int (aa o a)]=aA [aa o (a+1),aa o a]from rfl,pQ,b9 (by rw[length_append,length_take];simp;omega)]
 simp -implicitDefEqProofs only [reduceIte,ai,aj,aL,aM,aN,aO]
 rw[pQ,b9 (by rw[length_append,length_append,length_take,length_drop];simp;omega),xr o a (by omega)]
 simp -implicitDefEqProofs only [reduceIte,ai,aj,aL,aM,aN,aO]
 exact⟨_,_,rfl⟩
theorem Cm{n:Nat}(s0 s1:Sl)(hn:n<=7):∀(w o:List Int)(s3 s4:Sl),(∀k∈w,rO n k)->o.length=n->∃OY JP,dO eJ (aA w) [s0,s1,.val (.lst (aA o)),s3,s4]=.ok (.nx [s0,s1,.val (.lst (aA (jH (w.map oA) o))),OY,JP])
 |[],o,s3,s4,_,_=>⟨s3,s4,rfl⟩
 |k::w,o,s3,s4,hw,ho=>by
  obtain⟨u3,u4,e⟩:=SQ s0 s1 s3 s4 ho hn (hw k (by simp))
  obtain⟨v3,v4,e2⟩:=Cm s0 s1 hn w (fJ o (oA k-1).toNat) u3 u4 (fun x hx=>hw x (by simp[hx])) (by rw[fX];exact ho)
  exact⟨v3,v4,by rw[<-mQ,qv e];exact e2⟩
theorem wF{n:Nat}(hn:n<=7){w:List Int}(hw:∀k∈w,rO n k):fW [.int n,.lst (aA w)]=.ok (.lst (aA (jH (w.map oA) (upTo n)))):=by
 unfold fW pW
 simp -implicitDefEqProofs only [mS,mD,mF,fg,aH,reduceAdd,reduceSub,reduceEqDiff,reduceIte,ai,aj,aL,aM,aN,aO]
 rw[nS _ (by omega),toNat_natCast,kJ]
 simp -implicitDefEqProofs only [reduceIte,ai,aj,aL,aM,aN,aO]
 obtain⟨s3,s4,e⟩:=Cm (.val (.int n)) (.val (.lst (aA w))) hn w (upTo n) .no .no hw (ar n)
 rw[e]
 simp -implicitDefEqProofs only [reduceIte,ai,aj,aL,aM,aN,aO]
theorem SR(n:Nat)(f:Nat->Nat):((range n).map fun i=>((f i:Nat):Int)).sum=((S n f:Nat):Int):=by
 induction n with
 |zero=>rfl
 |succ n ih=>
  rw[gH,range_succ,map_append,sum_append,ih]
  simp
theorem AJ{l:List Int}(hl:l.length<=7):dD [.lst (aA l)]=.ok (.int (dR l:Nat)):=by
 unfold dD m7
 simp -implicitDefEqProofs only [mS,mD,mF,fg,aH,reduceAdd,reduceSub,reduceEqDiff,reduceIte,ai,aj,aL,aM,aN,aO,bg]
 rw[M8 _ (by omega),toNat_natCast,kJ]
 simp -implicitDefEqProofs only [reduceIte,ai,aj,aL,aM,aN,aO,cR]
 rw[gG (fun k=>((uz (aa l k.toNat) (l.take k.toNat):Nat):Int)) (upTo l.length) fun k hk=>by
  rw[mem_upTo]at hk
  refine⟨_,dQ _ _ _,rfl,?_⟩
  unfold jU dX
  simp -implicitDefEqProofs only [reduceIte,ai,aj,aL,aM,aN,aO,lj]
  rw[ui _ _ hk.1]
  simp -implicitDefEqProofs only [reduceIte,ai,aj,aL,aM,aN,aO,cR]
  rw[lC (fun s=>decide (aa l k.toNat<s)) _ fun s _=>⟨_,dQ _ _ _,by
   unfold jS
   simp -implicitDefEqProofs only [reduceIte,ai,aj,aL,aM,aN,aO]
   rw[cg hk.1 hk.2]
   simp -implicitDefEqProofs only [reduceIte,ai,aj,aL,aM,aN,aO],by
   unfold jT
   simp -implicitDefEqProofs only [reduceIte,ai,aj,aL,aM,aN,aO]⟩]
  simp -implicitDefEqProofs only [reduceIte,ai,aj,aL,aM,aN,aO,R.gF]
  have h1:=List.length_filter_le (fun s=>decide (aa l k.toNat<s)) (l.take k.toNat)
  rw[length_take]at h1
  rw[b9 (by omega)]
  simp -implicitDefEqProofs only [reduceIte,ai,aj,aL,aM,aN,aO,bg]
  rfl]
 simp -implicitDefEqProofs only [reduceIte,ai,aj,aL,aM,aN,aO,R.gF]
 rw[b9 (by rw[length_map,ar];omega)]
 simp -implicitDefEqProofs only [reduceIte,ai,aj,aL,aM,aN,aO]
 unfold mR
 rw[o6]
 have e:((upTo l.length).map fun k=>((uz (aa l k.toNat) (l.take k.toNat):Nat):Int)).sum=((dR l:Nat):Int):=by
  unfold dR
  rw[FQ,<-SR]
  unfold upTo
  rw[map_map]
  congr 1
 simp -implicitDefEqProofs only [map_some,reduceIte,ai,aj,aL,aM,aN,aO,e]
theorem G5(cells:List Int)(hc:cells.length<=63):∃t:List Int,t.length<=63/\bu (bT 2 (jP (bN 0) (jP (bN 1) xm))) nc jo (dX 2 []) (dB (aA cells))=.ok (aA t):=by
 refine⟨(dB (aA cells)).map fun d=>match d with|.tup [.int k,.int c]=>Aj c k 16807|_=>0,by rw[length_map];unfold dB;rw[length_map,length_zipIdx,bg];exact hc,?_⟩
 rw[nT (fun d=>.int (match d with|.tup [.int k,.int c]=>Aj c k 16807|_=>0)) _ fun x hx=>by
  obtain⟨i,hi,e⟩:=getElem_of_mem hx
  obtain⟨y,hy,rfl⟩:=qP (i:=i) (d:=x) (by rw[getElem?_eq_getElem hi,e])
  have hz:(aA cells)[i]?=(cells[i]?).map D.int:=by unfold aA;rw[getElem?_map]
  have hi2:i<cells.length:=by
   have:(dB (aA cells)).length=cells.length:=by unfold dB;rw[length_map,length_zipIdx,bg]
   omega
  rw[hz,getElem?_eq_getElem hi2]at hy
  obtain rfl:=Option.some.inj hy
  refine⟨_,rfl,rfl,?_⟩
  unfold jo dX
  simp -implicitDefEqProofs only [mS,mD,mF,fg,aH,reduceAdd,reduceSub,reduceEqDiff,reduceIte,ai,aj,aL,aM,aN,aO,List.append_eq]
  exact Fw _ _ _ (by omega) (by decide)]
 unfold aA
 rw[map_map]
 rfl
theorem JQ{cells:List Int}{n:Int}(hc:cells.length<=63)(hn:1<=n):∃w:List Int,ig [.lst (aA cells),.int n,.int 24]=.ok (.lst (aA w))/\(∀k∈w,rO n k)/\w.length<=24:=by
 unfold ig rQ
 simp -implicitDefEqProofs only [mS,mD,mF,fg,aH,reduceAdd,reduceSub,reduceEqDiff,reduceIte,ai,aj,aL,aM,aN,aO]
 rw[lj,ui _ _ (by decide),FH _ _ _ (by rw[length_take];omega) (by omega) (by decide)]
 simp -implicitDefEqProofs only [reduceIte,ai,aj,aL,aM,aN,aO,bg]
 generalize hw:xq (cells.take (63:Int).toNat) n 189=w
 have hx:∀k∈w,rO n k:=hw▸FG
 by_cases h:(w.length:Int)<=24
 ·refine⟨w,?_,hx,by omega⟩
  simp -implicitDefEqProofs only [reduceIte,ai,aj,aL,aM,aN,aO,h,decide_true]
 ·obtain⟨t,ht,e⟩:=G5 cells hc
  simp -implicitDefEqProofs only [reduceIte,ai,aj,aL,aM,aN,aO,h,decide_false,cR,e,R.gF]
  rw[b9 (by omega)]
  simp -implicitDefEqProofs only [reduceIte,ai,aj,aL,aM,aN,aO,mR,o6,map_some,bg]
  rw[iH _ _ (by omega)]
  simp -implicitDefEqProofs only [reduceIte,ai,aj,aL,aM,aN,aO]
  have m0:=emod_nonneg t.sum (show(w.length:Int)-24+1≠0 by omega)
  have m1:=emod_lt_of_pos t.sum (show(0:Int)<(w.length:Int)-24+1 by omega)
  generalize t.sum%((w.length:Int)-24+1)=a at m0 m1
  rw[lj]
  refine⟨_,rfl,fun k hk=>hx k ?_,?_⟩
  ·unfold cut at hk
   exact List.mem_of_mem_drop (mem_of_mem_take hk)
  ·unfold cut
   rw[kW _ _ _ m0,kW _ _ _ (by omega),length_take]
   omega
theorem JR(ns:List Int)(k:Nat):cH [.lst (aA ns),.int k]=.ok (.int (aa ns k)):=by
 unfold cH mZ aa
 simp -implicitDefEqProofs only [mS,mD,mF,fg,aH,reduceAdd,reduceSub,reduceEqDiff,reduceIte,ai,aj,aL,aM,aN,aO,bg]
 by_cases h:(k:Int)<ns.length
 ·have hk:k<ns.length:=by omega
  simp -implicitDefEqProofs only [reduceIte,ai,aj,aL,aM,aN,aO,h,decide_true]
  rw[cg (by omega) h]
  simp -implicitDefEqProofs only [reduceIte,ai,aj,aL,aM,aN,aO,toNat_natCast]
  unfold aa
  rfl
 ·simp -implicitDefEqProofs only [reduceIte,ai,aj,aL,aM,aN,aO,h,decide_false]
  rw[getElem?_eq_none (by omega)]
  rfl
theorem Dk(r:List Int)(h:r.length<64):yH (aA r)=.ok (aA (sortI r)):=by
 unfold yH
 rw[o6]
 exact if_pos h
theorem G6{n:Nat}(hn:n<=7):yK [.int n]=.ok (aA (upTo n).reverse):=by
 refine(if_pos ⟨by omega,by omega⟩).trans (congrArg R.ok ?_)
 rw[toNat_natCast]
 have hc:n=0\/n=1\/n=2\/n=3\/n=4\/n=5\/n=6\/n=7:=by omega
 rcases hc with rfl|rfl|rfl|rfl|rfl|rfl|rfl|rfl<;>rfl
def oQ:List RP->D
 |[]=>.non
 |p::_=>.lst (aA p.1)
theorem JS(xs:List D):yz (.lst xs) .non=some (.bl true):=rfl
theorem SS{n:Nat}(hn:n<=7)(s0 s1:Sl){A:List RP}{q:RP}(hA:∀p∈A,Iv n p.1 p.2)(iq:Iv n q.1 q.2)(hf:∀p B,A=p::B->mr p q=[]){j:Nat}(hj:j+1<n)(s4:Sl):
  dg (.int ((j:Int)+1)) [s0,s1,.val (oQ A),.val (.lst (aA q.1)),s4]=.ok (.nx [s0,s1,.val (oQ A),.val (.lst (aA q.1)),.val (.int ((j:Int)+1))]):=by
 unfold dg
 cases A with
 |nil=>
  unfold oQ
  simp -implicitDefEqProofs only [dQ,mS,mD,mF,fg,aH,reduceAdd,reduceSub,reduceEqDiff,reduceIte,ai,aj,aL,aM,aN,aO,IL]
 |cons p B=>
  have ip:=hA p (by simp)
  have h:=(kL ip iq).mp (hf p B rfl) j hj
  have e1:mU (aA q.1) (.int ((j:Int)+1-1))=.ok (.int (aa q.2 j)):=by rw[show(j:Int)+1-1=((j:Nat):Int)by omega];exact yW iq (by omega)
  have e2:mU (aA q.1) (.int ((j:Int)+1))=.ok (.int (aa q.2 (j+1))):=by have:=yW iq hj;rw[<-this];congr 2
  unfold oQ
  simp -implicitDefEqProofs only [dQ,reduceIte,ai,aj,aL,aM,aN,aO,JS,e1,e2]
  by_cases c:aa q.2 j>aa q.2 (j+1)
  ·have h2:=h c
   simp -implicitDefEqProofs only [reduceIte,ai,aj,aL,aM,aN,aO,c,decide_true]
   have lp:=ip.lr
   rw[cg (by omega) (by omega),cg (by omega) (by omega)]
   simp -implicitDefEqProofs only [reduceIte,ai,aj,aL,aM,aN,aO]
   rw[show((j:Int)+1-1).toNat=j by omega,show((j:Int)+1).toNat=j+1 by omega,decide_eq_false (by omega)]
   simp -implicitDefEqProofs only [reduceIte,ai,aj,aL,aM,aN,aO]
  ·simp -implicitDefEqProofs only [reduceIte,ai,aj,aL,aM,aN,aO,c,decide_false]
theorem LJ{n:Nat}(hn:n<=7)(s0 s1:Sl){A:List RP}{q:RP}(hA:∀p∈A,Iv n p.1 p.2)(iq:Iv n q.1 q.2)(hf:∀p B,A=p::B->mr p q=[]):∀(m j:Nat)(s4:Sl),j+1+m<=n->∃JP,dO dg (mh ((j:Int)+1) m) [s0,s1,.val (oQ A),.val (.lst (aA q.1)),s4]=.ok (.nx [s0,s1,.val (oQ A),.val (.lst (aA q.1)),JP])
 |0,j,s4,_=>⟨s4,by rw[show mh ((j:Int)+1) 0=[]from rfl];rfl⟩
 |m+1,j,s4,h=>by
  obtain⟨s,e⟩:=LJ hn s0 s1 hA iq hf m (j+1) (.val (.int ((j:Int)+1))) (by omega)
  refine⟨s,?_⟩
  have er:mh ((j:Int)+1) (m+1)=.int ((j:Int)+1)::mh (((j+1:Nat):Int)+1) m:=by
   rw[sP,sP,List.range_succ_eq_map,map_cons,map_map,<-mQ]
   congr 1
   congr 1
   apply map_congr_left
   intro x _
   simp -implicitDefEqProofs only [Function.comp]
   omega
  rw[er,qv (SS hn s0 s1 hA iq hf (by omega) s4)]
  exact e
theorem SV{n:Nat}(h1:1<=n)(hn:n<=7)(s0 s4:Sl){A:List RP}{q:RP}(hA:∀p∈A,Iv n p.1 p.2)(iq:Iv n q.1 q.2)(hs:Li n q)(hh:q≠mw n)(hf:∀p B,A=p::B->mr p q=[])(s3:Sl):
  ∃JP,dh (.lst (aA q.1)) [s0,.val (.int n),.val (oQ A),s3,s4]=.ok (.nx [s0,.val (.int n),.val (oQ (q::A)),.val (.lst (aA q.1)),JP]):=by
 have hi:Iv n (upTo n) (upTo n):=lY n
 have lq:=iq.lr
 have n1:q.1≠upTo n:=fun e=>by
  have i2:=iq
  rw[e]at i2
  exact OA hs (Prod.ext e (i2.symm.uniq hi.symm))
 have n2:q.1≠(upTo n).reverse:=fun e=>by
  have i2:=iq
  rw[e]at i2
  exact hh (Prod.ext e (i2.symm.uniq (G2 n).symm))
 unfold dh
 simp -implicitDefEqProofs only [dQ,mS,mD,mF,fg,aH,reduceAdd,reduceSub,reduceEqDiff,reduceIte,ai,aj,aL,aM,aN,aO,cR]
 rw[lC (fun _=>false) q.1 fun s _=>⟨_,dQ _ _ _,rfl,rfl⟩]
 have ef:q.1.filter (fun _=>false)=[]:=List.filter_eq_nil_iff.mpr fun _ _=>by simp
 have t1:∀xs:List D,jk (xg (.lst xs)) "list"=true:=fun _=>rfl
 rw[ef]
 simp -implicitDefEqProofs only [reduceIte,ai,aj,aL,aM,aN,aO,R.gF,t1,Bool.not_true]
 rw[b9 (by decide),show(D.lst [])=.lst (aA [])from rfl]
 simp -implicitDefEqProofs only [reduceIte,ai,aj,aL,aM,aN,aO,ET,decide_true,Bool.not_true]
 rw[Dk _ (by omega),FN (xM iq),nS _ (by omega),toNat_natCast,kJ,G6 hn]
 simp -implicitDefEqProofs only [reduceIte,ai,aj,aL,aM,aN,aO,ET,ES,decide_true,Bool.not_true,decide_eq_false n1,decide_eq_false n2]
 rw[ER _ _ (by omega)]
 obtain⟨s,e⟩:=LJ hn s0 (.val (.int n)) hA iq hf (n-1) 0 s4 (by omega)
 rw[show((n:Int)-1).toNat=n-1 by omega,show(1:Int)=((0:Nat):Int)+1 from rfl]
 simp -implicitDefEqProofs only [reduceIte,ai,aj,aL,aM,aN,aO,e]
 exact⟨_,rfl⟩
theorem G7{n:Nat}(h1:1<=n)(hn:n<=7)(s0:Sl){R:List RP}(hL:Au n R)(hh:∀x∈R,x≠mw n):∀(B A:List RP)(s3 s4:Sl),R=A.reverse++B->∃Xr OY JP,dO dh (B.map fun p=>.lst (aA p.1)) [s0,.val (.int n),.val (oQ A),s3,s4]=.ok (.nx [s0,.val (.int n),Xr,OY,JP])
 |[],A,s3,s4,_=>⟨_,s3,s4,rfl⟩
 |q::B,A,s3,s4,e=>by
  have mq:q∈R:=by rw[e];simp
  obtain⟨u4,e1⟩:=SV h1 hn s0 s4 (A:=A) (fun p hp=>hL.iv p (by rw[e];simp[hp])) (hL.iv q mq) (hL.ns q mq) (hh q mq) (fun p C ec=>hL.nb (A:=C.reverse) (B:=B) (by rw[e,ec];simp)) s3
  obtain⟨a,b,c,e2⟩:=G7 h1 hn s0 hL hh B (q::A) (.val (.lst (aA q.1))) u4 (by rw[e];simp)
  exact⟨a,b,c,by rw[map_cons,qv e1];exact e2⟩
theorem AK{n:Nat}(h1:1<=n)(hn:n<=7){Z:List RP}{h:Int}(hL:Au n Z)(hh:∀x∈Z,x≠mw n)(h0:n=1->h=0):dE [.tup [.int h,.lst (Z.map fun p=>.lst (aA p.1))],.int n]=.ok (.bl true):=by
 unfold dE m8
 have a0:∀(x y:D),iT [x,y] 0=some x:=fun _ _=>rfl
 have a1:∀(x y:D),iT [x,y] 1=some y:=fun _ _=>rfl
 have t1:∀xs:List D,jk (xg (.lst xs)) "list"=true:=fun _=>rfl
 have t2:∀xs:List D,jk (xg (.tup xs)) "tuple"=true:=fun _=>rfl
 have t3:∀i:Int,jk (xg (.int i)) "int"=true:=fun _=>rfl
 have t4:∀i:Int,jk (xg (.int i)) "bool"=false:=fun _=>rfl
 simp -implicitDefEqProofs only [mS,mD,mF,fg,aH,reduceAdd,reduceSub,reduceEqDiff,reduceIte,ai,aj,aL,aM,aN,aO,t1,t2,Bool.not_true,a0,a1,t3,t4]
 have b2:((2:Int)==2)=true:=rfl
 have b3:(((2:Nat):Int)==2)=true:=rfl
 simp -implicitDefEqProofs only [reduceIte,ai,aj,aL,aM,aN,aO,b2,b3,Bool.not_true,a0,a1,t3,t4]
 obtain⟨s2,s3,s4,e⟩:=G7 h1 hn (.val (.tup [.int h,.lst (Z.map fun p=>.lst (aA p.1))])) hL hh Z [] .no .no rfl
 unfold oQ at e
 by_cases c:n=1
 ·obtain rfl:=h0 c
  subst c
  simp -implicitDefEqProofs only [reduceIte,ai,aj,aL,aM,aN,aO,show(((1:Nat):Int)==1)=true from rfl,show((0:Int)==0)=true from rfl,Bool.not_true,a1,e]
 ·have c2:((n:Int)==1)=false:=beq_eq_false_iff_ne.mpr (by omega)
  simp -implicitDefEqProofs only [reduceIte,ai,aj,aL,aM,aN,aO,c2,a1,e]
theorem G8{o r:List Int}{n:Nat}(ho:o.length=n)(hr:bw n r):bu (bN 0) zb uE (dX 1 [.lst (aA o)]) (aA r)=.ok (aA (cmp o r)):=gG (fun s=>aa o s.toNat) r fun s hs=>by
 have h:=hr.mem.mp hs
 refine⟨_,dQ _ _ _,rfl,?_⟩
 unfold uE dX
 simp -implicitDefEqProofs only [mS,mD,mF,fg,aH,reduceAdd,reduceSub,reduceEqDiff,reduceIte,ai,aj,aL,aM,aN,aO]
 rw[cg h.1 (by omega)]
 simp -implicitDefEqProofs only [reduceIte,ai,aj,aL,aM,aN,aO]
theorem O5{n:Nat}(hn:n<=7)(s0 s1 s2 s3 s4 s7:Sl){o r:List Int}(ho:o.length=n)(hr:bw n r)(m:Int):
  kN (.lst (aA r)) [s0,s1,s2,s3,s4,.val (.lst (aA o)),.val (.int m),s7]=.ok (.nx [s0,s1,s2,s3,s4,.val (.lst (aA (cmp o r))),.val (.int (m+(dR r:Nat))),.val (.lst (aA r))]):=by
 have hl:=hr.len
 unfold kN
 simp -implicitDefEqProofs only [dQ,mS,mD,mF,fg,aH,reduceAdd,reduceSub,reduceEqDiff,reduceIte,ai,aj,aL,aM,aN,aO,cR,G8 ho hr,R.gF]
 rw[b9 (by rw[cP];omega)]
 simp -implicitDefEqProofs only [reduceIte,ai,aj,aL,aM,aN,aO,AJ (show r.length<=7 by omega)]
theorem zw{n:Nat}(hn:n<=7)(s0 s1 s2 s3 s4:Sl):∀(Z:List RP)(o:List Int)(m:Int)(s7:Sl),(∀p∈Z,Iv n p.1 p.2)->o.length=n->∃Xv,dO kN (Z.map fun p=>.lst (aA p.1)) [s0,s1,s2,s3,s4,.val (.lst (aA o)),.val (.int m),s7]=.ok (.nx [s0,s1,s2,s3,s4,.val (.lst (aA (sX o (Z.map (·.1))))),.val (.int (m+(iJ (Z.map (·.1)):Nat))),Xv])
 |[],o,m,s7,_,_=>⟨s7,by simp -implicitDefEqProofs only [map_nil,sX,iJ,List.foldl_nil,List.sum_nil];rw[show m+((0:Nat):Int)=m by omega];rfl⟩
 |p::Z,o,m,s7,h,ho=>by
  have ip:=h p (by simp)
  obtain⟨u,e⟩:=zw hn s0 s1 s2 s3 s4 Z (cmp o p.1) (m+(dR p.1:Nat)) (.val (.lst (aA p.1))) (fun x hx=>h x (by simp[hx])) (by rw[cP];exact ip.lr)
  refine⟨u,?_⟩
  rw[map_cons,qv (O5 hn s0 s1 s2 s3 s4 s7 ho (xM ip) m),e]
  simp -implicitDefEqProofs only [map_cons,sX,iJ,foldl_cons,sum_cons]
  rw[show m+((dR p.1:Nat):Int)+((map dR (Z.map (·.1))).sum:Nat)=m+((dR p.1+(map dR (Z.map (·.1))).sum:Nat):Int)by omega]
theorem Cn(w:List Int):bu (bN 0) zc uF (dX 1 []) (aA w)=.ok (aA (w.map Cf)):=gG Cf w fun k _=>by
 refine⟨_,dQ _ _ _,rfl,?_⟩
 unfold uF dX Cf
 simp -implicitDefEqProofs only [mS,mD,mF,fg,aH,reduceAdd,reduceSub,reduceEqDiff,reduceIte,ai,aj,aL,aM,aN,aO]
 by_cases h:k>0
 ·have h2:0<k:=h
  simp -implicitDefEqProofs only [reduceIte,ai,aj,aL,aM,aN,aO,h,h2,decide_true]
 ·have h2:¬0<k:=h
  simp -implicitDefEqProofs only [reduceIte,ai,aj,aL,aM,aN,aO,h,h2,decide_false]
theorem SW(ns:List Int)(hl:ns.length<=63):uG [.lst (aA ns)]=.ok (.bl true):=by
 unfold uG Lj
 simp -implicitDefEqProofs only [mS,mD,mF,fg,aH,reduceAdd,reduceSub,reduceEqDiff,reduceIte,ai,aj,aL,aM,aN,aO,EJ]
 rw[show cH [.lst (aA ns),.int 0]=.ok (.int (aa ns 0))from JR ns 0]
 simp -implicitDefEqProofs only [reduceIte,ai,aj,aL,aM,aN,aO]
 rw[iH _ _ (by decide)]
 simp -implicitDefEqProofs only [reduceIte,ai,aj,aL,aM,aN,aO,Ak]
 generalize aa ns 0%1000000000=sd
 obtain⟨n1,n7⟩:=yL sd
 generalize kD sd=n0 at n1 n7
 obtain⟨n,rfl⟩:∃n:Nat,n0=n:=⟨n0.toNat,by omega⟩
 obtain⟨w,ew,hx,hw⟩:=JQ (cells:=ns) (n:=n) hl (by omega)
 obtain⟨h,Z,ef,F⟩:=JO (n:=n) (by omega) (by omega) hx (by omega)
 have hb:=F.bd
 have h0:n=1->h=0:=fun e=>by
  subst e
  cases w with
  |nil=>simp -implicitDefEqProofs only [length_nil]at hb;omega
  |cons k w=>have:=hx k (by simp);unfold rO at this;omega
 have a0:∀(x y:D),iT [x,y] 0=some x:=fun _ _=>rfl
 have a1:∀(x y:D),iT [x,y] 1=some y:=fun _ _=>rfl
 simp -implicitDefEqProofs only [reduceIte,ai,aj,aL,aM,aN,aO,ew,ef,ET,decide_true,Bool.not_true,AK (show 1<=n by omega) (show n<=7 by omega) F.ln F.nh h0,a0,a1]
 rw[nS _ (by omega),toNat_natCast,kJ]
 simp -implicitDefEqProofs only [reduceIte,ai,aj,aL,aM,aN,aO]
 rw[ug (n:Int) _ (by omega)]
 simp -implicitDefEqProofs only [reduceIte,ai,aj,aL,aM,aN,aO]
 rw[qR _ _ (by decide)]
 simp -implicitDefEqProofs only [reduceIte,ai,aj,aL,aM,aN,aO,a0]
 rw[ug h _ (by omega)]
 simp -implicitDefEqProofs only [reduceIte,ai,aj,aL,aM,aN,aO,a0,a1]
 rw[iH _ _ (by decide)]
 have hm:(n:Int)*((n:Int)-1)/2=(T2 n:Nat):=(JH ⟨by omega,by omega⟩).symm
 have hT:∀s7,∃Xv,dO kN (Z.map fun p=>.lst (aA p.1)) [.val (.lst (aA ns)),.val (.int n),.val (.lst (aA w)),.val (.lst (aA w)),.val (.tup [.int h,.lst (Z.map fun p=>.lst (aA p.1))]),.val (.lst (aA (gw h (upTo n)))),.val (.int (h*(T2 n:Nat))),s7]=.ok (.nx [.val (.lst (aA ns)),.val (.int n),.val (.lst (aA w)),.val (.lst (aA w)),.val (.tup [.int h,.lst (Z.map fun p=>.lst (aA p.1))]),.val (.lst (aA (jH (w.map oA) (upTo n)))),.val (.int (o9 w)),Xv]):=fun s7=>by
  obtain⟨u,e⟩:=zw (show n<=7 by omega) (.val (.lst (aA ns))) (.val (.int n)) (.val (.lst (aA w))) (.val (.lst (aA w))) (.val (.tup [.int h,.lst (Z.map fun p=>.lst (aA p.1))])) Z (gw h (upTo n)) (h*(T2 n:Nat)) s7 F.ln.iv (by rw[uR,ar])
  refine⟨u,?_⟩
  rw[e,F.or,F.cr]
 obtain⟨s7,eT⟩:=hT .no
 have er:(aA (upTo n)).reverse=aA (upTo n).reverse:=by unfold aA;rw[map_reverse]
 have hfin:∀x:Sl,x=.val (.lst (aA (gw h (upTo n))))->dO kN (Z.map fun p=>.lst (aA p.1)) [.val (.lst (aA ns)),.val (.int n),.val (.lst (aA w)),.val (.lst (aA w)),.val (.tup [.int h,.lst (Z.map fun p=>.lst (aA p.1))]),x,.val (.int (h*((n:Int)*((n:Int)-1)/2))),.no]=.ok (.nx [.val (.lst (aA ns)),.val (.int n),.val (.lst (aA w)),.val (.lst (aA w)),.val (.tup [.int h,.lst (Z.map fun p=>.lst (aA p.1))]),.val (.lst (aA (jH (w.map oA) (upTo n)))),.val (.int (o9 w)),s7]):=fun x hx=>by
  rw[hx,hm]
  exact eT
 have SX:mR (aA (w.map Cf))=some (.int (o9 w)):=by
  unfold mR o9
  rw[o6]
  rfl
 by_cases hp:h%2=1
 ·have b1:(h%2==1)=true:=beq_iff_eq.mpr hp
  simp -implicitDefEqProofs only [reduceIte,ai,aj,aL,aM,aN,aO,b1,er,a1,hfin _ (show Sl.val (.lst (aA (upTo n).reverse))=.val (.lst (aA (gw h (upTo n))))by unfold gw;rw[if_neg (by omega)]),wF (show n<=7 by omega) hx,ES,decide_true,cR,Cn,R.gF]
  rw[b9 (by rw[length_map];omega)]
  simp -implicitDefEqProofs only [reduceIte,ai,aj,aL,aM,aN,aO,SX,beq_self_eq_true]
 ·have b1:(h%2==1)=false:=beq_eq_false_iff_ne.mpr hp
  simp -implicitDefEqProofs only [reduceIte,ai,aj,aL,aM,aN,aO,b1,a1,hfin _ (show Sl.val (.lst (aA (upTo n)))=.val (.lst (aA (gw h (upTo n))))by unfold gw;rw[if_pos (by omega)]),wF (show n<=7 by omega) hx,ES,decide_true,cR,Cn,R.gF]
  rw[b9 (by rw[length_map];omega)]
  simp -implicitDefEqProofs only [reduceIte,ai,aj,aL,aM,aN,aO,SX,beq_self_eq_true]
theorem O6{K:PySem.W.Frag}{H:Hp}{a:Addr}(ns:List Int)(hl:ns.length<=63)(hS:b7 K H a (ns.map V.int)):Bc K Dy uG [.ref a] H (fun v _=>v=.bl true) fun _ _ _=>False:=RD (SW ns hl) hS
end DL
namespace DL.nq
open PySem PySem.Spec PyProof.Rows L2 DL
section
variable{P:Program}{w:World}{K:PySem.W.Frag}{mg:Str->Option Value}{base:Heap}(t:Tb K mg)
theorem Dl:mj P w K mg base 1 t.qe t.qg ["word"] mY:=by
 have h:=pP (P:=P) (w:=w) (base:=base) (k:=0) Aw t.uM fun cdv A outer s H E hr=>
  (bc (lT (mK (Dz (N:=["k"]) (nt:=1) (caps:=[]) (ae rn) ["word"] (by decide +kernel)) rfl (tW (iV t.gO (nD 0))) (Kp.ok (qU (nt:=1) 0)) (fun _ _ _ _ _=>(rN 0 (by show Nodup (["k"]:List Str);decide +kernel))) (fun _ _ _ _ _=>Im) (fun _ _ _ _ _=>(Hd jg gS (nB 0))))))
 exact h
theorem AL:mj P w K mg base 1 t.nY t.nZ ["word"] kE:=by
 have h:=pP (P:=P) (w:=w) (base:=base) (k:=0) nv t.rA fun cdv A outer s H E hr=>
  (aJ (vV 1 (qM cz) nv.nd)
  (aJ (tX PassesOwn.never rfl (iL (nD 0)) (rN 2 nv.nd) (bc (wZ (vU (bG jK iF (PE.aF (iU cQ eu t.j3 dW (aE (nB 1) bB))) (PE.aF cI) (aK _)) (yp (bG (iG (aX.u6 hr)) eB (PE.aF (xT (nL 1) (PE.aF (Hd jg gS (PE.aF cI))))) (PE.aF (Hd jg gS (nB 2))) (aK _)))).pt (bc (Rm 1)) (bc (Rl 1 (nD 2))))))
  (bc (Em 1))))
 exact h
theorem zx:mj P w K mg base 1 t.gK t.gM ["n"] cA:=by
 have h:=pP (P:=P) (w:=w) (base:=base) (k:=0) xy t.dH fun cdv A outer s H E hr=>
  (bc (lT (uf rfl t.gq t.gu (aE (nB 0) bB))))
 exact h
theorem JT:mj P w K mg base 1 t.xC t.xD ["n"] ur:=by
 have h:=pP (P:=P) (w:=w) (base:=base) (k:=0) Gn t.uN fun cdv A outer s H E hr=>
  (bc (lT (IW rfl t.gq t.gu (aE (PE.aF (bh bA br (nB 0) (PE.aF cI))) (aE (PE.aF (Hd jg gS (PE.aF cI))) (aE (PE.aF (Hd jg gS (PE.aF cI))) bB))))))
 exact h
theorem xO:mj P w K mg base 1 t.fA t.fE ["row"] bM:=by
 have h:=pP (P:=P) (w:=w) (base:=base) (k:=0) gW t.fG fun cdv A outer s H E hr=>
  (aJ (vV 1 (Vu (qM (aG cI cz)) (PE.aF (iU cQ eu t.j3 dW (aE (nB 0) bB)))) gW.nd)
  (aJ (tX PassesOwn.never rfl (iE t.j0 (nD 0)) (Vx 2 rfl (nU (rN 2 gW.nd) (nU (rN 3 gW.nd) z9))) (bc (xn 1 (nB 3) (nD 2))))
  (bc (Em 1))))
 exact h
theorem G9:mj P w K mg base 1 t.qh t.qi ["row"] nV:=by
 have h:=pP (P:=P) (w:=w) (base:=base) (k:=0) C6 t.n8 fun cdv A outer s H E hr=>
  (bc (lT (mK (Dz (N:=["k","row"]) (nt:=1) (caps:=[0]) (ae uI) ["row"] (by decide +kernel)) rfl (tW (XY t.gu (aE (PE.aF cI) (aE (PE.aF (iU cQ eu t.j3 dW (aE (nB 0) bB))) bB)))) (Kp.ok (qU (nt:=1) 0)) (fun _ _ _ _ _=>(rN 0 (by show Nodup (["k","row"]:List Str);decide +kernel))) (fun _ _ _ _ _=>(Ve (bG jK iF (PE.aF (xT (nL 1) (PE.aF (bh bA br (nB 0) (PE.aF cI))))) (PE.aF (xT (nL 1) (nB 0))) (aK _)))) (fun _ _ _ _ _=>(nD 0)))))
 exact h
theorem kR:mj P w K mg base 1 t.aT t.aU ["row","k"] aP:=by
 have h:=pP (P:=P) (w:=w) (base:=base) (k:=0) kh t.aQ fun cdv A outer s H E hr=>
  (bc (lT (Ej (PE.qJ (Ej (PE.qJ (mH (nL 0) MI (wW (PE.aF (bh bA br (nB 1) (PE.aF cI)))))) (PE.qJ (qM (aG (xT (nL 0) (nB 1)) (aG (xT (nL 0) (PE.aF (bh bA br (nB 1) (PE.aF cI)))) cz)))))) (PE.qJ (mH (nL 0) (wW (PE.aF (bh fO b8 (nB 1) (PE.aF cI)))) MI)))))
 exact h
theorem uT:mj P w K mg base 1 t.gY t.gZ ["row"] dY:=by
 have h:=pP (P:=P) (w:=w) (base:=base) (k:=0) sy t.ki fun cdv A outer s H E hr=>
  (bc (lT (mK (Dz (N:=["string","row"]) (nt:=1) (caps:=[0]) (ae jt) ["row"] (by decide +kernel)) rfl (tW (iV t.gO (nD 0))) (Kp.ok (qU (nt:=1) 0)) (fun _ _ _ _ _=>(rN 0 (by show Nodup (["string","row"]:List Str);decide +kernel))) (fun _ _ _ _ _=>Im) (fun _ _ _ _ _=>(bh bA br (PE.aF (bh bA br (PE.aF (iU cQ eu t.j3 dW (aE (nB 1) bB))) (PE.aF cI))) (nB 0))))))
 exact h
theorem AM:Ok P w K mg base 1 t.n9 t.og ["crossings"] kG:=by
 have h:=KJ (P:=P) (w:=w) (base:=base) (k:=0) jW t.fH fun cdv A outer s H E hr=>
  (aJ (fQ 1 cI jW.nd)
  (aJ (tX PassesOwn.never rfl (iL (nD 0)) (rN 2 jW.nd) (bc (KC 1 Rv (PE.aF (bh Mj IZ (PE.aF cI) (PE.aF (bh bA br (nB 2) (PE.aF cI))))) jW.nd)))
  (bc (gy (nD 1)))))
 exact h
theorem zy:Ok P w K mg base 1 t.jv t.jw ["_law_cell","_law_k","_law_factor"] fq:=by
 have h:=KJ (P:=P) (w:=w) (base:=base) (k:=0) xA t.lH fun cdv A outer s H E hr=>
  (bc (gy (bh nM nQ (PE.aF (bh iC eg (PE.aF (bh tH pJ (PE.aF (bh fO b8 (PE.aF (bh fO b8 (PE.aF (bh tH pJ (PE.aF (bh iC eg (nB 0) (PE.aF cI))) (PE.aF cI))) (PE.aF (bh tH pJ (nB 1) (nB 1))))) (PE.aF cI))) (nB 2))) (PE.aF cI))) (PE.aF cI))))
 exact h
theorem sE:Ok P w K mg base 1 t.gf t.gg ["_law_script","_law_k"] cH:=by
 have h:=KJ (P:=P) (w:=w) (base:=base) (k:=0) rq t.jx fun cdv A outer s H E hr=>
  (aJ (wZ (bG tJ tV (nB 1) (PE.aF (iU cQ eu t.j3 dW (aE (nB 0) bB))) (aK _)) (bc (gy (xT (nL 0) (nB 1)))) mf)
  (bc (gy cI)))
 exact h
theorem sF:Ok P w K mg base 1 t.gh t.gj ["_law_seed","_law_least","_law_most"] dC:=by
 have h:=KJ (P:=P) (w:=w) (base:=base) (k:=0) kP t.jy fun cdv A outer s H E hr=>
  (aJ (wZ (vU (bG (iG (aX.u6 hr)) eB (nB 1) (PE.aF cI) (aK _)) (yp (bG (iG (aX.u6 hr)) eB (PE.aF (bh iC eg (nB 0) (PE.aF cI))) (PE.aF cI) (aK _)))).pt (bc (gy cI)) mf)
  (aJ (fQ 1 (iU (CC rfl) El t.Ll MU (aE (PE.aF cI) (aE (nB 1) bB))) kP.nd)
  (bc (gy (bh fO b8 (nB 1) (PE.aF (bh iC eg (PE.aF (bh nM nQ (nB 0) (PE.aF cI))) (PE.aF (bh fO b8 (PE.aF (bh bA br (nB 2) (nB 1))) (PE.aF cI))))))))))
 exact h
theorem rE:Ok P w K mg base 1 t.eY t.eZ ["_law_number","_law_n"] cS:=by
 have h:=KJ (P:=P) (w:=w) (base:=base) (k:=0) jX t.iP fun cdv A outer s H E hr=>
  (aJ (fQ 2 (bh fO b8 (PE.aF cI) (PE.aF (bh iC eg (nB 0) (PE.aF (bh bA br (nB 1) (PE.aF cI)))))) jX.nd)
  (aJ (wZ (bG (iG (aX.u6 hr)) eB (PE.aF (bh iC eg (PE.aF (bh nM nQ (nB 0) (PE.aF cI))) (PE.aF cI))) (PE.aF cI) (aK _)) (bc (gy (Hd jg gS (nB 2)))) mf)
  (bc (gy (nD 2)))))
 exact h
theorem vD:Ok P w K mg base 1 t.jd t.je ["_law_n","_law_word"] fW:=by
 have h:=Nf (P:=P) (w:=w) (base:=base) (k:=0) dG t.lK fun cdv A outer s H E hr=>
  (aJ (fQ 2 (PE.dN (uf rfl t.gq t.gu (aE (nB 0) bB))) dG.nd)
  (aJ (tX PassesOwn.never rfl (iL (nD 1)) (rN 3 dG.nd) (aJ (fQ 4 (iU tK wY t.B3 z7 (aE (nB 3) bB)) dG.nd)
  (bc (fQ 2 (PE.dN (Ej (PE.qJ (Ej (PE.qJ (mH (nL 2) MI (wW (PE.aF (bh bA br (nB 4) (PE.aF cI)))))) (PE.qJ (qM (aG (xT (nL 2) (nB 4)) (aG (xT (nL 2) (PE.aF (bh bA br (nB 4) (PE.aF cI)))) cz)))))) (PE.qJ (mH (nL 2) (wW (PE.aF (bh fO b8 (nB 4) (PE.aF cI)))) MI)))) dG.nd))))
  (bc (gy (nD 2)))))
 exact h
theorem sG:Ok P w K mg base 1 t.gk t.gm ["_law_row"] dD:=by
 have h:=KJ (P:=P) (w:=w) (base:=base) (k:=0) rz t.jz fun cdv A outer s H E hr=>
  (bc (gy (IP rfl t.zf (PE.qJ (Nn (VF (N:=["_law_p","_law_row"]) (nt:=1) (caps:=[0]) (ae iK) ["_law_row"] (by decide +kernel)) rfl (tW (Z4 t.gu (aE (PE.aF (iU cQ eu t.j3 dW (aE (nB 0) bB))) bB))) (Kp.ok (qU (nt:=1) 0)) (fun _ _ _ _ _=>(rN 0 (by show Nodup (["_law_p","_law_row"]:List Str);decide +kernel))) (fun _ _ _ _ _=>Im) (fun _ _ _ _ _=>(iU cQ eu t.j3 dW (aE (PE.aF (PE.dN (mK (Dz (N:=["_law_s","_law_row","_law_p"]) (nt:=1) (caps:=[1,0]) _ _ (by kernel_rfl) rfl rfl) rfl (tW (iL (PE.dN (mH (nL 1) MI (wW (nB 0)))))) (Kp.ok (qU (nt:=1) 0)) (fun _ _ _ _ _=>(rN 0 (by show Nodup (["_law_s","_law_row","_law_p"]:List Str);decide +kernel))) (fun _ _ _ _ _=>(Ve (bG jK iF (nB 0) (PE.aF (xT (nL 1) (nB 2))) (aK _)))) (fun _ _ _ _ _=>(nD 0))))) bB))))))))
 exact h
theorem sH:Ok P w K mg base 1 t.gn t.gp ["_law_found","_law_n"] dE:=by
 have h:=KJ (P:=P) (w:=w) (base:=base) (k:=0) cM t.jA fun cdv A outer s H E hr=>
  (aJ (wZ (r9 (vR (yr (PE.aF (z8 EC yw t.cy t.xH (nB 0))))) (r9 (bG (o4 (aX.u6 hr)) lh (PE.aF (iU cQ eu t.j3 dW (aE (nB 0) bB))) (PE.aF cI) (aK _)) (yq (vR (yr (PE.aF (z8 Be jO t.cy t.gq (PE.aF (zY (nD 0) (PE.aF cI)))))))))).pt (bc (gy J0)) mf)
  (aJ (wZ (r9 (vR (yr (PE.aF (z8 EB ED t.cy t.Gv (PE.aF (zY (nD 0) (PE.aF cI))))))) (r9 (yr (PE.aF (z8 Bd Bf t.cy t.AA (PE.aF (zY (nD 0) (PE.aF cI)))))) (yq (vU (bG (iG (aX.u6 hr)) eB (nB 1) (PE.aF cI) (aK _)) (yp (bG (o4 (aX.u6 hr)) lh (PE.aF (zY (nD 0) (PE.aF cI))) (PE.aF cI) (aK _)))).pt))).pt (bc (gy J0)) mf)
  (aJ (fQ 2 cN cM.nd)
  (aJ (tX PassesOwn.never rfl (iL (zY (nD 0) (PE.aF cI))) (rN 3 cM.nd) (aJ (wZ (r9 (vR (yr (PE.aF (z8 Be jO t.cy t.gq (nB 3))))) (yq (bG (o4 (aX.u6 hr)) lh (PE.aF (PE.dN (mK (Dz (N:=["_law_s"]) (nt:=1) (caps:=[]) (ae iM) ["_law_found","_law_n","_law_last","_law_row","_law_k"] (by decide +kernel)) rfl (tW (iL (nD 3))) (Kp.ok (qU (nt:=1) 0)) (fun _ _ _ _ _=>(rN 0 (by show Nodup (["_law_s"]:List Str);decide +kernel))) (fun _ _ _ _ _=>(Ve (r9 (vR (yr (PE.aF (z8 EB ED t.cy t.Gv (nB 0))))) (yq (yr (PE.aF (z8 Bd Bf t.cy t.AA (nB 0)))))).pt)) (fun _ _ _ _ _=>(nD 0))))) (PE.aF (PE.dN (qM cz))) (aK _)))).pt (bc (gy J0)) mf)
  (aJ (wZ (r9 (bG (o4 (aX.u6 hr)) lh (PE.aF (PE.dN (IS t.ze (nL 3)))) (PE.aF (PE.dN (uf rfl t.gq t.gu (aE (nB 1) bB)))) (aK _)) (r9 (bG (iG (aX.u6 hr)) eB (nB 3) (PE.aF (PE.dN (uf rfl t.gq t.gu (aE (nB 1) bB)))) (aK _)) (yq (bG (iG (aX.u6 hr)) eB (nB 3) (PE.aF (PE.dN (NB rfl t.gq t.gO t.gu (aE (nB 1) bB)))) (aK _))))).pt (bc (gy J0)) mf)
  (aJ (tX PassesOwn.never rfl (XY t.gu (aE (PE.aF cI) (aE (nB 1) bB))) (rN 4 cM.nd) (bc (wZ (vU (bG HM EG (nB 2) (PE.aF cN) (aK _)) (vU (bG jK iF (PE.aF (E7 (nL 3) (PE.aF (bh bA br (nB 4) (PE.aF cI))))) (PE.aF (E7 (nL 3) (nB 4))) (aK _)) (yp (bG tJ tV (PE.aF (zY (nD 2) (PE.aF (bh bA br (nB 4) (PE.aF cI))))) (PE.aF (zY (nD 2) (nB 4))) (aK _))))).pt (bc (gy J0)) mf)))
  (bc (fQ 2 (nD 3) cM.nd))))))
  (bc (gy J0))))))
 exact h
theorem Dm(bO:mj P w K mg base 1 t.fA t.fE ["row"] bM)(om:mj P w K mg base 1 t.qh t.qi ["row"] nV):mj P w K mg base 2 t.qj t.qk ["row"] p4:=by
 have h:=pP (P:=P) (w:=w) (base:=base) (k:=1) Ay t.nC fun cdv A outer s H E hr=>
  (bc (lT (yy t.n8 om (hr.mono (by decide)) (aG (PE.dN (yy t.fG bO (hr.mono (by decide)) (aG (nD 0) cz))) cz))))
 exact h
theorem lM(bO:mj P w K mg base 1 t.fA t.fE ["row"] bM)(aR:mj P w K mg base 1 t.aT t.aU ["row","k"] aP):mj P w K mg base 2 t.bW t.bX ["row","k"] bV:=by
 have h:=pP (P:=P) (w:=w) (base:=base) (k:=1) kO t.bx fun cdv A outer s H E hr=>
  (bc (lT (yy t.fG bO (hr.mono (by decide)) (aG (PE.dN (yy t.aQ aR (hr.mono (by decide)) (aG (PE.dN (yy t.fG bO (hr.mono (by decide)) (aG (nD 0) cz))) (aG (nD 1) cz)))) cz))))
 exact h
theorem Dn(dM:mj P w K mg base 1 t.gK t.gM ["n"] cA)(aR:mj P w K mg base 1 t.aT t.aU ["row","k"] aP):mj P w K mg base 2 t.ql t.qm ["n","word"] kH:=by
 have h:=pP (P:=P) (w:=w) (base:=base) (k:=1) lF t.qo fun cdv A outer s H E hr=>
  (aJ (vV 2 (yy t.dH dM (hr.mono (by decide)) (aG (nD 0) cz)) lF.nd)
  (aJ (tX PassesOwn.never rfl (iL (nD 1)) (rN 3 lF.nd) (aJ (wZ (bG tJ tV (nB 3) (PE.aF cI) (aK _)) (bc Rn) mf)
  (aJ (wZ (bG jK iF (PE.aF (xT (nL 2) (PE.aF (bh bA br (nB 3) (PE.aF cI))))) (PE.aF (xT (nL 2) (nB 3))) (aK _)) (bc Rn) mf)
  (bc (vV 2 (Vt scl t.aQ aR (hr.mono (by decide)) (aE (nB 2) (aE (nB 3) bB))) lF.nd)))))
  (bc (Em 2))))
 exact h
theorem Ha(bO:mj P w K mg base 1 t.fA t.fE ["row"] bM):mj P w K mg base 2 t.sY t.sZ ["row"] p6:=by
 have h:=pP (P:=P) (w:=w) (base:=base) (k:=1) C7 t.xE fun cdv A outer s H E hr=>
  (bc (lT (mK (Dz (N:=["place","row"]) (nt:=1) (caps:=[0]) (ae uJ) ["row"] (by decide +kernel)) rfl (tW (iL (PE.dN (yy t.fG bO (hr.mono (by decide)) (aG (nD 0) cz))))) (Kp.ok (qU (nt:=1) 0)) (fun _ _ _ _ _=>(rN 0 (by show Nodup (["place","row"]:List Str);decide +kernel))) (fun _ _ _ _ _=>Im) (fun _ _ _ _ _=>(bh bA br (PE.aF (bh bA br (PE.aF (iU cQ eu t.j3 dW (aE (nB 1) bB))) (PE.aF cI))) (nB 0))))))
 exact h
theorem O7(dM:mj P w K mg base 1 t.gK t.gM ["n"] cA):Px P w K mg base 2 t.BZ t.B0 ["n","word"] yS:=by
 have h:=Ye (P:=P) (w:=w) (base:=base) (k:=1) i7 t.Gs fun cdv A outer s H E hr=>
  (aJ (K8 2 K7 i7.nd)
  (aJ (vV 3 (yy t.dH dM (hr.mono (by decide)) (aG (nD 0) cz)) i7.nd)
  (aJ (fQ 4 J0 i7.nd)
  (aJ (tX PassesOwn.never rfl (iL (nD 1)) (rN 5 i7.nd) (aJ (fQ 6 (iU tK wY t.B3 z7 (aE (nB 5) bB)) i7.nd)
  (aJ (wZ (r9 (bG (iG (aX.u6 hr)) eB (PE.aF (iU cQ eu t.j3 dW (aE (nB 2) bB))) (PE.aF cI) (aK _)) (r9 (bG (o4 (aX.u6 hr)) lh (nB 4) (PE.aF (Ih jK iF (nB 5) (PE.aF cI) (aK _))) (aK _)) (yq (bG jK iF (PE.aF (xT (nL 3) (PE.aF (bh bA br (nB 6) (PE.aF cI))))) (PE.aF (xT (nL 3) (nB 6))) (aK _))))).pt (aJ (La 2 (qM cz))
  (aJ (vV 3 (yy t.dH dM (hr.mono (by decide)) (aG (nD 0) cz)) i7.nd)
  (bc (fQ 4 (Ih jK iF (nB 5) (PE.aF cI) (aK _)) i7.nd)))) mf)
  (aJ (Nu 2 (PE.aF (Hd jg gS (PE.aF cI))) (nB 5))
  (aJ (fQ 7 (xT (nL 3) (nB 6)) i7.nd)
  (aJ (xn 3 (nB 6) (xT (nL 3) (PE.aF (bh bA br (nB 6) (PE.aF cI)))))
  (bc (xn 3 (PE.aF (bh bA br (nB 6) (PE.aF cI))) (nD 7)))))))))
  (bc (K9 2))))))
 exact h
theorem uU(ko:mj P w K mg base 1 t.gY t.gZ ["row"] dY):mj P w K mg base 2 t.g6 t.g7 ["halves","row"] dZ:=by
 have h:=pP (P:=P) (w:=w) (base:=base) (k:=1) sC t.km fun cdv A outer s H E hr=>
  (aJ (wZ (bG (iG (aX.u6 hr)) eB (PE.aF (bh iC eg (nB 0) (PE.aF cI))) (PE.aF cI) (aK _)) (bc (lT (J2 t.gq (nL 1)))) mf)
  (bc (lT (yy t.ki ko (hr.mono (by decide)) (aG (nD 1) cz)))))
 exact h
theorem vE(iQ:Ok P w K mg base 1 t.eY t.eZ ["_law_number","_law_n"] cS):Ok P w K mg base 2 t.i9 t.ja ["_law_number","_law_n"] fR:=by
 have h:=Nf (P:=P) (w:=w) (base:=base) (k:=1) ju t.lI fun cdv A outer s H E hr=>
  (aJ (fQ 2 (M4 Nd t.iP iQ (hr.mono (by decide)) (aE (nB 0) (aE (nB 1) bB))) ju.nd)
  (aJ (wZ (r9 (bG jK iF (PE.aF (bh iC eg (PE.aF (bh nM nQ (nB 0) (PE.aF cI))) (PE.aF cI))) (PE.aF cI) (aK _)) (yq (bG tJ tV (nB 1) (PE.aF cI) (aK _)))).pt (bc (gy (PE.dN (qM (aG (nD 2) cz))))) mf)
  (aJ (fQ 3 (XW (vU (bG tJ tV (PE.aF (iU tK wY t.B3 z7 (aE (PE.aF (bh fO b8 (nB 2) (PE.aF cI))) bB))) (nB 1) (aK _)) (yp (bG (o4 (aX.u6 hr)) lh (PE.aF (bh fO b8 (nB 2) (PE.aF cI))) (PE.aF cI) (aK _)))).pt (bh fO b8 (nB 2) (PE.aF cI)) (bh bA br (nB 2) (PE.aF cI))) ju.nd)
  (bc (gy (xT (PE.qJ (qM (aG (PE.dN (qM (aG (nD 2) (aG (nD 3) (aG (nD 2) cz))))) (aG (PE.dN (qM (aG (nD 2) (aG (nD 3) cz)))) (aG (PE.dN (qM (aG (nD 2) (aG (nD 2) cz)))) (aG (PE.dN (qM (aG (nD 2) (aG (Hd jg gS (nB 3)) (aG (nD 2) cz))))) cz)))))) (PE.aF (bh iC eg (PE.aF (bh nM nQ (nB 0) (PE.aF cI))) (PE.aF cI)))))))))
 exact h
theorem uV(xP:mj P w K mg base 2 t.sY t.sZ ["row"] p6):Ok P w K mg base 3 t.g4 t.g5 ["row"] gV:=by
 have h:=Nf (P:=P) (w:=w) (base:=base) (k:=2) sA t.kj fun cdv A outer s H E hr=>
  (bc (gy (MH (aG (Hd jg gS (PE.aF cI)) (aG (PE.dN (yy t.xE xP (hr.mono (by decide)) (aG (nD 0) cz))) cz)))))
 exact h
theorem mx(kq:mj P w K mg base 2 t.g6 t.g7 ["halves","row"] dZ):Px P w K mg base 3 t.ck t.cu ["steps"] aS:=by
 have h:=Ye (P:=P) (w:=w) (base:=base) (k:=2) bp t.bC fun cdv A outer s H E hr=>
  (aJ (K8 1 K7 bp.nd)
  (aJ (fQ 2 cI bp.nd)
  (aJ (tX PassesOwn.never rfl (iV t.gO (nD 0)) (rN 3 bp.nd) (aJ (La 1 (yy t.km kq (hr.mono (by decide)) (aG (nD 2) (aG (zY (nD 3) (PE.aF cI)) cz))))
  (bc (KC 2 DR (PE.aF (zY (nD 3) (PE.aF cI))) bp.nd))))
  (aJ (Rx 1)
  (bc (K9 1))))))
 exact h
theorem vG(gP:Ok P w K mg base 1 t.jv t.jw ["_law_cell","_law_k","_law_factor"] fq)(lN:Ok P w K mg base 2 t.i9 t.ja ["_law_number","_law_n"] fR):mj P w K mg base 3 t.jb t.jc ["_law_cells","_law_n","_law_most"] fU:=by
 have h:=pP (P:=P) (w:=w) (base:=base) (k:=2) dF t.lJ fun cdv A outer s H E hr=>
  (aJ (fQ 3 (PE.dN (qM cz)) dF.nd)
  (aJ (tX PassesOwn.never rfl (iE t.j0 (nD 0)) (Vx 2 rfl (nU (rN 4 dF.nd) (nU (rN 5 dF.nd) z9))) (bc (wZ (bG jK iF (nB 1) (PE.aF cI) (aK _)) (bc (fQ 3 (PE.dN (Ej (nL 3) (PE.U0 (Kg t.lI lN (hr.mono (by decide)) (aG (M4 Nd t.lH gP (hr.mono (by decide)) (aE (nB 5) (aE (nB 4) (aE (PE.aF cI) bB)))) (aG (nD 1) cz)))))) dF.nd)) mf)))
  (bc (lT (mH (nL 3) MI (wW (nB 2)))))))
 exact h
theorem AO(uW:mj P w K mg base 1 t.qe t.qg ["word"] mY)(qw:mj P w K mg base 2 t.ql t.qm ["n","word"] kH)(kr:Ok P w K mg base 3 t.g4 t.g5 ["row"] gV):Ok P w K mg base 4 t.oh t.oi ["n","piece"] kI:=by
 have h:=Nf (P:=P) (w:=w) (base:=base) (k:=3) zd t.rB fun cdv A outer s H E hr=>
  (aJ (wZ (bG jK iF (PE.aF (xT (nL 1) (PE.aF cI))) (PE.aF cI) (aK _)) (bc (gy (MH (aG cI (aG (PE.dN (yy t.qo qw (hr.mono (by decide)) (aG (nD 0) (aG (nD 1) cz)))) cz))))) mf)
  (bc (gy (Kg t.kj kr (hr.mono (by decide)) (aG (PE.dN (yy t.qo qw (hr.mono (by decide)) (aG (nD 0) (aG (PE.dN (yy t.uM uW (hr.mono (by decide)) (aG (nD 1) cz))) cz)))) cz)))))
 exact h
theorem xQ(gP:Ok P w K mg base 1 t.jv t.jw ["_law_cell","_law_k","_law_factor"] fq)(lP:mj P w K mg base 3 t.jb t.jc ["_law_cells","_law_n","_law_most"] fU):Ok P w K mg base 4 t.jY t.jZ ["_law_cells","_law_n","_law_most"] ig:=by
 have h:=Nf (P:=P) (w:=w) (base:=base) (k:=3) gX t.nE fun cdv A outer s H E hr=>
  (aJ (fQ 3 (PE.dN (yy t.lJ lP (hr.mono (by decide)) (aG (PE.dN (mH (nL 0) MI (wW (PE.aF cI)))) (aG (nD 1) (aG cI cz))))) gX.nd)
  (aJ (wZ (bG Qh MG (PE.aF (iU cQ eu t.j3 dW (aE (nB 3) bB))) (nB 2) (aK _)) (bc (gy (nD 3))) mf)
  (aJ (fQ 4 (IP rfl t.zf (PE.qJ (mK (Dz (N:=["_law_k","_law_cell"]) (nt:=2) (caps:=[]) (ae lG) ["_law_cells","_law_n","_law_most","_law_word","_law_total","_law_at"] (by decide +kernel)) rfl (tW (iE t.j0 (nD 0))) (Kp.ok (Vy 2 (Bp (qU (nt:=2) 0) (Bp (qU (nt:=2) 1) Nc)))) (fun _ _ _ _ _=>(Vx 2 rfl (nU (rN 0 (by show Nodup (["_law_k","_law_cell"]:List Str);decide +kernel)) (nU (rN 1 (by show Nodup (["_law_k","_law_cell"]:List Str);decide +kernel)) z9)))) (fun _ _ _ _ _=>Im) (fun _ _ _ _ _=>(M4 Nd t.lH gP (hr.mono (by decide)) (aE (nB 1) (aE (nB 0) (aE (PE.aF cI) bB)))))))) gX.nd)
  (aJ (fQ 5 (bh iC eg (nB 4) (PE.aF (bh fO b8 (PE.aF (bh bA br (PE.aF (iU cQ eu t.j3 dW (aE (nB 3) bB))) (nB 2))) (PE.aF cI)))) gX.nd)
  (bc (gy (PE.dN (mH (nL 3) (wW (nB 5)) (wW (PE.aF (bh fO b8 (nB 5) (nB 2))))))))))))
 exact h
theorem rF(rG:mj P w K mg base 1 t.nY t.nZ ["word"] kE)(Hb:Px P w K mg base 2 t.BZ t.B0 ["n","word"] yS)(rH:Ok P w K mg base 4 t.oh t.oi ["n","piece"] kI):Ok P w K mg base 5 t.eR t.eU ["n","word"] cT:=by
 have h:=Nf (P:=P) (w:=w) (base:=base) (k:=4) qd t.iO fun cdv A outer s H E hr=>
  (bc (gy (PE.dN (mK (Dz (N:=["piece","n"]) (nt:=1) (caps:=[0]) (ae gJ) ["n","word"] (by decide +kernel)) rfl (Z3 (PE.VS (fT1 t.Gs Hb (hr.mono (by decide)) (aE (nB 0) (aE (PE.aF (PE.dN (yy t.rA rG (hr.mono (by decide)) (aG (nD 1) cz)))) bB))))) (Kp.ok (qU (nt:=1) 0)) (fun _ _ _ _ _=>(rN 0 (by show Nodup (["piece","n"]:List Str);decide +kernel))) (fun _ _ _ _ _=>Im) (fun _ _ _ _ _=>(Kg t.rB rH (hr.mono (by decide)) (aG (nD 1) (aG (nD 0) cz))))))))
 exact h
theorem JU(iR:Ok P w K mg base 9 t.eO t.eQ ["n","steps"] cU)(iS:Ok P w K mg base 5 t.eR t.eU ["n","word"] cT):Ok P w K mg base 10 t.xF t.xG ["n","word"] uD:=by
 have h:=Nf (P:=P) (w:=w) (base:=base) (k:=9) Gr t.Az fun cdv A outer s H E hr=>
  (bc (gy (Kg t.iN iR (hr.mono (by decide)) (aG (nD 0) (aG (Kg t.iO iS (hr.mono (by decide)) (aG (nD 0) (aG (nD 1) cz))) cz)))))
 exact h
theorem O8(AQ:Ok P w K mg base 10 t.xF t.xG ["n","word"] uD)(jD:Ok P w K mg base 1 t.gf t.gg ["_law_script","_law_k"] cH)(jE:Ok P w K mg base 1 t.gh t.gj ["_law_seed","_law_least","_law_most"] dC)(nH:Ok P w K mg base 4 t.jY t.jZ ["_law_cells","_law_n","_law_most"] ig)(lQ:Ok P w K mg base 1 t.jd t.je ["_law_n","_law_word"] fW)(jF:Ok P w K mg base 1 t.gk t.gm ["_law_row"] dD)(jG:Ok P w K mg base 1 t.gn t.gp ["_law_found","_law_n"] dE):Ok P w K mg base 11 t.Gu t.B1 ["_law_script"] uG:=by
 have h:=KJ (P:=P) (w:=w) (base:=base) (k:=10) gb t.Lk fun cdv A outer s H E hr=>
  (aJ (fQ 1 (M4 Nd t.jy jE (hr.mono (by decide)) (aE (PE.aF (bh iC eg (PE.aF (M4 Nd t.jx jD (hr.mono (by decide)) (aE (nB 0) (aE (PE.aF cI) bB)))) (PE.aF (bh Mi Ii (PE.aF cI) (PE.aF cI))))) (aE (PE.aF cI) (aE (PE.aF cI) bB)))) gb.nd)
  (aJ (fQ 2 (Kg t.nE nH (hr.mono (by decide)) (aG (nD 0) (aG (nD 1) (aG cI cz)))) gb.nd)
  (aJ (fQ 3 (PE.dN (J2 t.gq (nL 2))) gb.nd)
  (aJ (fQ 4 (Kg t.Az AQ (hr.mono (by decide)) (aG (nD 1) (aG (nD 3) cz))) gb.nd)
  (aJ (wZ (r9 (bG (o4 (aX.u6 hr)) lh (nB 3) (nB 2) (aK _)) (yq (vR (yr (PE.aF (M4 Nd t.jA jG (hr.mono (by decide)) (aE (nB 4) (aE (nB 1) bB)))))))).pt (bc (gy J0)) mf)
  (aJ (fQ 5 (PE.dN (uf rfl t.gq t.gu (aE (nB 1) bB))) gb.nd)
  (aJ (fQ 6 (bh tH pJ (PE.aF (zY (nD 4) (PE.aF cI))) (PE.aF (bh nM nQ (PE.aF (bh tH pJ (nB 1) (PE.aF (bh bA br (nB 1) (PE.aF cI))))) (PE.aF cI)))) gb.nd)
  (aJ (wZ (bG (iG (aX.u6 hr)) eB (PE.aF (bh iC eg (PE.aF (zY (nD 4) (PE.aF cI))) (PE.aF cI))) (PE.aF cI) (aK _)) (bc (fQ 5 (PE.dN (Ng rfl t.gq t.gO (nL 5))) gb.nd)) mf)
  (aJ (tX PassesOwn.never rfl (iL (zY (nD 4) (PE.aF cI))) (rN 7 gb.nd) (aJ (fQ 5 (PE.dN (mK (Dz (N:=["_law_s","_law_order_here"]) (nt:=1) (caps:=[5]) (ae xB) ["_law_script","_law_n","_law_word","_law_handed","_law_found","_law_order_here","_law_many","_law_row"] (by decide +kernel)) rfl (tW (iL (nD 7))) (Kp.ok (qU (nt:=1) 0)) (fun _ _ _ _ _=>(rN 0 (by show Nodup (["_law_s","_law_order_here"]:List Str);decide +kernel))) (fun _ _ _ _ _=>Im) (fun _ _ _ _ _=>(xT (nL 1) (nB 0))))) gb.nd)
  (bc (fQ 6 (bh fO b8 (nB 6) (PE.aF (M4 Nd t.jz jF (hr.mono (by decide)) (aE (nB 7) bB)))) gb.nd))))
  (bc (gy (U3 (PE.aF (Ih (iG (aX.u6 hr)) eB (nB 5) (PE.aF (Kg t.lK lQ (hr.mono (by decide)) (aG (nD 1) (aG (nD 2) cz)))) (aK _))) (U1 (Ih (iG (aX.u6 hr)) eB (nB 6) (PE.aF (IP rfl t.zf (PE.qJ (mK (Dz (N:=["_law_k"]) (nt:=1) (caps:=[]) (ae xB) ["_law_script","_law_n","_law_word","_law_handed","_law_found","_law_order_here","_law_many","_law_row"] (by decide +kernel)) rfl (tW (iL (nD 2))) (Kp.ok (qU (nt:=1) 0)) (fun _ _ _ _ _=>(rN 0 (by show Nodup (["_law_k"]:List Str);decide +kernel))) (fun _ _ _ _ _=>Im) (fun _ _ _ _ _=>(XW (bG jK iF (nB 0) (PE.aF cI) (aK _)) cI (Hd jg gS (PE.aF cI)))))))) (aK _)))))))))))))))
 exact h
end
@[irreducible] noncomputable def Kw (w:World):PySem.W.Frag:=H.K w.params
theorem LK(w:World):Kw w=H.K w.params:=by kernel_rfl
theorem oU{K:PySem.W.Frag}{h:Heap}{mg:Str->Option Value}{x:String}{st:Stmt}{ps:List Str}{f c:Addr}{m:Value}(X:K.In h)(G:h.Ns mainGlobals mg)
  (e:(nsIn K mainGlobals (Str.ofString x),K.lookup f,codeIn K (.ref c) (Str.ofString x),keepIn K (.ref f))=(some (some (.ref f)),some (DL.H.hf (Str.ofString x) (Str.ofString x) st m c),true,true))
  (hb:∀(kV doc pm:Value)(an:Option Addr)(cdv ct:Value)(us:List Value),us.length=ps.length->bindArgs (PySem.W.fnOf (Str.ofString x) (Str.ofString x) (cZ st) (bq st) (ae st) .none kV doc pm an cdv ct) ⟨us,[]⟩=pure (ps.zip us)):
  Df K mg (Str.ofString x) st ps f (PySem.W.fnOf (Str.ofString x) (Str.ofString x) (cZ st) (bq st) (ae st) .none .none .none m none (.ref c) .none):=dfm X G (congrArg (·.1) e) (congrArg (·.2.1) e) (congrArg (·.2.2.1) e) (congrArg (·.2.2.2) e) hb
theorem AR{x q:Str}{a:Arguments}{b:List Stmt}{s:Scope}{p0:Str}(h:∀(kV doc pm:Value)(an:Option Addr)(cdv ct v0:Value),bindArgs (PySem.W.fnOf x q a b s .none kV doc pm an cdv ct) ⟨[v0],[]⟩=pure [(p0,v0)])(kV doc pm:Value)(an:Option Addr)(cdv ct:Value)(us:List Value)(hl:us.length=[p0].length):bindArgs (PySem.W.fnOf x q a b s .none kV doc pm an cdv ct) ⟨us,[]⟩=pure ([p0].zip us):=match us,hl with|[v0],_=>h _ _ _ _ _ _ _
theorem zA{x q:Str}{a:Arguments}{b:List Stmt}{s:Scope}{p0 p1:Str}(h:∀(kV doc pm:Value)(an:Option Addr)(cdv ct v0 v1:Value),bindArgs (PySem.W.fnOf x q a b s .none kV doc pm an cdv ct) ⟨[v0,v1],[]⟩=pure [(p0,v0),(p1,v1)])(kV doc pm:Value)(an:Option Addr)(cdv ct:Value)(us:List Value)(hl:us.length=[p0,p1].length):bindArgs (PySem.W.fnOf x q a b s .none kV doc pm an cdv ct) ⟨us,[]⟩=pure ([p0,p1].zip us):=match us,hl with|[v0,v1],_=>h _ _ _ _ _ _ _ _
theorem LL{x q:Str}{a:Arguments}{b:List Stmt}{s:Scope}{p0 p1 p2:Str}(h:∀(kV doc pm:Value)(an:Option Addr)(cdv ct v0 v1 v2:Value),bindArgs (PySem.W.fnOf x q a b s .none kV doc pm an cdv ct) ⟨[v0,v1,v2],[]⟩=pure [(p0,v0),(p1,v1),(p2,v2)])(kV doc pm:Value)(an:Option Addr)(cdv ct:Value)(us:List Value)(hl:us.length=[p0,p1,p2].length):bindArgs (PySem.W.fnOf x q a b s .none kV doc pm an cdv ct) ⟨us,[]⟩=pure ([p0,p1,p2].zip us):=match us,hl with|[v0,v1,v2],_=>h _ _ _ _ _ _ _ _ _
theorem LM(K:PySem.W.Frag){C:Addr}{x q:String}{st:Stmt}{f c:Addr}{m:Value}
  (e:(findIn K (.ref C) (Str.ofString x),isFn K (.ref f),K.lookup f,codeIn K (.ref c) (Str.ofString q),keepIn K (.ref f))=(some (some (.ref f)),true,some (DL.H.hf (Str.ofString x) (Str.ofString q) st m c),true,true)):
  yg K (Str.ofString x) (Str.ofString q) st f (PySem.W.fnOf (Str.ofString x) (Str.ofString q) (cZ st) (bq st) (ae st) .none .none .none m none (.ref c) .none)/\Meth K C (Str.ofString x) f:=
 ⟨zV (congrArg (·.2.2.1) e) (congrArg (·.2.2.2.1) e) (congrArg (·.2.2.2.2) e),congrArg (·.1) e,congrArg (·.2.1) e,congrArg (·.2.2.2.2) e⟩
theorem all_mk{l:PySem.W.OpenLaw}{w:World}{h:Heap}{mg:Str->Option Value}{fa:Addr}(X:(Kw w).In h)(G:h.Ns mainGlobals mg)(hfa:mg "law"=some (.ref fa)):
  ∃fd:FuncData,(∀(s:Shared)(v:Value),BindsTo s fd ⟨[v],[]⟩ [("_law_script",v)])/\∀base:Heap,(Kw w).In base->base.Ns mainGlobals mg->bQ l.prog w (Kw w) mg base jL 11 fa fd ["_law_script"] (Bc (Kw w) Dy uG):=by
 have e:=hfa.symm.trans (mg_of X G (show nsIn (Kw w) mainGlobals "law"=some (some (.ref 311))by kernel_rfl))
 cases e
 have yC:nsIn (Kw w) mainGlobals "Comb"=some (some (.ref 186)):=by kernel_rfl
 have ypg:plainGet (Kw w) 186 Str.empty=true:=by kernel_rfl
 have yhd:hasDictIn (Kw w) 186=true:=by kernel_rfl
 have ypo:plainOver (Kw w) 186=true:=by kernel_rfl
 have ysa:findIn (Kw w) (.ref 186) "__setattr__"=some (some (.builtin "object.__setattr__")):=by kernel_rfl
 have ymk:makesIn (Kw w) 186=true:=by kernel_rfl
 have ykc:keepIn (Kw w) (.ref 186)=true:=by kernel_rfl
 have yn0:findIn (Kw w) (.ref 186) "known"=some none:=by kernel_rfl
 have yn1:findIn (Kw w) (.ref 186) "numbers"=some none:=by kernel_rfl
 have yn2:findIn (Kw w) (.ref 186) "firsts"=some none:=by kernel_rfl
 have yn3:findIn (Kw w) (.ref 186) "lasts"=some none:=by kernel_rfl
 have yn4:findIn (Kw w) (.ref 186) "shorter"=some none:=by kernel_rfl
 have yn5:findIn (Kw w) (.ref 186) "longer"=some none:=by kernel_rfl
 have yn6:findIn (Kw w) (.ref 186) "kept"=some none:=by kernel_rfl
 have yn7:findIn (Kw w) (.ref 186) "line"=some none:=by kernel_rfl
 have yn8:findIn (Kw w) (.ref 186) "none"=some none:=by kernel_rfl
 have yn9:findIn (Kw w) (.ref 186) "whole"=some none:=by kernel_rfl
 let t:Tb (Kw w) mg:={qe:=44,qg:=_,uM:=oU X G (c:=43) (m:=H.w1) (by kernel_rfl) (AR fun _ _ _ _ _ _ _=>rfl),nY:=51,nZ:=_,rA:=oU X G (c:=50) (m:=H.w1) (by kernel_rfl) (AR fun _ _ _ _ _ _ _=>rfl),gK:=58,gM:=_,dH:=oU X G (c:=57) (m:=H.w2) (by kernel_rfl) (AR fun _ _ _ _ _ _ _=>rfl),xC:=65,xD:=_,uN:=oU X G (c:=64) (m:=H.w2) (by kernel_rfl) (AR fun _ _ _ _ _ _ _=>rfl),fA:=72,fE:=_,fG:=oU X G (c:=71) (m:=H.w2) (by kernel_rfl) (AR fun _ _ _ _ _ _ _=>rfl),qh:=77,qi:=_,n8:=oU X G (c:=76) (m:=H.w2) (by kernel_rfl) (AR fun _ _ _ _ _ _ _=>rfl),qj:=84,qk:=_,nC:=oU X G (c:=83) (m:=H.w2) (by kernel_rfl) (AR fun _ _ _ _ _ _ _=>rfl),aT:=91,aU:=_,aQ:=oU X G (c:=90) (m:=H.w2) (by kernel_rfl) (zA fun _ _ _ _ _ _ _ _=>rfl),bW:=98,bX:=_,bx:=oU X G (c:=97) (m:=H.w2) (by kernel_rfl) (zA fun _ _ _ _ _ _ _ _=>rfl),ql:=105,qm:=_,qo:=oU X G (c:=104) (m:=H.w2) (by kernel_rfl) (zA fun _ _ _ _ _ _ _ _=>rfl),sY:=110,sZ:=_,xE:=oU X G (c:=109) (m:=H.w2) (by kernel_rfl) (AR fun _ _ _ _ _ _ _=>rfl),gY:=115,gZ:=_,ki:=oU X G (c:=114) (m:=H.w2) (by kernel_rfl) (AR fun _ _ _ _ _ _ _=>rfl),n9:=122,og:=_,fH:=oU X G (c:=121) (m:=H.w3) (by kernel_rfl) (AR fun _ _ _ _ _ _ _=>rfl),BZ:=197,B0:=_,Gs:=oU X G (c:=196) (m:=H.w4) (by kernel_rfl) (zA fun _ _ _ _ _ _ _ _=>rfl),g4:=204,g5:=_,kj:=oU X G (c:=203) (m:=H.w4) (by kernel_rfl) (AR fun _ _ _ _ _ _ _=>rfl),oh:=211,oi:=_,rB:=oU X G (c:=210) (m:=H.w4) (by kernel_rfl) (zA fun _ _ _ _ _ _ _ _=>rfl),g6:=218,g7:=_,km:=oU X G (c:=217) (m:=H.w4) (by kernel_rfl) (zA fun _ _ _ _ _ _ _ _=>rfl),ck:=225,cu:=_,bC:=oU X G (c:=224) (m:=H.w4) (by kernel_rfl) (AR fun _ _ _ _ _ _ _=>rfl),eO:=230,eQ:=_,iN:=oU X G (c:=229) (m:=H.w4) (by kernel_rfl) (zA fun _ _ _ _ _ _ _ _=>rfl),eR:=235,eU:=_,iO:=oU X G (c:=234) (m:=H.w4) (by kernel_rfl) (zA fun _ _ _ _ _ _ _ _=>rfl),xF:=242,xG:=_,Az:=oU X G (c:=241) (m:=H.w4) (by kernel_rfl) (zA fun _ _ _ _ _ _ _ _=>rfl),jv:=249,jw:=_,lH:=oU X G (c:=248) (m:=H.w5) (by kernel_rfl) (LL fun _ _ _ _ _ _ _ _ _=>rfl),gf:=256,gg:=_,jx:=oU X G (c:=255) (m:=H.w5) (by kernel_rfl) (zA fun _ _ _ _ _ _ _ _=>rfl),gh:=263,gj:=_,jy:=oU X G (c:=262) (m:=H.w5) (by kernel_rfl) (LL fun _ _ _ _ _ _ _ _ _=>rfl),eY:=270,eZ:=_,iP:=oU X G (c:=269) (m:=H.w5) (by kernel_rfl) (zA fun _ _ _ _ _ _ _ _=>rfl),i9:=277,ja:=_,lI:=oU X G (c:=276) (m:=H.w5) (by kernel_rfl) (zA fun _ _ _ _ _ _ _ _=>rfl),jb:=284,jc:=_,lJ:=oU X G (c:=283) (m:=H.w5) (by kernel_rfl) (LL fun _ _ _ _ _ _ _ _ _=>rfl),jY:=289,jZ:=_,nE:=oU X G (c:=288) (m:=H.w5) (by kernel_rfl) (LL fun _ _ _ _ _ _ _ _ _=>rfl),jd:=296,je:=_,lK:=oU X G (c:=295) (m:=H.w5) (by kernel_rfl) (zA fun _ _ _ _ _ _ _ _=>rfl),gk:=301,gm:=_,jz:=oU X G (c:=300) (m:=H.w5) (by kernel_rfl) (AR fun _ _ _ _ _ _ _=>rfl),gn:=306,gp:=_,jA:=oU X G (c:=305) (m:=H.w5) (by kernel_rfl) (zA fun _ _ _ _ _ _ _ _=>rfl),Gu:=311,B1:=_,Lk:=oU X G (c:=310) (m:=H.w5) (by kernel_rfl) (AR fun _ _ _ _ _ _ _=>rfl),B3:=mg_none_of X G (by kernel_rfl),AA:=mg_none_of X G (by kernel_rfl),j0:=mg_none_of X G (by kernel_rfl),Gv:=mg_none_of X G (by kernel_rfl),cy:=mg_none_of X G (by kernel_rfl),j3:=mg_none_of X G (by kernel_rfl),gq:=mg_none_of X G (by kernel_rfl),Ll:=mg_none_of X G (by kernel_rfl),gu:=mg_none_of X G (by kernel_rfl),gO:=mg_none_of X G (by kernel_rfl),ze:=mg_none_of X G (by kernel_rfl),zf:=mg_none_of X G (by kernel_rfl),xH:=mg_none_of X G (by kernel_rfl),qp:=319,qq:=mg_of X G (by kernel_rfl)}
 refine⟨_,fun s v=>(?_:BindsTo s t.B1 ⟨[v],[]⟩ [("_law_script",v)]),fun base _ _=>?_⟩
 ·exact .of_eq rfl
 have uW:= @Dl l.prog w (Kw w) mg base t
 have rG:= @AL l.prog w (Kw w) mg base t
 have dM:= @zx l.prog w (Kw w) mg base t
 have O9:= @JT l.prog w (Kw w) mg base t
 have bO:= @xO l.prog w (Kw w) mg base t
 have om:= @G9 l.prog w (Kw w) mg base t
 have aR:= @kR l.prog w (Kw w) mg base t
 have ko:= @uT l.prog w (Kw w) mg base t
 have Dq:= @AM l.prog w (Kw w) mg base t
 have gP:= @zy l.prog w (Kw w) mg base t
 have jD:= @sE l.prog w (Kw w) mg base t
 have jE:= @sF l.prog w (Kw w) mg base t
 have iQ:= @rE l.prog w (Kw w) mg base t
 have lQ:= @vD l.prog w (Kw w) mg base t
 have jF:= @sG l.prog w (Kw w) mg base t
 have jG:= @sH l.prog w (Kw w) mg base t
 have uO:= @Dm l.prog w (Kw w) mg base t bO om
 have my:= @lM l.prog w (Kw w) mg base t bO aR
 have qw:= @Dn l.prog w (Kw w) mg base t dM aR
 have xP:= @Ha l.prog w (Kw w) mg base t bO
 have Hb:= @O7 l.prog w (Kw w) mg base t dM
 have kq:= @uU l.prog w (Kw w) mg base t ko
 have lN:= @vE l.prog w (Kw w) mg base t iQ
 have kr:= @uV l.prog w (Kw w) mg base t xP
 have nJ:= @mx l.prog w (Kw w) mg base t kq
 have lP:= @vG l.prog w (Kw w) mg base t gP lN
 have rH:= @AO l.prog w (Kw w) mg base t uW qw kr
 have nH:= @xQ l.prog w (Kw w) mg base t gP lP
 have iS:= @rF l.prog w (Kw w) mg base t rG Hb rH
 have TC:Hq (Kw w) mg 186:=⟨⟨ypg,yhd,ypo,ysa⟩,yn0,yn1,yn2,yn3,yn4,yn5,yn6,yn7,yn8,yn9,mg_of X G yC,t.xH,t.gq,t.j3⟩
 have⟨Zo,SY⟩:=LM (Kw w) (C:=186) (x:="__init__") (q:="Comb.__init__") (st:=AE) (f:=136) (c:=135) (m:=H.w3) (by kernel_rfl)
 have YB0:=Zo.binds (ps:=["self","n"]) (zA fun _ _ _ _ _ _ _ _=>rfl)
 have⟨Zp,Xw⟩:=LM (Kw w) (C:=186) (x:="number_of") (q:="Comb.number_of") (st:=Gw) (f:=143) (c:=142) (m:=H.w3) (by kernel_rfl)
 have T8:=Zp.binds (ps:=["self","row"]) (zA fun _ _ _ _ _ _ _ _=>rfl)
 have T9:=Xw
 have⟨Zq,Xx⟩:=LM (Kw w) (C:=186) (x:="without_first") (q:="Comb.without_first") (st:=Gy) (f:=150) (c:=149) (m:=H.w3) (by kernel_rfl)
 have YB2:=Zq.binds (ps:=["self","number","k"]) (LL fun _ _ _ _ _ _ _ _ _=>rfl)
 have YM2:=Xx
 have⟨Zr,Xy⟩:=LM (Kw w) (C:=186) (x:="with_last") (q:="Comb.with_last") (st:=GA) (f:=157) (c:=156) (m:=H.w3) (by kernel_rfl)
 have YB3:=Zr.binds (ps:=["self","number","k"]) (LL fun _ _ _ _ _ _ _ _ _=>rfl)
 have YM3:=Xy
 have⟨Zs,Xz⟩:=LM (Kw w) (C:=186) (x:="slide") (q:="Comb.slide") (st:=GB) (f:=164) (c:=163) (m:=H.w3) (by kernel_rfl)
 have YB4:=Zs.binds (ps:=["self","one","other"]) (LL fun _ _ _ _ _ _ _ _ _=>rfl)
 have YM4:=Xz
 have⟨Zt,XA⟩:=LM (Kw w) (C:=186) (x:="slide_kept") (q:="Comb.slide_kept") (st:=GC) (f:=171) (c:=170) (m:=H.w3) (by kernel_rfl)
 have YB5:=Zt.binds (ps:=["self","one","other"]) (LL fun _ _ _ _ _ _ _ _ _=>rfl)
 have YM5:=XA
 have⟨Zu,XC⟩:=LM (Kw w) (C:=186) (x:="put") (q:="Comb.put") (st:=GD) (f:=178) (c:=177) (m:=H.w3) (by kernel_rfl)
 have YB6:=Zu.binds (ps:=["self","row"]) (zA fun _ _ _ _ _ _ _ _=>rfl)
 have YM6:=XC
 have⟨Zv,XD⟩:=LM (Kw w) (C:=186) (x:="form_told") (q:="Comb.form_told") (st:=B5) (f:=183) (c:=182) (m:=H.w3) (by kernel_rfl)
 have YB7:=Zv.binds (ps:=["self"]) (AR fun _ _ _ _ _ _ _=>rfl)
 have YM7:=XD
 have Ua:=OB (P:=l.prog) (w:=w) (base:=base) Zp TC t uO om Dq JE
 have YG2:=RW (P:=l.prog) (w:=w) (base:=base) Zq TC t T9 T8 Ua my
 have YG3:=RY (P:=l.prog) (w:=w) (base:=base) Zr TC t T9 T8 Ua aR
 have YG4:=RZ (P:=l.prog) (w:=w) (base:=base) Zs TC YM2 YB2 YG2 YM3 YB3 YG3
 have YG5:=R6 (P:=l.prog) (w:=w) (base:=base) Zt TC t YM4 YB4 YG4
 have YG6:=Sd (P:=l.prog) (w:=w) (base:=base) Zu TC T9 T8 Ua YM5 YB5 YG5
 have YG7:=Sh (P:=l.prog) (w:=w) (base:=base) Zv TC
 have YG0:=Sn (P:=l.prog) (w:=w) (base:=base) Zo TC t T9 T8 Ua dM O9 (fun n hn=>j5 n hn) (fun n hn=>JG n hn) JF lY
 have iR:=OV (P:=l.prog) (w:=w) (base:=base) TC ⟨_,_,_,_,_,_,⟨ymk,SY.1,SY.2,ykc⟩,YB0,YG0,YM6,YB6,YG6,YM7,YB7,YG7⟩ t nJ
 have AQ:= @JU l.prog w (Kw w) mg base t iR iS
 have S2:= @O8 l.prog w (Kw w) mg base t AQ jD jE nH lQ jF jG
 exact S2
theorem walk{l:PySem.W.OpenLaw}{q:Program}{loose:List Str}{XP:(Str->Option Value)->Heap->Prop}{YP:World->Heap->Prop}{d:DefRec}{K:Params->PySem.W.Frag}(hn:l.most=some 63)(Qz:d.params.defaults=[])
  (hY:∀(w:World)(h:Heap),YP w h->(K w.params).In h)
  (F:∀(w:World)(mg:Str->Option Value)(fa:Addr)(h:Heap),(K w.params).In h->h.Ns mainGlobals mg->mg d.name=some (.ref fa)->
   ∃fd:FuncData,(∀(s:Shared)(u:Value),BindsTo s fd ⟨[u],[]⟩ [("_law_script",u)])/\∀base:Heap,(K w.params).In base->base.Ns mainGlobals mg->bQ l.prog w (K w.params) mg base jL 11 fa fd ["_law_script"] (Bc (K w.params) Dy uG)):
  PySem.W.WalkO q loose XP YP l.row.toRowW d [] (fun f vs=>PySem.call f vs):=
 L2.HZ (n:=63) (k:=11) (x:="_law_script") (CX:=fun _=>jL) (sp:=fun w=>Bc (K w.params) Dy uG) hn (by decide) Qz ⟨rfl,by decide,by decide⟩ hY F (fun w H a ns hl _ hS=>O6 ns hl hS) fun _ _ _ _ _ z=>z
end DL.nq
open PySem PySem.W PyProof.Rows
set_option maxRecDepth 100000 in
set_option maxHeartbeats 0 in
theorem PySem.Challenge.cw_braidcomb_k31_forms_are_sound_holds : PySem.Challenge.rw_braidcomb_k31_forms_are_sound.Holds := by
 w_on
 refine holds_law (l:=PySem.Challenge.rw_braidcomb_k31_forms_are_sound) (by kernel_rfl) fun said=>?_
 refine holds_open (q:=DL.nq.H.q) (Xt:=DL.nq.H.Xt) (XP:=XL DL.nq.H.q []) (Yf:=DL.nq.H.hk.obs) (Ya:=DL.nq.H.hk.val) (YP:=DL.nq.H.hk.says) DL.nq.H.left DL.nq.H.hk.of DL.nq.H.hk.keeps (fun s e=>xl_of s (Bool.and_eq_true_iff.mp e).1) XL.keeps (by rfl) (by rfl) (by rfl) (fun s e=>recFacts_of (Bool.and_eq_true_iff.mp e).2) (by rfl) said (by decide +kernel) ⟨rfl,rfl,rfl,rfl,rfl,by decide +kernel⟩ ?hw ?hc
 case hw=>w_witness2
 refine DL.nq.walk (l:=PySem.Challenge.rw_braidcomb_k31_forms_are_sound) rfl rfl (fun w h Y=>kIn_of Y) ?F
 case F=>
  intro w mg fa h KX G hmg
  have hh:=DL.nq.all_mk (l:=PySem.Challenge.rw_braidcomb_k31_forms_are_sound) ((DL.nq.LK w).symm▸KX) G hmg
  rw[DL.nq.LK w]at hh
  exact hh
